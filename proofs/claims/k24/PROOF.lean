import PyProof.Rows.All
import Wide.All
import OpenK.AllK
import Wide.FinOn
import Lean
import PyProof.EqAt
import PyProof.EqKinds
import PyProof.TupleCall
import PyProof.StationsW
import PyProof.DictWalks
import PyProof.DictItemsLoops
import KE.KPairComp
import KE.KDictList
import PyProof.StrWalks
import PyProof.ConsumeWalk
import PyProof.DictUpdate
import PyProof.ExcClass2
import PyProof.ExcClass3
import PyProof.ExcArgsOwn
import PyProof.ExcAttrAll.ValueError
import PyProof.InstStoreFacts
import PyProof.StrLawsRepr
import PyProof.ReprStr
import PyProof.NsDelKeeps
import PyProof.RulesAs
import KE.KIsAll
import PySem.Challenge.RW_twinrounds_k24_whole_read_and_shown
set_option Elab.async false
set_option linter.all false
set_option maxRecDepth 100000
set_option maxHeartbeats 4000000
section
open PySem PySem.W PyProof.Rows
def L2.viewAt (p : Program) (ks : List Nat) : Program := { p with main := { p.main with body := ks.filterMap fun i => p.main.body[i]? } }
def K24.vw : Program := L2.viewAt PySem.Challenge.pw_twinrounds_k24_whole_read_and_shown [1, 2, 4, 5, 6, 7, 8, 10, 11, 12, 13, 14, 15, 16, 17, 18, 19, 21, 22, 23, 24]
set_option maxRecDepth 100000 in
set_option maxHeartbeats 0 in
theorem K24.look1 : ∀ w : World, (openEnds treeTable (PySem.Challenge.rw_twinrounds_k24_whole_read_and_shown.row).prog w 6000).map (fun s => openSeen K24.vw [] (importedModules (PySem.Challenge.rw_twinrounds_k24_whole_read_and_shown.row).prog.main.body) (fun s => xlAt K24.vw [] s && recOk (PySem.Challenge.rw_twinrounds_k24_whole_read_and_shown.row).records s) true s) = some (openGood K24.vw []) := by
 intro w; kernel_rfl
section
local macro_rules | `(tactic| o_head $H) => `(tactic| exact ‹∀ P : Prop, P› _)
set_option maxRecDepth 100000 in
set_option maxHeartbeats 0 in
theorem K24.side (hole : ∀ P : Prop, P) : (PySem.Challenge.rw_twinrounds_k24_whole_read_and_shown.row).Holds := by
 k_head
end
def K24.as : List Addr := [2, 3, 15, 22, 23, 24, 25, 28, 35, 37, 38, 40, 41, 42, 43, 44, 47, 48, 51, 52, 53, 54, 56, 57, 59, 60, 68, 70, 71, 73, 74, 75, 77, 78, 80, 81, 82, 84, 85, 87, 88, 89, 91, 92, 94, 95, 96, 98, 99, 101, 102, 103, 105, 106, 108, 109, 110, 111, 112, 113, 114, 117, 119, 120, 122, 123, 124, 126, 127, 129, 130, 131, 133, 134, 136, 137, 138, 140, 141, 143, 144, 145, 147, 148, 150, 151, 152, 154, 155, 157, 158, 159, 161, 162, 164, 165, 166, 169, 170, 171, 173, 174, 176, 177, 178, 180, 181, 183, 184]
set_option maxRecDepth 100000 in
set_option maxHeartbeats 0 in
theorem K24.as_ok : ∀ P, K24.as = (K24.side.heap_1 P).map (·.1) := fun _ => by kernel_rfl
noncomputable def K24.hook : Hook := kHook K24.side.heap_1 K24.as K24.as_ok
set_option maxRecDepth 100000 in
set_option maxHeartbeats 0 in
theorem K24.look2 : ∀ w : World, (openEnds treeTable (PySem.Challenge.rw_twinrounds_k24_whole_read_and_shown.row).prog w 6000).map K24.hook.obs = some (K24.hook.val w) := by
 intro w; kernel_rfl
end
namespace L2
open PySem PySem.Spec PyProof.Rows
abbrev Key := Sum Int Str
def KY : Key → Value → Bool
 | .inl k, v => Value.isInt k v
 | .inr x, v => Value.isStrOf x v
def keyH (w : World) : Key → Int
 | .inl k => hashInt k
 | .inr x => hashStr w x
theorem Ck : ∀ {k : Key} {v : Value}, KY k v = true → (∃ i t, k = Sum.inl i ∧ v = Value.int i t) ∨ (∃ x t, k = Sum.inr x ∧ v = Value.str x t)
 | .inl i, v, h => by
  obtain ⟨t, e⟩ := Value.isInt_shape (k := i) (v := v) h
  exact .inl ⟨i, t, rfl, e⟩
 | .inr x, v, h => by
  obtain ⟨t, e⟩ := Value.isStrOf_shape (x := x) (v := v) h
  exact .inr ⟨x, t, rfl, e⟩
theorem QR (i : Int) (t : Tok) : KY (.inl i) (.int i t) = true := by simp [KY, Value.isInt]
theorem QS (x : Str) (t : Tok) : KY (.inr x) (.str x t) = true := by simp [KY, Value.isStrOf]
theorem Xm (a b : Int) : decide ((Sum.inl a : Key) = Sum.inl b) = (a == b) := by
 by_cases e : a = b
 ·subst e; simp
 ·have h : ¬ (Sum.inl a : Key) = Sum.inl b := fun q => e (Sum.inl.inj q)
  rw [decide_eq_false h]
  exact (beq_eq_false_iff_ne.mpr e).symm
theorem Xn (a b : Str) : decide ((Sum.inr a : Key) = Sum.inr b) = decide (a = b) := by
 by_cases e : a = b
 ·subst e; simp
 ·have h : ¬ (Sum.inr a : Key) = Sum.inr b := fun q => e (Sum.inr.inj q)
  rw [decide_eq_false h, decide_eq_false e]
theorem Xo (a : Int) (b : Str) : decide ((Sum.inl a : Key) = Sum.inr b) = false := decide_eq_false (fun q => nomatch q)
theorem Xp (a : Str) (b : Int) : decide ((Sum.inr a : Key) = Sum.inl b) = false := decide_eq_false (fun q => nomatch q)
def DG (prog : Program) (w : World) : PySem.KeyKind prog w Key where
 is := KY
 hash := keyH w
 inj := fun v a b ha hb => by
  rcases Ck ha with ⟨i, t, rfl, rfl⟩ | ⟨x, t, rfl, rfl⟩
  ·rcases Ck hb with ⟨j, u, rfl, e⟩ | ⟨y, u, rfl, e⟩
   ·injection e with e1 _; rw [e1]
   ·exact nomatch e
  ·rcases Ck hb with ⟨j, u, rfl, e⟩ | ⟨y, u, rfl, e⟩
   ·exact nomatch e
   ·injection e with e1 _; rw [e1]
 byValue := fun k v h => by
  rcases Ck h with ⟨i, t, rfl, rfl⟩ | ⟨x, t, rfl, rfl⟩ <;> rfl
 pyHash := fun hv h => by
  rcases Ck hv with ⟨i, t, rfl, rfl⟩ | ⟨x, t, rfl, rfl⟩
  ·exact wpAny_pyHash_int h
  ·exact wpAny_pyHash_str h
 eqBool := fun hu hv h => by
  rcases Ck hu with ⟨i, t, rfl, rfl⟩ | ⟨x, t, rfl, rfl⟩
  ·rcases Ck hv with ⟨j, u, rfl, rfl⟩ | ⟨y, u, rfl, rfl⟩
   ·rw [Xm] at h; exact wpAny_eqBool_int h
   ·rw [Xo] at h; exact SeqAt.EqAt.int_str i t y u _ _ _ _ h
  ·rcases Ck hv with ⟨j, u, rfl, rfl⟩ | ⟨y, u, rfl, rfl⟩
   ·rw [Xp] at h; exact SeqAt.EqAt.str_int x t j u _ _ _ _ h
   ·rw [Xn] at h; exact wpAny_eqBool_str h
 «strs» := fun k x t v h => by
  rcases Ck h with ⟨i, u, rfl, e⟩ | ⟨y, u, rfl, e⟩
  ·exact nomatch e
  ·injection e with e1 _
   subst e1
   cases v <;> rfl
theorem MK (prog : Program) (w : World) (i : Int) (t : Tok) : (DG prog w).is (.inl i) (.int i t) = true := QR i t
theorem MN (prog : Program) (w : World) (x : Str) (t : Tok) : (DG prog w).is (.inr x) (.str x t) = true := QS x t
end L2
namespace L2
open PySem PySem.Spec PyProof.Rows
inductive V where
 | non | bl (b : Bool) | int (i : Int) | str (x : Str) | byt (b : Array UInt8) | flt (b : UInt64) | ref (a : Addr) | ty (n : String)
 deriving DecidableEq
def RelV : V → Value → Prop
 | .non, u => u = Value.none
 | .bl b, u => u = Value.bool b
 | .int i, u => ∃ t, u = Value.int i t
 | .str x, u => ∃ t, u = Value.str x t
 | .byt b, u => ∃ t, u = Value.bytes b t
 | .flt b, u => ∃ t, u = Value.float b t
 | .ref a, u => u = Value.ref a
 | .ty n, u => u = Value.type n
abbrev Vals : List V → List Value → Prop := Paired RelV
theorem Vals.length {xs : List V} {us : List Value} (r : Vals xs us) : xs.length = us.length := Paired.length r
theorem Vals.get : ∀ {xs : List V} {us : List Value} {i : Nat} {x : V}, Vals xs us → xs[i]? = some x → ∃ u, us[i]? = some u ∧ RelV x u
 | _, _, _, _, .nil, e => by simp at e
 | _, _, 0, _, .cons r _, e => by simp at e; subst e; exact ⟨_, rfl, r⟩
 | _, _, i + 1, x, .cons _ t, e => by
  obtain ⟨u, h1, h2⟩ := Vals.get (i := i) (x := x) t (by simpa using e)
  exact ⟨u, by simpa using h1, h2⟩
theorem Vals.set {x : V} {u : Value} (r : RelV x u) : ∀ {xs : List V} {us : List Value} (i : Nat), Vals xs us → Vals (xs.set i x) (us.set i u)
 | _, _, _, .nil => .nil
 | _, _, 0, .cons _ t => .cons r t
 | _, _, i + 1, .cons q t => .cons q (Vals.set r i t)
theorem Vals.append : ∀ {xs ys : List V} {us ws : List Value}, Vals xs us → Vals ys ws → Vals (xs ++ ys) (us ++ ws)
 | _, _, _, _, .nil, s => s
 | _, _, _, _, .cons r t, s => .cons r (Vals.append t s)
theorem Vals.take : ∀ {xs : List V} {us : List Value} (n : Nat), Vals xs us → Vals (xs.take n) (us.take n)
 | _, _, 0, _ => .nil
 | _, _, _ + 1, .nil => .nil
 | _, _, n + 1, .cons r t => .cons r (Vals.take n t)
theorem Vals.drop : ∀ {xs : List V} {us : List Value} (n : Nat), Vals xs us → Vals (xs.drop n) (us.drop n)
 | _, _, 0, r => r
 | _, _, _ + 1, .nil => .nil
 | _, _, n + 1, .cons _ t => Vals.drop n t
theorem Vals.none_of : ∀ {xs : List V} {us : List Value} {i : Nat}, Vals xs us → xs[i]? = none → us[i]? = none := fun {xs us i} r e => by
 have h1 := r.length
 have h2 : xs.length ≤ i := List.getElem?_eq_none_iff.mp e
 exact List.getElem?_eq_none_iff.mpr (by omega)
def RelO : Option V → Option Value → Prop
 | some v, some u => RelV v u
 | none, none => True
 | _, _ => False
def KV {κ : Type} : List (κ × V) → List (κ × Value) → Prop := Paired fun (p : κ × V) (q : κ × Value) => p.1 = q.1 ∧ RelV p.2 q.2
def kV : Key → V
 | .inl i => .int i
 | .inr x => .str x
inductive HO where
 | lst (xs : List V)
 | tup (xs : List V)
 | dK (kvs : List (Key × V)) | dT (kvs : List (List Key × V))
 | set (S : Int → Bool) (n : Nat)
 | ins (C dx : Addr) (fs : List (Str × V))
 | own (x : Addr)
 | xd (fs : List (Str × V))
 | met (f x : Addr)
 | rng (lo hi : Int)
 | frz (o : Obj) (u : HO)
 | tbl (ps : Array Value)
 | ext (φ : Heap → Prop)
abbrev Hp := Addr → Option HO
def upd (H : Hp) (a : Addr) (o : HO) : Hp := fun b => if b = a then some o else H b
theorem B_ {H : Hp} {a : Addr} {o : HO} : upd H a o a = some o := by unfold upd; rw [if_pos rfl]
theorem BP {H : Hp} {a b : Addr} {o : HO} (h : b ≠ a) : upd H a o b = H b := by unfold upd; rw [if_neg h]
theorem ZM {H : Hp} {a b : Addr} {o u : HO} (h : H a = some o) (h' : H b = some u) (d : o ≠ u) : a ≠ b := by
 intro e; subst e; rw [h] at h'; exact d (Option.some.inj h')
theorem Bu {H : Hp} {a b : Addr} {o : HO} (h : H a = some o) (h' : H b = none) : a ≠ b := by
 intro e; subst e; rw [h] at h'; cases h'
section
variable (P : Program) (w : World)
def Cr (H : Hp) (h : Heap) (a : Addr) : HO → Prop
  | .lst xs => xs.length ≤ sizeLine ∧ ∃ (its : List Value) (n : Nat), Vals xs its ∧ h.get? a = some { cls := .type "list", data := .seq its.toArray n }
  | .tup xs => xs.length ≤ sizeLine ∧ ∃ its : List Value, Vals xs its ∧ IsTup h a its.toArray
  | .dK kvs => kvs.length ≤ sizeLine ∧ (a == sysModules) = false ∧ ∃ vs, KV kvs vs ∧ h.DictOf (DG P w) a vs
  | .dT kvs => kvs.length ≤ sizeLine ∧ (a == sysModules) = false ∧ ∃ xs : List (List Key × Addr × Value),
      Paired (fun (p : List Key × V) (q : List Key × Addr × Value) => p.1 = q.1 ∧ H q.2.1 = some (.tup (p.1.map kV)) ∧ RelV p.2 q.2.2) kvs xs ∧
      ∃ o es ep, h.get? a = some o ∧ o.ExactDict ∧ o.data = .dict es ep ∧ es.toList = xs.map (entryOfKey (tupleKind (DG P w))) ∧ (xs.map (·.1)).Nodup
  | .set S n => h.SetOf (intKind P w) a S n
  | .ins C dx fs => H dx = some (.own a) ∧ fs.length ≤ 1000 ∧ dx ≠ a ∧ h.get? a = some (PySem.W.instObj C dx) ∧
      ∃ mA, h.Ns1 dx mA ∧ (∀ f, RelO (fs.lookup f) (mA f)) ∧ PySem.Within mA (fs.map (·.1))
  | .own _ => ∃ o, h.get? a = some o
  | .xd fs => ∃ mA, h.Ns1 a mA ∧ ∀ f, RelO (fs.lookup f) (mA f)
  | .rng lo hi => ∃ t u v, h.get? a = some { cls := .type "range", data := .fields #[.int lo t, .int hi u, .int 1 v] }
  | .frz o u => h.get? a = some o ∧ Cr H h a u
  | .tbl ps => h.get? a = some { cls := .none, data := .fields ps }
  | .met f x => h.get? a = some (PySem.W.methodObj (.ref f) (.ref x))
  | .ext φ => φ h ∧ (∃ o, h.get? a = some o) ∧ ∀ h1 h2 : Heap, φ h1 → (∀ o, h1.get? a = some o → h2.get? a = some o) → φ h2
def HOk (H : Hp) (h : Heap) : Prop := ∀ a o, H a = some o → Cr P w H h a o
end
section
variable {P : Program} {w : World} {H H' : Hp} {h h' : Heap} {a : Addr} {o : HO}
theorem Cr.lt (x : Cr P w H h a o) : a < h.objs.size := by
 cases o with
 | lst xs => obtain ⟨_, _, _, _, e⟩ := x; exact Heap.lt_size e
 | tup xs => obtain ⟨_, _, _, p⟩ := x; exact p.lt
 | dK kvs => obtain ⟨_, _, _, _, o, _, _, e, _⟩ := x; exact Heap.lt_size e
 | dT kvs => obtain ⟨_, _, _, _, o, _, _, e, _⟩ := x; exact Heap.lt_size e
 | set S n => obtain ⟨o, _, _, _, e, _⟩ := x; exact Heap.lt_size e
 | ins C dx fs => obtain ⟨_, _, _, e, _⟩ := x; exact Heap.lt_size e
 | own y => obtain ⟨_, e⟩ := x; exact Heap.lt_size e
 | xd fs => obtain ⟨_, ⟨_, _, _, e, _⟩, _⟩ := x; exact Heap.lt_size e
 | rng lo hi => obtain ⟨_, _, _, e⟩ := x; exact Heap.lt_size e
 | frz ob u => obtain ⟨e, _⟩ := x; exact Heap.lt_size e
 | tbl ps => exact Heap.lt_size (show h.get? a = some _ from x)
 | met f y => exact Heap.lt_size (show h.get? a = some _ from x)
 | ext φ => obtain ⟨_, ⟨_, e⟩, _⟩ := x; exact Heap.lt_size e
theorem Paired.mapP {α β : Type} {F G : α → β → Prop} : ∀ {l₁ : List α} {l₂ : List β}, Paired F l₁ l₂ → (∀ a b, F a b → G a b) → Paired G l₁ l₂
 | _, _, .nil, _ => .nil
 | _, _, .cons r t, f => .cons (f _ _ r) (Paired.mapP t f)
theorem Cr.stay (x : Cr P w H h a o) (k : ∀ b u, (b = a ∨ H b = some (.own a)) → h.get? b = some u → h'.get? b = some u)
  (ho : ∀ b, H b = some (.own a) → H' b = some (.own a)) (ht : ∀ b xs, H b = some (.tup xs) → H' b = some (.tup xs)) : Cr P w H' h' a o := by
 induction o with
 | lst xs => obtain ⟨z, its, n, r, e⟩ := x; exact ⟨z, its, n, r, k _ _ (.inl rfl) e⟩
 | tup xs => obtain ⟨z, its, r, ob, e, c⟩ := x; exact ⟨z, its, r, ob, k _ _ (.inl rfl) e, c⟩
 | dK kvs => obtain ⟨z, y, vs, r, ob, es, ep, e, c⟩ := x; exact ⟨z, y, vs, r, ob, es, ep, k _ _ (.inl rfl) e, c⟩
 | dT kvs =>
  obtain ⟨z, y, xs, r, ob, es, ep, e, c⟩ := x
  exact ⟨z, y, xs, Paired.mapP r fun p q z => ⟨z.1, ht _ _ z.2.1, z.2.2⟩, ob, es, ep, k _ _ (.inl rfl) e, c⟩
 | set S n => obtain ⟨ob, es, ep, t, e, c⟩ := x; exact ⟨ob, es, ep, t, k _ _ (.inl rfl) e, c⟩
 | ins C dx fs =>
  obtain ⟨d, z, ne, e, mA, ⟨od, es, ep, e2, c⟩, r⟩ := x
  exact ⟨ho _ d, z, ne, k _ _ (.inl rfl) e, mA, ⟨od, es, ep, k _ _ (.inr d) e2, c⟩, r⟩
 | own y => obtain ⟨ob, e⟩ := x; exact ⟨ob, k _ _ (.inl rfl) e⟩
 | xd fs => obtain ⟨mA, ⟨od, es, ep, e, c⟩, r⟩ := x; exact ⟨mA, ⟨od, es, ep, k _ _ (.inl rfl) e, c⟩, r⟩
 | rng lo hi => obtain ⟨t, u, v, e⟩ := x; exact ⟨t, u, v, k _ _ (.inl rfl) e⟩
 | frz ob u ih => obtain ⟨e, q⟩ := x; exact ⟨k _ _ (.inl rfl) e, ih q⟩
 | tbl ps =>
  have e : h.get? a = some { cls := .none, data := .fields ps } := x
  show h'.get? a = some { cls := .none, data := .fields ps }
  exact k a _ (.inl rfl) e
 | met f y =>
  have e : h.get? a = some (PySem.W.methodObj (.ref f) (.ref y)) := x
  show h'.get? a = some (PySem.W.methodObj (.ref f) (.ref y))
  exact k a _ (.inl rfl) e
 | ext φ => obtain ⟨p, ⟨o, e⟩, st⟩ := x; exact ⟨st _ _ p fun o q => k _ _ (.inl rfl) q, ⟨o, k _ _ (.inl rfl) e⟩, st⟩
theorem HOk.lt (x : HOk P w H h) (e : H a = some o) : a < h.objs.size := (x a o e).lt
theorem HOk.fresh (x : HOk P w H h) (e : h.objs.size ≤ a) : H a = none := by
 cases q : H a with
 | none => rfl
 | some u => exact absurd (Nat.lt_of_lt_of_le (x.lt q) e) (Nat.lt_irrefl _)
theorem HOk.kept (x : HOk P w H h) (k : ∀ b u, h.get? b = some u → h'.get? b = some u) : HOk P w H h' := fun a o e =>
 (x a o e).stay (fun b u _ q => k b u q) (fun _ q => q) fun _ _ q => q
theorem HOk.laid (x : HOk P w H h) (k : ∀ b u, h.get? b = some u → h'.get? b = some u) (hp : h.objs.size ≤ a) (new : Cr P w (upd H a o) h' a o) : HOk P w (upd H a o) h' := fun b u e => by
 have hn := x.fresh hp
 by_cases hb : b = a
 ·subst hb; rw [B_] at e; cases e; exact new
 ·rw [BP hb] at e
  exact (x b u e).stay (fun c v _ q => k c v q) (fun c q => by rw [BP (Bu q hn)]; exact q) fun c xs q => by rw [BP (Bu q hn)]; exact q
end
def Rd (H : Hp) (a : Addr) (u : HO) : Prop := H a = some u ∨ ∃ o, H a = some (.frz o u)
theorem Rd.of {H : Hp} {a : Addr} {u : HO} (h : H a = some u) : Rd H a u := .inl h
theorem Rd.ok {P : Program} {w : World} {H : Hp} {h : Heap} {a : Addr} {u : HO} (r : Rd H a u) (x : HOk P w H h) : Cr P w H h a u := by
 rcases r with r | ⟨o, r⟩
 ·exact x a u r
 ·obtain ⟨_, q⟩ := x a _ r
  exact q
def Mut : Option HO → Prop
 | some (.lst _) => True
 | some (.dK _) => True
 | some (.dT _) => True
 | some (.set _ _) => True
 | some (.ins _ _ _) => True
 | some (.ext _) => True
 | _ => False
section
variable {P : Program} {w : World} {H : Hp} {h h' : Heap} {x e : Addr} {o' : HO}
theorem HOk.write (ok : HOk P w H h) (mu : Mut (H x)) (he : e = x ∨ H e = some (.own x)) (k : ∀ b u, b ≠ e → h.get? b = some u → h'.get? b = some u) (heo : ∃ u, h'.get? e = some u)
  (new : Cr P w (upd H x o') h' x o') : HOk P w (upd H x o') h' := fun b u q => by
 have nown : ∀ c y, H c = some (.own y) → c ≠ x := fun c y r z => by subst z; rw [r] at mu; exact mu
 have ntup : ∀ c xs, H c = some (.tup xs) → c ≠ x := fun c xs r z => by subst z; rw [r] at mu; exact mu
 by_cases hb : b = x
 ·subst hb; rw [B_] at q; cases q; exact new
 ·rw [BP hb] at q
  by_cases hbe : b = e
  ·have q' : H b = some (.own x) := by
    rcases he with z | z
    ·exact absurd (hbe.trans z) hb
    ·rw [hbe]; exact z
   rw [q] at q'; cases q'
   obtain ⟨v, hv⟩ := heo
   exact ⟨v, by rw [hbe]; exact hv⟩
  ·refine (ok b u q).stay (fun c v hc r => k c v ?_ r) (fun c r => by rw [BP (nown c b r)]; exact r) fun c xs r => by rw [BP (ntup c xs r)]; exact r
   rcases hc with rfl | hc
   ·exact hbe
   ·rintro rfl
    rcases he with z | z
    ·exact nown c b hc z
    ·rw [hc] at z; cases z; exact hb rfl
end
structure Un (fs ex : List Addr) (H H' : Hp) (h h' : Heap) : Prop where
 keep : ∀ b o, h.get? b = some o → H b = none → b ∉ fs → b ∉ ex → h'.get? b = some o
 slot : ∀ b o, h.get? b = some o → H b = none → b ∈ fs → b ∉ ex → ∃ sl, h'.get? b = some { o with slots := sl }
 free : ∀ b o, h.get? b = some o → H b = none → b ∉ ex → H' b = none
 there : ∀ b o, h.get? b = some o → b ∉ ex → ∃ o', h'.get? b = some o'
 tups : ∀ b xs, H b = some (.tup xs) → H' b = some (.tup xs)
 frzs : ∀ b o u, H b = some (.frz o u) → H' b = some (.frz o u)
 tbls : ∀ b ps, H b = some (.tbl ps) → ∃ more, H' b = some (.tbl (ps ++ more))
section
variable {fs fs' ex ex' : List Addr} {H H1 H2 : Hp} {h h1 h2 h' : Heap} {a x e : Addr} {o : HO}
theorem Un.any (u : Un fs ex H H1 h h1) {b : Addr} {ob : Obj} (q : h.get? b = some ob) (n : H b = none) (hx : b ∉ ex) : ∃ sl, h1.get? b = some { ob with slots := sl } := by
 by_cases hb : b ∈ fs
 ·exact u.slot b ob q n hb hx
 ·exact ⟨ob.slots, u.keep b ob q n hb hx⟩
theorem Un.trans (a : Un fs ex H H1 h h1) (b : Un fs ex H1 H2 h1 h2) : Un fs ex H H2 h h2 where
 keep := fun c ob q n hc hx => b.keep c ob (a.keep c ob q n hc hx) (a.free c ob q n hx) hc hx
 slot := fun c ob q n hc hx => by
  obtain ⟨sl, e1⟩ := a.slot c ob q n hc hx
  obtain ⟨sl', e2⟩ := b.slot c _ e1 (a.free c ob q n hx) hc hx
  exact ⟨sl', e2⟩
 free := fun c ob q n hx => by
  obtain ⟨o', e1⟩ := a.there c ob q hx
  exact b.free c o' e1 (a.free c ob q n hx) hx
 there := fun c ob q hx => by
  obtain ⟨o', e1⟩ := a.there c ob q hx
  exact b.there c o' e1 hx
 tups := fun c xs q => b.tups c xs (a.tups c xs q)
 frzs := fun c ob xs q => b.frzs c ob xs (a.frzs c ob xs q)
 tbls := fun c ps q => by
  obtain ⟨m1, e1⟩ := a.tbls c ps q
  obtain ⟨m2, e2⟩ := b.tbls c _ e1
  exact ⟨m1 ++ m2, by rw [e2, Array.append_assoc]⟩
theorem Un.kept (k : ∀ b u, h.get? b = some u → h'.get? b = some u) : Un fs ex H H h h' :=
 ⟨fun b ob q _ _ _ => k b ob q, fun b ob q _ _ _ => ⟨ob.slots, k b ob q⟩, fun _ _ _ n _ => n, fun b ob q _ => ⟨ob, k b ob q⟩, fun _ _ q => q, fun _ _ _ q => q, fun _ ps q => ⟨#[], by rw [q]; simp⟩⟩
theorem Un.refl : Un fs ex H H h h := Un.kept fun _ _ q => q
theorem Un.laid (k : ∀ b u, h.get? b = some u → h'.get? b = some u) (hp : h.objs.size ≤ a) (hn : H a = none) : Un fs ex H (upd H a o) h h' where
 keep := fun b u q _ _ _ => k b u q
 slot := fun b u q _ _ _ => ⟨u.slots, k b u q⟩
 free := fun b u q n _ => by rw [BP (Nat.ne_of_lt (Nat.lt_of_lt_of_le (Heap.lt_size q) hp))]; exact n
 there := fun b u q _ => ⟨u, k b u q⟩
 tups := fun b xs q => by rw [BP (Bu q hn)]; exact q
 frzs := fun b u xs q => by rw [BP (Bu q hn)]; exact q
 tbls := fun b ps q => ⟨#[], by rw [BP (Bu q hn), q]; simp⟩
theorem Un.write (mu : Mut (H x)) (he : e = x ∨ H e = some (.own x)) (k : ∀ b u, b ≠ e → h.get? b = some u → h'.get? b = some u) (heo : ∃ u, h'.get? e = some u) : Un fs ex H (upd H x o) h h' := by
 have hx : ∀ b, H b = none → b ≠ x := fun b n z => by subst z; rw [n] at mu; exact mu
 have hb : ∀ b, H b = none → b ≠ e := fun b n z => by
  subst z
  rcases he with r | r
  ·exact hx b n r
  ·rw [n] at r; cases r
 have hm : ∀ b u, H b = some u → ¬ Mut (some u) → b ≠ x := fun b u q nm z => by subst z; rw [q] at mu; exact nm mu
 refine ⟨fun b u q n _ _ => k b u (hb b n) q, fun b u q n _ _ => ⟨u.slots, k b u (hb b n) q⟩, fun b u q n _ => by rw [BP (hx b n)]; exact n, fun b u q _ => ?_,
  fun b xs q => by rw [BP (hm b _ q fun z => z)]; exact q, fun b u xs q => by rw [BP (hm b _ q fun z => z)]; exact q, fun b ps q => ⟨#[], by rw [BP (hm b _ q fun z => z), q]; simp⟩⟩
 by_cases hbe : b = e
 ·subst hbe; exact heo
 ·exact ⟨u, k b u hbe q⟩
theorem Un.mono (u : Un fs ex H H1 h h1) (hs : ∀ b ∈ fs, b ∈ fs') (hx : ∀ b ∈ ex, b ∈ ex') : Un fs' ex' H H1 h h1 :=
 ⟨fun b ob q n hb he => u.keep b ob q n (fun z => hb (hs b z)) fun z => he (hx b z), fun _ _ q n _ he => u.any q n fun z => he (hx _ z), fun b ob q n he => u.free b ob q n fun z => he (hx b z), fun b ob q he => u.there b ob q fun z => he (hx b z), u.tups, u.frzs, u.tbls⟩
end
def trk (h : Heap) (H : Hp) : List Addr := (List.range h.objs.size).filter fun a => (H a).isSome
def hidT (h : Heap) (H : Hp) : Heap := PySem.W.hideAll h (trk h H)
theorem QT (h : Heap) (H : Hp) : (hidT h H).objs.size = h.objs.size := PySem.W.hideAll_size _ _
theorem Qw {h : Heap} {H : Hp} {b : Addr} {o : Obj} (e : h.get? b = some o) (n : H b = none) : (hidT h H).get? b = some o :=
 PySem.W.hideAll_get _ e fun hm => by
  have q : (H b).isSome = true := (List.mem_filter.mp hm).2
  rw [n] at q; simp at q
theorem Uq {h : Heap} {H : Hp} {b : Addr} {o : Obj} (e : (hidT h H).get? b = some o) : h.get? b = some o ∧ H b = none := by
 have e' : h.get? b = some o := PySem.W.of_hideAll (trk h H) e
 refine ⟨e', ?_⟩
 cases q : H b with
 | none => rfl
 | some x =>
  have hm : b ∈ trk h H := List.mem_filter.mpr ⟨List.mem_range.mpr (Heap.lt_size e'), by simp [q]⟩
  have z : (hidT h H).get? b = none := PySem.W.hideAll_none (trk h H) hm
  rw [z] at e; cases e
def Ur (g h : Heap) (L : Addr) : List (Addr × Obj) := (List.range h.objs.size).filterMap fun a => if a = L ∨ (g.get? a).isSome = true then none else (h.get? a).map fun o => (a, o)
def rest (g h : Heap) (L d : Addr) : List (Addr × Obj) := (Ur g h L).filter fun p => decide (p.1 ≠ d)
end L2
namespace L2
open PySem PySem.Spec PyProof.Rows
structure Mod (K : PySem.W.Frag) (mg : Str → Option Value) (base : Heap) : Prop where
 kin : K.In base
 glob : base.Ns mainGlobals mg
 blt : ∃ mb, base.Ns builtinsNs mb ∧ ∀ x : Str, x ≠ "__name__" → mb x = bootBuiltins x
 nolimit : base.NoLimit
structure Cx where
 prog : Program
 w : World
 K : PySem.W.Frag
 mg : Str → Option Value
 base : Heap
 A : Around
 N : List Str
 s₀ : Shared
 H₀ : Hp
 env : Env
 outer : List Env
 stack : List Env
 ex : List Addr
 fn : Str → Bool
 calm : Bool
 pn : List (Addr × Obj)
 xe : Value → Shared → Prop
def frs (l : List Env) : List Addr := l.filterMap (·.frame)
abbrev Cx.fs (X : Cx) : List Addr := frs X.outer
def Vis (sc : Scope) (x : Str) : Prop := sc.names.lookup x = some .local ∨ sc.names.lookup x = some .cell ∨ sc.names.lookup x = some .free
def Loc (sc : Scope) (x : Str) : Prop := sc.names.lookup x = some .local ∨ sc.names.lookup x = some .cell
def Look (env : Env) (h : Heap) (m : Str → Option Value) (x : Str) (u : Value) : Prop :=
 (env.kindOf x = some .local ∧ m x = some u) ∨ ((env.kindOf x = some .cell ∨ env.kindOf x = some .free) ∧ ∃ c, env.cells.lookup x = some c ∧ h.IsCell c (some u))
structure Cx.Ok (X : Cx) : Prop where
 mod : Mod X.K X.mg X.base
 kind : X.env.scope.kind = .function
 glob : X.env.globals = mainGlobals
 blt : X.env.builtins = builtinsNs
 above : X.s₀.heap.objs.size ≤ X.env.locals
 inj : ∀ x y c, X.env.cells.lookup x = some c → X.env.cells.lookup y = some c → x = y
 has : ∀ x, (X.env.kindOf x = some .cell ∨ X.env.kindOf x = some .free) → ∃ c, X.env.cells.lookup x = some c
 cab : ∀ x c, X.fn x = true → X.env.cells.lookup x = some c → X.s₀.heap.objs.size ≤ c
 hd : X.calm = true → X.A.handled = none
 frames : X.A.frames = some X.stack
 stk : X.stack = X.outer ∨ (X.stack = X.env :: X.outer ∧ X.env.frame = some X.env.locals)
 exf : ∀ b ∈ X.ex, b ≠ X.env.locals ∧ ∀ x c, X.env.cells.lookup x = some c → c ≠ b
 bs : ∀ b o, X.base.get? b = some o → X.s₀.heap.get? b = some o ∧ X.H₀ b = none
 bsz : X.base.objs.size ≤ X.s₀.heap.objs.size
 noex : ∀ b o, X.base.get? b = some o → b ∉ X.ex
 exfs : ∀ b ∈ X.ex, b ∉ X.fs
 funs : X.s₀.heap.FunFrames X.base X.outer
 frf : ∀ b ∈ X.fs, X.H₀ b = none
structure Inv (X : Cx) (pins : List (Addr × Obj)) (σ : List (Option V)) (H : Hp) (s : Shared) : Prop where
 ok : X.Ok
 os : s.os = X.s₀.os
 bare : AllBare s.gens
 base : Un X.fs X.ex X.H₀ H X.s₀.heap s.heap
 loc : ∃ m, s.heap.Ns X.env.locals m ∧ ∀ (i : Nat) (x : Str) (v : V), X.N[i]? = some x → σ[i]? = some (some v) → Vis X.env.scope x → ∃ u, RelV v u ∧ Look X.env s.heap m x u
 cell : ∀ x c, X.env.cells.lookup x = some c → ∃ v, s.heap.IsCell c v
 free : H X.env.locals = none
 freeC : ∀ x c, X.env.cells.lookup x = some c → H c = none
 pin : ∀ p ∈ X.pn ++ pins, s.heap.get? p.1 = some p.2 ∧ H p.1 = none ∧ p.1 ≠ X.env.locals ∧ p.1 ∉ X.fs ∧ ∀ v, p.2.data ≠ .cell v
 hok : HOk X.prog X.w H s.heap
 len : σ.length = X.N.length
section
variable {X : Cx} {pins : List (Addr × Obj)} {σ : List (Option V)} {H H' : Hp} {s : Shared} {h' : Heap}
theorem Cx.Ok.nofr (ok : X.Ok) {b : Addr} {o : Obj} (e : X.base.get? b = some o) : b ∉ X.fs := fun hb => by
 have := (ok.funs.mem hb).1
 rw [e] at this; cases this
theorem Inv.bs (I : Inv X pins σ H s) : ∀ b o, X.base.get? b = some o → s.heap.get? b = some o ∧ H b = none := fun b o e =>
 ⟨I.base.keep b o (I.ok.bs b o e).1 (I.ok.bs b o e).2 (I.ok.nofr e) (I.ok.noex b o e), I.base.free b o (I.ok.bs b o e).1 (I.ok.bs b o e).2 (I.ok.noex b o e)⟩
theorem Inv.bk (I : Inv X pins σ H s) : ∀ b o, X.base.get? b = some o → s.heap.get? b = some o := fun b o e => (I.bs b o e).1
theorem Inv.mod (I : Inv X pins σ H s) : Mod X.K X.mg X.base := I.ok.mod
theorem Inv.kIn (I : Inv X pins σ H s) : X.K.In s.heap := I.ok.mod.kin.keeps I.bk
theorem Inv.nolimit (I : Inv X pins σ H s) : s.heap.NoLimit := I.ok.mod.nolimit.keeps I.bk
theorem Inv.fr (I : Inv X pins σ H s) : ∃ m, Fr X.base X.env.locals s.heap m :=
 let ⟨m, hn, _⟩ := I.loc
 ⟨m, hn, I.bk, Nat.le_trans I.ok.bsz I.ok.above⟩
theorem Inv.lt (I : Inv X pins σ H s) : X.env.locals < s.heap.objs.size := let ⟨_, hn, _⟩ := I.loc; hn.lt
theorem Inv.sz (I : Inv X pins σ H s) : X.s₀.heap.objs.size ≤ s.heap.objs.size := Nat.le_trans I.ok.above (Nat.le_of_lt I.lt)
theorem Inv.nofs (I : Inv X pins σ H s) {a : Addr} (h : s.heap.objs.size ≤ a) : a ∉ X.fs := fun hb => by
 obtain ⟨_, o, ho, _⟩ := I.ok.funs.mem hb
 exact absurd (Nat.lt_of_lt_of_le (Heap.lt_size ho) (Nat.le_trans I.sz h)) (Nat.lt_irrefl _)
theorem Inv.cne (I : Inv X pins σ H s) : ∀ x c, X.env.cells.lookup x = some c → c ≠ X.env.locals := fun x c e z => by
 obtain ⟨v, o, ho, hd⟩ := I.cell x c e
 obtain ⟨m, ⟨o', es, ep, ho', hd', _⟩, _⟩ := I.loc
 rw [z, ho'] at ho; cases ho; rw [hd'] at hd; cases hd
theorem Inv.funs (I : Inv X pins σ H s) : s.heap.FunFrames X.base X.outer := by
 have all : ∀ (l : List Env), (∀ b ∈ frs l, b ∈ X.fs) → X.s₀.heap.FunFrames X.base l → s.heap.FunFrames X.base l := by
  intro l
  induction l with
  | nil => intro _ _; trivial
  | cons env r ih =>
   intro hs hl
   obtain ⟨hk, ⟨L, o, hf, hn, ho, hd⟩, hr⟩ := hl
   have hL : L ∈ X.fs := hs L (by unfold frs; rw [List.filterMap_cons, hf]; exact List.mem_cons_self)
   obtain ⟨sl, e⟩ := I.base.slot L o ho (I.ok.frf L hL) hL fun z => I.ok.exfs L z hL
   exact ⟨hk, ⟨L, _, hf, hn, e, hd⟩, ih (fun b hb => hs b (by unfold frs; rw [List.filterMap_cons, hf]; exact List.mem_cons_of_mem _ hb)) hr⟩
 exact all X.outer (fun _ hb => hb) I.ok.funs
theorem Inv.stack (I : Inv X pins σ H s) : s.heap.FunFrames X.base X.stack := by
 rcases I.ok.stk with e | ⟨e, hf⟩
 ·rw [e]; exact I.funs
 ·rw [e]
  obtain ⟨m, hn, _⟩ := I.loc
  refine .cons (by rw [I.ok.kind]; decide) hf hn ?_ I.funs
  exact Heap.get?_none_of_le (Nat.le_trans I.ok.bsz I.ok.above)
theorem Inv.stkSub (I : Inv X pins σ H s) : ∀ b ∈ frs X.stack, b ∈ X.env.locals :: X.fs := fun b hb => by
 rcases I.ok.stk with e | ⟨e, hf⟩
 ·rw [e] at hb; exact List.mem_cons_of_mem _ hb
 ·rw [e] at hb
  unfold frs at hb
  rw [List.filterMap_cons, hf] at hb
  exact hb
theorem Inv.stkFree (I : Inv X pins σ H s) : ∀ b ∈ frs X.stack, H b = none := fun b hb => by
 rcases List.mem_cons.mp (I.stkSub b hb) with e | hb
 ·rw [e]; exact I.free
 ·obtain ⟨_, o, ho, _⟩ := I.ok.funs.mem hb
  exact I.base.free b o ho (I.ok.frf b hb) fun z => I.ok.exfs b z hb
theorem Inv.step {g' : Array GenState} {t' : Nat} {d' : Drawn} {ch : List Addr} (I : Inv X pins σ H s)
  (hch : ∀ b ∈ ch, (b ∈ X.ex ∨ X.s₀.heap.objs.size ≤ b) ∧ b ≠ X.env.locals ∧ (∀ x c, X.env.cells.lookup x = some c → c ≠ b) ∧ ∀ p ∈ X.pn ++ pins, p.1 ≠ b)
  (keep : ∀ b o, b ≠ X.env.locals → b ∉ X.fs → b ∉ ch → s.heap.get? b = some o → H b = none → h'.get? b = some o)
  (slot : ∀ b o, b ≠ X.env.locals → b ∈ X.fs → b ∉ ch → s.heap.get? b = some o → H b = none → ∃ sl, h'.get? b = some { o with slots := sl }) (free : ∀ b o, b ∉ ch → s.heap.get? b = some o → H b = none → H' b = none)
  (there : ∀ b o, b ∉ ch → s.heap.get? b = some o → ∃ o', h'.get? b = some o')
  (tups : ∀ b xs, H b = some (.tup xs) → H' b = some (.tup xs)) (frzs : ∀ b o u, H b = some (.frz o u) → H' b = some (.frz o u)) (tbls : ∀ b ps, H b = some (.tbl ps) → ∃ more, H' b = some (.tbl (ps ++ more)))
  (ns : ∀ m, s.heap.Ns X.env.locals m → h'.Ns X.env.locals m) (hok : HOk X.prog X.w H' h') (hg : AllBare g') :
  Inv X pins σ H' { s with heap := h', gens := g', drawn := d', toks := t' } := by
 have neL : ∀ b o, X.s₀.heap.get? b = some o → b ≠ X.env.locals := fun b o e => Nat.ne_of_lt (Nat.lt_of_lt_of_le (Heap.lt_size e) I.ok.above)
 have neC : ∀ b o, X.s₀.heap.get? b = some o → b ∉ X.ex → b ∉ ch := fun b o e hx hb => by
  rcases (hch b hb).1 with z | z
  ·exact hx z
  ·exact absurd (Nat.lt_of_lt_of_le (Heap.lt_size e) z) (Nat.lt_irrefl _)
 have cellK : ∀ x c, X.env.cells.lookup x = some c → ∀ v, s.heap.IsCell c v → h'.IsCell c v := fun x c e v ⟨o, ho, hd⟩ => by
  have nch : c ∉ ch := fun z => (hch c z).2.2.1 x c e rfl
  by_cases hc : c ∈ X.fs
  ·obtain ⟨sl, q⟩ := slot c o (I.cne x c e) hc nch ho (I.freeC x c e)
   exact ⟨_, q, hd⟩
  ·exact ⟨o, keep c o (I.cne x c e) hc nch ho (I.freeC x c e), hd⟩
 refine ⟨I.ok, I.os, hg, ⟨fun b o e n hb hx => ?_, fun b o e n hb hx => ?_, fun b o e n hx => ?_, fun b o e hx => ?_, fun b xs e => tups b xs (I.base.tups b xs e), fun b o xs e => frzs b o xs (I.base.frzs b o xs e), fun b ps e => ?_⟩, ?_, fun x c e => ?_, ?_, fun x c e => ?_, fun p hp => ?_, hok, I.len⟩
 ·exact keep b o (neL b o e) hb (neC b o e hx) (I.base.keep b o e n hb hx) (I.base.free b o e n hx)
 ·obtain ⟨sl, e1⟩ := I.base.slot b o e n hb hx
  obtain ⟨sl', e2⟩ := slot b _ (neL b o e) hb (neC b o e hx) e1 (I.base.free b o e n hx)
  exact ⟨sl', e2⟩
 ·obtain ⟨o', e1⟩ := I.base.there b o e hx
  exact free b o' (neC b o e hx) e1 (I.base.free b o e n hx)
 ·obtain ⟨o', e1⟩ := I.base.there b o e hx
  exact there b o' (neC b o e hx) e1
 ·obtain ⟨m1, e1⟩ := I.base.tbls b ps e
  obtain ⟨m2, e2⟩ := tbls b _ e1
  exact ⟨m1 ++ m2, by rw [e2, Array.append_assoc]⟩
 ·obtain ⟨m, hn, hl⟩ := I.loc
  refine ⟨m, ns m hn, fun i x v e1 e2 e3 => ?_⟩
  obtain ⟨u, r, l⟩ := hl i x v e1 e2 e3
  refine ⟨u, r, ?_⟩
  rcases l with l | ⟨k, c, e, z⟩
  ·exact .inl l
  ·exact .inr ⟨k, c, e, cellK x c e _ z⟩
 ·obtain ⟨v, z⟩ := I.cell x c e
  exact ⟨v, cellK x c e v z⟩
 ·obtain ⟨m, ⟨o, _, _, ho, _⟩, _⟩ := I.loc
  exact free _ o (fun z => (hch _ z).2.1 rfl) ho I.free
 ·obtain ⟨v, o, ho, hd⟩ := I.cell x c e
  exact free c o (fun z => (hch c z).2.2.1 x c e rfl) ho (I.freeC x c e)
 ·obtain ⟨e, n, ne, nf, d⟩ := I.pin p hp
  have nch : p.1 ∉ ch := fun z => (hch p.1 z).2.2.2 p hp rfl
  exact ⟨keep p.1 p.2 ne nf nch e n, free p.1 p.2 nch e n, ne, nf, d⟩
theorem Inv.un {t' : Nat} (I : Inv X pins σ H s) (u : Un X.fs [] H H' s.heap h') (hok : HOk X.prog X.w H' h') : Inv X pins σ H' { s with heap := h', toks := t' } := by
 obtain ⟨m, ⟨o, es, ep, ho, r⟩, _⟩ := id I.loc
 obtain ⟨sl, hL⟩ := u.any ho I.free (by simp)
 exact I.step (g' := s.gens) (d' := s.drawn) (ch := []) (fun _ z => nomatch z) (fun b o _ hb _ e n => u.keep b o e n hb (by simp)) (fun b o _ hb _ e n => u.slot b o e n hb (by simp)) (fun b o _ e n => u.free b o e n (by simp)) (fun b o _ e => u.there b o e (by simp)) u.tups u.frzs u.tbls (fun m' hm => by
  obtain ⟨o', es', ep', ho', r'⟩ := hm
  rw [ho] at ho'; cases ho'
  exact ⟨_, es', ep', hL, r'⟩) hok I.bare
theorem Inv.call {g' : Array GenState} {t' : Nat} {d' : Drawn} {ch : List Addr} (I : Inv X pins σ H s) (u : Un (frs X.stack) ch H H' s.heap h') (hok : HOk X.prog X.w H' h') (hg : AllBare g')
  (hch : ∀ b ∈ ch, (b ∈ X.ex ∨ X.s₀.heap.objs.size ≤ b) ∧ b ≠ X.env.locals ∧ (∀ x c, X.env.cells.lookup x = some c → c ≠ b) ∧ ∀ p ∈ X.pn ++ pins, p.1 ≠ b) :
  Inv X pins σ H' { s with heap := h', gens := g', drawn := d', toks := t' } := by
 obtain ⟨m, ⟨o, es, ep, ho, r⟩, _⟩ := id I.loc
 obtain ⟨sl, hL⟩ := u.any ho I.free fun z => (hch _ z).2.1 rfl
 exact I.step (ch := ch) hch (fun b o hL hb hc e n => u.keep b o e n (fun z => (List.mem_cons.mp (I.stkSub b z)).elim hL hb) hc) (fun b o _ _ hc e n => u.any e n hc) (fun b o hc e n => u.free b o e n hc) (fun b o hc e => u.there b o e hc) u.tups u.frzs u.tbls (fun m' hm => by
  obtain ⟨o', es', ep', ho', r'⟩ := hm
  rw [ho] at ho'; cases ho'
  exact ⟨_, es', ep', hL, r'⟩) hok hg
theorem Inv.turned {t' : Nat} {it : Addr} (I : Inv X pins σ H s) (k : ∀ b o, b ≠ it → s.heap.get? b = some o → h'.get? b = some o) (hn : H it = none) (hL : it ≠ X.env.locals)
  (h1 : it ∈ X.ex ∨ X.s₀.heap.objs.size ≤ it) (h2 : ∀ x c, X.env.cells.lookup x = some c → c ≠ it) (h3 : ∀ p ∈ X.pn ++ pins, p.1 ≠ it) : Inv X pins σ H { s with heap := h', toks := t' } := by
 have nit : ∀ b u, H b = some u → b ≠ it := fun b u e z => by rw [z, hn] at e; cases e
 refine I.step (g' := s.gens) (d' := s.drawn) (ch := [it]) (fun b hb => ?_) (fun b o _ _ hc e _ => k b o (fun z => hc (by simp [z])) e) (fun b o _ _ hc e _ => ⟨o.slots, k b o (fun z => hc (by simp [z])) e⟩) (fun _ _ _ _ n => n)
  (fun b o hc e => ⟨o, k b o (fun z => hc (by simp [z])) e⟩) (fun _ _ e => e) (fun _ _ _ e => e) (fun b ps e => ⟨#[], by rw [e]; simp⟩) (fun m hm => ?_) (fun b u e => ?_) I.bare
 ·have e : b = it := by simpa using hb
  subst e
  exact ⟨h1, hL, h2, h3⟩
 ·obtain ⟨o, es, ep, ho, r⟩ := hm
  exact ⟨o, es, ep, k _ o (Ne.symm hL) ho, r⟩
 ·refine (I.hok b u e).stay (fun c v hc q => k c v ?_ q) (fun _ q => q) fun _ _ q => q
  rcases hc with z | z
  ·rw [z]; exact nit b u e
  ·exact nit c _ z
theorem Inv.tok (I : Inv X pins σ H s) (t : Nat) : Inv X pins σ H { s with toks := t } := I.un (h' := s.heap) (t' := t) Un.refl I.hok
theorem Inv.kept {t' : Nat} (I : Inv X pins σ H s) (k : ∀ b u, s.heap.get? b = some u → h'.get? b = some u) : Inv X pins σ H { s with heap := h', toks := t' } := I.un (Un.kept k) (I.hok.kept k)
theorem Inv.laid {a : Addr} {o : HO} {t' : Nat} (I : Inv X pins σ H s) (k : ∀ b u, s.heap.get? b = some u → h'.get? b = some u) (hp : s.heap.objs.size ≤ a) (new : Cr X.prog X.w (upd H a o) h' a o) :
  Inv X pins σ (upd H a o) { s with heap := h', toks := t' } := I.un (Un.laid k hp (I.hok.fresh hp)) (I.hok.laid k hp new)
theorem Inv.write {x e : Addr} {o : HO} {t' : Nat} (I : Inv X pins σ H s) (mu : Mut (H x)) (he : e = x ∨ H e = some (.own x)) (k : ∀ b u, b ≠ e → s.heap.get? b = some u → h'.get? b = some u) (heo : ∃ u, h'.get? e = some u)
  (new : Cr X.prog X.w (upd H x o) h' x o) : Inv X pins σ (upd H x o) { s with heap := h', toks := t' } := I.un (Un.write mu he k heo) (I.hok.write mu he k heo new)
theorem Inv.pins_of {pins' : List (Addr × Obj)} (I : Inv X pins σ H s) (h : ∀ p ∈ pins', s.heap.get? p.1 = some p.2 ∧ H p.1 = none ∧ p.1 ≠ X.env.locals ∧ p.1 ∉ X.fs ∧ ∀ v, p.2.data ≠ .cell v) : Inv X pins' σ H s :=
 ⟨I.ok, I.os, I.bare, I.base, I.loc, I.cell, I.free, I.freeC, fun p hp => (List.mem_append.mp hp).elim (fun z => I.pin p (List.mem_append_left _ z)) (h p), I.hok, I.len⟩
theorem JZ {N : List Str} (hN : N.Nodup) {i j : Nat} {x : Str} (a : N[i]? = some x) (b : N[j]? = some x) : i = j := by
 obtain ⟨h1, e1⟩ := List.getElem?_eq_some_iff.mp a
 obtain ⟨h2, e2⟩ := List.getElem?_eq_some_iff.mp b
 exact (List.getElem_inj hN).mp (e1.trans e2.symm)
theorem QV {M : Model} {A : Around} {E : Value → Shared → Prop} {i : Nat} {x : Str} {v : V} {u : Value} {Q : Unit → Shared → Prop} (I : Inv X pins σ H s) (hN : X.N.Nodup) (hi : X.N[i]? = some x) (hx : Loc X.env.scope x) (r : RelV v u)
  (h : ∀ s', Inv X pins (σ.set i (some v)) H s' → (∃ a, Heap.SameBut a s.heap s'.heap ∧ (a = X.env.locals ∨ X.env.cells.lookup x = some a)) → Q () s') (hf : X.fn x = true ∨ X.env.scope.names.lookup x = some .local := by first | exact .inl rfl | exact .inr rfl | assumption) : wpAny M A (storeName X.env x u) Q E s := by
 obtain ⟨m, hn, hl⟩ := id I.loc
 have hcls : (X.env.scope.kind == .class || (X.env.scope.kind == .module && X.env.locals != X.env.globals)) = false := by rw [I.ok.kind]; rfl
 have hiσ : i < σ.length := by rw [I.len]; exact (List.getElem?_eq_some_iff.mp hi).1
 have cne := I.cne
 have tracked : ∀ {a : Addr} {h' : Heap}, (∃ o, s.heap.get? a = some o ∧ H a = none) → Heap.SameBut a s.heap h' → HOk X.prog X.w H h' := fun {a h'} ha hs b ob e => by
  obtain ⟨_, _, hfree⟩ := ha
  refine (I.hok b ob e).stay (fun c w' hc q => (hs.2 c ?_).trans q) (fun _ q => q) fun _ _ q => q
  rintro rfl
  rcases hc with rfl | hc
  ·rw [hfree] at e; cases e
  ·rw [hfree] at hc; cases hc
 rcases hx with hk | hk
 ·refine wpAny_storeName_local hk hn (fun h' hn' hs => ?_) hcls
  obtain ⟨oL, _, _, hoL, _⟩ := id hn
  refine h _ ⟨I.ok, I.os, I.bare, ⟨fun b o e n hb hx => ?_, fun b o e n hb hx => ?_, I.base.free, fun b o e hx => ?_, I.base.tups, I.base.frzs, I.base.tbls⟩, ⟨_, hn', fun j y v' e1 e2 e3 => ?_⟩, fun y c e => ?_, I.free, I.freeC, fun p hp => ?_, tracked ⟨oL, hoL, I.free⟩ hs, by simpa using I.len⟩ ⟨_, hs, .inl rfl⟩
  ·exact (hs.2 b (Nat.ne_of_lt (Nat.lt_of_lt_of_le (Heap.lt_size e) I.ok.above))).trans (I.base.keep b o e n hb hx)
  ·obtain ⟨sl, e1⟩ := I.base.slot b o e n hb hx
   exact ⟨sl, (hs.2 b (Nat.ne_of_lt (Nat.lt_of_lt_of_le (Heap.lt_size e) I.ok.above))).trans e1⟩
  ·obtain ⟨o', e1⟩ := I.base.there b o e hx
   exact ⟨o', (hs.2 b (Nat.ne_of_lt (Nat.lt_of_lt_of_le (Heap.lt_size e) I.ok.above))).trans e1⟩
  ·by_cases hj : j = i
   ·subst hj
    rw [hi] at e1; cases e1
    rw [List.getElem?_set_self hiσ] at e2
    cases e2
    exact ⟨u, r, .inl ⟨hk, by simp⟩⟩
   ·rw [List.getElem?_set_ne (Ne.symm hj)] at e2
    obtain ⟨u', r', q⟩ := hl j y v' e1 e2 e3
    refine ⟨u', r', ?_⟩
    rcases q with ⟨k, e⟩ | ⟨k, c, e, z⟩
    ·refine .inl ⟨k, ?_⟩
     have : y ≠ x := fun e => hj (JZ hN e1 (e ▸ hi))
     simp [this, e]
    ·exact .inr ⟨k, c, e, z.sameBut hs (cne y c e)⟩
  ·obtain ⟨w', z⟩ := I.cell y c e
   exact ⟨w', z.sameBut hs (cne y c e)⟩
  ·obtain ⟨e, n, ne, nf, d⟩ := I.pin p hp
   exact ⟨(hs.2 p.1 ne).trans e, n, ne, nf, d⟩
 ·have hfn : X.fn x = true := by
   rcases hf with z | z
   ·exact z
   ·rw [z] at hk; cases hk
  obtain ⟨c, hc⟩ := I.ok.has x (.inl hk)
  obtain ⟨w', z⟩ := I.cell x c hc
  refine wpAny_storeName_cell I.ok.kind hk hc z (fun h' hc' hs => ?_)
  obtain ⟨oc, hoc, hocd⟩ := id z
  refine h { s with heap := h' } ⟨I.ok, I.os, I.bare, ⟨fun b o e n hb hx => ?_, fun b o e n hb hx => ?_, I.base.free, fun b o e hx => ?_, I.base.tups, I.base.frzs, I.base.tbls⟩, ⟨m, hn.sameBut hs (Ne.symm (cne x c hc)), fun j y v' e1 e2 e3 => ?_⟩, fun y c' e => ?_, I.free, I.freeC, fun p hp => ?_, tracked ⟨oc, hoc, I.freeC x c hc⟩ hs, by simpa using I.len⟩ ⟨c, hs, .inr hc⟩
  ·exact (hs.2 b (Nat.ne_of_lt (Nat.lt_of_lt_of_le (Heap.lt_size e) (I.ok.cab x c hfn hc)))).trans (I.base.keep b o e n hb hx)
  ·obtain ⟨sl, e1⟩ := I.base.slot b o e n hb hx
   exact ⟨sl, (hs.2 b (Nat.ne_of_lt (Nat.lt_of_lt_of_le (Heap.lt_size e) (I.ok.cab x c hfn hc)))).trans e1⟩
  ·obtain ⟨o', e1⟩ := I.base.there b o e hx
   exact ⟨o', (hs.2 b (Nat.ne_of_lt (Nat.lt_of_lt_of_le (Heap.lt_size e) (I.ok.cab x c hfn hc)))).trans e1⟩
  ·by_cases hj : j = i
   ·subst hj
    rw [hi] at e1; cases e1
    rw [List.getElem?_set_self hiσ] at e2
    cases e2
    exact ⟨u, r, .inr ⟨.inl hk, c, hc, hc'⟩⟩
   ·rw [List.getElem?_set_ne (Ne.symm hj)] at e2
    obtain ⟨u', r', q⟩ := hl j y v' e1 e2 e3
    refine ⟨u', r', ?_⟩
    rcases q with q | ⟨k, c', e, z'⟩
    ·exact .inl q
    ·refine .inr ⟨k, c', e, z'.sameBut hs ?_⟩
     rintro rfl
     exact hj (JZ hN e1 (I.ok.inj _ _ _ e hc ▸ hi))
  ·by_cases hcc : c' = c
   ·subst hcc; exact ⟨_, hc'⟩
   ·obtain ⟨w2, z2⟩ := I.cell y c' e
    exact ⟨w2, z2.sameBut hs hcc⟩
  ·obtain ⟨e, n, ne, nf, d⟩ := I.pin p hp
   refine ⟨(hs.2 p.1 ?_).trans e, n, ne, nf, d⟩
   intro q
   rw [q, hoc] at e
   have q' : oc = p.2 := Option.some.inj e
   exact d w' (by rw [← q']; exact hocd)
theorem Hs {M : Model} {A : Around} {E : Value → Shared → Prop} {i : Nat} {x : Str} {v : V} {u : Value} {Q : Unit → Shared → Prop} (I : Inv X pins σ H s) (hN : X.N.Nodup) (hi : X.N[i]? = some x) (hx : Loc X.env.scope x) (r : RelV v u)
  (h : ∀ s', Inv X pins (σ.set i (some v)) H s' → Q () s') (hf : X.fn x = true ∨ X.env.scope.names.lookup x = some .local := by first | exact .inl rfl | exact .inr rfl | assumption) : wpAny M A (storeName X.env x u) Q E s :=
 QV I hN hi hx r (fun s' I' _ => h s' I') hf
theorem Inv.call' {s' : Shared} {ch : List Addr} (I : Inv X pins σ H s) (ho : s'.os = s.os) (u : Un (frs X.stack) ch H H' s.heap s'.heap) (hok : HOk X.prog X.w H' s'.heap) (hg : AllBare s'.gens)
  (hch : ∀ b ∈ ch, (b ∈ X.ex ∨ X.s₀.heap.objs.size ≤ b) ∧ b ≠ X.env.locals ∧ (∀ x c, X.env.cells.lookup x = some c → c ≠ b) ∧ ∀ p ∈ X.pn ++ pins, p.1 ≠ b) : Inv X pins σ H' s' := by
 obtain ⟨h', g', d', t', o'⟩ := s'
 have e : o' = s.os := ho
 subst e
 exact I.call (g' := g') (t' := t') (d' := d') u hok hg hch
end
abbrev XK := Value → Option Addr → Hp → Prop
abbrev St := List (Option V)
abbrev VK := V → Hp → Prop
abbrev TE := St → Hp → VK → Prop
abbrev TT := St → Hp → (Bool → Hp → Prop) → Prop
abbrev TA := St → Hp → (List V → Hp → Prop) → Prop
structure Ends where
 nx : St → Hp → Prop
 rt : VK
 bk : St → Hp → Prop := fun _ _ => False
 ct : St → Hp → Prop := fun _ _ => False
abbrev TS := Ends → St → Hp → Prop
def EP (X : Cx) (pins : List (Addr × Obj)) (σ : St) (Q : VK) (u : Value) (s' : Shared) : Prop := ∃ v H', Inv X pins σ H' s' ∧ RelV v u ∧ Q v H'
def TP (X : Cx) (pins : List (Addr × Obj)) (σ : St) (Q : Bool → Hp → Prop) (b : Bool) (s' : Shared) : Prop := ∃ H', Inv X pins σ H' s' ∧ Q b H'
def AP (X : Cx) (pins : List (Addr × Obj)) (σ : St) (Q : List V → Hp → Prop) (us : List Value) (s' : Shared) : Prop := ∃ vs H', Inv X pins σ H' s' ∧ Vals vs us ∧ Q vs H'
def SP (X : Cx) (pins : List (Addr × Obj)) (D : Ends) (f : Flow) (s' : Shared) : Prop :=
 match f with
 | .next => ∃ σ' H', Inv X pins σ' H' s' ∧ D.nx σ' H'
 | .brk => ∃ σ' H', Inv X pins σ' H' s' ∧ D.bk σ' H'
 | .cont => ∃ σ' H', Inv X pins σ' H' s' ∧ D.ct σ' H'
 | .ret u => ∃ v σ' H', Inv X pins σ' H' s' ∧ RelV v u ∧ D.rt v H'
def PE (X : Cx) (e : Expr) (t : TE) : Prop :=
 ∀ (pins : List (Addr × Obj)) (s : Shared) (σ : St) (H : Hp) (Q : VK), Inv X pins σ H s → t σ H Q → wpAny (model X.prog X.w) X.A (eval e X.env) (EP X pins σ Q) X.xe s
def PT (X : Cx) (e : Expr) (t : TT) : Prop :=
 ∀ (pins : List (Addr × Obj)) (s : Shared) (σ : St) (H : Hp) (Q : Bool → Hp → Prop), Inv X pins σ H s → t σ H Q → wpAny (model X.prog X.w) X.A (isTrue e X.env (eval e X.env)) (TP X pins σ Q) X.xe s
def PW (X : Cx) (e : Expr) (t : TT) : Prop :=
 ∀ (whole : Sem Value) (pins : List (Addr × Obj)) (s : Shared) (σ : St) (H : Hp) (Q : Bool → Hp → Prop), Inv X pins σ H s → t σ H Q → wpAny (model X.prog X.w) X.A (isTrue e X.env whole) (TP X pins σ Q) X.xe s
theorem PW.pt {X : Cx} {e : Expr} {t : TT} (h : PW X e t) : PT X e t := h _
def PA (X : Cx) (es : List Expr) (t : TA) : Prop :=
 ∀ (pos : Pos) (pins : List (Addr × Obj)) (s : Shared) (σ : St) (H : Hp) (Q : List V → Hp → Prop), Inv X pins σ H s → t σ H Q → wpAny (model X.prog X.w) X.A (spliced (backTo pos (starEach es X.env))) (AP X pins σ Q) X.xe s
def PS (X : Cx) (st : Stmt) (t : TS) : Prop :=
 ∀ (pins : List (Addr × Obj)) (s : Shared) (σ : St) (H : Hp) (D : Ends), Inv X pins σ H s → t D σ H → wpAny (model X.prog X.w) X.A (exec st X.env) (SP X pins D) X.xe s
def PSs (X : Cx) (st : List Stmt) (t : TS) : Prop :=
 ∀ (pins : List (Addr × Obj)) (s : Shared) (σ : St) (H : Hp) (D : Ends), Inv X pins σ H s → t D σ H → wpAny (model X.prog X.w) X.A (execs st X.env) (SP X pins D) X.xe s
theorem thn {α : Type} {t : Sem α} {Q Q' : α → Shared → Prop} {M : Model} {A : Around} {E : Value → Shared → Prop} {s : Shared} (h : wpAny M A t Q E s) (hQ : ∀ a s, Q a s → Q' a s) : wpAny M A t Q' E s := wpAny_mono h hQ fun _ _ x => x
end L2
namespace L2
open PySem PySem.Spec PyProof.Rows
section
variable {X : Cx}
def tVar (i : Nat) : TE := fun σ H Q => ∃ v, σ[i]? = some (some v) ∧ Q v H
def tC (v : V) : TE := fun _ H Q => Q v H
theorem Xq {i : Nat} {x : Str} {pos : Pos} (hN : X.N[i]? = some x) (hv : Vis X.env.scope x) (hd : (x == ("__debug__" : Str)) = false := by decide) (hcd : (x == ("__classdict__" : Str)) = false := by decide) : PE X (.Name x pos) (tVar i) := by
 intro pins s σ H Q I h
 obtain ⟨v, e, h⟩ := h
 obtain ⟨m, hn, hl⟩ := I.loc
 obtain ⟨u, r, l⟩ := hl i x v hN e hv
 have fin : EP X pins σ Q u s := ⟨v, H, I, r, h⟩
 rcases l with ⟨hk, hm⟩ | ⟨hk, c, hc, hcell⟩
 ·exact wpAny_Name (wpAny_loadName_local I.ok.kind hk hn hm fin) hd
 ·rcases hk with hk | hk
  ·exact wpAny_Name (wpAny_loadName_cell I.ok.kind hk hc hcell fin) hd
  ·exact wpAny_Name (wpAny_loadName_free I.ok.kind hk hc hcell fin hcd) hd
theorem Xr {i j pos} : PE X (.Constant (.int i) j pos) (tC (.int i)) := fun _ _ _ H _ I h => wpAny_Constant_int ⟨.int i, H, I.tok _, ⟨_, rfl⟩, h⟩
theorem ZP {b j pos} : PE X (.Constant (.bool b) j pos) (tC (.bl b)) := fun _ _ _ H _ I h => Constant_bool ⟨.bl b, H, I, rfl, h⟩
theorem Xu {j pos} : PE X (.Constant .none j pos) (tC .non) := fun _ _ _ H _ I h => Constant_none ⟨.non, H, I, rfl, h⟩
theorem Xv {x j pos} : PE X (.Constant (.str x) j pos) (tC (.str x)) := fun _ _ _ H _ I h => Calls.Constant_str ⟨.str x, H, I.tok _, ⟨_, rfl⟩, h⟩
def Gl (X : Cx) (x : Str) : Prop := X.env.kindOf x = some .globalImplicit
theorem Gg {E : Value → Shared → Prop} {pins : List (Addr × Obj)} {s : Shared} {σ : St} {H : Hp} {x : Str} {u : Value} {pos : Pos} {Q : Value → Shared → Prop} (I : Inv X pins σ H s) (hg : Gl X x) (hm : X.mg x = some u) (h : Q u s)
  (hd : (x == ("__debug__" : Str)) = false := by decide) : wpAny (model X.prog X.w) X.A (eval (.Name x pos) X.env) Q E s :=
 Calls.Name_function_global I.ok.kind hg (Calls.loadGlobal_global (by rw [I.ok.glob]; exact I.mod.glob.keeps I.bk) hm h) hd
theorem Qx {E : Value → Shared → Prop} {pins : List (Addr × Obj)} {s : Shared} {σ : St} {H : Hp} {x : Str} {u : Value} {pos : Pos} {Q : Value → Shared → Prop} (I : Inv X pins σ H s) (hg : Gl X x) (hm : X.mg x = none) (hv : bootBuiltins x = some u) (h : Q u s)
  (hn : x ≠ "__name__" := by decide) (hd : (x == ("__debug__" : Str)) = false := by decide) : wpAny (model X.prog X.w) X.A (eval (.Name x pos) X.env) Q E s := by
 obtain ⟨mb, h1, h2⟩ := I.mod.blt
 exact Calls.Name_function_global I.ok.kind hg (Calls.loadGlobal_builtin (by rw [I.ok.glob]; exact I.mod.glob.keeps I.bk) hm (by rw [I.ok.blt]; exact h1.keeps I.bk) ((h2 x hn).trans hv) h) hd
theorem Dv {x : Str} {v : V} {u : Value} {pos : Pos} (hg : Gl X x) (hm : X.mg x = some u) (r : RelV v u) (hd : (x == ("__debug__" : Str)) = false := by decide) : PE X (.Name x pos) (tC v) :=
 fun _ _ _ H _ I h => Gg I hg hm ⟨v, H, I, r, h⟩ hd
theorem Us {x : Str} {v : V} {u : Value} {pos : Pos} (hg : Gl X x) (hm : X.mg x = none) (hv : bootBuiltins x = some u) (r : RelV v u) (hn : x ≠ "__name__" := by decide) (hd : (x == ("__debug__" : Str)) = false := by decide) : PE X (.Name x pos) (tC v) :=
 fun _ _ _ H _ I h => Qx I hg hm hv ⟨v, H, I, r, h⟩ hn hd
def t2I (ta tb : TE) (k : Int → Int → Hp → Prop) : St → Hp → Prop := fun σ H => ta σ H fun x H1 => tb σ H1 fun y H2 => ∃ i j, x = .int i ∧ y = .int j ∧ k i j H2
variable {a b : Expr} {ta tb : TE} {pos : Pos}
def PC (X : Cx) (op : CmpOp) (a b : Expr) (t : TE) : Prop :=
 ∀ (pins : List (Addr × Obj)) (s : Shared) (σ : St) (H : Hp) (Q : VK), Inv X pins σ H s → t σ H Q →
  wpAny (model X.prog X.w) X.A (eval a X.env) (fun v s₁ => wpAny (model X.prog X.w) X.A (eval b X.env) (fun u s₂ => wpAny (model X.prog X.w) X.A (compareOp op v u) (EP X pins σ Q) X.xe s₂) X.xe s₁) X.xe s
theorem Qy (b : Expr) {op : CmpOp} (h : op ≠ .In) (h2 : op ≠ .NotIn) : behindInMarks op b = false := by
 have e1 : (op == CmpOp.In) = false := by cases op <;> first | rfl | exact absurd rfl h
 have e2 : (op == CmpOp.NotIn) = false := by cases op <;> first | rfl | exact absurd rfl h2
 cases b <;> simp [behindInMarks, e1, e2]
def tCmp (p : Int → Int → Bool) (ta tb : TE) : TE := fun σ H Q => t2I ta tb (fun i j H2 => Q (.bl (p i j)) H2) σ H
abbrev tLt : TE → TE → TE := tCmp fun i j => decide (i < j)
abbrev tGt : TE → TE → TE := tCmp fun i j => decide (j < i)
def ZQ (ta : TE) : TE := fun σ H Q => ta σ H fun x H1 => Q (.bl (!decide (x = .non))) H1
theorem RelV.none_iff {x : V} {v : Value} (r : RelV x v) : (v == Value.none) = decide (x = .non) := by
 cases x with
 | non => cases r; rfl
 | bl _ => cases r; rfl
 | int _ => obtain ⟨t, rfl⟩ := r; rfl
 | str _ => obtain ⟨t, rfl⟩ := r; rfl
 | byt _ => obtain ⟨t, rfl⟩ := r; rfl
 | flt _ => obtain ⟨t, rfl⟩ := r; rfl
 | ref _ => cases r; rfl
 | ty _ => cases r; rfl
theorem Ut {j pos'} (ha : PE X a ta) : PC X .IsNot a (.Constant .none j pos') (ZQ ta) := by
 intro pins s σ H Q I h
 refine thn (ha pins s σ H _ I h) fun v s1 ⟨x, H1, I1, r1, q1⟩ => ?_
 exact Constant_none (isnot_none_gen ⟨.bl _, H1, I1, by rw [r1.none_iff]; rfl, q1⟩)
def tB (t : TE) : TT := fun σ H Q => t σ H fun x H1 => ∃ c, x = .bl c ∧ Q c H1
theorem Xw {op : CmpOp} {t : TE} (h : PC X op a b t) (h1 : behindInMarks op b = false := by first | exact Qy _ (by decide) (by decide) | rfl) : PT X (.Compare a [op] [b] pos) (tB t) := by
 intro pins s σ H Q I hw
 refine wpAny_isTrue_Compare1 (thn (h pins s σ H _ I hw) fun v s1 h1 => thn h1 fun u s2 h2 => thn h2 fun c s3 ⟨x, H1, I1, r1, q1⟩ => ?_) h1
 obtain ⟨d, rfl, q⟩ := q1
 cases r1
 exact wpAny_truthy_bool ⟨H1, I1, q⟩
variable {tA tB' : TT} {rest : List Expr}
def tOr (t u : TT) : TT := fun σ H Q => t σ H fun c H1 => if c = true then Q true H1 else u σ H1 Q
def tNot (t : TT) : TT := fun σ H Q => t σ H fun c H1 => Q (!c) H1
theorem Xy (ha : PT X a tA) : PW X (.BoolOp .Or [a] pos) tA := by
 intro wh pins s σ H Q I h
 refine isTrue_or (thn (ha pins s σ H Q I h) fun c s1 e => ?_)
 cases c with
 | false => exact isTrue_or_nil e
 | true => exact e
theorem ZR (ha : PT X a tA) (hb : PW X (.BoolOp .Or (b :: rest) pos) tB') : PW X (.BoolOp .Or (a :: b :: rest) pos) (tOr tA tB') := by
 intro wh pins s σ H Q I h
 refine isTrue_or (thn (ha pins s σ H _ I h) fun c s1 ⟨H1, I1, q1⟩ => ?_)
 cases c with
 | true => exact ⟨H1, I1, q1⟩
 | false => exact hb wh pins s1 σ H1 Q I1 q1
theorem Xz (ha : PT X a tA) : PT X (.UnaryOp .Not a pos) (tNot tA) := by
 intro pins s σ H Q I h
 exact isTrue_not (ha pins s σ H (fun c H1 => Q (!c) H1) I h)
def ZS (ta tb : TE) : TE := fun σ H Q => ta σ H fun x H1 => ∃ c, x = .bl c ∧ if c = true then tb σ H1 Q else Q (.bl false) H1
theorem X3 {op} {t : TE} (h : PE X a t) : PE X (.BoolOp op [a] pos) t := fun pins s σ H Q I hw => BoolOp_one (h pins s σ H Q I hw)
theorem X4 (ha : PE X a ta) (hb : PE X (.BoolOp .And (b :: rest) pos) tb) : PE X (.BoolOp .And (a :: b :: rest) pos) (ZS ta tb) := by
 intro pins s σ H Q I h
 refine BoolOp_and (thn (ha pins s σ H _ I h) fun v s1 ⟨x, H1, I1, r1, q1⟩ => ?_)
 obtain ⟨c, rfl, q1⟩ := q1
 cases r1
 refine wpAny_truthy_bool ?_
 cases c with
 | true => exact hb pins s1 σ H1 Q I1 q1
 | false => exact ⟨.bl false, H1, I1, rfl, q1⟩
def tIf (t : TT) (ta tb : TE) : TE := fun σ H Q => t σ H fun c H1 => if c = true then ta σ H1 Q else tb σ H1 Q
theorem Qz {c : Expr} (hc : PT X c tA) (ha : PE X a ta) (hb : PE X b tb) : PE X (.IfExp c a b pos) (tIf tA ta tb) := by
 intro pins s σ H Q I h
 refine wpAny_IfExp (thn (hc pins s σ H _ I h) fun d s1 ⟨H1, I1, q1⟩ => ?_)
 cases d with
 | true => exact ha pins s1 σ H1 Q I1 q1
 | false => exact hb pins s1 σ H1 Q I1 q1
end
end L2
namespace L2
open PySem PySem.Spec PyProof.Rows
def SqL (K : PySem.W.Frag) (H : Hp) (a : Addr) (xs : List V) : Prop :=
 Rd H a (.lst xs) ∨
  ∃ (o : Obj) (its : Array Value) (n : Nat), K.lookup a = some o ∧ o.cls = .type "list" ∧ o.dict = none ∧ o.data = .seq its n ∧ its.size ≤ sizeLine ∧ Vals xs its.toList
def SqT (K : PySem.W.Frag) (H : Hp) (a : Addr) (xs : List V) : Prop :=
 Rd H a (.tup xs) ∨
  ∃ (o : Obj) (its : Array Value) (n : Nat), K.lookup a = some o ∧ o.cls = .type "tuple" ∧ o.data = .seq its n ∧ its.size ≤ sizeLine ∧ Vals xs its.toList
def absV : Value → Option V
 | .none => some .non
 | .bool b => some (.bl b)
 | .int i _ => some (.int i)
 | .str x _ => some (.str x)
 | .bytes b _ => some (.byt b)
 | .float b _ => some (.flt b)
 | .ref a => some (.ref a)
 | .type n => some (.ty n)
 | _ => none
theorem RelV.abs {x : V} {u : Value} (r : RelV x u) : absV u = some x := by
 cases x with
 | non => cases r; rfl
 | bl _ => cases r; rfl
 | int _ => obtain ⟨t, rfl⟩ := r; rfl
 | str _ => obtain ⟨t, rfl⟩ := r; rfl
 | byt _ => obtain ⟨t, rfl⟩ := r; rfl
 | flt _ => obtain ⟨t, rfl⟩ := r; rfl
 | ref _ => cases r; rfl
 | ty _ => cases r; rfl
theorem RelV.inj {x y : V} {u : Value} (r : RelV x u) (q : RelV y u) : x = y := Option.some.inj (r.abs.symm.trans q.abs)
theorem Vals.inj : ∀ {xs ys : List V} {us : List Value}, Vals xs us → Vals ys us → xs = ys
 | _, _, _, .nil, .nil => rfl
 | _, _, _, .cons r t, .cons r' t' => by rw [r.inj r', Vals.inj t t']
section
variable {X : Cx} {pins : List (Addr × Obj)} {σ : St} {H : Hp} {s : Shared} {a : Addr} {xs ys : List V}
theorem SqL.of {K : PySem.W.Frag} (h : H a = some (.lst xs)) : SqL K H a xs := .inl (.inl h)
theorem SqT.of {K : PySem.W.Frag} (h : H a = some (.tup xs)) : SqT K H a xs := .inl (.inl h)
theorem Inv.list (I : Inv X pins σ H s) (h : SqL X.K H a xs) : ∃ its : List Value, Vals xs its ∧ PlainL s.heap a its.toArray ∧ xs.length ≤ sizeLine := by
 rcases h with h | ⟨o, its, n, hk, hc, hd, hs, hz, r⟩
 ·obtain ⟨z, its, n, r, e⟩ := h.ok I.hok
  exact ⟨its, r, ⟨_, n, e, rfl, rfl, rfl⟩, z⟩
 ·refine ⟨its.toList, r, ⟨o, n, I.kIn a o hk, hc, hd, by simpa using hs⟩, ?_⟩
  have e := r.length
  simp only [Array.length_toList] at e
  omega
theorem Inv.tuple (I : Inv X pins σ H s) (h : SqT X.K H a xs) : ∃ its : List Value, Vals xs its ∧ IsTup s.heap a its.toArray ∧ xs.length ≤ sizeLine := by
 rcases h with h | ⟨o, its, n, hk, hc, hs, hz, r⟩
 ·obtain ⟨z, its, r, p⟩ := h.ok I.hok
  exact ⟨its, r, p, z⟩
 ·refine ⟨its.toList, r, ⟨o, I.kIn a o hk, hc, n, by simpa using hs⟩, ?_⟩
  have e := r.length
  simp only [Array.length_toList] at e
  omega
theorem Inv.list_inj (I : Inv X pins σ H s) (h : SqL X.K H a xs) (h' : SqL X.K H a ys) : xs = ys := by
 obtain ⟨its, r, ⟨o, n, e, _, _, d⟩, _⟩ := I.list h
 obtain ⟨its', r', ⟨o', n', e', _, _, d'⟩, _⟩ := I.list h'
 rw [e] at e'; cases e'
 rw [d] at d'
 injection d' with d1 _
 have : its = its' := by simpa using congrArg Array.toList d1
 subst this
 exact r.inj r'
theorem Inv.tuple_inj (I : Inv X pins σ H s) (h : SqT X.K H a xs) (h' : SqT X.K H a ys) : xs = ys := by
 obtain ⟨its, r, ⟨o, e, _, n, d⟩, _⟩ := I.tuple h
 obtain ⟨its', r', ⟨o', e', _, n', d'⟩, _⟩ := I.tuple h'
 rw [e] at e'; cases e'
 rw [d] at d'
 injection d' with d1 _
 have : its = its' := by simpa using congrArg Array.toList d1
 subst this
 exact r.inj r'
end
abbrev Cx.wish (X : Cx) (E : Value → Shared → Prop) : Cx := { X with xe := E }
abbrev Cx.nox (X : Cx) : Cx := X.wish fun _ _ => False
theorem Cx.Ok.wish {X : Cx} (ok : X.Ok) (E : Value → Shared → Prop) : (X.wish E).Ok :=
 ⟨ok.mod, ok.kind, ok.glob, ok.blt, ok.above, ok.inj, ok.has, ok.cab, ok.hd, ok.frames, ok.stk, ok.exf, ok.bs, ok.bsz, ok.noex, ok.exfs, ok.funs, ok.frf⟩
theorem Cx.Ok.unwish {X : Cx} {E : Value → Shared → Prop} (ok : (X.wish E).Ok) : X.Ok :=
 ⟨ok.mod, ok.kind, ok.glob, ok.blt, ok.above, ok.inj, ok.has, ok.cab, ok.hd, ok.frames, ok.stk, ok.exf, ok.bs, ok.bsz, ok.noex, ok.exfs, ok.funs, ok.frf⟩
section
variable {X : Cx} {pins : List (Addr × Obj)} {σ : St} {H : Hp} {s : Shared} {E : Value → Shared → Prop}
theorem Inv.wish (I : Inv X pins σ H s) (E : Value → Shared → Prop) : Inv (X.wish E) pins σ H s := ⟨I.ok.wish E, I.os, I.bare, I.base, I.loc, I.cell, I.free, I.freeC, I.pin, I.hok, I.len⟩
theorem Inv.unwish (I : Inv (X.wish E) pins σ H s) : Inv X pins σ H s := ⟨I.ok.unwish, I.os, I.bare, I.base, I.loc, I.cell, I.free, I.freeC, I.pin, I.hok, I.len⟩
theorem SP.unwish {D : Ends} {f : Flow} {s' : Shared} (h : SP (X.wish E) pins D f s') : SP X pins D f s' := by
 cases f with
 | next => obtain ⟨σ', H', I, q⟩ := h; exact ⟨σ', H', I.unwish, q⟩
 | brk => obtain ⟨σ', H', I, q⟩ := h; exact ⟨σ', H', I.unwish, q⟩
 | cont => obtain ⟨σ', H', I, q⟩ := h; exact ⟨σ', H', I.unwish, q⟩
 | ret u => obtain ⟨v, σ', H', I, r, q⟩ := h; exact ⟨v, σ', H', I.unwish, r, q⟩
theorem PE.nox {e : Expr} {t : TE} (h : PE X.nox e t) : PE X e t := fun pins s σ H Q I hw =>
 wpAny_mono (h pins s σ H Q (I.wish _) hw) (fun _ _ ⟨v, H', I', r, q⟩ => ⟨v, H', I'.unwish, r, q⟩) fun _ _ z => False.elim z
theorem PT.nox {e : Expr} {t : TT} (h : PT X.nox e t) : PT X e t := fun pins s σ H Q I hw =>
 wpAny_mono (h pins s σ H Q (I.wish _) hw) (fun _ _ ⟨H', I', q⟩ => ⟨H', I'.unwish, q⟩) fun _ _ z => False.elim z
theorem PSs.nox {st : List Stmt} {t : TS} (h : PSs X.nox st t) : PSs X st t := fun pins s σ H D I hw =>
 wpAny_mono (h pins s σ H D (I.wish _) hw) (fun _ _ q => q.unwish) fun _ _ z => False.elim z
end
section
variable {X : Cx} {st : Stmt} {rest : List Stmt} {t u : TS} {e : Expr} {te : TE} {pos : Pos}
def ZV : TS := fun D σ H => D.nx σ H
def tSeq (t u : TS) : TS := fun D σ H => t { D with nx := u D } σ H
theorem Uu : PSs X [] ZV := fun _ _ σ H _ I h => wpAny_execs_nil ⟨σ, H, I, h⟩
theorem Ja (h1 : PS X st t) (h2 : PSs X rest u) : PSs X (st :: rest) (tSeq t u) := by
 intro pins s σ H D I h
 refine wpAny_execs_cons (thn (h1 pins s σ H { D with nx := u D } I h) fun f s1 q => ?_)
 cases f with
 | next =>
  obtain ⟨σ', H', I', q⟩ := q
  exact h2 pins s1 σ' H' D I' q
 | ret v => exact q
 | brk => exact q
 | cont => exact q
theorem K1 (h1 : PS X st t) : PSs X [st] t := by
 intro pins s σ H D I h
 refine wpAny_execs_cons (thn (h1 pins s σ H D I h) fun f s1 q => ?_)
 cases f with
 | next => exact wpAny_execs_nil q
 | ret v => exact q
 | brk => exact q
 | cont => exact q
theorem Inv.quiet {pins : List (Addr × Obj)} {σ : St} {H : Hp} {s : Shared} (I : Inv X pins σ H s) : interactive X.env = false := by simp [interactive, I.ok.kind]
def WY (te : TE) : TS := fun D σ H => te σ H fun _ H1 => D.nx σ H1
theorem Oj (he : PE X e te) (hs : swapsWith e none pos.line X.env = pure false := by rfl) : PS X (.Expr e pos) (WY te) := by
 intro pins s σ H D I h
 exact wpAny_Expr_any (thn (he pins s σ H _ I h) fun v s1 ⟨x, H1, I1, r1, q1⟩ => ⟨σ, H1, I1, q1⟩) I.quiet hs
def tRet (te : TE) : TS := fun D σ H => te σ H D.rt
theorem Q0 (he : PE X e te) : PS X (.Return (some e) pos) (tRet te) := by
 intro pins s σ H D I h
 exact wpAny_Return_some (thn (he pins s σ H _ I h) fun v s1 ⟨x, H1, I1, r1, q1⟩ => ⟨x, σ, H1, I1, r1, q1⟩)
def tIfS (c : TT) (t u : TS) : TS := fun D σ H => c σ H fun b H1 => if b = true then t D σ H1 else u D σ H1
theorem Wa {c : Expr} {a b : List Stmt} {tc : TT} (hc : PT X c tc) (ha : PSs X a t) (hb : PSs X b u) : PS X (.If c a b pos) (tIfS tc t u) := by
 intro pins s σ H D I h
 refine wpAny_If (thn (hc pins s σ H _ I h) fun d s1 ⟨H1, I1, q1⟩ => ?_)
 cases d with
 | true => exact ha pins s1 σ H1 D I1 q1
 | false => exact hb pins s1 σ H1 D I1 q1
end
abbrev TG := V → St → Hp → (St → Hp → Prop) → Prop
def PG (X : Cx) (target : Expr) (t : TG) : Prop :=
 ∀ (pins : List (Addr × Obj)) (s : Shared) (σ : St) (H : Hp) (v : V) (u : Value) (Q : St → Hp → Prop), Inv X pins σ H s → RelV v u → t v σ H Q →
  wpAny (model X.prog X.w) X.A (assign target X.env u) (fun _ s' => ∃ σ' H', Inv X pins σ' H' s' ∧ Q σ' H') X.xe s
section
variable {X : Cx} {pos : Pos}
def Gw (i : Nat) : TG := fun v σ H Q => Q (σ.set i (some v)) H
theorem Uv {i : Nat} {x : Str} (hN : X.N.Nodup) (hi : X.N[i]? = some x) (hx : Loc X.env.scope x) (hf : X.fn x = true ∨ X.env.scope.names.lookup x = some .local := by first | exact .inl rfl | exact .inr rfl | assumption) : PG X (.Name x pos) (Gw i) := by
 intro pins s σ H v u Q I r h
 exact wpAny_assign_Name (Hs I hN hi hx r (fun s' I' => ⟨_, H, I', h⟩) hf)
def tAsg (te : TE) (g : TG) : TS := fun D σ H => te σ H fun x H1 => g x σ H1 D.nx
theorem Jb {i : Nat} {x : Str} {e : Expr} {te : TE} {pos' : Pos} (hN : X.N.Nodup) (hi : X.N[i]? = some x) (hx : Loc X.env.scope x) (he : PE X e te) (hs : swapsWith e (some (.Name x pos')) pos.line X.env = pure false := by rfl) (hf : X.fn x = true ∨ X.env.scope.names.lookup x = some .local := by first | exact .inl rfl | exact .inr rfl | assumption) :
  PS X (.Assign [.Name x pos'] e pos) (tAsg te (Gw i)) := by
 intro pins s σ H D I h
 refine wpAny_Assign_Name (thn (he pins s σ H _ I h) fun v s1 ⟨y, H1, I1, r1, q1⟩ => ?_) hs
 exact Hs I1 hN hi hx r1 (fun s2 I2 => ⟨_, H1, I2, q1⟩) hf
end
section
variable {X : Cx} {pos : Pos}
def X5 (c : TT) (tb : TS) : TS := fun D σ H => ∃ W : Nat → St → Hp → Prop, (∃ m, W m σ H) ∧ ∀ m σ H, W m σ H →
 c σ H fun b H1 => if b = true then ∃ N : St → Hp → Prop, (∀ σ' H', N σ' H' → ∃ m', m' < m ∧ W m' σ' H') ∧ tb { D with nx := N, ct := N, bk := D.nx } σ H1 else D.nx σ H1
theorem Q3 {c : Expr} {body : List Stmt} {tc : TT} {tb : TS} (hp : PassesOwn (model X.prog X.w) X.A X.env X.xe) (hc : PT X c tc) (hb : PSs X body tb) : PS X (.While c body [] pos) (X5 tc tb) := by
 intro pins s σ H D I h
 obtain ⟨W, ⟨m0, w0⟩, turn⟩ := h
 refine wpAny_While (codeAny_whileLoop (fun n s' => ∃ σ' H', Inv X pins σ' H' s' ∧ W n σ' H') ?_ m0 ⟨σ, H, I, w0⟩)
 rintro n s1 ⟨σ1, H1, I1, w1⟩
 refine wpAny_passesOwn hp (thn (hc pins s1 σ1 H1 _ I1 (turn n σ1 H1 w1)) fun b s2 ⟨H2, I2, q2⟩ => ?_)
 cases b with
 | true =>
  obtain ⟨N, hN, q2⟩ := q2
  rw [if_pos rfl]
  refine wpAny_passesOwn hp (thn (hb pins s2 σ1 H2 _ I2 q2) fun f s3 q3 => ?_)
  cases f with
  | next =>
   obtain ⟨σ3, H3, I3, n3⟩ := q3
   obtain ⟨m', hm, w3⟩ := hN σ3 H3 n3
   exact ⟨m', hm, σ3, H3, I3, w3⟩
  | cont =>
   obtain ⟨σ3, H3, I3, n3⟩ := q3
   obtain ⟨m', hm, w3⟩ := hN σ3 H3 n3
   exact ⟨m', hm, σ3, H3, I3, w3⟩
  | brk => exact q3
  | ret v => exact q3
 | false =>
  rw [if_neg Bool.false_ne_true]
  exact wpAny_execs_nil ⟨σ1, H2, I2, q2⟩
end
structure It where
 go : Nat → Hp → Prop
 yld : Nat → Hp → V → Hp → Prop
 stop : Nat → Hp → Prop
def FpOk (X : Cx) (pins : List (Addr × Obj)) (H : Hp) (b : Addr) : Prop :=
 H b = none ∧ b ≠ X.env.locals ∧ b ∉ X.fs ∧ (b ∈ X.ex ∨ X.s₀.heap.objs.size ≤ b) ∧ (∀ x c, X.env.cells.lookup x = some c → c ≠ b) ∧ ∀ p ∈ X.pn ++ pins, p.1 ≠ b
theorem Inv.fpOk {X : Cx} {pins : List (Addr × Obj)} {σ : St} {H H' : Hp} {s : Shared} {b : Addr} (I : Inv X pins σ H s) (hb : s.heap.objs.size ≤ b) (hn : H' b = none) : FpOk X pins H' b := by
 refine ⟨hn, Nat.ne_of_gt (Nat.lt_of_lt_of_le I.lt hb), I.nofs hb, .inr (Nat.le_trans I.sz hb), fun x c e z => ?_, fun p hp z => ?_⟩
 ·obtain ⟨v, q⟩ := I.cell x c e
  exact absurd (Nat.lt_of_lt_of_le q.lt (by rw [z]; exact hb)) (Nat.lt_irrefl _)
 ·exact absurd (Nat.lt_of_lt_of_le (Heap.lt_size (I.pin p hp).1) (by rw [z]; exact hb)) (Nat.lt_irrefl _)
structure Turn (P : Program) (w : World) (K : PySem.W.Frag) (tg : Expr) (J : It) (fp : List Addr) (it : Addr) (tn : Nat → Heap → Prop) : Prop where
 mem : it ∈ fp
 obj : ∀ i h, tn i h → ∀ b ∈ fp, ∃ o, h.get? b = some o ∧ ∀ v, o.data ≠ .cell v
 keep : ∀ i h h', tn i h → (∀ b ∈ fp, ∀ o, h.get? b = some o → h'.get? b = some o) → tn i h'
 item : ∀ (X : Cx), X.prog = P → X.w = w → X.K = K → X.calm = true → ∀ (i : Nat) (pins : List (Addr × Obj)) (s : Shared) (σ : St) (H : Hp) (E : Value → Shared → Prop), Inv X pins σ H s → (∀ b ∈ fp, FpOk X pins H b) → tn i s.heap → J.go i H →
  wpAny (model P w) X.A (pyNext (.ref it)) (fun r s1 => ∃ u, r = some u ∧
   wpAny (model P w) X.A (letOwnedTupleGo tg (.ref it) u) (fun _ s2 => ∃ x H', Inv X pins σ H' s2 ∧ RelV x u ∧ J.yld i H x H' ∧ tn (i + 1) s2.heap ∧ ∀ b ∈ fp, H' b = none) E s1) E s
 done : ∀ (X : Cx), X.prog = P → X.w = w → X.K = K → X.calm = true → ∀ (i : Nat) (pins : List (Addr × Obj)) (s : Shared) (σ : St) (H : Hp) (E : Value → Shared → Prop), Inv X pins σ H s → (∀ b ∈ fp, FpOk X pins H b) → tn i s.heap → J.stop i H →
  wpAny (model P w) X.A (pyNext (.ref it)) (fun r s1 => r = none ∧ Inv X pins σ H s1) E s
 self : ∀ (A : Around) (i : Nat) (s : Shared) (Q : Value → Shared → Prop) (E : Value → Shared → Prop), tn i s.heap → Q (.ref it) s → wpAny (model P w) A (pyIter (.ref it)) Q E s
abbrev TI := St → Hp → (It → Hp → Prop) → Prop
def PIE (X : Cx) (pins : List (Addr × Obj)) (σ : St) (tg : Expr) (R : It → Hp → Prop) (itv : Value) (s2 : Shared) : Prop :=
 ∃ (it : Addr) (fp : List Addr) (tn : Nat → Heap → Prop) (J : It) (H' : Hp), itv = .ref it ∧ Inv X pins σ H' s2 ∧ Turn X.prog X.w X.K tg J fp it tn ∧ tn 0 s2.heap ∧ (∀ b ∈ fp, FpOk X pins H' b) ∧ R J H'
def PI (X : Cx) (tg iter : Expr) (wi : TI) : Prop :=
 ∀ (pins : List (Addr × Obj)) (s : Shared) (σ : St) (H : Hp) (R : It → Hp → Prop), Inv X pins σ H s → wi σ H R →
  wpAny (model X.prog X.w) X.A (eval iter X.env) (fun v s1 => wpAny (model X.prog X.w) X.A (pyIter v) (PIE X pins σ tg R) X.xe s1) X.xe s
theorem Ol {M : Model} {A : Around} {E : Value → Shared → Prop} {s : Shared} {tg : Expr} {it : Addr} {u : Value} {o : Obj} {n : String} {vs : Array Value} {Q : Unit → Shared → Prop} (ho : s.heap.get? it = some o) (hc : o.cls = .type n) (hd : o.data = .fields vs)
    (hn : ["enumerate", "zip", "dict_itemiterator", "dict_reverseitemiterator", "odict_iterator", "itertools.zip_longest", "itertools.pairwise"].contains n = false) (hQ : Q () s) : wpAny M A (letOwnedTupleGo tg (.ref it) u) Q E s := by
  unfold letOwnedTupleGo
  cases tg <;> first
    | exact wpAny_pure hQ
    | (cases u <;> first
        | exact wpAny_pure hQ
        | (refine wpAny_bind (wpAny_load ho ?_)
           rw [hc, hd]
           show wpAny M A (if (["enumerate", "zip", "dict_itemiterator", "dict_reverseitemiterator", "odict_iterator", "itertools.zip_longest", "itertools.pairwise"].contains n && vs[0]? == some (rawInt _)) = true then _ else _) Q E s
           rw [if_neg (by intro h; rw [hn, Bool.false_and] at h; cases h)]
           exact wpAny_pure hQ))
def Itl (K : PySem.W.Frag) (a : Addr) : It :=
 ⟨fun i H => ∃ xs x, SqL K H a xs ∧ xs[i]? = some x, fun i H x H' => H' = H ∧ ∀ xs, SqL K H a xs → xs[i]? = some x, fun i H => ∃ xs, SqL K H a xs ∧ xs.length ≤ i⟩
def Itt (K : PySem.W.Frag) (a : Addr) : It :=
 ⟨fun i H => ∃ xs x, SqT K H a xs ∧ xs[i]? = some x, fun i H x H' => H' = H ∧ ∀ xs, SqT K H a xs → xs[i]? = some x, fun i H => ∃ xs, SqT K H a xs ∧ xs.length ≤ i⟩
theorem QW {P : Program} {w : World} {K : PySem.W.Frag} {tg : Expr} (a it : Addr) : Turn P w K tg (Itl K a) [it] it (fun i h => h.IsListIter it a i) where
 mem := by simp
 obj := fun i h st b hb => by
  have e : b = it := by simpa using hb
  subst e
  obtain ⟨o, e, c, d⟩ := st
  exact ⟨o, e, fun v z => by rw [d] at z; cases z⟩
 keep := fun i h h' st k => st.at fun o e => k it (by simp) o e
 item := by
  intro X hP hw hK hc i pins s σ H E I hf st hg
  subst hP hw hK
  obtain ⟨xs, x, hq, hx⟩ := hg
  obtain ⟨its, rv, p, hz⟩ := I.list hq
  obtain ⟨u, hu, ru⟩ := rv.get hx
  obtain ⟨f0, f1, f2, f3, f4, f5⟩ := hf it (by simp)
  refine wpAny_pyNext_list_item st p.isList (x := u) (by simpa using hu) fun h' st' sb => ?_
  have I1 : Inv X pins σ H { s with heap := h' } := I.turned (t' := s.toks) (fun b o hb e => (sb.2 b hb).trans e) f0 f1 f3 f4 f5
  obtain ⟨o, e, c, d⟩ := id st'
  exact ⟨u, rfl, Ol (s := { s with heap := h' }) e c d (by decide) ⟨x, H, I1, ru, ⟨rfl, fun ys hy => by rw [I.list_inj hy hq]; exact hx⟩, st', fun b hb => (hf b hb).1⟩⟩
 done := by
  intro X hP hw hK hc i pins s σ H E I hf st hg
  subst hP hw hK
  obtain ⟨xs, hq, hx⟩ := hg
  obtain ⟨its, rv, p, hz⟩ := I.list hq
  obtain ⟨f0, f1, f2, f3, f4, f5⟩ := hf it (by simp)
  have hl := rv.length
  exact wpAny_pyNext_list_end (I.ok.hd hc) st p.isList (by simp; omega) fun h' eb => ⟨rfl, I.turned (t' := s.toks) (fun b o hb e => eb b o hb e) f0 f1 f3 f4 f5⟩
 self := fun _ _ _ _ _ st h => wpAny_pyIter_listiter st h
theorem Nf {P : Program} {w : World} {K : PySem.W.Frag} {tg : Expr} (a it : Addr) : Turn P w K tg (Itt K a) [it] it (fun i h => h.IsTupleIter it a i) where
 mem := by simp
 obj := fun i h st b hb => by
  have e : b = it := by simpa using hb
  subst e
  obtain ⟨o, e, c, d⟩ := st
  exact ⟨o, e, fun v z => by rw [d] at z; cases z⟩
 keep := fun i h h' st k => st.at fun o e => k it (by simp) o e
 item := by
  intro X hP hw hK hc i pins s σ H E I hf st hg
  subst hP hw hK
  obtain ⟨xs, x, hq, hx⟩ := hg
  obtain ⟨its, rv, p, hz⟩ := I.tuple hq
  obtain ⟨u, hu, ru⟩ := rv.get hx
  obtain ⟨f0, f1, f2, f3, f4, f5⟩ := hf it (by simp)
  refine wpAny_pyNext_tuple_item st (show s.heap.IsTuple a its.toArray from p) (x := u) (by simpa using hu) fun h' st' sb => ?_
  have I1 : Inv X pins σ H { s with heap := h' } := I.turned (t' := s.toks) (fun b o hb e => (sb.2 b hb).trans e) f0 f1 f3 f4 f5
  obtain ⟨o, e, c, d⟩ := id st'
  exact ⟨u, rfl, Ol (s := { s with heap := h' }) e c d (by decide) ⟨x, H, I1, ru, ⟨rfl, fun ys hy => by rw [I.tuple_inj hy hq]; exact hx⟩, st', fun b hb => (hf b hb).1⟩⟩
 done := by
  intro X hP hw hK hc i pins s σ H E I hf st hg
  subst hP hw hK
  obtain ⟨xs, hq, hx⟩ := hg
  obtain ⟨its, rv, p, hz⟩ := I.tuple hq
  obtain ⟨f0, f1, f2, f3, f4, f5⟩ := hf it (by simp)
  have hl := rv.length
  exact wpAny_pyNext_tuple_end (I.ok.hd hc) st (show s.heap.IsTuple a its.toArray from p) (by simp; omega) fun h' eb => ⟨rfl, I.turned (t' := s.toks) (fun b o hb e => eb b o hb e) f0 f1 f3 f4 f5⟩
 self := fun _ _ _ _ _ st h => wpAny_pyIter_tupleiter st h
end L2
namespace L2
open PySem PySem.Spec PyProof.Rows
section
variable {X : Cx} {tg : Expr}
def ZW (K : PySem.W.Frag) (tl : TE) : TI := fun σ H R => tl σ H fun x H1 => ∃ a, x = .ref a ∧ (∃ xs, SqL K H1 a xs) ∧ R (Itl K a) H1
def iTup (K : PySem.W.Frag) (tl : TE) : TI := fun σ H R => tl σ H fun x H1 => ∃ a, x = .ref a ∧ (∃ xs, SqT K H1 a xs) ∧ R (Itt K a) H1
theorem Om {l : Expr} {tl : TE} (hl : PE X l tl) : PI X tg l (ZW X.K tl) := by
 intro pins s σ H R I h
 refine thn (hl pins s σ H _ I h) fun v s1 ⟨x, H1, I1, r1, q1⟩ => ?_
 obtain ⟨a, e, ⟨xs, hq⟩, q⟩ := q1
 subst e
 cases r1
 obtain ⟨its, rv, p, hz⟩ := I1.list hq
 refine wpAny_pyIter_list p.isList ?_
 refine ⟨s1.heap.objs.size, [s1.heap.objs.size], _, _, H1, rfl, I1.kept (t' := s1.toks) fun b o e => Heap.get?_push_of_some _ e, QW a _, ⟨_, Heap.get?_push_size _ rfl, rfl, rfl⟩, fun b hb => ?_, q⟩
 have e : b = s1.heap.objs.size := by simpa using hb
 subst e
 exact I1.fpOk (Nat.le_refl _) (I1.hok.fresh (Nat.le_refl _))
theorem Q4 {l : Expr} {tl : TE} (hl : PE X l tl) : PI X tg l (iTup X.K tl) := by
 intro pins s σ H R I h
 refine thn (hl pins s σ H _ I h) fun v s1 ⟨x, H1, I1, r1, q1⟩ => ?_
 obtain ⟨a, e, ⟨xs, hq⟩, q⟩ := q1
 subst e
 cases r1
 obtain ⟨its, rv, p, hz⟩ := I1.tuple hq
 refine wpAny_pyIter_tuple (show s1.heap.IsTuple a its.toArray from p) ?_
 refine ⟨s1.heap.objs.size, [s1.heap.objs.size], _, _, H1, rfl, I1.kept (t' := s1.toks) fun b o e => Heap.get?_push_of_some _ e, Nf a _, ⟨_, Heap.get?_push_size _ rfl, rfl, rfl⟩, fun b hb => ?_, q⟩
 have e : b = s1.heap.objs.size := by simpa using hb
 subst e
 exact I1.fpOk (Nat.le_refl _) (I1.hok.fresh (Nat.le_refl _))
def tFor (wi : TI) (g : TG) (tb : TS) : TS := fun D σ H => wi σ H fun J H1 => ∃ W : Nat → Nat → St → Hp → Prop, (∃ m, W 0 m σ H1) ∧ ∀ i m σ H, W i m σ H →
 (J.stop i H ∧ D.nx σ H) ∨ (J.go i H ∧ ∃ N : St → Hp → Prop, (∀ σ' H', N σ' H' → ∃ m', m' < m ∧ W (i + 1) m' σ' H') ∧ ∀ x H', J.yld i H x H' → g x σ H' fun σ2 H2 => tb { D with nx := N, ct := N, bk := D.nx } σ2 H2)
def Jc (fp : List Addr) (h : Heap) : List (Addr × Obj) := fp.filterMap fun b => (h.get? b).map fun o => (b, o)
theorem Gh {fp : List Addr} {h : Heap} {b : Addr} {o : Obj} (hb : b ∈ fp) (e : h.get? b = some o) : (b, o) ∈ Jc fp h := List.mem_filterMap.mpr ⟨b, hb, by rw [e]; rfl⟩
theorem QX {fp : List Addr} {h : Heap} {p : Addr × Obj} (hp : p ∈ Jc fp h) : p.1 ∈ fp ∧ h.get? p.1 = some p.2 := by
 obtain ⟨b, hb, e⟩ := List.mem_filterMap.mp hp
 cases q : h.get? b with
 | none => rw [q] at e; cases e
 | some o =>
  rw [q] at e
  have e' : (b, o) = p := Option.some.inj e
  subst e'
  exact ⟨hb, q⟩
theorem Inv.pinned {pins : List (Addr × Obj)} {σ : St} {H : Hp} {s : Shared} {fp : List Addr} (I : Inv X pins σ H s) (hf : ∀ b ∈ fp, FpOk X pins H b) (ho : ∀ b ∈ fp, ∃ o, s.heap.get? b = some o ∧ ∀ v, o.data ≠ .cell v) : Inv X (pins ++ Jc fp s.heap) σ H s :=
 I.pins_of fun p hp => (List.mem_append.mp hp).elim (fun z => I.pin p (List.mem_append_right _ z)) fun z => by
  obtain ⟨hb, e⟩ := QX z
  obtain ⟨f0, f1, f2, _⟩ := hf p.1 hb
  obtain ⟨o, e', d⟩ := ho p.1 hb
  rw [e] at e'; cases e'
  exact ⟨e, f0, f1, f2, d⟩
theorem Inv.unpinned {pins pl : List (Addr × Obj)} {σ : St} {H : Hp} {s : Shared} (I : Inv X (pins ++ pl) σ H s) : Inv X pins σ H s := I.pins_of fun p hp => I.pin p (List.mem_append_right _ (List.mem_append_left _ hp))
theorem X6 {iter : Expr} {body : List Stmt} {wi : TI} {g : TG} {tb : TS} {pos : Pos} (hp : PassesOwn (model X.prog X.w) X.A X.env X.xe) (hc : X.calm = true) (hi : PI X tg iter wi) (hg : PG X tg g) (hb : PSs X body tb)
  (hs : ∀ x, foldedSetIterable iter X.env x = pure x := by intro _; rfl) : PS X (.For tg iter body [] pos) (tFor wi g tb) := by
 intro pins s σ H D I h
 refine wpAny_For (thn (hi pins s σ H _ I h) fun v s1 h1 => thn h1 fun itv s2 h2 => ?_) hs
 obtain ⟨it, fp, tn, J, H2, e, I2, T, st2, f2, W, ⟨m0, w0⟩, turn⟩ := h2
 subst e
 have stat : ∀ {H' : Hp}, (∀ b ∈ fp, H' b = none) → ∀ b ∈ fp, FpOk X pins H' b := fun hn b hb => ⟨hn b hb, (f2 b hb).2⟩
 refine codeAny_forLoop_any (fun n s' => ∃ i σ' H', Inv X pins σ' H' s' ∧ tn i s'.heap ∧ (∀ b ∈ fp, H' b = none) ∧ W i n σ' H') ?_ m0 ⟨0, σ, H2, I2, st2, fun b hb => (f2 b hb).1, w0⟩
 rintro n s3 ⟨i, σ3, H3, I3, st3, fr3, w3⟩
 rcases turn i n σ3 H3 w3 with ⟨stop, qn⟩ | ⟨go, N, hN, step⟩
 ·refine wpAny_passesOwn hp (thn (T.done X rfl rfl rfl hc i pins s3 σ3 H3 X.xe I3 (stat fr3) st3 stop) fun r s4 ⟨hr, I4⟩ => ?_)
  subst hr
  exact wpAny_execs_nil ⟨σ3, H3, I4, qn⟩
 ·refine wpAny_passesOwn hp (thn (T.item X rfl rfl rfl hc i pins s3 σ3 H3 X.xe I3 (stat fr3) st3 go) fun r s4 ⟨u, hr, h4⟩ => ?_)
  subst hr
  refine wpAny_passesOwn hp (thn h4 fun _ s5 ⟨x, H5, I5, r5, y5, st5, fr5⟩ => ?_)
  have I5' := I5.pinned (stat fr5) (T.obj _ _ st5)
  refine wpAny_passesOwn hp (thn (hg _ s5 σ3 H5 x u _ I5' r5 (step x H5 y5)) fun _ s6 ⟨σ6, H6, I6, q6⟩ => ?_)
  refine wpAny_passesOwn hp (thn (hb _ s6 σ6 H6 _ I6 q6) fun f s7 q7 => ?_)
  have again : ∀ {σ7 : St} {H7 : Hp}, Inv X (pins ++ Jc fp s5.heap) σ7 H7 s7 → N σ7 H7 → ∃ m, m < n ∧ ∃ i σ' H', Inv X pins σ' H' s7 ∧ tn i s7.heap ∧ (∀ b ∈ fp, H' b = none) ∧ W i m σ' H' := fun {σ7 H7} I7 n7 => by
   obtain ⟨m', hm, w7⟩ := hN σ7 H7 n7
   refine ⟨m', hm, i + 1, σ7, H7, I7.unpinned, T.keep _ _ _ st5 fun b hb o e => (I7.pin (b, o) (List.mem_append_right _ (List.mem_append_right _ (Gh hb e)))).1, fun b hb => ?_, w7⟩
   obtain ⟨o, e, d⟩ := T.obj _ _ st5 b hb
   exact (I7.pin (b, o) (List.mem_append_right _ (List.mem_append_right _ (Gh hb e)))).2.1
  cases f with
  | next => obtain ⟨σ7, H7, I7, n7⟩ := q7; exact again I7 n7
  | cont => obtain ⟨σ7, H7, I7, n7⟩ := q7; exact again I7 n7
  | brk => obtain ⟨σ7, H7, I7, q7⟩ := q7; exact ⟨σ7, H7, I7.unpinned, q7⟩
  | ret v => obtain ⟨x7, σ7, H7, I7, r7, q7⟩ := q7; exact ⟨x7, σ7, H7, I7.unpinned, r7, q7⟩
end
end L2
namespace L2
open PySem PySem.Spec PyProof.Rows
abbrev R2 := V → V → Hp → VK → Prop
def OpR (X : Cx) (f : Value → Value → Sem Value) (r : R2) : Prop :=
 ∀ (pins : List (Addr × Obj)) (s : Shared) (σ : St) (H : Hp) (x y : V) (v u : Value) (Q : VK), Inv X pins σ H s → RelV x v → RelV y u → r x y H Q →
  wpAny (model X.prog X.w) X.A (f v u) (EP X pins σ Q) X.xe s
def Gy (X : Cx) (f : Value) (r : List V → Hp → VK → Prop) : Prop :=
 ∀ (pins : List (Addr × Obj)) (s : Shared) (σ : St) (H : Hp) (xs : List V) (us : List Value) (Q : VK), Inv X pins σ H s → Vals xs us → r xs H Q →
  wpAny (model X.prog X.w) X.A (call f us) (EP X pins σ Q) X.xe s
def TruR (X : Cx) (r : V → Hp → (Bool → Hp → Prop) → Prop) : Prop :=
 ∀ (pins : List (Addr × Obj)) (s : Shared) (σ : St) (H : Hp) (x : V) (v : Value) (Q : Bool → Hp → Prop), Inv X pins σ H s → RelV x v → r x H Q →
  wpAny (model X.prog X.w) X.A (truthy v) (TP X pins σ Q) X.xe s
def tOp (r : R2) (ta tb : TE) : TE := fun σ H Q => ta σ H fun x H1 => tb σ H1 fun y H2 => r x y H2 Q
def rI (C : Int → Int → Prop) (g : Int → Int → V) : R2 := fun x y H Q => ∃ i j, x = .int i ∧ y = .int j ∧ C i j ∧ Q (g i j) H
def rI0 (g : Int → Int → V) : R2 := fun x y H Q => ∃ i j, x = .int i ∧ y = .int j ∧ Q (g i j) H
section
variable {X : Cx} {a b c : Expr} {ta tb tc : TE} {pos : Pos}
theorem binT (ha : PE X a ta) (hb : PE X b tb) {pins : List (Addr × Obj)} {s : Shared} {σ : St} {H : Hp} {R : V → V → Hp → Prop} (I : Inv X pins σ H s)
  (h : ta σ H fun x H1 => tb σ H1 fun y H2 => R x y H2) {Q : Value → Shared → Prop} {f : Value → Value → Sem Value}
  (hf : ∀ v u s2 x y H2, Inv X pins σ H2 s2 → RelV x v → RelV y u → R x y H2 → wpAny (model X.prog X.w) X.A (f v u) Q X.xe s2) :
  wpAny (model X.prog X.w) X.A (eval a X.env) (fun v s₁ => wpAny (model X.prog X.w) X.A (eval b X.env) (fun u s₂ => wpAny (model X.prog X.w) X.A (f v u) Q X.xe s₂) X.xe s₁) X.xe s := by
 refine thn (ha pins s σ H _ I h) fun v s1 ⟨x, H1, I1, r1, q1⟩ => ?_
 refine thn (hb pins s1 σ H1 _ I1 q1) fun u s2 ⟨y, H2, I2, r2, q2⟩ => ?_
 exact hf v u s2 x y H2 I2 r1 r2 q2
theorem ZX {op : Operator} {r : R2} (ho : OpR X (binaryOp op) r) (ha : PE X a ta) (hb : PE X b tb) : PE X (.BinOp a op b pos) (tOp r ta tb) := by
 intro pins s σ H Q I h
 exact wpAny_BinOp (binT ha hb I h fun v u s2 x y H2 I2 rx ry q => ho pins s2 σ H2 x y v u Q I2 rx ry q)
theorem opI {f : Value → Value → Sem Value} {C : Int → Int → Prop} {g : Int → Int → Int}
  (rule : ∀ (i j : Int) (t u : Tok) (s : Shared) (Q : Value → Shared → Prop) (E : Value → Shared → Prop), C i j → Q (.int (g i j) s.toks) { s with toks := s.toks + 1 } → wpAny (model X.prog X.w) X.A (f (.int i t) (.int j u)) Q E s) :
  OpR X f (rI C fun i j => .int (g i j)) := by
 intro pins s σ H x y v u Q I rx ry h
 obtain ⟨i, j, rfl, rfl, hc, q⟩ := h
 obtain ⟨t, rfl⟩ := rx
 obtain ⟨t', rfl⟩ := ry
 exact rule i j t t' s _ _ hc ⟨.int (g i j), H, I.tok _, ⟨_, rfl⟩, q⟩
theorem opI0 {f : Value → Value → Sem Value} {g : Int → Int → Int}
  (rule : ∀ (i j : Int) (t u : Tok) (s : Shared) (Q : Value → Shared → Prop) (E : Value → Shared → Prop), Q (.int (g i j) s.toks) { s with toks := s.toks + 1 } → wpAny (model X.prog X.w) X.A (f (.int i t) (.int j u)) Q E s) :
  OpR X f (rI0 fun i j => .int (g i j)) := by
 intro pins s σ H x y v u Q I rx ry h
 obtain ⟨i, j, rfl, rfl, q⟩ := h
 obtain ⟨t, rfl⟩ := rx
 obtain ⟨t', rfl⟩ := ry
 exact rule i j t t' s _ _ ⟨.int (g i j), H, I.tok _, ⟨_, rfl⟩, q⟩
theorem opB0 {f : Value → Value → Sem Value} {g : Int → Int → Bool}
  (rule : ∀ (i j : Int) (t u : Tok) (s : Shared) (Q : Value → Shared → Prop) (E : Value → Shared → Prop), Q (.bool (g i j)) s → wpAny (model X.prog X.w) X.A (f (.int i t) (.int j u)) Q E s) :
  OpR X f (rI0 fun i j => .bl (g i j)) := by
 intro pins s σ H x y v u Q I rx ry h
 obtain ⟨i, j, rfl, rfl, q⟩ := h
 obtain ⟨t, rfl⟩ := rx
 obtain ⟨t', rfl⟩ := ry
 exact rule i j t t' s _ _ ⟨.bl (g i j), H, I, rfl, q⟩
def CDiv (i j : Int) : Prop := 0 < j ∧ j < 1073741824
def CPow (i j : Int) : Prop := 0 ≤ j ∧ j ≤ 1000000 ∧ i.natAbs < 2 ^ 64
def CMul (i j : Int) : Prop := (-(2 ^ 64) < i ∧ i < 2 ^ 64) ∨ (-(2 ^ 64) < j ∧ j < 2 ^ 64)
theorem CMul.ok {i j : Int} (h : CMul i j) : IntMulOk i j := by
 rcases h with ⟨h1, h2⟩ | ⟨h1, h2⟩
 ·exact .of_left (intBits_le_64 h1 h2)
 ·exact .of_right (intBits_le_64 h1 h2)
theorem X7 : OpR X (binaryOp .Add) (rI0 fun i j => .int (i + j)) := opI0 fun _ _ _ _ _ _ _ q => add_int q
theorem X8 : OpR X (binaryOp .Sub) (rI0 fun i j => .int (i - j)) := opI0 fun _ _ _ _ _ _ _ q => sub_int q
theorem Uw : OpR X (binaryOp .FloorDiv) (rI CDiv fun i j => .int (i / j)) := opI fun i j _ _ _ _ _ hc q => by
 have h1 : (0 : Int) < j := hc.1
 have h2 : j < 1073741824 := hc.2
 exact floordiv_int (by omega) (by rw [Int.fdiv_eq_ediv_of_nonneg i (by omega)]; exact q) (.inl (PyProof.noPylong_small (by omega)))
theorem X_ : OpR X (binaryOp .Mod) (rI (fun _ j => 0 < j) fun i j => .int (i % j)) := opI fun i j _ _ _ _ _ hc q => by
 have h1 : (0 : Int) < j := hc
 exact mod_int' (by omega) (by rw [Int.fmod_eq_emod_of_nonneg i (by omega)]; exact q)
end
def scal : V → V → Bool
 | .non, .non => true | .non, .int _ => true | .int _, .non => true | .non, .bl _ => true | .bl _, .non => true | .non, .str _ => true | .str _, .non => true
 | .int _, .int _ => true | .bl _, .bl _ => true | .str _, .str _ => true | .byt _, .byt _ => true
 | .int _, .str _ => true | .str _, .int _ => true | .bl _, .str _ => true | .str _, .bl _ => true
 | _, _ => false
def rEq : R2 := fun x y H Q => scal x y = true ∧ Q (.bl (decide (x = y))) H
def rNe : R2 := fun x y H Q => scal x y = true ∧ Q (.bl (!decide (x = y))) H
theorem Oo {i j : Int} : decide (V.int i = V.int j) = (i == j) := by
 rw [Bool.eq_iff_iff]
 simp
theorem Q5 {i j : Bool} : decide (V.bl i = V.bl j) = (i == j) := by
 rw [Bool.eq_iff_iff]
 simp
theorem Oq {i j : Str} : decide (V.str i = V.str j) = (i == j) := by
 rw [Bool.eq_iff_iff]
 simp
theorem Ot {i j : Array UInt8} : decide (V.byt i = V.byt j) = (i.toList == j.toList) := by
 rw [Bool.eq_iff_iff]
 cases i
 cases j
 simp
section
variable {X : Cx} {a b c : Expr} {ta tb tc : TE} {pos : Pos}
theorem CJ {pins : List (Addr × Obj)} {σ : St} {H : Hp} {s : Shared} {Q : VK} {k k' : Bool} (I : Inv X pins σ H s) (q : Q (.bl k) H) (e : k = k') : EP X pins σ Q (.bool k') s := by
 subst e
 exact ⟨.bl k, H, I, rfl, q⟩
theorem ZZ : OpR X (compareOp .Eq) rEq := by
 intro pins s σ H x y v u Q I rx ry h
 obtain ⟨hs, q⟩ := h
 cases x with
 | non =>
  cases rx
  cases y with
  | non => cases ry; exact PySem.EqNone.eq_none_none (CJ I q (by simp))
  | bl j => cases ry; exact PySem.EqNone.eq_none_bool (CJ I q (by simp))
  | int j => obtain ⟨t', rfl⟩ := ry; exact PySem.EqNone.eq_none_int (CJ I q (by simp))
  | str j => obtain ⟨t', rfl⟩ := ry; exact PySem.EqNone.eq_none_str (CJ I q (by simp))
  | _ => exact absurd (show false = true from hs) Bool.false_ne_true
 | bl i =>
  cases rx
  cases y with
  | non => cases ry; exact PySem.EqNone.eq_bool_none (CJ I q (by simp))
  | bl j => cases ry; exact eq_bool (CJ I q Q5)
  | str j => obtain ⟨t', rfl⟩ := ry; exact PySem.EqMixed.eq_bool_str (CJ I q (by simp))
  | _ => exact absurd (show false = true from hs) Bool.false_ne_true
 | int i =>
  obtain ⟨t, rfl⟩ := rx
  cases y with
  | non => cases ry; exact PySem.EqNone.eq_int_none (CJ I q (by simp))
  | int j => obtain ⟨t', rfl⟩ := ry; exact eq_int (CJ I q Oo)
  | str j => obtain ⟨t', rfl⟩ := ry; exact PySem.EqMixed.eq_int_str (CJ I q (by simp))
  | _ => exact absurd (show false = true from hs) Bool.false_ne_true
 | str i =>
  obtain ⟨t, rfl⟩ := rx
  cases y with
  | non => cases ry; exact PySem.EqNone.eq_str_none (CJ I q (by simp))
  | bl j => cases ry; exact PySem.EqMixed.eq_str_bool (CJ I q (by simp))
  | int j => obtain ⟨t', rfl⟩ := ry; exact PySem.EqMixed.eq_str_int (CJ I q (by simp))
  | str j => obtain ⟨t', rfl⟩ := ry; exact eq_str (CJ I q Oq)
  | _ => exact absurd (show false = true from hs) Bool.false_ne_true
 | byt i =>
  obtain ⟨t, rfl⟩ := rx
  cases y with
  | byt j => obtain ⟨t', rfl⟩ := ry; exact PySem.W.eq_bytes (CJ I q Ot)
  | _ => exact absurd (show false = true from hs) Bool.false_ne_true
 | _ => cases y <;> exact absurd (show false = true from hs) Bool.false_ne_true
theorem Za : OpR X (compareOp .NotEq) rNe := by
 intro pins s σ H x y v u Q I rx ry h
 obtain ⟨hs, q⟩ := h
 cases x with
 | non =>
  cases rx
  cases y with
  | non => cases ry; exact PySem.EqNone.ne_none_none (CJ I q (by simp))
  | bl j => cases ry; exact PySem.EqNone.ne_none_bool (CJ I q (by simp))
  | int j => obtain ⟨t', rfl⟩ := ry; exact PySem.EqNone.ne_none_int (CJ I q (by simp))
  | str j => obtain ⟨t', rfl⟩ := ry; exact PySem.EqNone.ne_none_str (CJ I q (by simp))
  | _ => exact absurd (show false = true from hs) Bool.false_ne_true
 | bl i =>
  cases rx
  cases y with
  | non => cases ry; exact PySem.EqNone.ne_bool_none (CJ I q (by simp))
  | bl j => cases ry; exact ne_bool (CJ I q (congrArg not Q5))
  | str j => obtain ⟨t', rfl⟩ := ry; exact PySem.EqMixed.ne_bool_str (CJ I q (by simp))
  | _ => exact absurd (show false = true from hs) Bool.false_ne_true
 | int i =>
  obtain ⟨t, rfl⟩ := rx
  cases y with
  | non => cases ry; exact PySem.EqNone.ne_int_none (CJ I q (by simp))
  | int j => obtain ⟨t', rfl⟩ := ry; exact ne_int (CJ I q (congrArg not Oo))
  | str j => obtain ⟨t', rfl⟩ := ry; exact PySem.EqMixed.ne_int_str (CJ I q (by simp))
  | _ => exact absurd (show false = true from hs) Bool.false_ne_true
 | str i =>
  obtain ⟨t, rfl⟩ := rx
  cases y with
  | non => cases ry; exact PySem.EqNone.ne_str_none (CJ I q (by simp))
  | bl j => cases ry; exact PySem.EqMixed.ne_str_bool (CJ I q (by simp))
  | int j => obtain ⟨t', rfl⟩ := ry; exact PySem.EqMixed.ne_str_int (CJ I q (by simp))
  | str j => obtain ⟨t', rfl⟩ := ry; exact ne_str (CJ I q (congrArg not Oq))
  | _ => exact absurd (show false = true from hs) Bool.false_ne_true
 | byt i =>
  obtain ⟨t, rfl⟩ := rx
  cases y with
  | byt j => obtain ⟨t', rfl⟩ := ry; exact PySem.W.ne_bytes (CJ I q (congrArg not Ot))
  | _ => exact absurd (show false = true from hs) Bool.false_ne_true
 | _ => cases y <;> exact absurd (show false = true from hs) Bool.false_ne_true
theorem Wb : OpR X (compareOp .Lt) (rI0 fun i j => .bl (decide (i < j))) := opB0 fun _ _ _ _ _ _ _ q => lt_int q
theorem Zb : OpR X (compareOp .Gt) (rI0 fun i j => .bl (decide (j < i))) := opB0 fun _ _ _ _ _ _ _ q => gt_int q
theorem QZ : OpR X (compareOp .In) (fun x y H Q => ∃ i j, x = .str i ∧ y = .str j ∧ Q (.bl (!(Builtin.Str.occurrences j i 0 j.length 1).isEmpty)) H) := by
 intro pins s σ H x y v u Q I rx ry h
 obtain ⟨i, j, rfl, rfl, q⟩ := h
 obtain ⟨t, rfl⟩ := rx
 obtain ⟨t', rfl⟩ := ry
 exact in_str (CJ I q rfl)
theorem OpR.or {f : Value → Value → Sem Value} {r r' : R2} (h : OpR X f r) (h' : OpR X f r') : OpR X f (fun x y H Q => r x y H Q ∨ r' x y H Q) := by
 intro pins s σ H x y v u Q I rx ry q
 rcases q with q | q
 ·exact h pins s σ H x y v u Q I rx ry q
 ·exact h' pins s σ H x y v u Q I rx ry q
theorem Ie (b : Expr) {op : CmpOp} (h : op ≠ .In := by decide) (h2 : op ≠ .NotIn := by decide) : behindInMarks op b = false := by
 have e1 : (op == CmpOp.In) = false := by cases op <;> first | rfl | exact absurd rfl h
 have e2 : (op == CmpOp.NotIn) = false := by cases op <;> first | rfl | exact absurd rfl h2
 cases b <;> simp [behindInMarks, e1, e2]
theorem Ux {op : CmpOp} {r : R2} (ho : OpR X (compareOp op) r) (ha : PE X a ta) (hb : PE X b tb) (hm : behindInMarks op b = false) : PE X (.Compare a [op] [b] pos) (tOp r ta tb) := by
 intro pins s σ H Q I h
 exact wpAny_Compare1 (binT ha hb I h fun v u s2 x y H2 I2 rx ry q => ho pins s2 σ H2 x y v u Q I2 rx ry q) hm
def Zc (t : TE) : TT := fun σ H Q => t σ H fun x H' => ∃ k, x = .bl k ∧ Q k H'
theorem Uy {op : CmpOp} {r : R2} (ho : OpR X (compareOp op) r) (ha : PE X a ta) (hb : PE X b tb) (hm : behindInMarks op b = false) : PT X (.Compare a [op] [b] pos) (Zc (tOp r ta tb)) := by
 intro pins s σ H Q I h
 refine wpAny_isTrue_Compare1 (thn (ha pins s σ H _ I h) fun v s1 ⟨x, H1, I1, r1, q1⟩ => thn (hb pins s1 σ H1 _ I1 q1) fun u s2 ⟨y, H2, I2, r2, q2⟩ =>
  thn (ho pins s2 σ H2 x y v u _ I2 r1 r2 q2) fun c s3 ⟨z, H3, I3, r3, k, e, q3⟩ => ?_) hm
 subst e
 cases r3
 exact wpAny_truthy_bool ⟨H3, I3, q3⟩
def TruV (K : PySem.W.Frag) (x : V) (H : Hp) (k : Bool) : Prop :=
 match x with
 | .non => k = false
 | .bl b => k = b
 | .int i => k = (i != 0)
 | .str y => y.length ≤ sizeLine ∧ k = ((y.length : Int) != 0)
 | .byt y => y.size ≤ sizeLine ∧ k = ((y.size : Int) != 0)
 | .ref p => (∃ xs, SqL K H p xs ∧ k = !xs.isEmpty) ∨ (∃ xs, SqT K H p xs ∧ k = !xs.isEmpty) ∨ ∃ kvs, H p = some (.dK kvs) ∧ k = !kvs.isEmpty
 | _ => False
theorem Ng {κ : Type} {kvs : List (κ × V)} {vs : List (κ × Value)} (r : KV kvs vs) : (!vs.isEmpty) = !kvs.isEmpty := by
 cases r <;> rfl
theorem Jd {xs : List V} {its : List Value} (r : Vals xs its) : (!its.toArray.isEmpty) = !xs.isEmpty := by
 cases r <;> simp
theorem Je : (sizeLine : Nat) < 2 ^ 63 := by rw [sizeLine_eq]; decide
theorem YB : TruR X (fun x H Q => ∃ k, TruV X.K x H k ∧ Q k H) := by
 intro pins s σ H x v Q I rx h
 obtain ⟨k, e, q⟩ := h
 have hl := Je
 have hs : sizeLine = 16777216 := sizeLine_eq
 cases x with
 | non =>
  cases rx
  have e' : k = false := e
  subst e'
  exact truthy_none ⟨H, I, q⟩
 | bl b =>
  cases rx
  have e' : k = b := e
  subst e'
  exact wpAny_truthy_bool ⟨H, I, q⟩
 | int i =>
  obtain ⟨t, rfl⟩ := rx
  have e' : k = (i != 0) := e
  subst e'
  exact PySem.P.truthy_int ⟨H, I, q⟩
 | str y =>
  obtain ⟨t, rfl⟩ := rx
  obtain ⟨hy, e'⟩ : y.length ≤ sizeLine ∧ k = ((y.length : Int) != 0) := e
  subst e'
  exact PySem.P.truthy_str (by omega) ⟨H, I.tok _, q⟩
 | byt y =>
  obtain ⟨t, rfl⟩ := rx
  obtain ⟨hy, e'⟩ : y.size ≤ sizeLine ∧ k = ((y.size : Int) != 0) := e
  subst e'
  exact PySem.W.truthy_bytes (by omega) ⟨H, I.tok _, q⟩
 | ref p =>
  cases rx
  have e' : (∃ xs, SqL X.K H p xs ∧ k = !xs.isEmpty) ∨ (∃ xs, SqT X.K H p xs ∧ k = !xs.isEmpty) ∨ ∃ kvs, H p = some (.dK kvs) ∧ k = !kvs.isEmpty := e
  rcases e' with ⟨xs, hx, e'⟩ | ⟨xs, hx, e'⟩ | ⟨kvs, hx, e'⟩
  ·subst e'
   obtain ⟨its, r, pl, hz⟩ := I.list hx
   have hlen := r.length
   exact wpAny_truthy_list pl.isList (by simp only [List.size_toArray]; omega) ⟨H, I.tok _, by rw [Jd r]; exact q⟩
  ·subst e'
   obtain ⟨its, r, pl, hz⟩ := I.tuple hx
   have hlen := r.length
   exact truthy_tuple pl (by simp only [List.size_toArray]; omega) ⟨H, I.tok _, by rw [Jd r]; exact q⟩
  ·subst e'
   obtain ⟨hz, hS, vs, r, m⟩ : kvs.length ≤ sizeLine ∧ (p == sysModules) = false ∧ ∃ vs, KV kvs vs ∧ s.heap.DictOf (DG X.prog X.w) p vs := I.hok p _ hx
   have hlen : kvs.length = vs.length := Paired.length r
   exact wpAny_truthy_dict hS m (by omega) ⟨H, I.tok _, by rw [Ng r]; exact q⟩
 | _ => exact (show False from e).elim
theorem Q6 (ha : PE X a ta) (he : ∀ whole, isTrue a X.env whole = (do let v ← whole; standAt a.pos; holding [v] (truthy v))) :
  PT X a (fun σ H Q => ta σ H fun x H' => ∃ k, TruV X.K x H' k ∧ Q k H') := by
 intro pins s σ H Q I h
 exact isTrue_plain (thn (ha pins s σ H _ I h) fun v s1 ⟨x, H1, I1, r1, q1⟩ => YB pins s1 σ H1 x v Q I1 r1 q1) (he _)
theorem Nh : OpR X (binaryOp .Add) (fun x y H Q => ∃ i j, x = .str i ∧ y = .str j ∧ i.length + j.length ≤ sizeLine ∧ Q (.str (i ++ j)) H) := by
 intro pins s σ H x y v u Q I rx ry h
 obtain ⟨i, j, rfl, rfl, hz, q⟩ := h
 obtain ⟨t, rfl⟩ := rx
 obtain ⟨t', rfl⟩ := ry
 exact add_str (fun t' tk => ⟨.str (i ++ j), H, I.tok _, ⟨_, rfl⟩, q⟩) hz
theorem vals1 {x : V} {us : List Value} (r : Vals [x] us) : ∃ u, us = [u] ∧ RelV x u := by
 cases r with
 | cons r1 r2 => cases r2; exact ⟨_, rfl, r1⟩
theorem vals2 {x y : V} {us : List Value} (r : Vals [x, y] us) : ∃ u w', us = [u, w'] ∧ RelV x u ∧ RelV y w' := by
 cases r with
 | cons r1 r2 =>
  cases r2 with
  | cons r3 r4 => cases r4; exact ⟨_, _, rfl, r1, r3⟩
def LenV (K : PySem.W.Frag) (x : V) (H : Hp) (n : Nat) : Prop :=
 match x with
 | .str y => y.length ≤ sizeLine ∧ n = y.length
 | .byt y => y.size ≤ sizeLine ∧ n = y.size
 | .ref p => (∃ xs, SqL K H p xs ∧ n = xs.length) ∨ ∃ xs, SqT K H p xs ∧ n = xs.length
 | _ => False
theorem Q7 : Gy X (.builtin "len") (fun xs H Q => ∃ x n, xs = [x] ∧ LenV X.K x H n ∧ Q (.int n) H) := by
 intro pins s σ H xs us Q I r h
 obtain ⟨x, n, rfl, e, q⟩ := h
 obtain ⟨u, rfl, rx⟩ := vals1 r
 have hl := Je
 have hs : sizeLine = 16777216 := sizeLine_eq
 cases x with
 | str y =>
  obtain ⟨t, rfl⟩ := rx
  obtain ⟨hy, e'⟩ : y.length ≤ sizeLine ∧ n = y.length := e
  subst e'
  exact len_str (by omega) ⟨.int _, H, I.tok _, ⟨_, rfl⟩, q⟩
 | byt y =>
  obtain ⟨t, rfl⟩ := rx
  obtain ⟨hy, e'⟩ : y.size ≤ sizeLine ∧ n = y.size := e
  subst e'
  exact PySem.W.len_bytes (by omega) ⟨.int _, H, I.tok _, ⟨_, rfl⟩, q⟩
 | ref p =>
  cases rx
  have e' : (∃ xs, SqL X.K H p xs ∧ n = xs.length) ∨ ∃ xs, SqT X.K H p xs ∧ n = xs.length := e
  rcases e' with ⟨xs, hx, e'⟩ | ⟨xs, hx, e'⟩
  ·subst e'
   obtain ⟨its, r', pl, hz⟩ := I.list hx
   have hlen := r'.length
   exact Calls.call_len_list pl.isList (by simp only [List.size_toArray]; omega) ⟨.int xs.length, H, I.tok _, ⟨_, by simp only [List.size_toArray]; rw [hlen]⟩, q⟩
  ·subst e'
   obtain ⟨its, r', pl, hz⟩ := I.tuple hx
   have hlen := r'.length
   exact len_tuple pl (by simp only [List.size_toArray]; omega) ⟨.int xs.length, H, I.tok _, ⟨_, by simp only [List.size_toArray]; rw [hlen]⟩, q⟩
 | _ => exact (show False from e).elim
end
end L2
namespace L2
open PySem PySem.Spec PyProof.Rows
structure ObjM (h : Heap) (x dx C : Addr) (mA : Str → Option Value) : Prop where
 obj : h.get? x = some (PySem.W.instObj C dx)
 ns : h.Ns1 dx mA
 ne : dx ≠ x
theorem KZ {h : Heap} {dx : Addr} {mA : Str → Option Value} (n : h.Ns1 dx mA) : ∃ od, h.get? dx = some od ∧ ∀ name, PySem.W.lookIn name od = some (mA name) := by
 obtain ⟨o, es, ep, ho, hd, hk, _, hm⟩ := n
 refine ⟨o, ho, fun name => ?_⟩
 have e := hm name
 unfold nsFind findBy at e
 rw [← Array.find?_toList] at e
 unfold PySem.W.lookIn
 rw [hd]
 dsimp only
 split
 ·rename_i y q
  rw [q] at e
  exact congrArg some e
 ·rename_i q
  rw [q] at e
  have a : es.toList.any (·.refKey) = false := by
   rw [List.any_eq_false]
   intro y hy
   obtain ⟨z, t, hkey⟩ := hk y (Array.mem_toList_iff.mp hy)
   simp [DictEntry.refKey, hkey]
  have a' : ¬ es.toList.any (·.refKey) = true := by rw [a]; exact Bool.false_ne_true
  rw [if_neg a']
  exact congrArg some e
theorem ObjM.look {h : Heap} {x dx C : Addr} {mA : Str → Option Value} (I : ObjM h x dx C mA) : ∃ od, PySem.W.InstAt h x (PySem.W.instObj C dx) C (some od) ∧ ∀ name, PySem.W.lookIn name od = some (mA name) :=
 let ⟨od, ho, hl⟩ := KZ I.ns
 ⟨od, ⟨I.obj, rfl, rfl, ho⟩, hl⟩
section
variable {prog : Program} {w : World} {A : Around} {E : Value → Shared → Prop} {s : Shared} {K : PySem.W.Frag} {x dx C f : Addr} {mA : Str → Option Value} {name : Str} {v : Value}
theorem Uz {expr : Bool} {Q : Value → Shared → Prop} (X : K.In s.heap) (I : ObjM s.heap x dx C mA) (hg : PySem.W.plainGet K C name = true) (hh : PySem.W.hasDictIn K C = true)
  (ha : PySem.W.findIn K (.ref C) name = some none) (hv : mA name = some v) (hv' : PySem.W.handedIn v = true) (h : Q v { s with toks := s.toks + 1 }) :
  wpAny (model prog w) A (getAttr (.ref x) name expr) Q E s := by
 obtain ⟨od, J, hl⟩ := I.look
 exact PySem.W.get_value X J (PySem.W.plainGet_of hg).1 (PySem.W.findObj_own hh ha rfl (by rw [hl, hv])) hv' h
theorem Q8 {pl : Sem Bool} {Q : Value × List Value → Shared → Prop} (X : K.In s.heap) (I : ObjM s.heap x dx C mA) (hg : PySem.W.plainGet K C name = true)
  (hf : PySem.W.findIn K (.ref C) name = some (some (.ref f))) (ht : PySem.W.isFn K (.ref f) = true) (hv : mA name = none) (h : Q (.ref f, [.ref x]) s) :
  wpAny (model prog w) A (getMethod (.ref x) name pl) Q E s := by
 obtain ⟨od, J, hl⟩ := I.look
 exact PySem.W.method_fn X J (PySem.W.plainGet_of hg).1 (PySem.W.plainGet_of hg).2 hf (beq_iff_eq.mp ht) (by show (PySem.W.lookIn name od).map (·.isSome) = some false; rw [hl, hv]; rfl) h
theorem U0 {ns : List Str} {Q : Unit → Shared → Prop} (X : K.In s.heap) (I : ObjM s.heap x dx C mA)
  (hs : PySem.W.findIn K (.ref C) "__setattr__" = some (some (.builtin "object.__setattr__"))) (hp : PySem.W.plainOver K C = true) (ht : PySem.W.takerIn K C name = some none) (hh : PySem.W.hasDictIn K C = true)
  (hw : PySem.Within mA ns) (hsz : ns.length ≤ sizeLine)
  (h : ∀ h', ObjM h' x dx C (fun y => if y = name then some v else mA y) → Heap.SameBut dx s.heap h' → Q () { s with heap := h', toks := s.toks + 2 }) :
  wpAny (model prog w) A (setAttr (.ref x) name v) Q E s := by
 obtain ⟨od, J, hl⟩ := I.look
 refine PySem.W.set_plain X J hs (PySem.W.osa_open (s := { s with toks := s.toks + 1 }) (r := none) X J hp ht fun b => ?_)
 obtain ⟨cd, hc, hd'⟩ := PySem.W.any_some hh
 have hx : s.heap.get? x = some ⟨.ref C, some dx, .plain, #[]⟩ := I.obj
 refine wpAny_bind (wpAny_pure (wpAny_bind (wpAny_bind (wpAny_loadPart hx (wpAny_bind (PySem.W.Looks.here (s := { s with toks := s.toks + 1 }) (PySem.W.looks_clsIn X hc) ?_))))))
 rw [hd']
 refine wpAny_pure (a := some dx) (wpAny_bind (wpAny_pure (wpAny_bind ?_)))
 refine wpAny_nsSet1 (s := { s with toks := s.toks + 1 }) I.ns fun h' hn2 hs2 => ?_
 obtain ⟨oD, esD, epD, hoD, hdD, hcD⟩ := hn2.count (PySem.Within.cons name v hw)
 refine wpAny_bind (wpAny_lookBehind hoD (by rw [hdD]; exact pastItsLine_dict (Nat.le_trans hcD (by rw [List.length_cons]; omega))) ?_)
 exact wpAny_pure (h _ ⟨(hs2.2 _ (Ne.symm I.ne)).trans I.obj, hn2, I.ne⟩ hs2)
theorem Q9 {R : Result → Shared → Prop} {vs : List Value} {kw : List (Str × Value)} (X : K.In s.heap) (hm : PySem.W.makesIn K C = true)
  (hi : PySem.W.findIn K (.ref C) "__init__" = some (some (.ref f))) (hf : PySem.W.typeIn K (.ref f) = some (.type "function"))
  (h : codeAny (model prog w) (A.under (.builtin "type.__call__" ⟨.ref C :: vs, kw⟩)) (.call (.ref f) ⟨.ref (s.heap.objs.size + 1) :: vs, kw⟩) (PySem.W.InitBack (s.heap.objs.size + 1) R)
   { s with heap := (s.heap.push PySem.W.emptyDict).push (PySem.W.instObj C s.heap.objs.size) }) :
  codeAny (model prog w) A (.call (.ref C) ⟨vs, kw⟩) R s := by
 obtain ⟨hh, g, d, t, os⟩ := s
 exact PySem.W.make_core (PySem.W.makes_of X hm) (PySem.W.looks_findIn X hi) (fun self => PySem.W.bind_fn X self hf) (.inl rfl) h
end
def putF (f : Str) (v : V) : List (Str × V) → List (Str × V)
 | [] => [(f, v)]
 | (g, x) :: r => if g = f then (g, v) :: r else (g, x) :: putF f v r
theorem Iv (f g : Str) (v : V) : ∀ fs : List (Str × V), (putF f v fs).lookup g = if g = f then some v else fs.lookup g
 | [] => by
  show List.lookup g [(f, v)] = _
  by_cases h : g = f
  ·have hb : (g == f) = true := beq_iff_eq.mpr h
   simp only [List.lookup, hb, if_pos h]
  ·have hb : (g == f) = false := beq_eq_false_iff_ne.mpr h
   simp only [List.lookup, hb, if_neg h]
 | (k, x) :: r => by
  have ih := Iv f g v r
  rw [show putF f v ((k, x) :: r) = (if k = f then (k, v) :: r else (k, x) :: putF f v r) from rfl]
  by_cases hk : k = f
  ·rw [if_pos hk]
   by_cases h : g = k
   ·have hb : (g == k) = true := beq_iff_eq.mpr h
    simp only [List.lookup, hb, if_pos (h.trans hk)]
   ·have hb : (g == k) = false := beq_eq_false_iff_ne.mpr h
    simp only [List.lookup, hb, if_neg (fun e : g = f => h (e.trans hk.symm))]
  ·rw [if_neg hk]
   by_cases h : g = k
   ·have hb : (g == k) = true := beq_iff_eq.mpr h
    simp only [List.lookup, hb, if_neg (fun e : g = f => hk (h.symm.trans e))]
   ·have hb : (g == k) = false := beq_eq_false_iff_ne.mpr h
    simp only [List.lookup, hb]
    exact ih
theorem Ig (f : Str) (v : V) : ∀ fs : List (Str × V), f ∈ (putF f v fs).map (·.1) ∧ ∀ g, g ∈ fs.map (·.1) → g ∈ (putF f v fs).map (·.1)
 | [] => ⟨by simp [putF], fun g h => by simp at h⟩
 | (k, x) :: r => by
  obtain ⟨i1, i2⟩ := Ig f v r
  rw [show putF f v ((k, x) :: r) = (if k = f then (k, v) :: r else (k, x) :: putF f v r) from rfl]
  by_cases hk : k = f
  ·rw [if_pos hk]
   subst hk
   exact ⟨by simp, fun g h => by simpa using h⟩
  ·rw [if_neg hk]
   refine ⟨?_, fun g h => ?_⟩
   ·rw [List.map_cons]
    exact List.mem_cons_of_mem _ i1
   ·rw [List.map_cons] at h ⊢
    rcases List.mem_cons.mp h with e | e
    ·exact List.mem_cons.mpr (.inl e)
    ·exact List.mem_cons_of_mem _ (i2 g e)
theorem Iw (f : Str) (v : V) : ∀ fs : List (Str × V), (putF f v fs).length ≤ fs.length + 1
 | [] => by simp [putF]
 | (k, x) :: r => by
  have ih := Iw f v r
  rw [show putF f v ((k, x) :: r) = (if k = f then (k, v) :: r else (k, x) :: putF f v r) from rfl]
  by_cases hk : k = f
  ·rw [if_pos hk, List.length_cons, List.length_cons]; omega
  ·rw [if_neg hk, List.length_cons, List.length_cons]; omega
theorem RelO.some_of {v : V} {o : Option Value} (r : RelO (some v) o) : ∃ u, o = some u ∧ RelV v u := by
 cases o with
 | none => exact (show False from r).elim
 | some u => exact ⟨u, rfl, r⟩
theorem RelO.none_of {o : Option Value} (r : RelO none o) : o = none := by
 cases o with
 | none => rfl
 | some u => exact (show False from r).elim
theorem Ka {v : V} {u : Value} (r : RelV v u) : PySem.W.handedIn u = true := by
 cases v with
 | non => cases (show u = Value.none from r); rfl
 | bl b => cases (show u = Value.bool b from r); rfl
 | int i => obtain ⟨t, e⟩ := (show ∃ t, u = Value.int i t from r); cases e; rfl
 | str x => obtain ⟨t, e⟩ := (show ∃ t, u = Value.str x t from r); cases e; rfl
 | byt b => obtain ⟨t, e⟩ := (show ∃ t, u = Value.bytes b t from r); cases e; rfl
 | flt b => obtain ⟨t, e⟩ := (show ∃ t, u = Value.float b t from r); cases e; rfl
 | ref a => cases (show u = Value.ref a from r); rfl
 | ty n => cases (show u = Value.type n from r); rfl
section
variable {P : Program} {w : World} {H H' : Hp} {h h' : Heap} {a C dx : Addr} {fs fs' : List (Str × V)}
theorem JS (hok : HOk P w H h) (e : H a = some (.ins C dx fs)) : ∃ mA, ObjM h a dx C mA ∧ (∀ f, RelO (fs.lookup f) (mA f)) ∧ PySem.Within mA (fs.map (·.1)) ∧ fs.length ≤ 1000 ∧ H dx = some (.own a) := by
 obtain ⟨d, z, ne, ob, mA, n, r, q⟩ := (show Cr P w H h a (.ins C dx fs) from hok a _ e)
 exact ⟨mA, ⟨ob, n, ne⟩, r, q, z, d⟩
end
structure Cls (K : PySem.W.Frag) (C : Addr) : Prop where
 pg : PySem.W.plainGet K C Str.empty = true
 hd : PySem.W.hasDictIn K C = true
 po : PySem.W.plainOver K C = true
 sa : PySem.W.findIn K (.ref C) "__setattr__" = some (some (.builtin "object.__setattr__"))
theorem Cls.get {K : PySem.W.Frag} {C : Addr} (c : Cls K C) (f : Str) : PySem.W.plainGet K C f = true := c.pg
def Cv (K : PySem.W.Frag) (C : Addr) (f : Str) : Prop := PySem.W.findIn K (.ref C) f = some none
theorem Cv.taker {K : PySem.W.Frag} {C : Addr} {f : Str} (n : Cv K C f) : PySem.W.takerIn K C f = some none := by
 unfold PySem.W.takerIn
 rw [show PySem.W.findIn K (.ref C) f = some none from n]
 rfl
structure Meth (K : PySem.W.Frag) (C : Addr) (m : Str) (f : Addr) : Prop where
 at_ : PySem.W.findIn K (.ref C) m = some (some (.ref f))
 fn : PySem.W.isFn K (.ref f) = true
 kp : PySem.W.keepIn K (.ref f) = true
section
variable {X : Cx} {pins : List (Addr × Obj)} {σ : St} {H : Hp} {s : Shared} {a C dx : Addr} {fs : List (Str × V)} {f : Str} {v : V} {A : Around} {E : Value → Shared → Prop}
theorem Ni {b : Bool} {Q : Value → Shared → Prop} (I : Inv X pins σ H s) (e : H a = some (.ins C dx fs)) (c : Cls X.K C) (n : Cv X.K C f) (l : fs.lookup f = some v)
  (h : ∀ u s', Inv X pins σ H s' → RelV v u → Q u s') : wpAny (model X.prog X.w) A (getAttr (.ref a) f b) Q E s := by
 obtain ⟨mA, O, r, _, _, _⟩ := JS I.hok e
 obtain ⟨u, hu, ru⟩ := RelO.some_of (v := v) (o := mA f) (by rw [← l]; exact r f)
 exact Uz I.kIn O (c.get f) c.hd n hu (Ka ru) (h u _ (I.tok _) ru)
theorem Gi {m : Str} {g : Addr} {pl : Sem Bool} {Q : Value × List Value → Shared → Prop} (I : Inv X pins σ H s) (e : H a = some (.ins C dx fs)) (c : Cls X.K C) (k : Meth X.K C m g) (l : fs.lookup m = none)
  (h : Q (.ref g, [.ref a]) s) : wpAny (model X.prog X.w) A (getMethod (.ref a) m pl) Q E s := by
 obtain ⟨mA, O, r, _, _, _⟩ := JS I.hok e
 have hn : mA m = none := RelO.none_of (by rw [← l]; exact r m)
 exact Q8 I.kIn O (c.get m) k.at_ k.fn hn h
theorem Nj {y : V} {u : Value} {Q : Unit → Shared → Prop} (I : Inv X pins σ H s) (e : H a = some (.ins C dx fs)) (c : Cls X.K C) (n : Cv X.K C f) (hl : fs.length < 1000) (ry : RelV y u)
  (h : ∀ s', Inv X pins σ (upd H a (.ins C dx (putF f y fs))) s' → Q () s') : wpAny (model X.prog X.w) A (setAttr (.ref a) f u) Q E s := by
 obtain ⟨mA, O, r, wi, _, ho⟩ := JS I.hok e
 have hz : (fs.map (·.1)).length ≤ sizeLine := by rw [List.length_map, sizeLine_eq]; omega
 refine U0 I.kIn O c.sa c.po n.taker c.hd wi hz fun h' O' sb => h _ ?_
 have hd : ∃ o, h'.get? dx = some o := let ⟨o, _, _, e', _⟩ := O'.ns; ⟨o, e'⟩
 refine I.write (x := a) (e := dx) (by rw [e]; exact True.intro) (.inr ho) (fun b q hb z => (sb.2 b hb).trans z) hd ?_
 refine ⟨by rw [BP O.ne]; exact ho, ?_, O.ne, O'.obj, _, O'.ns, fun g => ?_, fun g hg => ?_⟩
 ·have := Iw f y fs; omega
 ·show RelO ((putF f y fs).lookup g) (if g = f then some u else mA g)
  rw [Iv]
  by_cases q : g = f
  ·rw [if_pos q, if_pos q]; exact ry
  ·rw [if_neg q, if_neg q]; exact r g
 ·by_cases q : g = f
  ·rw [q]; exact (Ig f y fs).1
  ·refine (Ig f y fs).2 g (wi g fun z => hg ?_)
   show (if g = f then some u else mA g) = none
   rw [if_neg q]; exact z
theorem Inv.made (I : Inv X pins σ H s) : Inv X pins σ (upd (upd H s.heap.objs.size (.own (s.heap.objs.size + 1))) (s.heap.objs.size + 1) (.ins C s.heap.objs.size []))
  { s with heap := (s.heap.push PySem.W.emptyDict).push (PySem.W.instObj C s.heap.objs.size) } := by
 have e1 : (s.heap.push PySem.W.emptyDict).get? s.heap.objs.size = some PySem.W.emptyDict := Heap.get?_push_size s.heap rfl
 have e2 : ((s.heap.push PySem.W.emptyDict).push (PySem.W.instObj C s.heap.objs.size)).get? (s.heap.objs.size + 1) = some (PySem.W.instObj C s.heap.objs.size) := by
  have := Heap.get?_push_size (s.heap.push PySem.W.emptyDict) (o := PySem.W.instObj C s.heap.objs.size) rfl
  rwa [Heap.size_push] at this
 have e3 : (s.heap.push PySem.W.emptyDict).Ns s.heap.objs.size (fun _ => none) := ⟨PySem.W.emptyDict, #[], _, e1, rfl, (fun e he => absurd he (by simp)), fun _ => rfl⟩
 have I1 := I.laid (a := s.heap.objs.size) (o := .own (s.heap.objs.size + 1)) (h' := s.heap.push PySem.W.emptyDict) (t' := s.toks) (fun b u q => Heap.get?_push_of_some _ q) (Nat.le_refl _) ⟨_, e1⟩
 refine I1.laid (a := s.heap.objs.size + 1) (o := .ins C s.heap.objs.size []) (t' := s.toks) (fun b u q => Heap.get?_push_of_some _ q) (Nat.le_of_eq (Heap.size_push _ _)) ?_
 have ne : s.heap.objs.size ≠ s.heap.objs.size + 1 := Nat.ne_of_lt (Nat.lt_succ_self _)
 refine ⟨by rw [BP ne, B_], Nat.zero_le _, ne, e2, fun _ => none, (Heap.Ns1.of_empty e3).at fun o q => Heap.get?_push_of_some _ q, fun _ => True.intro, fun y hy => absurd rfl hy⟩
theorem Ou {prog : Program} {w : World} {env : Env} {e : Expr} {f : Str} {pos : Pos} {s : Shared} {Q : Value → Shared → Prop} (hb : attributeBase e f env (eval e env) = eval e env)
  (h : wpAny (model prog w) A (eval e env) (fun o s₁ => wpAny (model prog w) A (getAttr o f true) Q E s₁) E s) : wpAny (model prog w) A (eval (.Attribute e f pos) env) Q E s :=
 Attribute_any_ h (by rw [arm_eval_Attribute, hb])
end
def tFld (K : PySem.W.Frag) (ta : TE) (f : Str) : TE := fun σ H Q => ta σ H fun x H1 => ∃ a C dx fs v, x = .ref a ∧ H1 a = some (.ins C dx fs) ∧ Cls K C ∧ Cv K C f ∧ fs.lookup f = some v ∧ Q v H1
def sFld (K : PySem.W.Frag) (ta tv : TE) (f : Str) : TS := fun D σ H => tv σ H fun y H1 => ta σ H1 fun x H2 => ∃ a C dx fs, x = .ref a ∧ H2 a = some (.ins C dx fs) ∧ Cls K C ∧ Cv K C f ∧ fs.length < 1000 ∧
 D.nx σ (upd H2 a (.ins C dx (putF f y fs)))
section
variable {X : Cx} {o e value : Expr} {f : Str} {pos pos' tpos : Pos} {ta tv : TE}
theorem YC (he : PE X e ta) (hb : attributeBase e f X.env (eval e X.env) = eval e X.env) : PE X (.Attribute e f pos) (tFld X.K ta f) := by
 intro pins s σ H Q I h
 refine Ou hb (thn (he pins s σ H _ I h) fun u s1 ⟨x, H1, I1, rx, a, C, dx, fs, v, ex, ea, c, n, l, q⟩ => ?_)
 subst ex
 obtain rfl : u = Value.ref a := rx
 exact Ni I1 ea c n l fun u' s2 I2 ru => ⟨v, H1, I2, ru, q⟩
theorem YD (ha : PE X o ta) (hv : PE X value tv) (hs : swapsWith value (some (.Attribute o f pos')) pos.line X.env = pure false) : PS X (.Assign [.Attribute o f pos'] value pos) (sFld X.K ta tv f) := by
 intro pins s σ H D I h
 refine plainObj_wpAny_Assign_Attribute (thn (hv pins s σ H _ I h) fun u s1 ⟨y, H1, I1, ry, q⟩ => thn (ha pins s1 σ H1 _ I1 q) fun ov s2 ⟨x, H2, I2, rx, a, C, dx, fs, ex, ea, c, n, l, q2⟩ => ?_) hs
 subst ex
 obtain rfl : ov = Value.ref a := rx
 exact Nj I2 ea c n l ry fun s3 I3 => ⟨σ, _, I3, q2⟩
def rAdd : V → V → Hp → VK → Prop := fun x y H Q => ∃ i j, x = .int i ∧ y = .int j ∧ Q (.int (i + j)) H
end
section
variable {X : Cx} {pins : List (Addr × Obj)} {σ : St} {H : Hp} {s : Shared} {A : Around} {E : Value → Shared → Prop} {Q : Value → Shared → Prop} {c : Value} {b : Bool}
inductive TyOf (K : PySem.W.Frag) (H : Hp) : V → Value → Prop where
  | non : TyOf K H .non (.type "NoneType")
  | bl (x : Bool) : TyOf K H (.bl x) (.type "bool")
  | int (i : Int) : TyOf K H (.int i) (.type "int")
  | str (x : Str) : TyOf K H (.str x) (.type "str")
  | flt (x : UInt64) : TyOf K H (.flt x) (.type "float")
  | lst {a : Addr} {xs : List V} (e : H a = some (.lst xs)) : TyOf K H (.ref a) (.type "list")
  | frz {a : Addr} {o : Obj} {xs : List V} (e : H a = some (.frz o (.lst xs))) : TyOf K H (.ref a) (.type "list")
  | tup {a : Addr} {xs : List V} (e : H a = some (.tup xs)) : TyOf K H (.ref a) (.type "tuple")
  | dK {a : Addr} {kvs : List (Key × V)} (e : H a = some (.dK kvs)) : TyOf K H (.ref a) (.type "dict")
  | dT {a : Addr} {kvs : List (List Key × V)} (e : H a = some (.dT kvs)) : TyOf K H (.ref a) (.type "dict")
  | ins {a C dx : Addr} {fs : List (Str × V)} (e : H a = some (.ins C dx fs)) (cl : Cls K C) (ha : PySem.W.findIn K (.ref C) "__class__" = some (some (.builtin "object.__class__")))
      (hn : PySem.W.specialIn K (.builtin "object.__class__") "__get__" = some (some (.builtin "getset_descriptor.__get__"))) (htk : PySem.W.takesIn K (.builtin "object.__class__") = some true)
      (hm : PySem.W.mroIn K C (.type "object") = some true) : TyOf K H (.ref a) (.ref C)
theorem Qa {x : V} {u t : Value} (I : Inv X pins σ H s) (rx : RelV x u) (ty : TyOf X.K H x t) (e : PySem.W.kitOne X.K t c = some b) (h : ∀ tk, Q (.bool b) { s with toks := tk }) :
  wpAny (model X.prog X.w) A (call (.builtin "isinstance") [u, c]) Q E s := by
 cases ty with
 | non => cases (show u = Value.none from rx); exact PySem.W.kia_one PySem.W.kitx_none I.kIn True.intro e (fun z => nomatch z) h
 | bl y => cases (show u = Value.bool y from rx); exact PySem.W.kia_one PySem.W.kitx_bool I.kIn True.intro e (fun z => nomatch z) h
 | int i => obtain ⟨t, q⟩ := (show ∃ t, u = Value.int i t from rx); cases q; exact PySem.W.kia_one PySem.W.kitx_int I.kIn True.intro e (fun z => nomatch z) h
 | str y => obtain ⟨t, q⟩ := (show ∃ t, u = Value.str y t from rx); cases q; exact PySem.W.kia_one PySem.W.kitx_str I.kIn True.intro e (fun z => nomatch z) h
 | flt y => obtain ⟨t, q⟩ := (show ∃ t, u = Value.float y t from rx); cases q; exact PySem.W.kia_one PySem.W.kitx_float I.kIn True.intro e (fun z => nomatch z) h
 | @lst a xs ea =>
  cases (show u = Value.ref a from rx)
  obtain ⟨_, _, n, _, h1⟩ := (show Cr X.prog X.w H s.heap a (.lst xs) from I.hok a _ ea)
  exact PySem.W.kia_one PySem.W.kitx_list I.kIn ⟨_, h1, rfl⟩ e (fun z => nomatch z) h
 | @frz a ob xs ea =>
  cases (show u = Value.ref a from rx)
  obtain ⟨_, _, _, n, _, h1⟩ := (show Cr X.prog X.w H s.heap a (.frz ob (.lst xs)) from I.hok a _ ea)
  exact PySem.W.kia_one PySem.W.kitx_list I.kIn ⟨_, h1, rfl⟩ e (fun z => nomatch z) h
 | @tup a xs ea =>
  cases (show u = Value.ref a from rx)
  obtain ⟨_, _, _, p⟩ := (show Cr X.prog X.w H s.heap a (.tup xs) from I.hok a _ ea)
  obtain ⟨o, h1, h2, _⟩ := p
  exact PySem.W.kia_one PySem.W.kitx_tuple I.kIn ⟨o, h1, h2⟩ e (fun z => nomatch z) h
 | @dK a kvs ea =>
  cases (show u = Value.ref a from rx)
  obtain ⟨_, _, vs, _, p⟩ := (show Cr X.prog X.w H s.heap a (.dK kvs) from I.hok a _ ea)
  obtain ⟨o, es, ep, h1, h2, _⟩ := p
  exact PySem.W.kia_one PySem.W.kitx_dict I.kIn ⟨o, h1, h2.1⟩ e (fun z => nomatch z) h
 | @dT a kvs ea =>
  cases (show u = Value.ref a from rx)
  obtain ⟨_, _, xs, _, o, es, ep, h1, h2, _⟩ := (show Cr X.prog X.w H s.heap a (.dT kvs) from I.hok a _ ea)
  exact PySem.W.kia_one PySem.W.kitx_dict I.kIn ⟨o, h1, h2.1⟩ e (fun z => nomatch z) h
 | @ins a C dx fs ea cl ha hn htk hm =>
  cases (show u = Value.ref a from rx)
  obtain ⟨mA, O, _⟩ := JS I.hok ea
  obtain ⟨od, J, _⟩ := O.look
  exact PySem.W.kia_one (PySem.W.kitx_own (cl.get _) cl.hd ha hn htk hm) I.kIn J e (fun z => nomatch z) h
end
end L2
namespace L2
open PySem PySem.Spec PyProof.Rows
structure Room (k : Nat) (A : Around) : Prop where
 hd : A.handled = none
 dp : A.depth + 3 * k + 5 < recursionLimit
 un : A.units + 16 * k + 200 < cLine
theorem Room.mono {j k : Nat} {A : Around} (r : Room k A) (h : j ≤ k) : Room j A := ⟨r.hd, by have := r.dp; omega, by have := r.un; omega⟩
theorem Room.deeper {k : Nat} {A : Around} (r : Room (k + 1) A) (env : Env) : Room k (A.deeper env) :=
 ⟨r.hd, by have := r.dp; show A.depth + 1 + 3 * k + 5 < _; omega, by have := r.un; show A.units + 3 + 16 * k + 200 < _; omega⟩
theorem Room.in1 {k : Nat} {A : Around} (r : Room (k + 1) A) : Room k A.in1 :=
 ⟨r.hd, by have := r.dp; show A.depth + 3 * k + 5 < _; omega, by have := r.un; show A.units + 1 + 16 * k + 200 < _; omega⟩
theorem Nk {A : Around} {C : Addr} {us : List Value} {kw : List (Str × Value)} : (A.under (.builtin "type.__call__" ⟨.ref C :: us, kw⟩)).depth = A.depth + 1 := by
 first | rfl | simp [Around.under, Code.weight, Code.isCreation, Code.isGuard, Code.isCaller, Code.frames, Code.isFrame, guardIds]
theorem Np {A : Around} {C : Addr} {us : List Value} {kw : List (Str × Value)} : (A.under (.builtin "type.__call__" ⟨.ref C :: us, kw⟩)).units = A.units + 1 := by
 first | rfl | simp [Around.under, Code.cUnits, Code.frames, Code.isFrame]
theorem Room.make {k : Nat} {A : Around} (r : Room (k + 1) A) (C : Addr) (us : List Value) (kw : List (Str × Value)) : Room k (A.under (.builtin "type.__call__" ⟨.ref C :: us, kw⟩)) :=
 ⟨r.hd, by have := r.dp; rw [Nk]; omega, by have := r.un; rw [Np]; omega⟩
theorem Room.depth {k : Nat} {A : Around} (r : Room k A) : A.depth < recursionLimit := by have := r.dp; omega
theorem Room.units {k : Nat} {A : Around} (r : Room k A) : A.units + 64 < cLine := by have := r.un; omega
def tNil : TA := fun _ H Q => Q [] H
def Ov (ta : TE) (tr : TA) : TA := fun σ H Q => ta σ H fun x H1 => tr σ H1 fun xs H2 => Q (x :: xs) H2
section
variable {X : Cx} {e : Expr} {es : List Expr} {te : TE} {t : TA} {pos : Pos}
theorem Hh : PA X [] tNil := fun _ _ _ _ H Q I h => Calls.spliced_nil ⟨[], H, I, .nil, h⟩
theorem Dw (ha : PE X e te) (hr : PA X es t) (hs : starEach (e :: es) X.env = (false, eval e X.env) :: starEach es X.env := by rfl) : PA X (e :: es) (Ov te t) := by
 intro pos pins s σ H Q I h
 rw [hs]
 show wpAny _ _ (spliced ((false, eval e X.env) :: backTo pos (starEach es X.env))) _ _ s
 refine Calls.spliced_cons (thn (ha pins s σ H _ I h) fun u s1 ⟨x, H1, I1, r1, q1⟩ => ?_)
 exact thn (hr pos pins s1 σ H1 _ I1 q1) fun us s2 ⟨xs, H2, I2, r2, q2⟩ => ⟨x :: xs, H2, I2, .cons r1 r2, q2⟩
def tTup (t : TA) : TE := fun σ H Q => t σ H fun xs H1 => xs.length ≤ sizeLine ∧ ∀ p, H1 p = none → Q (.ref p) (upd H1 p (.tup xs))
def tLst (t : TA) : TE := fun σ H Q => t σ H fun xs H1 => xs.length ≤ sizeLine ∧ ∀ p, H1 p = none → Q (.ref p) (upd H1 p (.lst xs))
theorem Q_ {x1} (h : PA X es t) : PE X (.Tuple es x1 pos) (tTup t) := by
 intro pins s σ H Q I hq
 refine wpAny_Tuple_spliced (thn (h pos pins s σ H _ I hq) fun us s1 ⟨xs, H1, I1, r, z, q⟩ => ⟨by rw [← r.length]; exact z, ?_⟩)
 have hf : H1 s1.heap.objs.size = none := I1.hok.fresh (Nat.le_refl _)
 refine ⟨.ref s1.heap.objs.size, upd H1 s1.heap.objs.size (.tup xs), I1.laid (t' := s1.toks) (fun b u e => Heap.get?_push_of_some _ e) (Nat.le_refl _) ?_, rfl, q _ hf⟩
 exact ⟨z, us, r, ⟨_, Heap.get?_push_size _ rfl, rfl, _, rfl⟩⟩
theorem YF (h : PA X es t) : PE X (.List es pos) (tLst t) := by
 intro pins s σ H Q I hq
 refine wpAny_List_spliced (thn (h pos pins s σ H _ I hq) fun us s1 ⟨xs, H1, I1, r, z, q⟩ => ⟨by rw [← r.length]; exact z, ?_⟩)
 have hf : H1 s1.heap.objs.size = none := I1.hok.fresh (Nat.le_refl _)
 refine ⟨.ref s1.heap.objs.size, upd H1 s1.heap.objs.size (.lst xs), I1.laid (t' := s1.toks) (fun b u e => Heap.get?_push_of_some _ e) (Nat.le_refl _) ?_, rfl, q _ hf⟩
 exact ⟨z, us, 0, r, Heap.get?_push_size _ rfl⟩
end
abbrev Sp := List V → Hp → VK → XK → Prop
abbrev CXT := List Env → Hp → Shared → XK → Value → Shared → Prop
structure Env0 (P : Program) (w : World) (K : PySem.W.Frag) (mg : Str → Option Value) (base : Heap) (A : Around) (outer : List Env) (s : Shared) (H : Hp) : Prop where
 frames : A.frames = some outer
 mod : Mod K mg base
 bs : ∀ b o, base.get? b = some o → s.heap.get? b = some o ∧ H b = none
 bsz : base.objs.size ≤ s.heap.objs.size
 funs : s.heap.FunFrames base outer
 frf : ∀ b ∈ frs outer, H b = none
 hok : HOk P w H s.heap
 bare : AllBare s.gens
def CE (outer : List Env) (P : Program) (w : World) (H : Hp) (s : Shared) (Q : VK) (u : Value) (s' : Shared) : Prop :=
 ∃ v H', s'.os = s.os ∧ AllBare s'.gens ∧ Un (frs outer) [] H H' s.heap s'.heap ∧ HOk P w H' s'.heap ∧ RelV v u ∧ Q v H'
def CR (CX : CXT) (outer : List Env) (P : Program) (w : World) (H : Hp) (s : Shared) (Q : VK) (E : XK) (r : Result) (s' : Shared) : Prop :=
 match r with
 | .ok (.ret u) => CE outer P w H s Q u s'
 | .ok _ => False
 | .error e => CX outer H s E e s'
structure FnOk (P : Program) (w : World) (K : PySem.W.Frag) (mg : Str → Option Value) (base : Heap) (CX : CXT) (k : Nat) (f : Addr) (fd : FuncData) (ps : List Str) (sp : Sp) : Prop where
 len : ∀ vs H Q E, sp vs H Q E → vs.length = ps.length
 run : ∀ (A : Around) (outer : List Env) (s : Shared) (H : Hp) (args : Args) (us : List Value) (vs : List V) (Q : VK) (E : XK), Room k A → Env0 P w K mg base A outer s H → BindsTo s fd args (ps.zip us) → Vals vs us → sp vs H Q E →
  codeAny (model P w) A (.call (.ref f) args) (CR CX outer P w H s Q E) s
theorem FnOk.mono {P : Program} {w : World} {K : PySem.W.Frag} {mg : Str → Option Value} {base : Heap} {CX : CXT} {j k : Nat} {f : Addr} {fd : FuncData} {ps : List Str} {sp : Sp} (F : FnOk P w K mg base CX j f fd ps sp) (h : j ≤ k) :
  FnOk P w K mg base CX k f fd ps sp := ⟨F.len, fun A outer s H args us vs Q E hr => F.run A outer s H args us vs Q E (hr.mono h)⟩
theorem FnOk.imp {P : Program} {w : World} {K : PySem.W.Frag} {mg : Str → Option Value} {base : Heap} {CX : CXT} {k : Nat} {f : Addr} {fd : FuncData} {ps : List Str} {sp sp' : Sp} (F : FnOk P w K mg base CX k f fd ps sp)
  (h : ∀ vs H Q E, sp' vs H Q E → sp vs H Q E) : FnOk P w K mg base CX k f fd ps sp' :=
 ⟨fun vs H Q E q => F.len vs H Q E (h _ _ _ _ q), fun A outer s H args us vs Q E hr he hb hv hs => F.run A outer s H args us vs Q E hr he hb hv (h _ _ _ _ hs)⟩
theorem Env0.make {P : Program} {w : World} {K : PySem.W.Frag} {mg : Str → Option Value} {base : Heap} {A : Around} {outer : List Env} {s : Shared} {H : Hp} (e : Env0 P w K mg base A outer s H) (C : Addr) (us : List Value) (kw : List (Str × Value)) :
  Env0 P w K mg base (A.under (.builtin "type.__call__" ⟨.ref C :: us, kw⟩)) outer s H := ⟨by first | exact e.frames | (simpa [Around.under, Code.envs, Code.isFrame, pushEnvs] using e.frames), e.mod, e.bs, e.bsz, e.funs, e.frf, e.hok, e.bare⟩
theorem Env0.in1 {P : Program} {w : World} {K : PySem.W.Frag} {mg : Str → Option Value} {base : Heap} {A : Around} {outer : List Env} {s : Shared} {H : Hp} (e : Env0 P w K mg base A outer s H) :
  Env0 P w K mg base A.in1 outer s H := ⟨e.frames, e.mod, e.bs, e.bsz, e.funs, e.frf, e.hok, e.bare⟩
section
variable {X : Cx} {pins : List (Addr × Obj)} {σ : St} {H : Hp} {s s' : Shared}
theorem Inv.env0 (I : Inv X pins σ H s) : Env0 X.prog X.w X.K X.mg X.base X.A X.stack s H :=
 ⟨I.ok.frames, I.ok.mod, I.bs, Nat.le_trans I.ok.bsz I.sz, I.stack, I.stkFree, I.hok, I.bare⟩
theorem Inv.after {Q : VK} {u : Value} (I : Inv X pins σ H s) (h : CE X.stack X.prog X.w H s Q u s') : EP X pins σ Q u s' := by
 obtain ⟨v, H', os, bare, un, hok, r, q⟩ := h
 obtain ⟨hh, g, d, t, os'⟩ := s'
 obtain rfl : os' = s.os := os
 exact ⟨v, H', I.call (h' := hh) (g' := g) (d' := d) (t' := t) (ch := []) un hok bare (fun b z => absurd z (by simp)), r, q⟩
end
def Zd (sp : Sp) (dvs : List V) (E : XK) (t : TA) : TE := fun σ H Q => t σ H fun vs H1 => sp (vs ++ dvs) H1 Q E
def Wc (C : Addr) (m : Str) (sp : Sp) (dvs : List V) (E : XK) (ta : TE) (t : TA) : TE := fun σ H Q => ta σ H fun x H1 => ∃ a dx fs, x = .ref a ∧ H1 a = some (.ins C dx fs) ∧ fs.lookup m = none ∧
 t σ H1 fun vs H2 => sp (x :: (vs ++ dvs)) H2 Q E
def Ze (C : Addr) (sp : Sp) (dvs : List V) (E : XK) (t : TA) : TE := fun σ H Q => t σ H fun vs H1 => ∀ x dx, H1 x = none → H1 dx = none → dx ≠ x →
 sp (.ref x :: (vs ++ dvs)) (upd (upd H1 dx (.own x)) x (.ins C dx [])) (fun v H2 => v = .non ∧ Q (.ref x) H2) E
def Binds (K : PySem.W.Frag) (fd : FuncData) (ps : List Str) (ds : List Value) : Prop :=
 ∀ (s : Shared) (us : List Value), K.In s.heap → (us ++ ds).length = ps.length → BindsTo s fd ⟨us, []⟩ (ps.zip (us ++ ds))
theorem Binds.all {K : PySem.W.Frag} {fd : FuncData} {ps : List Str} (h : ∀ us : List Value, us.length = ps.length → bindArgs fd ⟨us, []⟩ = pure (ps.zip us)) : Binds K fd ps [] := fun s us _ hl => by
 rw [List.append_nil] at hl ⊢
 exact .of_eq (h us hl)
def Hi (CX : CXT) (X : Cx) (E : XK) : Prop := ∀ (pins : List (Addr × Obj)) (σ : St) (H : Hp) (s : Shared) (e : Value) (s' : Shared), Inv X pins σ H s → CX X.stack H s E e s' → X.xe e s'
section
variable {X : Cx} {CX : CXT} {k : Nat} {f C : Addr} {fd : FuncData} {ps : List Str} {sp : Sp} {dvs : List V} {ds : List Value} {E : XK} {x m : Str} {p pos apos : Pos} {e o : Expr} {es : List Expr} {ta : TE} {t : TA}
theorem Nq {pins : List (Addr × Obj)} {σ : St} {H : Hp} {s : Shared} {Q : VK} {us : List Value} {vs : List V} (F : FnOk X.prog X.w X.K X.mg X.base CX k f fd ps sp) (hr : Room k X.A) (hb : Binds X.K fd ps ds) (hd : Vals dvs ds) (hx : Hi CX X E)
  (I : Inv X pins σ H s) (r : Vals vs us) (h : sp (vs ++ dvs) H Q E) : wpAny (model X.prog X.w) X.A (call (.ref f) us) (EP X pins σ Q) X.xe s := by
 have r2 : Vals (vs ++ dvs) (us ++ ds) := r.append hd
 have hl : (us ++ ds).length = ps.length := by rw [← r2.length]; exact F.len _ _ _ _ h
 refine wpAny_call (codeAny_mono (F.run X.A X.stack s H ⟨us, []⟩ (us ++ ds) (vs ++ dvs) Q E hr I.env0 (hb s us I.kIn hl) r2 h) fun r s' hq => ?_)
 cases r with
 | error e => exact hx pins σ H s e s' I hq
 | ok fl =>
  cases fl with
  | ret u => exact I.after hq
  | next => exact False.elim hq
  | brk => exact False.elim hq
  | cont => exact False.elim hq
theorem U3 (F : FnOk X.prog X.w X.K X.mg X.base CX k f fd ps sp) (hr : Room k X.A) (hg : Gl X x) (hm : X.mg x = some (.ref f)) (hk : PySem.W.keepIn X.K (.ref f) = true) (hb : Binds X.K fd ps ds) (hd : Vals dvs ds) (hx : Hi CX X E)
  (ha : PA X (e :: es) t) (hdb : (x == ("__debug__" : Str)) = false := by decide) (he : starEach (e :: es) X.env = (false, eval e X.env) :: starEach es X.env := by rfl) (hpl : (backTo pos (starEach es X.env)).any (·.1) = false := by rfl) :
  PE X (.Call (.Name x p) (e :: es) [] pos) (Zd sp dvs E t) := by
 intro pins s σ H Q I h
 refine wpAny_Call_Name_kw (Gg I hg hm ?_ hdb)
 refine PySem.W.callWith_K (h₀ := X.base) I.ok.mod.kin hk (thn (ha pos pins s σ H _ I h) fun us s1 ⟨vs, H1, I1, r, q⟩ => ⟨I1.kIn, ?_⟩) he hpl
 exact Nq F hr hb hd hx I1 r q
theorem U4 {pl : Sem Bool} (he : PE X o ta) (c : Cls X.K C) (hm : Meth X.K C m f) (F : FnOk X.prog X.w X.K X.mg X.base CX k f fd ps sp) (hr : Room k X.A) (hb : Binds X.K fd ps ds) (hd : Vals dvs ds) (hx : Hi CX X E) (ha : PA X (e :: es) t)
  (hst : starEach (e :: es) X.env = (false, eval e X.env) :: starEach es X.env := by rfl) (hpl : (backTo pos (starEach es X.env)).any (·.1) = false := by rfl)
  (ht : eval (.Call (.Attribute o m apos) (e :: es) [] pos) X.env = (do
   let ov ← eval o X.env
   standAt apos.atName
   let (f, first) ← holding [ov] (getMethod ov m pl)
   callWith pos f first (backTo pos (starEach (e :: es) X.env)) (backToKw pos (keywordEach [] X.env))) := by rfl) :
  PE X (.Call (.Attribute o m apos) (e :: es) [] pos) (Wc C m sp dvs E ta t) := by
 intro pins s σ H Q I h
 refine PySem.W.methodCall_KW (pl := pl) (thn (he pins s σ H _ I h) fun u s1 ⟨x, H1, I1, rx, a, dx, fs, ex, ea, l, q⟩ => ?_) ht
 subst ex
 obtain rfl : u = Value.ref a := rx
 refine Gi I1 ea c hm l ?_
 refine PySem.W.callWith_K (first := [.ref a]) (h₀ := X.base) I.ok.mod.kin hm.kp (thn (ha pos pins s1 σ H1 _ I1 q) fun us s2 ⟨vs, H2, I2, r, q2⟩ => ⟨I2.kIn, ?_⟩) hst hpl
 exact Nq (us := .ref a :: us) (vs := .ref a :: vs) F hr hb hd hx I2 (.cons rfl r) q2
theorem MP {pl : Sem Bool} (he : PE X o ta) (c : Cls X.K C) (hm : Meth X.K C m f) (F : FnOk X.prog X.w X.K X.mg X.base CX k f fd ps sp) (hr : Room k X.A) (hb : Binds X.K fd ps ds) (hd : Vals dvs ds) (hx : Hi CX X E)
  (ht : eval (.Call (.Attribute o m apos) [] [] pos) X.env = (do
   let ov ← eval o X.env
   standAt apos.atName
   let (f, first) ← holding [ov] (getMethod ov m pl)
   callWith pos f first (backTo pos (starEach [] X.env)) (backToKw pos (keywordEach [] X.env))) := by rfl) :
  PE X (.Call (.Attribute o m apos) [] [] pos) (Wc C m sp dvs E ta tNil) := by
 intro pins s σ H Q I h
 refine PySem.W.methodCall_KW (pl := pl) (thn (he pins s σ H _ I h) fun u s1 ⟨x, H1, I1, rx, a, dx, fs, ex, ea, l, q⟩ => ?_) ht
 subst ex
 obtain rfl : u = Value.ref a := rx
 refine Gi I1 ea c hm l ?_
 exact PySem.W.callWith_K0 (first := [.ref a]) I1.kIn hm.kp (Nq (us := [.ref a]) (vs := [.ref a]) F hr hb hd hx I1 (.cons rfl .nil) q)
structure Mk (K : PySem.W.Frag) (C f : Addr) : Prop where
 makes : PySem.W.makesIn K C = true
 init : PySem.W.findIn K (.ref C) "__init__" = some (some (.ref f))
 fn : PySem.W.isFn K (.ref f) = true
 kp : PySem.W.keepIn K (.ref C) = true
theorem RB {pins : List (Addr × Obj)} {σ : St} {H : Hp} {s : Shared} {Q : VK} {us : List Value} {vs : List V} (M : Mk X.K C f) (F : FnOk X.prog X.w X.K X.mg X.base CX k f fd ps sp) (hr : Room (k + 1) X.A) (hb : Binds X.K fd ps ds) (hd : Vals dvs ds)
  (hx : Hi CX X E) (I : Inv X pins σ H s) (r : Vals vs us)
  (h : ∀ x dx, H x = none → H dx = none → dx ≠ x → sp (.ref x :: (vs ++ dvs)) (upd (upd H dx (.own x)) x (.ins C dx [])) (fun v H2 => v = .non ∧ Q (.ref x) H2) E) :
  wpAny (model X.prog X.w) X.A (call (.ref C) us) (EP X pins σ Q) X.xe s := by
 have hq := h (s.heap.objs.size + 1) s.heap.objs.size (I.hok.fresh (Nat.le_succ _)) (I.hok.fresh (Nat.le_refl _)) (Nat.ne_of_lt (Nat.lt_succ_self _))
 have I2 := Inv.made (C := C) I
 have r2 : Vals (V.ref (s.heap.objs.size + 1) :: (vs ++ dvs)) (Value.ref (s.heap.objs.size + 1) :: (us ++ ds)) := .cons rfl (r.append hd)
 have hl : (Value.ref (s.heap.objs.size + 1) :: us ++ ds).length = ps.length := by
  have e := r2.length
  rw [F.len _ _ _ _ hq] at e
  exact e.symm
 refine wpAny_call (Q9 (f := f) I.kIn M.makes M.init (beq_iff_eq.mp M.fn) (codeAny_mono (F.run _ X.stack _ _ ⟨Value.ref (s.heap.objs.size + 1) :: us, []⟩ (Value.ref (s.heap.objs.size + 1) :: (us ++ ds)) _ _ E (hr.make C us [])
  (I2.env0.make C us []) (hb _ (Value.ref (s.heap.objs.size + 1) :: us) I2.kIn hl) r2 hq) fun r s' hq' => ?_))
 cases r with
 | error e => exact hx pins σ _ _ e s' I2 hq'
 | ok fl =>
  cases fl with
  | ret u =>
   obtain ⟨v, H', I3, rv, ev, q3⟩ := I2.after hq'
   subst ev
   exact ⟨rv, ⟨V.ref (s.heap.objs.size + 1), H', I3, rfl, q3⟩⟩
  | next => exact False.elim hq'
  | brk => exact False.elim hq'
  | cont => exact False.elim hq'
theorem U5 (M : Mk X.K C f) (F : FnOk X.prog X.w X.K X.mg X.base CX k f fd ps sp) (hr : Room (k + 1) X.A) (hg : Gl X x) (hm : X.mg x = some (.ref C)) (hb : Binds X.K fd ps ds) (hd : Vals dvs ds) (hx : Hi CX X E)
  (ha : PA X (e :: es) t) (hdb : (x == ("__debug__" : Str)) = false := by decide) (he : starEach (e :: es) X.env = (false, eval e X.env) :: starEach es X.env := by rfl) (hpl : (backTo pos (starEach es X.env)).any (·.1) = false := by rfl) :
  PE X (.Call (.Name x p) (e :: es) [] pos) (Ze C sp dvs E t) := by
 intro pins s σ H Q I h
 refine wpAny_Call_Name_kw (Gg I hg hm ?_ hdb)
 refine PySem.W.callWith_K (h₀ := X.base) I.ok.mod.kin M.kp (thn (ha pos pins s σ H _ I h) fun us s1 ⟨vs, H1, I1, r, q⟩ => ⟨I1.kIn, ?_⟩) he hpl
 exact RB M F hr hb hd hx I1 r q
end
section
variable {X : Cx} {CX : CXT} {k : Nat} {f C : Addr} {fd : FuncData} {ps ks : List Str} {sp : Sp} {E : XK} {x m : Str} {p pos apos kpos : Pos} {e o : Expr} {es : List Expr} {kws : List Keyword} {te ta : TE} {t tk : TA} {nm : Option Str}
variable {g : List Value → List Value → List Value} {gV : List V → List V → List V}
end
structure FnScope (N P : List Str) (sc : Scope) : Prop where
 kind : sc.kind = .function
 co : sc.isCoroutine = false
 gen : sc.isGenerator = false
 nd : N.Nodup
 pre : N.take P.length = P
 par : ∀ x ∈ P, sc.names.lookup x = some .local ∨ sc.names.lookup x = some .cell
 nofree : ∀ y ∈ sc.names, y.2 ≠ .free
theorem Kc {kindOf : Str → Option NameKind} {x : Str} : ∀ {binds : List (Str × Value)} {m : Str → Option Value}, (∀ v, (x, v) ∉ binds) → bindL kindOf binds m x = m x
 | [], _, _ => rfl
 | (n, v) :: r, m, h => by
  unfold bindL
  rw [Kc fun w hw => h w (List.mem_cons_of_mem _ hw)]
  split
  ·have : x ≠ n := by rintro rfl; exact h v List.mem_cons_self
   simp [this]
  ·rfl
theorem Kd {kindOf : Str → Option NameKind} {x : Str} : ∀ {binds : List (Str × Value)} {m : Str → Option Value}, (∀ v, (x, v) ∉ binds) → bindC kindOf binds m x = m x
 | [], _, _ => rfl
 | (n, v) :: r, m, h => by
  unfold bindC
  rw [Kd fun w hw => h w (List.mem_cons_of_mem _ hw)]
  split
  ·rfl
  ·have : x ≠ n := by rintro rfl; exact h v List.mem_cons_self
   simp [this]
theorem Ke {kindOf : Str → Option NameKind} {x : Str} {v : Value} : ∀ {P : List Str} {vs : List Value} {i : Nat} {m : Str → Option Value}, P.Nodup → P[i]? = some x → vs[i]? = some v → kindOf x = some .local →
  bindL kindOf (P.zip vs) m x = some v
 | [], _, _, _, _, h, _, _ => by simp at h
 | _ :: _, [], _, _, _, _, h, _ => by simp at h
 | p :: P, w :: vs, 0, m, nd, h1, h2, hk => by
  simp at h1 h2; subst h1; subst h2
  show bindL kindOf ((p, w) :: P.zip vs) m p = _
  unfold bindL
  rw [Kc fun v hv => (List.nodup_cons.mp nd).1 (List.of_mem_zip hv).1, if_pos hk]
  simp
 | p :: P, w :: vs, i + 1, m, nd, h1, h2, hk => by
  show bindL kindOf ((p, w) :: P.zip vs) m x = _
  unfold bindL
  exact Ke (i := i) (List.nodup_cons.mp nd).2 (by simpa using h1) (by simpa using h2) hk
theorem Kf {kindOf : Str → Option NameKind} {x : Str} {v : Value} : ∀ {P : List Str} {vs : List Value} {i : Nat} {m : Str → Option Value}, P.Nodup → P[i]? = some x → vs[i]? = some v → kindOf x ≠ some .local →
  bindC kindOf (P.zip vs) m x = some v
 | [], _, _, _, _, h, _, _ => by simp at h
 | _ :: _, [], _, _, _, _, h, _ => by simp at h
 | p :: P, w :: vs, 0, m, nd, h1, h2, hk => by
  simp at h1 h2; subst h1; subst h2
  show bindC kindOf ((p, w) :: P.zip vs) m p = _
  unfold bindC
  rw [Kd fun v hv => (List.nodup_cons.mp nd).1 (List.of_mem_zip hv).1, if_neg hk]
  simp
 | p :: P, w :: vs, i + 1, m, nd, h1, h2, hk => by
  show bindC kindOf ((p, w) :: P.zip vs) m x = _
  unfold bindC
  exact Kf (i := i) (List.nodup_cons.mp nd).2 (by simpa using h1) (by simpa using h2) hk
def start (N : List Str) (vs : List V) : St := vs.map some ++ List.replicate (N.length - vs.length) none
def cxOf (CX : CXT) (P : Program) (w : World) (K : PySem.W.Frag) (mg : Str → Option Value) (base : Heap) (N : List Str) (qual : Str) (scope : Scope) (f : Addr) (cd : Value) (A : Around) (outer : List Env) (s : Shared) (H : Hp) (E : XK) : Cx where
 prog := P
 w := w
 K := K
 mg := mg
 base := base
 A := A.deeper (envOfC qual scope s.heap.objs.size f cd)
 N := N
 s₀ := s
 H₀ := H
 env := envOfC qual scope s.heap.objs.size f cd
 outer := outer
 stack := envOfC qual scope s.heap.objs.size f cd :: outer
 ex := []
 calm := true
 fn := fun _ => true
 pn := []
 xe := fun e s' => wpAny (model P w) (A.deeper (envOfC qual scope s.heap.objs.size f cd)) (leaving (envOfC qual scope s.heap.objs.size f cd) e) (fun _ s'' => CX outer H s E e s'') (fun e' s'' => CX outer H s E e' s'') s'
theorem MT {sc : Scope} {n : Nat} {x : Str} (h : sc.names.lookup x = some .cell) : ∃ c, (cellsFrom n sc.names []).lookup x = some c := by
 have q := PySem.W.cellsFrom_some sc.names n [] (.inl h)
 exact Option.isSome_iff_exists.mp q
theorem Qc {CX : CXT} {P : Program} {w : World} {K : PySem.W.Frag} {mg : Str → Option Value} {base : Heap} {N ps : List Str} {qual : Str} {scope : Scope} {f : Addr} {cd : Value} {A : Around} {outer : List Env} {s s1 : Shared} {H : Hp} {E : XK} {us : List Value} {vs : List V}
  (S : FnScope N ps scope) (hd : A.handled = none) (e0 : Env0 P w K mg base A outer s H) (hl : vs.length = ps.length) (r : Vals vs us)
  (x : InCallC s s.heap.objs.size (bindL (envOfC qual scope s.heap.objs.size f cd).kindOf (ps.zip us) fun _ => none) (cellsFrom (s.heap.objs.size + 1) scope.names []) (bindC (envOfC qual scope s.heap.objs.size f cd).kindOf (ps.zip us) fun _ => none) s1) :
  Inv (cxOf CX P w K mg base N qual scope f cd A outer s H E) [] (start N vs) H s1 := by
 have hpl : ps.length ≤ N.length := by have := congrArg List.length S.pre; rw [List.length_take] at this; omega
 obtain ⟨h1, tk, rfl, hk⟩ := x.done
 have noA : ∀ b : Addr, b ∉ (cxOf CX P w K mg base N qual scope f cd A outer s H E).ex := fun b z => absurd (show b ∈ ([] : List Addr) from z) (by simp)
 refine ⟨⟨e0.mod, S.kind, rfl, rfl, Nat.le_refl _, fun y z c h1 h2 => ?_, fun y hy => ?_, fun y c _ h => ?_, fun _ => hd, Around.frames_deeper e0.frames, .inr ⟨rfl, rfl⟩, fun b z => absurd z (noA b), e0.bs, e0.bsz, fun b _ _ => noA b, fun b z => absurd z (noA b), e0.funs, e0.frf⟩,
  rfl, e0.bare, Un.kept hk, ⟨_, x.toInCall.ns, fun i y v h1 h2 h3 => ?_⟩, fun y c h => ⟨_, x.cell y c h⟩, e0.hok.fresh (Nat.le_refl _), fun y c h => ?_, fun p hp => absurd (show p ∈ ([] : List (Addr × Obj)) from hp) (by simp), e0.hok.kept hk, ?_⟩
 ·exact name_of_addr x.apart (PySem.mem_of_lookup h1) (PySem.mem_of_lookup h2)
 ·have hy : scope.names.lookup y = some .cell ∨ scope.names.lookup y = some .free := hy
  rcases hy with hy | hy
  ·exact MT hy
  ·exact absurd rfl (S.nofree _ (PySem.mem_of_lookup hy))
 ·exact Nat.le_of_lt (x.above y c (PySem.mem_of_lookup h))
 ·have hi : i < vs.length := by
   unfold start at h2
   by_cases hi : i < vs.length
   ·exact hi
   ·rw [List.getElem?_append_right (by simpa using hi)] at h2
    rw [List.getElem?_replicate] at h2
    split at h2 <;> cases h2
  have ha : vs[i]? = some v := by
   unfold start at h2
   rw [List.getElem?_append_left (by simpa using hi), List.getElem?_map] at h2
   cases e : vs[i]? with
   | none => rw [e] at h2; cases h2
   | some a => rw [e] at h2; cases h2; rfl
  obtain ⟨u, hu, rv⟩ := r.get ha
  have hp : ps[i]? = some y := by
   rw [← S.pre, List.getElem?_take_of_lt (by omega)]; exact h1
  have ndP : ps.Nodup := by rw [← S.pre]; exact S.nd.sublist (List.take_sublist _ _)
  refine ⟨u, rv, ?_⟩
  rcases S.par y (List.mem_of_getElem? hp) with k | k
  ·exact .inl ⟨k, Ke ndP hp hu k⟩
  ·obtain ⟨c, e⟩ := MT (n := s.heap.objs.size + 1) k
   refine .inr ⟨.inl k, c, e, ?_⟩
   have q := x.cell y c e
   rw [Kf ndP hp hu (by show scope.names.lookup y ≠ _; rw [k]; decide)] at q
   exact q
 ·exact e0.hok.fresh (Nat.le_of_lt (x.above y c (PySem.mem_of_lookup h)))
 ·unfold start
  show _ = N.length
  rw [List.length_append, List.length_map, List.length_replicate]
  omega
theorem Ow {CX : CXT} {P : Program} {w : World} {K : PySem.W.Frag} {mg : Str → Option Value} {base : Heap} {k : Nat} {f : Addr} {name qual : Str} {params : Arguments} {body : List Stmt} {scope : Scope} {dV kV doc pm cdv ct oc : Value} {an od : Option Addr}
  {osl : Array (Option Value)} {N ps : List Str} {sp : Sp} (lk : K.lookup f = some ⟨oc, od, .func (PySem.W.fnOf name qual params body scope dV kV doc pm an cdv ct), osl⟩) (hcd : PySem.W.codeIn K cdv qual = true) (S : FnScope N ps scope)
  (len : ∀ vs H Q E, sp vs H Q E → vs.length = ps.length)
  (hbody : ∀ (A : Around) (outer : List Env) (s : Shared) (H : Hp) (vs : List V) (Q : VK) (E : XK), Room k (A.deeper (envOfC qual scope s.heap.objs.size f cdv)) → sp vs H Q E →
   ∃ t, PSs (cxOf CX P w K mg base N qual scope f cdv A outer s H E) body t ∧ t { nx := fun _ H' => Q .non H', rt := Q } (start N vs) H) :
  FnOk P w K mg base CX (k + 1) f (PySem.W.fnOf name qual params body scope dV kV doc pm an cdv ct) ps sp := by
 refine ⟨len, fun A outer s H args us vs Q E hr e0 hb r hsp => ?_⟩
 have hl := len _ _ _ _ hsp
 have KX : K.In s.heap := e0.mod.kin.keeps fun b o e => (e0.bs b o e).1
 have lim : s.heap.NoLimit := e0.mod.nolimit.keeps fun b o e => (e0.bs b o e).1
 have hkind : ∀ y ∈ ps.zip us, scope.names.lookup y.1 = some .local ∨ (scope.names.lookup y.1 = some .cell ∧ ((cellsFrom (s.heap.objs.size + 1) scope.names []).lookup y.1).isSome = true) := fun ⟨n, v⟩ hy => by
  rcases S.par n (List.of_mem_zip hy).1 with q | q
  ·exact .inl q
  ·exact .inr ⟨q, PySem.W.cellsFrom_some _ _ _ (.inl q)⟩
 refine codeAny_call_function hr.depth (KX _ _ lk) rfl S.co S.gen rfl (PySem.W.codeRec_of KX hcd) (hb _ _ _ _ ?_)
 refine wpAny_newFunctionEnv_cells S.kind hkind fun env he s1 x => ?_
 subst he
 refine ⟨lim.keeps x.toInCall.keep, codeAny_func ?_⟩
 obtain ⟨t, ht, hq⟩ := hbody A outer s H vs Q E (hr.deeper _) hsp
 have I : Inv (cxOf CX P w K mg base N qual scope f cdv A outer s H E) [] (start N vs) H s1 := Qc S hr.hd e0 hl r x
 refine wpAny_mono (ht [] s1 (start N vs) H _ I hq) (fun fl s' hs => ?_) fun e s' hs => hs
 have fin : ∀ {σ' : St} {H' : Hp} {v : V} {u : Value}, Inv (cxOf CX P w K mg base N qual scope f cdv A outer s H E) [] σ' H' s' → RelV v u → Q v H' → CE outer P w H s Q u s' :=
  fun {σ' H' v u} J rv q => ⟨v, H', J.os, J.bare, J.base, J.hok, rv, q⟩
 cases fl with
 | ret u =>
  obtain ⟨v, σ', H', J, rv, q⟩ := hs
  exact fin J rv q
 | next =>
  obtain ⟨σ', H', J, q⟩ := hs
  exact fin (v := V.non) (u := Value.none) J rfl q
 | brk =>
  obtain ⟨_, _, _, q⟩ := hs
  exact False.elim q
 | cont =>
  obtain ⟨_, _, _, q⟩ := hs
  exact False.elim q
end L2
namespace L2
open PySem PySem.Spec PyProof.Rows
section
variable {X : Cx} {x : Str} {p pos : Pos} {e : Expr} {es : List Expr} {t : TA} {id T : String} {r : List V → Hp → VK → Prop}
def tCB (r : List V → Hp → VK → Prop) (t : TA) : TE := fun σ H Q => t σ H fun vs H1 => r vs H1 Q
theorem Ma (hc : Gy X (.builtin id) r) (hg : Gl X x) (hm : X.mg x = none) (hv : bootBuiltins x = some (.builtin id)) (ha : PA X (e :: es) t) (hn : x ≠ "__name__" := by decide) (hdb : (x == ("__debug__" : Str)) = false := by decide)
  (he : starEach (e :: es) X.env = (false, eval e X.env) :: starEach es X.env := by rfl) (hpl : (backTo pos (starEach es X.env)).any (·.1) = false := by rfl) : PE X (.Call (.Name x p) (e :: es) [] pos) (tCB r t) := by
 intro pins s σ H Q I h
 refine wpAny_Call_Name_kw (Qx I hg hm hv ?_ hn hdb)
 exact PyProof.Rows.callWith_builtin1 (thn (ha pos pins s σ H _ I h) fun us s1 ⟨vs, H1, I1, r1, q1⟩ => hc pins s1 σ H1 vs us Q I1 r1 q1) he hpl
end
end L2
namespace HT
open PySem PyProof.Rows
section
open PySem.SeqAt
open PySem.AutoSeq1 (wpAny_loadPart')
open PySem.MeetsSeq PySem.MeetsSeq2 PySem.MeetsSeq3
end
section
variable {prog : Program} {w : World} {A : Around} {E : Value → Shared → Prop} {s : Shared}
def sIx (n d : Nat) : Option Int → Nat
 | none => d
 | some v => if v < 0 then (v + (n : Int)).toNat else min v.toNat n
theorem YG (n d : Nat) (hd : d ≤ n) (o : Option Int) : sIx n d o ≤ n := by
 cases o with
 | none => exact hd
 | some v =>
  show (if v < 0 then (v + (n : Int)).toNat else min v.toNat n) ≤ n
  by_cases hv : v < 0
  ·rw [if_pos hv]; omega
  ·rw [if_neg hv]; exact Nat.min_le_right _ _
theorem Ox (v : Int) (n d : Nat) : (if v < 0 then max (v + (n : Int)) 0 else min v (n : Int)) = ((sIx n d (some v) : Nat) : Int) := by
 show (if v < 0 then max (v + (n : Int)) 0 else min v (n : Int)) = (((if v < 0 then (v + (n : Int)).toNat else min v.toNat n) : Nat) : Int)
 by_cases hv : v < 0
 ·simp only [if_pos hv]; omega
 ·simp only [if_neg hv]; omega
theorem Nr (lo hi : Option Int) (n : Nat) : Builtin.Slice.sliceAdjust lo hi 1 (n : Int) = (((sIx n 0 lo : Nat) : Int), ((sIx n n hi : Nat) : Int)) := by
 have h1 : ¬ ((1 : Int) < 0) := by omega
 unfold Builtin.Slice.sliceAdjust
 simp only [h1, if_false]
 refine Prod.ext ?_ ?_
 ·cases lo with
  | none => rfl
  | some v => exact Ox v n 0
 ·cases hi with
  | none => rfl
  | some v => exact Ox v n n
theorem Nu (i j : Nat) : Builtin.Slice.slicePlaces (i : Int) (j : Int) 1 = j - i := by
 unfold Builtin.Slice.slicePlaces
 have h1 : (1 : Int) > 0 := by omega
 simp only [h1, if_true, Int.ediv_one]
 split <;> omega
theorem Jf {v : Value} {o : Option Int} {Q : Option Int → Shared → Prop} (p : IsPart v o) (h : Q o s) : wpAny (model prog w) A (Builtin.Slice.slicePartIndex v) Q E s := by
 cases p with
 | none => exact slicePart_none h
 | int i t => exact slicePart_int h
theorem Ih {sl : Addr} {vl vu : Value} {lo hi : Option Int} {n : Nat} {Q : Int × Int × Nat → Shared → Prop} (hs : s.heap.IsSliceOf sl vl vu .none) (pl : IsPart vl lo) (pu : IsPart vu hi)
  (h : Q (((sIx n 0 lo : Nat) : Int), 1, sIx n n hi - sIx n 0 lo) s) : wpAny (model prog w) A (Builtin.Slice.sliceApplied (.ref sl) (pure (n : Int))) Q E s := by
 obtain ⟨os, hos, hcs, hds⟩ := id hs
 unfold Builtin.Slice.sliceApplied Builtin.Slice.sliceFields
 refine wpAny_bind (wpAny_bind (wpAny_field hos hds (x := vl) rfl (wpAny_bind (wpAny_field hos hds (x := vu) rfl (wpAny_bind (wpAny_field hos hds (x := .none) rfl (wpAny_pure ?_)))))))
 refine wpAny_bind (slicePart_none ?_)
 show wpAny _ _ (if ((1 : Int) == 0) = true then _ else _) _ _ s
 rw [if_neg (by decide)]
 refine wpAny_bind (Jf pl (wpAny_bind (Jf pu (wpAny_bind (wpAny_pure ?_)))))
 show wpAny _ _ (match Builtin.Slice.sliceAdjust lo hi 1 (n : Int) with | (lo, hi) => pure (lo, (1 : Int), Builtin.Slice.slicePlaces lo hi 1)) _ _ s
 rw [Nr lo hi n]
 show wpAny _ _ (pure (((sIx n 0 lo : Nat) : Int), (1 : Int), Builtin.Slice.slicePlaces ((sIx n 0 lo : Nat) : Int) ((sIx n n hi : Nat) : Int) 1)) _ _ s
 rw [Nu]
 exact wpAny_pure h
theorem RC (xs : Array Value) (i k : Nat) : ((List.range k).filterMap fun (m : Nat) => xs[((i : Int) + (m : Int) * 1).toNat]?).toArray = ((xs.toList.drop i).take k).toArray := by
 have e : (fun (m : Nat) => xs[((i : Int) + (m : Int) * 1).toNat]?) = fun m => xs[i + m]? := by
  funext m
  have : ((i : Int) + (m : Int) * 1).toNat = i + m := by omega
  rw [this]
 rw [e]
 have := pick_run xs i k
 rw [List.filterMap_map] at this
 have e2 : ((fun x => xs[x]?) ∘ fun x => i + x) = fun m => xs[i + m]? := rfl
 rw [e2] at this
 rw [this]
theorem Ht {t sl : Addr} {items : Array Value} {vl vu : Value} {lo hi : Option Int} {Q : Value → Shared → Prop} (ht : IsTup s.heap t items) (hs : s.heap.IsSliceOf sl vl vu .none) (pl : IsPart vl lo) (pu : IsPart vu hi)
  (hw : ¬ (sIx items.size 0 lo = 0 ∧ sIx items.size items.size hi = items.size))
  (h : Q (.ref s.heap.objs.size) { s with heap := s.heap.push { cls := .type "tuple", data := .seq ((items.toList.drop (sIx items.size 0 lo)).take (sIx items.size items.size hi - sIx items.size 0 lo)).toArray } })
  (hsz : items.size ≤ sizeLine) : wpAny (model prog w) A (getItem (.ref t) (.ref sl)) Q E s := by
 have htake : sizeOk (.seq ((items.toList.drop (sIx items.size 0 lo)).take (sIx items.size items.size hi - sIx items.size 0 lo)).toArray) := by
  show ((items.toList.drop (sIx items.size 0 lo)).take (sIx items.size items.size hi - sIx items.size 0 lo)).toArray.size ≤ sizeLine
  rw [List.size_toArray, List.length_take, List.length_drop, Array.length_toList]
  omega
 have hj : sIx items.size items.size hi ≤ items.size := YG _ _ (Nat.le_refl _) hi
 obtain ⟨os, hos, hcs, hds⟩ := id hs
 have hTs : s.TypeIs (.ref sl) "slice" := ⟨os, hos, hcs⟩
 unfold getItem
 try with_reducible refine wpAny_holding ?_
 first | refine wpAny_bind (wpAny_pure ?_) | skip
 refine wpAny_bind (wpAny_sequenceKey ht.typeIs (by decide) ?_)
 refine wpAny_bind (wpAny_callSpecial?_slot (name := Str.ofString "__getitem__") ht.typeIs PyProof.Rows.slot_tuple_getitem
  (wpAny_call_entry PyProof.Rows.slot_tuple_getitem ht.typeIs entry_tuple_getitem ?_ (args_tuple_getitem _ _)))
 show wpAny _ _ (Builtin.Tuple.tupleItemsOf (.ref t) >>= _) _ _ s
 refine wpAny_bind (tupleItemsOf_ ht ?_)
 refine wpAny_bind (wpAny_typeOf hTs ?_)
 rw [if_pos (by decide)]
 refine wpAny_bind (Ih hs pl pu ?_)
 have hno : ¬ ((((sIx items.size 0 lo : Nat) : Int) == 0 && (1 : Int) == 1 && (sIx items.size items.size hi - sIx items.size 0 lo) == items.size) = true) := by
  intro q
  rw [Bool.and_eq_true, Bool.and_eq_true] at q
  have q1 : ((sIx items.size 0 lo : Nat) : Int) = 0 := eq_of_beq q.1.1
  have q2 : sIx items.size items.size hi - sIx items.size 0 lo = items.size := eq_of_beq q.2
  exact hw ⟨by omega, by omega⟩
 show wpAny _ _ (if (((sIx items.size 0 lo : Nat) : Int) == 0 && (1 : Int) == 1 && (sIx items.size items.size hi - sIx items.size 0 lo) == items.size) = true then _ else _) _ _ s
 rw [if_neg hno, RC]
 first
  | exact wpAny_bind (m := Builtin.Tuple.tupleExact _) (wpAny_newObj_type (wpAny_pure ⟨_, rfl, wpAny_pure h⟩) htake)
  | exact wpAny_bind (m := Builtin.Tuple.tupleExact _) (wpAny_newObj_type (wpAny_bind (wpAny_pure (wpAny_pure ⟨_, rfl, wpAny_pure h⟩))) htake)
  | exact wpAny_bind (wpAny_bind (m := Builtin.Tuple.tupleExact _) (wpAny_newObj_type (wpAny_pure (wpAny_pure ⟨_, rfl, wpAny_pure h⟩)) htake))
  | exact wpAny_bind (wpAny_bind (m := Builtin.Tuple.tupleExact _) (wpAny_newObj_type (wpAny_pure ⟨_, rfl, wpAny_pure h⟩) htake))
end
end HT
namespace L2
open PySem PySem.Spec PyProof.Rows
abbrev TO := St → Hp → (Option Int → Hp → Prop) → Prop
def PO (X : Cx) (e : Option Expr) (t : TO) : Prop :=
 ∀ (pins : List (Addr × Obj)) (s : Shared) (σ : St) (H : Hp) (Q : Option Int → Hp → Prop), Inv X pins σ H s → t σ H Q →
  wpAny (model X.prog X.w) X.A (evalPart e X.env) (fun u s' => ∃ o H', Inv X pins σ H' s' ∧ IsPart u o ∧ Q o H') X.xe s
def U6 : TO := fun _ H Q => Q none H
def Zf (t : TE) : TO := fun σ H Q => t σ H fun x H1 => ∃ i, x = .int i ∧ Q (some i) H1
section
variable {X : Cx} {e : Expr} {te : TE} {lo hi : Option Expr} {tl th : TO} {pos p2 : Pos}
theorem U7 : PO X none U6 := by
 intro pins s σ H Q I h
 rw [evalPart_none]
 exact wpAny_pure ⟨none, H, I, .none, h⟩
theorem U8 (h : PE X e te) : PO X (some e) (Zf te) := by
 intro pins s σ H Q I hw
 rw [evalPart_some]
 refine thn (h pins s σ H _ I hw) fun u s1 ⟨x, H1, I1, r1, q1⟩ => ?_
 obtain ⟨i, rfl, q⟩ := q1
 obtain ⟨t, rfl⟩ := r1
 exact ⟨some i, H1, I1, .int i t, q⟩
def SlR (X : Cx) (r : V → Option Int → Option Int → Hp → VK → Prop) : Prop :=
 ∀ (pins : List (Addr × Obj)) (s : Shared) (σ : St) (H : Hp) (x : V) (v vl vu : Value) (lo hi : Option Int) (sl : Addr) (Q : VK), Inv X pins σ H s → RelV x v → s.heap.IsSliceOf sl vl vu .none → IsPart vl lo → IsPart vu hi → r x lo hi H Q →
  ∃ T id, typeLookup (.type T) "__getitem__" = pure (some (.builtin id)) ∧ s.TypeIs v T ∧ wpAny (model X.prog X.w) X.A (getItem v (.ref sl)) (EP X pins σ Q) X.xe s
theorem SlR.or {r r' : V → Option Int → Option Int → Hp → VK → Prop} (h : SlR X r) (h' : SlR X r') : SlR X (fun x lo hi H Q => r x lo hi H Q ∨ r' x lo hi H Q) := by
 intro pins s σ H x v vl vu lo hi sl Q I rx hs pl pu q
 rcases q with q | q
 ·exact h pins s σ H x v vl vu lo hi sl Q I rx hs pl pu q
 ·exact h' pins s σ H x v vl vu lo hi sl Q I rx hs pl pu q
def tSl (r : V → Option Int → Option Int → Hp → VK → Prop) (te : TE) (tl th : TO) : TE := fun σ H Q => te σ H fun x H1 => tl σ H1 fun l H2 => th σ H2 fun u H3 => r x l u H3 Q
theorem RD {r : V → Option Int → Option Int → Hp → VK → Prop} (hr : SlR X r) (he : PE X e te) (hl : PO X lo tl) (hu : PO X hi th) : PE X (.Subscript e (.Slice lo hi none p2) pos) (tSl r te tl th) := by
 intro pins s σ H Q I h
 refine Subscript_ (thn (he pins s σ H _ I h) fun v s1 ⟨x, H1, I1, r1, q1⟩ => ?_)
 refine wpAny_Slice (thn (hl pins s1 σ H1 _ I1 q1) fun vl s2 ⟨l, H2, I2, pl, q2⟩ => thn (hu pins s2 σ H2 _ I2 q2) fun vu s3 ⟨u, H3, I3, pu, q3⟩ => ?_)
 rw [evalPart_none]
 refine wpAny_pure ?_
 have I4 : Inv X pins σ H3 { s3 with heap := s3.heap.push { cls := .type "slice", data := .fields #[vl, vu, .none] } } := I3.kept (t' := s3.toks) fun b ob q => Heap.get?_push_of_some _ q
 obtain ⟨T, id, hT, ht, hg⟩ := hr pins { s3 with heap := s3.heap.push { cls := .type "slice", data := .fields #[vl, vu, .none] } } σ H3 x v vl vu l u s3.heap.objs.size Q I4 r1 (Heap.IsSliceOf.new ..) pl pu q3
 show wpAny (model X.prog X.w) X.A (subscriptTail e (.Slice lo hi none p2) v (.ref s3.heap.objs.size)) (EP X pins σ Q) X.xe { s3 with heap := s3.heap.push { cls := .type "slice", data := .fields #[vl, vu, .none] } }
 exact tail_any (ops := [.ref s3.heap.objs.size, v]) ht hT hg (by with_unfolding_all rfl)
def cutV (xs : List V) (lo hi : Option Int) : List V := (xs.drop (HT.sIx xs.length 0 lo)).take (HT.sIx xs.length xs.length hi - HT.sIx xs.length 0 lo)
theorem Iz (xs : List V) (lo hi : Option Int) : (cutV xs lo hi).length ≤ xs.length := by
 unfold cutV
 rw [List.length_take, List.length_drop]
 omega
def rSlT (K : PySem.W.Frag) : V → Option Int → Option Int → Hp → VK → Prop := fun x lo hi H Q => ∃ a xs, x = .ref a ∧ SqT K H a xs ∧
 ¬ (HT.sIx xs.length 0 lo = 0 ∧ HT.sIx xs.length xs.length hi = xs.length) ∧ ∀ p, H p = none → Q (.ref p) (upd H p (.tup (cutV xs lo hi)))
theorem YH : SlR X (rSlT X.K) := by
 intro pins s σ H x v vl vu lo hi sl Q I rx hs pl pu h
 obtain ⟨a, xs, rfl, hx, hw, q⟩ := h
 cases rx
 obtain ⟨its, r, ht, hz⟩ := I.tuple hx
 have hlen : its.toArray.size = xs.length := by rw [List.size_toArray]; exact r.length.symm
 refine ⟨"tuple", _, PyProof.Rows.slot_tuple_getitem.lookup, ht.typeIs, ?_⟩
 refine HT.Ht ht hs pl pu (by rw [hlen]; exact hw) ?_ (by rw [hlen]; exact hz)
 rw [hlen]
 refine ⟨.ref s.heap.objs.size, _, I.laid (t' := s.toks) (o := .tup (cutV xs lo hi)) (fun b ob q => Heap.get?_push_of_some _ q) (Nat.le_refl _) ?_, rfl, q _ (I.hok.fresh (Nat.le_refl _))⟩
 exact ⟨Nat.le_trans (Iz xs lo hi) hz, _, (r.drop (HT.sIx xs.length 0 lo)).take (HT.sIx xs.length xs.length hi - HT.sIx xs.length 0 lo), IsTup.new _ _⟩
end
end L2
namespace L2
open PySem PySem.Spec PyProof.Rows
def ixN (n : Nat) (i : Int) : Option Nat := if 0 ≤ i then (if i < n then some i.toNat else none) else if -(n : Int) ≤ i then some (i + n).toNat else none
def atI {α : Type} (xs : List α) (i : Int) : Option α := (ixN xs.length i).bind fun j => xs[j]?
theorem U9 {n : Nat} {i : Int} {j : Nat} (h : ixN n i = some j) : seqIndex? i n = some j ∧ j < n ∧ -(n : Int) ≤ i ∧ i < n := by
 unfold ixN at h
 by_cases h0 : 0 ≤ i
 ·rw [if_pos h0] at h
  by_cases h1 : i < n
  ·rw [if_pos h1] at h
   have e : i.toNat = j := Option.some.inj h
   exact ⟨by rw [seqIndex_of h0 h1, e], by omega, by omega, h1⟩
  ·rw [if_neg h1] at h; cases h
 ·rw [if_neg h0] at h
  by_cases h1 : -(n : Int) ≤ i
  ·rw [if_pos h1] at h
   have e : (i + n).toNat = j := Option.some.inj h
   exact ⟨by rw [seqIndex_neg (by omega) h1, e], by omega, h1, by omega⟩
  ·rw [if_neg h1] at h; cases h
theorem K3 {α : Type} {xs : List α} {i : Int} {v : α} (h : atI xs i = some v) : ∃ j, seqIndex? i xs.length = some j ∧ xs[j]? = some v ∧ j < xs.length ∧ -(xs.length : Int) ≤ i ∧ i < xs.length := by
 unfold atI at h
 cases e : ixN xs.length i with
 | none => rw [e] at h; cases h
 | some j =>
  rw [e] at h
  obtain ⟨h1, h2, h3, h4⟩ := U9 e
  exact ⟨j, h1, h, h2, h3, h4⟩
def K4 (b : Expr) : Prop := ∀ o i, subscripted b false o i = operate [o, i] (getItem o i)
def IxR (X : Cx) (r : R2) : Prop :=
 ∀ (value slice : Expr) (pins : List (Addr × Obj)) (s : Shared) (σ : St) (H : Hp) (x y : V) (v u : Value) (Q : VK), Inv X pins σ H s → RelV x v → RelV y u → r x y H Q →
  subscripted slice false v u = operate [v, u] (getItem v u) → wpAny (model X.prog X.w) X.A (subscriptTail value slice v u) (EP X pins σ Q) X.xe s
def MtR (X : Cx) (id : String) (r : V → List V → Hp → VK → Prop) : Prop :=
 ∀ (pins : List (Addr × Obj)) (s : Shared) (σ : St) (H : Hp) (x : V) (xs : List V) (v : Value) (us : List Value) (Q : VK), Inv X pins σ H s → RelV x v → Vals xs us → r x xs H Q →
  wpAny (model X.prog X.w) X.A (call (.builtin id) (v :: us)) (EP X pins σ Q) X.xe s
section
variable {X : Cx} {a b : Expr} {ta tb : TE} {pos : Pos}
theorem IxR.or {r r' : R2} (h : IxR X r) (h' : IxR X r') : IxR X (fun x y H Q => r x y H Q ∨ r' x y H Q) := by
 intro value slice pins s σ H x y v u Q I rx ry q hs
 rcases q with q | q
 ·exact h value slice pins s σ H x y v u Q I rx ry q hs
 ·exact h' value slice pins s σ H x y v u Q I rx ry q hs
theorem MtR.or {id : String} {r r' : V → List V → Hp → VK → Prop} (h : MtR X id r) (h' : MtR X id r') : MtR X id (fun x xs H Q => r x xs H Q ∨ r' x xs H Q) := by
 intro pins s σ H x xs v us Q I rx rs q
 rcases q with q | q
 ·exact h pins s σ H x xs v us Q I rx rs q
 ·exact h' pins s σ H x xs v us Q I rx rs q
theorem Zg {r : R2} (hr : IxR X r) (ha : PE X a ta) (hb : PE X b tb) (hs : K4 b) : PE X (.Subscript a b pos) (tOp r ta tb) := by
 intro pins s σ H Q I h
 exact Subscript_ (binT ha hb I h fun v u s2 x y H2 I2 rx ry q => hr a b pins s2 σ H2 x y v u Q I2 rx ry q (hs _ _))
def rIxL (K : PySem.W.Frag) : R2 := fun x y H Q => ∃ p xs i v, x = .ref p ∧ y = .int i ∧ SqL K H p xs ∧ atI xs i = some v ∧ Q v H
def rIxT (K : PySem.W.Frag) : R2 := fun x y H Q => ∃ p xs i v, x = .ref p ∧ y = .int i ∧ SqT K H p xs ∧ atI xs i = some v ∧ Q v H
def rIxS : R2 := fun x y H Q => ∃ z i c, x = .str z ∧ y = .int i ∧ z.length ≤ sizeLine ∧ atI z.cps.toList i = some c ∧ Q (.str ⟨#[c]⟩) H
theorem U_ : IxR X (rIxL X.K) := by
 intro value slice pins s σ H x y v u Q I rx ry h hs
 obtain ⟨p, xs, i, z, rfl, rfl, hq, he, q⟩ := h
 cases rx
 obtain ⟨t, rfl⟩ := ry
 obtain ⟨its, r, pl, hz⟩ := I.list hq
 obtain ⟨j, h1, h2, h3, h4, h5⟩ := K3 he
 obtain ⟨w, ew, rw'⟩ := r.get h2
 have hl := r.length
 have hn := Je
 have fin : EP X pins σ Q w s := ⟨z, H, I, rw', q⟩
 by_cases h0 : 0 ≤ i
 ·have hj : i.toNat = j := by
   rw [seqIndex_of h0 h5] at h1
   exact Option.some.inj h1
  exact item_listR pl.isList h0 (by omega) (by rw [hj]; simpa using ew) fin hs
 ·have hj : (i + (its.toArray.size : Int)).toNat = j := by
   rw [seqIndex_neg (by omega) h4] at h1
   rw [List.size_toArray, ← hl]
   exact Option.some.inj h1
  exact subscriptTail_builtinR (x := w) pl.isList.typeIs slot_list_getitem.lookup
   (wpAny_getItem_list_neg (Q := fun r s' => r = w ∧ EP X pins σ Q r s') pl.isList (by omega) (by rw [List.size_toArray] <;> omega) (by omega) (by rw [hj]; simpa using ew) ⟨rfl, fin⟩) hs
theorem YJ : IxR X (rIxT X.K) := by
 intro value slice pins s σ H x y v u Q I rx ry h hs
 obtain ⟨p, xs, i, z, rfl, rfl, hq, he, q⟩ := h
 cases rx
 obtain ⟨t, rfl⟩ := ry
 obtain ⟨its, r, pl, hz⟩ := I.tuple hq
 obtain ⟨j, h1, h2, h3, h4, h5⟩ := K3 he
 obtain ⟨w, ew, rw'⟩ := r.get h2
 have hl := r.length
 have hn := Je
 have fin : EP X pins σ Q w s := ⟨z, H, I, rw', q⟩
 exact subscriptTail_builtinR (x := w) pl.typeIs slot_tuple_getitem.lookup
  (getItem_tuple (j := j) (Q := fun r s' => r = w ∧ EP X pins σ Q r s') pl (by omega) (by omega) (by rw [List.size_toArray, ← hl]; exact h1) (by simpa using ew) ⟨rfl, fin⟩) hs
theorem YK : IxR X rIxS := by
 intro value slice pins s σ H x y v u Q I rx ry h hs
 obtain ⟨z, i, c, rfl, rfl, hz, he, q⟩ := h
 obtain ⟨t, rfl⟩ := rx
 obtain ⟨t', rfl⟩ := ry
 obtain ⟨j, h1, h2, h3, h4, h5⟩ := K3 he
 have hl : z.cps.toList.length = z.length := by simp [Str.length]
 rw [hl] at h1 h4 h5
 have hn := Je
 exact tail_any (typeIs_str s z t) slot_str_getitem.lookup (getItem_str (c := c) (by
  have e1 : decide (i < -(2 ^ 63 : Int)) = false := decide_eq_false (by omega)
  have e2 : decide (i ≥ 2 ^ 63) = false := decide_eq_false (by omega)
  rw [e1, e2, Bool.or_false]) (by rw [h1]; simpa using h2) ⟨.str ⟨#[c]⟩, H, I.tok _, ⟨_, rfl⟩, q⟩) hs
def rIx (K : PySem.W.Frag) : R2 := fun x y H Q => rIxL K x y H Q ∨ rIxT K x y H Q ∨ rIxS x y H Q
theorem YL : IxR X (rIx X.K) := U_.or (YJ.or YK)
theorem Inv.lst {pins : List (Addr × Obj)} {σ : St} {H : Hp} {s : Shared} {p : Addr} {xs : List V} (I : Inv X pins σ H s) (h : H p = some (.lst xs)) :
  ∃ (its : List Value) (n : Nat), Vals xs its ∧ s.heap.get? p = some { cls := .type "list", data := .seq its.toArray n } ∧ xs.length ≤ sizeLine := by
 obtain ⟨z, its, n, r, e⟩ := I.hok p _ h
 exact ⟨its, n, r, e, z⟩
theorem K5 (lo hi : Option Int) (n : Nat) : (sliceBounds lo hi none n).1 = ((HT.sIx n 0 lo : Nat) : Int) ∧ (sliceBounds lo hi none n).2.1 = ((HT.sIx n n hi : Nat) : Int) ∧ (sliceBounds lo hi none n).2.2 = 1 := by
 refine ⟨?_, ?_, rfl⟩
 ·cases lo with
  | none => simp [sliceBounds, HT.sIx]
  | some i =>
   simp only [sliceBounds, HT.sIx, Option.getD_none, show (1 : Int) > 0 by decide, if_true]
   by_cases h : i < 0
   ·simp only [h, if_true] <;> omega
   ·simp only [h, if_false] <;> omega
 ·cases hi with
  | none => simp [sliceBounds, HT.sIx]
  | some i =>
   simp only [sliceBounds, HT.sIx, Option.getD_none, show (1 : Int) > 0 by decide, if_true]
   by_cases h : i < 0
   ·simp only [h, if_true] <;> omega
   ·simp only [h, if_false] <;> omega
theorem KJ (its : List Value) (lo hi : Option Int) : slicePick its.toArray lo hi none = ((its.drop (HT.sIx its.length 0 lo)).take (HT.sIx its.length its.length hi - HT.sIx its.length 0 lo)).toArray := by
 obtain ⟨h1, h2, h3⟩ := K5 lo hi its.toArray.size
 unfold slicePick
 rw [h1, h2, h3]
 simp only [sliceRange_one, pick_run, List.size_toArray] <;> rfl
def rSlL (K : PySem.W.Frag) : V → Option Int → Option Int → Hp → VK → Prop := fun x lo hi H Q => ∃ a xs, x = .ref a ∧ SqL K H a xs ∧ ∀ p, H p = none → Q (.ref p) (upd H p (.lst (cutV xs lo hi)))
theorem VB : SlR X (rSlL X.K) := by
 intro pins s σ H x v vl vu lo hi sl Q I rx hs pl pu h
 obtain ⟨a, xs, rfl, hx, q⟩ := h
 cases rx
 obtain ⟨its, r, ht, hz⟩ := I.list hx
 have hlen := r.length
 refine ⟨"list", _, slot_list_getitem.lookup, ht.isList.typeIs, ?_⟩
 refine wpAny_getItem_list_slice ht.isList hs pl pu .none (by simp) ?_ (by rw [List.size_toArray] <;> omega)
 rw [KJ, ← hlen]
 refine ⟨.ref s.heap.objs.size, _, I.laid (t' := s.toks) (o := .lst (cutV xs lo hi)) (fun b ob q => Heap.get?_push_of_some _ q) (Nat.le_refl _) ?_, rfl, q _ (I.hok.fresh (Nat.le_refl _))⟩
 exact ⟨Nat.le_trans (Iz xs lo hi) hz, _, 0, (r.drop (HT.sIx xs.length 0 lo)).take (HT.sIx xs.length xs.length hi - HT.sIx xs.length 0 lo), Heap.get?_push_size _ rfl⟩
def Gv : V → Bool
 | .non => true
 | .bl _ => true
 | .int _ => true
 | .str _ => true
 | _ => false
def eqV : V → V → Bool
 | .non, .non => true
 | .bl a, .bl b => a == b
 | .bl a, .int b => (if a then 1 else 0) == b
 | .int a, .bl b => a == (if b then 1 else 0)
 | .int a, .int b => a == b
 | .str a, .str b => a == b
 | _, _ => false
theorem RG {A : Around} {s : Shared} {y x : V} {u v : Value} (ry : RelV y u) (rx : RelV x v) (fy : Gv y = true) (fx : Gv x = true) : SeqAt.EqAt A s u v (eqV y x) := by
 cases y with
 | non =>
  cases ry
  cases x with
  | non => cases rx; exact SeqAt.EqAt.same _
  | bl b => cases rx; exact SeqAt.EqAt.none_bool b
  | int b => obtain ⟨t, rfl⟩ := rx; exact SeqAt.EqAt.none_int b t
  | str b => obtain ⟨t, rfl⟩ := rx; exact SeqAt.EqAt.none_str b t
  | _ => exact absurd (show false = true from fx) Bool.false_ne_true
 | bl a =>
  cases ry
  cases x with
  | non => cases rx; exact SeqAt.EqAt.bool_none a
  | bl b => cases rx; exact SeqAt.EqAt.bool_bool a b
  | int b => obtain ⟨t, rfl⟩ := rx; exact SeqAt.EqAt.bool_int a b t
  | str b => obtain ⟨t, rfl⟩ := rx; exact SeqAt.EqAt.bool_str a b t
  | _ => exact absurd (show false = true from fx) Bool.false_ne_true
 | int a =>
  obtain ⟨t', rfl⟩ := ry
  cases x with
  | non => cases rx; exact SeqAt.EqAt.int_none a t'
  | bl b => cases rx; exact SeqAt.EqAt.int_bool a t' b
  | int b => obtain ⟨t, rfl⟩ := rx; exact SeqAt.EqAt.int_int a t' b t
  | str b => obtain ⟨t, rfl⟩ := rx; exact SeqAt.EqAt.int_str a t' b t
  | _ => exact absurd (show false = true from fx) Bool.false_ne_true
 | str a =>
  obtain ⟨t', rfl⟩ := ry
  cases x with
  | non => cases rx; exact SeqAt.EqAt.str_none a t'
  | bl b => cases rx; exact SeqAt.EqAt.str_bool a t' b
  | int b => obtain ⟨t, rfl⟩ := rx; exact SeqAt.EqAt.str_int a t' b t
  | str b => obtain ⟨t, rfl⟩ := rx; exact SeqAt.EqAt.str_str a t' b t
  | _ => exact absurd (show false = true from fx) Bool.false_ne_true
 | _ => exact absurd (show false = true from fy) Bool.false_ne_true
def eqU (x : V) (u : Value) : Bool := match u with
 | .none => eqV .non x
 | .bool b => eqV (.bl b) x
 | .int i _ => eqV (.int i) x
 | .str z _ => eqV (.str z) x
 | _ => false
theorem RJ {x y : V} {u : Value} (r : RelV y u) (f : Gv y = true) : eqU x u = eqV y x := by
 cases y with
 | non => cases r; rfl
 | bl b => cases r; rfl
 | int i => obtain ⟨t, rfl⟩ := r; rfl
 | str z => obtain ⟨t, rfl⟩ := r; rfl
 | _ => exact absurd (show false = true from f) Bool.false_ne_true
theorem K6 {x : V} : ∀ {xs : List V} {us : List Value}, Vals xs us → xs.all Gv = true → us.any (eqU x) = xs.any fun y => eqV y x
 | _, _, .nil, _ => rfl
 | y :: xs, u :: us, .cons r t, f => by
  rw [List.all_cons, Bool.and_eq_true] at f
  rw [List.any_cons, List.any_cons, RJ r f.1, K6 t f.2]
theorem Jg {A : Around} {s : Shared} {x : V} {v : Value} (rx : RelV x v) (fx : Gv x = true) : ∀ {xs : List V} {us : List Value}, Vals xs us → xs.all Gv = true → ∀ u ∈ us, SeqAt.EqAt A s u v (eqU x u)
 | _, _, .nil, _ => fun u hu => by cases hu
 | y :: xs, u :: us, .cons r t, f => fun u' hu => by
  rw [List.all_cons, Bool.and_eq_true] at f
  rcases List.mem_cons.mp hu with rfl | hu
  ·rw [RJ r f.1]; exact RG r rx f.1 fx
  ·exact Jg rx fx t f.2 u' hu
def inV (x : V) (xs : List V) : Bool := xs.any fun y => eqV y x
def rIn (K : PySem.W.Frag) (neg : Bool) : R2 := fun x y H Q => ∃ p xs, y = .ref p ∧ (SqL K H p xs ∨ SqT K H p xs) ∧ Gv x = true ∧ xs.all Gv = true ∧ Q (.bl (if neg then !inV x xs else inV x xs)) H
theorem Qd : OpR X (compareOp .In) (rIn X.K false) := by
 intro pins s σ H x y v u Q I rx ry h
 obtain ⟨p, xs, rfl, hq, fx, fs, q⟩ := h
 cases ry
 rcases hq with hq | hq
 ·obtain ⟨its, r, pl, hz⟩ := I.list hq
  refine SeqAt.in_listAt (eqU x) pl.isList (fun w hw => Jg rx fx r fs w (by simpa using hw)) ⟨.bl _, H, I, rfl, ?_⟩
  rw [show its.toArray.any (eqU x) = its.any (eqU x) by simp, K6 r fs]
  exact q
 ·obtain ⟨its, r, pl, hz⟩ := I.tuple hq
  refine SeqAt.in_tupleAt (eqU x) pl (fun w hw => Jg rx fx r fs w (by simpa using hw)) ⟨.bl _, H, I, rfl, ?_⟩
  rw [show its.toArray.any (eqU x) = its.any (eqU x) by simp, K6 r fs]
  exact q
theorem Gy.or {f : Value} {r r' : List V → Hp → VK → Prop} (h : Gy X f r) (h' : Gy X f r') : Gy X f (fun xs H Q => r xs H Q ∨ r' xs H Q) := by
 intro pins s σ H xs us Q I rs q
 rcases q with q | q
 ·exact h pins s σ H xs us Q I rs q
 ·exact h' pins s σ H xs us Q I rs q
def tyV (K : PySem.W.Frag) (T : String) (x : V) (H : Hp) : Prop := match x with
  | .str _ => T = "str"
  | .int _ => T = "int"
  | .ref p => (T = "list" ∧ ∃ xs, SqL K H p xs) ∨ (T = "tuple" ∧ ∃ o, K.lookup p = some o ∧ o.cls = .type "tuple" ∧ o.dict = none) ∨
      (T = "dict" ∧ ((∃ kvs, H p = some (.dK kvs)) ∨ ∃ kvs, H p = some (.dT kvs))) ∨ (T = "set" ∧ ∃ S n, H p = some (.set S n))
  | _ => False
theorem YM {pins : List (Addr × Obj)} {σ : St} {H : Hp} {s : Shared} {T : String} {x : V} {v : Value} (I : Inv X pins σ H s) (r : RelV x v) (ty : tyV X.K T x H) :
  s.TypeIs v T ∧ ∀ a, v = .ref a → ∃ ob, s.heap.get? a = some ob ∧ ob.dict = none := by
 cases x with
 | str z =>
  obtain ⟨t, rfl⟩ := r
  cases (show T = "str" from ty)
  exact ⟨typeIs_str s z t, fun _ e => nomatch e⟩
 | int i =>
  obtain ⟨t, rfl⟩ := r
  cases (show T = "int" from ty)
  exact ⟨typeIs_int s i t, fun _ e => nomatch e⟩
 | ref p =>
  cases r
  rcases ty with ⟨rfl, xs, hq⟩ | ⟨rfl, o, hk, hc, hd⟩ | ⟨rfl, hk⟩ | ⟨rfl, S, n, hk⟩
  ·obtain ⟨its, _, pl, _⟩ := I.list hq
   refine ⟨pl.isList.typeIs, fun a e => ?_⟩
   cases e
   obtain ⟨o, n, e, c, hd, _⟩ := pl
   exact ⟨o, e, hd⟩
  ·refine ⟨⟨o, I.kIn p o hk, hc⟩, fun a e => ?_⟩
   cases e
   exact ⟨o, I.kIn _ o hk, hd⟩
  ·have z : ∃ o, s.heap.get? p = some o ∧ o.ExactDict := by
    rcases hk with ⟨kvs, hk⟩ | ⟨kvs, hk⟩
    ·obtain ⟨_, _, _, _, o, _, _, e, ex, _⟩ := I.hok p _ hk
     exact ⟨o, e, ex⟩
    ·obtain ⟨_, _, _, _, o, _, _, e, ex, _⟩ := I.hok p _ hk
     exact ⟨o, e, ex⟩
   obtain ⟨o, e, ex⟩ := z
   refine ⟨⟨o, e, ex.1⟩, fun a e2 => ?_⟩
   cases e2
   exact ⟨o, e, ex.2.1⟩
  ·obtain ⟨o, _, _, _, e, ex, _⟩ := I.hok p _ hk
   refine ⟨⟨o, e, ex.1⟩, fun a e2 => ?_⟩
   cases e2
   exact ⟨o, e, ex.2.1⟩
 | _ => exact False.elim ty
def tBM (K : PySem.W.Frag) (T : String) (r : V → List V → Hp → VK → Prop) (to : TE) (t : TA) : TE := fun σ H Q => to σ H fun x H1 => tyV K T x H1 ∧ t σ H1 fun xs H2 => r x xs H2 Q
variable {o e : Expr} {es : List Expr} {to : TE} {t : TA} {name : Str} {apos cpos : Pos} {T id : String} {r : V → List V → Hp → VK → Prop}
theorem Zh (pa : PlainAttrs T) (slot : Slot T name id) (hty : typeOf (.builtin id) = pure (.type "method_descriptor")) (hm : MtR X id r) (ho : PE X o to) (ha : PA X (e :: es) t)
  (hbase : attributeBase o name X.env (eval o X.env) = eval o X.env := by rfl)
  (hfew : ((backTo cpos (starEach (e :: es) X.env)).all (fun x => !x.1) && (backToKw cpos (keywordEach [] X.env)).all (fun x => x.1.isSome)
   && decide ((e :: es).length + ([] : List Keyword).length + (if ([] : List Keyword).isEmpty then 0 else 1) < 30)) = true := by rfl)
  (hline : (apos.endLine == cpos.line) = true := by rfl) (hs : starEach (e :: es) X.env = (false, eval e X.env) :: starEach es X.env := by rfl) (hplain : (backTo cpos (starEach es X.env)).any (·.1) = false := by rfl) :
  PE X (.Call (.Attribute o name apos) (e :: es) [] cpos) (tBM X.K T r to t) := by
 intro pins s σ H Q I h
 refine wpAny_Call_method_late hbase hfew hline rfl (thn (ho pins s σ H _ I h) fun v s1 ⟨x, H1, I1, r1, ty, q1⟩ => ?_)
 obtain ⟨h1, h2⟩ := YM I1 r1 ty
 refine ⟨T, id, pa, slot, hty, h1, h2, ?_⟩
 have hA := ha cpos pins s1 σ H1 _ I1 q1
 rw [hs] at hA ⊢
 refine Calls.callWith_builtin (by show (false || (backTo cpos (starEach es X.env)).any (·.1)) = false; rw [hplain] <;> rfl) (Calls.evalArgs_plain ?_)
 exact thn hA fun us s2 ⟨vs, H2, I2, r2, q2⟩ => hm pins s2 σ H2 x vs v us Q I2 r1 r2 q2
end
end L2
namespace L2
open PySem PySem.Spec PyProof.Rows
def MtM (X : Cx) (id : String) (r : V → List V → Hp → VK → Prop) : Prop :=
 ∀ (pins : List (Addr × Obj)) (s : Shared) (σ : St) (H : Hp) (x : V) (xs : List V) (v : Value) (us : List Value) (Q : VK), Inv X pins σ H s → RelV x v → Vals xs us → r x xs H Q →
  wpAny (model X.prog X.w) X.A (call (.builtin id) (v :: us)) (EP X pins σ Q) X.xe s
theorem Vals.one : ∀ {x : V} {us : List Value}, Vals [x] us → ∃ u, us = [u] ∧ RelV x u
 | _, _, .cons r .nil => ⟨_, rfl, r⟩
theorem Vals.zero : ∀ {us : List Value}, Vals [] us → us = []
 | _, .nil => rfl
section
variable {X : Cx} {pins : List (Addr × Obj)} {σ : St} {H : Hp} {s : Shared} {l b : Addr} {xs ys zs : List V}
theorem Inv.lset {its its' : List Value} {n : Nat} {f : Array Value → Array Value} {t' : Nat} (I : Inv X pins σ H s) (hH : H l = some (.lst xs))
  (e : s.heap.get? l = some { cls := .type "list", data := .seq its.toArray n }) (hf : f its.toArray = its'.toArray) (hv : Vals ys its') (hz : ys.length ≤ sizeLine) :
  Inv X pins σ (upd H l (.lst ys)) { s with heap := s.heap.update l (Obj.mapSeq f), toks := t' } := by
 have q := PySem.IsL.update e f
 rw [hf] at q
 refine I.write (x := l) (e := l) (by rw [hH]; exact trivial) (.inl rfl) (fun b' u hb hu => (Heap.get?_update_other s.heap (Obj.mapSeq f) (Ne.symm hb)).trans hu) ⟨_, q⟩ ?_
 exact ⟨hz, its', _, hv, q⟩
theorem Inv.lnew {its : List Value} {t' : Nat} (I : Inv X pins σ H s) (hv : Vals ys its) (hz : ys.length ≤ sizeLine) :
  Inv X pins σ (upd H s.heap.objs.size (.lst ys)) { s with heap := s.heap.push { cls := .type "list", data := .seq its.toArray }, toks := t' } :=
 I.laid (fun _ _ q => Heap.get?_push_of_some _ q) (Nat.le_refl _) ⟨hz, its, 0, hv, Heap.get?_push_size _ rfl⟩
theorem Inv.fresh (I : Inv X pins σ H s) : H s.heap.objs.size = none := I.hok.fresh (Nat.le_refl _)
theorem Inv.lstM (I : Inv X pins σ H s) (hH : H l = some (.lst xs)) : xs.length ≤ sizeLine ∧ ∃ (its : List Value) (n : Nat), Vals xs its ∧ xs.length = its.length ∧ s.heap.get? l = some { cls := .type "list", data := .seq its.toArray n } := by
 obtain ⟨z, its, n, r, e⟩ := I.hok l _ hH
 exact ⟨z, its, n, r, r.length, e⟩
end
section
variable {X : Cx}
def VD : V → List V → Hp → VK → Prop := fun x vs H Q => ∃ l xs y, x = .ref l ∧ vs = [y] ∧ H l = some (.lst xs) ∧ xs.length < sizeLine ∧ Q .non (upd H l (.lst (xs ++ [y])))
theorem Qe : MtM X "list.append" VD := by
 intro pins s σ H x vs v us Q I rx rv h
 obtain ⟨l, xs, y, rfl, rfl, hH, hz, q⟩ := h
 cases rx
 obtain ⟨u, rfl, ru⟩ := rv.one
 obtain ⟨z, its, n, r, hl, e⟩ := I.lstM hH
 refine call_meets F.slot_list_append ⟨_, e, rfl⟩ F.entry_list_append (F.args_list_append_2 _ _) (PySem.list_append l its.toArray n u (by rw [List.size_toArray]; omega)) ⟨e, ?_⟩
 refine ⟨.non, _, I.lset (its' := its ++ [u]) hH e (by simp) (r.append (.cons ru .nil)) ?_, rfl, q⟩
 rw [List.length_append, List.length_singleton]
 omega
end
section
variable {prog : Program} {w : World} {A : Around} {E : Value → Shared → Prop} {s : Shared}
end
section
variable {X : Cx}
end
end L2
namespace L2
open PySem PySem.Spec PyProof.Rows
section
variable {κ : Type} [DecidableEq κ]
def valV (kvs : List (κ × V)) (k : κ) : Option V := (kvs.find? fun kv => decide (kv.1 = k)).map (·.2)
def putK (kvs : List (κ × V)) (k : κ) (v : V) : List (κ × V) :=
 if (kvs.any fun kv => decide (kv.1 = k)) = true then kvs.map (fun kv => if kv.1 = k then (kv.1, v) else kv) else kvs ++ [(k, v)]
def We (kvs : List (κ × V)) (k : κ) : List (κ × V) := kvs.filter fun kv => decide (kv.1 ≠ k)
theorem Jh {p : κ × V} {r : List (κ × V)} {k : κ} (e : p.1 = k) : valV (p :: r) k = some p.2 := by simp [valV, List.find?_cons, e]
theorem Ji {p : κ × V} {r : List (κ × V)} {k : κ} (e : ¬ p.1 = k) : valV (p :: r) k = valV r k := by simp [valV, List.find?_cons, e]
theorem RelO.isSome_eq {o : Option V} {u : Option Value} (r : RelO o u) : o.isSome = u.isSome := by
 cases o with
 | none => cases u with
  | none => rfl
  | some _ => exact (show False from r).elim
 | some _ => cases u with
  | none => exact (show False from r).elim
  | some _ => rfl
theorem RelO.getD {o : Option V} {u : Option Value} {d : V} {d' : Value} (r : RelO o u) (rd : RelV d d') : RelV (o.getD d) (u.getD d') := by
 cases o with
 | none => cases u with
  | none => exact rd
  | some _ => exact (show False from r).elim
 | some _ => cases u with
  | none => exact (show False from r).elim
  | some _ => exact r
theorem KV.val {kvs : List (κ × V)} {vs : List (κ × Value)} (r : KV kvs vs) (k : κ) : RelO (valV kvs k) (valueAt vs k) := by
 unfold KV at r
 induction r with
 | nil => exact True.intro
 | @cons p q ps qs h t ih =>
  obtain ⟨h1, h2⟩ := h
  by_cases e : p.1 = k
  ·have e' : q.1 = k := h1.symm.trans e
   have b : valueAt (q :: qs) k = some q.2 := by simp [valueAt, List.find?_cons, e']
   rw [Jh e, b]; exact h2
  ·have e' : ¬ q.1 = k := fun z => e (h1.trans z)
   have b : valueAt (q :: qs) k = valueAt qs k := by simp [valueAt, List.find?_cons, e']
   rw [Ji e, b]; exact ih
theorem KV.any {kvs : List (κ × V)} {vs : List (κ × Value)} (r : KV kvs vs) (k : κ) : (kvs.any fun kv => decide (kv.1 = k)) = vs.any fun kv => decide (kv.1 = k) := by
 unfold KV at r
 induction r with
 | nil => rfl
 | cons h t ih => rw [List.any_cons, List.any_cons, ih, h.1]
theorem KV.drop {kvs : List (κ × V)} {vs : List (κ × Value)} (r : KV kvs vs) (k : κ) : KV (We kvs k) (without vs k) := by
 unfold KV at r ⊢
 unfold We without
 induction r with
 | nil => exact .nil
 | @cons p q ps qs h t ih =>
  obtain ⟨h1, h2⟩ := h
  rw [List.filter_cons, List.filter_cons]
  by_cases e : p.1 = k
  ·have a : ¬ decide (p.1 ≠ k) = true := by simp [e]
   have b : ¬ decide (q.1 ≠ k) = true := by simp [h1.symm.trans e]
   rw [if_neg a, if_neg b]; exact ih
  ·have e' : ¬ q.1 = k := fun z => e (h1.trans z)
   have a : decide (p.1 ≠ k) = true := by simp [e]
   have b : decide (q.1 ≠ k) = true := by simp [e']
   rw [if_pos a, if_pos b]; exact .cons ⟨h1, h2⟩ ih
theorem KV.length {kvs : List (κ × V)} {vs : List (κ × Value)} (r : KV kvs vs) : kvs.length = vs.length := Paired.length r
end
theorem Wf {P : Program} {w : World} {k : Key} {u : Value} (r : RelV (kV k) u) : (DG P w).is k u = true := by
 cases k with
 | inl i => obtain ⟨t, e⟩ := (show ∃ t, u = Value.int i t from r); subst e; exact MK P w i t
 | inr x => obtain ⟨t, e⟩ := (show ∃ t, u = Value.str x t from r); subst e; exact MN P w x t
theorem Kg {P : Program} {w : World} : ∀ {ks : List Key} {us : List Value}, Vals (ks.map kV) us → ItemsAre (DG P w) ks us
 | [], _, r => by rw [List.map_nil] at r; cases r; exact .nil
 | k :: ks, _, r => by
  rw [List.map_cons] at r
  cases r with
  | cons h t => exact .cons (Wf h) (Kg t)
abbrev KT (H : Hp) : List (List Key × V) → List (List Key × Addr × Value) → Prop := Paired fun p q => p.1 = q.1 ∧ H q.2.1 = some (.tup (p.1.map kV)) ∧ RelV p.2 q.2.2
theorem KT.val {H : Hp} {kvs : List (List Key × V)} {xs : List (List Key × Addr × Value)} (r : KT H kvs xs) (k : List Key) : RelO (valV kvs k) ((atKey xs k).map (·.2)) := by
 induction r with
 | nil => exact True.intro
 | @cons p q ps qs h t ih =>
  obtain ⟨h1, _, h2⟩ := h
  by_cases e : p.1 = k
  ·have e' : q.1 = k := h1.symm.trans e
   have b : atKey (q :: qs) k = some q.2 := by simp [atKey, List.find?_cons, e']
   rw [Jh e, b]; exact h2
  ·have e' : ¬ q.1 = k := fun z => e (h1.trans z)
   have b : atKey (q :: qs) k = atKey qs k := by simp [atKey, List.find?_cons, e']
   rw [Ji e, b]; exact ih
theorem KT.keeps {H H' : Hp} {kvs : List (List Key × V)} {xs : List (List Key × Addr × Value)} (r : KT H kvs xs) (ht : ∀ b ys, H b = some (.tup ys) → H' b = some (.tup ys)) : KT H' kvs xs :=
 Paired.mapP r fun _ _ z => ⟨z.1, ht _ _ z.2.1, z.2.2⟩
section
variable {P : Program} {w : World} {H : Hp} {h : Heap} {a : Addr}
theorem Wg {u : HO} (ok : HOk P w H h) (e : Rd H a u) : Cr P w H h a u := e.ok ok
theorem RK {kvs : List (Key × V)} (ok : HOk P w H h) (e : Rd H a (.dK kvs)) : kvs.length ≤ sizeLine ∧ (a == sysModules) = false ∧ ∃ vs, KV kvs vs ∧ h.DictOf (DG P w) a vs :=
 show Cr P w H h a (.dK kvs) from Wg ok e
theorem Zi {kvs : List (Key × V)} (ok : HOk P w H h) (e : H a = some (.dK kvs)) : kvs.length ≤ sizeLine ∧ (a == sysModules) = false ∧ ∃ vs, KV kvs vs ∧ h.DictOf (DG P w) a vs := RK ok (.inl e)
theorem RL {ks : List Key} (ok : HOk P w H h) (e : H a = some (.tup (ks.map kV))) : (tupleKind (DG P w)).is h ks a := by
 obtain ⟨_, its, r, o, h1, h2, n, h3⟩ := (show Cr P w H h a (.tup (ks.map kV)) from ok a _ e)
 exact ⟨o, its.toArray, n, h1, h2, h3, by simpa using Kg r⟩
theorem Zj {kvs : List (List Key × V)} (ok : HOk P w H h) (e : Rd H a (.dT kvs)) : kvs.length ≤ sizeLine ∧ (a == sysModules) = false ∧
  ∃ xs, KT H kvs xs ∧ h.DictOfH (tupleKind (DG P w)) a xs := by
 obtain ⟨z, y, xs, r, o, es, ep, h1, h2, h3, h4, h5⟩ := (show Cr P w H h a (.dT kvs) from Wg ok e)
 refine ⟨z, y, xs, r, o, es, ep, h1, h2, h3, h4, fun x hx => ?_, h5⟩
 have all : ∀ {l : List (List Key × V)} {m : List (List Key × Addr × Value)}, KT H l m → ∀ x ∈ m, (tupleKind (DG P w)).is h x.1 x.2.1 := by
  intro l m q
  induction q with
  | nil => intro x hx; exact nomatch hx
  | @cons p q ps qs hq t ih =>
   intro x hx
   rcases List.mem_cons.mp hx with e | hx
   ·subst e
    exact RL ok (by rw [← hq.1]; exact hq.2.1)
   ·exact ih x hx
 exact all r x hx
end
def DGet (H : Hp) (a : Addr) (y : V) (r : Option V) : Prop :=
 (∃ kvs k, Rd H a (.dK kvs) ∧ y = kV k ∧ r = valV kvs k) ∨ ∃ kvs k b, Rd H a (.dT kvs) ∧ y = .ref b ∧ H b = some (.tup (k.map kV)) ∧ r = valV kvs k
def DPut (H : Hp) (a : Addr) (y v : V) (H' : Hp) : Prop :=
 (∃ kvs k, H a = some (.dK kvs) ∧ y = kV k ∧ kvs.length < sizeLine ∧ H' = upd H a (.dK (putK kvs k v))) ∨
 ∃ kvs k b, H a = some (.dT kvs) ∧ y = .ref b ∧ H b = some (.tup (k.map kV)) ∧ kvs.length < sizeLine ∧ H' = upd H a (.dT (putK kvs k v))
theorem DGet.k {H : Hp} {a : Addr} {kvs : List (Key × V)} {k : Key} (e : H a = some (.dK kvs)) : DGet H a (kV k) (valV kvs k) := .inl ⟨kvs, k, .inl e, rfl, rfl⟩
theorem DGet.t {H : Hp} {a b : Addr} {kvs : List (List Key × V)} {k : List Key} (e : H a = some (.dT kvs)) (eb : H b = some (.tup (k.map kV))) : DGet H a (.ref b) (valV kvs k) := .inr ⟨kvs, k, b, .inl e, rfl, eb, rfl⟩
theorem DPut.k {H : Hp} {a : Addr} {kvs : List (Key × V)} {k : Key} {v : V} (e : H a = some (.dK kvs)) (hl : kvs.length < sizeLine) : DPut H a (kV k) v (upd H a (.dK (putK kvs k v))) := .inl ⟨kvs, k, e, rfl, hl, rfl⟩
theorem DPut.t {H : Hp} {a b : Addr} {kvs : List (List Key × V)} {k : List Key} {v : V} (e : H a = some (.dT kvs)) (eb : H b = some (.tup (k.map kV))) (hl : kvs.length < sizeLine) :
  DPut H a (.ref b) v (upd H a (.dT (putK kvs k v))) := .inr ⟨kvs, k, b, e, rfl, eb, hl, rfl⟩
section
variable {X : Cx} {pins : List (Addr × Obj)} {σ : St} {H : Hp} {s : Shared} {a : Addr} {y v : V} {u r : Value} {o : Option V} {A : Around} {E : Value → Shared → Prop}
theorem d_in {Q : Value → Shared → Prop} (hu : A.units + 1 < cLine) (I : Inv X pins σ H s) (g : DGet H a y o) (ry : RelV y u) (h : ∀ s', Inv X pins σ H s' → Q (.bool o.isSome) s') :
  wpAny (model X.prog X.w) A (compareOp .In u (.ref a)) Q E s := by
 rcases g with ⟨kvs, k, e, ey, l⟩ | ⟨kvs, k, b, e, ey, eb, l⟩
 ·subst ey
  obtain ⟨z, hd, vs, rel, dd⟩ := RK I.hok e
  refine wpAny_in_of (Wf ry) hd dd.mapOf ?_
  rw [← (rel.val k).isSome_eq, ← l]
  exact h _ (I.tok _)
 ·subst ey
  cases (show u = Value.ref b from ry)
  obtain ⟨z, hd, xs, rel, dd⟩ := Zj I.hok e
  refine wpAny_in_heap (tupleKind_room_in1 hu) (RL I.hok eb) hd dd ?_
  have q := (rel.val k).isSome_eq
  rw [Option.isSome_map] at q
  rw [← q, ← l]
  exact h _ (I.tok _)
theorem Oz {h' : Heap} {t' : Nat} {ob : HO} (I : Inv X pins σ H s) (mu : Mut (H a)) (hs : Heap.SameBut a s.heap h') (he : ∃ q, h'.get? a = some q) (new : Cr X.prog X.w (upd H a ob) h' a ob) :
  Inv X pins σ (upd H a ob) { s with heap := h', toks := t' } :=
 I.write (x := a) (e := a) mu (.inl rfl) (fun b q hb z => (hs.2 b hb).trans z) he new
end
section
variable {X : Cx} {pins : List (Addr × Obj)} {σ : St} {H : Hp} {s : Shared} {a : Addr} {kvs : List (Key × V)} {k : Key} {u : Value} {A : Around} {E : Value → Shared → Prop}
theorem Zk {Q : Value → Shared → Prop} (I : Inv X pins σ H s) (e : Rd H a (.dK kvs)) (h : ∀ t s', Inv X pins σ H s' → Q (.int kvs.length t) s') : wpAny (model X.prog X.w) A (call (.builtin "len") [.ref a]) Q E s := by
 obtain ⟨z, hd, vs, rel, dd⟩ := RK I.hok e
 refine call_len_dict hd dd (by rw [← rel.length]; rw [sizeLine_eq] at z; omega) ?_
 rw [← rel.length]
 exact h _ _ (I.tok _)
end
section
variable {X : Cx} {o i e value : Expr} {pos pos' tpos : Pos} {td ty tv : TE}
end
section
variable {X : Cx} {pos : Pos}
end
section
variable {X : Cx} {pins : List (Addr × Obj)} {σ : St} {H : Hp} {s : Shared} {a : Addr} {y d : V} {u r : Value} {o : Option V} {A : Around} {E : Value → Shared → Prop}
end
section
variable {X : Cx} {o e f : Expr} {apos cpos : Pos} {td ty tx : TE}
end
section
variable {X : Cx} {pins : List (Addr × Obj)} {σ : St} {H : Hp} {s : Shared} {a : Addr} {kvs : List (Key × V)} {A : Around} {E : Value → Shared → Prop}
end
section
variable {X : Cx} {pins : List (Addr × Obj)} {σ : St} {H : Hp} {s : Shared} {a : Addr} {y : V} {u : Value} {A : Around} {E : Value → Shared → Prop}
end
end L2
namespace Att
open PySem PySem.W PySem.Calls PyProof.Rows
theorem JR {P : Params} {h : Heap} : ∀ (ns : List Int) (vs : List Value), WellAll P h vs (ns.map WData.int) → IntsAre vs ns := by
 intro ns
 induction ns with
 | nil =>
  intro vs w
  rw [List.map_nil] at w
  cases w
  exact .nil
 | cons n ns ih =>
  intro vs w
  rw [List.map_cons] at w
  cases w with
  | cons a b =>
   cases a
   exact .cons _ _ (ih _ b)
theorem Qf {l : OpenLaw} {n : Nat} (hn : l.most = some n) {P : Params} {h : Heap} {args : List WData} {vals : List Value}
  (hpre : l.row.toRowW.claim.pre args = true) (hwl : WellAll P h vals args) :
  ∃ a vs ns, vals = [Value.ref a] ∧ args = [WData.list (ns.map WData.int)] ∧ h.get? a = some { cls := .type "list", data := .seq vs.toArray } ∧ IntsAre vs ns ∧ ns.length ≤ n := by
 have hsh : WShape.hasAll [] args [.list .int] = true := (pre_splitW hpre).1
 have hc : l.pre.holds [] { args := args } = true := (pre_splitW hpre).2
 obtain ⟨d, r, rfl, h1, h2⟩ := hasAllW_cons hsh
 obtain rfl := hasAllW_nil h2
 obtain ⟨xs, rfl, h3⟩ := hasW_list h1
 obtain ⟨ns, rfl⟩ := items_int h3
 have hlen : ns.length ≤ n := by
  unfold OpenLaw.pre at hc
  have h4 : (WTm.not (.lt (.lit (.int (n : Int))) (.len (.arg 0)))).holds [] { args := [.list (ns.map .int)] } = true := by
   have h4 := (holds_andW hc).1
   rw [hn] at h4
   exact h4
  have h5 := condW_of h4 (w_not (w_lt w_lit (w_len_list (w_arg rfl))))
  rw [List.length_map] at h5
  refine Nat.le_of_not_lt fun q => ?_
  have q' : (n : Int) < ((ns.length : Nat) : Int) := by omega
  first
   | (rw [decide_eq_true q'] at h5; exact absurd h5 (by decide))
   | (simp at h5; omega)
 cases hwl with
 | cons w1 w2 =>
  cases w2
  cases w1 with
  | list ho hall => exact ⟨_, _, ns, rfl, rfl, ho, JR ns _ hall, hlen⟩
theorem Qg (l : OpenLaw) (args : List WData) : l.row.toRowW.claim.post args (.bool true) args = true :=
 postW_of (r := l.row.toRowW) (X := (true == true))
  (show WShape.has [] (.bool true) .bool = true by first | rfl | decide | simp [WShape.has, WShape.arms, WShape.armsAll])
  (show (WTm.eq .res (.lit (.bool true))).value [] { args := args, res := some (.bool true), after := args } = some (.bool (true == true)) from w_eq_bool (w_res rfl) w_lit) rfl
theorem Mf {l : OpenLaw} {n : Nat} {q : Program} {loose : List Str} {XP : (Str → Option Value) → Heap → Prop} {YP : World → Heap → Prop} {d : DefRec}
  (hn : l.most = some n) (hdf : d.params.defaults = [])
  (call : ∀ (w : World) (s₀ s₁ : Shared) (mg mb : Str → Option Value) (fa : Addr) (o : Obj) (pm cd doc : Value) (a : Addr) (vs : List Value) (ns : List Int),
   Ground q loose [] XP w s₀ mg mb s₁.heap → YP w s₁.heap →
   s₁.heap.get? fa = some o → o.data = .func (docDef d.name d.params d.body d.scope pm cd doc) → s₁.heap.CodeRec cd d.name → mg d.name = some (.ref fa) →
   s₁.heap.get? a = some { cls := .type "list", data := .seq vs.toArray } → IntsAre vs ns → ns.length ≤ n → s₁.gens = #[] →
   codeAny (model l.prog w) callerA (.call (.ref fa) ⟨[.ref a], []⟩) (fun r s' => r = .ok (.ret (.bool true)) ∧ OldK s₁.heap s'.heap ∧ s'.os = s₁.os ∧ AllBare s'.gens) s₁) :
  WalkO q loose XP YP l.row.toRowW d [] (fun f vs => PySem.call f vs) := by
 intro w s₀ s₁ mg mb G Y fa o pm cd doc dV kV ho hd hcd hD hmg hg args vals as hpre hlay hrd hwl hlo
 obtain rfl : dV = .none := Dflts.none hD hdf
 obtain rfl : kV = .none := Dflts.noKw hD
 obtain ⟨a, vs, ns, rfl, rfl, hobj, hints, hlen⟩ := Qf hn hpre hwl
 refine enter_call (codeAny_mono (call w s₀ s₁ mg mb fa o pm cd doc a vs ns G Y ho (fd_plain hd) hcd hmg hobj hints hlen hg) fun r s' hq => ?_)
 obtain ⟨rfl, h2, h3, h4⟩ := hq
 exact ⟨.inl ⟨.bool true, .bool true, [], rfl, fun _ => rfl, .bool true, Qg l _, fun _ => ⟨List.Pairwise.nil, fun _ hm => (nomatch hm)⟩⟩, h2, h3, h4⟩
section
variable {prog : Program} {w : World} {A : Around} {E : Value → Shared → Prop} {s : Shared} {K : Frag}
end
end Att
namespace L2
open PySem PySem.Spec PyProof.Rows
theorem Kh : ∀ {vs : List Value} {ns : List Int}, IntsAre vs ns → Vals (ns.map V.int) vs
 | _, _, .nil => .nil
 | _, _, .cons n t h => .cons ⟨t, rfl⟩ (Kh h)
def Only (H : Hp) : Prop := ∀ b, H b = none ∨ ∃ o xs, H b = some (.frz o (.lst xs))
theorem RM {P : Program} {w : World} {K : PySem.W.Frag} {mg mb : Str → Option Value} {CX : CXT} {k : Nat} {fa a : Addr} {fd : FuncData} {x : Str} {sp : Sp} {s₁ : Shared} {vs : List Value} {ns : List Int}
    (KX : K.In s₁.heap) (hns : s₁.heap.Ns mainGlobals mg) (hb : s₁.heap.Ns builtinsNs mb) (hbb : ∀ x : Str, x ≠ "__name__" → mb x = bootBuiltins x) (hlim : s₁.heap.NoLimit) (hg : s₁.gens = #[])
    (ha : s₁.heap.get? a = some { cls := .type "list", data := .seq vs.toArray }) (hi : IntsAre vs ns) (hl : ns.length ≤ sizeLine) (hr : Room k callerA)
    (F : ∀ base : Heap, K.In base → base.Ns mainGlobals mg → FnOk P w K mg base CX k fa fd [x] sp) (hbind : ∀ (s : Shared) (u : Value), BindsTo s fd ⟨[u], []⟩ [(x, u)])
    (hsp : ∀ H : Hp, Only H → SqL K H a (ns.map V.int) → sp [.ref a] H (fun v _ => v = .bl true) fun _ _ _ => False)
    (hCX : ∀ H e s', CX [] H s₁ (fun _ _ _ => False) e s' → False) :
    codeAny (model P w) callerA (.call (.ref fa) ⟨[.ref a], []⟩) (fun r s' => r = .ok (.ret (.bool true)) ∧ OldK s₁.heap s'.heap ∧ s'.os = s₁.os ∧ AllBare s'.gens) s₁ := by
  have rv := Kh hi
  have lenV := hi.length
  have core : ∀ H : Hp, Only H → SqL K H a (ns.map V.int) → HOk P w H s₁.heap → (∀ b, H b ≠ none → b = a) → (H a ≠ none → K.lookup a = none) →
      codeAny (model P w) callerA (.call (.ref fa) ⟨[.ref a], []⟩) (fun r s' => r = .ok (.ret (.bool true)) ∧ OldK s₁.heap s'.heap ∧ s'.os = s₁.os ∧ AllBare s'.gens) s₁ := by
    intro H hO hS hok hA hK
    have base_of : ∀ {b : Addr} {o : Obj}, s₁.heap.get? b = some o → H b = none → (hidT s₁.heap H).get? b = some o := fun e n => Qw e n
    have noA : ∀ {b : Addr} {o : Obj} {es : Array DictEntry} {ep : Nat}, s₁.heap.get? b = some o → o.data = .dict es ep → H b = none := fun {b o es ep} e d => by
      cases q : H b with
      | none => rfl
      | some u =>
        have e' : b = a := hA b (by rw [q]; simp)
        subst e'
        rw [ha] at e; cases e
        have d' : Data.seq vs.toArray _ = Data.dict es ep := d
        cases d'
    have nsK : ∀ {b : Addr} {m : Str → Option Value}, s₁.heap.Ns b m → (hidT s₁.heap H).Ns b m := fun {b m} ⟨o, es, ep, e, d, r⟩ => ⟨o, es, ep, base_of e (noA e d), d, r⟩
    have hKb : K.In (hidT s₁.heap H) := fun b o e => base_of (KX b o e) (by
      cases q : H b with
      | none => rfl
      | some u =>
        have e' : b = a := hA b (by rw [q]; simp)
        subst e'
        rw [hK (by rw [q]; simp)] at e; cases e)
    have hM : Mod K mg (hidT s₁.heap H) := ⟨hKb, nsK hns, ⟨mb, nsK hb, hbb⟩, let ⟨mc, h1, h2⟩ := hlim; ⟨mc, nsK h1, h2⟩⟩
    have e0 : Env0 P w K mg (hidT s₁.heap H) callerA [] s₁ H := ⟨rfl, hM, fun b o e => Uq e, Nat.le_of_eq (QT _ _), trivial, fun b hb => absurd (show b ∈ ([] : List Addr) from hb) (by simp), hok, .of_eq hg⟩
    refine codeAny_mono ((F _ hKb (nsK hns)).run callerA [] s₁ H ⟨[.ref a], []⟩ [.ref a] [.ref a] _ _ hr e0 (hbind s₁ (.ref a)) (.cons rfl .nil) (hsp H hO hS)) fun r s' h => ?_
    cases r with
    | error e => exact (hCX H e s' h).elim
    | ok fl =>
      cases fl with
      | next => exact False.elim h
      | brk => exact False.elim h
      | cont => exact False.elim h
      | ret u =>
        obtain ⟨v, H', os, bare, un, hok', r', q⟩ := h
        have q' : v = .bl true := q
        subst q'
        obtain rfl : u = Value.bool true := r'
        refine ⟨rfl, OldK.of_keep fun b o e => ?_, os, bare⟩
        cases q : H b with
        | none => exact un.keep b o e q (by intro z; exact absurd (show b ∈ ([] : List Addr) from z) (by simp)) (by simp)
        | some u =>
          rcases hO b with z | ⟨ob, xs, z⟩
          · rw [q] at z; cases z
          · have z2 := un.frzs b ob _ z
            obtain ⟨e1, _⟩ := hok b _ z
            obtain ⟨e2, _⟩ := hok' b _ z2
            rw [e] at e1; cases e1
            exact e2
  cases hk : K.lookup a with
  | some o =>
    have e := KX a o hk
    rw [ha] at e
    cases e
    refine core (fun _ => none) (fun _ => .inl rfl) (.inr ⟨_, vs.toArray, _, hk, rfl, rfl, rfl, by rw [List.size_toArray, lenV]; exact hl, by simpa using rv⟩) (fun b u z => by have z' : (none : Option HO) = some u := z; cases z') (fun b z => absurd rfl z) fun z => absurd rfl z
  | none =>
    refine core (fun b => if b = a then some (.frz { cls := .type "list", data := .seq vs.toArray } (.lst (ns.map V.int))) else none) (fun b => ?_) (.inl (.inr ⟨{ cls := .type "list", data := .seq vs.toArray }, if_pos rfl⟩)) (fun b u z => ?_) (fun b z => ?_) fun _ => hk
    · by_cases hb : b = a
      · exact .inr ⟨_, _, if_pos hb⟩
      · exact .inl (if_neg hb)
    · by_cases hb : b = a
      · have z' := (if_pos hb).symm.trans z
        cases z'
        subst hb
        exact ⟨ha, by rw [List.length_map]; exact hl, vs, _, rv, ha⟩
      · have z' := (if_neg hb).symm.trans z
        cases z'
    · by_cases hb : b = a
      · exact hb
      · exact absurd (if_neg hb) z
end L2
namespace L2
open PySem PySem.Spec PyProof.Rows
abbrev KOf {K : PySem.W.Frag} {h : Heap} (_ : K.In h) : PySem.W.Frag := K
theorem VG {l : PySem.W.OpenLaw} {n k : Nat} {q : Program} {loose : List Str} {XP : (Str → Option Value) → Heap → Prop} {YP : World → Heap → Prop} {d : DefRec} {K : Params → PySem.W.Frag} {CX : World → CXT} {sp : World → Sp} {x : Str}
  (hn : l.most = some n) (hn2 : n ≤ sizeLine) (hdf : d.params.defaults = []) (hr : Room k callerA)
  (hY : ∀ (w : World) (h : Heap), YP w h → (K w.params).In h)
  (F : ∀ (w : World) (mg : Str → Option Value) (fa : Addr) (h : Heap), (K w.params).In h → h.Ns mainGlobals mg → mg d.name = some (.ref fa) →
   ∃ fd : FuncData, (∀ (s : Shared) (u : Value), BindsTo s fd ⟨[u], []⟩ [(x, u)]) ∧
    ∀ base : Heap, (K w.params).In base → base.Ns mainGlobals mg → FnOk l.prog w (K w.params) mg base (CX w) k fa fd [x] (sp w))
  (hsp : ∀ (w : World) (H : Hp) (a : Addr) (ns : List Int), ns.length ≤ n → Only H → SqL (K w.params) H a (ns.map V.int) → sp w [.ref a] H (fun v _ => v = .bl true) fun _ _ _ => False)
  (hCX : ∀ (w : World) (H : Hp) (s : Shared) (e : Value) (s' : Shared), CX w [] H s (fun _ _ _ => False) e s' → False) :
  PySem.W.WalkO q loose XP YP l.row.toRowW d [] (fun f vs => PySem.call f vs) := by
 refine Att.Mf hn hdf fun w s₀ s₁ mg mb fa o pm cd doc a vs ns G Y ho hd hcd hmg hobj hints hlen hg => ?_
 have KX := hY w _ Y
 obtain ⟨fd, hb, hF⟩ := F w mg fa _ KX G.T.g hmg
 exact RM KX G.T.g G.T.b G.T.builtins G.T.nolimit hg hobj hints (Nat.le_trans hlen hn2) hr hF hb (fun H hO hS => hsp w H a ns hlen hO hS) fun H e s' => hCX w H s₁ e s'
end L2
namespace L2
open PySem PySem.Spec PyProof.Rows
def inClass (s : Stmt) (j : Nat) : Stmt := match s with
 | .ClassDef _ _ _ body _ _ _ _ _ _ _ => body.getD j (.Pass ⟨0, 0, 0, 0⟩)
 | _ => .Pass ⟨0, 0, 0, 0⟩
def Cy (s : Stmt) : Arguments := match s with
 | .FunctionDef _ a _ _ _ _ _ _ _ _ => a
 | _ => { posonlyargs := [], args := [], vararg := none, kwonlyargs := [], kw_defaults := [], kwarg := none, defaults := [] }
def CP (s : Stmt) : List Stmt := match s with
 | .FunctionDef _ _ b _ _ _ _ _ _ _ => b
 | _ => []
def Ab (s : Stmt) : Scope := match s with
 | .FunctionDef _ _ _ _ _ _ sc _ _ _ => sc
 | _ => { kind := .function, names := [], isGenerator := false, isCoroutine := false }
abbrev CX0 : CXT := fun _ _ _ _ _ _ => False
abbrev E0 : XK := fun _ _ _ => False
theorem Mg {X : Cx} : Hi CX0 X E0 := fun _ _ _ _ _ _ _ h => h.elim
structure Fun (K : PySem.W.Frag) (x qual : Str) (st : Stmt) (f : Addr) (fd : FuncData) : Prop where
 ex : ∃ (oc : Value) (od : Option Addr) (kV doc pm : Value) (an : Option Addr) (cdv ct : Value) (osl : Array (Option Value)),
  fd = PySem.W.fnOf x qual (Cy st) (CP st) (Ab st) .none kV doc pm an cdv ct ∧ K.lookup f = some ⟨oc, od, .func fd, osl⟩ ∧ PySem.W.codeIn K cdv qual = true
 kp : PySem.W.keepIn K (.ref f) = true
section
variable {P : Program} {w : World} {K : PySem.W.Frag} {mg : Str → Option Value} {base : Heap}
theorem Fun.ok {x qual : Str} {st : Stmt} {f : Addr} {fd : FuncData} {N ps : List Str} {k : Nat} {sp : Sp} (F : Fun K x qual st f fd) (S : FnScope N ps (Ab st)) (len : ∀ vs H Q E, sp vs H Q E → vs.length = ps.length)
  (hbody : ∀ (cdv : Value) (A : Around) (outer : List Env) (s : Shared) (H : Hp) (vs : List V) (Q : VK) (E : XK), Room k (A.deeper (envOfC qual (Ab st) s.heap.objs.size f cdv)) → sp vs H Q E →
   ∃ t, PSs (cxOf CX0 P w K mg base N qual (Ab st) f cdv A outer s H E).nox (CP st) t ∧ t { nx := fun _ H' => Q .non H', rt := Q } (start N vs) H) : FnOk P w K mg base CX0 (k + 1) f fd ps sp := by
 obtain ⟨oc, od, kV, doc, pm, an, cdv, ct, osl, rfl, lk, hcd⟩ := F.ex
 refine Ow lk hcd S len fun A outer s H vs Q E hr hsp => ?_
 obtain ⟨t, h, q⟩ := hbody cdv A outer s H vs Q E hr hsp
 exact ⟨t, h.nox, q⟩
theorem Fun.binds {x qual : Str} {st : Stmt} {f : Addr} {fd : FuncData} {ps : List Str} (F : Fun K x qual st f fd)
  (h : ∀ (kV doc pm : Value) (an : Option Addr) (cdv ct : Value) (us : List Value), us.length = ps.length → bindArgs (PySem.W.fnOf x qual (Cy st) (CP st) (Ab st) .none kV doc pm an cdv ct) ⟨us, []⟩ = pure (ps.zip us)) : Binds K fd ps [] := by
 obtain ⟨oc, od, kV, doc, pm, an, cdv, ct, osl, rfl, lk, hcd⟩ := F.ex
 exact .all (h kV doc pm an cdv ct)
theorem Hj {x qual : Str} {st : Stmt} {f : Addr} {oc : Value} {od an : Option Addr} {osl : Array (Option Value)} {kV doc pm cdv ct : Value} (l : K.lookup f = some ⟨oc, od, .func (PySem.W.fnOf x qual (Cy st) (CP st) (Ab st) .none kV doc pm an cdv ct), osl⟩)
  (c : PySem.W.codeIn K cdv qual = true) (k : PySem.W.keepIn K (.ref f) = true) : Fun K x qual st f (PySem.W.fnOf x qual (Cy st) (CP st) (Ab st) .none kV doc pm an cdv ct) := ⟨⟨oc, od, kV, doc, pm, an, cdv, ct, osl, rfl, l, c⟩, k⟩
end
theorem Wh {A : Around} {k : Nat} (hr : Room k A) : A.units + 1 < cLine := Nat.lt_of_le_of_lt (Nat.add_le_add_left (by decide : 1 ≤ 64) _) hr.units
section
variable {X : Cx}
theorem pv (i : Nat) {x : Str} {pos : Pos} (hN : X.N[i]? = some x := by rfl) (hv : Vis X.env.scope x := by first | exact Or.inl rfl | exact Or.inr (Or.inl rfl) | exact Or.inr (Or.inr rfl)) (hd : (x == ("__debug__" : Str)) = false := by decide)
  (hcd : (x == ("__classdict__" : Str)) = false := by decide) : PE X (.Name x pos) (tVar i) := Xq hN hv hd hcd
end
theorem iteF {A B : Prop} (h : B) : if false = true then A else B := by
 rw [if_neg Bool.false_ne_true]
 exact h
theorem iteT {A B : Prop} (h : A) : if true = true then A else B := by
 rw [if_pos rfl]
 exact h
def Same (H H' : Hp) : Prop := ∀ b o, H b = some o → H' b = some o
theorem Same.refl (H : Hp) : Same H H := fun _ _ h => h
theorem Same.trans {H H1 H2 : Hp} (a : Same H H1) (b : Same H1 H2) : Same H H2 := fun c o h => b c o (a c o h)
theorem Same.free {H H' : Hp} (e : Same H H') {l : Addr} (h : H' l = Option.none) : H l = Option.none := by
 cases q : H l with
 | none => rfl
 | some o =>
  rw [e l o q] at h
  cases h
theorem Same.seq {K : PySem.W.Frag} {H H' : Hp} {a : Addr} {xs : List V} (e : Same H H') (h : SqL K H a xs) : SqL K H' a xs := by
 rcases h with (h | ⟨o, h⟩) | h
 ·exact .inl (.inl (e _ _ h))
 ·exact .inl (.inr ⟨o, e _ _ h⟩)
 ·exact .inr h
section
variable {κ : Type} [DecidableEq κ]
end
end L2
namespace EX
open PySem PySem.Spec L2
open PyProof.Rows hiding St
def tbV : Option Addr → Value
 | none => .none
 | some T => .ref T
def ExcP (a C : Addr) (od tb : Option Addr) : Heap → Prop := fun h => ∃ o vs, h.get? a = some o ∧ o.cls = .ref C ∧ o.dict = od ∧ o.data = .fields vs ∧ vs.size = 6 ∧ vs[1]? = some (tbV tb)
def TbP (T : Addr) (v : Value) : Heap → Prop := fun h => ∃ o ts, h.get? T = some o ∧ o.data = .fields ts ∧ ts[3]? = some v ∧ o.cls = .type "traceback"
abbrev excO (a C : Addr) (od tb : Option Addr) : HO := .ext (ExcP a C od tb)
abbrev tbO (T : Addr) (v : Value) : HO := .ext (TbP T v)
theorem ExcP.ok {P : Program} {w : World} {H : Hp} {h : Heap} {a C : Addr} {od tb : Option Addr} (x : ExcP a C od tb h) : Cr P w H h a (excO a C od tb) :=
 ⟨x, let ⟨o, _, e, _⟩ := x; ⟨o, e⟩, fun h1 h2 ⟨o, vs, e, r⟩ k => ⟨o, vs, k o e, r⟩⟩
theorem TbP.ok {P : Program} {w : World} {H : Hp} {h : Heap} {a : Addr} {v : Value} (x : TbP a v h) : Cr P w H h a (tbO a v) :=
 ⟨x, let ⟨o, _, e, _⟩ := x; ⟨o, e⟩, fun h1 h2 ⟨o, vs, e, r⟩ k => ⟨o, vs, k o e, r⟩⟩
theorem VH (f : Array Value → Array Value) (o : Obj) : (Obj.mapFields f o).dict = o.dict := by
 unfold Obj.mapFields
 split <;> rfl
section
variable {X : Cx} {pins : List (Addr × Obj)} {σ : St} {H : Hp} {s : Shared} {e C : Addr} {od tb : Option Addr}
theorem Qh {h' : Heap} (I : Inv X pins σ H s) (x : Heap.SlotsOnly (frs X.stack) s.heap h') : Inv X pins σ H { s with heap := h' } := by
 have k : ∀ b o, s.heap.get? b = some o → H b = none → b ∉ frs X.stack → h'.get? b = some o := fun b o q _ hb => (x.2.1 b hb).trans q
 refine I.call (g' := s.gens) (d' := s.drawn) (t' := s.toks) (ch := []) ⟨fun b o q n hb _ => k b o q n hb, fun b o q _ _ _ => x.2.2 b o q, fun _ _ _ n _ => n, fun b o q _ => let ⟨_, z⟩ := x.2.2 b o q; ⟨_, z⟩, fun _ _ q => q, fun _ _ _ q => q, fun _ ps q => ⟨#[], by rw [q]; simp⟩⟩ (fun b u q => ?_) I.bare fun _ z => nomatch z
 have no : ∀ c v, H c = some v → c ∉ frs X.stack := fun c v q z => by rw [I.stkFree c z] at q; cases q
 refine (I.hok b u q).stay (fun c v hc r => (x.2.1 c ?_).trans r) (fun _ r => r) fun _ _ r => r
 rcases hc with z | z
 ·rw [z]; exact no b u q
 ·exact no c _ z
theorem Hu {a : Addr} {o : Obj} {vs : Array Value} {u u' : HO} {i : Nat} {v : Value} (I : Inv X pins σ H s) (hH : H a = some u) (mu : Mut (some u)) (ho : s.heap.get? a = some o) (hd : o.data = .fields vs)
  (new : ∀ h' o', h'.get? a = some o' → o'.cls = o.cls → o'.dict = o.dict → o'.data = .fields (vs.setIfInBounds i v) → Cr X.prog X.w (upd H a u') h' a u') :
  Inv X pins σ (upd H a u') { s with heap := s.heap.update a (Obj.mapFields (·.setIfInBounds i v)) } := by
 have hd' := Obj.data_mapFields hd (·.setIfInBounds i v)
 have g := Heap.get?_update_self (Obj.mapFields (·.setIfInBounds i v)) ho (Obj.isFreed_of_fields hd')
 exact I.write (x := a) (e := a) (t' := s.toks) (by rw [hH]; exact mu) (.inl rfl) (fun b q nb z => (Heap.get?_update_other _ _ (Ne.symm nb)).trans z) ⟨_, g⟩ (new _ _ g (Obj.cls_mapFields _ _) (VH _ _) hd')
structure Noted (X : Cx) (pins : List (Addr × Obj)) (σ : St) (H : Hp) (e C : Addr) (od tb : Option Addr) (T : Addr) (H' : Hp) (s' : Shared) : Prop where
 inv : Inv X pins σ H' s'
 exc : H' e = some (excO e C od (some T))
 tbk : H' T = some (tbO T .none)
 new : H T = none
 rest : ∀ b u, b ≠ e → tb ≠ some b → H b = some u → H' b = some u
theorem Mh {E : Value → Shared → Prop} {Q : Unit → Shared → Prop} {M : Model} {L : Addr} {head : Value} {hadNext : Bool} (hst : X.stack = X.env :: X.outer) (hf : X.env.frame = some L) (I : Inv X pins σ H s) (he : H e = some (excO e C od tb))
  (k : ∀ T H' s', Noted X pins σ H e C od none T H' s' → Q () s') :
  wpAny M X.A (do let a ← frameOf X.env; let pl ← entryPlaceOf L hadNext; let b ← EntryCells.newEntry head a .none (rawInt L) .none pl; setField (.ref e) 1 b) (fun _ s₂ => wpAny M X.A (setFlight (.ref e) none) Q E s₂) E s := by
 refine wpAny_bind (wpAny_frameOf_fun (base := X.base) (outer := X.outer) (hst ▸ I.ok.frames) (hst ▸ I.stack) hf fun h1 x1 => ?_)
 have I1 := Qh I (h' := h1) (hst ▸ x1)
 refine wpAny_bind (wpAny_entryPlaceOf fun pl hpl => ?_)
 unfold EntryCells.newEntry newFields
 refine wpAny_bind (wpAny_newObj_type ?_ (hpl.sizeOk5 _ _ _ _ _))
 have h3 : ([head, .ref L, .none, rawInt L, .none] ++ (if pl.isEmpty then List.replicate 6 Value.none else pl)).toArray[3]? = some (rawInt L) := by simp
 generalize ([head, .ref L, .none, rawInt L, .none] ++ (if pl.isEmpty then List.replicate 6 Value.none else pl)).toArray = ts at h3
 have g2 : (h1.push { cls := .type "traceback", dict := none, data := .fields ts }).get? h1.objs.size = some { cls := .type "traceback", dict := none, data := .fields ts } := Heap.get?_push_size h1 rfl
 have I2 := I1.laid (a := h1.objs.size) (o := tbO h1.objs.size (rawInt L)) (h' := h1.push { cls := .type "traceback", dict := none, data := .fields ts }) (t' := s.toks) (fun b u q => Heap.get?_push_of_some _ q) (Nat.le_refl _) (TbP.ok ⟨_, ts, g2, rfl, h3, rfl⟩)
 have hT : H h1.objs.size = none := I1.hok.fresh (Nat.le_refl _)
 have neT : e ≠ h1.objs.size := Bu he hT
 have he2 : (upd H h1.objs.size (tbO h1.objs.size (rawInt L))) e = some (excO e C od tb) := by rw [BP neT]; exact he
 obtain ⟨⟨o, vs, q1, q2, q3, q4, q5, q6⟩, _⟩ := I2.hok e _ he2
 refine wpAny_setField q1 q4 (by omega) ?_
 have I3 := Hu (u' := excO e C od (some h1.objs.size)) (i := 1) (v := .ref h1.objs.size) I2 he2 trivial q1 q4 fun h' o' r1 r2 r3 r4 => ExcP.ok ⟨o', _, r1, r2.trans q2, r3.trans q3, r4, by simpa using q5, by simp [tbV, q5]⟩
 have e3 := B_ (H := upd H h1.objs.size (tbO h1.objs.size (rawInt L))) (a := e) (o := excO e C od (some h1.objs.size))
 have t3 : upd (upd H h1.objs.size (tbO h1.objs.size (rawInt L))) e (excO e C od (some h1.objs.size)) h1.objs.size = some (tbO h1.objs.size (rawInt L)) := by rw [BP (Ne.symm neT)]; exact B_
 obtain ⟨⟨o5, vs5, p1, p2, p3, p4, p5, p6⟩, _⟩ := I3.hok e _ e3
 unfold setFlight
 refine wpAny_bind (wpAny_field p1 p4 p6 ?_)
 rw [if_pos (show (tbV (some h1.objs.size) != Value.none) = true from by simp [tbV])]
 obtain ⟨⟨o6, ts6, r1, r2, r3, r4⟩, _⟩ := I3.hok h1.objs.size _ t3
 have z3 : 3 < ts6.size := (Array.getElem?_eq_some_iff.mp r3).1
 refine wpAny_setField r1 r2 z3 ?_
 have I4 := Hu (u' := tbO h1.objs.size .none) (i := 3) (v := (none : Option Addr).elim Value.none fun f => rawInt f) I3 t3 trivial r1 r2 fun h' o' y1 y2 y3 y4 => TbP.ok ⟨o', _, y1, y4, by simp [z3], y2.trans r4⟩
 refine k h1.objs.size _ _ ⟨I4, ?_, B_, hT, fun b u hb _ q => ?_⟩
 ·rw [BP neT]; exact e3
 ·have := Bu q hT
  rw [BP this, BP hb, BP this]
  exact q
theorem VJ {E : Value → Shared → Prop} {Q : Unit → Shared → Prop} {M : Model} {L : Addr} (hst : X.stack = X.env :: X.outer) (hf : X.env.frame = some L) (I : Inv X pins σ H s) (he : H e = some (excO e C od tb)) (ht : ∀ T, tb = some T → H T = some (tbO T .none))
  (k : ∀ T H' s', Noted X pins σ H e C od tb T H' s' → Q () s') :
  wpAny M X.A (noteFrame (.ref e) X.env) (fun _ s₂ => wpAny M X.A (setFlight (.ref e) none) Q E s₂) E s := by
 obtain ⟨⟨o, vs, q1, q2, q3, q4, q5, q6⟩, _⟩ := I.hok e _ he
 unfold noteFrame
 simp only [hf]
 refine wpAny_bind (wpAny_field q1 q4 q6 ?_)
 cases tb with
 | none =>
  rw [if_neg (by decide)]
  exact Mh hst hf I he fun T H' s' n => k T H' s' n
 | some T0 =>
  have hT0 := ht T0 rfl
  obtain ⟨⟨oT, ts, r1, r2, r3, r4⟩, _⟩ := I.hok T0 _ hT0
  rw [if_pos (show (tbV (some T0) != Value.none) = true from by simp [tbV])]
  refine wpAny_bind (wpAny_field r1 r2 r3 ?_)
  rw [if_neg (show ¬ ((Value.none == rawInt L) = true) from by simp [rawInt])]
  have z3 : 3 < ts.size := (Array.getElem?_eq_some_iff.mp r3).1
  refine wpAny_bind (wpAny_setField r1 r2 z3 ?_)
  have I1 := Hu (u' := tbO T0 .none) (i := 3) (v := .none) I hT0 trivial r1 r2 fun h' o' y1 y2 y3 y4 => TbP.ok ⟨o', _, y1, y4, by simp [z3], y2.trans r4⟩
  have ne : e ≠ T0 := fun z => by
   subst z
   rw [r1] at q1
   cases q1
   rw [r4] at q2
   cases q2
  refine Mh hst hf I1 (tb := some T0) (by rw [BP ne]; exact he) fun T H' s' n => k T H' s' ⟨n.inv, n.exc, n.tbk, ?_, fun b u hb hb' q => n.rest b u hb (by simp) (by rw [BP (fun z => hb' (by rw [z]))]; exact q)⟩
  have := n.new
  by_cases z : T = T0
  ·subst z; rw [B_] at this; cases this
  ·rwa [BP z] at this
end
end EX
namespace PV
open PySem L2
inductive D where
 | non | bl (b : Bool) | int (i : Int) | str (x : Str) | tup (ds : List D) | lst (ds : List D)
 | dk (kvs : List (Key × D)) | dt (kvs : List (List Key × D)) | ob (c : Str) (fs : List (Str × D)) | adr (a : Addr) | exc (c : Str) (fs : List (Str × D)) | err (c : Str) (fs : List (Str × D))
inductive Slot where
 | un | fz (d : D) | ow (d : D)
abbrev Rho := List Slot
abbrev FE := Rho → Option D
abbrev FA := Rho → Option (List D)
abbrev FT := Rho → Option Bool
abbrev FO := Rho → Option (Option Int)
abbrev FI := Rho → Option (List D)
def vF (i : Nat) : FE := fun ρ => match ρ[i]? with | some (.fz d) => some d | _ => none
def vU (i : Nat) : FE := fun ρ => match ρ[i]? with | some (.fz d) => some d | some (.ow d) => some d | _ => none
def kF (d : D) : FE := fun _ => some d
def bF (g : D → D → Option D) (fa fb : FE) : FE := fun ρ => (fa ρ).bind fun x => (fb ρ).bind fun y => g x y
def uF (g : D → Option D) (fa : FE) : FE := fun ρ => (fa ρ).bind g
def blF (f : FE) : FT := fun ρ => match f ρ with | some (.bl b) => some b | _ => none
def iiD (g : Int → Int → Option D) : D → D → Option D := fun x y => match x, y with | .int i, .int j => g i j | _, _ => none
instance (i j : Int) : Decidable (CMul i j) := by unfold CMul; infer_instance
instance (i j : Int) : Decidable (CDiv i j) := by unfold CDiv; infer_instance
instance (i j : Int) : Decidable (CPow i j) := by unfold CPow; infer_instance
def subD := iiD fun i j => some (.int (i - j))
def O1 (i j : Int) : Prop := CMul i j ∨ (Builtin.Int.intBits i ≤ 4194304 ∧ Builtin.Int.intBits j ≤ 4194304)
instance (i j : Int) : Decidable (O1 i j) := by unfold O1; infer_instance
def CShl (i j : Int) : Prop := 0 ≤ j ∧ j ≤ 1000000 ∧ Builtin.Int.intBits i ≤ 4194304
instance (i j : Int) : Decidable (CShl i j) := by unfold CShl; infer_instance
def I_ := iiD fun i j => if CDiv i j then some (.int (i / j)) else none
def modD := iiD fun i j => if 0 < j then some (.int (i % j)) else none
def ltD := iiD fun i j => some (.bl (decide (i < j)))
def leD := iiD fun i j => some (.bl (decide (i ≤ j)))
def gtD := iiD fun i j => some (.bl (decide (j < i)))
def geD := iiD fun i j => some (.bl (decide (j ≤ i)))
def addD : D → D → Option D := fun x y => match x, y with
 | .int i, .int j => some (.int (i + j))
 | .str i, .str j => if i.length + j.length ≤ sizeLine then some (.str (i ++ j)) else none
 | .lst i, .lst j => if i.length + j.length ≤ sizeLine then some (.lst (i ++ j)) else none
 | _, _ => none
def andF (fa fb : FE) : FE := fun ρ => match fa ρ with | some (.bl true) => fb ρ | some (.bl false) => some (.bl false) | _ => none
def orF (fa fb : FE) : FE := fun ρ => match fa ρ with | some (.bl true) => some (.bl true) | some (.bl false) => fb ρ | _ => none
def notF (fa : FE) : FE := fun ρ => match fa ρ with | some (.bl b) => some (.bl (!b)) | _ => none
def andT (fa fb : FT) : FT := fun ρ => match fa ρ with | some true => fb ρ | some false => some false | none => none
def orT (fa fb : FT) : FT := fun ρ => match fa ρ with | some true => some true | some false => fb ρ | none => none
def notT (fa : FT) : FT := fun ρ => (fa ρ).map (!·)
def truD : D → Option Bool
 | .non => some false
 | .bl b => some b
 | .int i => some (i != 0)
 | .str y => if y.length ≤ sizeLine then some ((y.length : Int) != 0) else none
 | .lst ds => some (!ds.isEmpty)
 | .tup ds => some (!ds.isEmpty)
 | _ => none
def trF (f : FE) : FT := fun ρ => (f ρ).bind truD
def ifF (t : FT) (fa fb : FE) : FE := fun ρ => match t ρ with | some true => fa ρ | some false => fb ρ | none => none
def nilA : FA := fun _ => some []
def BR (fa : FE) (fs : FA) : FA := fun ρ => (fa ρ).bind fun d => (fs ρ).map (d :: ·)
def tupF (fs : FA) : FE := fun ρ => (fs ρ).bind fun ds => if ds.length ≤ sizeLine then some (.tup ds) else none
def lstF (fs : FA) : FE := fun ρ => (fs ρ).bind fun ds => if ds.length ≤ sizeLine then some (.lst ds) else none
def ixD : D → D → Option D := fun x y => match x, y with
 | .lst ds, .int i => atI ds i
 | .tup ds, .int i => atI ds i
 | .str z, .int i => if z.length ≤ sizeLine then (atI z.cps.toList i).map fun c => .str ⟨#[c]⟩ else none
 | _, _ => none
def noO : FO := fun _ => some none
def someO (f : FE) : FO := fun ρ => match f ρ with | some (.int i) => some (some i) | _ => none
def cutD {α : Type} (ds : List α) (lo hi : Option Int) : List α := (ds.drop (HT.sIx ds.length 0 lo)).take (HT.sIx ds.length ds.length hi - HT.sIx ds.length 0 lo)
def cutS (z : Str) (lo hi : Option Int) : Str := ⟨(cutD z.cps.toList lo hi).toArray⟩
def slD (x : D) (lo hi : Option Int) : Option D := match x with
 | .lst ds => some (.lst (cutD ds lo hi))
 | .tup ds => if HT.sIx ds.length 0 lo = 0 ∧ HT.sIx ds.length ds.length hi = ds.length then none else some (.tup (cutD ds lo hi))
 | .str z => if z.length ≤ sizeLine then some (.str (cutS z lo hi)) else none
 | _ => none
def slF (f : FE) (l h : FO) : FE := fun ρ => (f ρ).bind fun x => (l ρ).bind fun lo => (h ρ).bind fun hi => slD x lo hi
def flV : D → Option V
 | .non => some .non
 | .bl b => some (.bl b)
 | .int i => some (.int i)
 | .str x => some (.str x)
 | _ => none
def flVs : List D → Option (List V)
 | [] => some []
 | d :: r => (flV d).bind fun v => (flVs r).map (v :: ·)
def inD (neg : Bool) : D → D → Option D := fun x y => match x, y with
 | .str i, .str j => some (.bl (if neg then !(!(Builtin.Str.occurrences j i 0 j.length 1).isEmpty) else !(Builtin.Str.occurrences j i 0 j.length 1).isEmpty))
 | x, .lst ds => (flV x).bind fun v => (flVs ds).map fun vs => .bl (if neg then !inV v vs else inV v vs)
 | x, .tup ds => (flV x).bind fun v => (flVs ds).map fun vs => .bl (if neg then !inV v vs else inV v vs)
 | _, _ => none
def allO (f : D → D → Option Bool) : List D → List D → Option Bool
 | [], [] => some true
 | x :: xs, y :: ys => match f x y, allO f xs ys with | some a, some b => some (a && b) | _, _ => none
 | _, _ => none
def flD (x y : D) : Option Bool := (flV x).bind fun u => (flV y).map fun v => eqV u v
def eqS (f : D → D → Option Bool) : D → D → Option Bool
 | .lst xs, .lst ys => if xs.length = ys.length then allO f xs ys else some false
 | .tup xs, .tup ys => if xs.length = ys.length then allO f xs ys else none
 | x, y => flD x y
def eqK : Nat → D → D → Option Bool
 | 0 => flD
 | n + 1 => eqS (eqK n)
def eqvD (x y : D) : Option Bool := match x, y with
 | .int i, .int j => some (decide (i = j))
 | .str i, .str j => some (decide (i = j))
 | .bl i, .bl j => some (decide (i = j))
 | .lst xs, .lst ys => if xs.length = ys.length then allO (eqK 62) xs ys else some false
 | .tup xs, .tup ys => if xs.length = ys.length then allO (eqK 62) xs ys else none
 | _, _ => none
def eqD (neg : Bool) (x y : D) : Option D := (eqvD x y).map fun b => .bl (if neg then !b else b)
def lenD : D → Option D
 | .str y => if y.length ≤ sizeLine then some (.int y.length) else none
 | .lst ds => some (.int ds.length)
 | .tup ds => some (.int ds.length)
 | _ => none
def negD : D → Option D
 | .int i => some (.int (-i))
 | _ => none
def seqI (f : FE) : FI := fun ρ => match f ρ with | some (.lst ds) => some ds | some (.tup ds) => some ds | _ => none
def rngD (n : Nat) : List D := (List.range n).map fun (i : Nat) => .int i
def rngI (f : FE) : FI := fun ρ => match f ρ with | some (.int j) => if -(2 ^ 62) ≤ j ∧ j < 2 ^ 62 then some (rngD j.toNat) else none | _ => none
inductive Out where
 | nx (ρ : Rho) | rt (d : D) (ρ : Rho) | bk (ρ : Rho) | ct (ρ : Rho)
abbrev FS := Rho → Option Out
def nxF : FS := fun ρ => some (.nx ρ)
def seqF (g gs : FS) : FS := fun ρ => match g ρ with | some (.nx ρ') => gs ρ' | o => o
def ifS (t : FT) (g gs : FS) : FS := fun ρ => match t ρ with | some true => g ρ | some false => gs ρ | none => none
def setF (i : Nat) (f : FE) : FS := fun ρ => (f ρ).map fun d => .nx (ρ.set i (.fz d))
def retF (f : FE) : FS := fun ρ => (f ρ).map fun d => .rt d ρ
def retN : FS := fun ρ => some (.rt .non ρ)
def Zm (f : FE) : FS := fun ρ => (f ρ).map fun _ => .nx ρ
def forF (b : D → FS) : List D → FS
 | [], ρ => some (.nx ρ)
 | d :: r, ρ => match b d ρ with
  | some (.nx ρ') => forF b r ρ'
  | some (.ct ρ') => forF b r ρ'
  | some (.bk ρ') => some (.nx ρ')
  | some (.rt e ρ') => some (.rt e ρ')
  | none => none
abbrev FG := D → Rho → Option Rho
def O2 (i : Nat) : FG := fun d ρ => some (ρ.set i (.fz d))
def tgB (tg : FG) (b : FS) : D → FS := fun d ρ => (tg d ρ).bind b
def forS (src : FI) (tg : FG) (b : FS) : FS := fun ρ => (src ρ).bind fun ds => forF (tgB tg b) ds ρ
def FW (c : FT) (b : FS) : Nat → FS
 | 0, _ => none
 | n + 1, ρ => match c ρ with
  | some false => some (.nx ρ)
  | some true => (match b ρ with
   | some (.nx ρ') => FW c b n ρ'
   | some (.ct ρ') => FW c b n ρ'
   | some (.bk ρ') => some (.nx ρ')
   | some (.rt e ρ') => some (.rt e ρ')
   | none => none)
  | none => none
def Ek (g : List D → Option D) (fs : FA) : FE := fun ρ => (fs ρ).bind g
def Do (n : Nat) (ds : List D) : Rho := ds.map .fz ++ List.replicate (n - ds.length) .un
def runF (n np : Nat) (b : FS) (ds : List D) : Option D := if ds.length = np then (match b (Do n ds) with | some (.rt d _) => some d | some (.nx _) => some .non | _ => none) else none
def FJ (ρ : Rho) (ga : FT) (fe : FE) : List D → Option (List D)
 | [] => some []
 | d :: r => match ga (ρ ++ [.fz d]) with
  | some true => (fe (ρ ++ [.fz d])).bind fun y => (FJ ρ ga fe r).map (y :: ·)
  | some false => FJ ρ ga fe r
  | none => none
def HR (src : FI) (ga : FT) (fe : FE) : FE := fun ρ => (src ρ).bind fun ds => if ds.length ≤ sizeLine then (FJ ρ ga fe ds).map .lst else none
def allT : FT := fun _ => some true
def Fv : List D → Option (List Str)
 | [] => some []
 | .str i :: r => (Fv r).map (i :: ·)
 | _ :: _ => none
def Hv (x y : D) : Option D := match x, y with
 | .str z, .lst ds => (Fv ds).bind fun ys => if (ys.map (·.length)).sum + ys.length * z.length ≤ 16777216 then some (.str (Str.join z ys)) else none
 | .str z, .tup ds => (Fv ds).bind fun ys => if (ys.map (·.length)).sum + ys.length * z.length ≤ 16777216 then some (.str (Str.join z ys)) else none
 | _, _ => none
def tyD : D → Option String
 | .non => some "NoneType"
 | .bl _ => some "bool"
 | .int _ => some "int"
 | .str _ => some "str"
 | .lst _ => some "list"
 | .tup _ => some "tuple"
 | _ => none
def isiD (T : String) (x : D) : Option D := (tyD x).map fun n => .bl (n == T || (n == "bool" && T == "int"))
def setW (i : Nat) (f : FE) : FS := fun ρ => (f ρ).map fun d => .nx (ρ.set i (.ow d))
def ownO (ρ : Rho) (i : Nat) : Option D := match ρ[i]? with | some (.ow d) => some d | _ => none
def mutF (g : D → D → Option D) (i : Nat) (f : FE) : FS := fun ρ => (f ρ).bind fun v => (ownO ρ i).bind fun x => (g x v).map fun y => .nx (ρ.set i (.ow y))
def frz1 (ρ : Rho) (i : Nat) : Rho := match ρ[i]? with | some (.ow d) => ρ.set i (.fz d) | _ => ρ
end PV
namespace PV
open PySem L2
theorem RN {α : Type} {xs : List α} {i : Int} (h0 : 0 ≤ i) (h1 : i < xs.length) : atI xs i = xs[i.toNat]? := by
 unfold atI ixN; rw [if_pos h0, if_pos h1]; rfl
theorem VL {α : Type} {xs : List α} (i n : Int) (hn : n = xs.length) (h : xs ≠ []) : ∃ x, x ∈ xs ∧ atI xs (i % n) = some x := by
 subst hn
 have hl : 0 < xs.length := List.length_pos_iff.mpr h
 have h0 : 0 ≤ i % (xs.length : Int) := Int.emod_nonneg _ (by omega)
 have h1 : i % (xs.length : Int) < xs.length := Int.emod_lt_of_pos _ (by omega)
 have hi : (i % (xs.length : Int)).toNat < xs.length := by omega
 exact ⟨xs[(i % (xs.length : Int)).toNat], List.getElem_mem hi, by rw [RN h0 h1]; simp [hi]⟩
theorem Hk (i j : Int) (h : 0 < j) : modD (.int i) (.int j) = some (.int (i % j)) := by
 show (if 0 < j then some (D.int (i % j)) else none) = _
 rw [if_pos h]
theorem Hw (i j : Int) (h : 0 < j) (h2 : j < 1073741824) : I_ (.int i) (.int j) = some (.int (i / j)) := by
 show (if CDiv i j then some (D.int (i / j)) else none) = _
 rw [if_pos ⟨h, h2⟩]
theorem RP (i j : Int) : addD (.int i) (.int j) = some (.int (i + j)) := of_eq_true (eq_self _)
theorem RQ (i j : Int) : subD (.int i) (.int j) = some (.int (i - j)) := of_eq_true (eq_self _)
theorem O3 (i j : Int) : ltD (.int i) (.int j) = some (.bl (decide (i < j))) := of_eq_true (eq_self _)
theorem Wi (i j : Int) : gtD (.int i) (.int j) = some (.bl (decide (j < i))) := of_eq_true (eq_self _)
theorem Wj (i j : Int) : leD (.int i) (.int j) = some (.bl (decide (i ≤ j))) := of_eq_true (eq_self _)
theorem Wk (i j : Int) : geD (.int i) (.int j) = some (.bl (decide (j ≤ i))) := of_eq_true (eq_self _)
theorem HS (i j : Int) : eqD false (.int i) (.int j) = some (.bl (decide (i = j))) := of_eq_true (eq_self _)
theorem Wl (i j : Int) : eqD true (.int i) (.int j) = some (.bl (!decide (i = j))) := of_eq_true (eq_self _)
theorem Wm (i : Int) : negD (.int i) = some (.int (-i)) := of_eq_true (eq_self _)
theorem Dy {n : Nat} (h : n ≤ 10000000) : n ≤ sizeLine := Nat.le_trans h (by decide)
theorem YQ {i j : Str} (h : i.length + j.length ≤ 10000000) : addD (.str i) (.str j) = some (.str (i ++ j)) := by
 show (if _ then _ else _) = _
 rw [if_pos (Dy h)]
theorem Mi {b : D → FS} {P : Nat → Rho → Prop} : ∀ {ds : List D} {ρ : Rho} (k : Nat), P k ρ → (∀ (i : Nat) d ρ, ds[i]? = some d → P (k + i) ρ → ∃ ρ', b d ρ = some (.nx ρ') ∧ P (k + i + 1) ρ') → ∃ ρ', forF b ds ρ = some (.nx ρ') ∧ P (k + ds.length) ρ'
 | [], ρ, k, h0, _ => ⟨ρ, rfl, by simpa using h0⟩
 | d :: r, ρ, k, h0, hs => by
  obtain ⟨ρ1, e1, p1⟩ := hs 0 d ρ rfl (by simpa using h0)
  obtain ⟨ρ2, e2, p2⟩ := Mi (ds := r) (ρ := ρ1) (k + 1) (by simpa using p1) fun i d' ρ' hd hp => by
   have := hs (i + 1) d' ρ' (by simpa using hd) (by rw [show k + (i + 1) = k + 1 + i by omega]; exact hp)
   rw [show k + (i + 1) + 1 = k + 1 + i + 1 by omega] at this
   exact this
  refine ⟨ρ2, ?_, by rw [List.length_cons, show k + (r.length + 1) = k + 1 + r.length by omega]; exact p2⟩
  unfold forF
  rw [e1]
  exact e2
theorem Mj {ρ : Rho} {fe : FE} {P : D → Prop} : ∀ {ds : List D}, (∀ d ∈ ds, ∃ y, fe (ρ ++ [.fz d]) = some y ∧ P y) → ∃ out, FJ ρ allT fe ds = some out ∧ out.length = ds.length ∧ ∀ y ∈ out, P y
 | [], _ => ⟨[], rfl, rfl, by simp⟩
 | d :: r, hh => by
  obtain ⟨y, hy, py⟩ := hh d List.mem_cons_self
  obtain ⟨out, h1, h2, h3⟩ := Mj (ds := r) fun d' hd => hh d' (List.mem_cons_of_mem _ hd)
  refine ⟨y :: out, ?_, by simp [h2], fun z hz => ?_⟩
  ·unfold FJ
   rw [show allT (ρ ++ [.fz d]) = some true from rfl, hy, h1]
   rfl
  ·rcases List.mem_cons.mp hz with rfl | hz
   ·exact py
   ·exact h3 z hz
theorem O4 {src : FI} {ga : FT} {fe : FE} {ρ : Rho} {ds out : List D} (h : src ρ = some ds) (hz : ds.length ≤ 10000000) (hc : FJ ρ ga fe ds = some out) : HR src ga fe ρ = some (.lst out) := by
 unfold HR; rw [h]
 show (if ds.length ≤ sizeLine then (FJ ρ ga fe ds).map D.lst else none) = _
 rw [if_pos (Dy hz), hc]
 rfl
def Ml (o : Option Out) (gs : FS) : Option Out := match o with | some (.nx ρ') => gs ρ' | o => o
theorem Wn (g gs : FS) (ρ : Rho) : seqF g gs ρ = Ml (g ρ) gs := of_eq_true (eq_self _)
theorem e_nx (gs : FS) (ρ : Rho) : Ml (some (.nx ρ)) gs = gs ρ := of_eq_true (eq_self _)
theorem e_rt (gs : FS) (d : D) (ρ : Rho) : Ml (some (.rt d ρ)) gs = some (.rt d ρ) := of_eq_true (eq_self _)
theorem e_bk (gs : FS) (d : Rho) : Ml (some (.bk d)) gs = some (.bk d) := of_eq_true (eq_self _)
theorem e_ct (gs : FS) (d : Rho) : Ml (some (.ct d)) gs = some (.ct d) := of_eq_true (eq_self _)
theorem Wo (ρ : Rho) : nxF ρ = some (.nx ρ) := of_eq_true (eq_self _)
def iteO (o : Option Bool) (g gs : FS) (ρ : Rho) : Option Out := match o with | some true => g ρ | some false => gs ρ | none => none
theorem e_if (t : FT) (g gs : FS) (ρ : Rho) : ifS t g gs ρ = iteO (t ρ) g gs ρ := of_eq_true (eq_self _)
theorem Wq (g gs : FS) (ρ : Rho) : iteO (some true) g gs ρ = g ρ := of_eq_true (eq_self _)
theorem Wr (g gs : FS) (ρ : Rho) : iteO (some false) g gs ρ = gs ρ := of_eq_true (eq_self _)
def setO (i : Nat) (ρ : Rho) (o : Option D) : Option Out := o.map fun d => .nx (ρ.set i (.fz d))
theorem Ws (i : Nat) (f : FE) (ρ : Rho) : setF i f ρ = setO i ρ (f ρ) := of_eq_true (eq_self _)
theorem RT (i : Nat) (ρ : Rho) (d : D) : setO i ρ (some d) = some (.nx (ρ.set i (.fz d))) := of_eq_true (eq_self _)
def retO (ρ : Rho) (o : Option D) : Option Out := o.map fun d => .rt d ρ
theorem Wt (f : FE) (ρ : Rho) : retF f ρ = retO ρ (f ρ) := of_eq_true (eq_self _)
theorem RV (d : D) (ρ : Rho) : retO ρ (some d) = some (.rt d ρ) := of_eq_true (eq_self _)
theorem RW (ρ : Rho) : retN ρ = some (.rt .non ρ) := of_eq_true (eq_self _)
def Wu (ρ : Rho) (o : Option D) : Option Out := o.map fun _ => .nx ρ
theorem RX (f : FE) (ρ : Rho) : Zm f ρ = Wu ρ (f ρ) := of_eq_true (eq_self _)
theorem O5 (ρ : Rho) (d : D) : Wu ρ (some d) = some (.nx ρ) := of_eq_true (eq_self _)
def b2 (g : D → D → Option D) (x y : Option D) : Option D := x.bind fun x => y.bind fun y => g x y
theorem e_b (g : D → D → Option D) (fa fb : FE) (ρ : Rho) : bF g fa fb ρ = b2 g (fa ρ) (fb ρ) := of_eq_true (eq_self _)
theorem e_bs (g : D → D → Option D) (x y : D) : b2 g (some x) (some y) = g x y := of_eq_true (eq_self _)
def b1 (g : D → Option D) (x : Option D) : Option D := x.bind g
theorem e_u (g : D → Option D) (fa : FE) (ρ : Rho) : uF g fa ρ = b1 g (fa ρ) := of_eq_true (eq_self _)
theorem e_us (g : D → Option D) (x : D) : b1 g (some x) = g x := of_eq_true (eq_self _)
def cl1 (g : List D → Option D) (x : Option (List D)) : Option D := x.bind g
theorem RZ (g : List D → Option D) (fs : FA) (ρ : Rho) : Ek g fs ρ = cl1 g (fs ρ) := of_eq_true (eq_self _)
theorem O6 (g : List D → Option D) (ds : List D) : cl1 g (some ds) = g ds := of_eq_true (eq_self _)
def Wv (x : Option D) (y : Option (List D)) : Option (List D) := x.bind fun d => y.map (d :: ·)
theorem Ra (fa : FE) (fs : FA) (ρ : Rho) : BR fa fs ρ = Wv (fa ρ) (fs ρ) := of_eq_true (eq_self _)
theorem O7 (d : D) (ds : List D) : Wv (some d) (some ds) = some (d :: ds) := of_eq_true (eq_self _)
theorem Ww (ρ : Rho) : nilA ρ = some [] := of_eq_true (eq_self _)
def tupO (o : Option (List D)) : Option D := o.bind fun ds => if ds.length ≤ sizeLine then some (.tup ds) else none
def lstO (o : Option (List D)) : Option D := o.bind fun ds => if ds.length ≤ sizeLine then some (.lst ds) else none
theorem Wx (fs : FA) (ρ : Rho) : tupF fs ρ = tupO (fs ρ) := of_eq_true (eq_self _)
theorem Wy (fs : FA) (ρ : Rho) : lstF fs ρ = lstO (fs ρ) := of_eq_true (eq_self _)
theorem Rc : tupO (some []) = some (.tup []) := of_eq_true (eq_self _)
theorem Rf (a : D) : tupO (some [a]) = some (.tup [a]) := of_eq_true (eq_self _)
theorem Rg (a b : D) : tupO (some [a, b]) = some (.tup [a, b]) := of_eq_true (eq_self _)
theorem Rh (a b c : D) : tupO (some [a, b, c]) = some (.tup [a, b, c]) := of_eq_true (eq_self _)
theorem Ri (a b c d : D) : tupO (some [a, b, c, d]) = some (.tup [a, b, c, d]) := of_eq_true (eq_self _)
theorem Rj (a b c d e : D) : tupO (some [a, b, c, d, e]) = some (.tup [a, b, c, d, e]) := of_eq_true (eq_self _)
theorem Rk : lstO (some []) = some (.lst []) := of_eq_true (eq_self _)
theorem Ro (a : D) : lstO (some [a]) = some (.lst [a]) := of_eq_true (eq_self _)
theorem Rp (a b : D) : lstO (some [a, b]) = some (.lst [a, b]) := of_eq_true (eq_self _)
theorem Rr (a b c : D) : lstO (some [a, b, c]) = some (.lst [a, b, c]) := of_eq_true (eq_self _)
theorem Ru (a b c d : D) : lstO (some [a, b, c, d]) = some (.lst [a, b, c, d]) := of_eq_true (eq_self _)
theorem Rv (a b c d e : D) : lstO (some [a, b, c, d, e]) = some (.lst [a, b, c, d, e]) := of_eq_true (eq_self _)
theorem Rw (a b c d e f : D) : lstO (some [a, b, c, d, e, f]) = some (.lst [a, b, c, d, e, f]) := of_eq_true (eq_self _)
def blO (o : Option D) : Option Bool := match o with | some (.bl b) => some b | _ => none
theorem e_bl (f : FE) (ρ : Rho) : blF f ρ = blO (f ρ) := of_eq_true (eq_self _)
theorem Wz (b : Bool) : blO (some (.bl b)) = some b := of_eq_true (eq_self _)
def andO (o : Option Bool) (fb : FT) (ρ : Rho) : Option Bool := match o with | some true => fb ρ | some false => some false | none => none
def orO (o : Option Bool) (fb : FT) (ρ : Rho) : Option Bool := match o with | some true => some true | some false => fb ρ | none => none
theorem Ry (a b : FT) (ρ : Rho) : andT a b ρ = andO (a ρ) b ρ := of_eq_true (eq_self _)
theorem O8 (b : FT) (ρ : Rho) : andO (some true) b ρ = b ρ := of_eq_true (eq_self _)
theorem O9 (b : FT) (ρ : Rho) : andO (some false) b ρ = some false := of_eq_true (eq_self _)
theorem W0 (a b : FT) (ρ : Rho) : orT a b ρ = orO (a ρ) b ρ := of_eq_true (eq_self _)
theorem R0 (b : FT) (ρ : Rho) : orO (some true) b ρ = some true := of_eq_true (eq_self _)
theorem R1 (b : FT) (ρ : Rho) : orO (some false) b ρ = b ρ := of_eq_true (eq_self _)
theorem R3 (a : FT) (ρ : Rho) : notT a ρ = (a ρ).map (!·) := of_eq_true (eq_self _)
def andP (o : Option D) (fb : FE) (ρ : Rho) : Option D := match o with | some (.bl true) => fb ρ | some (.bl false) => some (.bl false) | _ => none
def orP (o : Option D) (fb : FE) (ρ : Rho) : Option D := match o with | some (.bl true) => some (.bl true) | some (.bl false) => fb ρ | _ => none
def notP (o : Option D) : Option D := match o with | some (.bl b) => some (.bl (!b)) | _ => none
theorem R4 (a b : FE) (ρ : Rho) : andF a b ρ = andP (a ρ) b ρ := of_eq_true (eq_self _)
theorem O_ (b : FE) (ρ : Rho) : andP (some (.bl true)) b ρ = b ρ := of_eq_true (eq_self _)
theorem PB (b : FE) (ρ : Rho) : andP (some (.bl false)) b ρ = some (.bl false) := of_eq_true (eq_self _)
theorem W2 (a b : FE) (ρ : Rho) : orF a b ρ = orP (a ρ) b ρ := of_eq_true (eq_self _)
theorem R5 (b : FE) (ρ : Rho) : orP (some (.bl true)) b ρ = some (.bl true) := of_eq_true (eq_self _)
theorem R6 (b : FE) (ρ : Rho) : orP (some (.bl false)) b ρ = b ρ := of_eq_true (eq_self _)
theorem R7 (a : FE) (ρ : Rho) : notF a ρ = notP (a ρ) := of_eq_true (eq_self _)
theorem PJ (b : Bool) : notP (some (.bl b)) = some (.bl (!b)) := of_eq_true (eq_self _)
def ifP (o : Option Bool) (fa fb : FE) (ρ : Rho) : Option D := match o with | some true => fa ρ | some false => fb ρ | none => none
theorem W3 (t : FT) (a b : FE) (ρ : Rho) : ifF t a b ρ = ifP (t ρ) a b ρ := of_eq_true (eq_self _)
theorem R8 (a b : FE) (ρ : Rho) : ifP (some true) a b ρ = a ρ := of_eq_true (eq_self _)
theorem R9 (a b : FE) (ρ : Rho) : ifP (some false) a b ρ = b ρ := of_eq_true (eq_self _)
def sl3 (f : Option D) (l h : Option (Option Int)) : Option D := f.bind fun x => l.bind fun lo => h.bind fun hi => slD x lo hi
theorem e_sl (f : FE) (l h : FO) (ρ : Rho) : slF f l h ρ = sl3 (f ρ) (l ρ) (h ρ) := of_eq_true (eq_self _)
theorem W4 (x : D) (l h : Option Int) : sl3 (some x) (some l) (some h) = slD x l h := of_eq_true (eq_self _)
theorem W5 (ρ : Rho) : noO ρ = some none := of_eq_true (eq_self _)
def somO (o : Option D) : Option (Option Int) := match o with | some (.int i) => some (some i) | _ => none
theorem PK (f : FE) (ρ : Rho) : someO f ρ = somO (f ρ) := of_eq_true (eq_self _)
theorem Mm (i : Int) : somO (some (.int i)) = some (some i) := of_eq_true (eq_self _)
def getO (o : Option Slot) : Option D := match o with | some (.fz d) => some d | _ => none
def getU (o : Option Slot) : Option D := match o with | some (.fz d) => some d | some (.ow d) => some d | _ => none
theorem e_v (i : Nat) (ρ : Rho) : vF i ρ = getO (ρ[i]?) := of_eq_true (eq_self _)
theorem e_vs (d : D) : getO (some (.fz d)) = some d := of_eq_true (eq_self _)
theorem e_vU (i : Nat) (ρ : Rho) : vU i ρ = getU (ρ[i]?) := of_eq_true (eq_self _)
theorem W6 (d : D) : getU (some (.fz d)) = some d := of_eq_true (eq_self _)
theorem W7 (d : D) : getU (some (.ow d)) = some d := of_eq_true (eq_self _)
theorem e_k (d : D) (ρ : Rho) : kF d ρ = some d := of_eq_true (eq_self _)
def seqO (o : Option D) : Option (List D) := match o with | some (.lst ds) => some ds | some (.tup ds) => some ds | _ => none
theorem R_ (f : FE) (ρ : Rho) : seqI f ρ = seqO (f ρ) := of_eq_true (eq_self _)
theorem PL (ds : List D) : seqO (some (.lst ds)) = some ds := of_eq_true (eq_self _)
theorem PQ (ds : List D) : seqO (some (.tup ds)) = some ds := of_eq_true (eq_self _)
def rngO (o : Option D) : Option (List D) := match o with | some (.int j) => if -(2 ^ 62) ≤ j ∧ j < 2 ^ 62 then some (rngD j.toNat) else none | _ => none
theorem SJ (f : FE) (ρ : Rho) : rngI f ρ = rngO (f ρ) := of_eq_true (eq_self _)
def forO (o : Option (List D)) (tg : FG) (b : FS) (ρ : Rho) : Option Out := o.bind fun ds => forF (tgB tg b) ds ρ
theorem W8 (src : FI) (tg : FG) (b : FS) (ρ : Rho) : forS src tg b ρ = forO (src ρ) tg b ρ := of_eq_true (eq_self _)
theorem SM (ds : List D) (tg : FG) (b : FS) (ρ : Rho) : forO (some ds) tg b ρ = forF (tgB tg b) ds ρ := of_eq_true (eq_self _)
def ccO (o : Option Bool) (e : Option D) (r : Option (List D)) : Option (List D) := match o with | some true => e.bind fun y => r.map (y :: ·) | some false => r | none => none
theorem Nv (ρ : Rho) (ga : FT) (fe : FE) (d : D) (r : List D) : FJ ρ ga fe (d :: r) = ccO (ga (ρ ++ [.fz d])) (fe (ρ ++ [.fz d])) (FJ ρ ga fe r) := of_eq_true (eq_self _)
theorem SN (ρ : Rho) : allT ρ = some true := of_eq_true (eq_self _)
def runO (o : Option Out) : Option D := match o with | some (.rt d _) => some d | some (.nx _) => some .non | _ => none
theorem W9 {n np : Nat} {b : FS} {ds : List D} (h : ds.length = np) : runF n np b ds = runO (b (Do n ds)) := by
 unfold runF; rw [if_pos h]; rfl
theorem SQ (d : D) (ρ : Rho) : runO (some (.rt d ρ)) = some d := of_eq_true (eq_self _)
theorem SX (ρ : Rho) : runO (some (.nx ρ)) = some .non := of_eq_true (eq_self _)
theorem W_ {α β : Type} (f : α → β) (x : α) : Option.map f (some x) = some (f x) := of_eq_true (eq_self _)
theorem Sd {α β : Type} (f : α → Option β) (x : α) : Option.bind (some x) f = f x := of_eq_true (eq_self _)
theorem Mp (n : Nat) (ds : List D) : Do n ds = ds.map .fz ++ List.replicate (n - ds.length) .un := of_eq_true (eq_self _)
theorem truB (b : Bool) : truD (.bl b) = some b := of_eq_true (eq_self _)
theorem Gj {α : Type} (l : List α) (k : Nat) : atI l (k : Int) = l[k]? := by
 unfold atI ixN
 rw [if_pos (by omega)]
 by_cases h : k < l.length
 ·rw [if_pos (by omega)]
  simp
 ·rw [if_neg (by omega), List.getElem?_eq_none (by omega)]
  rfl
theorem ix0 (x : D) (r : List D) : ixD (.lst (x :: r)) (.int 0) = some x := Gj _ 0
theorem ix1 (x y : D) (r : List D) : ixD (.lst (x :: y :: r)) (.int 1) = some y := Gj _ 1
theorem ix2 (x y z : D) (r : List D) : ixD (.lst (x :: y :: z :: r)) (.int 2) = some z := Gj _ 2
theorem ixt0 (x : D) (r : List D) : ixD (.tup (x :: r)) (.int 0) = some x := Gj _ 0
theorem ixt1 (x y : D) (r : List D) : ixD (.tup (x :: y :: r)) (.int 1) = some y := Gj _ 1
theorem ixt2 (x y z : D) (r : List D) : ixD (.tup (x :: y :: z :: r)) (.int 2) = some z := Gj _ 2
theorem ixt3 (x y z w : D) (r : List D) : ixD (.tup (x :: y :: z :: w :: r)) (.int 3) = some w := Gj _ 3
theorem e_tr (f : FE) (ρ : Rho) : trF f ρ = (f ρ).bind truD := of_eq_true (eq_self _)
theorem Pa : ∀ {out : List D} {P : Str → Prop}, (∀ y ∈ out, ∃ x, y = D.str x ∧ P x) → ∃ ws : List Str, out = ws.map .str ∧ ws.length = out.length ∧ ∀ x ∈ ws, P x
 | [], _, _ => ⟨[], rfl, rfl, by simp⟩
 | y :: r, P, h => by
  obtain ⟨x, rfl, px⟩ := h y List.mem_cons_self
  obtain ⟨ws, e, hl, hp⟩ := Pa (out := r) (P := P) fun y hy => h y (List.mem_cons_of_mem _ hy)
  exact ⟨x :: ws, by rw [e]; rfl, by simp [hl], fun z hz => by rcases List.mem_cons.mp hz with rfl | hz; exact px; exact hp z hz⟩
theorem VM {src : FI} {fe : FE} {ρ : Rho} {ds : List D} {P : D → Prop} (h : src ρ = some ds) (hz : ds.length ≤ 10000000) (hh : ∀ d ∈ ds, ∃ y, fe (ρ ++ [.fz d]) = some y ∧ P y) : ∃ out, HR src allT fe ρ = some (.lst out) ∧ out.length = ds.length ∧ ∀ y ∈ out, P y := by
 obtain ⟨out, h1, h2, h3⟩ := Mj hh
 exact ⟨out, O4 h hz h1, h2, h3⟩
theorem VN (z : Str) (n j : Int) (hn : n = z.length) (h0 : 0 < z.length) (h1 : z.length ≤ 10000000) : ∃ c, c ∈ z.cps.toList ∧ ixD (.str z) (.int (j % n)) = some (.str ⟨#[c]⟩) := by
 obtain ⟨c, hc, e⟩ := VL (xs := z.cps.toList) j n (by simpa [Str.length] using hn) (fun q => by
  have e : z.cps.toList.length = 0 := by rw [q]; rfl
  have e2 : z.length = z.cps.toList.length := by simp [Str.length]
  omega)
 refine ⟨c, hc, ?_⟩
 have : ixD (.str z) (.int (j % n)) = if z.length ≤ sizeLine then (atI z.cps.toList (j % n)).map (fun c => D.str ⟨#[c]⟩) else none := rfl
 rw [this, if_pos (Dy h1), e]
 rfl
theorem Aa (x y : Str) : (x ++ y).length = x.length + y.length := by
 show (x.cps ++ y.cps).size = _
 simp [Str.length]
theorem sl_s (z : Str) (lo hi : Option Int) (h : z.length ≤ 10000000) : slD (.str z) lo hi = some (.str (cutS z lo hi)) := by
 show (if z.length ≤ sizeLine then some (D.str (cutS z lo hi)) else none) = _
 rw [if_pos (Dy h)]
theorem Jj (z : Str) (h : z.length ≤ 10000000) : lenD (.str z) = some (.int z.length) := by
 show (if z.length ≤ sizeLine then some (D.int z.length) else none) = _
 rw [if_pos (Dy h)]
theorem K7 (x : Str) (ys : List Str) : inD false (.str x) (.lst (ys.map .str)) = some (.bl (ys.any (fun y => y == x))) := by
 have h : ∀ ys : List Str, flVs (ys.map .str) = some (ys.map V.str) := fun ys => by
  induction ys with
  | nil => rfl
  | cons y r ih => simp [flVs, flV, ih]
 show ((flV (.str x)).bind fun v => (flVs (ys.map .str)).map fun vs => D.bl (inV v vs)) = _
 rw [h]
 show some (D.bl (inV (.str x) (ys.map V.str))) = _
 simp [inV, List.any_map, Function.comp_def, eqV]
theorem Ii (ys : List Str) : Fv (ys.map .str) = some ys := by
 induction ys with
 | nil => rfl
 | cons y r ih => simp [Fv, ih]
def XD (i : Nat) (ρ : Rho) (o : Option D) : Option Out := o.map fun d => .nx (ρ.set i (.ow d))
theorem Sh (i : Nat) (f : FE) (ρ : Rho) : setW i f ρ = XD i ρ (f ρ) := of_eq_true (eq_self _)
theorem Pb (i : Nat) (ρ : Rho) (d : D) : XD i ρ (some d) = some (.nx (ρ.set i (.ow d))) := of_eq_true (eq_self _)
def mutO (g : D → D → Option D) (i : Nat) (ρ : Rho) (x v : Option D) : Option Out := v.bind fun v => x.bind fun x => (g x v).map fun y => .nx (ρ.set i (.ow y))
def getW (o : Option Slot) : Option D := match o with | some (.ow d) => some d | _ => none
theorem XF (g : D → D → Option D) (i : Nat) (f : FE) (ρ : Rho) : mutF g i f ρ = mutO g i ρ (getW ρ[i]?) (f ρ) := of_eq_true (eq_self _)
theorem Sq (g : D → D → Option D) (i : Nat) (ρ : Rho) (x v : D) : mutO g i ρ (some x) (some v) = (g x v).map fun y => .nx (ρ.set i (.ow y)) := of_eq_true (eq_self _)
theorem Ss (d : D) : getW (some (.ow d)) = some d := of_eq_true (eq_self _)
def forB (o : Option Out) (b : D → FS) (r : List D) : Option Out := match o with
  | some (.nx ρ') => forF b r ρ'
  | some (.ct ρ') => forF b r ρ'
  | some (.bk ρ') => some (.nx ρ')
  | some (.rt e ρ') => some (.rt e ρ')
  | none => none
theorem Mq (b : D → FS) (ρ : Rho) : forF b [] ρ = some (.nx ρ) := of_eq_true (eq_self _)
theorem Kl (b : D → FS) (d : D) (r : List D) (ρ : Rho) : forF b (d :: r) ρ = forB (b d ρ) b r := of_eq_true (eq_self _)
theorem Pg (b : D → FS) (r : List D) (ρ : Rho) : forB (some (.nx ρ)) b r = forF b r ρ := of_eq_true (eq_self _)
theorem Ph (b : D → FS) (r : List D) (ρ : Rho) : forB (some (.ct ρ)) b r = forF b r ρ := of_eq_true (eq_self _)
theorem Pj (b : D → FS) (r : List D) (ρ : Rho) : forB (some (.bk ρ)) b r = some (.nx ρ) := of_eq_true (eq_self _)
theorem Pk (b : D → FS) (r : List D) (d : D) (ρ : Rho) : forB (some (.rt d ρ)) b r = some (.rt d ρ) := of_eq_true (eq_self _)
def bndO (o : Option Rho) (b : FS) : Option Out := o.bind b
theorem e_tg (tg : FG) (b : FS) (d : D) (ρ : Rho) : tgB tg b d ρ = bndO (tg d ρ) b := of_eq_true (eq_self _)
theorem Su (ρ : Rho) (b : FS) : bndO (some ρ) b = b ρ := of_eq_true (eq_self _)
theorem Nx (i : Nat) (d : D) (ρ : Rho) : O2 i d ρ = some (ρ.set i (.fz d)) := of_eq_true (eq_self _)
end PV
namespace PV
open PySem L2
end PV
namespace PV
open PySem L2
abbrev FZ := Rho → Option (D × Rho)
abbrev FZA := Rho → Option (List D × Rho)
def GK (g : List D → Option (D × D)) (i : Nat) (fs : FA) : FZ := fun ρ => (fs ρ).bind fun ds => (ownO ρ i).bind fun so => (g (so :: ds)).map fun r => (r.1, ρ.set i (.ow r.2))
def isOb (c m : Str) : D → Bool
 | .ob c' gs => decide (c' = c) && (gs.lookup m).isNone
 | _ => false
def DP (c m : Str) (g : List D → Option (D × D)) (i : Nat) (fs : FA) : FZ := fun ρ => (ownO ρ i).bind fun so => if isOb c m so then (fs ρ).bind fun ds => (g (so :: ds)).map fun r => (r.1, ρ.set i (.ow r.2)) else none
def Mr (d : D) : Option D := match d with | .non => some d | .bl _ => some d | .int _ => some d | .str _ => some d | _ => none
def GP (c m : Str) (g : List D → Option D) (i : Nat) (fs : FA) : FE := fun ρ => (ownO ρ i).bind fun so => if isOb c m so then (fs ρ).bind fun ds => (g (so :: ds)).bind Mr else none
def Km (h : FZ) : FZA := fun ρ => (h ρ).map fun r => ([r.1], r.2)
def JB (f : FE) (h : FZA) : FZA := fun ρ => (f ρ).bind fun d => (h ρ).map fun r => (d :: r.1, r.2)
def tupX (h : FZA) : FZ := fun ρ => (h ρ).bind fun r => if r.1.length ≤ sizeLine then some (.tup r.1, r.2) else none
def setX (i : Nat) (h : FZ) : FS := fun ρ => (h ρ).map fun r => .nx (r.2.set i (.fz r.1))
def Zn (h : FZ) : FS := fun ρ => (h ρ).map fun r => .nx r.2
def retX (h : FZ) : FS := fun ρ => (h ρ).map fun r => .rt r.1 r.2
def putG (f : Str) (v : D) : List (Str × D) → List (Str × D)
 | [] => [(f, v)]
 | (g, x) :: r => if g = f then (g, v) :: r else (g, x) :: putG f v r
def JC (f : Str) (o v : D) : Option D := match o with | .ob c gs => if gs.length < 1000 then some (.ob c (putG f v gs)) else none | _ => none
def fldS (f : Str) (i : Nat) (fe : FE) : FS := fun ρ => (fe ρ).bind fun v => (ownO ρ i).bind fun o => (JC f o v).map fun o' => .nx (ρ.set i (.ow o'))
def mkF (c : Str) (g : List D → Option (D × D)) (fs : FA) : FE := fun ρ => (fs ρ).bind fun ds => (g (.ob c [] :: ds)).bind fun r => match r.1 with | .non => some r.2 | _ => none
def GC (n : Nat) : List D → Rho
 | [] => []
 | so :: ds => .ow so :: (ds.map .fz ++ List.replicate (n - (ds.length + 1)) .un)
def endS (d : D) (ρ : Rho) : Option (D × D) := (getW (ρ[0]? : Option Slot)).map fun so => (d, so)
def runS (n np : Nat) (b : FS) (ds : List D) : Option (D × D) := if ds.length = np then (match b (GC n ds) with | some (.rt d ρ) => endS d ρ | some (.nx ρ) => endS .non ρ | _ => none) else none
def cx1 (g : List D → Option (D × D)) (i : Nat) (ρ : Rho) (so : Option D) (ds : Option (List D)) : Option (D × Rho) := ds.bind fun ds => so.bind fun so => (g (so :: ds)).map fun r => (r.1, ρ.set i (.ow r.2))
def cx2 (i : Nat) (ρ : Rho) (r : Option (D × D)) : Option (D × Rho) := r.map fun r => (r.1, ρ.set i (.ow r.2))
theorem Al (g : List D → Option (D × D)) (i : Nat) (fs : FA) (ρ : Rho) : GK g i fs ρ = cx1 g i ρ (getW ρ[i]?) (fs ρ) := of_eq_true (eq_self _)
theorem Ac (g : List D → Option (D × D)) (i : Nat) (ρ : Rho) (so : D) (ds : List D) : cx1 g i ρ (some so) (some ds) = cx2 i ρ (g (so :: ds)) := of_eq_true (eq_self _)
theorem Bx (i : Nat) (ρ : Rho) (d so : D) : cx2 i ρ (some (d, so)) = some (d, ρ.set i (.ow so)) := of_eq_true (eq_self _)
def mx1 (c m : Str) (g : List D → Option (D × D)) (i : Nat) (ρ : Rho) (so : Option D) (ds : Option (List D)) : Option (D × Rho) := so.bind fun so => if isOb c m so then ds.bind fun ds => (g (so :: ds)).map fun r => (r.1, ρ.set i (.ow r.2)) else none
theorem Am (c m : Str) (g : List D → Option (D × D)) (i : Nat) (fs : FA) (ρ : Rho) : DP c m g i fs ρ = mx1 c m g i ρ (getW ρ[i]?) (fs ρ) := of_eq_true (eq_self _)
theorem Ad {c m : Str} {g : List D → Option (D × D)} {i : Nat} {ρ : Rho} {so : D} {ds : List D} (h : isOb c m so = true) : mx1 c m g i ρ (some so) (some ds) = cx2 i ρ (g (so :: ds)) := by
 show (if isOb c m so then _ else _) = _
 rw [if_pos h]
 rfl
def mr1 (c m : Str) (g : List D → Option D) (so : Option D) (ds : Option (List D)) : Option D := so.bind fun so => if isOb c m so then ds.bind fun ds => (g (so :: ds)).bind Mr else none
def mr2 (o : Option D) : Option D := o.bind Mr
theorem An (c m : Str) (g : List D → Option D) (i : Nat) (fs : FA) (ρ : Rho) : GP c m g i fs ρ = mr1 c m g (getW ρ[i]?) (fs ρ) := of_eq_true (eq_self _)
theorem Ae {c m : Str} {g : List D → Option D} {so : D} {ds : List D} (h : isOb c m so = true) : mr1 c m g (some so) (some ds) = mr2 (g (so :: ds)) := by
 show (if isOb c m so then _ else _) = _
 rw [if_pos h]
 rfl
theorem BZ (b : Bool) : mr2 (some (.bl b)) = some (.bl b) := of_eq_true (eq_self _)
theorem Ba (b : Str) : mr2 (some (.str b)) = some (.str b) := of_eq_true (eq_self _)
theorem Bb (b : Int) : mr2 (some (.int b)) = some (.int b) := of_eq_true (eq_self _)
def lx1 (r : Option (D × Rho)) : Option (List D × Rho) := r.map fun r => ([r.1], r.2)
theorem Ao (h : FZ) (ρ : Rho) : Km h ρ = lx1 (h ρ) := of_eq_true (eq_self _)
theorem Af (d : D) (ρ : Rho) : lx1 (some (d, ρ)) = some ([d], ρ) := of_eq_true (eq_self _)
def kx1 (d : Option D) (r : Option (List D × Rho)) : Option (List D × Rho) := d.bind fun d => r.map fun r => (d :: r.1, r.2)
theorem Aq (f : FE) (h : FZA) (ρ : Rho) : JB f h ρ = kx1 (f ρ) (h ρ) := of_eq_true (eq_self _)
theorem Ag (d : D) (ds : List D) (ρ : Rho) : kx1 (some d) (some (ds, ρ)) = some (d :: ds, ρ) := of_eq_true (eq_self _)
def tx1 (r : Option (List D × Rho)) : Option (D × Rho) := r.bind fun r => if r.1.length ≤ sizeLine then some (.tup r.1, r.2) else none
theorem Bc (h : FZA) (ρ : Rho) : tupX h ρ = tx1 (h ρ) := of_eq_true (eq_self _)
theorem Ar (a b : D) (ρ : Rho) : tx1 (some ([a, b], ρ)) = some (.tup [a, b], ρ) := of_eq_true (eq_self _)
theorem Av (a b c : D) (ρ : Rho) : tx1 (some ([a, b, c], ρ)) = some (.tup [a, b, c], ρ) := of_eq_true (eq_self _)
def sx1 (i : Nat) (r : Option (D × Rho)) : Option Out := r.map fun r => .nx (r.2.set i (.fz r.1))
theorem Bd (i : Nat) (h : FZ) (ρ : Rho) : setX i h ρ = sx1 i (h ρ) := of_eq_true (eq_self _)
theorem Aw (i : Nat) (d : D) (ρ : Rho) : sx1 i (some (d, ρ)) = some (.nx (ρ.set i (.fz d))) := of_eq_true (eq_self _)
def dx1 (r : Option (D × Rho)) : Option Out := r.map fun r => .nx r.2
theorem Ax (h : FZ) (ρ : Rho) : Zn h ρ = dx1 (h ρ) := of_eq_true (eq_self _)
theorem Ah (d : D) (ρ : Rho) : dx1 (some (d, ρ)) = some (.nx ρ) := of_eq_true (eq_self _)
def rx1 (r : Option (D × Rho)) : Option Out := r.map fun r => .rt r.1 r.2
theorem Be (h : FZ) (ρ : Rho) : retX h ρ = rx1 (h ρ) := of_eq_true (eq_self _)
theorem Ay (d : D) (ρ : Rho) : rx1 (some (d, ρ)) = some (.rt d ρ) := of_eq_true (eq_self _)
def fx1 (f : Str) (i : Nat) (ρ : Rho) (o v : Option D) : Option Out := v.bind fun v => o.bind fun o => (JC f o v).map fun o' => .nx (ρ.set i (.ow o'))
theorem Bf (f : Str) (i : Nat) (fe : FE) (ρ : Rho) : fldS f i fe ρ = fx1 f i ρ (getW ρ[i]?) (fe ρ) := of_eq_true (eq_self _)
theorem Az (f : Str) (i : Nat) (ρ : Rho) (o v : D) : fx1 f i ρ (some o) (some v) = (JC f o v).map fun o' => .nx (ρ.set i (.ow o')) := of_eq_true (eq_self _)
def qx1 (c : Str) (g : List D → Option (D × D)) (ds : Option (List D)) : Option D := ds.bind fun ds => (g (.ob c [] :: ds)).bind fun r => match r.1 with | .non => some r.2 | _ => none
def qx2 (r : Option (D × D)) : Option D := r.bind fun r => match r.1 with | .non => some r.2 | _ => none
theorem By (c : Str) (g : List D → Option (D × D)) (fs : FA) (ρ : Rho) : mkF c g fs ρ = qx1 c g (fs ρ) := of_eq_true (eq_self _)
theorem Bg (c : Str) (g : List D → Option (D × D)) (ds : List D) : qx1 c g (some ds) = qx2 (g (.ob c [] :: ds)) := of_eq_true (eq_self _)
theorem Bh (o : D) : qx2 (some (.non, o)) = some o := of_eq_true (eq_self _)
def Sv (o : Option Out) : Option (D × D) := match o with | some (.rt d ρ) => endS d ρ | some (.nx ρ) => endS .non ρ | _ => none
theorem Bj {n np : Nat} {b : FS} {ds : List D} (h : ds.length = np) : runS n np b ds = Sv (b (GC n ds)) := by
 unfold runS; rw [if_pos h]; rfl
theorem Ai (n : Nat) (so : D) (ds : List D) : GC n (so :: ds) = .ow so :: (ds.map .fz ++ List.replicate (n - (ds.length + 1)) .un) := of_eq_true (eq_self _)
theorem A_ (d so : D) (ρ : Rho) : Sv (some (.rt d (.ow so :: ρ))) = some (d, so) := of_eq_true (eq_self _)
theorem BJ (so : D) (ρ : Rho) : Sv (some (.nx (.ow so :: ρ))) = some (.non, so) := of_eq_true (eq_self _)
end PV
namespace L2
open PySem PySem.Spec PyProof.Rows
def clOf (cells : List (Str × Addr)) : List (Str × NameKind) → List (Str × Addr) → List (Str × Addr)
 | [], cs => cs
 | y :: r, cs => if y.2 == .free then clOf cells r ((y.1, (cells.lookup y.1).getD 0) :: cs) else clOf cells r cs
theorem Jk {cells : List (Str × Addr)} {x : Str} {c : Addr} : ∀ {names : List (Str × NameKind)} {cs : List (Str × Addr)}, (∀ y ∈ names, y.2 = .free → ∃ c, cells.lookup y.1 = some c) →
  (clOf cells names cs).lookup x = some c → cs.lookup x = some c ∨ cells.lookup x = some c
 | [], _, _, h => .inl h
 | y :: r, cs, hf, h => by
  unfold clOf at h
  split at h
  ·rename_i hk
   have hk' : y.2 = .free := by simpa using hk
   obtain ⟨c', hc⟩ := hf y List.mem_cons_self hk'
   rcases Jk (fun z hz => hf z (List.mem_cons_of_mem _ hz)) h with q | q
   ·rw [List.lookup_cons] at q
    split at q
    ·rename_i e
     have e' : x = y.1 := by simpa using e
     rw [hc] at q
     subst e'
     right
     rw [hc]; simpa using q
    ·exact .inl q
   ·exact .inr q
  ·exact Jk (fun z hz => hf z (List.mem_cons_of_mem _ hz)) h
theorem Ij {cells : List (Str × Addr)} {x : Str} : ∀ {names : List (Str × NameKind)} {cs : List (Str × Addr)}, (∃ c, cs.lookup x = some c) → ∃ c, (clOf cells names cs).lookup x = some c
 | [], _, h => h
 | y :: r, cs, h => by
  unfold clOf
  split
  ·apply Ij
   rw [List.lookup_cons]
   split
   ·exact ⟨_, rfl⟩
   ·exact h
  ·exact Ij h
theorem Gz {cells : List (Str × Addr)} {x : Str} : ∀ {names : List (Str × NameKind)} {cs : List (Str × Addr)}, (x, NameKind.free) ∈ names → ∃ c, (clOf cells names cs).lookup x = some c
 | [], _, h => by cases h
 | y :: r, cs, h => by
  unfold clOf
  rcases List.mem_cons.mp h with e | h
  ·subst e
   rw [if_pos (by rfl)]
   apply Ij
   rw [List.lookup_cons]
   simp
  ·split
   ·exact Gz h
   ·exact Gz h
theorem Pn {env : Env} : ∀ (names : List (Str × NameKind)) (cs : List (Str × Addr)), (∀ y ∈ names, y.2 = .free → ∃ c, env.cells.lookup y.1 = some c) →
  (forIn names cs (fun x r => match x with
   | (name, kind) => if (kind == NameKind.free) = true then do let a ← cellOf env name; pure (ForInStep.yield ((name, a) :: r)) else pure (ForInStep.yield r)) : Sem (List (Str × Addr))) = pure (clOf env.cells names cs)
 | [], _, _ => rfl
 | (n, k) :: r, cs, hf => by
  have ih := fun cs => Pn r cs (fun z hz => hf z (List.mem_cons_of_mem _ hz))
  rw [List.forIn_cons]
  by_cases hk : (k == NameKind.free) = true
  ·obtain ⟨c, hc⟩ := hf (n, k) List.mem_cons_self (by simpa using hk)
   have hc' : env.cells.lookup n = some c := hc
   have e : cellOf env n = pure c := by unfold cellOf; rw [hc']
   simp only [hk, if_true, e]
   show (forIn r ((n, c) :: cs) _ : Sem _) = _
   rw [ih]
   conv => rhs; unfold clOf
   simp only [hk, if_true, hc', Option.getD_some]
  ·simp only [hk, if_false]
   show (forIn r cs _ : Sem _) = _
   rw [ih]
   conv => rhs; unfold clOf
   simp only [hk, if_false]
   rfl
theorem KN {scope : Scope} {env : Env} (hf : ∀ y ∈ scope.names, y.2 = .free → ∃ c, env.cells.lookup y.1 = some c) : closureFor scope env = pure (clOf env.cells scope.names []) := by
 have h := Pn (env := env) scope.names [] hf
 unfold closureFor
 show ((forIn scope.names [] _ : Sem _) >>= fun r => pure r) = _
 exact (congrArg (fun m => m >>= fun r => pure r) h)
theorem Dz {env : Env} {x : Str} {k : NameKind} : ∀ {names : List (Str × NameKind)}, (names.map fun (n, k) => if (k == NameKind.free && env.scope.kind == .function && env.kindOf n == some .cell) then (n, NameKind.cell) else (n, k)).lookup x = some k →
  ∃ k', (x, k') ∈ names ∧ (k' = k ∨ (k' = .free ∧ k = .cell))
 | [], h => by simp at h
 | (n, k0) :: r, h => by
  rw [List.map_cons] at h
  have ih := @Dz env x k r
  by_cases hc : (k0 == NameKind.free && env.scope.kind == .function && env.kindOf n == some .cell) = true
  ·simp only [hc, if_true] at h
   rw [List.lookup_cons] at h
   split at h
   ·rename_i e
    have e' : x = n := by simpa using e
    subst e'
    have hk0 : k0 = .free := by
     rw [Bool.and_eq_true, Bool.and_eq_true] at hc
     simpa using hc.1.1
    cases h
    exact ⟨k0, List.mem_cons_self, .inr ⟨hk0, rfl⟩⟩
   ·obtain ⟨k', h1, h2⟩ := ih h
    exact ⟨k', List.mem_cons_of_mem _ h1, h2⟩
  ·simp only [hc, if_false] at h
   rw [List.lookup_cons] at h
   split at h
   ·rename_i e
    have e' : x = n := by simpa using e
    subst e'
    cases h
    exact ⟨k0, List.mem_cons_self, .inl rfl⟩
   ·obtain ⟨k', h1, h2⟩ := ih h
    exact ⟨k', List.mem_cons_of_mem _ h1, h2⟩
def El (t : Str) (N : List Str) : List Str := N.map fun y => if y = t then Str.empty else y
def Gk (X : Cx) (scope : Scope) (t : Str) (s2 : Shared) (H2 : Hp) (fp : List Addr) : Cx :=
 { X with N := El t X.N ++ [t], s₀ := s2, H₀ := H2, env := compEnvC scope (clOf X.env.cells scope.names []) (s2.heap.objs.size + 1) X.env, outer := X.stack, ex := fp, fn := fun _ => false, pn := [], xe := fun _ _ => False }
structure CompOk (X : Cx) (scope : Scope) (t : Str) : Prop where
 nocell : ∀ y ∈ scope.names, y.2 ≠ .cell
 kind : scope.kind = .function
 names : ∀ y ∈ scope.names, y.2 = .local → scope.names.lookup y.1 = some .local
 tl : scope.names.lookup t = some .local
 loc : ∀ y ∈ scope.names, y.2 = .local → y.1 = t ∨ y.1 ∉ X.N
 fre : ∀ y ∈ scope.names, y.2 = .free → X.env.kindOf y.1 = some .cell ∨ X.env.kindOf y.1 = some .free
 emp : ∀ y ∈ scope.names, y.1 ≠ Str.empty
 nd : (El t X.N ++ [t]).Nodup
section
variable {X : Cx} {scope : Scope} {t : Str}
theorem CompOk.cells (c : CompOk X scope t) (ok : X.Ok) : ∀ y ∈ scope.names, y.2 = .free → ∃ c, X.env.cells.lookup y.1 = some c := fun y hy hf => ok.has y.1 (c.fre y hy hf)
theorem CompOk.sub (c : CompOk X scope t) (ok : X.Ok) {x : Str} {a : Addr} (h : (clOf X.env.cells scope.names []).lookup x = some a) : X.env.cells.lookup x = some a := by
 rcases Jk (c.cells ok) h with q | q
 ·simp at q
 ·exact q
theorem CompOk.inv {pins : List (Addr × Obj)} {σ : St} {H : Hp} {s : Shared} {fp : List Addr} {h1 : Heap} {tk : Nat} (c : CompOk X scope t) (I : Inv X pins σ H s) (hf : ∀ b ∈ fp, FpOk X pins H b) (ho : ∀ b ∈ fp, ∃ o, s.heap.get? b = some o)
  (hns : h1.Ns (s.heap.objs.size + 1) (fun _ => none)) (kp : ∀ b o, s.heap.get? b = some o → h1.get? b = some o) (hacc : h1.get? s.heap.objs.size = some { cls := .type "list", data := .seq #[] }) :
  Inv (Gk X scope t s H fp) [] (σ ++ [none]) (upd H s.heap.objs.size (.lst [])) { s with heap := h1, toks := tk } := by
 have lt_of : ∀ b o, s.heap.get? b = some o → b < s.heap.objs.size := fun b o e => Heap.lt_size e
 have ok' : (Gk X scope t s H fp).Ok := by
  refine ⟨I.ok.mod, c.kind, I.ok.glob, I.ok.blt, Nat.le_succ _, fun x y a h1 h2 => I.ok.inj x y a (c.sub I.ok h1) (c.sub I.ok h2), fun x hx => ?_, fun x a h _ => absurd (show false = true from h) Bool.false_ne_true, I.ok.hd, I.ok.frames, .inl rfl, fun b hb => ⟨?_, fun x a h => ?_⟩, I.bs, Nat.le_trans I.ok.bsz I.sz, fun b o e hb => ?_, fun b hb hs => ?_, I.stack, I.stkFree⟩
  ·have hx' : (relabel scope X.env).names.lookup x = some .cell ∨ (relabel scope X.env).names.lookup x = some .free := hx
   have go : ∀ k, (relabel scope X.env).names.lookup x = some k → (k = .cell ∨ k = .free) → (x, NameKind.free) ∈ scope.names := fun k hk hkk => by
    obtain ⟨k', m, e⟩ := Dz hk
    rcases e with e | ⟨e, _⟩
    ·subst e
     rcases hkk with z | z
     ·exact absurd z (c.nocell _ m)
     ·rw [← z]; exact m
    ·rw [← e]; exact m
   rcases hx' with h | h
   ·exact Gz (go _ h (.inl rfl))
   ·exact Gz (go _ h (.inr rfl))
  ·obtain ⟨o, e⟩ := ho b hb
   exact Nat.ne_of_lt (Nat.lt_succ_of_lt (lt_of b o e))
  ·exact (hf b hb).2.2.2.2.1 x a (c.sub I.ok h)
  ·rcases (hf b hb).2.2.2.1 with z | z
   ·exact I.ok.noex b o e z
   ·exact absurd (Nat.lt_of_lt_of_le (Heap.lt_size e) (Nat.le_trans I.ok.bsz z)) (Nat.lt_irrefl _)
  ·rcases List.mem_cons.mp (I.stkSub b hs) with z | z
   ·exact (hf b hb).2.1 z
   ·exact (hf b hb).2.2.1 z
 have fr : H s.heap.objs.size = none := I.hok.fresh (Nat.le_refl _)
 have new : Cr X.prog X.w (upd H s.heap.objs.size (.lst [])) h1 s.heap.objs.size (.lst []) := ⟨Nat.zero_le _, [], 0, .nil, hacc⟩
 refine ⟨ok', rfl, I.bare, Un.laid kp (Nat.le_refl _) fr, ⟨_, hns, fun i x v e1 e2 e3 => ?_⟩, fun x a h => ?_, ?_, fun x a h => ?_, fun p hp => absurd (show p ∈ ([] : List (Addr × Obj)) from hp) (by simp), I.hok.laid kp (Nat.le_refl _) new, ?_⟩
 ·have e1' : (El t X.N ++ [t])[i]? = some x := e1
  have hil : i < σ.length := by
   by_cases z : i < σ.length
   ·exact z
   ·rw [List.getElem?_append_right (by omega)] at e2
    cases q : i - σ.length with
    | zero => rw [q] at e2; cases e2
    | succ n => rw [q] at e2; simp at e2
  have e2' : σ[i]? = some (some v) := by rw [List.getElem?_append_left hil] at e2; exact e2
  have hN : i < X.N.length := by rw [← I.len]; exact hil
  have e1'' : (El t X.N)[i]? = some x := by rw [List.getElem?_append_left (by unfold El; rw [List.length_map]; exact hN)] at e1'; exact e1'
  unfold El at e1''
  rw [List.getElem?_map] at e1''
  have e3' : (relabel scope X.env).names.lookup x = some .local ∨ (relabel scope X.env).names.lookup x = some .cell ∨ (relabel scope X.env).names.lookup x = some .free := e3
  have hin : ∃ k', (x, k') ∈ scope.names ∧ (k' = .local ∨ k' = .free) ∧ (k' = .free → (relabel scope X.env).names.lookup x = some .cell ∨ (relabel scope X.env).names.lookup x = some .free) := by
   rcases e3' with z | z | z
   ·obtain ⟨k', m, e⟩ := Dz z
    rcases e with e | ⟨_, e⟩
    ·exact ⟨k', m, .inl e, fun q => by rw [q] at e; cases e⟩
    ·cases e
   ·obtain ⟨k', m, e⟩ := Dz z
    rcases e with e | ⟨e, _⟩
    ·exact absurd e (c.nocell _ m)
    ·exact ⟨k', m, .inr e, fun _ => .inl z⟩
   ·obtain ⟨k', m, e⟩ := Dz z
    rcases e with e | ⟨e, q⟩
    ·exact ⟨k', m, .inr e, fun _ => .inr z⟩
    ·cases q
  cases ey : X.N[i]? with
  | none => rw [ey] at e1''; cases e1''
  | some y =>
   rw [ey] at e1''
   have e1z : (if y = t then Str.empty else y) = x := Option.some.inj e1''
   obtain ⟨k', m, hk', hfr⟩ := hin
   by_cases hyt : y = t
   ·rw [if_pos hyt] at e1z
    exact absurd e1z.symm (c.emp _ m)
   ·rw [if_neg hyt] at e1z
    subst e1z
    rcases hk' with hk' | hk'
    ·rcases c.loc _ m hk' with z | z
     ·exact absurd z hyt
     ·exact absurd (List.mem_of_getElem? ey) z
    ·have hkk := c.fre _ m hk'
     have hkk' : X.env.kindOf y = some .cell ∨ X.env.kindOf y = some .free := hkk
     obtain ⟨mm, hn, hl⟩ := I.loc
     have hv : Vis X.env.scope y := by
      rcases hkk' with z | z
      ·exact .inr (.inl z)
      ·exact .inr (.inr z)
     obtain ⟨u, r, l⟩ := hl i y v ey e2' hv
     refine ⟨u, r, .inr ⟨hfr hk', ?_⟩⟩
     rcases l with ⟨kl, _⟩ | ⟨_, a, ea, hc⟩
     ·rcases hkk' with z | z
      ·rw [kl] at z; cases z
      ·rw [kl] at z; cases z
     ·rw [hk'] at m
      obtain ⟨a', ha'⟩ := Gz (cells := X.env.cells) (cs := []) m
      refine ⟨a', ha', ?_⟩
      have := c.sub I.ok ha'
      rw [ea] at this
      cases this
      obtain ⟨o, e, d⟩ := hc
      exact ⟨o, kp _ _ e, d⟩
 ·obtain ⟨v, o, e, d⟩ := I.cell x a (c.sub I.ok h)
  exact ⟨v, o, kp _ _ e, d⟩
 ·show upd H s.heap.objs.size (.lst []) (s.heap.objs.size + 1) = none
  rw [BP (Nat.succ_ne_self _)]
  exact I.hok.fresh (Nat.le_succ _)
 ·have ha := c.sub I.ok h
  obtain ⟨v, o, e, d⟩ := I.cell x a ha
  rw [BP (Nat.ne_of_lt (lt_of _ _ e))]
  exact I.freeC x a ha
 ·show (σ ++ [none]).length = (El t X.N ++ [t]).length
  unfold El
  rw [List.length_append, List.length_append, List.length_map, I.len]
  rfl
def XH (wi : TI) (tc : TT) (te : TE) : TE := fun σ H Q => wi σ H fun J H1 => ∀ p, H1 p = none → ∃ W : Nat → Nat → List V → Hp → Prop, (∃ m, W 0 m [] (upd H1 p (.lst []))) ∧
 ∀ i m ys H, W i m ys H → (J.stop i H ∧ Q (.ref p) H) ∨ (J.go i H ∧ ∀ x H', J.yld i H x H' → tc (σ ++ [some x]) H' fun b H2 =>
  if b = true then te (σ ++ [some x]) H2 fun y H3 => H3 p = some (.lst ys) ∧ ys.length < sizeLine ∧ ∃ m', m' < m ∧ W (i + 1) m' (ys ++ [y]) (upd H3 p (.lst (ys ++ [y]))) else ∃ m', m' < m ∧ W (i + 1) m' ys H2)
def PTs (X : Cx) (ifs : List Expr) (tc : TT) : Prop :=
 ∀ (pins : List (Addr × Obj)) (s : Shared) (σ : St) (H : Hp) (Q : Bool → Hp → Prop), Inv X pins σ H s → tc σ H Q →
  wpAny (model X.prog X.w) X.A (forIn ifs true fun c r => if r = true then do let ok ← isTrue c X.env (eval c X.env); pure (ForInStep.yield ok) else pure (ForInStep.yield r)) (TP X pins σ Q) X.xe s
theorem VP : PTs X [] (fun _ H Q => Q true H) := fun _ _ _ H _ I h => wpAny_tests_nil ⟨H, I, h⟩
variable {elt iter : Expr} {ifs : List Expr} {px pos : Pos} {wi : TI} {tc : TT} {te : TE}
theorem Ny {pins : List (Addr × Obj)} {s : Shared} {σ : St} {H : Hp} {Q : VK} {it : Addr} {fp : List Addr} {tn : Nat → Heap → Prop} {J : It} {E : Value → Shared → Prop} {RR : Value → Addr → Result → Shared → Prop} (c : CompOk X scope t) (hc : X.calm = true)
    (I : Inv X pins σ H s) (T : Turn X.prog X.w X.K (.Name t px) J fp it tn) (st0 : tn 0 s.heap) (hf : ∀ b ∈ fp, FpOk X pins H b)
    (hI : ∀ s2 H2 fp, PTs (Gk X scope t s2 H2 fp) ifs tc) (hE : ∀ s2 H2 fp, PE (Gk X scope t s2 H2 fp) elt te)
    (h : ∀ p, H p = none → ∃ W : Nat → Nat → List V → Hp → Prop, (∃ m, W 0 m [] (upd H p (.lst []))) ∧
      ∀ i m ys H, W i m ys H → (J.stop i H ∧ Q (.ref p) H) ∨ (J.go i H ∧ ∀ x H', J.yld i H x H' → tc (σ ++ [some x]) H' fun b H2 =>
        if b = true then te (σ ++ [some x]) H2 fun y H3 => H3 p = some (.lst ys) ∧ ys.length < sizeLine ∧ ∃ m', m' < m ∧ W (i + 1) m' (ys ++ [y]) (upd H3 p (.lst (ys ++ [y]))) else ∃ m', m' < m ∧ W (i + 1) m' ys H2))
    (hRR : ∀ p C s' H' m, Inv X pins σ H' s' → H' C = none → C ≠ X.env.locals → X.s₀.heap.objs.size ≤ C → (∀ x a, X.env.cells.lookup x = some a → a ≠ C) → (∀ q ∈ X.pn ++ pins, q.1 ≠ C) → s'.heap.Ns C m → Q (.ref p) H' → RR (.ref p) C (.ok .next) s') :
    wpAny (model X.prog X.w) X.A (newList []) (fun acc s₃ => wpAny (model X.prog X.w) X.A (newFunctionEnv scope X.env.globals (clOf X.env.cells scope.names []) [] X.env.qual none .none (some X.env)) (fun cenv s₄ =>
      codeAny (model X.prog X.w) X.A (.compStart (.ListComp elt [⟨.Name t px, iter, ifs, 0⟩] scope pos) 0 (.ref it) acc { cenv with scope := relabel scope X.env }) (RR acc cenv.locals) s₄) E s₃) E s := by
  refine wpAny_newObj_type (wpAny_newFunctionEnv c.nocell (by intro y hy; simp at hy) (fun h₁ hns₁ hsb₁ => ?_) c.kind)
  dsimp only at hns₁ hsb₁ ⊢
  generalize hH2 : s.heap.push { cls := .type "list", dict := none, data := .seq ([] : List Value).toArray } = G2 at hns₁ hsb₁ ⊢
  have hC : G2.objs.size = s.heap.objs.size + 1 := by rw [← hH2, Heap.size_push]
  rw [hC] at hns₁ hsb₁ ⊢
  have kp : ∀ b o, s.heap.get? b = some o → h₁.get? b = some o := fun b o e => hsb₁.extBut b o (Nat.ne_of_lt (Nat.lt_succ_of_lt (Heap.lt_size e))) (Heap.get?_push_of_some _ (hH2 ▸ Heap.get?_push_of_some _ e))
  have hacc : h₁.get? s.heap.objs.size = some { cls := .type "list", data := .seq #[] } := hsb₁.extBut _ _ (Nat.ne_of_lt (Nat.lt_succ_self _)) (Heap.get?_push_of_some _ (hH2 ▸ Heap.get?_push_size _ rfl))
  have hob : ∀ b ∈ fp, ∃ o, s.heap.get? b = some o := fun b hb => let ⟨o, e, _⟩ := T.obj 0 _ st0 b hb; ⟨o, e⟩
  have I0 := c.inv (fp := fp) (h1 := h₁) (tk := s.toks + ([] : List (Str × Value)).length) I hf hob (by simpa using hns₁) kp hacc
  have fr : H s.heap.objs.size = none := I.hok.fresh (Nat.le_refl _)
  obtain ⟨W, ⟨m0, w0⟩, turn⟩ := h _ fr
  have st1 : tn 0 h₁ := T.keep 0 _ _ st0 fun b _ o e => kp b o e
  generalize hX : Gk X scope t s H fp = Y at I0
  have hcY : Y.calm = true := by rw [← hX]; exact hc
  have stat : ∀ {H' : Hp}, (∀ b ∈ fp, H' b = none) → ∀ b ∈ fp, FpOk Y [] H' b := fun {H'} hn b hb => by
    obtain ⟨o, e⟩ := hob b hb
    refine ⟨hn b hb, ?_, ?_, .inl ?_, fun x a e' => ?_, fun p hp => ?_⟩
    · rw [← hX]; exact Nat.ne_of_lt (Nat.lt_succ_of_lt (Heap.lt_size e))
    · intro z
      exact I0.ok.exfs b (by rw [← hX]; exact hb) z
    · rw [← hX]; exact hb
    · exact (I0.ok.exf b (by rw [← hX]; exact hb)).2 x a e'
    · rw [← hX] at hp
      exact absurd (show p ∈ ([] : List (Addr × Obj)) from hp) (by simp)
  have fp0 : ∀ b ∈ fp, upd H s.heap.objs.size (.lst []) b = none := fun b hb => by
    obtain ⟨o, e⟩ := hob b hb
    rw [BP (Nat.ne_of_lt (Heap.lt_size e))]
    exact (hf b hb).1
  have envY : Y.env = compEnvC scope (clOf X.env.cells scope.names []) (s.heap.objs.size + 1) X.env := by rw [← hX]; rfl
  have pY : Y.prog = X.prog := by rw [← hX]; rfl
  have wY : Y.w = X.w := by rw [← hX]; rfl
  have aY : Y.A = X.A := by rw [← hX]; rfl
  have kY : Y.K = X.K := by rw [← hX]; rfl
  have xY : Y.xe = fun _ _ => False := by rw [← hX]; rfl
  have nY : Y.N = El t X.N ++ [t] := by rw [← hX]; rfl
  have lenN : (El t X.N).length = σ.length := by unfold El; rw [List.length_map, I.len]
  have hIY : PTs Y ifs tc := by rw [← hX]; exact hI s H fp
  have hEY : PE Y elt te := by rw [← hX]; exact hE s H fp
  have setE : ∀ (o : Option V) (v : V), (σ ++ [o]).set (El t X.N).length (some v) = σ ++ [some v] := fun o v => by
    rw [lenN, List.set_append_right _ _ (Nat.le_refl _), Nat.sub_self]
    rfl
  have loop : ∀ s₃ : Shared, s₃ = { s with heap := h₁, toks := s.toks + ([] : List (Str × Value)).length } →
      codeAny (model X.prog X.w) X.A (.compLoop (.ListComp elt [⟨.Name t px, iter, ifs, 0⟩] scope pos) 0 (.ref it) (.ref s.heap.objs.size) (compEnvC scope (clOf X.env.cells scope.names []) (s.heap.objs.size + 1) X.env)) (RR (.ref s.heap.objs.size) (s.heap.objs.size + 1)) s₃ := by
    rintro s₃ rfl
    rw [← envY]
    refine codeAny_compLoop_tests (fun n s' => ∃ i ys o H', Inv Y [] (σ ++ [o]) H' s' ∧ tn i s'.heap ∧ (∀ b ∈ fp, H' b = none) ∧ W i n ys H') ?_ m0 ⟨0, [], none, _, I0, st1, fp0, w0⟩
    rintro n s3 ⟨i, ys, o, H3, I3, st3, fr3, w3⟩
    rcases turn i n ys H3 w3 with ⟨stop, qn⟩ | ⟨go, step⟩
    · have d := T.done Y pY wY kY hcY i [] s3 _ H3 (fun _ _ => False) I3 (stat fr3) st3 stop
      rw [aY] at d
      refine wpAny_mono d (fun r s4 ⟨hr, I4⟩ => ?_) fun _ _ z => z.elim
      subst hr
      have cN := I4.free
      have cN' : H3 (s.heap.objs.size + 1) = none := by rw [envY] at cN; exact cN
      have un := I4.base
      obtain ⟨m, hm, _⟩ := I4.loc
      have hm' : s4.heap.Ns (s.heap.objs.size + 1) m := by rw [envY] at hm; exact hm
      have un' : Un (frs X.stack) fp H H3 s.heap s4.heap := by rw [← hX] at un; exact un
      have os' : s4.os = s.os := by have := I4.os; rw [← hX] at this; exact this
      have hok' : HOk X.prog X.w H3 s4.heap := by have := I4.hok; rw [← hX] at this; exact this
      have bare' := I4.bare
      have IX : Inv X pins σ H3 s4 := I.call' os' un' hok' bare' fun b hb => ⟨(hf b hb).2.2.2.1, (hf b hb).2.1, (hf b hb).2.2.2.2.1, (hf b hb).2.2.2.2.2⟩
      refine hRR _ _ _ _ m IX cN' (Nat.ne_of_gt (Nat.lt_succ_of_lt I.lt)) (Nat.le_trans I.sz (Nat.le_succ _)) (fun x a e z => ?_) (fun q hq z => ?_) hm' qn
      · obtain ⟨v, oc, e', _⟩ := I.cell x a e
        have q2 : a < s.heap.objs.size := Heap.lt_size e'
        have z' : a = s.heap.objs.size + 1 := z
        exact absurd (z' ▸ q2) (Nat.not_lt.mpr (Nat.le_succ _))
      · have q2 : q.1 < s.heap.objs.size := Heap.lt_size (I.pin q hq).1
        have z' : q.1 = s.heap.objs.size + 1 := z
        exact absurd (z' ▸ q2) (Nat.not_lt.mpr (Nat.le_succ _))
    · have d := T.item Y pY wY kY hcY i [] s3 _ H3 (fun _ _ => False) I3 (stat fr3) st3 go
      rw [aY] at d
      refine wpAny_mono d (fun r s4 ⟨u, hr, h4⟩ => ?_) fun _ _ z => z.elim
      subst hr
      intro Γ pp hΓ
      obtain ⟨x, H5, I5, r5, y5, st5, fr5⟩ := (show ∃ x H', Inv Y [] (σ ++ [o]) H' s4 ∧ RelV x u ∧ J.yld i H3 x H' ∧ tn (i + 1) s4.heap ∧ ∀ b ∈ fp, H' b = none from h4 Γ pp hΓ)
      revert Γ pp
      show wpAny (model X.prog X.w) X.A _ _ _ s4
      have I5' := I5.pinned (stat fr5) (T.obj _ _ st5)
      have hiY : Y.N[(El t X.N).length]? = some t := by rw [nY, List.getElem?_append_right (Nat.le_refl _), Nat.sub_self]; rfl
      have htl : Y.env.scope.names.lookup t = some .local := by rw [envY]; exact lookup_relabel_local c.tl
      refine wpAny_assign_Name (Hs (i := (El t X.N).length) (v := x) I5' (by rw [nY]; exact c.nd) hiY (.inl htl) r5 (fun s6 I6 => ?_) (.inr htl))
      rw [setE] at I6
      have q := step x H5 y5
      have tst := hIY _ s6 _ H5 _ I6 q
      rw [aY, pY, wY, xY] at tst
      refine wpAny_mono tst (fun b s7 ⟨H7, I7, q7⟩ => ?_) fun _ _ z => z.elim
      have back : ∀ {H8 : Hp} {s8 : Shared}, Inv Y ([] ++ Jc fp s4.heap) (σ ++ [some x]) H8 s8 → tn (i + 1) s8.heap ∧ ∀ b ∈ fp, H8 b = none := fun {H8 s8} I8 => by
        refine ⟨T.keep _ _ _ st5 fun b hb ob e => (I8.pin (b, ob) (List.mem_append_right _ (List.mem_append_right _ (Gh hb e)))).1, fun b hb => ?_⟩
        obtain ⟨ob, e, d⟩ := T.obj _ _ st5 b hb
        exact (I8.pin (b, ob) (List.mem_append_right _ (List.mem_append_right _ (Gh hb e)))).2.1
      cases b with
      | false =>
        rw [if_neg Bool.false_ne_true] at q7 ⊢
        obtain ⟨m', hm, w7⟩ := q7
        obtain ⟨t7, f7⟩ := back I7
        exact ⟨m', hm, i + 1, ys, some x, H7, I7.unpinned, t7, f7, w7⟩
      | true =>
        rw [if_pos rfl] at q7 ⊢
        have ev := hEY _ s7 _ H7 _ I7 q7
        rw [aY, pY, wY, xY] at ev
        refine wpAny_mono ev (fun y s8 ⟨yv, H8, I8, r8, hp8, hz8, m', hm, w8⟩ => ?_) fun _ _ z => z.elim
        have ap := Qe (X := Y) _ s8 _ H8 (.ref s.heap.objs.size) [yv] (.ref s.heap.objs.size) [y] (fun _ H9 => H9 = upd H8 s.heap.objs.size (.lst (ys ++ [yv]))) I8 rfl (.cons r8 .nil) ⟨_, ys, yv, rfl, rfl, hp8, hz8, rfl⟩
        rw [aY, pY, wY, xY] at ap
        refine wpAny_mono ap (fun _ s9 ⟨_, H9, I9, _, e9⟩ => ?_) fun _ _ z => z.elim
        subst e9
        obtain ⟨t9, f9⟩ := back I9
        exact ⟨m', hm, i + 1, _, some x, _, I9.unpinned, t9, f9, w8⟩
  exact codeAny_compStart_list (loop _ rfl) (T.self X.A 0 _ _ _ st1 (loop _ rfl))
theorem VR (c : CompOk X scope t) (hc : X.calm = true) (hi : PI X (.Name t px) iter wi) (hI : ∀ s2 H2 fp, PTs (Gk X scope t s2 H2 fp) ifs tc) (hE : ∀ s2 H2 fp, PE (Gk X scope t s2 H2 fp) elt te)
  (hs : ∀ x, foldedSetIterable iter X.env x = pure x := by intro _; rfl) : PE X (.ListComp elt [⟨.Name t px, iter, ifs, 0⟩] scope pos) (XH wi tc te) := by
 intro pins s σ H Q I h
 rw [eval_ListComp]
 refine wpAny_comprehension_free (use := none) rfl hs (KN (c.cells I.ok)) c.kind c.names (thn (hi pins s σ H _ I h) fun v s1 h1 => thn h1 fun itv s2 h2 => ?_)
 obtain ⟨it, fp, tn, J, H2, e, I2, T, st2, f2, q⟩ := h2
 subst e
 refine Ny (Q := Q) c hc I2 T st2 f2 hI hE q fun p C s' H' m I' n1 n2 n3 n4 n5 hm q' => ?_
 exact ⟨m, hm, fun h' sb => ⟨.ref p, H', I'.turned (t' := s'.toks) (fun b o hb e => (sb.2 b hb).trans e) n1 (Ne.symm (Ne.symm n2)) (.inr n3) n4 n5, rfl, q'⟩⟩
end
end L2
namespace PV
open PySem PySem.Spec L2
open PyProof.Rows hiding St
structure Gx where
 K : PySem.W.Frag
 cl : Str → Option Addr
 xcl : Str → Option Addr := fun _ => none
 lent : Option Addr := none
theorem GQ {K : PySem.W.Frag} {H H' : Hp} {a : Addr} {xs : List V} (e : Same H H') (h : SqT K H a xs) : SqT K H' a xs := by
 rcases h with (h | ⟨o, h⟩) | h
 ·exact .inl (.inl (e _ _ h))
 ·exact .inl (.inr ⟨o, e _ _ h⟩)
 ·exact .inr h
theorem DQ {H : Hp} {p : Addr} (h : H p = none) (o : HO) : Same H (upd H p o) := fun b u q => by rw [BP (Bu q h)]; exact q
def FsV (fs : List (Str × V)) (gs : List (Str × D)) : Prop := fs.map (fun p => (p.1, some p.2)) = gs.map fun p => (p.1, flV p.2)
inductive Rep (G : Gx) (H : Hp) : V → D → Prop
 | non : Rep G H .non .non
 | bl (b : Bool) : Rep G H (.bl b) (.bl b)
 | int (i : Int) : Rep G H (.int i) (.int i)
 | str (x : Str) : Rep G H (.str x) (.str x)
 | tup {a : Addr} {xs : List V} {ds : List D} : SqT G.K H a xs → xs.length = ds.length → (∀ (i : Nat) x d, xs[i]? = some x → ds[i]? = some d → Rep G H x d) → Rep G H (.ref a) (.tup ds)
 | lst {a : Addr} {xs : List V} {ds : List D} : SqL G.K H a xs → xs.length = ds.length → (∀ (i : Nat) x d, xs[i]? = some x → ds[i]? = some d → Rep G H x d) → Rep G H (.ref a) (.lst ds)
 | dk {a : Addr} {o : Obj} {kvs : List (Key × V)} {kds : List (Key × D)} : H a = some (.frz o (.dK kvs)) → kvs.map (·.1) = kds.map (·.1) → (∀ (i : Nat) x d, (kvs.map (·.2))[i]? = some x → (kds.map (·.2))[i]? = some d → Rep G H x d) → Rep G H (.ref a) (.dk kds)
 | dt {a : Addr} {o : Obj} {kvs : List (List Key × V)} {kds : List (List Key × D)} : H a = some (.frz o (.dT kvs)) → kvs.map (·.1) = kds.map (·.1) → (∀ (i : Nat) x d, (kvs.map (·.2))[i]? = some x → (kds.map (·.2))[i]? = some d → Rep G H x d) → Rep G H (.ref a) (.dt kds)
 | adr (a : Addr) : Rep G H (.ref a) (.adr a)
 | ob {a C dx : Addr} {c : Str} {fs : List (Str × V)} {gs : List (Str × D)} : G.cl c = some C → H a = some (.ins C dx fs) → fs.map (·.1) = gs.map (·.1) → (∀ (i : Nat) x d, (fs.map (·.2))[i]? = some x → (gs.map (·.2))[i]? = some d → Rep G H x d) → Rep G H (.ref a) (.ob c gs)
 | err {a C dx : Addr} {tb : Option Addr} {c : Str} {fs : List (Str × V)} {gs : List (Str × D)} : G.xcl c = some C → H a = some (EX.excO a C (some dx) tb) → H dx = some (.xd fs) → FsV fs gs → Rep G H (.ref a) (.err c gs)
def RepL (G : Gx) (H : Hp) (xs : List V) (ds : List D) : Prop := xs.length = ds.length ∧ ∀ (i : Nat) x d, xs[i]? = some x → ds[i]? = some d → Rep G H x d
theorem Rep.mono {G : Gx} {H H' : Hp} {v : V} {d : D} (r : Rep G H v d) (s : Same H H') : Rep G H' v d := by
 induction r with
 | non => exact .non
 | bl b => exact .bl b
 | int i => exact .int i
 | str x => exact .str x
 | tup h l _ ih => exact .tup (GQ s h) l ih
 | lst h l _ ih => exact .lst (s.seq h) l ih
 | dk h l _ ih => exact .dk (s _ _ h) l ih
 | dt h l _ ih => exact .dt (s _ _ h) l ih
 | adr a => exact .adr a
 | ob c h l _ ih => exact .ob c (s _ _ h) l ih
 | err c h q f => exact .err c (s _ _ h) (s _ _ q) f
theorem RepL.mono {G : Gx} {H H' : Hp} {xs : List V} {ds : List D} (r : RepL G H xs ds) (s : Same H H') : RepL G H' xs ds := ⟨r.1, fun i x d a b => (r.2 i x d a b).mono s⟩
theorem RepL.nil {G : Gx} {H : Hp} : RepL G H [] [] := ⟨rfl, fun i x d h => by simp at h⟩
theorem RepL.cons {G : Gx} {H : Hp} {x : V} {d : D} {xs : List V} {ds : List D} (r : Rep G H x d) (rs : RepL G H xs ds) : RepL G H (x :: xs) (d :: ds) :=
 ⟨by simp [rs.1], fun i y e h1 h2 => by
  cases i with
  | zero => simp at h1 h2; subst h1; subst h2; exact r
  | succ i => simp at h1 h2; exact rs.2 i y e h1 h2⟩
theorem RepL.uncons {G : Gx} {H : Hp} {xs : List V} {d : D} {ds : List D} (r : RepL G H xs (d :: ds)) : ∃ x ys, xs = x :: ys ∧ Rep G H x d ∧ RepL G H ys ds := by
 obtain ⟨l, h⟩ := r
 cases xs with
 | nil => simp at l
 | cons x ys => exact ⟨x, ys, rfl, h 0 x d rfl rfl, by simpa using l, fun i y e h1 h2 => h (i + 1) y e (by simpa using h1) (by simpa using h2)⟩
theorem RepL.nil_inv {G : Gx} {H : Hp} {xs : List V} (r : RepL G H xs []) : xs = [] := by
 have := r.1
 cases xs with
 | nil => rfl
 | cons x ys => simp at this
theorem RepL.append {G : Gx} {H : Hp} {xs ys : List V} {ds es : List D} (a : RepL G H xs ds) (b : RepL G H ys es) : RepL G H (xs ++ ys) (ds ++ es) := by
 refine ⟨by rw [List.length_append, List.length_append, a.1, b.1], fun i x d h1 h2 => ?_⟩
 by_cases hi : i < xs.length
 ·rw [List.getElem?_append_left hi] at h1
  rw [List.getElem?_append_left (by rw [← a.1]; exact hi)] at h2
  exact a.2 i x d h1 h2
 ·rw [List.getElem?_append_right (Nat.not_lt.mp hi)] at h1
  rw [List.getElem?_append_right (by rw [← a.1]; exact Nat.not_lt.mp hi), ← a.1] at h2
  exact b.2 _ x d h1 h2
theorem RepL.drop {G : Gx} {H : Hp} {xs : List V} {ds : List D} (a : RepL G H xs ds) (n : Nat) : RepL G H (xs.drop n) (ds.drop n) :=
 ⟨by rw [List.length_drop, List.length_drop, a.1], fun i x d h1 h2 => by rw [List.getElem?_drop] at h1 h2; exact a.2 _ x d h1 h2⟩
theorem RepL.take {G : Gx} {H : Hp} {xs : List V} {ds : List D} (a : RepL G H xs ds) (n : Nat) : RepL G H (xs.take n) (ds.take n) :=
 ⟨by rw [List.length_take, List.length_take, a.1], fun i x d h1 h2 => by
  rw [List.getElem?_take] at h1 h2
  split at h1
  ·rename_i hlt
   rw [if_pos hlt] at h2
   exact a.2 _ x d h1 h2
  ·cases h1⟩
theorem RepL.get {G : Gx} {H : Hp} {xs : List V} {ds : List D} (a : RepL G H xs ds) {i : Nat} {d : D} (h : ds[i]? = some d) : ∃ x, xs[i]? = some x ∧ Rep G H x d := by
 have hi : i < ds.length := (List.getElem?_eq_some_iff.mp h).1
 have hi' : i < xs.length := by rw [a.1]; exact hi
 exact ⟨xs[i], by simp [hi'], a.2 i _ d (by simp [hi']) h⟩
theorem RepL.atI {G : Gx} {H : Hp} {xs : List V} {ds : List D} (a : RepL G H xs ds) {i : Int} {d : D} (h : L2.atI ds i = some d) : ∃ x, L2.atI xs i = some x ∧ Rep G H x d := by
 unfold L2.atI at h ⊢
 rw [← a.1] at h
 cases e : ixN xs.length i with
 | none => rw [e] at h; cases h
 | some j =>
  rw [e] at h
  obtain ⟨x, h1, h2⟩ := a.get (show ds[j]? = some d from h)
  exact ⟨x, h1, h2⟩
def hid (A : List Addr) (H : Hp) : Hp := fun b => if b ∈ A then none else H b
theorem CZ {A : List Addr} {H H' : Hp} (s : Same H H') : Same (hid A H) (hid A H') := fun b o h => by
 unfold hid at h ⊢
 split at h
 ·cases h
 ·rename_i hb; rw [if_neg hb]; exact s b o h
theorem CV {A : List Addr} {H : Hp} : Same (hid A H) H := fun b o h => by
 unfold hid at h
 split at h
 ·cases h
 ·exact h
theorem Df {A B : List Addr} {H : Hp} (h : ∀ a ∈ A, a ∈ B) : Same (hid B H) (hid A H) := fun b o q => by
 unfold hid at q ⊢
 split at q
 ·cases q
 ·rename_i hb; rw [if_neg (fun z => hb (h b z))]; exact q
theorem Cu {A : List Addr} {H : Hp} {p : Addr} (h : p ∉ A) : hid A H p = H p := by unfold hid; rw [if_neg h]
theorem Hl {A : List Addr} {H : Hp} {p : Addr} {o : HO} (h : p ∈ A) : hid A (upd H p o) = hid A H := by
 funext b
 unfold hid
 by_cases hb : b ∈ A
 ·rw [if_pos hb, if_pos hb]
 ·rw [if_neg hb, if_neg hb, BP (fun e : b = p => hb (by rw [e]; exact h))]
def Top (G : Gx) (A : List Addr) (H : Hp) (a : Addr) : D → Prop
 | .lst ds => ∃ xs, H a = some (.lst xs) ∧ RepL G (hid A H) xs ds
 | .dk kds => ∃ kvs, H a = some (.dK kvs) ∧ kvs.map (·.1) = kds.map (·.1) ∧ RepL G (hid A H) (kvs.map (·.2)) (kds.map (·.2))
 | .dt kds => ∃ kvs, H a = some (.dT kvs) ∧ kvs.map (·.1) = kds.map (·.1) ∧ RepL G (hid A H) (kvs.map (·.2)) (kds.map (·.2))
 | .ob c gs => ∃ C dx fs, H a = some (.ins C dx fs) ∧ (G.cl c = some C ∧ fs.map (·.1) = gs.map (·.1)) ∧ RepL G (hid A H) (fs.map (·.2)) (gs.map (·.2))
 | _ => False
theorem Top.mono {G : Gx} {A : List Addr} {H H' : Hp} {a : Addr} {d : D} (t : Top G A H a d) (s : Same H H') : Top G A H' a d := by
 cases d with
 | lst ds => obtain ⟨xs, h, r⟩ := t; exact ⟨xs, s _ _ h, r.mono (CZ s)⟩
 | dk ds => obtain ⟨xs, h, k, r⟩ := t; exact ⟨xs, s _ _ h, k, r.mono (CZ s)⟩
 | dt ds => obtain ⟨xs, h, k, r⟩ := t; exact ⟨xs, s _ _ h, k, r.mono (CZ s)⟩
 | ob c gs => obtain ⟨C, dx, xs, h, k, r⟩ := t; exact ⟨C, dx, xs, s _ _ h, k, r.mono (CZ s)⟩
 | _ => exact t.elim
structure Nt (x : Option HO) : Prop where
 ne : x ≠ none
 tup : ∀ xs, x ≠ some (.tup xs)
theorem Nt.mono {x y : Option HO} (h : Nt x) (k : ∀ u, x = some u → y = some u) : Nt y := by
 cases x with
 | none => exact absurd rfl h.ne
 | some u => rw [k u rfl]; exact h
theorem Nt.lst {xs : List V} : Nt (some (.lst xs)) := ⟨fun z => (nomatch z), fun _ z => (nomatch z)⟩
theorem Nt.dK {xs : List (Key × V)} : Nt (some (.dK xs)) := ⟨fun z => (nomatch z), fun _ z => (nomatch z)⟩
theorem Nt.dT {xs : List (List Key × V)} : Nt (some (.dT xs)) := ⟨fun z => (nomatch z), fun _ z => (nomatch z)⟩
theorem Nt.ins {C dx : Addr} {xs : List (Str × V)} : Nt (some (.ins C dx xs)) := ⟨fun z => (nomatch z), fun _ z => (nomatch z)⟩
structure Okp (G : Gx) (A : List Addr) (σ : St) (H : Hp) (ρ : Rho) : Prop where
 len : σ.length = ρ.length
 live : ∀ a ∈ A, Nt (H a)
 fz : ∀ (i : Nat) (d : D), ρ[i]? = some (.fz d) → ∃ v, σ[i]? = some (some v) ∧ Rep G (hid A H) v d
 ow : ∀ (i : Nat) (d : D), ρ[i]? = some (.ow d) → ∃ a, σ[i]? = some (some (.ref a)) ∧ a ∈ A ∧ Top G A H a d
 inj : ∀ (i j : Nat) (d e : D) (a : Addr), ρ[i]? = some (.ow d) → ρ[j]? = some (.ow e) → σ[i]? = some (some (.ref a)) → σ[j]? = some (some (.ref a)) → i = j
theorem Okp.mono {G : Gx} {A : List Addr} {σ : St} {H H' : Hp} {ρ : Rho} (o : Okp G A σ H ρ) (s : Same H H') : Okp G A σ H' ρ :=
 ⟨o.len, fun a ha => (o.live a ha).mono fun u e => s _ _ e,
  fun i d h => let ⟨v, h1, h2⟩ := o.fz i d h; ⟨v, h1, h2.mono (CZ s)⟩, fun i d h => let ⟨a, h1, h2, h3⟩ := o.ow i d h; ⟨a, h1, h2, h3.mono s⟩, o.inj⟩
def RepT (G : Gx) (A : List Addr) (H : Hp) (v : V) (d : D) : Prop := Rep G (hid A H) v d ∨ ∃ a, v = .ref a ∧ Top G A H a d
theorem RepT.mono {G : Gx} {A : List Addr} {H H' : Hp} {v : V} {d : D} (r : RepT G A H v d) (s : Same H H') : RepT G A H' v d := by
 rcases r with r | ⟨a, e, r⟩
 ·exact .inl (r.mono (CZ s))
 ·exact .inr ⟨a, e, r.mono s⟩
theorem RepT.lst {G : Gx} {A : List Addr} {H : Hp} {v : V} {ds : List D} (r : RepT G A H v (.lst ds)) : ∃ a xs, v = .ref a ∧ SqL G.K H a xs ∧ RepL G (hid A H) xs ds := by
 rcases r with r | ⟨a, e, xs, h, r⟩
 ·cases r with
  | lst h l r => exact ⟨_, _, rfl, CV.seq h, l, r⟩
 ·exact ⟨a, xs, e, .of h, r⟩
theorem RepT.tup {G : Gx} {A : List Addr} {H : Hp} {v : V} {ds : List D} (r : RepT G A H v (.tup ds)) : ∃ a xs, v = .ref a ∧ SqT G.K H a xs ∧ RepL G (hid A H) xs ds := by
 rcases r with r | ⟨a, e, r⟩
 ·cases r with
  | tup h l r => exact ⟨_, _, rfl, GQ CV h, l, r⟩
 ·exact r.elim
theorem RepT.int {G : Gx} {A : List Addr} {H : Hp} {v : V} {i : Int} (r : RepT G A H v (.int i)) : v = .int i := by
 rcases r with r | ⟨a, e, r⟩
 ·cases r; rfl
 ·exact r.elim
theorem RepT.str {G : Gx} {A : List Addr} {H : Hp} {v : V} {i : Str} (r : RepT G A H v (.str i)) : v = .str i := by
 rcases r with r | ⟨a, e, r⟩
 ·cases r; rfl
 ·exact r.elim
theorem RepT.bl {G : Gx} {A : List Addr} {H : Hp} {v : V} {i : Bool} (r : RepT G A H v (.bl i)) : v = .bl i := by
 rcases r with r | ⟨a, e, r⟩
 ·cases r; rfl
 ·exact r.elim
theorem RepT.non {G : Gx} {A : List Addr} {H : Hp} {v : V} (r : RepT G A H v .non) : v = .non := by
 rcases r with r | ⟨a, e, r⟩
 ·cases r; rfl
 ·exact r.elim
theorem RepT.dk {G : Gx} {A : List Addr} {H : Hp} {v : V} {kds : List (Key × D)} (r : RepT G A H v (.dk kds)) : ∃ a kvs, v = .ref a ∧ Rd H a (.dK kvs) ∧ kvs.map (·.1) = kds.map (·.1) ∧ RepL G (hid A H) (kvs.map (·.2)) (kds.map (·.2)) := by
 rcases r with r | ⟨a, e, kvs, h, k, r⟩
 ·cases r with
  | dk h k r =>
   refine ⟨_, _, rfl, .inr ⟨_, CV _ _ h⟩, k, ?_, r⟩
   have := congrArg List.length k
   rw [List.length_map, List.length_map] at this ⊢
   exact this
 ·exact ⟨a, kvs, e, .of h, k, r⟩
theorem Ko {A : List Addr} {H : Hp} {p : Addr} (live : ∀ a ∈ A, Nt (H a)) (hp : H p = none) (o : HO) : hid A (upd H p o) p = some o := by
 rw [Cu (fun z => (live p z).ne hp), B_]
theorem G3 {G : Gx} {A : List Addr} {H : Hp} {p : Addr} {xs : List V} {ds : List D} (live : ∀ a ∈ A, Nt (H a)) (hp : H p = none) (r : RepL G (hid A H) xs ds) : Rep G (hid A (upd H p (.lst xs))) (.ref p) (.lst ds) :=
 let q := r.mono (CZ (DQ hp (.lst xs))); .lst (.of (Ko live hp _)) q.1 q.2
theorem G4 {G : Gx} {A : List Addr} {H : Hp} {p : Addr} {xs : List V} {ds : List D} (live : ∀ a ∈ A, Nt (H a)) (hp : H p = none) (r : RepL G (hid A H) xs ds) : Rep G (hid A (upd H p (.tup xs))) (.ref p) (.tup ds) :=
 let q := r.mono (CZ (DQ hp (.tup xs))); .tup (.of (Ko live hp _)) q.1 q.2
def tF (G : Gx) (A : List Addr) (f : FE) : TE := fun σ H Q => ∃ ρ d, Okp G A σ H ρ ∧ f ρ = some d ∧ ∀ v H', Same H H' → Rep G (hid A H') v d → Q v H'
def tT (G : Gx) (A : List Addr) (f : FE) : TE := fun σ H Q => ∃ ρ d, Okp G A σ H ρ ∧ f ρ = some d ∧ ∀ v H', Same H H' → RepT G A H' v d → Q v H'
def PF (X : Cx) (G : Gx) (e : Expr) (f : FE) : Prop := ∀ ⦃A⦄, PE X e (tF G A f)
def PU (X : Cx) (G : Gx) (e : Expr) (f : FE) : Prop := ∀ ⦃A⦄, PE X e (tT G A f)
theorem Dj {X : Cx} {e : Expr} {t t' : TE} (h : PE X e t) (w : ∀ σ H Q, t' σ H Q → t σ H Q) : PE X e t' := fun pins s σ H Q I q => h pins s σ H Q I (w σ H Q q)
theorem PF.pu {X : Cx} {G : Gx} {e : Expr} {f : FE} (h : PF X G e f) : PU X G e f := fun A => Dj (@h A) fun σ H Q ⟨ρ, d, o, e, k⟩ => ⟨ρ, d, o, e, fun v H' s r => k v H' s (.inl r)⟩
def tFA (G : Gx) (A : List Addr) (f : FA) : TA := fun σ H Q => ∃ ρ ds, Okp G A σ H ρ ∧ f ρ = some ds ∧ ∀ vs H', Same H H' → RepL G (hid A H') vs ds → Q vs H'
def PFA (X : Cx) (G : Gx) (es : List Expr) (f : FA) : Prop := ∀ ⦃A⦄, PA X es (tFA G A f)
theorem XJ {X : Cx} {e : List Expr} {t t' : TA} (h : PA X e t) (w : ∀ σ H Q, t' σ H Q → t σ H Q) : PA X e t' := fun pos pins s σ H Q I q => h pos pins s σ H Q I (w σ H Q q)
def tFT (G : Gx) (A : List Addr) (f : FT) : TT := fun σ H Q => ∃ ρ b, Okp G A σ H ρ ∧ f ρ = some b ∧ ∀ H', Same H H' → Q b H'
def PFT (X : Cx) (G : Gx) (e : Expr) (f : FT) : Prop := ∀ ⦃A⦄, PT X e (tFT G A f)
def PFW (X : Cx) (G : Gx) (e : Expr) (f : FT) : Prop := ∀ ⦃A⦄, PW X e (tFT G A f)
theorem Pq {X : Cx} {e : Expr} {t t' : TT} (h : PT X e t) (w : ∀ σ H Q, t' σ H Q → t σ H Q) : PT X e t' := fun pins s σ H Q I q => h pins s σ H Q I (w σ H Q q)
theorem Zo {X : Cx} {e : Expr} {t t' : TT} (h : PW X e t) (w : ∀ σ H Q, t' σ H Q → t σ H Q) : PW X e t' := fun wh pins s σ H Q I q => h wh pins s σ H Q I (w σ H Q q)
end PV
namespace PV
open PySem PySem.Spec L2
open PyProof.Rows hiding St
section
variable {X : Cx} {G : Gx} {a b c : Expr} {fa fb fc : FE} {pos : Pos}
theorem YS (i : Nat) {x : Str} (h : PE X (.Name x pos) (tVar i)) : PF X G (.Name x pos) (vF i) := fun A => Dj h fun σ H Q ⟨ρ, d, o, e, k⟩ => by
 unfold vF at e
 split at e
 ·rename_i d' h'
  cases e
  obtain ⟨v, h1, h2⟩ := o.fz i _ h'
  exact ⟨v, h1, k v H (Same.refl H) h2⟩
 ·cases e
theorem YT (i : Nat) {x : Str} (h : PE X (.Name x pos) (tVar i)) : PU X G (.Name x pos) (vU i) := fun A => Dj h fun σ H Q ⟨ρ, d, o, e, k⟩ => by
 unfold vU at e
 split at e
 ·rename_i d' h'
  cases e
  obtain ⟨v, h1, h2⟩ := o.fz i _ h'
  exact ⟨v, h1, k v H (Same.refl H) (.inl h2)⟩
 ·rename_i d' h'
  cases e
  obtain ⟨p, h1, _, h2⟩ := o.ow i _ h'
  exact ⟨.ref p, h1, k _ H (Same.refl H) (.inr ⟨p, rfl, h2⟩)⟩
 ·cases e
theorem Dp {v : V} {d : D} (h : PE X a (tC v)) (r : Rep G (fun _ => none) v d) : PF X G a (kF d) := fun A => Dj h fun σ H Q ⟨ρ, d', o, e, k⟩ => by
 cases e
 exact k v H (Same.refl H) (r.mono fun b o z => nomatch z)
theorem K8 {i j} : PF X G (.Constant (.int i) j pos) (kF (.int i)) := Dp Xr (.int i)
theorem Zq {b j} : PF X G (.Constant (.bool b) j pos) (kF (.bl b)) := Dp ZP (.bl b)
theorem Sw {j} : PF X G (.Constant .none j pos) (kF .non) := Dp Xu .non
theorem Hm {x j} : PF X G (.Constant (.str x) j pos) (kF (.str x)) := Dp Xv (.str x)
def Ey (G : Gx) (r : R2) (g : D → D → Option D) : Prop := ∀ (A : List Addr) (H : Hp) (x y : V) (dx dy d : D) (Q : VK), (∀ a ∈ A, Nt (H a)) → RepT G A H x dx → RepT G A H y dy → g dx dy = some d → (∀ v H', Same H H' → Rep G (hid A H') v d → Q v H') → r x y H Q
theorem Pr {g : D → D → Option D} {ρ : Rho} {d : D} (h : bF g fa fb ρ = some d) : ∃ x y, fa ρ = some x ∧ fb ρ = some y ∧ g x y = some d := by
 unfold bF at h
 cases e1 : fa ρ with
 | none => rw [e1] at h; cases h
 | some x =>
  rw [e1] at h
  cases e2 : fb ρ with
  | none => simp [e2] at h
  | some y => simp [e2] at h; exact ⟨x, y, rfl, rfl, h⟩
theorem K9 {r : R2} {g : D → D → Option D} (s : Ey G r g) {A : List Addr} {σ : St} {H : Hp} {Q : VK} (h : tF G A (bF g fa fb) σ H Q) : tOp r (tT G A fa) (tT G A fb) σ H Q := by
 obtain ⟨ρ, d, o, e, k⟩ := h
 obtain ⟨x, y, e1, e2, e3⟩ := Pr e
 exact ⟨ρ, x, o, e1, fun v H1 s1 r1 => ⟨ρ, y, o.mono s1, e2, fun u H2 s2 r2 => s A H2 v u x y d Q ((o.mono s1).mono s2).live (r1.mono s2) r2 e3 fun w H3 s3 r3 => k w H3 (s1.trans (s2.trans s3)) r3⟩⟩
theorem K_ {op : Operator} {r : R2} {g : D → D → Option D} (ho : OpR X (binaryOp op) r) (s : Ey G r g) (ha : PU X G a fa) (hb : PU X G b fb) : PF X G (.BinOp a op b pos) (bF g fa fb) :=
 fun A => Dj (ZX ho (@ha A) (@hb A)) fun _ _ _ h => K9 s h
theorem LC {op : CmpOp} {r : R2} {g : D → D → Option D} (ho : OpR X (compareOp op) r) (s : Ey G r g) (ha : PU X G a fa) (hb : PU X G b fb) (hm : behindInMarks op b = false) : PF X G (.Compare a [op] [b] pos) (bF g fa fb) :=
 fun A => Dj (Ux ho (@ha A) (@hb A) hm) fun _ _ _ h => K9 s h
theorem Ms {f : FE} {ρ : Rho} {b : Bool} (h : blF f ρ = some b) : f ρ = some (.bl b) := by
 unfold blF at h
 split at h
 ·rename_i e; cases h; exact e
 ·cases h
theorem Fb {op : CmpOp} {r : R2} {g : D → D → Option D} (ho : OpR X (compareOp op) r) (s : Ey G r g) (ha : PU X G a fa) (hb : PU X G b fb) (hm : behindInMarks op b = false) : PFT X G (.Compare a [op] [b] pos) (blF (bF g fa fb)) :=
 fun A => Pq (Uy ho (@ha A) (@hb A) hm) fun σ H Q ⟨ρ, d, o, e, k⟩ => K9 s ⟨ρ, .bl d, o, Ms e, fun v H' s' r' => by cases r'; exact ⟨d, rfl, k H' s'⟩⟩
theorem Mt {g : Int → Int → Option D} {x y d : D} (h : iiD g x y = some d) : ∃ i j, x = .int i ∧ y = .int j ∧ g i j = some d := by
 unfold iiD at h
 split at h
 ·exact ⟨_, _, rfl, rfl, h⟩
 ·cases h
theorem Nz {g : Int → Int → V} {g' : Int → Int → D} (e : ∀ i j H, Rep G H (g i j) (g' i j)) : Ey G (rI0 g) (iiD fun i j => some (g' i j)) := by
 intro A H x y dx dy d Q lv rx ry h k
 obtain ⟨i, j, rfl, rfl, h⟩ := Mt h
 cases h
 exact ⟨i, j, rx.int, ry.int, k _ H (Same.refl H) (e i j _)⟩
theorem Sy {C : Int → Int → Prop} {g : Int → Int → V} {g' : Int → Int → D} [∀ i j, Decidable (C i j)] (e : ∀ i j H, Rep G H (g i j) (g' i j)) : Ey G (rI C g) (iiD fun i j => if C i j then some (g' i j) else none) := by
 intro A H x y dx dy d Q lv rx ry h k
 obtain ⟨i, j, rfl, rfl, h'⟩ := Mt h
 by_cases hc : C i j
 ·rw [if_pos hc] at h'
  cases h'
  exact ⟨i, j, rx.int, ry.int, hc, k _ H (Same.refl H) (e i j _)⟩
 ·rw [if_neg hc] at h'; cases h'
theorem VV : Ey G (rI0 fun i j => .int (i - j)) subD := Nz fun i j H => .int _
theorem O1.ok {i j : Int} (h : O1 i j) : IntMulOk i j := by
 rcases h with h | h
 ·exact h.ok
 ·exact IntMulOk.of_le h.1 h.2 (by decide)
theorem S5 : Ey G (rI CDiv fun i j => .int (i / j)) I_ := Sy fun i j H => .int _
theorem Va : Ey G (rI (fun _ j => 0 < j) fun i j => .int (i % j)) modD := Sy (C := fun _ j => 0 < j) fun i j H => .int _
theorem S6 : Ey G (rI0 fun i j => .bl (decide (i < j))) ltD := Nz fun i j H => .bl _
theorem YW : Ey G (rI0 fun i j => .bl (decide (j < i))) gtD := Nz fun i j H => .bl _
def XM (K : PySem.W.Frag) : R2 := fun x y H Q => ∃ l b xs zs, x = .ref l ∧ y = .ref b ∧ SqL K H l xs ∧ SqL K H b zs ∧ xs.length + zs.length ≤ sizeLine ∧ ∀ p, H p = none → Q (.ref p) (upd H p (.lst (xs ++ zs)))
theorem Vb : OpR X (binaryOp .Add) (XM X.K) := by
 intro pins s σ H x y v u Q I rx ry h
 obtain ⟨l, b, xs, zs, rfl, rfl, hl, hb, hz, q⟩ := h
 cases rx
 cases ry
 obtain ⟨its, r, pl, z⟩ := I.list hl
 obtain ⟨its2, r2, pl2, z2⟩ := I.list hb
 have e1 := r.length
 have e2 := r2.length
 obtain ⟨⟨cls, dd, data, sl⟩, ho, hc, n, hd⟩ := pl.isList
 obtain ⟨⟨cls2, dd2, data2, sl2⟩, ho2, hc2, n2, hd2⟩ := pl2.isList
 simp only at hc hd hc2 hd2
 subst hc hd hc2 hd2
 refine concat_meets ⟨_, ho, rfl⟩ ⟨_, ho2, rfl⟩ noFill_list_add seq_list_add PySem.F.slot_list_add PySem.F.entry_list_add (PySem.F.args_list_add_2 _ _) (list_addW l b its.toArray its2.toArray n n2 dd dd2 sl sl2 (by rw [List.size_toArray, List.size_toArray]; omega)) ⟨ho, ho2, ?_⟩
 have ea : its.toArray ++ its2.toArray = (its ++ its2).toArray := by simp
 rw [ea]
 exact ⟨.ref _, _, I.lnew (t' := s.toks) (r.append r2) (by rw [List.length_append]; omega), rfl, q _ I.fresh⟩
def rAdd (K : PySem.W.Frag) : R2 := fun x y H Q => (rI0 fun i j => .int (i + j)) x y H Q ∨ ((fun x y H Q => ∃ i j, x = .str i ∧ y = .str j ∧ i.length + j.length ≤ sizeLine ∧ Q (.str (i ++ j)) H) x y H Q ∨ XM K x y H Q)
theorem Vc : OpR X (binaryOp .Add) (rAdd X.K) := X7.or (Nh.or Vb)
theorem Vd : Ey G (rAdd G.K) addD := by
 intro A H x y dx dy d Q lv rx ry h k
 unfold addD at h
 split at h
 ·cases h; exact .inl ⟨_, _, rx.int, ry.int, k _ H (Same.refl H) (.int _)⟩
 ·split at h
  ·rename_i hz; cases h; exact .inr (.inl ⟨_, _, rx.str, ry.str, hz, k _ H (Same.refl H) (.str _)⟩)
  ·cases h
 ·split at h
  ·rename_i hz
   cases h
   obtain ⟨l, xs, rfl, h1, r1⟩ := rx.lst
   obtain ⟨m, zs, rfl, h2, r2⟩ := ry.lst
   exact .inr (.inr ⟨l, m, xs, zs, rfl, rfl, h1, h2, by rw [r1.1, r2.1]; exact hz, fun p hp => k _ _ (DQ hp _) (G3 lv hp (r1.append r2))⟩)
  ·cases h
 ·cases h
theorem N5 {op : BoolOp} (h : PF X G a fa) : PF X G (.BoolOp op [a] pos) fa := fun A => X3 (@h A)
theorem LK {rest : List Expr} (ha : PF X G a fa) (hb : PF X G (.BoolOp .And (b :: rest) pos) fb) : PF X G (.BoolOp .And (a :: b :: rest) pos) (andF fa fb) := fun A => Dj (X4 (@ha A) (@hb A)) fun σ H Q ⟨ρ, d, o, e, k⟩ => by
 unfold andF at e
 split at e
 ·rename_i e1
  refine ⟨ρ, _, o, e1, fun v H1 s1 r1 => ?_⟩
  cases r1
  refine ⟨true, rfl, ?_⟩
  rw [if_pos rfl]
  exact ⟨ρ, d, o.mono s1, e, fun v H2 s2 r2 => k v H2 (s1.trans s2) r2⟩
 ·rename_i e1
  refine ⟨ρ, _, o, e1, fun v H1 s1 r1 => ?_⟩
  cases r1
  refine ⟨false, rfl, ?_⟩
  rw [if_neg Bool.false_ne_true]
  cases e
  exact k _ H1 s1 (.bl false)
 ·cases e
variable {ga gb : FT}
theorem PFW.pt (h : PFW X G a ga) : PFT X G a ga := fun A => (@h A).pt
theorem Kp (h : PFT X G a ga) : PFW X G (.BoolOp .Or [a] pos) ga := fun A => Xy (@h A)
theorem N7 {rest : List Expr} (ha : PFT X G a ga) (hb : PFW X G (.BoolOp .Or (b :: rest) pos) gb) : PFW X G (.BoolOp .Or (a :: b :: rest) pos) (orT ga gb) := fun A => Zo (ZR (@ha A) (@hb A)) fun σ H Q ⟨ρ, d, o, e, k⟩ => by
 unfold orT at e
 split at e
 ·rename_i e1
  cases e
  exact ⟨ρ, _, o, e1, fun H1 s1 => iteT (k H1 s1)⟩
 ·rename_i e1
  exact ⟨ρ, _, o, e1, fun H1 s1 => iteF ⟨ρ, d, o.mono s1, e, fun H2 s2 => k H2 (s1.trans s2)⟩⟩
 ·cases e
theorem LQ (ha : PFT X G a ga) : PFT X G (.UnaryOp .Not a pos) (notT ga) := fun A => Pq (Xz (@ha A)) fun σ H Q ⟨ρ, d, o, e, k⟩ => by
 unfold notT at e
 cases e1 : ga ρ with
 | none => rw [e1] at e; cases e
 | some b => rw [e1] at e; cases e; exact ⟨ρ, b, o, e1, fun H1 s1 => k H1 s1⟩
theorem JD {α β : Type} {xs : List α} {ys : List β} (h : xs.length = ys.length) : xs.isEmpty = ys.isEmpty := by
 cases xs <;> cases ys <;> simp at h ⊢
theorem FP (ha : PU X G a fa) (hG : G.K = X.K) (he : ∀ whole, isTrue a X.env whole = (do let v ← whole; standAt a.pos; holding [v] (truthy v)) := by intro _; rfl) : PFT X G a (fun ρ => (fa ρ).bind truD) := fun A => Pq (Q6 (@ha A) he) fun σ H Q ⟨ρ, b, o, e, k⟩ => by
 cases e1 : fa ρ with
 | none => simp [e1] at e
 | some d =>
  have e' : truD d = some b := by simpa [e1] using e
  refine ⟨ρ, d, o, e1, fun v H1 s1 r1 => ⟨b, ?_, k H1 s1⟩⟩
  rw [← hG]
  cases d with
  | non => rw [r1.non]; exact (Option.some.inj e').symm
  | bl b' => rw [r1.bl]; exact (Option.some.inj e').symm
  | int i => rw [r1.int]; exact (Option.some.inj e').symm
  | str y =>
   rw [r1.str]
   simp only [truD] at e'
   split at e'
   ·rename_i hz; exact ⟨hz, (Option.some.inj e').symm⟩
   ·cases e'
  | lst ds =>
   obtain ⟨p, xs, rfl, h1, h2⟩ := r1.lst
   refine .inl ⟨xs, h1, ?_⟩
   rw [JD h2.1]
   exact (Option.some.inj e').symm
  | tup ds =>
   obtain ⟨p, xs, rfl, h1, h2⟩ := r1.tup
   refine .inr (.inl ⟨xs, h1, ?_⟩)
   rw [JD h2.1]
   exact (Option.some.inj e').symm
  | _ => cases e'
theorem S7 (ht : PFT X G c ga) (ha : PF X G a fa) (hb : PF X G b fb) : PF X G (.IfExp c a b pos) (ifF ga fa fb) := fun A => Dj (Qz (@ht A) (@ha A) (@hb A)) fun σ H Q ⟨ρ, d, o, e, k⟩ => by
 unfold ifF at e
 split at e
 ·rename_i e1
  exact ⟨ρ, _, o, e1, fun H1 s1 => iteT ⟨ρ, d, o.mono s1, e, fun v H2 s2 r2 => k v H2 (s1.trans s2) r2⟩⟩
 ·rename_i e1
  exact ⟨ρ, _, o, e1, fun H1 s1 => iteF ⟨ρ, d, o.mono s1, e, fun v H2 s2 r2 => k v H2 (s1.trans s2) r2⟩⟩
 ·cases e
variable {es : List Expr} {fs : FA}
theorem BL : PFA X G [] nilA := fun A => XJ Hh fun σ H Q ⟨ρ, ds, o, e, k⟩ => by cases e; exact k [] H (Same.refl H) RepL.nil
theorem Bk (ha : PF X G a fa) (hr : PFA X G es fs) (hs : starEach (a :: es) X.env = (false, eval a X.env) :: starEach es X.env := by rfl) : PFA X G (a :: es) (BR fa fs) := fun A => XJ (Dw (@ha A) (@hr A) hs) fun σ H Q ⟨ρ, ds, o, e, k⟩ => by
 unfold BR at e
 cases e1 : fa ρ with
 | none => simp [e1] at e
 | some d =>
  cases e2 : fs ρ with
  | none => simp [e1, e2] at e
  | some ds' =>
   simp [e1, e2] at e
   subst e
   exact ⟨ρ, d, o, e1, fun v H1 s1 r1 => ⟨ρ, ds', o.mono s1, e2, fun vs H2 s2 r2 => k _ H2 (s1.trans s2) (.cons (r1.mono (CZ s2)) r2)⟩⟩
theorem N8 {x1} (h : PFA X G es fs) : PF X G (.Tuple es x1 pos) (tupF fs) := fun A => Dj (Q_ (@h A)) fun σ H Q ⟨ρ, d, o, e, k⟩ => by
 unfold tupF at e
 cases e1 : fs ρ with
 | none => simp [e1] at e
 | some ds =>
  rw [e1] at e
  have e' : (if ds.length ≤ sizeLine then some (D.tup ds) else none) = some d := e
  split at e'
  ·rename_i hz
   cases e'
   exact ⟨ρ, ds, o, e1, fun vs H1 s1 r1 => ⟨by rw [r1.1]; exact hz, fun p hp => k _ _ (s1.trans (DQ hp _)) (G4 (o.mono s1).live hp r1)⟩⟩
  ·cases e'
theorem N_ (h : PFA X G es fs) : PF X G (.List es pos) (lstF fs) := fun A => Dj (YF (@h A)) fun σ H Q ⟨ρ, d, o, e, k⟩ => by
 unfold lstF at e
 cases e1 : fs ρ with
 | none => simp [e1] at e
 | some ds =>
  rw [e1] at e
  have e' : (if ds.length ≤ sizeLine then some (D.lst ds) else none) = some d := e
  split at e'
  ·rename_i hz
   cases e'
   exact ⟨ρ, ds, o, e1, fun vs H1 s1 r1 => ⟨by rw [r1.1]; exact hz, fun p hp => k _ _ (s1.trans (DQ hp _)) (G3 (o.mono s1).live hp r1)⟩⟩
  ·cases e'
theorem YX : Ey G (rIx G.K) ixD := by
 intro A H x y dx dy d Q lv rx ry h k
 unfold ixD at h
 split at h
 ·obtain ⟨p, xs, rfl, h1, r1⟩ := rx.lst
  obtain ⟨v, h2, r2⟩ := r1.atI h
  exact .inl ⟨p, xs, _, v, rfl, ry.int, h1, h2, k v H (Same.refl H) r2⟩
 ·obtain ⟨p, xs, rfl, h1, r1⟩ := rx.tup
  obtain ⟨v, h2, r2⟩ := r1.atI h
  exact .inr (.inl ⟨p, xs, _, v, rfl, ry.int, h1, h2, k v H (Same.refl H) r2⟩)
 ·split at h
  ·rename_i z i hz
   cases e : atI z.cps.toList i with
   | none => rw [e] at h; cases h
   | some c =>
    rw [e] at h
    cases h
    exact .inr (.inr ⟨z, i, c, rx.str, ry.int, hz, e, k _ H (Same.refl H) (.str _)⟩)
  ·cases h
 ·cases h
theorem Zr (hG : G.K = X.K) (ha : PU X G a fa) (hb : PU X G b fb) (hs : K4 b) : PF X G (.Subscript a b pos) (bF ixD fa fb) :=
 fun A => Dj (Zg (r := rIx X.K) YL (@ha A) (@hb A) hs) fun _ _ _ h => K9 (by rw [← hG]; exact YX) h
def tFO (G : Gx) (A : List Addr) (f : FO) : TO := fun σ H Q => ∃ ρ o, Okp G A σ H ρ ∧ f ρ = some o ∧ ∀ H', Same H H' → Q o H'
def PFO (X : Cx) (G : Gx) (e : Option Expr) (f : FO) : Prop := ∀ ⦃A⦄, PO X e (tFO G A f)
theorem XN {e : Option Expr} {t t' : TO} (h : PO X e t) (w : ∀ σ H Q, t' σ H Q → t σ H Q) : PO X e t' := fun pins s σ H Q I q => h pins s σ H Q I (w σ H Q q)
theorem Mu : PFO X G none noO := fun A => XN U7 fun σ H Q ⟨ρ, o, ok, e, k⟩ => by cases e; exact k H (Same.refl H)
theorem Dk (h : PU X G a fa) : PFO X G (some a) (someO fa) := fun A => XN (U8 (@h A)) fun σ H Q ⟨ρ, o, ok, e, k⟩ => by
 unfold someO at e
 split at e
 ·rename_i i e1
  cases e
  exact ⟨ρ, _, ok, e1, fun v H1 s1 r1 => ⟨i, r1.int, k H1 s1⟩⟩
 ·cases e
theorem RepL.cut {H : Hp} {xs : List V} {ds : List D} (r : RepL G H xs ds) (lo hi : Option Int) : RepL G H (cutV xs lo hi) (cutD ds lo hi) := by
 unfold cutV cutD
 rw [r.1]
 exact (r.drop _).take _
end
end PV
namespace PV
open PySem PySem.Spec L2
open PyProof.Rows hiding St
section
variable {X : Cx} {G : Gx} {a b c : Expr} {fa fb fc : FE} {pos p2 : Pos}
section
open Builtin.Str
theorem Mv (n : Nat) (v : Option Int) (d : Nat) (hd : d ≤ n) : (match v with | none => (d : Int) | some i => max 0 (min (if i < 0 then i + (n : Int) else i) (n : Int))) = (HT.sIx n d v : Int) := by
 cases v with
 | none => rfl
 | some i =>
  simp only [HT.sIx]
  split <;> omega
theorem Ve (n d : Nat) (v : Option Int) (hd : d ≤ n) : HT.sIx n d v ≤ n := by
 cases v with
 | none => exact hd
 | some i => simp only [HT.sIx]; split <;> omega
theorem OD (lo hi : Option Int) (n : Nat) : strSliceIndices lo hi 1 n = (List.range (HT.sIx n n hi - HT.sIx n 0 lo)).map (fun k => HT.sIx n 0 lo + k) := by
 have h1 := Mv n lo 0 (Nat.zero_le _)
 have h2 := Mv n hi n (Nat.le_refl _)
 have hp : ((1 : Int) > 0) := by decide
 have e : strSliceIndices lo hi 1 n = sliceRange (HT.sIx n 0 lo : Int) (HT.sIx n n hi : Int) 1 := by
  unfold strSliceIndices
  simp only [hp, if_true]
  exact congrFun (congr (congrArg sliceRange h1) h2) 1
 rw [e]
 unfold sliceRange
 simp only [hp, if_true]
 generalize HT.sIx n 0 lo = a
 generalize HT.sIx n n hi = b
 have hc : (if (a : Int) < (b : Int) then ((b : Int) - a + 1 - 1) / 1 else 0).toNat = b - a := by
  split
  ·rw [Int.ediv_one]; omega
  ·omega
 rw [hc]
 apply List.map_congr_left
 intro k _
 omega
theorem Qi (x : Str) (lo hi : Option Int) : Txt.slice x lo hi = cutS x lo hi := by
 have hb := Ve x.length x.length hi (Nat.le_refl _)
 have hn : x.cps.toList.length = x.length := by simp [Str.length]
 unfold Txt.slice cutS cutD
 rw [OD, hn]
 generalize HT.sIx x.length 0 lo = a at *
 generalize HT.sIx x.length x.length hi = b at *
 rw [List.length_map, List.length_range]
 split
 ·rename_i h
  simp only [Bool.and_eq_true, beq_iff_eq] at h
  have hab : b - a = x.length := h.2
  by_cases h0 : x.length = 0
  ·have : x.cps.toList = [] := List.length_eq_zero_iff.mp (by omega)
   cases x with
   | mk c =>
    simp at this
    subst this
    simp
  ·have ha : a = 0 := by omega
   subst ha
   have : b = x.length := by omega
   subst this
   rw [List.drop_zero, Nat.sub_zero, List.take_of_length_le (by omega)]
 ·congr 1
  apply congrArg
  apply List.ext_getElem?
  intro i
  rw [List.filterMap_map]
  have key : ∀ m, m ≤ b - a → (List.filterMap ((fun k => x.cps[k]?) ∘ fun k => a + k) (List.range m)) = ((x.cps.toList.drop a).take m) := by
   intro m
   induction m with
   | zero => intro _; simp
   | succ m ih =>
    intro hm
    rw [List.range_succ, List.filterMap_append, ih (by omega)]
    have hlt : a + m < x.cps.size := by have : x.length = x.cps.size := rfl; omega
    rw [List.take_succ_eq_append_getElem (by simp; omega)]
    simp [hlt]
  rw [key _ (Nat.le_refl _)]
end
def rSlS : V → Option Int → Option Int → Hp → VK → Prop := fun x lo hi H Q => ∃ z, x = .str z ∧ z.length ≤ sizeLine ∧ Q (.str (Txt.slice z lo hi)) H
theorem YZ : SlR X rSlS := by
 intro pins s σ H x v vl vu lo hi sl Q I rx hs pl pu h
 obtain ⟨z, rfl, hz, q⟩ := h
 obtain ⟨t, rfl⟩ := rx
 obtain ⟨o, e1, e2, e3⟩ := hs
 have fin : ∀ t' k, EP X pins σ Q (.str (Txt.slice z lo hi) t') { s with toks := k } := fun t' k => ⟨.str _, H, I.tok _, ⟨t', rfl⟩, q⟩
 have hl := Nat.le_trans (Txt.slice_le z lo hi) hz
 refine ⟨"str", _, PySem.F.slot_str_getitem.lookup, typeIs_str _ _ _, ?_⟩
 cases pl with
 | none =>
  cases pu with
  | none => exact wpAny_getItem_str_slice (l := none) (u := none) (st := none) ⟨o, e1, e2, e3⟩ rfl (post_val_or_str ⟨hl, fin⟩)
  | int j uj => exact wpAny_getItem_str_slice (l := none) (u := some (j, uj)) (st := none) ⟨o, e1, e2, e3⟩ rfl (post_val_or_str ⟨hl, fin⟩)
 | int i ui =>
  cases pu with
  | none => exact wpAny_getItem_str_slice (l := some (i, ui)) (u := none) (st := none) ⟨o, e1, e2, e3⟩ rfl (post_val_or_str ⟨hl, fin⟩)
  | int j uj => exact wpAny_getItem_str_slice (l := some (i, ui)) (u := some (j, uj)) (st := none) ⟨o, e1, e2, e3⟩ rfl (post_val_or_str ⟨hl, fin⟩)
def rSl (K : PySem.W.Frag) : V → Option Int → Option Int → Hp → VK → Prop := fun x lo hi H Q => rSlL K x lo hi H Q ∨ (rSlT K x lo hi H Q ∨ rSlS x lo hi H Q)
theorem Yb : SlR X (rSl X.K) := VB.or (YH.or YZ)
theorem GR {lo hi : Option Expr} {gl gh : FO} (hG : G.K = X.K) (ha : PU X G a fa) (hl : PFO X G lo gl) (hh : PFO X G hi gh) : PF X G (.Subscript a (.Slice lo hi none p2) pos) (slF fa gl gh) := fun A => Dj (RD (Yb (X := X)) (@ha A) (@hl A) (@hh A)) fun σ H Q ⟨ρ, d, o, e, k⟩ => by
 unfold slF at e
 cases e1 : fa ρ with
 | none => simp [e1] at e
 | some x =>
  cases e2 : gl ρ with
  | none => simp [e1, e2] at e
  | some l =>
   cases e3 : gh ρ with
   | none => simp [e1, e2, e3] at e
   | some h =>
    have e' : slD x l h = some d := by simpa [e1, e2, e3] using e
    refine ⟨ρ, x, o, e1, fun v H1 s1 r1 => ⟨ρ, l, o.mono s1, e2, fun H2 s2 => ⟨ρ, h, (o.mono s1).mono s2, e3, fun H3 s3 => ?_⟩⟩⟩
    have r3 := (r1.mono s2).mono s3
    have o3 := ((o.mono s1).mono s2).mono s3
    have s0 := s1.trans (s2.trans s3)
    unfold slD at e'
    split at e'
    ·cases e'
     obtain ⟨p, xs, rfl, h1, r⟩ := r3.lst
     exact .inl ⟨p, xs, rfl, by rw [← hG]; exact h1, fun q hq => k _ _ (s0.trans (DQ hq _)) (G3 o3.live hq (r.cut _ _))⟩
    ·split at e'
     ·cases e'
     ·rename_i hw
      cases e'
      obtain ⟨p, xs, rfl, h1, r⟩ := r3.tup
      exact .inr (.inl ⟨p, xs, rfl, by rw [← hG]; exact h1, by rw [r.1]; exact hw, fun q hq => k _ _ (s0.trans (DQ hq _)) (G4 o3.live hq (r.cut _ _))⟩)
    ·split at e'
     ·rename_i hz
      cases e'
      refine .inr (.inr ⟨_, r3.str, hz, ?_⟩)
      rw [Qi]
      exact k _ _ s0 (.str _)
     ·cases e'
    ·cases e'
theorem LR {A : List Addr} {H : Hp} {v u : V} {d : D} (r : RepT G A H v d) (h : flV d = some u) : v = u ∧ Gv v = true := by
 cases d with
 | non => cases h; rw [r.non]; exact ⟨rfl, rfl⟩
 | bl b => cases h; rw [r.bl]; exact ⟨rfl, rfl⟩
 | int b => cases h; rw [r.int]; exact ⟨rfl, rfl⟩
 | str b => cases h; rw [r.str]; exact ⟨rfl, rfl⟩
 | _ => cases h
theorem Mw {H : Hp} : ∀ {ds : List D} {xs us : List V}, RepL G H xs ds → flVs ds = some us → xs = us ∧ xs.all Gv = true
 | [], xs, us, r, h => by cases h; rw [r.nil_inv]; exact ⟨rfl, rfl⟩
 | d :: ds, xs, us, r, h => by
  obtain ⟨x, ys, rfl, r1, r2⟩ := r.uncons
  unfold flVs at h
  cases e1 : flV d with
  | none => simp [e1] at h
  | some v =>
   cases e2 : flVs ds with
   | none => simp [e1, e2] at h
   | some vs =>
    simp [e1, e2] at h
    subst h
    have q : Rep G (hid [] H) x d := r1.mono fun b o z => z
    obtain ⟨z1, z2⟩ := LR (A := []) (.inl q) e1
    obtain ⟨z3, z4⟩ := Mw r2 e2
    subst z1
    subst z3
    exact ⟨rfl, by rw [List.all_cons, z2, z4]; rfl⟩
def rInA (K : PySem.W.Frag) (neg : Bool) : R2 := fun x y H Q => rIn K neg x y H Q ∨ ∃ i j, x = .str i ∧ y = .str j ∧ Q (.bl (if neg then !(!(Builtin.Str.occurrences j i 0 j.length 1).isEmpty) else !(Builtin.Str.occurrences j i 0 j.length 1).isEmpty)) H
theorem Jl : OpR X (compareOp .In) (rInA X.K false) := Qd.or QZ
theorem La (neg : Bool) : Ey G (rInA G.K neg) (inD neg) := by
 intro A H x y dx dy d Q lv rx ry h k
 have seq : ∀ {ds : List D} {p : Addr} {xs : List V}, y = .ref p → (SqL G.K H p xs ∨ SqT G.K H p xs) → RepL G (hid A H) xs ds → ((flV dx).bind fun v => (flVs ds).map fun vs => D.bl (if neg then !inV v vs else inV v vs)) = some d → rIn G.K neg x y H Q := fun {ds p xs} ey hq r h => by
  cases e1 : flV dx with
  | none => simp [e1] at h
  | some v =>
   cases e2 : flVs ds with
   | none => simp [e1, e2] at h
   | some vs =>
    rw [e1, e2] at h
    cases h
    obtain ⟨z1, z2⟩ := LR rx e1
    obtain ⟨z3, z4⟩ := Mw r e2
    subst z1
    subst z3
    exact ⟨p, xs, ey, hq, z2, z4, k _ H (Same.refl H) (.bl _)⟩
 unfold inD at h
 split at h
 ·cases h; exact .inr ⟨_, _, rx.str, ry.str, k _ H (Same.refl H) (.bl _)⟩
 ·obtain ⟨p, xs, e, h1, r⟩ := ry.lst
  exact .inl (seq e (.inl h1) r h)
 ·obtain ⟨p, xs, e, h1, r⟩ := ry.tup
  exact .inl (seq e (.inr h1) r h)
 ·cases h
def eAt (f : D → D → Option Bool) (xs ys : List D) (j : Nat) : Bool := match xs[j]?, ys[j]? with | some x, some y => (f x y).getD false | _, _ => false
theorem Ik {f : D → D → Option Bool} : ∀ {xs ys : List D} {b : Bool}, allO f xs ys = some b → xs.length = ys.length ∧ (∀ (j : Nat) x y, xs[j]? = some x → ys[j]? = some y → f x y = some (eAt f xs ys j)) ∧ b = (List.range xs.length).all (eAt f xs ys)
 | [], [], b, h => by cases h; exact ⟨rfl, fun j x y h => by simp at h, rfl⟩
 | [], _ :: _, b, h => by cases h
 | _ :: _, [], b, h => by cases h
 | x :: xs, y :: ys, b, h => by
  unfold allO at h
  split at h
  ·rename_i a c e1 e2
   cases h
   obtain ⟨h1, h2, h3⟩ := Ik e2
   refine ⟨by simp [h1], fun j u v hu hv => ?_, ?_⟩
   ·cases j with
    | zero => simp at hu hv; subst hu; subst hv; rw [e1]; simp [eAt, e1]
    | succ j =>
     have := h2 j u v (by simpa using hu) (by simpa using hv)
     rw [this]
     simp [eAt]
   ·rw [List.length_cons, List.range_succ_eq_map, List.all_cons, List.all_map]
    have z : eAt f (x :: xs) (y :: ys) 0 = a := by simp [eAt, e1]
    rw [z, h3]
    rfl
  ·cases h
theorem S8 {u : V} (h : Gv u = true) : eqV u u = true := by
 cases u <;> simp [eqV] <;> cases h
theorem JT {H : Hp} {v : V} {d : D} {u : V} (r : Rep G H v d) (h : flV d = some u) : v = u ∧ Gv v = true := LR (A := []) (.inl (r.mono fun b o z => by rw [Cu List.not_mem_nil]; exact z)) h
section
variable {pins : List (Addr × Obj)} {σ : St} {H : Hp} {s : Shared}
theorem My (I : Inv X pins σ H s) (hG : G.K = X.K) : ∀ (n : Nat) {x y : D} {v : V} {b : Bool}, eqK n x y = some b → Rep G H v x → Rep G H v y → b = true := by
 have flat : ∀ {x y : D} {v : V} {b : Bool}, flD x y = some b → Rep G H v x → Rep G H v y → b = true := fun {x y v b} h rx ry => by
  unfold flD at h
  cases e1 : flV x with
  | none => simp [e1] at h
  | some u =>
   cases e2 : flV y with
   | none => simp [e1, e2] at h
   | some w =>
    simp [e1, e2] at h
    obtain ⟨z1, z2⟩ := JT rx e1
    obtain ⟨z3, _⟩ := JT ry e2
    rw [← h, ← z1, ← z3]
    exact S8 z2
 intro n
 induction n with
 | zero => intro x y v b h rx ry; exact flat h rx ry
 | succ n ih =>
  have items : ∀ {xs : List V} {ds es : List D} {b : Bool}, allO (eqK n) ds es = some b → RepL G H xs ds → RepL G H xs es → b = true := fun {xs ds es b} h r1 r2 => by
   obtain ⟨h1, h2, h3⟩ := Ik h
   rw [h3, List.all_eq_true]
   intro j hj
   have hj' : j < ds.length := List.mem_range.mp hj
   have hx : xs[j]? = some (xs[j]'(by rw [r1.1]; exact hj')) := by simp [r1.1, hj']
   have hd : ds[j]? = some ds[j] := by simp [hj']
   have he : es[j]? = some (es[j]'(by omega)) := List.getElem?_eq_getElem (by omega)
   exact ih (h2 j _ _ hd he) (r1.2 j _ _ hx hd) (r2.2 j _ _ hx he)
  intro x y v b h rx ry
  unfold eqK eqS at h
  split at h
  ·split at h
   ·cases rx with
    | lst h1 l1 r1 =>
     cases ry with
     | lst h2 l2 r2 =>
      have e := I.list_inj (by rw [← hG]; exact h1) (by rw [← hG]; exact h2)
      subst e
      exact items h ⟨l1, r1⟩ ⟨l2, r2⟩
   ·rename_i hne
    cases rx with
    | lst h1 l1 r1 =>
     cases ry with
     | lst h2 l2 r2 =>
      have e := I.list_inj (by rw [← hG]; exact h1) (by rw [← hG]; exact h2)
      subst e
      exact absurd (l1.symm.trans l2) hne
  ·split at h
   ·cases rx with
    | tup h1 l1 r1 =>
     cases ry with
     | tup h2 l2 r2 =>
      have e := I.tuple_inj (by rw [← hG]; exact h1) (by rw [← hG]; exact h2)
      subst e
      exact items h ⟨l1, r1⟩ ⟨l2, r2⟩
   ·cases h
  ·exact flat h rx ry
theorem GX {A : Around} {n : Nat} {ds es : List D} {b : Bool} {xs ys : List V} {its jts : List Value} (ih : ∀ {x y : D} {v w : V} {u1 u2 : Value} {b : Bool}, eqK n x y = some b → Rep G H v x → Rep G H w y → RelV v u1 → RelV w u2 → SeqAt.EqAt A s u1 u2 b)
  (h : allO (eqK n) ds es = some b) (r1 : RepL G H xs ds) (r2 : RepL G H ys es) (v1 : Vals xs its) (v2 : Vals ys jts) :
  its.toArray.size = jts.toArray.size ∧ b = (List.range its.toArray.size).all (eAt (eqK n) ds es) ∧ ∀ j (h1 : j < its.toArray.size) (h2 : j < jts.toArray.size), SeqAt.EqAt A s its.toArray[j] jts.toArray[j] (eAt (eqK n) ds es j) := by
 obtain ⟨h1, h2, h3⟩ := Ik h
 have l1 := v1.length
 have l2 := v2.length
 have q1 := r1.1
 have q2 := r2.1
 have z1 : its.toArray.size = ds.length := by rw [List.size_toArray]; omega
 refine ⟨by rw [List.size_toArray, List.size_toArray]; omega, by rw [z1]; exact h3, fun j j1 j2 => ?_⟩
 rw [List.size_toArray] at j1 j2
 have jx : j < xs.length := by omega
 have jy : j < ys.length := by omega
 have hx : xs[j]? = some xs[j] := by simp [jx]
 have hy : ys[j]? = some ys[j] := by simp [jy]
 have hd : ds[j]? = some (ds[j]'(by omega)) := List.getElem?_eq_getElem (by omega)
 have he : es[j]? = some (es[j]'(by omega)) := List.getElem?_eq_getElem (by omega)
 obtain ⟨u, eu, ru⟩ := v1.get hx
 obtain ⟨w, ew, rw'⟩ := v2.get hy
 have a1 : its.toArray[j] = u := by simpa [List.getElem?_eq_getElem j1] using eu
 have a2 : jts.toArray[j] = w := by simpa [List.getElem?_eq_getElem j2] using ew
 rw [a1, a2]
 exact ih (h2 j _ _ hd he) (r1.2 j _ _ hx hd) (r2.2 j _ _ hy he) ru rw'
theorem Lb {ds es : List D} {xs ys : List V} {its jts : List Value} (h : ds.length ≠ es.length) (r1 : RepL G H xs ds) (r2 : RepL G H ys es) (v1 : Vals xs its) (v2 : Vals ys jts) : (its.toArray.size != jts.toArray.size) = true := by
 have l1 := v1.length
 have l2 := v2.length
 have q1 := r1.1
 have q2 := r2.1
 rw [List.size_toArray, List.size_toArray]
 exact bne_iff_ne.mpr (by omega)
theorem Jm (I : Inv X pins σ H s) (hG : G.K = X.K) : ∀ (n : Nat) (A : Around), A.units + n < cLine → ∀ {x y : D} {v w : V} {u1 u2 : Value} {b : Bool}, eqK n x y = some b → Rep G H v x → Rep G H w y → RelV v u1 → RelV w u2 → SeqAt.EqAt A s u1 u2 b := by
 have flat : ∀ {A : Around} {x y : D} {v w : V} {u1 u2 : Value} {b : Bool}, flD x y = some b → Rep G H v x → Rep G H w y → RelV v u1 → RelV w u2 → SeqAt.EqAt A s u1 u2 b := fun {A x y v w u1 u2 b} h rx ry q1 q2 => by
  unfold flD at h
  cases e1 : flV x with
  | none => simp [e1] at h
  | some u =>
   cases e2 : flV y with
   | none => simp [e1, e2] at h
   | some w =>
    simp [e1, e2] at h
    obtain ⟨z1, z2⟩ := JT rx e1
    obtain ⟨z3, z4⟩ := JT ry e2
    rw [← h, ← z1, ← z3]
    exact RG q1 q2 z2 z4
 intro n
 induction n with
 | zero => intro A hu x y v w u1 u2 b h rx ry q1 q2; exact flat h rx ry q1 q2
 | succ n ih =>
  intro A hu x y v w u1 u2 b h rx ry q1 q2
  have h' := h
  have hu1 : A.in1.units + n < cLine := by show A.units + 1 + n < cLine; omega
  have hu0 : A.units < cLine := by omega
  unfold eqK eqS at h
  split at h
  ·cases rx with
   | @lst a _ _ h1 l1 r1 =>
    cases ry with
    | @lst c _ _ h2 l2 r2 =>
     obtain rfl : u1 = .ref a := q1
     obtain rfl : u2 = .ref c := q2
     obtain ⟨its, v1, p1, _⟩ := I.list (by rw [← hG]; exact h1)
     obtain ⟨jts, v2, p2, _⟩ := I.list (by rw [← hG]; exact h2)
     by_cases hac : a = c
     ·subst hac
      have := My I hG (n + 1) h' (.lst h1 l1 r1) (.lst h2 l2 r2)
      subst this
      exact SeqAt.EqAt.same _
     ·split at h
      ·obtain ⟨z1, z2, z3⟩ := GX (fun q => ih A.in1 hu1 q) h ⟨l1, r1⟩ ⟨l2, r2⟩ v1 v2
       rw [z2]
       exact SeqAt.EqAt.of_refs hac (SeqAt.RcAt.lists p1.isList p2.isList z1 hu0 z3)
      ·rename_i hne
       cases h
       exact SeqAt.EqAt.of_refs hac (SeqAt.RcAt.lists_lengths p1.isList p2.isList (Lb hne ⟨l1, r1⟩ ⟨l2, r2⟩ v1 v2) hu0)
  ·cases rx with
   | @tup a _ _ h1 l1 r1 =>
    cases ry with
    | @tup c _ _ h2 l2 r2 =>
     obtain rfl : u1 = .ref a := q1
     obtain rfl : u2 = .ref c := q2
     obtain ⟨its, v1, p1, _⟩ := I.tuple (by rw [← hG]; exact h1)
     obtain ⟨jts, v2, p2, _⟩ := I.tuple (by rw [← hG]; exact h2)
     by_cases hac : a = c
     ·subst hac
      have := My I hG (n + 1) h' (.tup h1 l1 r1) (.tup h2 l2 r2)
      subst this
      exact SeqAt.EqAt.same _
     ·split at h
      ·obtain ⟨z1, z2, z3⟩ := GX (fun q => ih A.in1 hu1 q) h ⟨l1, r1⟩ ⟨l2, r2⟩ v1 v2
       have q := SeqAt.RcAt.tuples (show s.heap.IsTuple a its.toArray from p1) (show s.heap.IsTuple c jts.toArray from p2) hu0 z3
       rw [z1, Nat.min_self, beq_self_eq_true, Bool.and_true, ← z1, ← z2] at q
       exact SeqAt.EqAt.of_refs hac q
      ·cases h
  ·exact flat h rx ry q1 q2
end
def rEqP (G : Gx) (neg : Bool) : R2 := fun x y H Q => ∃ (A : List Addr) (ds es : List D) (b : Bool), eqvD (.lst ds) (.lst es) = some b ∧ ((RepT G A H x (.lst ds) ∧ RepT G A H y (.lst es)) ∨ (ds.length = es.length ∧ RepT G A H x (.tup ds) ∧ RepT G A H y (.tup es))) ∧ Q (.bl (if neg then !b else b)) H
theorem Yc (hG : G.K = X.K) (hu : X.A.units + 64 < cLine) : OpR X (compareOp .Eq) (rEqP G false) := by
 intro pins s σ H x y v u Q I rx ry h
 obtain ⟨A, ds, es, b, e, hr, k⟩ := h
 have fin : EP X pins σ Q (.bool b) s := ⟨.bl b, H, I, rfl, k⟩
 simp only [eqvD] at e
 rcases hr with ⟨r1, r2⟩ | ⟨hl, r1, r2⟩
 ·obtain ⟨a, xs, rfl, h1, q1⟩ := r1.lst
  obtain ⟨c, ys, rfl, h2, q2⟩ := r2.lst
  cases rx
  cases ry
  obtain ⟨its, v1, p1, _⟩ := I.list (by rw [← hG]; exact h1)
  obtain ⟨jts, v2, p2, _⟩ := I.list (by rw [← hG]; exact h2)
  split at e
  ·obtain ⟨z1, z2, z3⟩ := GX (fun q => Jm I hG 62 X.A.in1 (by show X.A.units + 1 + 62 < cLine; omega) q) e (q1.mono CV) (q2.mono CV) v1 v2
   exact SeqAt.RcAt.lists p1.isList p2.isList z1 (by omega) z3 _ _ _ _ (by rw [← z2]; exact fin)
  ·rename_i hne
   cases e
   exact SeqAt.RcAt.lists_lengths p1.isList p2.isList (Lb hne q1 q2 v1 v2) (by omega) _ _ _ _ fin
 ·obtain ⟨a, xs, rfl, h1, q1⟩ := r1.tup
  obtain ⟨c, ys, rfl, h2, q2⟩ := r2.tup
  cases rx
  cases ry
  obtain ⟨its, v1, p1, _⟩ := I.tuple (by rw [← hG]; exact h1)
  obtain ⟨jts, v2, p2, _⟩ := I.tuple (by rw [← hG]; exact h2)
  rw [if_pos hl] at e
  obtain ⟨z1, z2, z3⟩ := GX (fun q => Jm I hG 62 X.A.in1 (by show X.A.units + 1 + 62 < cLine; omega) q) e (q1.mono CV) (q2.mono CV) v1 v2
  have q := SeqAt.RcAt.tuples (show s.heap.IsTuple a its.toArray from p1) (show s.heap.IsTuple c jts.toArray from p2) (by omega) z3
  rw [z1, Nat.min_self, beq_self_eq_true, Bool.and_true, ← z1, ← z2] at q
  exact q _ _ _ _ fin
theorem Yd (hG : G.K = X.K) (hu : X.A.units + 64 < cLine) : OpR X (compareOp .NotEq) (rEqP G true) := by
 intro pins s σ H x y v u Q I rx ry h
 obtain ⟨A, ds, es, b, e, hr, k⟩ := h
 have fin : EP X pins σ Q (.bool (!b)) s := ⟨.bl (!b), H, I, rfl, k⟩
 simp only [eqvD] at e
 rcases hr with ⟨r1, r2⟩ | ⟨hl, r1, r2⟩
 ·obtain ⟨a, xs, rfl, h1, q1⟩ := r1.lst
  obtain ⟨c, ys, rfl, h2, q2⟩ := r2.lst
  cases rx
  cases ry
  obtain ⟨its, v1, p1, _⟩ := I.list (by rw [← hG]; exact h1)
  obtain ⟨jts, v2, p2, _⟩ := I.list (by rw [← hG]; exact h2)
  split at e
  ·obtain ⟨z1, z2, z3⟩ := GX (fun q => Jm I hG 62 X.A.in1 (by show X.A.units + 1 + 62 < cLine; omega) q) e (q1.mono CV) (q2.mono CV) v1 v2
   exact SeqAt.RcNeAt.lists p1.isList p2.isList z1 (by omega) z3 _ _ _ _ (by rw [← z2]; exact fin)
  ·rename_i hne
   cases e
   exact SeqAt.RcNeAt.lists_lengths p1.isList p2.isList (Lb hne q1 q2 v1 v2) (by omega) _ _ _ _ fin
 ·obtain ⟨a, xs, rfl, h1, q1⟩ := r1.tup
  obtain ⟨c, ys, rfl, h2, q2⟩ := r2.tup
  cases rx
  cases ry
  obtain ⟨its, v1, p1, _⟩ := I.tuple (by rw [← hG]; exact h1)
  obtain ⟨jts, v2, p2, _⟩ := I.tuple (by rw [← hG]; exact h2)
  rw [if_pos hl] at e
  obtain ⟨z1, z2, z3⟩ := GX (fun q => Jm I hG 62 X.A.in1 (by show X.A.units + 1 + 62 < cLine; omega) q) e (q1.mono CV) (q2.mono CV) v1 v2
  have q := SeqAt.RcNeAt.tuples (show s.heap.IsTuple a its.toArray from p1) (show s.heap.IsTuple c jts.toArray from p2) (by omega) z3
  rw [z1, Nat.min_self, beq_self_eq_true, Bool.and_true, ← z1, ← z2] at q
  exact q _ _ _ _ fin
def rEqA (G : Gx) (neg : Bool) : R2 := fun x y H Q => (fun x y H Q => scal x y = true ∧ Q (.bl (if neg then !decide (x = y) else decide (x = y))) H) x y H Q ∨ rEqP G neg x y H Q
theorem S9 (hG : G.K = X.K) (hu : X.A.units + 64 < cLine) : OpR X (compareOp .Eq) (rEqA G false) := ZZ.or (Yc hG hu)
theorem Ye (hG : G.K = X.K) (hu : X.A.units + 64 < cLine) : OpR X (compareOp .NotEq) (rEqA G true) := Za.or (Yd hG hu)
theorem Ld {α β : Type} [DecidableEq α] [DecidableEq β] {f : α → β} (h : ∀ a b, f a = f b → a = b) (a b : α) : decide (f a = f b) = decide (a = b) := by
 by_cases e : a = b
 ·subst e; simp
 ·rw [decide_eq_false e, decide_eq_false fun z => e (h a b z)]
theorem OJ (neg : Bool) : Ey G (rEqA G neg) (eqD neg) := by
 intro A H x y dx dy d Q lv rx ry h k
 unfold eqD at h
 cases e : eqvD dx dy with
 | none => simp [e] at h
 | some b =>
  simp only [e, Option.map_some] at h
  cases h
  unfold eqvD at e
  split at e
  ·cases e
   rw [rx.int, ry.int]
   refine .inl ⟨rfl, ?_⟩
   rw [Ld (f := V.int) (fun a b z => by cases z; rfl)]
   exact k _ H (Same.refl H) (.bl _)
  ·cases e
   rw [rx.str, ry.str]
   refine .inl ⟨rfl, ?_⟩
   rw [Ld (f := V.str) (fun a b z => by cases z; rfl)]
   exact k _ H (Same.refl H) (.bl _)
  ·cases e
   rw [rx.bl, ry.bl]
   refine .inl ⟨rfl, ?_⟩
   rw [Ld (f := V.bl) (fun a b z => by cases z; rfl)]
   exact k _ H (Same.refl H) (.bl _)
  ·exact .inr ⟨A, _, _, b, e, .inl ⟨rx, ry⟩, k _ H (Same.refl H) (.bl _)⟩
  ·split at e
   ·rename_i hl
    exact .inr ⟨A, _, _, b, (by simp only [eqvD]; rw [if_pos hl]; exact e), .inr ⟨hl, rx, ry⟩, k _ H (Same.refl H) (.bl _)⟩
   ·cases e
  ·cases e
def SndC (G : Gx) (r : List V → Hp → VK → Prop) (g : D → Option D) : Prop := ∀ (A : List Addr) (H : Hp) (x : V) (dx d : D) (Q : VK), (∀ a ∈ A, Nt (H a)) → RepT G A H x dx → g dx = some d → (∀ v H', Same H H' → Rep G (hid A H') v d → Q v H') → r [x] H Q
theorem JV {g : D → Option D} {ρ : Rho} {d : D} (h : uF g fa ρ = some d) : ∃ x, fa ρ = some x ∧ g x = some d := by
 unfold uF at h
 cases e : fa ρ with
 | none => simp [e] at h
 | some x => exact ⟨x, rfl, by simpa [e] using h⟩
theorem Yg {r : List V → Hp → VK → Prop} {g : D → Option D} (s : SndC G r g) {A : List Addr} {σ : St} {H : Hp} {Q : VK} (h : tF G A (uF g fa) σ H Q) : tCB r (Ov (tT G A fa) tNil) σ H Q := by
 obtain ⟨ρ, d, o, e, k⟩ := h
 obtain ⟨x, e1, e2⟩ := JV e
 exact ⟨ρ, x, o, e1, fun v H1 s1 r1 => s A H1 v x d Q (o.mono s1).live r1 e2 fun w H2 s2 r2 => k w H2 (s1.trans s2) r2⟩
theorem D_ {x : Str} {p : Pos} {id : String} {r : List V → Hp → VK → Prop} {g : D → Option D} (hc : Gy X (.builtin id) r) (s : SndC G r g) (hg : Gl X x) (hm : X.mg x = none) (hv : bootBuiltins x = some (.builtin id)) (ha : PU X G a fa)
  (hn : x ≠ "__name__" := by decide) (hdb : (x == ("__debug__" : Str)) = false := by decide) (he : starEach [a] X.env = [(false, eval a X.env)] := by rfl) : PF X G (.Call (.Name x p) [a] [] pos) (uF g fa) :=
 fun A => Dj (Ma hc hg hm hv (Dw (@ha A) Hh he) hn hdb he rfl) fun _ _ _ h => Yg s h
theorem Gm : SndC G (fun xs H Q => ∃ x n, xs = [x] ∧ LenV G.K x H n ∧ Q (.int n) H) lenD := by
 intro A H x dx d Q lv rx h k
 unfold lenD at h
 split at h
 ·split at h
  ·rename_i hz; cases h; rw [rx.str]; exact ⟨_, _, rfl, ⟨hz, rfl⟩, k _ H (Same.refl H) (.int _)⟩
  ·cases h
 ·cases h
  obtain ⟨p, xs, rfl, h1, r⟩ := rx.lst
  exact ⟨_, _, rfl, .inl ⟨xs, h1, rfl⟩, by rw [r.1]; exact k _ H (Same.refl H) (.int _)⟩
 ·cases h
  obtain ⟨p, xs, rfl, h1, r⟩ := rx.tup
  exact ⟨_, _, rfl, .inr ⟨xs, h1, rfl⟩, by rw [r.1]; exact k _ H (Same.refl H) (.int _)⟩
 ·cases h
theorem Dq (hG : G.K = X.K) : Gy X (.builtin "len") (fun xs H Q => ∃ x n, xs = [x] ∧ LenV G.K x H n ∧ Q (.int n) H) := by rw [hG]; exact Q7
end
end PV
namespace PV
open PySem PySem.Spec L2
open PyProof.Rows hiding St
def XQ (G : Gx) (F2 H H' : Hp) (x : V) (d : D) : Prop := Same H H' ∧ ∀ B : List Addr, (∀ a ∈ B, Nt (H a)) → Same F2 (hid B H) → Rep G (hid B H') x d
theorem Jo {G : Gx} {F2 H H' : Hp} {x : V} {d : D} (h : H' = H ∧ Rep G F2 x d) : XQ G F2 H H' x d := by
 obtain ⟨rfl, r⟩ := h
 exact ⟨Same.refl _, fun B _ sm => r.mono sm⟩
structure Src (G : Gx) (J : It) (ds : List D) (F1 F2 : Hp) : Prop where
 go : ∀ i H, Same F1 H → i < ds.length → J.go i H
 yld : ∀ i H x H' d, Same F1 H → ds[i]? = some d → J.yld i H x H' → XQ G F2 H H' x d
 stop : ∀ i H, Same F1 H → ds.length ≤ i → J.stop i H
def tI (G : Gx) (A : List Addr) (top : Bool) (f : FI) : TI := fun σ H R => ∃ ρ ds, Okp G A σ H ρ ∧ f ρ = some ds ∧ ∀ J H1, Same H H1 → Src G J ds (if top then H1 else hid A H1) (hid A H1) → R J H1
def PFI (X : Cx) (G : Gx) (top : Bool) (tg e : Expr) (f : FI) : Prop := ∀ ⦃A⦄, PI X tg e (tI G A top f)
theorem Mz {X : Cx} {tg e : Expr} {t t' : TI} (h : PI X tg e t) (w : ∀ σ H Q, t' σ H Q → t σ H Q) : PI X tg e t' := fun pins s σ H Q I q => h pins s σ H Q I (w σ H Q q)
theorem piOr {X : Cx} {tg e : Expr} {t t' : TI} (h : PI X tg e t) (h' : PI X tg e t') : PI X tg e (fun σ H R => t σ H R ∨ t' σ H R) := fun pins s σ H Q I q => by
 rcases q with q | q
 ·exact h pins s σ H Q I q
 ·exact h' pins s σ H Q I q
section
variable {X : Cx} {G : Gx} {a b c tg : Expr} {fa fb fc : FE} {pos p2 : Pos}
theorem Pu {F1 F2 : Hp} {p : Addr} {xs : List V} {ds : List D} (h : SqT G.K F1 p xs) (r : RepL G F2 xs ds) : Src G (Itt G.K p) ds F1 F2 where
 go := fun i H s hi => ⟨xs, xs[i]'(by rw [r.1]; exact hi), GQ s h, by simp [r.1, hi]⟩
 yld := fun i H x H' d s hd y => Jo ⟨y.1, r.2 i x d (y.2 xs (GQ s h)) hd⟩
 stop := fun i H s hi => ⟨xs, GQ s h, by rw [r.1]; exact hi⟩
theorem Px (hG : G.K = X.K) (h : PF X G a fa) : PFI X G false tg a (seqI fa) := fun A => Mz (piOr (Om (@h A)) (Q4 (@h A))) fun σ H R ⟨ρ, ds, o, e, k⟩ => by
 unfold seqI at e
 split at e
 ·rename_i ds' e1
  cases e
  refine .inl ⟨ρ, _, o, e1, fun v H1 s1 r1 => ?_⟩
  cases r1 with
  | lst h l r => exact ⟨_, rfl, ⟨_, by rw [← hG]; exact CV.seq h⟩, by rw [← hG]; exact k _ H1 s1 { go := fun i H s hi => ⟨_, _, s.seq h, by simp [l, hi]; rfl⟩, yld := fun i H x H' d s hd y => Jo ⟨y.1, r i x d (y.2 _ (s.seq h)) hd⟩, stop := fun i H s hi => ⟨_, s.seq h, by rw [l]; exact hi⟩ }⟩
 ·rename_i ds' e1
  cases e
  refine .inr ⟨ρ, _, o, e1, fun v H1 s1 r1 => ?_⟩
  cases r1 with
  | tup h l r => exact ⟨_, rfl, ⟨_, by rw [← hG]; exact GQ CV h⟩, by rw [← hG]; exact k _ H1 s1 (Pu h ⟨l, r⟩)⟩
 ·cases e
theorem Vf (hG : G.K = X.K) (h : PU X G a fa) : PFI X G true tg a (seqI fa) := fun A => Mz (piOr (Om (@h A)) (Q4 (@h A))) fun σ H R ⟨ρ, ds, o, e, k⟩ => by
 unfold seqI at e
 split at e
 ·rename_i ds' e1
  cases e
  refine .inl ⟨ρ, _, o, e1, fun v H1 s1 r1 => ?_⟩
  obtain ⟨p, xs, rfl, h, r⟩ := r1.lst
  exact ⟨_, rfl, ⟨_, by rw [← hG]; exact h⟩, by rw [← hG]; exact k _ H1 s1 { go := fun i H s hi => ⟨xs, xs[i]'(by rw [r.1]; exact hi), s.seq h, by simp [r.1, hi]⟩, yld := fun i H x H' d s hd y => Jo ⟨y.1, r.2 i x d (y.2 _ (s.seq h)) hd⟩, stop := fun i H s hi => ⟨_, s.seq h, by rw [r.1]; exact hi⟩ }⟩
 ·rename_i ds' e1
  cases e
  refine .inr ⟨ρ, _, o, e1, fun v H1 s1 r1 => ?_⟩
  obtain ⟨p, xs, rfl, h, r⟩ := r1.tup
  exact ⟨_, rfl, ⟨_, by rw [← hG]; exact h⟩, by rw [← hG]; exact k _ H1 s1 (Pu h r)⟩
 ·cases e
end
structure OkW (G : Gx) (A0 : List Addr) (He : Hp) (A : List Addr) (σ : St) (H : Hp) (ρ : Rho) : Prop where
 same : Same He H
 sub : ∀ a ∈ A0, a ∈ A
 fr : ∀ a ∈ A, a ∈ A0 ∨ He a = none
 l0 : ∀ a ∈ A0, He a ≠ none
 ok : Okp G A σ H ρ
 ow0 : ∀ (i : Nat) (d : D) (a : Addr), ρ[i]? = some (.ow d) → σ[i]? = some (some (.ref a)) → a ∉ A0
 lt : ∀ (x : Addr) (d : D), G.lent = some x → ρ[0]? = some (.ow d) → σ[0]? = some (some (.ref x))
def OkS (G : Gx) (A0 : List Addr) (He : Hp) (σ : St) (H : Hp) (ρ : Rho) : Prop := ∃ A, OkW G A0 He A σ H ρ
def Jp (G : Gx) (A0 : List Addr) (He : Hp) (D : Ends) : Out → Prop
 | .nx ρ => ∀ σ H, OkS G A0 He σ H ρ → D.nx σ H
 | .rt d ρ => ∀ v σ H A, OkW G A0 He A σ H ρ → Rep G (hid A H) v d → D.rt v H
 | .bk ρ => ∀ σ H, OkS G A0 He σ H ρ → D.bk σ H
 | .ct ρ => ∀ σ H, OkS G A0 He σ H ρ → D.ct σ H
def tS (G : Gx) (A0 : List Addr) (He : Hp) (g : FS) : TS := fun D σ H => ∃ ρ o, OkS G A0 He σ H ρ ∧ g ρ = some o ∧ Jp G A0 He D o
def PSD (X : Cx) (G : Gx) (st : Stmt) (g : FS) : Prop := ∀ ⦃A0⦄ He, PS X st (tS G A0 He g)
def PSDs (X : Cx) (G : Gx) (st : List Stmt) (g : FS) : Prop := ∀ ⦃A0⦄ He, PSs X st (tS G A0 He g)
theorem Okp.set {G : Gx} {A : List Addr} {σ : St} {H : Hp} {ρ : Rho} {v : V} {d : D} (o : Okp G A σ H ρ) (r : Rep G (hid A H) v d) (i : Nat) : Okp G A (σ.set i (some v)) H (ρ.set i (.fz d)) := by
 have key : ∀ (j : Nat) (z : Slot), (ρ.set i (.fz d))[j]? = some z → (j = i ∧ z = .fz d ∧ i < ρ.length) ∨ (j ≠ i ∧ ρ[j]? = some z) := fun j z h => by
  by_cases hj : j = i
  ·subst hj
   by_cases hl : j < ρ.length
   ·rw [List.getElem?_set_self hl] at h
    exact .inl ⟨rfl, (Option.some.inj h).symm, hl⟩
   ·rw [List.getElem?_eq_none (by simpa using Nat.not_lt.mp hl)] at h
    cases h
  ·rw [List.getElem?_set_ne (Ne.symm hj)] at h
   exact .inr ⟨hj, h⟩
 have keyS : ∀ (j : Nat), j ≠ i → (σ.set i (some v))[j]? = σ[j]? := fun j hj => List.getElem?_set_ne (Ne.symm hj)
 refine ⟨by rw [List.length_set, List.length_set]; exact o.len, o.live, fun j e h => ?_, fun j e h => ?_, fun j k e f p h1 h2 h3 h4 => ?_⟩
 ·rcases key j _ h with ⟨hj, hz, hl⟩ | ⟨hj, hz⟩
  ·cases hz
   subst hj
   exact ⟨v, by rw [List.getElem?_set_self (by rw [o.len]; exact hl)], r⟩
  ·obtain ⟨u, q1, q2⟩ := o.fz j e hz
   exact ⟨u, by rw [keyS j hj]; exact q1, q2⟩
 ·rcases key j _ h with ⟨hj, hz, hl⟩ | ⟨hj, hz⟩
  ·cases hz
  ·obtain ⟨u, q1, q2⟩ := o.ow j e hz
   exact ⟨u, by rw [keyS j hj]; exact q1, q2⟩
 ·rcases key j _ h1 with ⟨_, hz, _⟩ | ⟨hj, hz⟩
  ·cases hz
  ·rcases key k _ h2 with ⟨_, hz', _⟩ | ⟨hk, hz'⟩
   ·cases hz'
   ·rw [keyS j hj] at h3
    rw [keyS k hk] at h4
    exact o.inj j k e f p hz hz' h3 h4
theorem OkW.mono {G : Gx} {A0 : List Addr} {He : Hp} {A : List Addr} {σ : St} {H H' : Hp} {ρ : Rho} (o : OkW G A0 He A σ H ρ) (s : Same H H') : OkW G A0 He A σ H' ρ := ⟨o.same.trans s, o.sub, o.fr, o.l0, o.ok.mono s, o.ow0, o.lt⟩
theorem OkW.set {G : Gx} {A0 : List Addr} {He : Hp} {A : List Addr} {σ : St} {H : Hp} {ρ : Rho} {v : V} {d : D} (o : OkW G A0 He A σ H ρ) (r : Rep G (hid A H) v d) (i : Nat) : OkW G A0 He A (σ.set i (some v)) H (ρ.set i (.fz d)) := ⟨o.same, o.sub, o.fr, o.l0, o.ok.set r i, fun j e a h1 h2 => by
  have hj : j ≠ i := by
   intro z
   subst z
   by_cases hl : j < ρ.length
   ·rw [List.getElem?_set_self hl] at h1; cases h1
   ·rw [List.getElem?_eq_none (by simpa using Nat.not_lt.mp hl)] at h1; cases h1
  rw [List.getElem?_set_ne (Ne.symm hj)] at h1 h2
  exact o.ow0 j e a h1 h2, fun x e hx h0 => by
  by_cases hi : i = 0
  ·subst hi
   cases ρ with
   | nil => cases h0
   | cons a r => cases h0
  ·rw [List.getElem?_set_ne hi] at h0 ⊢
   exact o.lt x e hx h0⟩
theorem OkW.base {G : Gx} {A0 : List Addr} {He Hf : Hp} {A : List Addr} {σ : St} {H : Hp} {ρ : Rho} (o : OkW G A0 Hf A σ H ρ) (s : Same He Hf) (l0 : ∀ a ∈ A0, He a ≠ none) : OkW G A0 He A σ H ρ :=
 ⟨s.trans o.same, o.sub, fun a ha => (o.fr a ha).imp id fun z => s.free z, l0, o.ok, o.ow0, o.lt⟩
theorem OkW.here {G : Gx} {A0 : List Addr} {He : Hp} {A : List Addr} {σ : St} {H : Hp} {ρ : Rho} (o : OkW G A0 He A σ H ρ) : Same He (hid (A.filter fun a => decide (a ∉ A0)) H) ∧ OkW G A0 (hid (A.filter fun a => decide (a ∉ A0)) H) A σ H ρ := by
 have hb : ∀ b, b ∈ (A.filter fun a => decide (a ∉ A0)) ↔ b ∈ A ∧ b ∉ A0 := fun b => by simp [List.mem_filter]
 have s1 : Same He (hid (A.filter fun a => decide (a ∉ A0)) H) := fun b u h => by
  rw [Cu]
  ·exact o.same b u h
  ·intro z
   obtain ⟨z1, z2⟩ := (hb b).mp z
   rcases o.fr b z1 with q | q
   ·exact z2 q
   ·rw [q] at h; cases h
 refine ⟨s1, CV, o.sub, fun a ha => ?_, fun a ha h => ?_, o.ok, o.ow0, o.lt⟩
 ·by_cases hz : a ∈ A0
  ·exact .inl hz
  ·right
   unfold hid
   rw [if_pos ((hb a).mpr ⟨ha, hz⟩)]
 ·rw [Cu (fun z => ((hb a).mp z).2 ha)] at h
  exact (o.ok.live a (o.sub a ha)).ne h
theorem OkW.plain {G : Gx} {A0 : List Addr} {A B : List Addr} {σ : St} {H1 H : Hp} {ρ : Rho} (sub : ∀ a ∈ A0, a ∈ B) (o : OkW G A0 (hid (B.filter fun a => decide (a ∉ A0)) H1) A σ H ρ) : Same (hid B H1) (hid A H) := fun b u h => by
 unfold hid at h
 split at h
 ·cases h
 ·rename_i hb
  have e : hid (B.filter fun a => decide (a ∉ A0)) H1 b = some u := by
   rw [Cu (fun z => hb (List.mem_filter.mp z).1)]; exact h
  rw [Cu]
  ·exact o.same b u e
  ·intro z
   rcases o.fr b z with q | q
   ·exact hb (sub b q)
   ·rw [q] at e; cases e
section
variable {X : Cx} {G : Gx} {a b c tg : Expr} {fa fb fc : FE} {ga : FT} {pos p2 : Pos} {st : Stmt} {rest body : List Stmt} {g gs gb : FS}
theorem Dm : PSDs X G [] nxF := fun A0 He pins s σ H D I ⟨ρ, o, ok, e, k⟩ => by
 cases e
 exact Uu pins s σ H D I (k σ H ok)
theorem Bt (h1 : PSD X G st g) (h2 : PSDs X G rest gs) : PSDs X G (st :: rest) (seqF g gs) := fun A0 He pins s σ H D I ⟨ρ, o, ok, e, k⟩ => by
 refine Ja (@h1 A0 He) (@h2 A0 He) pins s σ H D I ?_
 unfold seqF at e
 split at e
 ·rename_i ρ' e1
  exact ⟨ρ, _, ok, e1, fun σ' H' ok' => ⟨ρ', o, ok', e, k⟩⟩
 ·rename_i hno
  refine ⟨ρ, o, ok, e, ?_⟩
  cases o with
  | nx ρ' => exact absurd e (hno ρ')
  | rt d ρ' => exact k
  | bk ρ' => exact k
  | ct ρ' => exact k
theorem CQ (h1 : PSD X G st g) : PSDs X G [st] g := fun A0 He => K1 (@h1 A0 He)
theorem Fd {s1 s2 : List Stmt} (ht : PFT X G c ga) (h1 : PSDs X G s1 g) (h2 : PSDs X G s2 gs) : PSD X G (.If c s1 s2 pos) (ifS ga g gs) := fun A0 He pins s σ H D I ⟨ρ, o, ⟨A, w⟩, e, k⟩ => by
 refine Wa (@ht A) (@h1 A0 He) (@h2 A0 He) pins s σ H D I ?_
 unfold ifS at e
 split at e
 ·rename_i e1
  exact ⟨ρ, _, w.ok, e1, fun H1 s1 => iteT ⟨ρ, o, ⟨A, w.mono s1⟩, e, k⟩⟩
 ·rename_i e1
  exact ⟨ρ, _, w.ok, e1, fun H1 s1 => iteF ⟨ρ, o, ⟨A, w.mono s1⟩, e, k⟩⟩
 ·cases e
theorem Yh {A0 : List Addr} {He : Hp} {A : List Addr} {σ : St} {H : Hp} {ρ : Rho} {o : Out} {D : Ends} {i : Nat} (w : OkW G A0 He A σ H ρ) (e : setF i fa ρ = some o) (k : Jp G A0 He D o) : tAsg (tF G A fa) (Gw i) D σ H := by
 unfold setF at e
 cases e1 : fa ρ with
 | none => simp [e1] at e
 | some d =>
  simp only [e1, Option.map_some] at e
  cases e
  exact ⟨ρ, d, w.ok, e1, fun v H1 s1 r1 => k _ _ ⟨A, (w.mono s1).set r1 i⟩⟩
theorem Vg {i : Nat} {x : Str} {p : Pos} (h : ∀ te, PE X a te → PS X (.Assign [.Name x p] a pos) (tAsg te (Gw i))) (ha : PF X G a fa) : PSD X G (.Assign [.Name x p] a pos) (setF i fa) := fun A0 He pins s σ H D I ⟨ρ, o, ⟨A, w⟩, e, k⟩ =>
 h _ (@ha A) pins s σ H D I (Yh w e k)
theorem CT (ha : PF X G a fa) : PSD X G (.Return (some a) pos) (retF fa) := fun A0 He pins s σ H D I ⟨ρ, o, ⟨A, w⟩, e, k⟩ => by
 refine Q0 (@ha A) pins s σ H D I ?_
 unfold retF at e
 cases e1 : fa ρ with
 | none => simp [e1] at e
 | some d =>
  simp only [e1, Option.map_some] at e
  cases e
  exact ⟨ρ, d, w.ok, e1, fun v H1 s1 r1 => k v σ H1 A (w.mono s1) r1⟩
def tGD (G : Gx) (A0 : List Addr) (He : Hp) (g : FG) : TG := fun v σ H Q => ∃ A ρ d ρ', OkW G A0 He A σ H ρ ∧ Rep G (hid A H) v d ∧ g d ρ = some ρ' ∧ ∀ σ' H', OkS G A0 He σ' H' ρ' → Q σ' H'
def PGD (X : Cx) (G : Gx) (tg : Expr) (g : FG) : Prop := ∀ ⦃A0⦄ He, PG X tg (tGD G A0 He g)
theorem S_ {i : Nat} (h : PG X tg (Gw i)) : PGD X G tg (O2 i) := fun A0 He pins s σ H v u Q I r ⟨A, ρ, d, ρ', w, rv, e, k⟩ => by
 cases e
 exact h pins s σ H v u Q I r (k _ _ ⟨A, w.set rv i⟩)
theorem Jp.base {A0 : List Addr} {He Hf : Hp} {D : Ends} {o : Out} (k : Jp G A0 He D o) (s : Same He Hf) (l0 : ∀ a ∈ A0, He a ≠ none) : Jp G A0 Hf D o := by
 cases o with
 | nx ρ => exact fun σ H ⟨A, w⟩ => k σ H ⟨A, w.base s l0⟩
 | rt d ρ => exact fun v σ H A w r => k v σ H A (w.base s l0) r
 | bk ρ => exact fun σ H ⟨A, w⟩ => k σ H ⟨A, w.base s l0⟩
 | ct ρ => exact fun σ H ⟨A, w⟩ => k σ H ⟨A, w.base s l0⟩
theorem Vh {it : Expr} {src : FI} {fg : FG} (hp : PassesOwn (model X.prog X.w) X.A X.env X.xe) (hc : X.calm = true) (hi : PFI X G false tg it src) (hg : PGD X G tg fg) (hb : PSDs X G body gb)
  (hs : ∀ x, foldedSetIterable it X.env x = pure x := by intro _; rfl) : PSD X G (.For tg it body [] pos) (forS src fg gb) := fun A0 He pins s σ H D I ⟨ρ, o, ⟨A, w⟩, e, k⟩ => by
 cases e1 : src ρ with
 | none => simp [forS, e1] at e
 | some ds =>
  have e' : forF (fun d ρ => (fg d ρ).bind gb) ds ρ = some o := by
   have e2 : forF (tgB fg gb) ds ρ = some o := by simpa [forS, e1] using e
   exact e2
  have hb' : PSs X body (fun D σ H => ∃ A0 He, tS G A0 He gb D σ H) := fun pins s σ H D I ⟨A0, He, q⟩ => @hb A0 He pins s σ H D I q
  have hg' : PG X tg (fun v σ H Q => ∃ A0 He, tGD G A0 He fg v σ H Q) := fun pins s σ H v u Q I r ⟨A0, He, q⟩ => @hg A0 He pins s σ H v u Q I r q
  refine X6 hp hc (@hi A) hg' hb' hs pins s σ H D I ⟨ρ, ds, w.ok, e1, fun J H1 s1 sr => ?_⟩
  obtain ⟨sHe, w2⟩ := (w.mono s1).here
  have k2 := k.base sHe w.l0
  generalize hHf : hid (A.filter fun a => decide (a ∉ A0)) H1 = Hf at sHe w2 k2
  refine ⟨fun i m σ' H' => m = ds.length - i ∧ i ≤ ds.length ∧ ∃ ρ', OkS G A0 Hf σ' H' ρ' ∧ forF (fun d ρ => (fg d ρ).bind gb) (ds.drop i) ρ' = some o, ⟨ds.length, by simp, Nat.zero_le _, ρ, ⟨A, w2⟩, by simpa using e'⟩, ?_⟩
  rintro i m σ3 H3 ⟨rfl, hil, ρ3, ⟨B, w3⟩, e3⟩
  have pl : Same (hid A H1) (hid B H3) := by rw [← hHf] at w3; exact OkW.plain w.sub w3
  by_cases hlt : i < ds.length
  ·right
   have hd : ds[i]? = some ds[i] := by simp [hlt]
   have ed : ds.drop i = ds[i] :: ds.drop (i + 1) := List.drop_eq_getElem_cons hlt
   rw [ed] at e3
   unfold forF at e3
   refine ⟨sr.go i H3 (pl.trans CV) hlt, fun σ' H' => ∃ ρ', OkS G A0 Hf σ' H' ρ' ∧ forF (fun d ρ => (fg d ρ).bind gb) (ds.drop (i + 1)) ρ' = some o, fun σ' H' q => ⟨ds.length - (i + 1), by omega, rfl, hlt, q⟩, fun x H' y => ?_⟩
   obtain ⟨sy, rx⟩ := sr.yld i H3 x H' _ (pl.trans CV) hd y
   refine ⟨A0, Hf, B, ρ3, ds[i], ?_⟩
   cases e4 : fg ds[i] ρ3 with
   | none => simp [e4] at e3
   | some ρ4 =>
    refine ⟨ρ4, w3.mono sy, rx B w3.ok.live pl, rfl, fun σ5 H5 ok5 => ⟨A0, Hf, ρ4, ?_⟩⟩
    cases e5 : gb ρ4 with
    | none => simp [e4, e5] at e3
    | some o5 =>
     refine ⟨o5, ok5, rfl, ?_⟩
     cases o5 with
     | nx ρ5 =>
      simp only [e4, e5, Option.bind_some] at e3
      exact fun σ' H' ok' => ⟨ρ5, ok', e3⟩
     | ct ρ5 =>
      simp only [e4, e5, Option.bind_some] at e3
      exact fun σ' H' ok' => ⟨ρ5, ok', e3⟩
     | bk ρ5 =>
      simp only [e4, e5, Option.bind_some] at e3
      cases e3
      exact fun σ' H' ok' => k2 σ' H' ok'
     | rt d5 ρ5 =>
      simp only [e4, e5, Option.bind_some] at e3
      cases e3
      exact k2
  ·left
   have ei : i = ds.length := by omega
   subst ei
   rw [List.drop_length] at e3
   cases e3
   exact ⟨sr.stop _ H3 (pl.trans CV) (Nat.le_refl _), k2 σ3 H3 ⟨B, w3⟩⟩
theorem Qj (n : Nat) (hp : PassesOwn (model X.prog X.w) X.A X.env X.xe) (ht : PFT X G c ga) (hb : PSDs X G body gb) : PSD X G (.While c body [] pos) (FW ga gb n) := fun A0 He pins s σ H D I ⟨ρ, o, ok, e, k⟩ => by
 have ht' : PT X c (fun σ H Q => ∃ A, tFT G A ga σ H Q) := fun pins s σ H Q I ⟨A, q⟩ => @ht A pins s σ H Q I q
 refine Q3 hp ht' (@hb A0 He) pins s σ H D I ⟨fun m σ' H' => ∃ ρ', OkS G A0 He σ' H' ρ' ∧ FW ga gb m ρ' = some o, ⟨n, ρ, ok, e⟩, ?_⟩
 rintro m σ1 H1 ⟨ρ1, ⟨A, w1⟩, e1⟩
 cases m with
 | zero => cases e1
 | succ m =>
  unfold FW at e1
  cases e2 : ga ρ1 with
  | none => simp [e2] at e1
  | some t =>
   refine ⟨A, ρ1, t, w1.ok, e2, fun H2 s2 => ?_⟩
   cases t with
   | false =>
    refine iteF ?_
    simp only [e2] at e1
    cases e1
    exact k σ1 H2 ⟨A, w1.mono s2⟩
   | true =>
    refine iteT ⟨fun σ' H' => ∃ ρ', OkS G A0 He σ' H' ρ' ∧ FW ga gb m ρ' = some o, fun σ' H' q => ⟨m, Nat.lt_succ_self m, q⟩, ρ1, ?_⟩
    simp only [e2] at e1
    cases e3 : gb ρ1 with
    | none => simp [e3] at e1
    | some o3 =>
     refine ⟨o3, ⟨A, w1.mono s2⟩, rfl, ?_⟩
     cases o3 with
     | nx ρ5 => simp only [e3] at e1; exact fun σ' H' ok' => ⟨ρ5, ok', e1⟩
     | ct ρ5 => simp only [e3] at e1; exact fun σ' H' ok' => ⟨ρ5, ok', e1⟩
     | bk ρ5 => simp only [e3] at e1; cases e1; exact fun σ' H' ok' => k σ' H' ok'
     | rt d5 ρ5 => simp only [e3] at e1; cases e1; exact k
end
def spD (G : Gx) (g : List D → Option D) : Sp := fun vs H Q _ => ∃ A ds d, (∀ a ∈ A, Nt (H a)) ∧ RepL G (hid A H) vs ds ∧ g ds = some d ∧ ∀ v H', Same H H' → Rep G (hid A H') v d → Q v H'
section
variable {X : Cx} {G : Gx} {a : Expr} {es : List Expr} {fs : FA} {pos p : Pos}
theorem Zt {k : Nat} {f : Addr} {fd : FuncData} {ps : List Str} {g : List D → Option D} {x : Str} (F : FnOk X.prog X.w X.K X.mg X.base CX0 k f fd ps (spD G g)) (hr : Room k X.A) (hg : Gl X x) (hm : X.mg x = some (.ref f)) (hk : PySem.W.keepIn X.K (.ref f) = true)
  (hb : Binds X.K fd ps []) (ha : PFA X G (a :: es) fs) (hdb : (x == ("__debug__" : Str)) = false := by decide) (he : starEach (a :: es) X.env = (false, eval a X.env) :: starEach es X.env := by rfl) (hpl : (backTo pos (starEach es X.env)).any (·.1) = false := by rfl) :
  PF X G (.Call (.Name x p) (a :: es) [] pos) (Ek g fs) := fun A => Dj (U3 F hr hg hm hk hb .nil Mg (@ha A) hdb he hpl) fun σ H Q ⟨ρ, d, o, e, k⟩ => by
 unfold Ek at e
 cases e1 : fs ρ with
 | none => simp [e1] at e
 | some ds =>
  have e' : g ds = some d := by simpa [e1] using e
  refine ⟨ρ, ds, o, e1, fun vs H1 s1 r1 => ⟨A, ds, d, (o.mono s1).live, by rw [List.append_nil]; exact r1, e', fun v H2 s2 r2 => k v H2 (s1.trans s2) r2⟩⟩
end
theorem Jq {G : Gx} {A : List Addr} {H : Hp} {N : List Str} {vs : List V} {ds : List D} (live : ∀ a ∈ A, Nt (H a)) (r : RepL G (hid A H) vs ds) (hn : vs.length ≤ N.length) : OkS G A H (start N vs) H (Do N.length ds) := by
 have key : ∀ (i : Nat) (z : Slot), (Do N.length ds)[i]? = some z → (∃ d, z = .fz d ∧ ds[i]? = some d) ∨ z = .un := fun i z h => by
  unfold Do at h
  by_cases hi : i < ds.length
  ·rw [List.getElem?_append_left (by simpa using hi), List.getElem?_map] at h
   cases e : ds[i]? with
   | none => rw [e] at h; cases h
   | some d => rw [e] at h; exact .inl ⟨d, (Option.some.inj h).symm, rfl⟩
  ·rw [List.getElem?_append_right (by simpa using Nat.not_lt.mp hi), List.getElem?_replicate] at h
   split at h
   ·exact .inr (Option.some.inj h).symm
   ·cases h
 refine ⟨A, Same.refl H, fun _ h => h, fun a h => .inl h, fun a ha => (live a ha).ne, ⟨?_, live, fun i d h => ?_, fun i d h => ?_, fun i j d e a h _ _ _ => ?_⟩, fun i d a h _ => ?_, fun x d _ h => ?_⟩
 ·unfold L2.start Do
  rw [List.length_append, List.length_append, List.length_map, List.length_map, List.length_replicate, List.length_replicate, r.1]
 ·rcases key i _ h with ⟨d', e, hd⟩ | e
  ·cases e
   obtain ⟨v, h1, h2⟩ := r.get hd
   refine ⟨v, ?_, h2⟩
   unfold L2.start
   rw [List.getElem?_append_left (by rw [List.length_map]; exact (List.getElem?_eq_some_iff.mp h1).1), List.getElem?_map, h1]
   rfl
  ·cases e
 ·rcases key i _ h with ⟨d', e, hd⟩ | e
  ·cases e
  ·cases e
 ·rcases key i _ h with ⟨d', e, hd⟩ | e
  ·cases e
  ·cases e
 ·rcases key i _ h with ⟨d', e, hd⟩ | e
  ·cases e
  ·cases e
 ·rcases key 0 _ h with ⟨d', e, hd⟩ | e
  ·cases e
  ·cases e
theorem fn_D {P : Program} {w : World} {G : Gx} {mg : Str → Option Value} {base : Heap} {x qual : Str} {st : Stmt} {f : Addr} {fd : FuncData} {N ps : List Str} {k : Nat} {b : FS} (F : Fun G.K x qual st f fd) (S : FnScope N ps (Ab st)) (hl : ps.length ≤ N.length)
  (hb : ∀ (cdv : Value) (A : Around) (outer : List Env) (s : Shared) (H : Hp) (E : XK), Room k (A.deeper (envOfC qual (Ab st) s.heap.objs.size f cdv)) → PSDs (cxOf CX0 P w G.K mg base N qual (Ab st) f cdv A outer s H E).nox G (CP st) b) :
  FnOk P w G.K mg base CX0 (k + 1) f fd ps (spD G (runF N.length ps.length b)) := by
 refine F.ok S (fun vs H Q E h => ?_) (fun cdv A outer s H vs Q E hr h => ?_)
 ·obtain ⟨A, ds, d, lv, r, e, _⟩ := h
  unfold runF at e
  split at e
  ·rename_i hz; rw [r.1]; exact hz
  ·cases e
 ·obtain ⟨A0, ds, d, lv, r, e, k⟩ := h
  unfold runF at e
  split at e
  ·rename_i hz
   have hzz := hb cdv A outer s H E hr
   refine ⟨_, @hzz A0 H, Do N.length ds, ?_⟩
   cases e1 : b (Do N.length ds) with
   | none => simp [e1] at e
   | some o =>
    refine ⟨o, Jq lv r (by rw [r.1, hz]; exact hl), rfl, ?_⟩
    cases o with
    | nx ρ =>
     simp only [e1] at e
     cases e
     exact fun σ H' ⟨A, w⟩ => k _ H' w.same .non
    | rt d' ρ' =>
     simp only [e1] at e
     cases e
     exact fun v σ H' A w r' => k v H' w.same (r'.mono (Df w.sub))
    | bk ρ => simp [e1] at e
    | ct ρ => simp [e1] at e
  ·cases e
end PV
namespace PV
open PySem PySem.Spec L2
open PyProof.Rows hiding St
section
variable {X : Cx} {G : Gx} {a b c : Expr} {fa fb fc : FE} {pos p2 px : Pos} {scope : Scope} {t : Str} {elt iter : Expr} {ifs : List Expr} {ga : FT} {fe : FE} {src : FI}
def PFTs (X : Cx) (G : Gx) (ifs : List Expr) (f : FT) : Prop := ∀ ⦃A⦄, PTs X ifs (tFT G A f)
theorem M3 : PFTs X G [] allT := fun A pins s σ H Q I ⟨ρ, b, o, e, k⟩ => by
 cases e
 exact VP pins s σ H Q I (k H (Same.refl H))
theorem Okp.fill {A : List Addr} {σ : St} {H Hc : Hp} {ρ : Rho} {p : Addr} (o : Okp G A σ H ρ) (s : Same H Hc) (hp : H p = none) (hc : Nt (Hc p)) : Okp G (p :: A) σ Hc ρ := by
 have sm : Same (hid A H) (hid (p :: A) Hc) := fun b u h => by
  unfold hid at h
  split at h
  ·cases h
  ·rename_i hb
   rw [Cu]
   ·exact s b u h
   ·intro z
    rcases List.mem_cons.mp z with z | z
    ·rw [z, hp] at h; cases h
    ·exact hb z
 refine ⟨o.len, fun a ha => ?_, fun i d h => ?_, fun i d h => ?_, o.inj⟩
 ·rcases List.mem_cons.mp ha with z | z
  ·rw [z]; exact hc
  ·exact (o.mono s).live a z
 ·obtain ⟨v, h1, h2⟩ := o.fz i d h
  exact ⟨v, h1, h2.mono sm⟩
 ·obtain ⟨a, h1, h2, h3⟩ := o.ow i d h
  refine ⟨a, h1, List.mem_cons_of_mem _ h2, ?_⟩
  cases d with
  | lst ds => obtain ⟨xs, q1, q2⟩ := h3; exact ⟨xs, s _ _ q1, q2.mono sm⟩
  | dk ds => obtain ⟨xs, q1, q2, q3⟩ := h3; exact ⟨xs, s _ _ q1, q2, q3.mono sm⟩
  | dt ds => obtain ⟨xs, q1, q2, q3⟩ := h3; exact ⟨xs, s _ _ q1, q2, q3.mono sm⟩
  | ob c gs => obtain ⟨C, dx, xs, q1, q2, q3⟩ := h3; exact ⟨C, dx, xs, s _ _ q1, q2, q3.mono sm⟩
  | _ => exact h3.elim
theorem Okp.snoc {A : List Addr} {σ : St} {H : Hp} {ρ : Rho} {v : V} {d : D} (o : Okp G A σ H ρ) (r : Rep G (hid A H) v d) : Okp G A (σ ++ [some v]) H (ρ ++ [.fz d]) := by
 have key : ∀ (j : Nat) (z : Slot), (ρ ++ [.fz d])[j]? = some z → (j = ρ.length ∧ z = .fz d) ∨ (j < ρ.length ∧ ρ[j]? = some z) := fun j z h => by
  by_cases hj : j < ρ.length
  ·rw [List.getElem?_append_left hj] at h; exact .inr ⟨hj, h⟩
  ·rw [List.getElem?_append_right (Nat.not_lt.mp hj)] at h
   cases q : j - ρ.length with
   | zero => rw [q] at h; exact .inl ⟨by omega, (Option.some.inj h).symm⟩
   | succ n => rw [q] at h; cases h
 have keyS : ∀ (j : Nat), j < ρ.length → (σ ++ [some v])[j]? = σ[j]? := fun j hj => List.getElem?_append_left (by rw [o.len]; exact hj)
 refine ⟨by rw [List.length_append, List.length_append, o.len]; rfl, o.live, fun j e h => ?_, fun j e h => ?_, fun j k e f p h1 h2 h3 h4 => ?_⟩
 ·rcases key j _ h with ⟨hj, hz⟩ | ⟨hj, hz⟩
  ·cases hz
   subst hj
   exact ⟨v, by rw [List.getElem?_append_right (by rw [o.len]; exact Nat.le_refl _), o.len, Nat.sub_self]; rfl, r⟩
  ·obtain ⟨u, q1, q2⟩ := o.fz j e hz
   exact ⟨u, by rw [keyS j hj]; exact q1, q2⟩
 ·rcases key j _ h with ⟨hj, hz⟩ | ⟨hj, hz⟩
  ·cases hz
  ·obtain ⟨u, q1, q2⟩ := o.ow j e hz
   exact ⟨u, by rw [keyS j hj]; exact q1, q2⟩
 ·rcases key j _ h1 with ⟨_, hz⟩ | ⟨hj, hz⟩
  ·cases hz
  ·rcases key k _ h2 with ⟨_, hz'⟩ | ⟨hk, hz'⟩
   ·cases hz'
   ·rw [keyS j hj] at h3
    rw [keyS k hk] at h4
    exact o.inj j k e f p hz hz' h3 h4
theorem Vi {A : List Addr} {σ : St} {H : Hp} {Q : VK} (h : tF G A (HR src ga fe) σ H Q) : XH (tI G A true src) (fun σ H Q => ∃ A, tFT G A ga σ H Q) (fun σ H Q => ∃ A, tF G A fe σ H Q) σ H Q := by
 obtain ⟨ρ, d, o, e, k⟩ := h
 unfold HR at e
 cases e1 : src ρ with
 | none => simp [e1] at e
 | some ds =>
  rw [e1] at e
  have e' : (if ds.length ≤ sizeLine then (FJ ρ ga fe ds).map D.lst else none) = some d := e
  split at e'
  ·rename_i hz
   cases e2 : FJ ρ ga fe ds with
   | none => simp [e2] at e'
   | some out =>
    simp only [e2, Option.map_some] at e'
    cases e'
    refine ⟨ρ, ds, o, e1, fun J H1 s1 sr p hp => ?_⟩
    have o1 := o.mono s1
    have npA : p ∉ A := fun z => (o1.live p z).ne hp
    refine ⟨fun i m ys Hc => m = ds.length - i ∧ i ≤ ds.length ∧ Hc p = some (.lst ys) ∧ Same H1 Hc ∧ ys.length ≤ i ∧ ∃ es rest, RepL G (hid (p :: A) Hc) ys es ∧ FJ ρ ga fe (ds.drop i) = some rest ∧ es ++ rest = out,
     ⟨ds.length, by simp, Nat.zero_le _, B_, DQ hp _, Nat.le_refl _, [], out, RepL.nil, by simpa using e2, rfl⟩, ?_⟩
    rintro i m ys Hc ⟨rfl, hil, hpc, sc, hy, es, rest, rr, er, eo⟩
    by_cases hlt : i < ds.length
    ·right
     have hd : ds[i]? = some ds[i] := by simp [hlt]
     have ed : ds.drop i = ds[i] :: ds.drop (i + 1) := List.drop_eq_getElem_cons hlt
     rw [ed] at er
     unfold FJ at er
     refine ⟨sr.go i Hc sc hlt, fun x H' y => ?_⟩
     obtain ⟨sy, rx⟩ := sr.yld i Hc x H' _ sc hd y
     have okc : Okp G (p :: A) σ Hc ρ := o1.fill sc hp (by rw [hpc]; exact Nt.lst)
     have sm : Same (hid A H1) (hid (p :: A) Hc) := fun b u h => by
      unfold hid at h
      split at h
      ·cases h
      ·rename_i hb
       rw [Cu]
       ·exact sc b u h
       ·intro z
        rcases List.mem_cons.mp z with z | z
        ·rw [z, hp] at h; cases h
        ·exact hb z
     have ok2 := (okc.mono sy).snoc (rx _ okc.live sm)
     have hpc := sy _ _ hpc
     have rr := rr.mono (CZ sy)
     have sc := sc.trans sy
     cases eg : ga (ρ ++ [.fz ds[i]]) with
     | none => simp [eg] at er
     | some b =>
      refine ⟨p :: A, _, b, ok2, eg, fun H2 s2 => ?_⟩
      cases b with
      | false =>
       refine iteF ⟨ds.length - (i + 1), by omega, rfl, hlt, s2 _ _ hpc, sc.trans s2, Nat.le_succ_of_le hy, es, rest, rr.mono (CZ s2), by simpa [eg] using er, eo⟩
      | true =>
       simp only [eg] at er
       cases ee : fe (ρ ++ [.fz ds[i]]) with
       | none => simp [ee] at er
       | some yd =>
        cases ec : FJ ρ ga fe (ds.drop (i + 1)) with
        | none => simp [ee, ec] at er
        | some rest' =>
         simp only [ee, ec, Option.bind_some, Option.map_some] at er
         cases er
         refine iteT ⟨p :: A, _, yd, ok2.mono s2, ee, fun yv H3 s3 r3 => ?_⟩
         have hp3 := s3 _ _ (s2 _ _ hpc)
         refine ⟨hp3, by omega, ds.length - (i + 1), by omega, rfl, hlt, B_, fun b u q => ?_, by rw [List.length_append]; simp; omega, es ++ [yd], rest', ?_, ec, by rw [List.append_assoc]; exact eo⟩
         ·have hb : b ≠ p := Bu q hp
          rw [BP hb]
          exact s3 _ _ (s2 _ _ (sc _ _ q))
         ·rw [Hl List.mem_cons_self]
          exact (rr.mono (CZ (s2.trans s3))).append (.cons r3 .nil)
    ·left
     have ei : i = ds.length := by omega
     subst ei
     rw [List.drop_length] at er
     simp only [FJ] at er
     cases er
     rw [List.append_nil] at eo
     subst eo
     refine ⟨sr.stop _ Hc sc (Nat.le_refl _), k _ Hc (s1.trans sc) ?_⟩
     have q := rr.mono (Df (A := A) fun a ha => List.mem_cons_of_mem _ ha)
     exact .lst (.of (by rw [Cu npA]; exact hpc)) q.1 q.2
  ·cases e'
theorem Py (N' : List Str) (eN : El t X.N ++ [t] = N') (c : CompOk X scope t) (hc : X.calm = true) (hi : PFI X G true (.Name t px) iter src) (hI : ∀ s2 H2 fp, PFTs { Gk X scope t s2 H2 fp with N := N' } G ifs ga) (hE : ∀ s2 H2 fp, PF { Gk X scope t s2 H2 fp with N := N' } G elt fe)
  (hs : ∀ x, foldedSetIterable iter X.env x = pure x := by intro _; rfl) : PF X G (.ListComp elt [⟨.Name t px, iter, ifs, 0⟩] scope pos) (HR src ga fe) := by
 subst eN
 intro A
 refine Dj (VR (tc := fun σ H Q => ∃ A, tFT G A ga σ H Q) (te := fun σ H Q => ∃ A, tF G A fe σ H Q) c hc (@hi A) (fun s2 H2 fp => ?_) (fun s2 H2 fp => ?_) hs) fun _ _ _ h => Vi h
 ·exact fun pins s σ H Q I ⟨A, q⟩ => hI s2 H2 fp pins s σ H Q I q
 ·exact fun pins s σ H Q I ⟨A, q⟩ => hE s2 H2 fp pins s σ H Q I q
end
end PV
namespace PV
open PySem PySem.Spec L2
open PyProof.Rows hiding St
section
variable {prog : Program} {w : World} {A : Around} {R : Result → Shared → Prop} {I : Addr} {fp wr : List Addr} {n : Nat} {P : Nat → Value → Prop} {Sx : Nat → Heap → Prop} {kw : List (Str × Value)}
end
section
variable {prog : Program} {w : World} {A : Around} {E : Value → Shared → Prop} {s : Shared} {l : Addr} {xs : Array (Int × Tok)}
end
section
variable {X : Cx} {G : Gx} {a b : Expr} {fa fb : FE} {pos p kpos : Pos}
theorem Jr {H : Hp} : ∀ {ds : List D} {xs : List V} {ns : List Str}, RepL G H xs ds → Fv ds = some ns → xs = ns.map V.str
 | [], xs, ns, r, h => by cases h; rw [r.nil_inv]; rfl
 | d :: ds, xs, ns, r, h => by
  obtain ⟨x, ys, rfl, r1, r2⟩ := r.uncons
  cases d with
  | str i =>
   simp only [Fv] at h
   cases e : Fv ds with
   | none => simp [e] at h
   | some ms =>
    simp only [e, Option.map_some] at h
    cases h
    cases r1
    rw [Jr r2 e]
    rfl
  | _ => simp [Fv] at h
theorem Js {ns : List Str} : ∀ {us : List Value}, Vals (ns.map V.str) us → StrsAre us ns := by
 induction ns with
 | nil => intro us r; cases r; exact .nil
 | cons n ns ih =>
  intro us r
  rw [List.map_cons] at r
  cases r with
  | cons r1 r2 =>
   obtain ⟨tk, rfl⟩ := r1
   exact .cons n tk (ih r2)
theorem Vj : MtR X "str.join" (fun x vs H Q => ∃ z p ys, x = .str z ∧ vs = [.ref p] ∧ (SqL X.K H p (ys.map V.str) ∨ SqT X.K H p (ys.map V.str)) ∧ (ys.map (·.length)).sum + ys.length * z.length ≤ 16777216 ∧ Q (.str (Txt.join z ys)) H) := by
 intro pins s σ H x xs v us Q I rx rs h
 obtain ⟨z, p, ys, rfl, rfl, hs, hz, k⟩ := h
 obtain ⟨t, rfl⟩ := rx
 obtain ⟨u, rfl, ru⟩ := vals1 rs
 cases ru
 rcases hs with hs | hs
 ·obtain ⟨its, rv, pl, _⟩ := I.list hs
  exact join_list pl.isList (by simpa using Js rv) hz fun t' tk => ⟨.str _, H, I.tok _, ⟨t', rfl⟩, k⟩
 ·obtain ⟨its, rv, pl, _⟩ := I.tuple hs
  exact join_tuple (show s.heap.IsTuple p its.toArray from pl) (by simpa using Js rv) hz fun t' tk => ⟨.str _, H, I.tok _, ⟨t', rfl⟩, k⟩
theorem Le {apos : Pos} (hG : G.K = X.K) (ha : PU X G a fa) (hb : PU X G b fb) (hbase : attributeBase a "join" X.env (eval a X.env) = eval a X.env := by rfl)
  (hfew : ((backTo pos (starEach [b] X.env)).all (fun x => !x.1) && (backToKw pos (keywordEach [] X.env)).all (fun x => x.1.isSome) && decide ([b].length + ([] : List Keyword).length + (if ([] : List Keyword).isEmpty then 0 else 1) < 30)) = true := by rfl)
  (hline : (apos.endLine == pos.line) = true := by rfl) (hs : starEach [b] X.env = [(false, eval b X.env)] := by rfl) :
  PF X G (.Call (.Attribute a "join" apos) [b] [] pos) (bF Hv fa fb) := fun A => Dj (Zh PySem.F.plainAttrs_str PySem.F.slot_str_join PySem.F.type_str_join Vj (@ha A) (Dw (@hb A) Hh hs) hbase hfew hline hs rfl) fun σ H Q ⟨ρ, d, o, e, k⟩ => by
 obtain ⟨dx, dy, e1, e2, e3⟩ := Pr e
 unfold Hv at e3
 split at e3
 ·rename_i z ds
  cases ei : Fv ds with
  | none => simp [ei] at e3
  | some ys =>
   simp only [ei, Option.bind_some] at e3
   split at e3
   ·rename_i hz
    cases e3
    refine ⟨ρ, _, o, e1, fun v H1 s1 r1 => ?_⟩
    cases r1.str
    refine ⟨rfl, ρ, _, o.mono s1, e2, fun u H2 s2 r2 => ?_⟩
    obtain ⟨q, xs, rfl, h1, rr⟩ := r2.lst
    have ex := Jr rr ei
    subst ex
    exact ⟨z, q, ys, rfl, rfl, by rw [← hG]; exact .inl h1, hz, by rw [show Txt.join z ys = Str.join z ys from StrLaws.glued_eq_join z ys]; exact k _ H2 (s1.trans s2) (.str _)⟩
   ·cases e3
 ·rename_i z ds
  cases ei : Fv ds with
  | none => simp [ei] at e3
  | some ys =>
   simp only [ei, Option.bind_some] at e3
   split at e3
   ·rename_i hz
    cases e3
    refine ⟨ρ, _, o, e1, fun v H1 s1 r1 => ?_⟩
    cases r1.str
    refine ⟨rfl, ρ, _, o.mono s1, e2, fun u H2 s2 r2 => ?_⟩
    obtain ⟨q, xs, rfl, h1, rr⟩ := r2.tup
    have ex := Jr rr ei
    subst ex
    exact ⟨z, q, ys, rfl, rfl, by rw [← hG]; exact .inr h1, hz, by rw [show Txt.join z ys = Str.join z ys from StrLaws.glued_eq_join z ys]; exact k _ H2 (s1.trans s2) (.str _)⟩
   ·cases e3
 ·cases e3
theorem Vk (K : PySem.W.Frag) (n T : String) : PySem.W.kitOne K (.type n) (.type T) = PySem.W.kitOne [] (.type n) (.type T) := rfl
def TyX (K : PySem.W.Frag) (H : Hp) (x : V) (n : String) : Prop :=
 TyOf K H x (.type n) ∨ (n = "list" ∧ ∃ a xs, x = .ref a ∧ SqL K H a xs) ∨ (n = "tuple" ∧ ∃ a xs, x = .ref a ∧ SqT K H a xs)
theorem Yi {A : List Addr} {H : Hp} {v : V} {d : D} {n : String} (r : RepT G A H v d) (h : tyD d = some n) : TyX G.K H v n := by
 cases d with
 | non => cases h; rw [r.non]; exact .inl .non
 | bl b => cases h; rw [r.bl]; exact .inl (.bl b)
 | int b => cases h; rw [r.int]; exact .inl (.int b)
 | str b => cases h; rw [r.str]; exact .inl (.str b)
 | lst ds => cases h; obtain ⟨a, xs, e, q, _⟩ := r.lst; exact .inr (.inl ⟨rfl, a, xs, e, q⟩)
 | tup ds => cases h; obtain ⟨a, xs, e, q, _⟩ := r.tup; exact .inr (.inr ⟨rfl, a, xs, e, q⟩)
 | _ => cases h
theorem TF (T : String) : Gy X (.builtin "isinstance") (fun xs H Q => ∃ x n b, xs = [x, .ty T] ∧ TyX X.K H x n ∧ PySem.W.kitOne X.K (.type n) (.type T) = some b ∧ Q (.bl b) H) := by
 intro pins s σ H xs us Q I r h
 obtain ⟨x, n, b, rfl, ty, e, k⟩ := h
 obtain ⟨u, c, rfl, ru, rc⟩ := vals2 r
 cases rc
 rcases ty with ty | ⟨rfl, a, ys, rfl, q⟩ | ⟨rfl, a, ys, rfl, q⟩
 ·exact Qa I ru ty e fun tk => ⟨.bl b, H, I.tok _, rfl, k⟩
 ·cases ru
  obtain ⟨its, _, p, _⟩ := I.list q
  obtain ⟨o, ho, hc, _⟩ := p.isList
  exact PySem.W.kia_one PySem.W.kitx_list I.kIn ⟨o, ho, hc⟩ e (fun z => nomatch z) fun tk => ⟨.bl b, H, I.tok _, rfl, k⟩
 ·cases ru
  obtain ⟨its, _, p, _⟩ := I.tuple q
  obtain ⟨o, ho, hc, _⟩ := (show s.heap.IsTuple a its.toArray from p)
  exact PySem.W.kia_one PySem.W.kitx_tuple I.kIn ⟨o, ho, hc⟩ e (fun z => nomatch z) fun tk => ⟨.bl b, H, I.tok _, rfl, k⟩
def Jt (T : String) : Bool := (["NoneType", "bool", "int", "str", "list", "tuple"] : List String).all fun n => PySem.W.kitOne [] (.type n) (.type T) == some (n == T || (n == "bool" && T == "int"))
theorem Qk {T : String} (h : Jt T = true) {d : D} {n : String} (e : tyD d = some n) : PySem.W.kitOne [] (.type n) (.type T) = some (n == T || (n == "bool" && T == "int")) := by
 unfold Jt at h
 rw [List.all_eq_true] at h
 have m : n ∈ (["NoneType", "bool", "int", "str", "list", "tuple"] : List String) := by
  cases d <;> simp [tyD] at e <;> subst e <;> simp
 simpa using h n m
theorem TJ {x t : Str} {T : String} {tp : Pos} (hT : Jt T = true) (hG : G.K = X.K) (hg : Gl X x) (hm : X.mg x = none) (hv : bootBuiltins x = some (.builtin "isinstance")) (ht : Gl X t) (hmt : X.mg t = none) (hvt : bootBuiltins t = some (.type T)) (ha : PU X G a fa)
  (hn : x ≠ "__name__" := by decide) (hdb : (x == ("__debug__" : Str)) = false := by decide) (hnt : t ≠ "__name__" := by decide) (hdt : (t == ("__debug__" : Str)) = false := by decide) (he : starEach [a, .Name t tp] X.env = (false, eval a X.env) :: starEach [.Name t tp] X.env := by rfl) (he2 : starEach [.Name t tp] X.env = [(false, eval (.Name t tp) X.env)] := by rfl) :
  PF X G (.Call (.Name x p) [a, .Name t tp] [] pos) (uF (isiD T) fa) := fun A => Dj (Ma (TF T) hg hm hv (Dw (@ha A) (Dw (Us (v := .ty T) ht hmt hvt rfl hnt hdt) Hh he2) he) hn hdb he (by rw [he2]; rfl)) fun σ H Q ⟨ρ, d, o, e, k⟩ => by
 obtain ⟨dx, e1, e2⟩ := JV e
 unfold isiD at e2
 cases et : tyD dx with
 | none => simp [et] at e2
 | some n =>
  simp only [et, Option.map_some] at e2
  cases e2
  exact ⟨ρ, dx, o, e1, fun v H1 s1 r1 => ⟨v, n, _, rfl, by rw [← hG]; exact Yi r1 et, by rw [Vk]; exact Qk hT et, k _ H1 s1 (.bl _)⟩⟩
theorem Vl : Jt "str" = true := by decide +kernel
theorem Ql : Jt "tuple" = true := by decide +kernel
end
end PV
namespace PV
open PySem PySem.Spec L2
open PyProof.Rows hiding St
theorem G5 : bootBuiltins "len" = some (.builtin "len") := by decide +kernel
theorem HW : bootBuiltins "isinstance" = some (.builtin "isinstance") := by decide +kernel
theorem Yj : bootBuiltins "str" = some (.type "str") := by decide +kernel
def Lf (N : List Str) (sc scope : Scope) (t : Str) : Bool :=
 scope.names.all (fun y => y.2 != .cell) && scope.kind == .function && scope.names.all (fun y => y.2 != .local || scope.names.lookup y.1 == some .local) && scope.names.lookup t == some .local
  && scope.names.all (fun y => y.2 != .local || y.1 == t || !N.contains y.1) && scope.names.all (fun y => y.2 != .free || sc.names.lookup y.1 == some .cell || sc.names.lookup y.1 == some .free) && scope.names.all (fun y => y.1 != Str.empty) && decide (El t N ++ [t]).Nodup
theorem Qm {X : Cx} {N : List Str} {sc scope : Scope} {t : Str} (hN : X.N = N) (hs : X.env.scope = sc) (h : Lf N sc scope t = true) : CompOk X scope t := by
 unfold Lf at h
 simp only [Bool.and_eq_true, List.all_eq_true, decide_eq_true_eq, beq_iff_eq, bne_iff_ne, Bool.or_eq_true, ne_eq] at h
 obtain ⟨⟨⟨⟨⟨⟨⟨h1, h2⟩, h3⟩, h4⟩, h5⟩, h6⟩, h7⟩, h8⟩ := h
 refine ⟨h1, h2, fun y hy e => ?_, h4, fun y hy e => ?_, fun y hy e => ?_, h7, by rw [hN]; exact h8⟩
 ·rcases h3 y hy with z | z
  ·exact absurd e z
  ·exact z
 ·rcases h5 y hy with (z | z) | z
  ·exact absurd e z
  ·exact .inl z
  ·right
   rw [hN]
   simpa using z
 ·have hk : ∀ x, X.env.kindOf x = sc.names.lookup x := fun x => by rw [← hs]; rfl
  rw [hk]
  rcases h6 y hy with (z | z) | z
  ·exact absurd e z
  ·exact .inl z
  ·exact .inr z
theorem Vm {P : Program} {w : World} {K : PySem.W.Frag} {mg : Str → Option Value} {base : Heap} {G : Gx} {k : Nat} {f : Addr} {fd : FuncData} {ps : List Str} : FnOk P w K mg base CX0 k f fd ps (spD G fun _ => none) := by
 have no : ∀ vs H Q E, ¬ spD G (fun _ => none) vs H Q E := fun vs H Q E ⟨_, _, _, _, _, e, _⟩ => nomatch e
 exact ⟨fun vs H Q E h => absurd h (no vs H Q E), fun A outer s H args us vs Q E _ _ _ _ h => absurd h (no vs H Q E)⟩
theorem Kq {G : Gx} {a : Addr} {od : Option Addr} {n : Nat} {sl : Array (Option Value)} {its : Array Value} {xs : List Str} (h : G.K.lookup a = some ⟨.type "tuple", od, .seq its n, sl⟩) (hz : its.size ≤ sizeLine) (r : Vals (xs.map V.str) its.toList) : Rep G (fun _ => none) (.ref a) (.tup (xs.map .str)) := by
 refine .tup (xs := xs.map V.str) (.inr ⟨_, its, n, h, rfl, rfl, hz, r⟩) (by simp) fun i x d h1 h2 => ?_
 rw [List.getElem?_map] at h1 h2
 cases e : xs[i]? with
 | none => rw [e] at h1; cases h1
 | some z => rw [e] at h1 h2; cases h1; cases h2; exact .str z
end PV
namespace PySem
end PySem
namespace PV
open PySem PySem.Spec L2
open PyProof.Rows hiding St
section
variable {X : Cx} {G : Gx} {a b c : Expr} {fa fb fc : FE} {pos p2 px : Pos} {es : List Expr} {fs : FA}
def tN (G : Gx) (A : List Addr) (f : FE) : TE := fun σ H Q => ∃ ρ d, Okp G A σ H ρ ∧ f ρ = some d ∧ ∀ p H', Same H H' → H p = none → Top G (p :: A) H' p d → Q (.ref p) H'
def PN (X : Cx) (G : Gx) (e : Expr) (f : FE) : Prop := ∀ ⦃A⦄, PE X e (tN G A f)
theorem Kr {A : List Addr} {H H' : Hp} {p : Addr} (s : Same H H') (hp : H p = none) : Same (hid A H) (hid (p :: A) H') := fun b u h => by
 unfold hid at h
 split at h
 ·cases h
 ·rename_i hb
  rw [Cu]
  ·exact s b u h
  ·intro z
   rcases List.mem_cons.mp z with z | z
   ·rw [z, hp] at h; cases h
   ·exact hb z
theorem Top.fill {A : List Addr} {H H' : Hp} {p q : Addr} {d : D} (t : Top G A H q d) (s : Same H H') (hp : H p = none) : Top G (p :: A) H' q d := by
 have sm := Kr (A := A) s hp
 cases d with
 | lst ds => obtain ⟨xs, q1, q2⟩ := t; exact ⟨xs, s _ _ q1, q2.mono sm⟩
 | dk ds => obtain ⟨xs, q1, q2, q3⟩ := t; exact ⟨xs, s _ _ q1, q2, q3.mono sm⟩
 | dt ds => obtain ⟨xs, q1, q2, q3⟩ := t; exact ⟨xs, s _ _ q1, q2, q3.mono sm⟩
 | ob c gs => obtain ⟨C, dx, xs, q1, q2, q3⟩ := t; exact ⟨C, dx, xs, s _ _ q1, q2, q3.mono sm⟩
 | _ => exact t.elim
theorem Top.live {A : List Addr} {H : Hp} {q : Addr} {d : D} (t : Top G A H q d) : Nt (H q) := by
 cases d with
 | lst ds => obtain ⟨xs, q1, q2⟩ := t; rw [q1]; exact Nt.lst
 | dk ds => obtain ⟨xs, q1, q2, q3⟩ := t; rw [q1]; exact Nt.dK
 | dt ds => obtain ⟨xs, q1, q2, q3⟩ := t; rw [q1]; exact Nt.dT
 | ob c gs => obtain ⟨C, dx, xs, q1, q2, q3⟩ := t; rw [q1]; exact Nt.ins
 | _ => exact t.elim
theorem CW {α : Type} {l : List α} {i j : Nat} {x z : α} (h : (l.set i x)[j]? = some z) : (j = i ∧ z = x ∧ i < l.length) ∨ (j ≠ i ∧ l[j]? = some z) := by
 by_cases hj : j = i
 ·subst hj
  by_cases hl : j < l.length
  ·rw [List.getElem?_set_self hl] at h
   exact .inl ⟨rfl, (Option.some.inj h).symm, hl⟩
  ·rw [List.getElem?_eq_none (by simpa using Nat.not_lt.mp hl)] at h
   cases h
 ·rw [List.getElem?_set_ne (Ne.symm hj)] at h
  exact .inr ⟨hj, h⟩
theorem OkW.setW {A0 : List Addr} {He : Hp} {A : List Addr} {σ : St} {H H' : Hp} {ρ : Rho} {p : Addr} {d : D} (w : OkW G A0 He A σ H ρ) (s : Same H H') (hp : H p = none) (t : Top G (p :: A) H' p d) (i : Nat) (hi0 : i ≠ 0) : OkW G A0 He (p :: A) (σ.set i (some (.ref p))) H' (ρ.set i (.ow d)) := by
 have hf := w.ok.fill (Hc := H') s hp t.live
 have hep : He p = none := w.same.free hp
 have npA : p ∉ A := fun z => (w.ok.live p z).ne hp
 refine ⟨w.same.trans s, fun a ha => List.mem_cons_of_mem _ (w.sub a ha), fun a ha => ?_, w.l0, ⟨by rw [List.length_set, List.length_set]; exact hf.len, hf.live, fun j e h => ?_, fun j e h => ?_, fun j k e f q h1 h2 h3 h4 => ?_⟩, fun j e q h1 h2 => ?_, fun x e hx h0 => by rw [List.getElem?_set_ne hi0] at h0 ⊢; exact w.lt x e hx h0⟩
 ·rcases List.mem_cons.mp ha with z | z
  ·rw [z]; exact .inr hep
  ·exact w.fr a z
 ·rcases CW h with ⟨_, hz, _⟩ | ⟨hj, hz⟩
  ·cases hz
  ·obtain ⟨v, q1, q2⟩ := hf.fz j e hz
   exact ⟨v, by rw [List.getElem?_set_ne (Ne.symm hj)]; exact q1, q2⟩
 ·rcases CW h with ⟨hj, hz, hl⟩ | ⟨hj, hz⟩
  ·cases hz
   subst hj
   exact ⟨p, by rw [List.getElem?_set_self (by rw [w.ok.len]; exact hl)], List.mem_cons_self, t⟩
  ·obtain ⟨v, q1, q2, q3⟩ := hf.ow j e hz
   exact ⟨v, by rw [List.getElem?_set_ne (Ne.symm hj)]; exact q1, q2, q3⟩
 ·have no : ∀ (m : Nat) (g : D), ρ[m]? = some (.ow g) → σ[m]? = some (some (.ref q)) → q ≠ p := fun m g a1 a2 z => by
   obtain ⟨v, b1, b2, _⟩ := w.ok.ow m g a1
   rw [a2] at b1
   cases b1
   exact npA (z ▸ b2)
  rcases CW h1 with ⟨hj, _, hl⟩ | ⟨hj, hz⟩
  ·rcases CW h2 with ⟨hk, _, _⟩ | ⟨hk, hz'⟩
   ·rw [hj, hk]
   ·exfalso
    subst hj
    rw [List.getElem?_set_self (by rw [w.ok.len]; exact hl)] at h3
    cases h3
    rw [List.getElem?_set_ne (Ne.symm hk)] at h4
    exact no k f hz' h4 rfl
  ·rcases CW h2 with ⟨hk, _, hl⟩ | ⟨hk, hz'⟩
   ·exfalso
    subst hk
    rw [List.getElem?_set_self (by rw [w.ok.len]; exact hl)] at h4
    cases h4
    rw [List.getElem?_set_ne (Ne.symm hj)] at h3
    exact no j e hz h3 rfl
   ·rw [List.getElem?_set_ne (Ne.symm hj)] at h3
    rw [List.getElem?_set_ne (Ne.symm hk)] at h4
    exact w.ok.inj j k e f q hz hz' h3 h4
 ·rcases CW h1 with ⟨hj, _, hl⟩ | ⟨hj, hz⟩
  ·subst hj
   rw [List.getElem?_set_self (by rw [w.ok.len]; exact hl)] at h2
   cases h2
   exact fun z => w.l0 p z hep
  ·rw [List.getElem?_set_ne (Ne.symm hj)] at h2
   exact w.ow0 j e q hz h2
theorem Vn {A0 : List Addr} {He : Hp} {A : List Addr} {σ : St} {H : Hp} {ρ : Rho} {o : Out} {D : Ends} {i : Nat} (hi0 : i ≠ 0) (w : OkW G A0 He A σ H ρ) (e : setW i fa ρ = some o) (k : Jp G A0 He D o) : tAsg (tN G A fa) (Gw i) D σ H := by
 unfold setW at e
 cases e1 : fa ρ with
 | none => simp [e1] at e
 | some d =>
  simp only [e1, Option.map_some] at e
  cases e
  exact ⟨ρ, d, w.ok, e1, fun p H1 s1 hp t => k _ _ ⟨p :: A, w.setW s1 hp t i hi0⟩⟩
theorem TQ {i : Nat} {x : Str} {p : Pos} (h : ∀ te, PE X a te → PS X (.Assign [.Name x p] a pos) (tAsg te (Gw i))) (ha : PN X G a fa) (hi0 : i ≠ 0 := by decide) : PSD X G (.Assign [.Name x p] a pos) (setW i fa) := fun A0 He pins s σ H D I ⟨ρ, o, ⟨A, w⟩, e, k⟩ =>
 h _ (@ha A) pins s σ H D I (Vn hi0 w e k)
theorem OkW.wr {A0 : List Addr} {He : Hp} {A : List Addr} {σ : St} {H : Hp} {ρ : Rho} {i : Nat} {d0 d : D} {p : Addr} {o : HO} (w : OkW G A0 He A σ H ρ) (hi : ρ[i]? = some (.ow d0)) (hs : σ[i]? = some (some (.ref p))) (t : Top G A (upd H p o) p d) : OkW G A0 He A σ (upd H p o) (ρ.set i (.ow d)) := by
 obtain ⟨q, h1, hA, _⟩ := w.ok.ow i d0 hi
 rw [hs] at h1
 cases h1
 have hep : He p = none := by
  rcases w.fr p hA with z | z
  ·exact absurd z (w.ow0 i d0 p hi hs)
  ·exact z
 have eh : hid A (upd H p o) = hid A H := Hl hA
 refine ⟨fun b u h => by rw [BP (Bu h hep)]; exact w.same b u h, w.sub, w.fr, w.l0, ⟨by rw [List.length_set]; exact w.ok.len, fun b hb => ?_, fun j e h => ?_, fun j e h => ?_, fun j k e f q g1 g2 g3 g4 => ?_⟩, fun j e q g1 g2 => ?_, fun x e hx h0 => ?_⟩
 ·by_cases z : b = p
  ·rw [z]; exact t.live
  ·rw [BP z]; exact w.ok.live b hb
 ·rcases CW h with ⟨_, hz, _⟩ | ⟨hj, hz⟩
  ·cases hz
  ·rw [eh]; exact w.ok.fz j e hz
 ·rcases CW h with ⟨hj, hz, hl⟩ | ⟨hj, hz⟩
  ·cases hz
   subst hj
   exact ⟨p, hs, hA, t⟩
  ·obtain ⟨q, q1, q2, q3⟩ := w.ok.ow j e hz
   have nq : q ≠ p := fun z => hj (w.ok.inj j i e d0 p hz hi (z ▸ q1) hs)
   refine ⟨q, q1, q2, ?_⟩
   cases e with
   | lst ds => obtain ⟨xs, a1, a2⟩ := q3; exact ⟨xs, by rw [BP nq]; exact a1, by rw [eh]; exact a2⟩
   | dk ds => obtain ⟨xs, a1, a2, a3⟩ := q3; exact ⟨xs, by rw [BP nq]; exact a1, a2, by rw [eh]; exact a3⟩
   | dt ds => obtain ⟨xs, a1, a2, a3⟩ := q3; exact ⟨xs, by rw [BP nq]; exact a1, a2, by rw [eh]; exact a3⟩
   | ob c gs => obtain ⟨C, dx, xs, a1, a2, a3⟩ := q3; exact ⟨C, dx, xs, by rw [BP nq]; exact a1, a2, by rw [eh]; exact a3⟩
   | _ => exact q3.elim
 ·have up : ∀ (m : Nat) (g : D), (ρ.set i (.ow d))[m]? = some (.ow g) → ∃ g', ρ[m]? = some (.ow g') := fun m g z => by
   rcases CW z with ⟨hm, _, _⟩ | ⟨_, hz⟩
   ·exact ⟨d0, by rw [hm]; exact hi⟩
   ·exact ⟨g, hz⟩
  obtain ⟨e', z1⟩ := up j e g1
  obtain ⟨f', z2⟩ := up k f g2
  exact w.ok.inj j k e' f' q z1 z2 g3 g4
 ·rcases CW g1 with ⟨hj, _, _⟩ | ⟨hj, hz⟩
  ·subst hj
   exact w.ow0 j d0 q hi g2
  ·exact w.ow0 j e q hz g2
 ·rcases CW h0 with ⟨hj, _, _⟩ | ⟨_, hz⟩
  ·exact w.lt x d0 hx (by rw [hj]; exact hi)
  ·exact w.lt x e hx hz
theorem GZ {ρ : Rho} {i : Nat} {d : D} (h : ownO ρ i = some d) : ρ[i]? = some (.ow d) := by
 unfold ownO at h
 split at h
 ·rename_i e; cases h; exact e
 ·cases h
theorem Inv.frzK {pins : List (Addr × Obj)} {σ : St} {H : Hp} {s : Shared} {p : Addr} {kvs : List (Key × V)} (I : Inv X pins σ H s) (e : H p = some (.dK kvs)) : ∃ o, Inv X pins σ (upd H p (.frz o (.dK kvs))) s := by
 obtain ⟨z, hd, vs, rel, dd⟩ := Zi I.hok e
 obtain ⟨o, es, ep, ho, h2⟩ := id dd
 exact ⟨o, Oz (h' := s.heap) (t' := s.toks) I (by rw [e]; exact True.intro) ⟨rfl, fun _ _ => rfl⟩ ⟨o, ho⟩ ⟨ho, z, hd, vs, rel, dd⟩⟩
theorem Inv.frzT {pins : List (Addr × Obj)} {σ : St} {H : Hp} {s : Shared} {p : Addr} {kvs : List (List Key × V)} (I : Inv X pins σ H s) (e : H p = some (.dT kvs)) : ∃ o, Inv X pins σ (upd H p (.frz o (.dT kvs))) s := by
 obtain ⟨z, hd, vs, rel, o, es, ep, ho, h3, h4, h5, h6⟩ := I.hok p _ e
 refine ⟨o, Oz (h' := s.heap) (t' := s.toks) I (by rw [e]; exact True.intro) ⟨rfl, fun _ _ => rfl⟩ ⟨o, ho⟩ ⟨ho, z, hd, vs, KT.keeps rel fun c ys ec => ?_, o, es, ep, ho, h3, h4, h5, h6⟩⟩
 rw [BP (ZM ec e (fun z => nomatch z))]
 exact ec
theorem OkW.frzC {A0 : List Addr} {He : Hp} {A : List Addr} {σ : St} {H H' : Hp} {ρ : Rho} {i : Nat} {d : D} {p : Addr} (w : OkW G A0 He A σ H ρ) (hi : ρ[i]? = some (.ow d)) (h1 : σ[i]? = some (some (.ref p))) (hA : p ∈ A) (hh : ∀ b, b ≠ p → H' b = H b)
  (rp : Same (hid A H) (hid (A.filter fun b => decide (b ≠ p)) H') → hid (A.filter fun b => decide (b ≠ p)) H' p = H' p → Rep G (hid (A.filter fun b => decide (b ≠ p)) H') (.ref p) d) : OkS G A0 He σ H' (ρ.set i (.fz d)) := by
 have hn := w.ow0 i d p hi h1
 have hmem : ∀ b, b ∈ A.filter (fun b => decide (b ≠ p)) ↔ b ∈ A ∧ b ≠ p := fun b => by simp [List.mem_filter]
 have sm : Same (hid A H) (hid (A.filter fun b => decide (b ≠ p)) H') := fun b o h => by
  unfold hid at h ⊢
  split at h
  ·cases h
  ·rename_i hb
   have hbp : b ≠ p := fun z => hb (z ▸ hA)
   rw [if_neg (fun z => hb ((hmem b).mp z).1), hh b hbp]
   exact h
 have rp := rp sm (Cu fun z => ((hmem p).mp z).2 rfl)
 have hep : He p = none := (w.fr p hA).resolve_left hn
 refine ⟨A.filter fun b => decide (b ≠ p), fun b o h => ?_, fun b hb => (hmem b).mpr ⟨w.sub b hb, fun z => hn (z ▸ hb)⟩, fun b hb => w.fr b ((hmem b).mp hb).1, w.l0, ⟨by rw [List.length_set]; exact w.ok.len, fun b hb => ?_, fun j e h => ?_, fun j e h => ?_, fun j k e f q g1 g2 g3 g4 => ?_⟩, fun j e q g1 g2 => ?_, fun x e hx h0 => ?_⟩
 ·have hbp : b ≠ p := fun z => by rw [z, hep] at h; cases h
  rw [hh b hbp]
  exact w.same b o h
 ·obtain ⟨z1, z2⟩ := (hmem b).mp hb
  rw [hh b z2]
  exact w.ok.live b z1
 ·rcases CW h with ⟨hj, hz, _⟩ | ⟨hj, hz⟩
  ·cases hz; subst hj; exact ⟨_, h1, rp⟩
  ·obtain ⟨v, q1, q2⟩ := w.ok.fz j e hz
   exact ⟨v, q1, q2.mono sm⟩
 ·rcases CW h with ⟨_, hz, _⟩ | ⟨hj, hz⟩
  ·cases hz
  ·obtain ⟨q, q1, q2, q3⟩ := w.ok.ow j e hz
   have nq : q ≠ p := fun z => hj (w.ok.inj j i e d p hz hi (z ▸ q1) h1)
   refine ⟨q, q1, (hmem q).mpr ⟨q2, nq⟩, ?_⟩
   cases e with
   | lst ds => obtain ⟨xs, a1, a2⟩ := q3; exact ⟨xs, by rw [hh q nq]; exact a1, a2.mono sm⟩
   | dk ds => obtain ⟨xs, a1, a2, a3⟩ := q3; exact ⟨xs, by rw [hh q nq]; exact a1, a2, a3.mono sm⟩
   | dt ds => obtain ⟨xs, a1, a2, a3⟩ := q3; exact ⟨xs, by rw [hh q nq]; exact a1, a2, a3.mono sm⟩
   | ob c gs => obtain ⟨C, dx, xs, a1, a2, a3⟩ := q3; exact ⟨C, dx, xs, by rw [hh q nq]; exact a1, a2, a3.mono sm⟩
   | _ => exact q3.elim
 ·rcases CW g1 with ⟨_, hz, _⟩ | ⟨_, z1⟩
  ·cases hz
  ·rcases CW g2 with ⟨_, hz, _⟩ | ⟨_, z2⟩
   ·cases hz
   ·exact w.ok.inj j k e f q z1 z2 g3 g4
 ·rcases CW g1 with ⟨_, hz, _⟩ | ⟨_, z1⟩
  ·cases hz
  ·exact w.ow0 j e q z1 g2
 ·rcases CW h0 with ⟨_, hz, _⟩ | ⟨_, z1⟩
  ·cases hz
  ·exact w.lt x e hx z1
theorem OkS.frz {pins : List (Addr × Obj)} {s : Shared} {A0 : List Addr} {He : Hp} {σ : St} {H : Hp} {ρ : Rho} (I : Inv X pins σ H s) (w : OkS G A0 He σ H ρ) (i : Nat) : ∃ H', Inv X pins σ H' s ∧ OkS G A0 He σ H' (frz1 ρ i) := by
 unfold frz1
 split
 ·rename_i d hi
  obtain ⟨A, w⟩ := w
  obtain ⟨p, h1, hA, t⟩ := w.ok.ow i d hi
  cases d with
  | lst ds =>
   obtain ⟨xs, a1, a2⟩ := t
   exact ⟨H, I, w.frzC hi h1 hA (fun _ _ => rfl) fun sm hp => .lst (.of (by rw [hp]; exact a1)) (a2.mono sm).1 (a2.mono sm).2⟩
  | dk ds =>
   obtain ⟨xs, a1, a2, a3⟩ := t
   obtain ⟨o, I'⟩ := Inv.frzK I a1
   exact ⟨_, I', w.frzC hi h1 hA (fun b hb => BP hb) fun sm hp => .dk (by rw [hp]; exact B_) a2 (a3.mono sm).2⟩
  | dt ds =>
   obtain ⟨xs, a1, a2, a3⟩ := t
   obtain ⟨o, I'⟩ := Inv.frzT I a1
   exact ⟨_, I', w.frzC hi h1 hA (fun b hb => BP hb) fun sm hp => .dt (by rw [hp]; exact B_) a2 (a3.mono sm).2⟩
  | ob c gs =>
   obtain ⟨C, dx, xs, a1, a2, a3⟩ := t
   exact ⟨H, I, w.frzC hi h1 hA (fun _ _ => rfl) fun sm hp => .ob a2.1 (by rw [hp]; exact a1) a2.2 (a3.mono sm).2⟩
  | _ => exact t.elim
 ·exact ⟨H, I, w⟩
end
section
variable {X : Cx} {G : Gx} {a b c : Expr} {fa fb fc : FE} {pos p2 px : Pos} {scope : Scope} {t : Str} {elt iter : Expr} {ifs : List Expr} {ga : FT} {fe : FE} {src : FI}
end
end PV
namespace PV
open PySem PySem.Spec
section
variable {prog : Program} {w : World} {A : Around} {E : Value → Shared → Prop} {s : Shared}
def btx (w : World) : Bool := w.params.followText "set-order"
def keyOf (e : Int × Value) : Str := match e.2 with | .str k _ => k | _ => Str.empty
def EntS (w : World) (e : Int × Value) (k : Str) : Prop := e.1 = hashStr w k ∧ ∃ t, e.2 = .str k t
structure FX (w : World) (es : Array (Int × Value)) (t : SetTable) (ks : List Str) : Prop where
 ent : ∀ e ∈ es.toList, EntS w e (keyOf e)
 perm : (es.toList.map keyOf).Perm ks
 nd : ks.Nodup
 sz : es.size < scanBound
 fits : t.fits es.size = true
 led : btx w = false → t.led = true
 plain : es.size ≠ 0 → t.plain = false
def ObX (h : Heap) (a : Addr) (es : Array (Int × Value)) (t : SetTable) : Prop := ∃ o ep, h.get? a = some o ∧ o.ExactSet ∧ o.data = .set es ep t
def SetX (w : World) (h : Heap) (a : Addr) (ks : List Str) : Prop := ∃ es t, ObX h a es t ∧ FX w es t ks
theorem SetX.keep {h h' : Heap} {a : Addr} {ks : List Str} (x : SetX w h a ks) (e : ∀ o, h.get? a = some o → h'.get? a = some o) : SetX w h' a ks := by
 obtain ⟨es, t, ⟨o, ep, g, q⟩, f⟩ := x
 exact ⟨es, t, ⟨o, ep, e o g, q⟩, f⟩
theorem SetX.typeIs {a : Addr} {ks : List Str} (x : SetX w s.heap a ks) : s.TypeIs (.ref a) "set" :=
 let ⟨_, _, ⟨o, _, g, q, _⟩, _⟩ := x; ⟨o, g, q.1⟩
theorem FX.len {es : Array (Int × Value)} {t : SetTable} {ks : List Str} (f : FX w es t ks) : es.size = ks.length := by simpa using f.perm.length_eq
def addK (ks : List Str) (k : Str) : List Str := if k ∈ ks then ks else ks ++ [k]
theorem FX.more {es es1 : Array (Int × Value)} {t t1 : SetTable} {ks : List Str} {k : Str} {u : Tok} (f : FX w es t ks) (nk : k ∉ ks) (p : es1.toList.Perm (es.toList ++ [(hashStr w k, .str k u)])) (r : ks.length + 1 < scanBound) (q1 : t1.fits es1.size = true) (q2 : t1.led = t.led) (q3 : t1.plain = false) : FX w es1 t1 (addK ks k) := by
 have l : es1.size = es.size + 1 := by simpa using p.length_eq
 unfold addK
 rw [if_neg nk]
 refine ⟨fun e m => (List.mem_append.mp (p.mem_iff.mp m)).elim (f.ent e) fun m => ?_, ?_, List.nodup_append.mpr ⟨f.nd, by simp, fun x hx y hy e => nk ?_⟩, by rw [l, f.len]; exact r, q1, fun b => q2.trans (f.led b), fun _ => q3⟩
 ·cases List.mem_singleton.mp m; exact ⟨rfl, u, rfl⟩
 ·have := p.map keyOf; rw [List.map_append] at this; exact this.trans (f.perm.append_right _)
 ·cases List.mem_singleton.mp hy; rw [← e]; exact hx
end
end PV
namespace PV
open PySem PySem.Spec
section
variable {prog : Program} {w : World} {A : Around} {R : Result → Shared → Prop} {I : Addr} {fp wr : List Addr} {n : Nat} {P : Nat → Value → Prop} {Sx : Nat → Heap → Prop}
end
end PV
namespace PV
open PySem PySem.Spec
section
variable {prog : Program} {w : World} {A : Around} {E : Value → Shared → Prop} {s : Shared}
end
end PV
namespace PV
open PySem PySem.Spec
section
variable {prog : Program} {w : World} {A : Around} {E : Value → Shared → Prop} {s : Shared} {I q T : Addr} {first : Value} {j n ep : Nat} {es : Array (Int × Value)} {t : SetTable}
def ItX (h : Heap) (I q : Addr) (first : Value) (j n ep : Nat) : Prop := ∃ o, h.get? I = some o ∧ o.cls = .type "set_iterator" ∧ o.data = .fields #[first, .int j 0, .ref q, .int n 0, .int ep 0]
def TV (h : Heap) (q : Addr) (es : Array (Int × Value)) (ep : Nat) (t : SetTable) : Prop := ∃ o, h.get? q = some o ∧ o.ExactSet ∧ o.data = .set es ep t
theorem ItX.ty (x : ItX s.heap I q first j n ep) : s.TypeIs (.ref I) "set_iterator" := let ⟨o, g, c, _⟩ := x; ⟨o, g, c⟩
end
end PV
namespace PV
open PySem PySem.Spec
section
variable {prog : Program} {w : World} {A : Around} {E : Value → Shared → Prop} {s : Shared} {I q T : Addr} {first : Value} {j n ep : Nat} {es : Array (Int × Value)} {t : SetTable}
theorem TV.keep {h h' : Heap} (y : TV h q es ep t) (e : ∀ o, h.get? q = some o → h'.get? q = some o) : TV h' q es ep t := let ⟨o, g, r⟩ := y; ⟨o, e o g, r⟩
theorem ItX.keep {h h' : Heap} (x : ItX h I q first j n ep) (e : ∀ o, h.get? I = some o → h'.get? I = some o) : ItX h' I q first j n ep := let ⟨o, g, r⟩ := x; ⟨o, e o g, r⟩
end
end PV
namespace PV
open PySem PySem.Spec
section
variable {prog : Program} {w : World} {A : Around} {E : Value → Shared → Prop} {s : Shared} {I q T : Addr} {first : Value} {j n ep : Nat} {es : Array (Int × Value)} {t : SetTable}
end
end PV
namespace PV
open PySem PySem.Spec
section
variable {prog : Program} {w : World} {A : Around} {E : Value → Shared → Prop} {s : Shared} {I q T : Addr}
end
end PV
namespace PV
open PySem PySem.Spec
section
variable {prog : Program} {w : World} {A : Around} {E : Value → Shared → Prop} {s : Shared} {q : Addr}
end
open L2
section
variable {X : Cx} {G : Gx} {a : Expr} {fa : FE} {pos : Pos}
end
end PV
namespace PV
open PySem PySem.Spec L2
open PyProof.Rows hiding St
def getK {κ : Type} [DecidableEq κ] (k : κ) : List (κ × D) → Option D
 | [] => none
 | p :: r => if p.1 = k then some p.2 else getK k r
def repK {κ : Type} [DecidableEq κ] (k : κ) (v : D) : List (κ × D) → List (κ × D)
 | [] => []
 | p :: r => (p.1, if p.1 = k then v else p.2) :: repK k v r
def putL {κ : Type} [DecidableEq κ] (k : κ) (v : D) (kds : List (κ × D)) : List (κ × D) := if (getK k kds).isSome then repK k v kds else kds ++ [(k, v)]
def keyD : D → Option Key
 | .int i => some (.inl i)
 | .str x => some (.inr x)
 | _ => none
section
variable {κ : Type} [DecidableEq κ] {G : Gx} {H : Hp}
theorem Pz {k : κ} : ∀ {kds : List (κ × D)} {kvs : List (κ × V)}, kvs.map (·.1) = kds.map (·.1) → RepL G H (kvs.map (·.2)) (kds.map (·.2)) → (∀ d, getK k kds = some d → ∃ v, valV kvs k = some v ∧ Rep G H v d) ∧ (valV kvs k).isSome = (getK k kds).isSome
 | [], kvs, e, r => by
  cases kvs with
  | nil => exact ⟨fun d h => by simp [getK] at h, rfl⟩
  | cons p q => simp at e
 | p :: kds, kvs, e, r => by
  cases kvs with
  | nil => simp at e
  | cons q kvs =>
   rw [List.map_cons, List.map_cons] at e
   injection e with e1 e2
   rw [List.map_cons, List.map_cons] at r
   obtain ⟨x, ys, e3, r1, r2⟩ := r.uncons
   injection e3 with e4 e5
   subst e4 e5
   have ih := Pz (k := k) e2 r2
   by_cases h : p.1 = k
   ·have h' : q.1 = k := e1.trans h
    rw [Jh h']
    refine ⟨fun d hd => ?_, ?_⟩
    ·simp only [getK, if_pos h] at hd
     cases hd
     exact ⟨_, rfl, r1⟩
    ·simp [getK, if_pos h]
   ·have h' : ¬ q.1 = k := fun z => h (e1.symm.trans z)
    rw [Ji h']
    simp only [getK, if_neg h]
    exact ih
end
theorem TX {G : Gx} {A : List Addr} {H : Hp} {v : V} {d : D} {k : Key} (r : RepT G A H v d) (h : keyD d = some k) : v = kV k := by
 cases d with
 | int i => cases h; exact r.int
 | str x => cases h; exact r.str
 | _ => cases h
end PV
namespace PV
open PySem PySem.Spec L2
open PyProof.Rows hiding St
section
variable {X : Cx} {G : Gx} {a b c : Expr} {fa fb fc : FE} {pos p2 px : Pos} {es : List Expr} {fs : FA}
def rDIn (neg : Bool) : R2 := fun x y H Q => ∃ a kvs k, y = .ref a ∧ Rd H a (.dK kvs) ∧ x = kV k ∧ Q (.bl (if neg then !(valV kvs k).isSome else (valV kvs k).isSome)) H
theorem TY (hu : X.A.units + 1 < cLine) : OpR X (compareOp .In) (rDIn false) := by
 intro pins s σ H x y v u Q I rx ry h
 obtain ⟨a, kvs, k, rfl, e, rfl, q⟩ := h
 cases ry
 exact d_in hu I (.inl ⟨kvs, k, e, rfl, rfl⟩) rx fun s' I' => ⟨.bl _, H, I', rfl, q⟩
def inE (neg : Bool) (x y : D) : Option D := match y with
 | .dk kds => (keyD x).map fun k => .bl (if neg then !(getK k kds).isSome else (getK k kds).isSome)
 | _ => inD neg x y
theorem Vo (neg : Bool) : Ey G (fun x y H Q => rInA G.K neg x y H Q ∨ rDIn neg x y H Q) (inE neg) := by
 intro A H x y dx dy d Q lv rx ry h k
 unfold inE at h
 split at h
 ·rename_i kds
  cases e : keyD dx with
  | none => simp [e] at h
  | some q =>
   obtain ⟨p, kvs, rfl, h1, h2, r⟩ := ry.dk
   have h3 := (Pz (k := q) h2 r).2
   rw [e] at h
   cases h
   refine .inr ⟨p, kvs, q, rfl, h1, TX rx e, ?_⟩
   rw [h3]
   exact k _ H (Same.refl H) (.bl _)
 ·exact .inl (La neg A H x y dx dy d Q lv rx ry h k)
def Zu (x y v : D) : Option D := match x with
 | .dk kds => (keyD y).bind fun k => if kds.length < sizeLine then some (.dk (putL k v kds)) else none
 | _ => none
def putF (i : Nat) (fk fv : FE) : FS := fun ρ => (fv ρ).bind fun v => (fk ρ).bind fun y => (ownO ρ i).bind fun x => (Zu x y v).map fun z => .nx (ρ.set i (.ow z))
end
end PV
namespace PV
open PySem PySem.Spec L2
open PyProof.Rows hiding St
theorem P0 {α β : Type} {R : α → β → Prop} : ∀ {xs : List α} {ys : List β} {i : Nat} {x : α} {y : β}, Paired R xs ys → xs[i]? = some x → ys[i]? = some y → R x y
 | _, _, i, x, y, .nil, h, _ => by simp at h
 | _, _, 0, x, y, .cons r _, h1, h2 => by
  simp at h1 h2
  rw [← h1, ← h2]
  exact r
 | _, _, i + 1, x, y, .cons _ t, h1, h2 => P0 t (by simpa using h1) (by simpa using h2)
def Itd (a : Addr) (o : Obj) (kvs : List (Key × V)) : It :=
 ⟨fun i H => H a = some (.frz o (.dK kvs)) ∧ i < kvs.length, fun i H x H' => H' = H ∧ ∃ p, kvs[i]? = some p ∧ x = kV p.1, fun i H => H a = some (.frz o (.dK kvs)) ∧ kvs.length ≤ i⟩
theorem relK {P : Program} {w : World} {k : Key} {u : Value} (h : (DG P w).is k u = true) : RelV (kV k) u := by
 rcases Ck h with ⟨i, t, rfl, rfl⟩ | ⟨x, t, rfl, rfl⟩
 ·exact ⟨t, rfl⟩
 ·exact ⟨t, rfl⟩
theorem Oa {X : Cx} {pins : List (Addr × Obj)} {σ : St} {H : Hp} {s : Shared} {a : Addr} {o : Obj} {kvs : List (Key × V)} {es : Array DictEntry} {ep : Nat} (I : Inv X pins σ H s) (e : H a = some (.frz o (.dK kvs))) (hd : o.data = .dict es ep) :
  (a == sysModules) = false ∧ ∃ vs, KV kvs vs ∧ s.heap.DictAt (DG X.prog X.w) a vs ep := by
 obtain ⟨ho, z, hm, vs, rel, o', es', ep', ho', h1, h2, h3⟩ := (show Cr X.prog X.w H s.heap a (.frz o (.dK kvs)) from I.hok a _ e)
 rw [ho] at ho'
 cases ho'
 rw [hd] at h2
 cases h2
 exact ⟨hm, vs, rel, o, es, ho, h1, hd, h3⟩
theorem Qn {P : Program} {w : World} {K : PySem.W.Frag} {tg : Expr} (a it : Addr) {o : Obj} {es : Array DictEntry} {ep : Nat} (hd : o.data = .dict es ep) (kvs : List (Key × V)) : Turn P w K tg (Itd a o kvs) [it] it (fun i h => h.IsKeyIter it a i kvs.length ep) where
 mem := by simp
 obj := fun i h st b hb => by
  have e : b = it := by simpa using hb
  subst e
  obtain ⟨o, e, c, d⟩ := st
  exact ⟨o, e, fun v z => by rw [d] at z; cases z⟩
 keep := fun i h h' st k => let ⟨o, e, c, d⟩ := st; ⟨o, k it (by simp) o e, c, d⟩
 item := by
  intro X hP hw hK hc i pins s σ H E I hf st hg
  subst hP hw hK
  obtain ⟨he, hi⟩ := hg
  obtain ⟨hm, vs, rel, dd⟩ := Oa I he hd
  have hl : kvs.length = vs.length := rel.length
  obtain ⟨f0, f1, f2, f3, f4, f5⟩ := hf it (by simp)
  have hv : vs[i]? = some (vs[i]'(by omega)) := by simp [show i < vs.length by omega]
  have hk : kvs[i]? = some (kvs[i]'hi) := by simp [hi]
  have hkk : (kvs[i]'hi).1 = (vs[i]'(by omega)).1 := (P0 rel hk hv).1
  refine wpAny_pyNext_dict_item (knd := DG X.prog X.w) (kvs := vs) (k := (vs[i]'(by omega)).1) (v := (vs[i]'(by omega)).2) (by rw [← hl]; exact st) dd hv fun key h' hkey st' sb => ?_
  rw [← hl] at st'
  have I1 : Inv X pins σ H { s with heap := h' } := I.turned (t' := s.toks) (fun b o hb e => (sb.2 b hb).trans e) f0 f1 f3 f4 f5
  obtain ⟨o1, e1, c1, d1⟩ := id st'
  exact ⟨key, rfl, Ol (s := { s with heap := h' }) e1 c1 d1 (by decide) ⟨kV (kvs[i]'hi).1, H, I1, by rw [hkk]; exact relK hkey, ⟨rfl, _, hk, rfl⟩, st', fun b hb => (hf b hb).1⟩⟩
 done := by
  intro X hP hw hK hc i pins s σ H E I hf st hg
  subst hP hw hK
  obtain ⟨he, hi⟩ := hg
  obtain ⟨hm, vs, rel, dd⟩ := Oa I he hd
  have hl : kvs.length = vs.length := rel.length
  obtain ⟨f0, f1, f2, f3, f4, f5⟩ := hf it (by simp)
  exact wpAny_pyNext_dict_end (I.ok.hd hc) (by rw [← hl]; exact st) dd (by rw [List.getElem?_eq_none]; omega) fun h' eb => ⟨rfl, I.turned (t' := s.toks) (fun b o hb e => eb b o hb e) f0 f1 f3 f4 f5⟩
 self := fun _ _ _ _ _ st h => wpAny_pyIter_keyiter st h
section
variable {X : Cx} {G : Gx} {a b c tg : Expr} {fa fb fc : FE} {pos p2 : Pos} {tl : TE}
def Zv (tl : TE) : TI := fun σ H R => tl σ H fun x H1 => ∃ a o kvs, x = .ref a ∧ H1 a = some (.frz o (.dK kvs)) ∧ R (Itd a o kvs) H1
theorem Vp {l : Expr} (hl : PE X l tl) : PI X tg l (Zv tl) := by
 intro pins s σ H R I h
 refine thn (hl pins s σ H _ I h) fun v s1 ⟨x, H1, I1, r1, q1⟩ => ?_
 obtain ⟨a, o, kvs, e, hq, q⟩ := q1
 subst e
 cases r1
 obtain ⟨_, _, _, _, _, o', es, ep, ho', h1, h2, _⟩ := (show Cr X.prog X.w H1 s1.heap a (.frz o (.dK kvs)) from I1.hok a _ hq)
 obtain ⟨ho, _⟩ := (show Cr X.prog X.w H1 s1.heap a (.frz o (.dK kvs)) from I1.hok a _ hq)
 rw [ho] at ho'
 cases ho'
 obtain ⟨hm, vs, rel, dd⟩ := Oa I1 hq h2
 have hl' : kvs.length = vs.length := rel.length
 refine wpAny_pyIter_dict hm dd ?_
 refine ⟨s1.heap.objs.size, [s1.heap.objs.size], _, _, H1, rfl, I1.kept (t' := s1.toks) fun b o e => Heap.get?_push_of_some _ e, Qn a _ h2 kvs, ⟨_, Heap.get?_push_size _ rfl, rfl, by rw [hl']; rfl⟩, fun b hb => ?_, q⟩
 have e : b = s1.heap.objs.size := by simpa using hb
 subst e
 exact I1.fpOk (Nat.le_refl _) (I1.hok.fresh (Nat.le_refl _))
def kDt : Key → D
 | .inl i => .int i
 | .inr x => .str x
theorem Vq {H : Hp} (k : Key) : Rep G H (kV k) (kDt k) := by
 cases k with
 | inl i => exact .int i
 | inr x => exact .str x
def seqE (f : FE) : FI := fun ρ => match f ρ with | some (.lst ds) => some ds | some (.tup ds) => some ds | some (.dk kds) => some (kds.map fun p => kDt p.1) | _ => none
theorem Tc {F1 F2 : Hp} {p : Addr} {o : Obj} {kvs : List (Key × V)} {kds : List (Key × D)} (h : F1 p = some (.frz o (.dK kvs))) (e : kvs.map (·.1) = kds.map (·.1)) : Src G (Itd p o kvs) (kds.map fun p => kDt p.1) F1 F2 := by
 have hl : kvs.length = kds.length := by have := congrArg List.length e; rwa [List.length_map, List.length_map] at this
 refine ⟨fun i H s hi => ⟨s _ _ h, by rw [hl]; rwa [List.length_map] at hi⟩, fun i H x H' d s hd y => ?_, fun i H s hi => ⟨s _ _ h, by rw [hl]; rwa [List.length_map] at hi⟩⟩
 obtain ⟨y1, q, y2, y3⟩ := y
 refine Jo ⟨y1, ?_⟩
 have e1 : (kvs.map (·.1))[i]? = some q.1 := by rw [List.getElem?_map, y2]; rfl
 rw [e, List.getElem?_map] at e1
 rw [List.getElem?_map] at hd
 cases e2 : kds[i]? with
 | none => rw [e2] at hd; cases hd
 | some z =>
  rw [e2] at e1 hd
  cases hd
  injection e1 with e1
  rw [y3, ← e1]
  exact Vq _
theorem Td (hG : G.K = X.K) (h : PF X G a fa) : PFI X G false tg a (seqE fa) := fun A => Mz (piOr (Px hG h (A := A)) (Vp (@h A))) fun σ H R ⟨ρ, ds, o, e, k⟩ => by
 unfold seqE at e
 split at e
 ·rename_i ds' e1
  cases e
  exact .inl ⟨ρ, _, o, by unfold seqI; rw [e1], k⟩
 ·rename_i ds' e1
  cases e
  exact .inl ⟨ρ, _, o, by unfold seqI; rw [e1], k⟩
 ·rename_i kds e1
  cases e
  refine .inr ⟨ρ, _, o, e1, fun v H1 s1 r1 => ?_⟩
  cases r1 with
  | dk h l r => exact ⟨_, _, _, rfl, CV _ _ h, k _ H1 s1 (Tc h l)⟩
 ·cases e
end
end PV
namespace PV
open PySem PySem.Spec L2
open PyProof.Rows hiding St
section
variable {prog : Program} {w : World} {A : Around} {E : Value → Shared → Prop}
end
end PV
namespace PV
open PySem PySem.Spec L2
open PyProof.Rows hiding St
section
variable {X : Cx} {G : Gx} {a b c tg : Expr} {fa fb fc : FE} {pos p2 : Pos} {es : List Expr}
theorem PG.or {t t' : TG} (h : PG X tg t) (h' : PG X tg t') : PG X tg (fun v σ H Q => t v σ H Q ∨ t' v σ H Q) := fun pins s σ H v u Q I r q => by
 rcases q with q | q
 ·exact h pins s σ H v u Q I r q
 ·exact h' pins s σ H v u Q I r q
theorem Ju : Gy X (.builtin "len") (fun xs H Q => ∃ a kvs, xs = [V.ref a] ∧ Rd H a (.dK kvs) ∧ Q (.int kvs.length) H) := by
 intro pins s σ H xs us Q I rs h
 obtain ⟨a, kvs, rfl, e, q⟩ := h
 obtain ⟨u, rfl, ru⟩ := rs.one
 cases ru
 exact Zk I e fun t s' I' => ⟨.int kvs.length, H, I', ⟨t, rfl⟩, q⟩
def lenE : D → Option D
 | .dk kds => some (.int kds.length)
 | d => lenD d
theorem M4 : SndC G (fun xs H Q => (∃ x n, xs = [x] ∧ LenV G.K x H n ∧ Q (.int n) H) ∨ ∃ a kvs, xs = [V.ref a] ∧ Rd H a (.dK kvs) ∧ Q (.int kvs.length) H) lenE := by
 intro A H x dx d Q lv rx h k
 unfold lenE at h
 split at h
 ·cases h
  obtain ⟨p, kvs, rfl, h1, h2, r⟩ := rx.dk
  have hl := congrArg List.length h2
  rw [List.length_map, List.length_map] at hl
  refine .inr ⟨p, kvs, rfl, h1, ?_⟩
  rw [hl]
  exact k _ H (Same.refl H) (.int _)
 ·exact .inl (Gm A H x dx d Q lv rx h k)
end
end PV
namespace PV
open PySem PySem.Spec L2
open PyProof.Rows hiding St
section
variable {X : Cx} {G : Gx} {a b c tg : Expr} {fa fb fc : FE} {pos p2 : Pos} {tl : TE}
theorem Yk {α β : Type} {f : α → β} {l : List α} {i : Nat} {y : β} (h : (l.map f)[i]? = some y) : ∃ x, l[i]? = some x ∧ f x = y := by
 rw [List.getElem?_map] at h
 exact Option.map_eq_some_iff.mp h
end
end PV
namespace PV
open PySem PySem.Spec L2
open PyProof.Rows hiding St
section
variable {X : Cx} {G : Gx} {a b c tg : Expr} {fa fb fc : FE} {pos p2 : Pos} {es : List Expr} {fs : FA}
end
end PV
namespace PV
open PySem PySem.Spec L2
open PyProof.Rows hiding St
section
variable {X : Cx} {G : Gx} {a b c tg : Expr} {fa fb fc : FE} {pos p2 : Pos} {es : List Expr} {fs : FA} {src : FI}
theorem PFI.top (h : PFI X G false tg a src) : PFI X G true tg a src := fun A => Mz (@h A) fun σ H R ⟨ρ, ds, o, e, k⟩ =>
 ⟨ρ, ds, o, e, fun J H1 s1 sr => k J H1 s1 ⟨fun i H s hi => sr.go i H (CV.trans s) hi, fun i H x H' d s hd y => sr.yld i H x H' d (CV.trans s) hd y, fun i H s hi => sr.stop i H (CV.trans s) hi⟩⟩
theorem RepT.ob {A : List Addr} {H : Hp} {v : V} {c : Str} {gs : List (Str × D)} (r : RepT G A H v (.ob c gs)) : ∃ a C dx fs, v = .ref a ∧ G.cl c = some C ∧ H a = some (.ins C dx fs) ∧ fs.map (·.1) = gs.map (·.1) ∧ RepL G (hid A H) (fs.map (·.2)) (gs.map (·.2)) := by
 rcases r with r | ⟨a, e, C, dx, fs, h, k, r⟩
 ·cases r with
  | ob hc h l r =>
   have hl := congrArg List.length l
   rw [List.length_map, List.length_map] at hl
   exact ⟨_, _, _, _, rfl, hc, CV _ _ h, l, by rw [List.length_map, List.length_map]; exact hl, r⟩
 ·exact ⟨a, C, dx, fs, e, k.1, h, k.2, r⟩
def fldD (f : Str) : D → Option D
 | .ob _ gs => gs.lookup f
 | _ => none
theorem Ks {H : Hp} {f : Str} {d : D} : ∀ {gs : List (Str × D)} {fs : List (Str × V)}, fs.map (·.1) = gs.map (·.1) → RepL G H (fs.map (·.2)) (gs.map (·.2)) → gs.lookup f = some d → ∃ v, fs.lookup f = some v ∧ Rep G H v d
 | [], fs, e, r, h => by simp at h
 | p :: gs, [], e, r, h => by simp at e
 | p :: gs, q :: fs, e, r, h => by
  rw [List.map_cons, List.map_cons] at e r
  injection e with e1 e2
  obtain ⟨x, ys, e3, r1, r2⟩ := r.uncons
  injection e3 with e4 e5
  subst e4 e5
  obtain ⟨p1, p2⟩ := p
  obtain ⟨q1, q2⟩ := q
  simp only at e1 r1
  subst e1
  by_cases hf : f = q1
  ·subst hf
   simp only [List.lookup_cons, beq_self_eq_true, Option.some.injEq] at h ⊢
   subst h
   exact ⟨q2, rfl, r1⟩
  ·have hb : (f == q1) = false := beq_eq_false_iff_ne.mpr hf
   simp only [List.lookup_cons, hb] at h ⊢
   exact Ks e2 r2 h
theorem Cw {f : Str} (hcl : ∀ c C, G.cl c = some C → Cls X.K C ∧ Cv X.K C f) (he : PU X G a fa) (hb : attributeBase a f X.env (eval a X.env) = eval a X.env := by rfl) : PF X G (.Attribute a f pos) (uF (fldD f) fa) :=
 fun A => Dj (YC (@he A) hb) fun σ H Q ⟨ρ, d, o, e, k⟩ => by
  obtain ⟨x0, e1, e2⟩ := JV e
  unfold fldD at e2
  split at e2
  ·rename_i cn gs
   refine ⟨ρ, _, o, e1, fun v H1 s1 r1 => ?_⟩
   obtain ⟨p, C, dx, fs, rfl, hc, h, l, r⟩ := r1.ob
   obtain ⟨v, h1, h2⟩ := Ks (f := f) (d := d) l r e2
   exact ⟨_, _, _, _, v, rfl, h, (hcl _ _ hc).1, (hcl _ _ hc).2, h1, k v H1 s1 h2⟩
  ·cases e2
end
end PV
namespace PV
open PySem PySem.Spec L2
open PyProof.Rows hiding St
def Its (x : Str) : It := ⟨fun i _ => i < x.cps.size, fun i H y H' => H' = H ∧ ∃ c, x.cps[i]? = some c ∧ y = .str ⟨#[c]⟩, fun i _ => x.cps.size ≤ i⟩
theorem M5 {P : Program} {w : World} {K : PySem.W.Frag} {tg : Expr} (it : Addr) (x : Str) (t : Tok) (ty : String) (W : ∀ A : Around, A.handled = none → Walks P w A it [it] [it] x.cps.size (SignAt x) (fun i h => h.IsStrIter it ty x t i))
  (hn : ["enumerate", "zip", "dict_itemiterator", "dict_reverseitemiterator", "odict_iterator", "itertools.zip_longest", "itertools.pairwise"].contains ty = false)
  (fin : ∀ (A : Around), A.handled = none → ∀ (i : Nat) (s : Shared) (Q : Option Value → Shared → Prop) (E : Value → Shared → Prop), s.heap.IsStrIter it ty x t i → x.cps[i]? = none → (∀ h', Heap.ExtBut it s.heap h' → Q none { s with heap := h' }) → wpAny (model P w) A (pyNext (.ref it)) Q E s)
  (self : ∀ (A : Around) (i : Nat) (s : Shared) (Q : Value → Shared → Prop) (E : Value → Shared → Prop), s.heap.IsStrIter it ty x t i → Q (.ref it) s → wpAny (model P w) A (pyIter (.ref it)) Q E s) :
  Turn P w K tg (Its x) [it] it (fun i h => h.IsStrIter it ty x t i) where
 mem := by simp
 obj := fun i h st b hb => by
  have e : b = it := by simpa using hb
  subst e
  obtain ⟨o, e, c, d⟩ := st
  exact ⟨o, e, fun v z => by rw [d] at z; cases z⟩
 keep := fun i h h' st k => let ⟨o, e, c, d⟩ := st; ⟨o, k it (by simp) o e, c, d⟩
 item := by
  intro X hP hw hK hc i pins s σ H E I hf st hg
  subst hP hw hK
  obtain ⟨f0, f1, f2, f3, f4, f5⟩ := hf it (by simp)
  refine (W X.A (I.ok.hd hc)).item i s _ _ hg st fun v h' tk hv st' kk => ?_
  obtain ⟨c, u, e1, rfl⟩ := hv
  have I1 : Inv X pins σ H { s with heap := h', toks := tk } := I.turned (fun b o hb e => kk b o (by simpa using hb) e) f0 f1 f3 f4 f5
  obtain ⟨o1, e2, c1, d1⟩ := id st'
  exact ⟨_, rfl, Ol (s := { s with heap := h', toks := tk }) e2 c1 d1 hn ⟨.str ⟨#[c]⟩, H, I1, ⟨u, rfl⟩, ⟨rfl, c, e1, rfl⟩, st', fun b hb => (hf b hb).1⟩⟩
 done := by
  intro X hP hw hK hc i pins s σ H E I hf st hg
  subst hP hw hK
  obtain ⟨f0, f1, f2, f3, f4, f5⟩ := hf it (by simp)
  exact fin X.A (I.ok.hd hc) i s _ _ st (by rw [Array.getElem?_eq_none_iff]; exact hg) fun h' eb => ⟨rfl, I.turned (t' := s.toks) (fun b o hb e => eb b o hb e) f0 f1 f3 f4 f5⟩
 self := fun A i s Q E st h => self A i s Q E st h
section
variable {X : Cx} {G : Gx} {a b c tg : Expr} {fa fb fc : FE} {pos p2 : Pos} {tl : TE}
def iStr (tl : TE) : TI := fun σ H R => tl σ H fun x H1 => ∃ y, x = .str y ∧ R (Its y) H1
theorem Yl {l : Expr} (hl : PE X l tl) : PI X tg l (iStr tl) := by
 intro pins s σ H R I h
 refine thn (hl pins s σ H _ I h) fun v s1 ⟨x, H1, I1, r1, q1⟩ => ?_
 obtain ⟨y, e, q⟩ := q1
 subst e
 obtain ⟨t, e⟩ := (show ∃ t, v = Value.str y t from r1)
 subst e
 have fp : ∀ b ∈ [s1.heap.objs.size], FpOk X pins H1 b := fun b hb => by
  have e : b = s1.heap.objs.size := by simpa using hb
  subst e
  exact I1.fpOk (Nat.le_refl _) (I1.hok.fresh (Nat.le_refl _))
 cases ha : y.cps.all (· < 128)
 ·exact wpAny_pyIter_wide ha ⟨s1.heap.objs.size, [s1.heap.objs.size], _, _, H1, rfl, I1.kept (t' := s1.toks) fun b o e => Heap.get?_push_of_some _ e,
   M5 _ y t "str_iterator" (fun A hA => Walks.strWide hA _ y t) (by decide) (fun _ hh _ _ _ _ st hx k => wpAny_pyNext_wide_end hh st hx k) (fun _ _ _ _ _ st h => wpAny_pyIter_striter_wide st h), ⟨_, Heap.get?_push_size _ rfl, rfl, rfl⟩, fp, q⟩
 ·exact wpAny_pyIter_ascii ha ⟨s1.heap.objs.size, [s1.heap.objs.size], _, _, H1, rfl, I1.kept (t' := s1.toks) fun b o e => Heap.get?_push_of_some _ e,
   M5 _ y t "str_ascii_iterator" (fun A hA => Walks.strAscii hA _ y t) (by decide) (fun _ hh _ _ _ _ st hx k => wpAny_pyNext_ascii_end hh st hx k) (fun _ _ _ _ _ st h => wpAny_pyIter_striter_ascii st h), ⟨_, Heap.get?_push_size _ rfl, rfl, rfl⟩, fp, q⟩
def P_ (x : Str) : List D := x.cps.toList.map fun c => .str ⟨#[c]⟩
theorem Vr {F1 F2 : Hp} {x : Str} : Src G (Its x) (P_ x) F1 F2 := by
 have hl : (P_ x).length = x.cps.size := by unfold P_; simp
 refine ⟨fun i H s hi => by rw [hl] at hi; exact hi, fun i H y H' d s hd q => ?_, fun i H s hi => by rw [hl] at hi; exact hi⟩
 obtain ⟨q1, c, q2, q3⟩ := q
 refine Jo ⟨q1, ?_⟩
 obtain ⟨z, hz, rfl⟩ := Yk hd
 have e : x.cps[i]? = some z := by simpa using hz
 rw [e] at q2
 cases q2
 rw [q3]
 exact .str _
def seqA (f : FE) : FI := fun ρ => match f ρ with | some (.str x) => some (P_ x) | _ => seqE f ρ
theorem Te (hG : G.K = X.K) (h : PF X G a fa) : PFI X G false tg a (seqA fa) := fun A => Mz (piOr (Td hG h (A := A)) (Yl (@h A))) fun σ H R ⟨ρ, ds, o, e, k⟩ => by
 unfold seqA at e
 split at e
 ·rename_i x e1
  cases e
  refine .inr ⟨ρ, _, o, e1, fun v H1 s1 r1 => ?_⟩
  cases r1
  exact ⟨_, rfl, k _ H1 s1 Vr⟩
 ·exact .inl ⟨ρ, _, o, e, k⟩
def blsD : List D → Option (List Bool)
 | [] => some []
 | .bl i :: r => (blsD r).map (i :: ·)
 | _ :: _ => none
theorem QB {H : Hp} : ∀ {ds : List D} {xs : List V} {bs : List Bool}, RepL G H xs ds → blsD ds = some bs → xs = bs.map V.bl
 | [], xs, bs, r, h => by cases h; exact r.nil_inv
 | d :: ds, xs, bs, r, h => by
  obtain ⟨x, ys, rfl, r1, r2⟩ := r.uncons
  cases d with
  | bl i =>
   cases e : blsD ds with
   | none => simp [blsD, e] at h
   | some bs' =>
    simp [blsD, e] at h
    subst h
    cases r1
    rw [QB r2 e]
    rfl
  | _ => simp [blsD] at h
theorem Qo (hc : X.calm = true) : Gy X (.builtin "all") (fun xs H Q => ∃ (p : Addr) (bs : List Bool), xs = [.ref p] ∧ SqL X.K H p (bs.map V.bl) ∧ Q (.bl (bs.all id)) H) := by
 intro pins s σ H xs us Q I r h
 obtain ⟨p, bs, rfl, hs, k⟩ := h
 obtain ⟨u, rfl, ru⟩ := r.one
 cases ru
 obtain ⟨its, rv, pl, hz⟩ := I.list hs
 have hl := pl.isList
 have hlt : p ≠ s.heap.objs.size := by obtain ⟨o, ho, _⟩ := hl; exact Nat.ne_of_lt (Heap.lt_size ho)
 have hlen : bs.length = its.length := by have := rv.length; rwa [List.length_map] at this
 refine call_all_walk (wpAny_pyIter_list hl ?_)
 refine ⟨_, _, _, _, _, _, fun i => bs.getD i true, rfl, Walks.list (A := X.A.in1) (I.ok.hd hc) s.heap.objs.size p hlt its.toArray, ⟨⟨_, Heap.get?_push_size _ rfl, rfl, rfl⟩, hl.push _⟩, ?_, fun h' tk kk => ?_⟩
 ·intro i v s' Q' E' hv hq
  have hi : its[i]? = some v := by simpa using hv
  have hlt' : i < bs.length := by rw [hlen]; exact (List.getElem?_eq_some_iff.mp hi).1
  obtain ⟨u', hu, ru⟩ := rv.get (i := i) (x := .bl (bs[i]'hlt')) (by rw [List.getElem?_map]; simp [hlt'])
  rw [hi] at hu
  cases hu
  cases (show v = Value.bool (bs[i]'hlt') from ru)
  have e : bs.getD i true = bs[i]'hlt' := by simp [List.getD, hlt']
  have hq' : Q' (bs.getD i true) s' := hq
  rw [e] at hq'
  exact wpAny_truthy_bool hq'
 ·refine ⟨.bl (bs.all id), H, I.kept (fun b o e => kk b o ?_ (Heap.get?_push_of_some _ e)), ?_, k⟩
  ·intro hb
   have : b = s.heap.objs.size := by simpa using hb
   exact absurd (Heap.lt_size e) (by rw [this]; exact Nat.lt_irrefl _)
  ·show Value.bool _ = Value.bool _
   congr 1
   rw [List.size_toArray, ← hlen]
   rw [Bool.eq_iff_iff, List.all_eq_true, List.all_eq_true]
   constructor
   ·intro q b hb
    obtain ⟨i, hi, rfl⟩ := List.getElem_of_mem hb
    have := q i (List.mem_range.mpr hi)
    simpa [List.getD, hi] using this
   ·intro q i hi
    have hi' := List.mem_range.mp hi
    have := q (bs[i]'hi') (List.getElem_mem hi')
    simpa [List.getD, hi'] using this
def allD : D → Option D
 | .lst ds => (blsD ds).map fun bs => .bl (bs.all id)
 | _ => none
theorem Vs : SndC G (fun xs H Q => ∃ (p : Addr) (bs : List Bool), xs = [.ref p] ∧ SqL G.K H p (bs.map V.bl) ∧ Q (.bl (bs.all id)) H) allD := by
 intro A H x dx d Q lv rx h k
 unfold allD at h
 split at h
 ·rename_i ds
  cases e : blsD ds with
  | none => simp [e] at h
  | some bs =>
   rw [e] at h
   cases h
   obtain ⟨p, xs, rfl, h1, r⟩ := rx.lst
   have e2 := QB r e
   subst e2
   exact ⟨p, bs, rfl, h1, k _ H (Same.refl H) (.bl _)⟩
 ·cases h
theorem Ym : bootBuiltins "all" = some (.builtin "all") := by decide +kernel
end
end PV
namespace PV
open PySem PySem.Spec L2
open PyProof.Rows hiding St
section
variable {X : Cx} {G : Gx} {a b c tg : Expr} {fa fb fc : FE} {pos p2 : Pos}
def isND (neg : Bool) : D → Option D
 | .non => some (.bl (!neg))
 | _ => some (.bl neg)
theorem Vt {A : List Addr} {H : Hp} {v : V} {d : D} (r : RepT G A H v d) : (decide (v = .non)) = (match d with | .non => true | _ => false) := by
 rcases r with r | ⟨p, e, r⟩
 ·cases r <;> simp
 ·subst e
  cases d <;> first | exact r.elim | simp
theorem Tf {j : Nat} {p' : Pos} (ha : PU X G a fa) : PFT X G (.Compare a [.IsNot] [.Constant .none j p'] pos) (blF (uF (isND true) fa)) := fun A => Pq (Xw (Ut (@ha A))) fun σ H Q ⟨ρ, b, o, e, k⟩ => by
 obtain ⟨x0, e1, e2⟩ := JV (Ms e)
 refine ⟨ρ, x0, o, e1, fun v H1 s1 r1 => ⟨_, rfl, ?_⟩⟩
 rw [Vt r1]
 cases x0 <;> (cases e2; exact k H1 s1)
end
end PV
namespace PV
open PySem PySem.Spec L2
open PyProof.Rows hiding St
section
variable {X : Cx} {G : Gx} {a b c tg : Expr} {fa fb fc : FE} {pos p2 : Pos}
def eqTo (x d : D) : Bool := match eqK 62 d x with | some b => b | none => false
def knows (x d : D) : Bool := (eqK 62 d x).isSome
def rInP (G : Gx) (neg : Bool) : R2 := fun x y H Q => ∃ (A : List Addr) (as ds : List D), RepT G A H x (.tup as) ∧ RepT G A H y (.lst ds) ∧ ds.all (knows (.tup as)) = true ∧ Q (.bl (if neg then !ds.any (eqTo (.tup as)) else ds.any (eqTo (.tup as)))) H
open Classical in
theorem Vu (hG : G.K = X.K) (hu : X.A.units + 64 < cLine) {pins : List (Addr × Obj)} {s : Shared} {σ : St} {H : Hp} {A : List Addr} {x : V} {u : Value} {as ds : List D} {xs : List V} {its : List Value} (I : Inv X pins σ H s) (rx : RepT G A H x (.tup as)) (ru : RelV x u)
  (r : RepL G (hid A H) xs ds) (v : Vals xs its) (hk : ds.all (knows (.tup as)) = true) :
  ∃ e : Value → Bool, (∀ y, y ∈ its.toArray → SeqAt.EqAt X.A.in1 s y u (e y)) ∧ its.toArray.any e = ds.any (eqTo (.tup as)) := by
 have rx' : Rep G H x (.tup as) := by
  rcases rx with q | ⟨p, _, q⟩
  ·exact q.mono CV
  ·exact q.elim
 have one : ∀ (i : Nat) y, its[i]? = some y → ∃ d, ds[i]? = some d ∧ SeqAt.EqAt X.A.in1 s y u (eqTo (.tup as) d) := fun i y hy => by
  have hi : i < its.length := (List.getElem?_eq_some_iff.mp hy).1
  have hx : i < xs.length := by rw [v.length]; exact hi
  have hd : i < ds.length := by rw [← r.1]; exact hx
  obtain ⟨y', h1, h2⟩ := v.get (i := i) (x := xs[i]) (by simp [hx])
  rw [hy] at h1
  cases h1
  refine ⟨ds[i], by simp [hd], ?_⟩
  have kn : knows (.tup as) ds[i] = true := List.all_eq_true.mp hk _ (List.getElem_mem hd)
  unfold knows at kn
  obtain ⟨b, hb⟩ := Option.isSome_iff_exists.mp kn
  have eb : eqTo (.tup as) ds[i] = b := by unfold eqTo; rw [hb]
  rw [eb]
  exact Jm I hG 62 X.A.in1 (by show X.A.units + 1 + 62 < cLine; omega) hb ((r.2 i _ _ (by simp [hx]) (by simp [hd])).mono CV) rx' h2 ru
 refine ⟨fun y => decide (∃ (i : Nat) (d : D), its[i]? = some y ∧ ds[i]? = some d ∧ eqTo (.tup as) d = true), fun y hy => ?_, ?_⟩
 ·by_cases h : ∃ (i : Nat) (d : D), its[i]? = some y ∧ ds[i]? = some d ∧ eqTo (.tup as) d = true
  ·obtain ⟨i, d, h1, h2, h3⟩ := id h
   obtain ⟨d', h4, h5⟩ := one i y h1
   rw [h2] at h4
   cases h4
   rw [h3] at h5
   show SeqAt.EqAt X.A.in1 s y u (decide (∃ (i : Nat) (d : D), its[i]? = some y ∧ ds[i]? = some d ∧ eqTo (.tup as) d = true))
   rw [decide_eq_true h]
   exact h5
  ·obtain ⟨i, hi, rfl⟩ := List.getElem_of_mem (show y ∈ its by simpa using hy)
   have hii : its[i]? = some its[i] := List.getElem?_eq_getElem hi
   obtain ⟨d, h4, h5⟩ := one i _ hii
   have h6 : eqTo (.tup as) d = false := by
    cases q : eqTo (.tup as) d with
    | false => rfl
    | true => exact absurd ⟨i, d, hii, h4, q⟩ h
   rw [h6] at h5
   show SeqAt.EqAt X.A.in1 s its[i] u (decide (∃ (j : Nat) (d : D), its[j]? = some its[i] ∧ ds[j]? = some d ∧ eqTo (.tup as) d = true))
   rw [decide_eq_false h]
   exact h5
 ·rw [Bool.eq_iff_iff, List.any_eq_true]
  rw [show its.toArray.any (fun y => decide (∃ (i : Nat) (d : D), its[i]? = some y ∧ ds[i]? = some d ∧ eqTo (.tup as) d = true)) = its.any (fun y => decide (∃ (i : Nat) (d : D), its[i]? = some y ∧ ds[i]? = some d ∧ eqTo (.tup as) d = true)) by simp, List.any_eq_true]
  constructor
  ·rintro ⟨y, hy, h⟩
   obtain ⟨i, d, h1, h2, h3⟩ := of_decide_eq_true h
   exact ⟨d, List.mem_of_getElem? h2, h3⟩
  ·rintro ⟨d, hd, h⟩
   obtain ⟨i, hi, rfl⟩ := List.getElem_of_mem hd
   have hx : i < its.length := by rw [← v.length, r.1]; exact hi
   exact ⟨its[i], List.getElem_mem hx, decide_eq_true ⟨i, _, List.getElem?_eq_getElem hx, List.getElem?_eq_getElem hi, h⟩⟩
theorem Tg (hG : G.K = X.K) (hu : X.A.units + 64 < cLine) : OpR X (compareOp .In) (rInP G false) := by
 intro pins s σ H x y v u Q I rx ry h
 obtain ⟨A, as, ds, r1, r2, hk, k⟩ := h
 obtain ⟨c, ys, rfl, h2, q2⟩ := r2.lst
 cases ry
 obtain ⟨jts, v2, p2, _⟩ := I.list (by rw [← hG]; exact h2)
 obtain ⟨e, he, ea⟩ := Vu hG hu I r1 rx q2 v2 hk
 exact SeqAt.in_listAt e p2.isList he ⟨.bl _, H, I, rfl, by rw [ea]; exact k⟩
def inF (neg : Bool) (x y : D) : Option D := match x, y with
 | .tup as, .lst ds => if ds.all (knows (.tup as)) = true then some (.bl (if neg then !ds.any (eqTo (.tup as)) else ds.any (eqTo (.tup as)))) else none
 | x, y => inE neg x y
theorem QC (neg : Bool) : Ey G (fun x y H Q => (rInA G.K neg x y H Q ∨ rDIn neg x y H Q) ∨ rInP G neg x y H Q) (inF neg) := by
 intro A H x y dx dy d Q lv rx ry h k
 unfold inF at h
 split at h
 ·split at h
  ·rename_i hk
   cases h
   exact .inr ⟨A, _, _, rx, ry, hk, k _ H (Same.refl H) (.bl _)⟩
  ·cases h
 ·exact .inl (Vo neg A H x y _ _ d Q lv rx ry h k)
end
end PV
namespace PySem
open PySem.Spec
end PySem
namespace PySem
open PySem.Spec
end PySem
namespace PV
open PySem PySem.Spec L2
open PyProof.Rows hiding St
theorem Th : bootBuiltins "tuple" = some (.type "tuple") := by decide +kernel
def Gx.lend (G : Gx) (x : Addr) : Gx := { G with lent := some x }
section
variable {G : Gx} {x : Addr} {H : Hp}
theorem Rep.lend {v : V} {d : D} (r : Rep G H v d) : Rep (G.lend x) H v d := by
 induction r with
 | non => exact .non
 | bl b => exact .bl b
 | int i => exact .int i
 | str x => exact .str x
 | tup h l _ ih => exact .tup h l ih
 | lst h l _ ih => exact .lst h l ih
 | dk h l _ ih => exact .dk h l ih
 | dt h l _ ih => exact .dt h l ih
 | adr a => exact .adr a
 | ob c h l _ ih => exact .ob c h l ih
 | err c h q f => exact .err c h q f
theorem Rep.unlend {v : V} {d : D} (r : Rep (G.lend x) H v d) : Rep G H v d := by
 induction r with
 | non => exact .non
 | bl b => exact .bl b
 | int i => exact .int i
 | str x => exact .str x
 | tup h l _ ih => exact .tup h l ih
 | lst h l _ ih => exact .lst h l ih
 | dk h l _ ih => exact .dk h l ih
 | dt h l _ ih => exact .dt h l ih
 | adr a => exact .adr a
 | ob c h l _ ih => exact .ob c h l ih
 | err c h q f => exact .err c h q f
theorem RepL.lend {xs : List V} {ds : List D} (r : RepL G H xs ds) : RepL (G.lend x) H xs ds := ⟨r.1, fun i y d a b => (r.2 i y d a b).lend⟩
theorem RepL.unlend {xs : List V} {ds : List D} (r : RepL (G.lend x) H xs ds) : RepL G H xs ds := ⟨r.1, fun i y d a b => (r.2 i y d a b).unlend⟩
theorem Top.lend {A : List Addr} {a : Addr} {d : D} (t : Top G A H a d) : Top (G.lend x) A H a d := by
 cases d with
 | lst ds => obtain ⟨xs, q1, q2⟩ := t; exact ⟨xs, q1, q2.lend⟩
 | dk ds => obtain ⟨xs, q1, q2, q3⟩ := t; exact ⟨xs, q1, q2, q3.lend⟩
 | dt ds => obtain ⟨xs, q1, q2, q3⟩ := t; exact ⟨xs, q1, q2, q3.lend⟩
 | ob c gs => obtain ⟨C, dx, xs, q1, q2, q3⟩ := t; exact ⟨C, dx, xs, q1, q2, q3.lend⟩
 | _ => exact t.elim
theorem Top.unlend {A : List Addr} {a : Addr} {d : D} (t : Top (G.lend x) A H a d) : Top G A H a d := by
 cases d with
 | lst ds => obtain ⟨xs, q1, q2⟩ := t; exact ⟨xs, q1, q2.unlend⟩
 | dk ds => obtain ⟨xs, q1, q2, q3⟩ := t; exact ⟨xs, q1, q2, q3.unlend⟩
 | dt ds => obtain ⟨xs, q1, q2, q3⟩ := t; exact ⟨xs, q1, q2, q3.unlend⟩
 | ob c gs => obtain ⟨C, dx, xs, q1, q2, q3⟩ := t; exact ⟨C, dx, xs, q1, q2, q3.unlend⟩
 | _ => exact t.elim
theorem Top.sub {A B : List Addr} {a : Addr} {d : D} (t : Top G B H a d) (h : ∀ a ∈ A, a ∈ B) : Top G A H a d := by
 cases d with
 | lst ds => obtain ⟨xs, q1, q2⟩ := t; exact ⟨xs, q1, q2.mono (Df h)⟩
 | dk ds => obtain ⟨xs, q1, q2, q3⟩ := t; exact ⟨xs, q1, q2, q3.mono (Df h)⟩
 | dt ds => obtain ⟨xs, q1, q2, q3⟩ := t; exact ⟨xs, q1, q2, q3.mono (Df h)⟩
 | ob c gs => obtain ⟨C, dx, xs, q1, q2, q3⟩ := t; exact ⟨C, dx, xs, q1, q2, q3.mono (Df h)⟩
 | _ => exact t.elim
def JF (x : Addr) (H H' : Hp) : Prop := ∀ b o, b ≠ x → H b = some o → H' b = some o
theorem Dr {A : List Addr} {H' : Hp} (hx : x ∈ A) (s : JF x H H') : Same (hid A H) (hid A H') := fun b o h => by
 unfold hid at h ⊢
 split at h
 ·cases h
 ·rename_i hb; rw [if_neg hb]; exact s b o (fun z => hb (z ▸ hx)) h
theorem Top.other {A : List Addr} {H' : Hp} {q : Addr} {d : D} (t : Top G A H q d) (nq : q ≠ x) (hx : x ∈ A) (s : JF x H H') : Top G A H' q d := by
 have sm := Dr hx s
 cases d with
 | lst ds => obtain ⟨xs, q1, q2⟩ := t; exact ⟨xs, s _ _ nq q1, q2.mono sm⟩
 | dk ds => obtain ⟨xs, q1, q2, q3⟩ := t; exact ⟨xs, s _ _ nq q1, q2, q3.mono sm⟩
 | dt ds => obtain ⟨xs, q1, q2, q3⟩ := t; exact ⟨xs, s _ _ nq q1, q2, q3.mono sm⟩
 | ob c gs => obtain ⟨C, dx, xs, q1, q2, q3⟩ := t; exact ⟨C, dx, xs, s _ _ nq q1, q2, q3.mono sm⟩
 | _ => exact t.elim
end
theorem OkW.wrX {G : Gx} {A0 : List Addr} {He : Hp} {A : List Addr} {σ : St} {H H' : Hp} {ρ : Rho} {i : Nat} {d0 d : D} {p : Addr} (w : OkW G A0 He A σ H ρ) (hi : ρ[i]? = some (.ow d0)) (hs : σ[i]? = some (some (.ref p))) (sx : JF p H H') (t : Top G A H' p d) : OkW G A0 He A σ H' (ρ.set i (.ow d)) := by
 obtain ⟨q, h1, hA, _⟩ := w.ok.ow i d0 hi
 rw [hs] at h1
 cases h1
 have hep : He p = none := by
  rcases w.fr p hA with z | z
  ·exact absurd z (w.ow0 i d0 p hi hs)
  ·exact z
 have sm := Dr hA sx
 refine ⟨fun b u h => sx b u (Bu h hep) (w.same b u h), w.sub, w.fr, w.l0, ⟨by rw [List.length_set]; exact w.ok.len, fun b hb => ?_, fun j e h => ?_, fun j e h => ?_, fun j k e f q g1 g2 g3 g4 => ?_⟩, fun j e q g1 g2 => ?_, fun x e hx h0 => ?_⟩
 ·by_cases z : b = p
  ·rw [z]; exact t.live
  ·exact (w.ok.live b hb).mono fun u e => sx b u z e
 ·rcases CW h with ⟨_, hz, _⟩ | ⟨hj, hz⟩
  ·cases hz
  ·obtain ⟨v, q1, q2⟩ := w.ok.fz j e hz
   exact ⟨v, q1, q2.mono sm⟩
 ·rcases CW h with ⟨hj, hz, hl⟩ | ⟨hj, hz⟩
  ·cases hz
   subst hj
   exact ⟨p, hs, hA, t⟩
  ·obtain ⟨q, q1, q2, q3⟩ := w.ok.ow j e hz
   have nq : q ≠ p := fun z => hj (w.ok.inj j i e d0 p hz hi (z ▸ q1) hs)
   exact ⟨q, q1, q2, q3.other nq hA sx⟩
 ·have up : ∀ (m : Nat) (g : D), (ρ.set i (.ow d))[m]? = some (.ow g) → ∃ g', ρ[m]? = some (.ow g') := fun m g z => by
   rcases CW z with ⟨hm, _, _⟩ | ⟨_, hz⟩
   ·exact ⟨d0, by rw [hm]; exact hi⟩
   ·exact ⟨g, hz⟩
  obtain ⟨e', z1⟩ := up j e g1
  obtain ⟨f', z2⟩ := up k f g2
  exact w.ok.inj j k e' f' q z1 z2 g3 g4
 ·rcases CW g1 with ⟨hj, _, _⟩ | ⟨hj, hz⟩
  ·subst hj
   exact w.ow0 j d0 q hi g2
  ·exact w.ow0 j e q hz g2
 ·rcases CW h0 with ⟨hj, _, _⟩ | ⟨_, hz⟩
  ·exact w.lt x d0 hx (by rw [hj]; exact hi)
  ·exact w.lt x e hx hz
def spS (G : Gx) (g : List D → Option (D × D)) : Sp := fun vs H Q _ => ∃ A x vs' so ds d so', vs = .ref x :: vs' ∧ (∀ a ∈ A, Nt (H a)) ∧ x ∈ A ∧ Top G A H x so ∧ RepL G (hid A H) vs' ds ∧ g (so :: ds) = some (d, so') ∧
 ∀ v H', JF x H H' → Top G A H' x so' → Rep G (hid A H') v d → Q v H'
theorem Hx {P : Program} {w : World} {K : PySem.W.Frag} {mg : Str → Option Value} {base : Heap} {CX : CXT} {k : Nat} {f : Addr} {fd : FuncData} {ps : List Str} {G : Gx} {g : List D → Option D} {y : Addr} (F : FnOk P w K mg base CX k f fd ps (spD G g)) : FnOk P w K mg base CX k f fd ps (spD (G.lend y) g) :=
 F.imp fun vs H Q E ⟨A, ds, d, lv, r, e, q⟩ => ⟨A, ds, d, lv, r.unlend, e, fun v H' s r' => q v H' s r'.lend⟩
theorem Zw {P : Program} {w : World} {K : PySem.W.Frag} {mg : Str → Option Value} {base : Heap} {CX : CXT} {k : Nat} {f : Addr} {fd : FuncData} {ps : List Str} {G : Gx} {g : List D → Option (D × D)} {y : Addr} (F : FnOk P w K mg base CX k f fd ps (spS G g)) : FnOk P w K mg base CX k f fd ps (spS (G.lend y) g) :=
 F.imp fun vs H Q E ⟨A, x, vs', so, ds, d, so', e0, lv, hx, t, r, e, q⟩ => ⟨A, x, vs', so, ds, d, so', e0, lv, hx, t.unlend, r.unlend, e, fun v H' s t' r' => q v H' s t'.lend r'.lend⟩
theorem Ku {G : Gx} {A : List Addr} {H : Hp} {N : List Str} {x : Addr} {vs : List V} {so : D} {ds : List D} (live : ∀ a ∈ A, Nt (H a)) (hx : x ∈ A) (t : Top G A H x so) (r : RepL G (hid A H) vs ds) (hn : vs.length + 1 ≤ N.length) :
  OkW (G.lend x) (A.filter fun b => decide (b ≠ x)) (hid [x] H) A (start N (.ref x :: vs)) H (GC N.length (so :: ds)) := by
 have hmem : ∀ b, b ∈ A.filter (fun b => decide (b ≠ x)) ↔ b ∈ A ∧ b ≠ x := fun b => by simp [List.mem_filter]
 have key : ∀ (i : Nat) (z : Slot), (GC N.length (so :: ds))[i]? = some z → (i = 0 ∧ z = .ow so) ∨ (∃ j d, i = j + 1 ∧ z = .fz d ∧ ds[j]? = some d) ∨ z = .un := fun i z h => by
  cases i with
  | zero => exact .inl ⟨rfl, (Option.some.inj h).symm⟩
  | succ j =>
   right
   have h : (ds.map Slot.fz ++ List.replicate (N.length - (ds.length + 1)) Slot.un)[j]? = some z := h
   by_cases hi : j < ds.length
   ·rw [List.getElem?_append_left (by simpa using hi), List.getElem?_map] at h
    cases e : ds[j]? with
    | none => rw [e] at h; cases h
    | some d => rw [e] at h; exact .inl ⟨j, d, rfl, (Option.some.inj h).symm, e⟩
   ·rw [List.getElem?_append_right (by simpa using Nat.not_lt.mp hi), List.getElem?_replicate] at h
    split at h
    ·exact .inr (Option.some.inj h).symm
    ·cases h
 have s0 : (start N (.ref x :: vs))[0]? = some (some (.ref x)) := rfl
 refine ⟨CV, fun a ha => ((hmem a).mp ha).1, fun a ha => ?_, fun a ha => ?_, ⟨?_, live, fun i d h => ?_, fun i d h => ?_, fun i j d e a h1 h2 _ _ => ?_⟩, fun i d a h h2 => ?_, fun y d hy _ => ?_⟩
 ·by_cases z : a = x
  ·right; unfold hid; rw [if_pos (by simp [z])]
  ·exact .inl ((hmem a).mpr ⟨ha, z⟩)
 ·obtain ⟨h1, h2⟩ := (hmem a).mp ha
  rw [Cu (by simpa using h2)]
  exact (live a h1).ne
 ·unfold L2.start GC
  simp only [List.length_append, List.length_map, List.length_replicate, List.length_cons]
  rw [← r.1]
  omega
 ·rcases key i _ h with ⟨_, e⟩ | ⟨j, d', rfl, e, hd⟩ | e
  ·cases e
  ·cases e
   obtain ⟨v, h1, h2⟩ := r.get hd
   refine ⟨v, ?_, h2.lend⟩
   have hj : j < vs.length := (List.getElem?_eq_some_iff.mp h1).1
   show ((V.ref x :: vs).map some ++ _)[j + 1]? = _
   rw [List.getElem?_append_left (by simp; omega), List.getElem?_map, List.getElem?_cons_succ, h1]
   rfl
  ·cases e
 ·rcases key i _ h with ⟨rfl, e⟩ | ⟨j, d', rfl, e, hd⟩ | e
  ·cases e
   exact ⟨x, s0, hx, t.lend⟩
  ·cases e
  ·cases e
 ·rcases key i _ h1 with ⟨rfl, e1⟩ | ⟨_, _, _, e1, _⟩ | e1
  ·rcases key j _ h2 with ⟨rfl, e2⟩ | ⟨_, _, _, e2, _⟩ | e2
   ·rfl
   ·cases e2
   ·cases e2
  ·cases e1
  ·cases e1
 ·rcases key i _ h with ⟨rfl, e⟩ | ⟨_, _, _, e, _⟩ | e
  ·rw [s0] at h2
   cases h2
   exact fun z => ((hmem _).mp z).2 rfl
  ·cases e
  ·cases e
 ·have hy : some x = some y := hy
  cases hy
  exact s0
theorem HB {d d' so : D} {ρ : Rho} (h : endS d ρ = some (d', so)) : d' = d ∧ ρ[0]? = some (.ow so) := by
 unfold endS getW at h
 split at h
 ·rename_i e; simp at h; exact ⟨h.1.symm, by rw [e, h.2]⟩
 ·simp at h
theorem fn_S {P : Program} {w : World} {G : Gx} {mg : Str → Option Value} {base : Heap} {x qual : Str} {st : Stmt} {f : Addr} {fd : FuncData} {N ps : List Str} {k : Nat} {b : FS} (F : Fun G.K x qual st f fd) (S : FnScope N ps (Ab st)) (hl : ps.length ≤ N.length)
  (hb : ∀ (y : Addr) (cdv : Value) (A : Around) (outer : List Env) (s : Shared) (H : Hp) (E : XK), Room k (A.deeper (envOfC qual (Ab st) s.heap.objs.size f cdv)) → PSDs (cxOf CX0 P w G.K mg base N qual (Ab st) f cdv A outer s H E).nox (G.lend y) (CP st) b) :
  FnOk P w G.K mg base CX0 (k + 1) f fd ps (spS G (runS N.length ps.length b)) := by
 refine F.ok S (fun vs H Q E h => ?_) (fun cdv A outer s H vs Q E hr h => ?_)
 ·obtain ⟨A, x, vs', so, ds, d, so', rfl, lv, hx, t, r, e, _⟩ := h
  unfold runS at e
  split at e
  ·rename_i hz; rw [List.length_cons, r.1]; exact hz
  ·cases e
 ·obtain ⟨A1, x, vs', so, ds, d, so', rfl, lv, hx, t, r, e, k⟩ := h
  unfold runS at e
  split at e
  ·rename_i hz
   have hzz := hb x cdv A outer s H E hr
   refine ⟨_, @hzz (A1.filter fun b => decide (b ≠ x)) (hid [x] H), GC N.length (so :: ds), ?_⟩
   have fin : ∀ (σ' : St) (H' : Hp) (A2 : List Addr) (ρ : Rho) (v : V) (d2 : D), OkW (G.lend x) (A1.filter fun b => decide (b ≠ x)) (hid [x] H) A2 σ' H' ρ → Rep (G.lend x) (hid A2 H') v d2 → endS d2 ρ = some (d, so') → Q v H' := fun σ' H' A2 ρ v d2 w rv he => by
    obtain ⟨rfl, h0⟩ := HB he
    obtain ⟨a, q1, q2, q3⟩ := w.ok.ow 0 so' h0
    rw [w.lt x so' rfl h0] at q1
    cases q1
    have sub : ∀ a ∈ A1, a ∈ A2 := fun a ha => by
     by_cases z : a = x
     ·rw [z]; exact q2
     ·exact w.sub a (by simp [List.mem_filter, ha, z])
    exact k v H' (fun b o hb ho => w.same b o (by rw [Cu (by simpa using hb)]; exact ho)) (q3.unlend.sub sub) (rv.unlend.mono (Df sub))
   cases e1 : b (GC N.length (so :: ds)) with
   | none => simp [e1] at e
   | some o =>
    refine ⟨o, ⟨_, Ku lv hx t r (by rw [r.1]; simp at hz; omega)⟩, rfl, ?_⟩
    cases o with
    | nx ρ =>
     simp only [e1] at e
     exact fun σ H' ⟨A, w⟩ => fin σ H' A ρ .non .non w .non e
    | rt d' ρ' =>
     simp only [e1] at e
     exact fun v σ H' A w r' => fin σ H' A ρ' v d' w r' e
    | bk ρ => simp [e1] at e
    | ct ρ => simp [e1] at e
  ·cases e
def tX (G : Gx) (A0 : List Addr) (He : Hp) (h : FZ) : TE := fun σ H Q => ∃ ρ d ρ' A, OkW G A0 He A σ H ρ ∧ h ρ = some (d, ρ') ∧ ∀ v H' A', OkW G A0 He A' σ H' ρ' → Same (hid A H) (hid A' H') → Rep G (hid A' H') v d → Q v H'
def PX (X : Cx) (G : Gx) (e : Expr) (h : FZ) : Prop := ∀ ⦃A0⦄ He, PE X e (tX G A0 He h)
section
variable {X : Cx} {G : Gx} {a b c : Expr} {fa fb fc : FE} {pos p2 px rp p apos : Pos} {es : List Expr} {fs : FA} {h : FZ} {hs : FZA}
theorem Vv {i : Nat} {x : Str} (hp : ∀ te, PE X a te → PS X (.Assign [.Name x p] a pos) (tAsg te (Gw i))) (ha : PX X G a h) : PSD X G (.Assign [.Name x p] a pos) (setX i h) := fun A0 He pins s σ H D I ⟨ρ, o, ⟨A, w⟩, e, k⟩ => by
 refine hp _ (@ha A0 He) pins s σ H D I ?_
 unfold setX at e
 cases e1 : h ρ with
 | none => simp [e1] at e
 | some r =>
  simp only [e1, Option.map_some] at e
  cases e
  exact ⟨ρ, _, _, A, w, e1, fun v H' A' w' sm rv => k _ _ ⟨A', w'.set rv i⟩⟩
theorem Jv {m : Str} : ∀ {gs : List (Str × D)} {fs : List (Str × V)}, fs.map (·.1) = gs.map (·.1) → gs.lookup m = none → fs.lookup m = none
 | [], fs, e, h => by
  cases fs with
  | nil => rfl
  | cons q r => simp at e
 | p :: gs, [], e, h => by simp at e
 | p :: gs, q :: fs, e, h => by
  rw [List.map_cons, List.map_cons] at e
  injection e with e1 e2
  obtain ⟨p1, p2⟩ := p
  obtain ⟨q1, q2⟩ := q
  simp only at e1
  subst e1
  by_cases hf : m = q1
  ·subst hf; simp [List.lookup_cons] at h
  ·have hb : (m == q1) = false := beq_eq_false_iff_ne.mpr hf
   simp only [List.lookup_cons, hb] at h ⊢
   exact Jv e2 h
theorem G6 {A : List Addr} {H : Hp} {y C : Addr} {c m : Str} {so : D} (hc : G.cl c = some C) (ho : isOb c m so = true) (t : Top G A H y so) : ∃ dx fs, H y = some (.ins C dx fs) ∧ fs.lookup m = none := by
 unfold isOb at ho
 split at ho
 ·rename_i c' gs
  rw [Bool.and_eq_true] at ho
  have hc' := of_decide_eq_true ho.1
  subst hc'
  obtain ⟨C', dx, xs, q1, q2, q3⟩ := t
  rw [hc] at q2
  cases q2.1
  exact ⟨dx, xs, q1, Jv q2.2 (Option.isNone_iff_eq_none.mp ho.2)⟩
 ·cases ho
theorem Ti {pl : Sem Bool} {k i : Nat} {f C : Addr} {fd : FuncData} {ps : List Str} {g : List D → Option (D × D)} {cn m r : Str} (hcl : G.cl cn = some C) (hc : Cls X.K C) (hme : Meth X.K C m f) (F : FnOk X.prog X.w X.K X.mg X.base CX0 k f fd ps (spS G g)) (hr : Room k X.A)
  (hb : Binds X.K fd ps []) (hv : PE X (.Name r rp) (tVar i))
  (ht : eval (.Call (.Attribute (.Name r rp) m apos) [] [] pos) X.env = (do
   let ov ← eval (.Name r rp) X.env
   standAt apos.atName
   let (f, first) ← holding [ov] (getMethod ov m pl)
   callWith pos f first (backTo pos (starEach [] X.env)) (backToKw pos (keywordEach [] X.env))) := by rfl) :
  PX X G (.Call (.Attribute (.Name r rp) m apos) [] [] pos) (DP cn m g i nilA) := fun A0 He pins s σ H Q I ⟨ρ, d, ρ', A, w, e, k⟩ => by
 refine MP (pl := pl) hv hc hme F hr hb .nil Mg ht pins s σ H Q I ?_
 unfold DP at e
 cases e2 : ownO ρ i with
 | none => simp [e2] at e
 | some so =>
  simp only [e2, Option.bind_some] at e
  split at e
  ·rename_i ho
   have e1 : nilA ρ = some [] := rfl
   cases e3 : g [so] with
   | none => simp [e1, e3] at e
   | some r =>
    simp only [e1, e3, Option.bind_some, Option.map_some] at e
    cases e
    have hi := GZ e2
    obtain ⟨y, h1, hA, t⟩ := w.ok.ow i so hi
    obtain ⟨dx, xs, q1, q2⟩ := G6 hcl ho t
    refine ⟨_, h1, y, dx, xs, rfl, q1, q2, ?_⟩
    refine ⟨A, y, [], so, [], r.1, r.2, rfl, w.ok.live, hA, t, .nil, e3, fun v H' sx t' rv => k v H' A (w.wrX hi h1 sx t') (Dr hA sx) rv⟩
  ·cases e
theorem M6 {H H' : Hp} {v : V} {d d' : D} (h : Mr d = some d') (r : Rep G H v d) : d' = d ∧ Rep G H' v d := by
 cases d with
 | non => cases h; cases r; exact ⟨rfl, .non⟩
 | bl b => cases h; cases r; exact ⟨rfl, .bl b⟩
 | int b => cases h; cases r; exact ⟨rfl, .int b⟩
 | str b => cases h; cases r; exact ⟨rfl, .str b⟩
 | _ => cases h
theorem QD {A : List Addr} {H : Hp} {y : Addr} {c m : Str} {so : D} (ho : isOb c m so = true) (t : Top G A H y so) : Rep G (hid (A.filter fun b => decide (b ≠ y)) H) (.ref y) so := by
 have hmem : ∀ b, b ∈ A.filter (fun b => decide (b ≠ y)) ↔ b ∈ A ∧ b ≠ y := fun b => by simp [List.mem_filter]
 unfold isOb at ho
 split at ho
 ·obtain ⟨C', dx, xs, q1, q2, q3⟩ := t
  exact .ob q2.1 (by rw [Cu (fun z => ((hmem y).mp z).2 rfl)]; exact q1) q2.2 (q3.mono (Df fun b hb => ((hmem b).mp hb).1)).2
 ·cases ho
theorem Jw {c m : Str} {g : List D → Option D} {i : Nat} {ρ : Rho} {d : D} (e : GP c m g i fs ρ = some d) : ∃ so ds d0, ρ[i]? = some (.ow so) ∧ isOb c m so = true ∧ fs ρ = some ds ∧ g (so :: ds) = some d0 ∧ Mr d0 = some d := by
 unfold GP at e
 cases e2 : ownO ρ i with
 | none => simp [e2] at e
 | some so =>
  simp only [e2, Option.bind_some] at e
  split at e
  ·rename_i ho
   cases e1 : fs ρ with
   | none => simp [e1] at e
   | some ds =>
    cases e3 : g (so :: ds) with
    | none => simp [e1, e3] at e
    | some d0 =>
     simp only [e1, e3, Option.bind_some] at e
     exact ⟨so, ds, d0, GZ e2, ho, rfl, e3, e⟩
  ·cases e
theorem Ga {pl : Sem Bool} {k i : Nat} {f C : Addr} {fd : FuncData} {ps : List Str} {g : List D → Option D} {cn m r : Str} (hcl : G.cl cn = some C) (hc : Cls X.K C) (hme : Meth X.K C m f) (F : FnOk X.prog X.w X.K X.mg X.base CX0 k f fd ps (spD G g)) (hr : Room k X.A)
  (hb : Binds X.K fd ps []) (hv : PE X (.Name r rp) (tVar i)) (ha : PFA X G (b :: es) fs) (hst : starEach (b :: es) X.env = (false, eval b X.env) :: starEach es X.env := by rfl) (hpl : (backTo pos (starEach es X.env)).any (·.1) = false := by rfl)
  (ht : eval (.Call (.Attribute (.Name r rp) m apos) (b :: es) [] pos) X.env = (do
   let ov ← eval (.Name r rp) X.env
   standAt apos.atName
   let (f, first) ← holding [ov] (getMethod ov m pl)
   callWith pos f first (backTo pos (starEach (b :: es) X.env)) (backToKw pos (keywordEach [] X.env))) := by rfl) :
  PF X G (.Call (.Attribute (.Name r rp) m apos) (b :: es) [] pos) (GP cn m g i fs) := fun A => Dj (U4 (pl := pl) hv hc hme F hr hb .nil Mg (@ha A) hst hpl ht) fun σ H Q ⟨ρ, d, o, e, k⟩ => by
 obtain ⟨so, ds, d0, hi, ho, e1, e3, e4⟩ := Jw e
 obtain ⟨y, h1, hA, t⟩ := o.ow i so hi
 obtain ⟨dx, xs, q1, q2⟩ := G6 hcl ho t
 refine ⟨_, h1, y, dx, xs, rfl, q1, q2, ρ, ds, o, e1, fun vs H1 s1 r1 => ?_⟩
 refine ⟨A.filter fun b => decide (b ≠ y), so :: ds, d0, fun a ha => (o.mono s1).live a (List.mem_filter.mp ha).1, ?_, e3, fun v H' s' r' => ?_⟩
 ·rw [List.append_nil]
  exact .cons (QD ho (t.mono s1)) (r1.mono (Df fun b hb => (List.mem_filter.mp hb).1))
 ·obtain ⟨e5, r5⟩ := M6 (H' := hid A H') e4 r'
  exact k v H' (s1.trans s') (e5 ▸ r5)
theorem Kv {pl : Sem Bool} {k i : Nat} {f C : Addr} {fd : FuncData} {ps : List Str} {g : List D → Option D} {cn m r : Str} (hcl : G.cl cn = some C) (hc : Cls X.K C) (hme : Meth X.K C m f) (F : FnOk X.prog X.w X.K X.mg X.base CX0 k f fd ps (spD G g)) (hr : Room k X.A)
  (hb : Binds X.K fd ps []) (hv : PE X (.Name r rp) (tVar i))
  (ht : eval (.Call (.Attribute (.Name r rp) m apos) [] [] pos) X.env = (do
   let ov ← eval (.Name r rp) X.env
   standAt apos.atName
   let (f, first) ← holding [ov] (getMethod ov m pl)
   callWith pos f first (backTo pos (starEach [] X.env)) (backToKw pos (keywordEach [] X.env))) := by rfl) :
  PF X G (.Call (.Attribute (.Name r rp) m apos) [] [] pos) (GP cn m g i nilA) := fun A => Dj (MP (pl := pl) hv hc hme F hr hb .nil Mg ht) fun σ H Q ⟨ρ, d, o, e, k⟩ => by
 obtain ⟨so, ds, d0, hi, ho, e1, e3, e4⟩ := Jw e
 cases e1
 obtain ⟨y, h1, hA, t⟩ := o.ow i so hi
 obtain ⟨dx, xs, q1, q2⟩ := G6 hcl ho t
 refine ⟨_, h1, y, dx, xs, rfl, q1, q2, ?_⟩
 refine ⟨A.filter fun b => decide (b ≠ y), [so], d0, fun a ha => o.live a (List.mem_filter.mp ha).1, .cons (QD ho t) .nil, e3, fun v H' s' r' => ?_⟩
 obtain ⟨e5, r5⟩ := M6 (H' := hid A H') e4 r'
 exact k v H' s' (e5 ▸ r5)
theorem M7 {H : Hp} {f : Str} {v : V} {d : D} (rv : Rep G H v d) : ∀ {gs : List (Str × D)} {fs : List (Str × V)}, fs.map (·.1) = gs.map (·.1) → RepL G H (fs.map (·.2)) (gs.map (·.2)) → (L2.putF f v fs).map (·.1) = (putG f d gs).map (·.1) ∧ RepL G H ((L2.putF f v fs).map (·.2)) ((putG f d gs).map (·.2))
 | [], fs, e, r => by
  cases fs with
  | nil => exact ⟨rfl, .cons rv .nil⟩
  | cons q r => simp at e
 | p :: gs, [], e, r => by simp at e
 | p :: gs, q :: fs, e, r => by
  rw [List.map_cons, List.map_cons] at e r
  injection e with e1 e2
  obtain ⟨x, ys, e3, r1, r2⟩ := r.uncons
  injection e3 with e4 e5
  subst e4 e5
  obtain ⟨p1, p2⟩ := p
  obtain ⟨q1, q2⟩ := q
  simp only at e1 r1
  subst e1
  unfold L2.putF putG
  by_cases hf : q1 = f
  ·rw [if_pos hf, if_pos hf]
   exact ⟨by simp only [List.map_cons]; rw [e2], .cons rv r2⟩
  ·rw [if_neg hf, if_neg hf]
   obtain ⟨i1, i2⟩ := M7 rv e2 r2
   exact ⟨by simp only [List.map_cons]; rw [i1], .cons r1 i2⟩
theorem G7 {i : Nat} {x f : Str} {pos' : Pos} (hcl : ∀ c C, G.cl c = some C → Cls X.K C ∧ Cv X.K C f) (hv : PE X (.Name x p) (tVar i)) (ha : PF X G a fa) (hsw : swapsWith a (some (.Attribute (.Name x p) f pos')) pos.line X.env = pure false := by rfl) :
  PSD X G (.Assign [.Attribute (.Name x p) f pos'] a pos) (fldS f i fa) := fun A0 He pins s σ H D I ⟨ρ, o, ⟨A, w⟩, e, k⟩ => by
 refine YD hv (@ha A) hsw pins s σ H D I ?_
 unfold fldS at e
 cases e1 : fa ρ with
 | none => simp [e1] at e
 | some v =>
  cases e2 : ownO ρ i with
  | none => simp [e1, e2] at e
  | some so =>
   cases e3 : JC f so v with
   | none => simp [e1, e2, e3] at e
   | some so' =>
    simp only [e1, e2, e3, Option.bind_some, Option.map_some] at e
    cases e
    have hi := GZ e2
    obtain ⟨y, h1, hA, t⟩ := w.ok.ow i so hi
    unfold JC at e3
    split at e3
    ·rename_i c gs
     split at e3
     ·rename_i hz
      cases e3
      obtain ⟨C, dx, xs, q1, q2, q3⟩ := t
      have hl := congrArg List.length q2.2
      rw [List.length_map, List.length_map] at hl
      refine ⟨ρ, v, w.ok, e1, fun u H1 s1 r1 => ⟨_, h1, y, C, dx, xs, rfl, s1 _ _ q1, (hcl _ _ q2.1).1, (hcl _ _ q2.1).2, by rw [hl]; exact hz, ?_⟩⟩
      obtain ⟨n1, n2⟩ := M7 (f := f) r1 q2.2 (q3.mono (CZ s1))
      refine k _ _ ⟨A, (w.mono s1).wr hi h1 ⟨C, dx, _, B_, ⟨q2.1, n1⟩, ?_⟩⟩
      rw [Hl hA]
      exact n2
     ·cases e3
    ·cases e3
theorem Vw {k : Nat} {f C : Addr} {fd : FuncData} {ps : List Str} {g : List D → Option (D × D)} {cn x : Str} (hcl : G.cl cn = some C) (M : Mk X.K C f) (F : FnOk X.prog X.w X.K X.mg X.base CX0 k f fd ps (spS G g)) (hr : Room (k + 1) X.A) (hg : Gl X x) (hm : X.mg x = some (.ref C)) (hb : Binds X.K fd ps [])
  (ha : PFA X G (a :: es) fs) (hdb : (x == ("__debug__" : Str)) = false := by decide) (he : starEach (a :: es) X.env = (false, eval a X.env) :: starEach es X.env := by rfl) (hpl : (backTo pos (starEach es X.env)).any (·.1) = false := by rfl) :
  PN X G (.Call (.Name x p) (a :: es) [] pos) (mkF cn g fs) := fun A => Dj (U5 M F hr hg hm hb .nil Mg (@ha A) hdb he hpl) fun σ H Q ⟨ρ, d, o, e, k⟩ => by
 unfold mkF at e
 cases e1 : fs ρ with
 | none => simp [e1] at e
 | some ds =>
  cases e3 : g (.ob cn [] :: ds) with
  | none => simp [e1, e3] at e
  | some r =>
   simp only [e1, e3, Option.bind_some] at e
   obtain ⟨r1, r2⟩ := r
   cases r1 with
   | non =>
    cases e
    refine ⟨ρ, ds, o, e1, fun vs H1 s1 rv => fun y dx hy hdx hne => ?_⟩
    have sm : Same H1 (upd (upd H1 dx (.own y)) y (.ins C dx [])) := (DQ hdx _).trans (DQ (by rw [BP (Ne.symm hne)]; exact hy) _)
    refine ⟨y :: A, y, vs, .ob cn [], ds, .non, _, by rw [List.append_nil], fun b hb => ?_, List.mem_cons_self, ⟨C, dx, [], B_, ⟨hcl, rfl⟩, .nil⟩, rv.mono (Kr sm hy), e3, fun v H' sx t' rv' => ?_⟩
    ·rcases List.mem_cons.mp hb with z | z
     ·rw [z, B_]; exact Nt.ins
     ·exact ((o.mono s1).live b z).mono fun u e => sm _ _ e
    ·cases rv'
     refine ⟨rfl, k y H' (fun b u hb => sx b u (fun z => ?_) (sm _ _ (s1 _ _ hb))) (s1.free hy) t'⟩
     have := s1 _ _ hb
     rw [z, hy] at this
     cases this
   | _ => cases e
end
end PV
namespace PV
open PySem L2
abbrev Ef := List (Str × Bool × D)
abbrev FEs := Rho → Ef → Option (Rho × Ef)
abbrev FTE := Rho → Ef → Option Bool
def noOw (ρ : Rho) : Bool := ρ.all fun z => match z with | .ow _ => false | _ => true
def repE (f : Str) (d : D) : Ef → Ef
 | [] => []
 | (g, b, x) :: r => if g = f then (g, b, d) :: r else (g, b, x) :: repE f d r
def finE (c : Str) (ε : Ef) : D := .ob c (ε.map fun p => (p.1, p.2.2))
end PV
namespace PV
open PySem PySem.Spec L2
open PyProof.Rows hiding St
theorem Gb {ρ : Rho} (h : noOw ρ = true) (i : Nat) (d : D) : ρ[i]? ≠ some (.ow d) := fun e => by
 unfold noOw at h
 rw [List.all_eq_true] at h
 have := h _ (List.mem_of_getElem? e)
 cases this
inductive FsOk (G : Gx) (A0 A : List Addr) (H : Hp) (x : Addr) : List (Str × V) → Ef → List Addr → Prop
 | nil : FsOk G A0 A H x [] [] []
 | pl {f : Str} {v : V} {d : D} {fs : List (Str × V)} {ε : Ef} {as : List Addr} : Rep G (hid A H) v d → FsOk G A0 A H x fs ε as → FsOk G A0 A H x ((f, v) :: fs) ((f, false, d) :: ε) as
 | ow {f : Str} {a : Addr} {d : D} {fs : List (Str × V)} {ε : Ef} {as : List Addr} : a ∈ A → a ∉ A0 → a ≠ x → a ∉ as → Top G A H a d → FsOk G A0 A H x fs ε as → FsOk G A0 A H x ((f, .ref a) :: fs) ((f, true, d) :: ε) (a :: as)
section
variable {G : Gx} {A0 A A' : List Addr} {H H' : Hp} {x : Addr} {fs : List (Str × V)} {ε : Ef} {as : List Addr}
theorem FsOk.mp (h : FsOk G A0 A H x fs ε as) (r : ∀ v d, Rep G (hid A H) v d → Rep G (hid A' H') v d) (t : ∀ a ∈ as, ∀ d, Top G A H a d → Top G A' H' a d) (s : ∀ a ∈ as, a ∈ A → a ∈ A') : FsOk G A0 A' H' x fs ε as := by
 induction h with
 | nil => exact .nil
 | pl rv _ ih => exact .pl (r _ _ rv) (ih t s)
 | ow h1 h2 h3 h4 h5 _ ih => exact .ow (s _ List.mem_cons_self h1) h2 h3 h4 (t _ List.mem_cons_self _ h5) (ih (fun a ha => t a (List.mem_cons_of_mem _ ha)) (fun a ha => s a (List.mem_cons_of_mem _ ha)))
theorem FsOk.names (h : FsOk G A0 A H x fs ε as) : fs.map (·.1) = ε.map (·.1) := by
 induction h with
 | nil => rfl
 | pl _ _ ih => simp [ih]
 | ow _ _ _ _ _ _ ih => simp [ih]
theorem FsOk.len (h : FsOk G A0 A H x fs ε as) : fs.length = ε.length := by
 have := congrArg List.length h.names
 simpa using this
theorem FsOk.ne (h : FsOk G A0 A H x fs ε as) : ∀ a ∈ as, a ∈ A ∧ a ∉ A0 ∧ a ≠ x := by
 induction h with
 | nil => intro a ha; cases ha
 | pl _ _ ih => exact ih
 | ow h1 h2 h3 _ _ _ ih =>
  intro a ha
  rcases List.mem_cons.mp ha with z | z
  ·subst z; exact ⟨h1, h2, h3⟩
  ·exact ih a z
theorem FsOk.none {f : Str} (h : FsOk G A0 A H x fs ε as) (e : ε.lookup f = none) : fs.lookup f = none := by
 induction h with
 | nil => rfl
 | @pl g v d fs ε as _ _ ih =>
  by_cases hf : f = g
  ·subst hf; simp [List.lookup_cons] at e
  ·have hb : (f == g) = false := beq_eq_false_iff_ne.mpr hf
   simp only [List.lookup_cons, hb] at e ⊢
   exact ih e
 | @ow g a d fs ε as _ _ _ _ _ _ ih =>
  by_cases hf : f = g
  ·subst hf; simp [List.lookup_cons] at e
  ·have hb : (f == g) = false := beq_eq_false_iff_ne.mpr hf
   simp only [List.lookup_cons, hb] at e ⊢
   exact ih e
theorem FsOk.get {f : Str} {d : D} (h : FsOk G A0 A H x fs ε as) (e : ε.lookup f = some (true, d)) : ∃ a, fs.lookup f = some (.ref a) ∧ a ∈ as ∧ a ∈ A ∧ a ∉ A0 ∧ a ≠ x ∧ Top G A H a d := by
 induction h with
 | nil => cases e
 | @pl g v d' fs ε as _ _ ih =>
  by_cases hf : f = g
  ·subst hf; simp [List.lookup_cons] at e
  ·have hb : (f == g) = false := beq_eq_false_iff_ne.mpr hf
   simp only [List.lookup_cons, hb] at e ⊢
   exact ih e
 | @ow g a d' fs ε as h1 h2 h3 _ h5 _ ih =>
  by_cases hf : f = g
  ·subst hf
   simp only [List.lookup_cons, beq_self_eq_true, Option.some.injEq, Prod.mk.injEq, true_and] at e ⊢
   subst e
   exact ⟨a, rfl, List.mem_cons_self, h1, h2, h3, h5⟩
  ·have hb : (f == g) = false := beq_eq_false_iff_ne.mpr hf
   simp only [List.lookup_cons, hb] at e ⊢
   obtain ⟨a', q1, q2, q3⟩ := ih e
   exact ⟨a', q1, List.mem_cons_of_mem _ q2, q3⟩
theorem FsOk.wr {f : Str} {d d' : D} {a : Addr} (h : FsOk G A0 A H x fs ε as) (e : ε.lookup f = some (true, d)) (ea : fs.lookup f = some (.ref a)) (sx : JF a H H') (hA : a ∈ A) (t : Top G A H' a d') : FsOk G A0 A H' x fs (repE f d' ε) as := by
 have sm := Dr hA sx
 induction h with
 | nil => cases e
 | @pl g v d2 fs ε as rv hr ih =>
  by_cases hf : f = g
  ·subst hf; simp [List.lookup_cons] at e
  ·have hb : (f == g) = false := beq_eq_false_iff_ne.mpr hf
   simp only [List.lookup_cons, hb] at e ea
   unfold repE
   rw [if_neg (fun z => hf z.symm)]
   exact .pl (rv.mono sm) (ih e ea)
 | @ow g b d2 fs ε as h1 h2 h3 h4 h5 hr ih =>
  by_cases hf : f = g
  ·subst hf
   simp only [List.lookup_cons, beq_self_eq_true, Option.some.injEq, V.ref.injEq] at ea
   subst ea
   unfold repE
   rw [if_pos rfl]
   refine .ow h1 h2 h3 h4 t (hr.mp (fun v d r => r.mono sm) (fun c hc d t' => t'.other (fun z => h4 (by rw [← z]; exact hc)) hA sx) fun _ _ z => z)
  ·have hb : (f == g) = false := beq_eq_false_iff_ne.mpr hf
   simp only [List.lookup_cons, hb] at e ea
   obtain ⟨a', q1, q2, _⟩ := hr.get e
   rw [ea] at q1
   cases q1
   unfold repE
   rw [if_neg (fun z => hf z.symm)]
   exact .ow h1 h2 h3 h4 (h5.other (fun z => h4 (z ▸ q2)) hA sx) (ih e ea)
end
structure EOk (G : Gx) (c : Str) (A0 : List Addr) (He : Hp) (x : Addr) (A : List Addr) (σ : St) (H : Hp) (ρ : Rho) (ε : Ef) : Prop where
 w : OkW G A0 He A σ H ρ
 no : noOw ρ = true
 xA : x ∈ A
 x0 : x ∉ A0
 s0 : ρ[0]? = some (.fz (.adr x))
 ob : ∃ C dx fs as, H x = some (.ins C dx fs) ∧ G.cl c = some C ∧ FsOk G A0 A H x fs ε as
section
variable {G : Gx} {c : Str} {A0 : List Addr} {He : Hp} {x : Addr} {A : List Addr} {σ : St} {H H' : Hp} {ρ : Rho} {ε : Ef}
theorem EOk.at0 (o : EOk G c A0 He x A σ H ρ ε) : σ[0]? = some (some (.ref x)) := by
 obtain ⟨v, h1, h2⟩ := o.w.ok.fz 0 _ o.s0
 cases h2
 exact h1
theorem EOk.mono (o : EOk G c A0 He x A σ H ρ ε) (s : Same H H') : EOk G c A0 He x A σ H' ρ ε := by
 obtain ⟨C, dx, fs, as, h1, h2, h3⟩ := o.ob
 exact ⟨o.w.mono s, o.no, o.xA, o.x0, o.s0, C, dx, fs, as, s _ _ h1, h2, h3.mp (fun v d r => r.mono (CZ s)) (fun a ha d t => t.mono s) fun _ _ z => z⟩
theorem Top.plain {B : List Addr} {a : Addr} {d : D} (t : Top G A H a d) (s : Same H H') (p : Same (hid A H) (hid B H')) : Top G B H' a d := by
 cases d with
 | lst ds => obtain ⟨xs, q1, q2⟩ := t; exact ⟨xs, s _ _ q1, q2.mono p⟩
 | dk ds => obtain ⟨xs, q1, q2, q3⟩ := t; exact ⟨xs, s _ _ q1, q2, q3.mono p⟩
 | dt ds => obtain ⟨xs, q1, q2, q3⟩ := t; exact ⟨xs, s _ _ q1, q2, q3.mono p⟩
 | ob c gs => obtain ⟨C, dx, xs, q1, q2, q3⟩ := t; exact ⟨C, dx, xs, s _ _ q1, q2, q3.mono p⟩
 | _ => exact t.elim
theorem EOk.frame (o : EOk G c A0 He x A σ H ρ ε) : OkS G A H σ H ρ := ⟨A, Same.refl H, fun _ h => h, fun a h => .inl h, fun a ha => (o.w.ok.live a ha).ne, o.w.ok, fun i d a h _ => absurd h (Gb o.no i d), fun y d _ h => absurd h (Gb o.no 0 d)⟩
theorem EOk.wr {p : Addr} {ε' : Ef} (o : EOk G c A0 He x A σ H ρ ε) (hp : p ∈ A) (h0 : p ∉ A0) (sx : JF p H H') (lv : Nt (H' p)) (ob : ∃ C dx fs as, H' x = some (.ins C dx fs) ∧ G.cl c = some C ∧ FsOk G A0 A H' x fs ε' as) : EOk G c A0 He x A σ H' ρ ε' := by
 have hep : He p = none := (o.w.fr p hp).resolve_left h0
 have sm := Dr hp sx
 refine ⟨⟨fun b u h => sx b u (Bu h hep) (o.w.same b u h), o.w.sub, o.w.fr, o.w.l0, ⟨o.w.ok.len, fun b hb => ?_, fun j e h => ?_, fun j e h => absurd h (Gb o.no j e), fun i j d e a h _ _ _ => absurd h (Gb o.no i d)⟩, fun i d a h _ => absurd h (Gb o.no i d), fun y d _ h => absurd h (Gb o.no 0 d)⟩, o.no, o.xA, o.x0, o.s0, ob⟩
 ·by_cases z : b = p
  ·rw [z]; exact lv
  ·exact (o.w.ok.live b hb).mono fun u e => sx b u z e
 ·obtain ⟨v, q1, q2⟩ := o.w.ok.fz j e h
  exact ⟨v, q1, q2.mono sm⟩
end
def tTE (G : Gx) (c : Str) (A0 : List Addr) (He : Hp) (x : Addr) (t : FTE) : TT := fun σ H Q => ∃ A ρ ε b, EOk G c A0 He x A σ H ρ ε ∧ t ρ ε = some b ∧ ∀ H', Same H H' → Q b H'
def PTE (X : Cx) (G : Gx) (c : Str) (e : Expr) (t : FTE) : Prop := ∀ ⦃A0⦄ He x, PT X e (tTE G c A0 He x t)
def PWE (X : Cx) (G : Gx) (c : Str) (e : Expr) (t : FTE) : Prop := ∀ ⦃A0⦄ He x, PW X e (tTE G c A0 He x t)
section
variable {X : Cx} {G : Gx} {c : Str} {a b e k it tg : Expr} {fa fb fk : FE} {pos p2 p px : Pos} {st : Stmt} {rest body : List Stmt} {g gs : FEs} {gp : FS} {ta tb : FTE} {tp : FT}
theorem PWE.pt (h : PWE X G c a ta) : PTE X G c a ta := fun A0 He x => (@h A0 He x).pt
end
end PV
namespace PV
open PySem PySem.Spec L2
open PyProof.Rows hiding St
theorem Jx {A : List Addr} {p b : Addr} : b ∈ A.filter (fun b => decide (b ≠ p)) ↔ b ∈ A ∧ b ≠ p := by simp [List.mem_filter]
theorem Vx {X : Cx} {G : Gx} {A : List Addr} {pins : List (Addr × Obj)} {s : Shared} {σ : St} {H : Hp} {a : Addr} {d : D} (I : Inv X pins σ H s) (hA : a ∈ A) (t : Top G A H a d) :
  ∃ H', Inv X pins σ H' s ∧ (∀ b, b ≠ a → H' b = H b) ∧ Same (hid A H) (hid (A.filter fun b => decide (b ≠ a)) H') ∧ Rep G (hid (A.filter fun b => decide (b ≠ a)) H') (.ref a) d := by
 have key : ∀ H' : Hp, (∀ b, b ≠ a → H' b = H b) → Same (hid A H) (hid (A.filter fun b => decide (b ≠ a)) H') := fun H' hh b u h => by
  unfold hid at h
  split at h
  ·cases h
  ·rename_i hb
   rw [Cu (fun z => hb (Jx.mp z).1), hh b (fun z => hb (z ▸ hA))]
   exact h
 have at0 : ∀ H' : Hp, hid (A.filter fun b => decide (b ≠ a)) H' a = H' a := fun H' => Cu (fun z => (Jx.mp z).2 rfl)
 cases d with
 | lst ds =>
  obtain ⟨xs, a1, a2⟩ := t
  have sm := key H fun _ _ => rfl
  exact ⟨H, I, fun _ _ => rfl, sm, .lst (.of (by rw [at0]; exact a1)) (a2.mono sm).1 (a2.mono sm).2⟩
 | dk ds =>
  obtain ⟨xs, a1, a2, a3⟩ := t
  obtain ⟨o, I'⟩ := Inv.frzK I a1
  have sm := key _ fun b hb => BP (o := .frz o (.dK xs)) hb
  exact ⟨_, I', fun b hb => BP hb, sm, .dk (by rw [at0]; exact B_) a2 (a3.mono sm).2⟩
 | dt ds =>
  obtain ⟨xs, a1, a2, a3⟩ := t
  obtain ⟨o, I'⟩ := Inv.frzT I a1
  have sm := key _ fun b hb => BP (o := .frz o (.dT xs)) hb
  exact ⟨_, I', fun b hb => BP hb, sm, .dt (by rw [at0]; exact B_) a2 (a3.mono sm).2⟩
 | ob c gs =>
  obtain ⟨C, dx, xs, a1, a2, a3⟩ := t
  have sm := key H fun _ _ => rfl
  exact ⟨H, I, fun _ _ => rfl, sm, .ob a2.1 (by rw [at0]; exact a1) a2.2 (a3.mono sm).2⟩
 | _ => exact t.elim
theorem FsOk.frz {X : Cx} {G : Gx} {A0 A : List Addr} {pins : List (Addr × Obj)} {s : Shared} {σ : St} {H : Hp} {x : Addr} {fs : List (Str × V)} {ε : Ef} {as : List Addr} (h : FsOk G A0 A H x fs ε as) (I : Inv X pins σ H s) :
  ∃ H' A', Inv X pins σ H' s ∧ (∀ b, b ∉ as → H' b = H b) ∧ (∀ b, b ∈ A' ↔ b ∈ A ∧ b ∉ as) ∧ Same (hid A H) (hid A' H') ∧ RepL G (hid A' H') (fs.map (·.2)) (ε.map fun p => p.2.2) := by
 induction h with
 | nil => exact ⟨H, A, I, fun _ _ => rfl, fun b => by simp, Same.refl _, .nil⟩
 | pl rv _ ih =>
  obtain ⟨H', A', i1, i2, i3, i4, i5⟩ := ih
  exact ⟨H', A', i1, i2, i3, i4, .cons (rv.mono i4) i5⟩
 | @ow f a d fs ε as h1 h2 h3 h4 t _ ih =>
  obtain ⟨H1, A1, i1, i2, i3, i4, i5⟩ := ih
  have ha : a ∈ A1 := (i3 a).mpr ⟨h1, h4⟩
  have e1 : H1 a = H a := i2 a h4
  have t1 : Top G A1 H1 a d := by
   cases d with
   | lst ds => obtain ⟨xs, q1, q2⟩ := t; exact ⟨xs, by rw [e1]; exact q1, q2.mono i4⟩
   | dk ds => obtain ⟨xs, q1, q2, q3⟩ := t; exact ⟨xs, by rw [e1]; exact q1, q2, q3.mono i4⟩
   | dt ds => obtain ⟨xs, q1, q2, q3⟩ := t; exact ⟨xs, by rw [e1]; exact q1, q2, q3.mono i4⟩
   | ob c gs => obtain ⟨C, dx, xs, q1, q2, q3⟩ := t; exact ⟨C, dx, xs, by rw [e1]; exact q1, q2, q3.mono i4⟩
   | _ => exact t.elim
  obtain ⟨H2, j1, j2, j3, j4⟩ := Vx i1 ha t1
  refine ⟨H2, A1.filter fun b => decide (b ≠ a), j1, fun b hb => ?_, fun b => ?_, i4.trans j3, .cons j4 (i5.mono j3)⟩
  ·rw [j2 b (fun z => hb (by simp [z])), i2 b (fun z => hb (List.mem_cons_of_mem _ z))]
  ·rw [Jx, i3 b]
   simp only [List.mem_cons, not_or]
   exact ⟨fun ⟨⟨p1, p2⟩, p3⟩ => ⟨p1, p3, p2⟩, fun ⟨p1, p3, p2⟩ => ⟨⟨p1, p2⟩, p3⟩⟩
theorem EOk.whole {X : Cx} {G : Gx} {c : Str} {A0 : List Addr} {He : Hp} {x : Addr} {A : List Addr} {pins : List (Addr × Obj)} {s : Shared} {σ : St} {H : Hp} {ρ : Rho} {ε : Ef} (o : EOk G c A0 He x A σ H ρ ε) (I : Inv X pins σ H s) :
  ∃ H', Inv X pins σ H' s ∧ Same He H' ∧ Rep G (hid A0 H') (.ref x) (finE c ε) := by
 obtain ⟨C, dx, fs, as, h1, h2, h3⟩ := o.ob
 obtain ⟨H', A', i1, i2, i3, i4, i5⟩ := h3.frz I
 have nx : x ∉ as := fun z => (h3.ne x z).2.2 rfl
 refine ⟨H', i1, fun b u hb => ?_, ?_⟩
 ·rw [i2 b (fun z => ?_)]
  ·exact o.w.same b u hb
  ·obtain ⟨q1, q2, _⟩ := h3.ne b z
   rw [(o.w.fr b q1).resolve_left q2] at hb
   cases hb
 ·have sb : ∀ a ∈ A0, a ∈ A' := fun a ha => (i3 a).mpr ⟨o.w.sub a ha, fun z => (h3.ne a z).2.1 ha⟩
  have en : fs.map (·.1) = (ε.map fun p => (p.1, p.2.2)).map (·.1) := by
   rw [h3.names, List.map_map]
   rfl
  have es : (ε.map fun p => (p.1, p.2.2)).map (·.2) = ε.map fun p => p.2.2 := by rw [List.map_map]; rfl
  refine .ob h2 (by rw [Cu o.x0, i2 x nx]; exact h1) en ?_
  rw [es]
  exact (i5.mono (Df sb)).2
section
variable {X : Cx} {G : Gx} {a b : Expr} {fa fb : FE} {pos p2 p : Pos} {es : List Expr} {fs : FA}
end
end PV
namespace PV
open PySem PySem.W PySem.Calls PyProof.Rows L2
end PV
namespace PySem
open PySem.Spec
section
variable {prog : Program} {w : World} {A : Around} {I d : Addr} {ep : Nat} {es : Array DictEntry} {od : Obj}
end
end PySem
namespace PV
open PySem PySem.Spec L2
open PyProof.Rows hiding St
section
variable {X : Cx} {G : Gx}
theorem RepT.dt {A : List Addr} {H : Hp} {v : V} {kds : List (List Key × D)} (r : RepT G A H v (.dt kds)) : ∃ a kvs, v = .ref a ∧ Rd H a (.dT kvs) ∧ kvs.map (·.1) = kds.map (·.1) ∧ RepL G (hid A H) (kvs.map (·.2)) (kds.map (·.2)) := by
 rcases r with r | ⟨a, e, kvs, h, k, r⟩
 ·cases r with
  | dt h k r =>
   refine ⟨_, _, rfl, .inr ⟨_, CV _ _ h⟩, k, ?_, r⟩
   have := congrArg List.length k
   rw [List.length_map, List.length_map] at this ⊢
   exact this
 ·exact ⟨a, kvs, e, .of h, k, r⟩
end
end PV
namespace PV
open PySem PySem.Spec L2
open PyProof.Rows hiding St
section
variable {X : Cx} {G : Gx}
end
end PV
namespace PV
open PySem PySem.Spec L2
open PyProof.Rows hiding St
structure FunD (K : PySem.W.Frag) (x qual : Str) (st : Stmt) (f : Addr) (fd : FuncData) : Prop where
 ex : ∃ (oc : Value) (od : Option Addr) (dV kV doc pm : Value) (an : Option Addr) (cdv ct : Value) (osl : Array (Option Value)),
  fd = PySem.W.fnOf x qual (Cy st) (CP st) (Ab st) dV kV doc pm an cdv ct ∧ K.lookup f = some ⟨oc, od, .func fd, osl⟩ ∧ PySem.W.codeIn K cdv qual = true
 kp : PySem.W.keepIn K (.ref f) = true
theorem Vy {K : PySem.W.Frag} {x qual : Str} {st : Stmt} {f : Addr} {oc : Value} {od an : Option Addr} {osl : Array (Option Value)} {dV kV doc pm cdv ct : Value} (l : K.lookup f = some ⟨oc, od, .func (PySem.W.fnOf x qual (Cy st) (CP st) (Ab st) dV kV doc pm an cdv ct), osl⟩)
  (c : PySem.W.codeIn K cdv qual = true) (k : PySem.W.keepIn K (.ref f) = true) : FunD K x qual st f (PySem.W.fnOf x qual (Cy st) (CP st) (Ab st) dV kV doc pm an cdv ct) := ⟨⟨oc, od, dV, kV, doc, pm, an, cdv, ct, osl, rfl, l, c⟩, k⟩
theorem FunD.binds {K : PySem.W.Frag} {x qual : Str} {st : Stmt} {f : Addr} {fd : FuncData} {ps : List Str} (F : FunD K x qual st f fd)
  (h : ∀ (dV kV doc pm : Value) (an : Option Addr) (cdv ct : Value) (us : List Value), us.length = ps.length → bindArgs (PySem.W.fnOf x qual (Cy st) (CP st) (Ab st) dV kV doc pm an cdv ct) ⟨us, []⟩ = pure (ps.zip us)) : Binds K fd ps [] := by
 obtain ⟨oc, od, dV, kV, doc, pm, an, cdv, ct, osl, rfl, lk, hcd⟩ := F.ex
 exact .all (h dV kV doc pm an cdv ct)
theorem Zx {P : Program} {w : World} {G : Gx} {mg : Str → Option Value} {base : Heap} {x qual : Str} {st : Stmt} {f : Addr} {fd : FuncData} {N ps : List Str} {k : Nat} {b : FS} (F : FunD G.K x qual st f fd) (S : FnScope N ps (Ab st)) (hl : ps.length ≤ N.length)
  (hb : ∀ (cdv : Value) (A : Around) (outer : List Env) (s : Shared) (H : Hp) (E : XK), Room k (A.deeper (envOfC qual (Ab st) s.heap.objs.size f cdv)) → PSDs (cxOf CX0 P w G.K mg base N qual (Ab st) f cdv A outer s H E).nox G (CP st) b) :
  FnOk P w G.K mg base CX0 (k + 1) f fd ps (spD G (runF N.length ps.length b)) := by
 obtain ⟨oc, od, dV, kV, doc, pm, an, cdv, ct, osl, rfl, lk, hcd⟩ := F.ex
 refine Ow lk hcd S (fun vs H Q E h => ?_) (fun A outer s H vs Q E hr h => ?_)
 ·obtain ⟨A, ds, d, lv, r, e, _⟩ := h
  unfold runF at e
  split at e
  ·rename_i hz; rw [r.1]; exact hz
  ·cases e
 ·obtain ⟨A0, ds, d, lv, r, e, k⟩ := h
  unfold runF at e
  split at e
  ·rename_i hz
   have hzz := hb cdv A outer s H E hr
   refine ⟨_, (@hzz A0 H).nox, Do N.length ds, ?_⟩
   cases e1 : b (Do N.length ds) with
   | none => simp [e1] at e
   | some o =>
    refine ⟨o, Jq lv r (by rw [r.1, hz]; exact hl), rfl, ?_⟩
    cases o with
    | nx ρ =>
     simp only [e1] at e
     cases e
     exact fun σ H' ⟨A, w⟩ => k _ H' w.same .non
    | rt d' ρ' =>
     simp only [e1] at e
     cases e
     exact fun v σ H' A w r' => k v H' w.same (r'.mono (Df w.sub))
    | bk ρ => simp [e1] at e
    | ct ρ => simp [e1] at e
  ·cases e
end PV
namespace PV
open PySem L2
end PV
namespace PV
open PySem L2
end PV
namespace PV
open PySem PySem.Spec L2
open PyProof.Rows hiding St
section
variable {X : Cx} {G : Gx} {a b c : Expr} {fa fb fc : FE} {pos p2 px : Pos}
theorem RepL.set {G : Gx} {H : Hp} {xs : List V} {ds : List D} (r : RepL G H xs ds) {v : V} {d : D} (q : Rep G H v d) (j : Nat) : RepL G H (xs.set j v) (ds.set j d) := by
 refine ⟨by rw [List.length_set, List.length_set]; exact r.1, fun i x e h1 h2 => ?_⟩
 by_cases h : j = i
 ·subst h
  rw [List.getElem?_set] at h1 h2
  simp only [if_true] at h1 h2
  split at h1
  ·split at h2
   ·cases h1; cases h2; exact q
   ·cases h2
  ·cases h1
 ·rw [List.getElem?_set_ne h] at h1 h2
  exact r.2 i x e h1 h2
end
end PV
namespace PV
open PySem PySem.Spec L2
open PyProof.Rows hiding St
section
variable {X : Cx} {G : Gx} {a b c : Expr} {fa fb fc : FE} {pos p2 : Pos} {es : List Expr} {fs : FA}
theorem vr (i : Nat) {x : Str} (hN : X.N[i]? = some x := by rfl) (hv : Vis X.env.scope x := by first | exact Or.inl rfl | exact Or.inr (Or.inl rfl) | exact Or.inr (Or.inr rfl)) (hd : (x == ("__debug__" : Str)) = false := by decide) (hcd : (x == ("__classdict__" : Str)) = false := by decide) : PF X G (.Name x pos) (vF i) := YS i (pv i hN hv hd hcd)
theorem vp (i : Nat) {x : Str} (hN : X.N[i]? = some x := by rfl) (hv : Vis X.env.scope x := by first | exact Or.inl rfl | exact Or.inr (Or.inl rfl) | exact Or.inr (Or.inr rfl)) (hd : (x == ("__debug__" : Str)) = false := by decide) (hcd : (x == ("__classdict__" : Str)) = false := by decide) : PU X G (.Name x pos) (vF i) := PF.pu (vr i hN hv hd hcd)
theorem vq (i : Nat) {x : Str} (hN : X.N[i]? = some x := by rfl) (hv : Vis X.env.scope x := by first | exact Or.inl rfl | exact Or.inr (Or.inl rfl) | exact Or.inr (Or.inr rfl)) (hd : (x == ("__debug__" : Str)) = false := by decide) (hcd : (x == ("__classdict__" : Str)) = false := by decide) : PU X G (.Name x pos) (vU i) := YT i (pv i hN hv hd hcd)
theorem pU {e : Expr} {f : FE} (h : PF X G e f) : PU X G e f := PF.pu h
theorem iP {i j} : PU X G (.Constant (.int i) j pos) (kF (.int i)) := PF.pu K8
theorem sP {x j} : PU X G (.Constant (.str x) j pos) (kF (.str x)) := PF.pu Hm
theorem iD (ha : PU X G a fa) (hb : PU X G b fb) (hG : G.K = X.K := by rfl) (hs : K4 b := by exact fun _ _ => rfl) : PF X G (.Subscript a b pos) (bF ixD fa fb) := Zr hG ha hb hs
theorem bAdd (ha : PU X G a fa) (hb : PU X G b fb) (hG : G.K = X.K := by rfl) : PF X G (.BinOp a .Add b pos) (bF addD fa fb) := K_ Vc (by rw [← hG]; exact Vd) ha hb
theorem bSub (ha : PU X G a fa) (hb : PU X G b fb) : PF X G (.BinOp a .Sub b pos) (bF subD fa fb) := K_ X8 VV ha hb
theorem bDiv (ha : PU X G a fa) (hb : PU X G b fb) : PF X G (.BinOp a .FloorDiv b pos) (bF I_ fa fb) := K_ Uw S5 ha hb
theorem bMod (ha : PU X G a fa) (hb : PU X G b fb) : PF X G (.BinOp a .Mod b pos) (bF modD fa fb) := K_ X_ Va ha hb
theorem cEq {k : Nat} (hr : Room k X.A) (ha : PU X G a fa) (hb : PU X G b fb) (hG : G.K = X.K := by rfl) : PF X G (.Compare a [.Eq] [b] pos) (bF (eqD false) fa fb) := LC (S9 hG hr.units) (OJ false) ha hb (Ie _)
theorem tEq {k : Nat} (hr : Room k X.A) (ha : PU X G a fa) (hb : PU X G b fb) (hG : G.K = X.K := by rfl) : PFT X G (.Compare a [.Eq] [b] pos) (blF (bF (eqD false) fa fb)) := Fb (S9 hG hr.units) (OJ false) ha hb (Ie _)
theorem tNe {k : Nat} (hr : Room k X.A) (ha : PU X G a fa) (hb : PU X G b fb) (hG : G.K = X.K := by rfl) : PFT X G (.Compare a [.NotEq] [b] pos) (blF (bF (eqD true) fa fb)) := Fb (Ye hG hr.units) (OJ true) ha hb (Ie _)
theorem cIn {k : Nat} (hr : Room k X.A) (ha : PU X G a fa) (hb : PU X G b fb) (hG : G.K = X.K := by rfl) (hm : behindInMarks .In b = false := by with_unfolding_all rfl) : PF X G (.Compare a [.In] [b] pos) (bF (inF false) fa fb) := LC ((Jl.or (TY (Wh hr))).or (Tg hG hr.units)) (by rw [← hG]; exact QC false) ha hb hm
theorem tIn {k : Nat} (hr : Room k X.A) (ha : PU X G a fa) (hb : PU X G b fb) (hG : G.K = X.K := by rfl) (hm : behindInMarks .In b = false := by with_unfolding_all rfl) : PFT X G (.Compare a [.In] [b] pos) (blF (bF (inF false) fa fb)) := Fb ((Jl.or (TY (Wh hr))).or (Tg hG hr.units)) (by rw [← hG]; exact QC false) ha hb hm
theorem tLt (ha : PU X G a fa) (hb : PU X G b fb) : PFT X G (.Compare a [.Lt] [b] pos) (blF (bF ltD fa fb)) := Fb Wb S6 ha hb (Ie _)
theorem tGt (ha : PU X G a fa) (hb : PU X G b fb) : PFT X G (.Compare a [.Gt] [b] pos) (blF (bF gtD fa fb)) := Fb Zb YW ha hb (Ie _)
theorem sF (hN : X.N.Nodup) (i : Nat) {x : Str} {p : Pos} (ha : PF X G a fa) (hi : X.N[i]? = some x := by rfl) (hx : Loc X.env.scope x := by first | exact Or.inl rfl | exact Or.inr rfl) (hs : swapsWith a (some (.Name x p)) pos.line X.env = pure false := by rfl)
  (hf : X.fn x = true ∨ X.env.scope.names.lookup x = some .local := by first | exact .inl rfl | exact .inr rfl | assumption) : PSD X G (.Assign [.Name x p] a pos) (setF i fa) := Vg (fun _ h => Jb hN hi hx h hs hf) ha
theorem sW (hN : X.N.Nodup) (i : Nat) {x : Str} {p : Pos} (ha : PN X G a fa) (hi : X.N[i]? = some x := by rfl) (hx : Loc X.env.scope x := by first | exact Or.inl rfl | exact Or.inr rfl) (hs : swapsWith a (some (.Name x p)) pos.line X.env = pure false := by rfl)
  (hf : X.fn x = true ∨ X.env.scope.names.lookup x = some .local := by first | exact .inl rfl | exact .inr rfl | assumption) (hi0 : i ≠ 0 := by decide) : PSD X G (.Assign [.Name x p] a pos) (setW i fa) := TQ (fun _ h => Jb hN hi hx h hs hf) ha hi0
theorem gN (hN : X.N.Nodup) (i : Nat) {x : Str} (hi : X.N[i]? = some x := by rfl) (hx : Loc X.env.scope x := by first | exact Or.inl rfl | exact Or.inr rfl) (hf : X.fn x = true ∨ X.env.scope.names.lookup x = some .local := by first | exact .inl rfl | exact .inr rfl | assumption) : PG X (.Name x pos) (Gw i) := Uv hN hi hx hf
theorem cO {N : List Str} {sc scope : Scope} {t : Str} (hN : X.N = N) (hs : X.env.scope = sc) (h : Lf N sc scope t = true := by decide +kernel) : CompOk X scope t := Qm hN hs h
abbrev nT (N : List Str) (t : Str) : List Str := N ++ [t]
structure Dx (K : PySem.W.Frag) (mg : Str → Option Value) (x : Str) (st : Stmt) (ps : List Str) where
 f : Addr
 fd : FuncData
 F : FunD K x x st f fd
 B : Binds K fd ps []
 m : mg x = some (.ref f)
abbrev DOk (P : Program) (w : World) (base : Heap) {K : PySem.W.Frag} {mg : Str → Option Value} {x : Str} {st : Stmt} {ps : List Str} (d : Dx K mg x st ps) (k : Nat) (sp : Sp) : Prop := FnOk P w K mg base CX0 k d.f d.fd ps sp
theorem fX {k k' : Nat} {x : Str} {st : Stmt} {ps : List Str} {p : Pos} {d : Dx X.K X.mg x st ps} {g : List D → Option D} (F : FnOk X.prog X.w X.K X.mg X.base CX0 k d.f d.fd ps (spD G g)) (hr : Room k' X.A) (ha : PFA X G (a :: es) fs) (hle : k ≤ k' := by omega) (hg : Gl X x := by rfl) (hdb : (x == ("__debug__" : Str)) = false := by decide)
  (he : starEach (a :: es) X.env = (false, eval a X.env) :: starEach es X.env := by rfl) (hpl : (backTo pos (starEach es X.env)).any (·.1) = false := by rfl) : PF X G (.Call (.Name x p) (a :: es) [] pos) (Ek g fs) := Zt F (hr.mono hle) hg d.m d.F.kp d.B ha hdb he hpl
end
section
variable {K : PySem.W.Frag} {h : Heap} {mg : Str → Option Value} {x qual : Str} {st : Stmt} {ps : List Str} {f C : Addr} {oc : Value} {od an : Option Addr} {osl : Array (Option Value)} {dV kV doc pm cdv ct : Value}
theorem fnX {P : Program} {w : World} {G : Gx} {base : Heap} {N : List Str} {k : Nat} {b : FS} (d : Dx G.K mg x st ps) (S : FnScope N ps (Ab st))
  (hb : ∀ (cdv : Value) (A : Around) (outer : List Env) (s : Shared) (H : Hp) (E : XK), Room k (A.deeper (envOfC x (Ab st) s.heap.objs.size d.f cdv)) → PSDs (cxOf CX0 P w G.K mg base N x (Ab st) d.f cdv A outer s H E).nox G (CP st) b) (hl : ps.length ≤ N.length := by decide) :
  FnOk P w G.K mg base CX0 (k + 1) d.f d.fd ps (spD G (runF N.length ps.length b)) := Zx d.F S hl hb
def dx (X : K.In h) (N : h.Ns mainGlobals mg) (a : PySem.W.nsIn K mainGlobals x = some (some (.ref f))) (l : K.lookup f = some ⟨oc, od, .func (PySem.W.fnOf x x (Cy st) (CP st) (Ab st) .none kV doc pm an cdv ct), osl⟩) (c : PySem.W.codeIn K cdv x = true) (k : PySem.W.keepIn K (.ref f) = true)
  (b : ∀ (kV doc pm : Value) (an : Option Addr) (cdv ct : Value) (us : List Value), us.length = ps.length → bindArgs (PySem.W.fnOf x x (Cy st) (CP st) (Ab st) .none kV doc pm an cdv ct) ⟨us, []⟩ = pure (ps.zip us)) : Dx K mg x st ps := ⟨f, _, Vy l c k, (Hj l c k).binds b, PySem.W.mg_of X N a⟩
structure Ix (K : PySem.W.Frag) (C : Addr) (qual : Str) (st : Stmt) (ps : List Str) where
 f : Addr
 fd : FuncData
 F : Fun K "__init__" qual st f fd
 B : Binds K fd ps []
 mM : Mk K C f
def ix (X : K.In h) (m : PySem.W.makesIn K C = true) (kc : PySem.W.keepIn K (.ref C) = true) (a : PySem.W.findIn K (.ref C) "__init__" = some (some (.ref f))) (i : PySem.W.isFn K (.ref f) = true) (l : K.lookup f = some ⟨oc, od, .func (PySem.W.fnOf "__init__" qual (Cy st) (CP st) (Ab st) .none kV doc pm an cdv ct), osl⟩) (c : PySem.W.codeIn K cdv qual = true) (k : PySem.W.keepIn K (.ref f) = true)
  (b : ∀ (kV doc pm : Value) (an : Option Addr) (cdv ct : Value) (us : List Value), us.length = ps.length → bindArgs (PySem.W.fnOf "__init__" qual (Cy st) (CP st) (Ab st) .none kV doc pm an cdv ct) ⟨us, []⟩ = pure (ps.zip us)) : Ix K C qual st ps := ⟨f, _, Hj l c k, (Hj l c k).binds b, m, a, i, kc⟩
structure Sx (mg : Str → Option Value) (x : Str) (f : Tok → Value) where
 t : Tok
 m : mg x = some (f t)
structure Kx (G : Gx) (mg : Str → Option Value) (x : Str) (c : D) where
 a : Addr
 m : mg x = some (.ref a)
 r : Rep G (fun _ => none) (.ref a) c
def sx {t : Tok} {f : Tok → Value} (X : K.In h) (N : h.Ns mainGlobals mg) (a : PySem.W.nsIn K mainGlobals x = some (some (f t))) : Sx mg x f := ⟨t, PySem.W.mg_of X N a⟩
def gx1 (K : PySem.W.Frag) (cn : Str) (C : Addr) : Gx := { K := K, cl := fun c => if c = cn then some C else none }
theorem cls (X : K.In h) (pg : PySem.W.plainGet K C Str.empty = true) (hd : PySem.W.hasDictIn K C = true) (po : PySem.W.plainOver K C = true) (sa : PySem.W.findIn K (.ref C) "__setattr__" = some (some (.builtin "object.__setattr__"))) : Cls K C := ⟨pg, hd, po, sa⟩
theorem rtx {cn : Str} {g : Addr} {n : Nat} {its : Array Value} {xs : List Str} (X : K.In h) (l : K.lookup g = some ⟨.type "tuple", od, .seq its n, osl⟩) (hz : its.size ≤ sizeLine) (r : Vals (xs.map V.str) its.toList) : Rep (gx1 K cn C) (fun _ => none) (.ref g) (.tup (xs.map .str)) := Kq l hz r
def kx {cn : Str} {g : Addr} {n : Nat} {its : Array Value} {xs : List Str} (X : K.In h) (N : h.Ns mainGlobals mg) (a : PySem.W.nsIn K mainGlobals x = some (some (.ref g))) (l : K.lookup g = some ⟨.type "tuple", od, .seq its n, osl⟩) (hz : its.size ≤ sizeLine) (r : Vals (xs.map V.str) its.toList) : Kx (gx1 K cn C) mg x (.tup (xs.map .str)) := ⟨g, PySem.W.mg_of X N a, rtx X l hz r⟩
end
end PV
namespace PV
open PySem L2
end PV
namespace PV
open PySem PySem.Spec L2
open PyProof.Rows hiding St
section
variable {X : Cx} {G : Gx} {a : Expr} {fa : FE} {pos : Pos} {es : List Expr} {fs : FA}
end
end PV
namespace PV
open PySem L2
end PV
namespace PV
open PySem PySem.Spec L2
open PyProof.Rows hiding St
section
variable {X : Cx} {G : Gx} {a b c : Expr} {fa fb fc : FE} {pos p2 : Pos}
end
end PV
namespace PV
open PySem PySem.Spec L2 EX
open PyProof.Rows hiding St
def CX1 (P : Program) (w : World) : CXT := fun outer H s E v s' => ∃ (e : Addr) (H' : Hp), v = .ref e ∧ s'.os = s.os ∧ AllBare s'.gens ∧ Un (frs outer) [] H H' s.heap s'.heap ∧ HOk P w H' s'.heap ∧ E v none H'
structure Exc (G : Gx) (He H : Hp) (e : Addr) (tb : Option Addr) (c : Str) (gs : List (Str × D)) : Prop where
 ex : ∃ C dx fs, G.xcl c = some C ∧ H e = some (excO e C (some dx) tb) ∧ H dx = some (.xd fs) ∧ FsV fs gs ∧ He dx = none
 same : Same He H
 new : He e = none
 tbk : ∀ T, tb = some T → H T = some (tbO T .none) ∧ He T = none
theorem Exc.base {G : Gx} {He Hf H : Hp} {e : Addr} {tb : Option Addr} {c : Str} {gs : List (Str × D)} (x : Exc G Hf H e tb c gs) (s : Same He Hf) : Exc G He H e tb c gs :=
 ⟨let ⟨C, dx, fs, q1, q2, q3, q4, q5⟩ := x.ex; ⟨C, dx, fs, q1, q2, q3, q4, s.free q5⟩, s.trans x.same, s.free x.new, fun T h => ⟨(x.tbk T h).1, s.free (x.tbk T h).2⟩⟩
section
variable {X : Cx} {pins : List (Addr × Obj)} {σ : St} {G : Gx} {He H : Hp} {s : Shared} {e : Addr} {tb : Option Addr} {c : Str} {gs : List (Str × D)}
theorem Jy {E : Value → Shared → Prop} {Q : Unit → Shared → Prop} {M : Model} {L : Addr} (hst : X.stack = X.env :: X.outer) (hf : X.env.frame = some L) (I : Inv X pins σ H s) (x : Exc G He H e tb c gs)
  (k : ∀ T H' s', Inv X pins σ H' s' → Exc G He H' e (some T) c gs → Q () s') :
  wpAny M X.A (noteFrame (.ref e) X.env) (fun _ s₂ => wpAny M X.A (setFlight (.ref e) none) Q E s₂) E s := by
 obtain ⟨C, dx, fs, q1, q2, q3, q4, q5⟩ := x.ex
 refine VJ hst hf I q2 (fun T h => (x.tbk T h).1) fun T H' s' n => k T H' s' n.inv ?_
 have ncb : ∀ b u, H b = some u → (∀ φ, u ≠ .ext φ) → b ≠ e ∧ tb ≠ some b := fun b u q z => ⟨fun w => by subst w; rw [q2] at q; cases q; exact z _ rfl, fun w => by
  have := (x.tbk b w).1; rw [this] at q; cases q; exact z _ rfl⟩
 refine ⟨⟨C, dx, fs, q1, n.exc, n.rest dx _ (ncb dx _ q3 fun _ z => nomatch z).1 (ncb dx _ q3 fun _ z => nomatch z).2 q3, q4, q5⟩, fun b u h => n.rest b u (fun z => by rw [z, x.new] at h; cases h) (fun z => by rw [(x.tbk b z).2] at h; cases h) (x.same b u h), x.new, fun T' h => ?_⟩
 cases h
 exact ⟨n.tbk, x.same.free n.new⟩
end
def Rz (X : Cx) (G : Gx) (A0 : List Addr) (He : Hp) (c : Str) (gs : List (Str × D)) (ρ : Rho) : Prop := ∀ pins σ H1 H s e tb, Inv X pins σ H s → OkS G A0 He σ H1 ρ → Exc G H1 H e tb c gs → X.xe (.ref e) s
def excOf : D → Option (Str × List (Str × D))
 | .exc c gs => some (c, gs)
 | _ => none
def RzO (X : Cx) (G : Gx) (A0 : List Addr) (He : Hp) (d : D) (ρ : Rho) : Prop := ∀ c gs, excOf d = some (c, gs) → Rz X G A0 He c gs ρ
def OutX (X : Cx) (G : Gx) (A0 : List Addr) (He : Hp) : Out → Prop
 | .rt d ρ => RzO X G A0 He d ρ
 | _ => True
def tSZ (X : Cx) (G : Gx) (A0 : List Addr) (He : Hp) (g : FS) : TS := fun D σ H => ∃ ρ o, OkS G A0 He σ H ρ ∧ g ρ = some o ∧ Jp G A0 He D o ∧ OutX X G A0 He o
def PSZ (X : Cx) (G : Gx) (st : Stmt) (g : FS) : Prop := ∀ ⦃A0⦄ He, PS X st (tSZ X G A0 He g)
def PSZs (X : Cx) (G : Gx) (st : List Stmt) (g : FS) : Prop := ∀ ⦃A0⦄ He, PSs X st (tSZ X G A0 He g)
def tFZ (X : Cx) (G : Gx) (A0 : List Addr) (He : Hp) (f : FE) : TE := fun σ H Q => ∃ ρ d A, OkW G A0 He A σ H ρ ∧ f ρ = some d ∧ (∀ v H', Same H H' → Rep G (hid A H') v d → Q v H') ∧ RzO X G A0 He d ρ
def PFZ (X : Cx) (G : Gx) (e : Expr) (f : FE) : Prop := ∀ ⦃A0⦄ He, PE X e (tFZ X G A0 He f)
def setZ (i : Nat) (f : FE) : FS := fun ρ => (f ρ).map fun d => match excOf d with | some _ => .rt d ρ | none => .nx (ρ.set i (.fz d))
section
variable {X : Cx} {G : Gx} {a b c tg : Expr} {fa fb fc : FE} {ga : FT} {pos p2 : Pos} {st : Stmt} {rest body : List Stmt} {g gs gb : FS}
theorem PSD.x (h : PSD X G st g) : PSZ X G st g := fun A0 He pins s σ H D I ⟨ρ, o, ok, e, k, _⟩ => @h A0 He pins s σ H D I ⟨ρ, o, ok, e, k⟩
theorem PF.x (h : PF X G a fa) : PFZ X G a fa := fun A0 He pins s σ H Q I ⟨ρ, d, A, w, e, k, _⟩ => @h A pins s σ H Q I ⟨ρ, d, w.ok, e, k⟩
theorem EY : PSZs X G [] nxF := fun A0 He pins s σ H D I ⟨ρ, o, ok, e, k, _⟩ => Dm He pins s σ H D I ⟨ρ, o, ok, e, k⟩
theorem Cg (h1 : PSZ X G st g) : PSZs X G [st] g := fun A0 He => K1 (@h1 A0 He)
theorem Bl (h1 : PSZ X G st g) (h2 : PSZs X G rest gs) : PSZs X G (st :: rest) (seqF g gs) := fun A0 He pins s σ H D I ⟨ρ, o, ok, e, k, kx⟩ => by
 refine Ja (@h1 A0 He) (@h2 A0 He) pins s σ H D I ?_
 unfold seqF at e
 split at e
 ·rename_i ρ' e1
  exact ⟨ρ, _, ok, e1, fun σ' H' ok' => ⟨ρ', o, ok', e, k, kx⟩, trivial⟩
 ·rename_i hno
  refine ⟨ρ, o, ok, e, ?_, kx⟩
  cases o with
  | nx ρ' => exact absurd e (hno ρ')
  | rt d ρ' => exact k
  | bk ρ' => exact k
  | ct ρ' => exact k
theorem Fe {s1 s2 : List Stmt} (ht : PFT X G c ga) (h1 : PSZs X G s1 g) (h2 : PSZs X G s2 gs) : PSZ X G (.If c s1 s2 pos) (ifS ga g gs) := fun A0 He pins s σ H D I ⟨ρ, o, ⟨A, w⟩, e, k, kx⟩ => by
 refine Wa (@ht A) (@h1 A0 He) (@h2 A0 He) pins s σ H D I ?_
 unfold ifS at e
 split at e
 ·rename_i e1
  exact ⟨ρ, _, w.ok, e1, fun H1 s1 => iteT ⟨ρ, o, ⟨A, w.mono s1⟩, e, k, kx⟩⟩
 ·rename_i e1
  exact ⟨ρ, _, w.ok, e1, fun H1 s1 => iteF ⟨ρ, o, ⟨A, w.mono s1⟩, e, k, kx⟩⟩
 ·cases e
theorem Il {H : Hp} {v : V} {d : D} (r : Rep G H v d) : excOf d = none := by cases r <;> rfl
theorem Vz {i : Nat} {x : Str} {p : Pos} (h : ∀ te, PE X a te → PS X (.Assign [.Name x p] a pos) (tAsg te (Gw i))) (ha : PFZ X G a fa) : PSZ X G (.Assign [.Name x p] a pos) (setZ i fa) := fun A0 He pins s σ H D I ⟨ρ, o, ⟨A, w⟩, e, k, kx⟩ => by
 refine h _ (@ha A0 He) pins s σ H D I ?_
 unfold setZ at e
 cases e1 : fa ρ with
 | none => simp [e1] at e
 | some d =>
  simp only [e1, Option.map_some] at e
  cases e2 : excOf d with
  | none =>
   simp only [e2] at e
   cases e
   exact ⟨ρ, d, A, w, e1, fun v H1 s1 r1 => k _ _ ⟨A, (w.mono s1).set r1 i⟩, fun c gs z => by rw [e2] at z; cases z⟩
  | some q =>
   simp only [e2] at e
   cases e
   exact ⟨ρ, d, A, w, e1, fun v H1 s1 r1 => absurd e2 (by rw [Il r1]; simp), kx⟩
end
def M8 (X : Cx) (σ : St) : XK := fun v _ H' => ∀ pins s', Inv X pins σ H' s' → X.xe v s'
def XW (G : Gx) (He : Hp) (d : D) (E : XK) : Prop := ∀ c gs, excOf d = some (c, gs) → ∀ e T H', Exc G He H' e (some T) c gs → E (.ref e) none H'
def spZ (G : Gx) (g : List D → Option D) : Sp := fun vs H Q E => ∃ A ds d, (∀ a ∈ A, Nt (H a)) ∧ RepL G (hid A H) vs ds ∧ g ds = some d ∧ (∀ v H', Same H H' → Rep G (hid A H') v d → Q v H') ∧ XW G H d E
section
variable {X : Cx} {k : Nat} {f C : Addr} {fd : FuncData} {ps : List Str} {sp : Sp} {x m : Str} {p pos apos : Pos} {e o : Expr} {es : List Expr} {ta : TE} {t : TA}
theorem Lg {pins : List (Addr × Obj)} {σ : St} {H : Hp} {s : Shared} {Q : VK} {us : List Value} {vs : List V} (F : FnOk X.prog X.w X.K X.mg X.base (CX1 X.prog X.w) k f fd ps sp) (hr : Room k X.A) (hb : Binds X.K fd ps [])
  (I : Inv X pins σ H s) (r : Vals vs us) (h : sp vs H Q (M8 X σ)) : wpAny (model X.prog X.w) X.A (call (.ref f) us) (EP X pins σ Q) X.xe s := by
 have hl : us.length = ps.length := by rw [← r.length]; exact F.len _ _ _ _ h
 have hb' := hb s us I.kIn (by rw [List.append_nil]; exact hl)
 rw [List.append_nil] at hb'
 refine wpAny_call (codeAny_mono (F.run X.A X.stack s H ⟨us, []⟩ us vs Q _ hr I.env0 hb' r h) fun r s' hq => ?_)
 cases r with
 | error v =>
  obtain ⟨e, H', rfl, q1, q2, q3, q4, q5⟩ := hq
  exact q5 pins s' (I.call' q1 q3 q4 q2 fun _ z => nomatch z)
 | ok fl =>
  cases fl with
  | ret u => exact I.after hq
  | next => exact False.elim hq
  | brk => exact False.elim hq
  | cont => exact False.elim hq
def Yn (X : Cx) (sp : Sp) (t : TA) : TE := fun σ H Q => t σ H fun vs H1 => sp vs H1 Q (M8 X σ)
theorem M9 (F : FnOk X.prog X.w X.K X.mg X.base (CX1 X.prog X.w) k f fd ps sp) (hr : Room k X.A) (hg : Gl X x) (hm : X.mg x = some (.ref f)) (hk : PySem.W.keepIn X.K (.ref f) = true) (hb : Binds X.K fd ps [])
  (ha : PA X (e :: es) t) (hdb : (x == ("__debug__" : Str)) = false := by decide) (he : starEach (e :: es) X.env = (false, eval e X.env) :: starEach es X.env := by rfl) (hpl : (backTo pos (starEach es X.env)).any (·.1) = false := by rfl) :
  PE X (.Call (.Name x p) (e :: es) [] pos) (Yn X sp t) := by
 intro pins s σ H Q I h
 refine wpAny_Call_Name_kw (Gg I hg hm ?_ hdb)
 refine PySem.W.callWith_K (h₀ := X.base) I.ok.mod.kin hk (thn (ha pos pins s σ H _ I h) fun us s1 ⟨vs, H1, I1, r, q⟩ => ⟨I1.kIn, ?_⟩) he hpl
 exact Lg F hr hb I1 r q
def Tj (X : Cx) (C : Addr) (m : Str) (sp : Sp) (ta : TE) (t : TA) : TE := fun σ H Q => ta σ H fun x H1 => ∃ a dx fs, x = .ref a ∧ H1 a = some (.ins C dx fs) ∧ fs.lookup m = none ∧ t σ H1 fun vs H2 => sp (x :: vs) H2 Q (M8 X σ)
theorem Tn {pl : Sem Bool} (he : PE X o ta) (c : Cls X.K C) (hm : Meth X.K C m f) (F : FnOk X.prog X.w X.K X.mg X.base (CX1 X.prog X.w) k f fd ps sp) (hr : Room k X.A) (hb : Binds X.K fd ps []) (ha : PA X (e :: es) t)
  (hst : starEach (e :: es) X.env = (false, eval e X.env) :: starEach es X.env := by rfl) (hpl : (backTo pos (starEach es X.env)).any (·.1) = false := by rfl)
  (ht : eval (.Call (.Attribute o m apos) (e :: es) [] pos) X.env = (do
   let ov ← eval o X.env
   standAt apos.atName
   let (f, first) ← holding [ov] (getMethod ov m pl)
   callWith pos f first (backTo pos (starEach (e :: es) X.env)) (backToKw pos (keywordEach [] X.env))) := by rfl) :
  PE X (.Call (.Attribute o m apos) (e :: es) [] pos) (Tj X C m sp ta t) := by
 intro pins s σ H Q I h
 refine PySem.W.methodCall_KW (pl := pl) (thn (he pins s σ H _ I h) fun u s1 ⟨x, H1, I1, rx, a, dx, fs, ex, ea, l, q⟩ => ?_) ht
 subst ex
 obtain rfl : u = Value.ref a := rx
 refine Gi I1 ea c hm l ?_
 refine PySem.W.callWith_K (first := [.ref a]) (h₀ := X.base) I.ok.mod.kin hm.kp (thn (ha pos pins s1 σ H1 _ I1 q) fun us s2 ⟨vs, H2, I2, r, q2⟩ => ⟨I2.kIn, ?_⟩) hst hpl
 exact Lg (us := .ref a :: us) (vs := .ref a :: vs) F hr hb I2 (.cons rfl r) q2
end
section
variable {X : Cx} {G : Gx} {a ob : Expr} {es : List Expr} {fs : FA} {fo : FE} {pos p apos : Pos} {A0 : List Addr} {He : Hp}
theorem Zy {σ : St} {H1 : Hp} {A : List Addr} {ρ : Rho} {d : D} (w : OkW G A0 He A σ H1 ρ) (kx : RzO X G A0 He d ρ) : XW G H1 d (M8 X σ) := fun c gs z e T H' x pins s' I => kx c gs z pins σ H1 H' s' e (some T) I ⟨A, w⟩ x
theorem Yo {k : Nat} {f : Addr} {fd : FuncData} {ps : List Str} {g : List D → Option D} {x : Str} (F : FnOk X.prog X.w X.K X.mg X.base (CX1 X.prog X.w) k f fd ps (spZ G g)) (hr : Room k X.A) (hg : Gl X x) (hm : X.mg x = some (.ref f)) (hk : PySem.W.keepIn X.K (.ref f) = true)
  (hb : Binds X.K fd ps []) (ha : PFA X G (a :: es) fs) (hdb : (x == ("__debug__" : Str)) = false := by decide) (he : starEach (a :: es) X.env = (false, eval a X.env) :: starEach es X.env := by rfl) (hpl : (backTo pos (starEach es X.env)).any (·.1) = false := by rfl) :
  PFZ X G (.Call (.Name x p) (a :: es) [] pos) (Ek g fs) := fun A0 He pins s σ H Q I ⟨ρ, d, A, w, e, k, kx⟩ => by
 refine M9 F hr hg hm hk hb (@ha A) hdb he hpl pins s σ H Q I ?_
 unfold Ek at e
 cases e1 : fs ρ with
 | none => simp [e1] at e
 | some ds =>
  have e' : g ds = some d := by simpa [e1] using e
  exact ⟨ρ, ds, w.ok, e1, fun vs H1 s1 r1 => ⟨A, ds, d, (w.mono s1).ok.live, r1, e', fun v H2 s2 r2 => k v H2 (s1.trans s2) r2, Zy (w.mono s1) kx⟩⟩
end
theorem Yp {P : Program} {w : World} {G : Gx} {mg : Str → Option Value} {base : Heap} {N : List Str} {qual : Str} {scope : Scope} {f : Addr} {cd : Value} {A : Around} {outer : List Env} {s : Shared} {H : Hp} {E : XK} {A0 : List Addr} {d : D} {ρ : Rho} (h : XW G H d E) :
  RzO (cxOf (CX1 P w) P w G.K mg base N qual scope f cd A outer s H E) G A0 H d ρ := fun c gs z pins σ H1 H2 s2 e tb I ⟨A1, ok⟩ x => by
 show wpAny _ _ (leaving _ _) _ _ _
 unfold leaving
 refine wpAny_bind (Jy (X := cxOf (CX1 P w) P w G.K mg base N qual scope f cd A outer s H E) rfl rfl I (x.base ok.same) fun T H' s' I' x' => ?_)
 exact ⟨e, H', rfl, I'.os, I'.bare, I'.base, I'.hok, h c gs z e T H' x'⟩
end PV
namespace EX
open PySem PySem.W PyProof.Rows PySem.Calls
section
variable {prog : Program} {w : World} {A : Around} {E : Value → Shared → Prop} {h : Heap} {g : Array GenState} {d : Drawn} {t : Nat} {os : OsState} {R : Result → Shared → Prop}
variable {nm q : Str} {C N : Addr} {bs bm bmB : List Value} {hdct : Bool} {sn : List Str} {sub : List Value} {ab : Bool} {col : Option Bool} {dd : Option Addr} {k0 k1 k2 k3 k5 : Option Value} {B newId initId : String}
abbrev Gn (C a : Addr) : Obj := { cls := .ref C, data := .fields #[.ref a, .none, .none, .none, .bool false, .none] }
abbrev GD (rest : List Value) : Obj := { cls := .type "tuple", data := .seq rest.toArray }
theorem Jz (F : ExcBaseFacts B newId initId bmB) (T : OwnTail h bmB bm) {rest : List Value} {init : Value} {Q : Fin → Shared → Prop}
  (hC : h.get? C = some (excClassObj nm q C N bs bm hdct sn sub ab col dd k0 k1 k2 k3 k5 newId)) (hi : Looks (model prog w) h (typeLookup (.ref C) "__init__") (some init)) (hb : ∀ self, Looks (model prog w) h (bindSpecial init self) (init, [self]))
  (hq : codeAny (model prog w) A (.call init ⟨.ref (h.objs.size + 1) :: rest, []⟩) (fun r s' => match r with
   | .ok (.ret v) => v = .none ∧ Q (.done (.ret (.ref (h.objs.size + 1)))) s'
   | .ok _ => False
   | .error e => E e s') ⟨(h.push (GD rest)).push (Gn C h.objs.size), g, d, t, os⟩) (hrest : rest.length ≤ sizeLine := by size_fits) :
  wpAny (model prog w) A (Builtin.«type.__call__» ⟨.ref C :: rest, []⟩) Q E ⟨h, g, d, t, os⟩ := by
 repeat (first | with_reducible refine wpAny_loadPart_at hC ?_ | with_reducible refine wpAny_madeBy_exc hC ?_ | wp_step)
 refine codeAny_call_builtin_code (Code.quiet_builtin _ F.quiet) (wpAny_check_new_subT F T hC ?_)
 refine codeAny_exc_new_subT F T hC ?_ hrest
 show wpAny _ _ _ _ _ _
 have k : ∀ b o, h.get? b = some o → ((h.push (GD rest)).push (Gn C h.objs.size)).get? b = some o := fun b o e => Heap.get?_push_of_some _ (Heap.get?_push_of_some _ e)
 have hC₁ := k _ _ hC
 have hget : ((h.push (GD rest)).push (Gn C h.objs.size)).get? (h.objs.size + 1) = some (Gn C h.objs.size) := by heap_get
 have hcC : (Value.ref C :: bm).contains (.ref C) = true := by simp
 have i1 := hi.keeps k
 have b1 := (hb (.ref (h.objs.size + 1))).keeps k
 unfold isInstance
 repeat (first | with_reducible refine wpAny_loadPart_at hget ?_ | (with_reducible refine wpAny_isSubtype_exc hC₁ ?_; rw [hcC]) | wp_step)
 show wpAny _ _ (typeLookup (.ref C) _) _ _ _
 refine i1.at ?_
 dsimp only
 refine wpAny_holding (wpAny_bind (b1.at ?_))
 dsimp only
 refine wpAny_bind (wpAny_call (codeAny_mono hq fun r s' z => ?_))
 rcases r with e | (v | _ | _ | _) <;> first | exact z | exact z.elim | skip
 obtain ⟨rfl, z⟩ := z
 exact wpAny_pure (wpAny_pure z)
theorem Tp (F : ExcBaseFacts B newId initId bmB) (T : OwnTail h bmB bm) {rest : List Value} {init : Value}
  (hC : h.get? C = some (excClassObj nm q C N bs bm hdct sn sub ab col dd k0 k1 k2 k3 k5 newId)) (hi : Looks (model prog w) h (typeLookup (.ref C) "__init__") (some init)) (hb : ∀ self, Looks (model prog w) h (bindSpecial init self) (init, [self]))
  (hq : codeAny (model prog w) (A.under (.builtin "type.__call__" ⟨.ref C :: rest, []⟩)) (.call init ⟨.ref (h.objs.size + 1) :: rest, []⟩) (InitBack (h.objs.size + 1) R) ⟨(h.push (GD rest)).push (Gn C h.objs.size), g, d, t, os⟩) (hrest : rest.length ≤ sizeLine) :
  codeAny (model prog w) A (.call (.ref C) ⟨rest, []⟩) R ⟨h, g, d, t, os⟩ := by
 have f1 := tc_lookup
 have f2 := tc_bind (.ref C)
 have hT : (⟨h, g, d, t, os⟩ : Shared).TypeIs (.ref C) "type" := ⟨_, hC, rfl⟩
 refine codeAny_of_tree ?_
 show wpAny _ _ (callAny (.ref C) _) _ _ _
 repeat (any_goals (first | assumption | with_reducible refine wpAny_loadPart_at hC ?_ | wp_step))
 refine ⟨rfl, ?_⟩
 refine codeAny_call_builtin_at (Code.quiet_builtin _ (by decide +kernel)) entry_typeCall (wpAny_check_type_call_sub hC (Jz F T hC hi hb (codeAny_mono hq fun r s' z => ?_) hrest))
 rcases r with e | (v | _ | _ | _) <;> first | exact z | exact z.elim
end
end EX
namespace EX
open PySem PySem.W PySem.Spec PyProof.Rows PySem.Calls
section
variable {prog : Program} {w : World} {A : Around} {E : Value → Shared → Prop} {s : Shared} {K : Frag} {x C : Addr} {ox : Obj} {od : Option Obj} {name : Str} {v : Value}
theorem V0 {expr : Bool} {Q : Value → Shared → Prop} (X : K.In s.heap) (I : InstAt s.heap x ox C od) (hga : findIn K (.ref C) "__getattribute__" = some (some (.builtin "BaseException.__getattribute__"))) (hgt : findIn K (.ref C) "__getattr__" = some none)
  (hsub : subIn K (.ref C) (.type "BaseException") = some true) (hf : findObj K C od name = some (.value v)) (hh : handedIn v = true) (h : Q v { s with toks := s.toks + 1 }) : wpAny (model prog w) A (getAttr (.ref x) name expr) Q E s := by
 obtain ⟨hp, g, d, t, os⟩ := s
 have L0 := I.type (M := model prog w)
 have L1 := looks_findIn (M := model prog w) X hga
 have L2 := looks_findIn (M := model prog w) X hgt
 have L3 := looks_find (M := model prog w) X I hf
 have L4 := looks_subIn (M := model prog w) X hsub
 have f3 := F.attr_ValueError.ga.bind (.ref x)
 have hk : builtinKind "BaseException.__getattribute__" = some .slot := by decide +kernel
 have hsplit : splitId "BaseException.__getattribute__" = some ("BaseException", "__getattribute__") := by decide +kernel
 have hx2 : (Value.builtin "BaseException.__getattribute__" == Value.builtin "object.__getattribute__") = false := by decide +kernel
 have hx1 : (onTheHeap (Value.ref C) && Value.builtin "BaseException.__getattribute__" == Value.builtin "object.__getattribute__") = false := by rw [hx2]; rfl
 have hx0 : (expr && onTheHeap (Value.builtin "BaseException.__getattribute__")) = false := by cases expr <;> rfl
 unfold getAttr getAttrBy
 refine wpAny_bind (wpAny_mkText (wpAny_holding (wpAny_bind (L0.at (wpAny_bind (L1.at ?_))))))
 dsimp only
 rw [hx1, if_neg (by decide)]
 have ck : ∀ (Q : Unit → Shared → Prop) (B : Around) (E' : Value → Shared → Prop), Q () ⟨hp, g, d, t + 1, os⟩ → wpAny (model prog w) B (checkBuiltinCall "BaseException.__getattribute__" ⟨[.ref x, .str name t], []⟩) Q E' ⟨hp, g, d, t + 1, os⟩ := fun Q B E' hq => by
  have ha := F.args_bexc_ga (.ref x) (.str name t)
  simp only [checkBuiltinCall, hk, hsplit]
  refine wpAny_bind ?_
  unfold isInstance
  refine wpAny_bind (L0.at (L4.at ?_))
  repeat (any_goals (first | assumption | wp_step))
 have run : ∀ (B : Around) (R : Result → Shared → Prop), R (.ok (.ret v)) ⟨hp, g, d, t + 1, os⟩ → codeAny (model prog w) B (.call (.builtin "BaseException.__getattribute__") ⟨[.ref x, .str name t], []⟩) R ⟨hp, g, d, t + 1, os⟩ := fun B R hq =>
  codeAny_call_builtin F.attr_ValueError.ga.plain F.entry_bexc_ga (ck _ _ _ (by
   unfold Builtin.«object.__getattribute__»
   repeat (any_goals (first | assumption | with_reducible refine L0.at ?_ | with_reducible refine L3.at ?_ | wp_step))))
 repeat (any_goals (first | assumption | with_reducible refine L2.at ?_ | wp_step))
 refine run _ _ ?_
 show wpAny _ _ (handedOut v) _ _ _
 rw [handedOut_of hh]
 exact wpAny_pure h
open Builtin Builtin.ObjectAttr in
theorem V1 {R : Addr} {cd : ClassData} {vs : Array Value} {Q : Unit → Shared → Prop} (X : K.In s.heap) (I : InstAt s.heap x ox C none) (hfl : ox.data = .fields vs) (hs : findIn K (.ref C) "__setattr__" = some (some (.builtin "object.__setattr__"))) (hc : clsIn K C = some cd)
  (hm : cd.mro = [.ref C, .ref R, .type "ValueError", .type "Exception", .type "BaseException", .type "object"]) (hd : cd.hasDict = true) (ht : findIn K (.ref C) name = some none)
  (h : ∀ h' : Heap, h'.get? x = some { ox with dict := some s.heap.objs.size } → h'.Ns1 s.heap.objs.size (fun y => if y = name then some v else none) → (∀ b o, b ≠ x → s.heap.get? b = some o → h'.get? b = some o) → Q () { s with heap := h', toks := s.toks + 2 }) :
  wpAny (model prog w) A (setAttr (.ref x) name v) Q E s := by
 obtain ⟨hp, g, d, t, os⟩ := s
 have SF := F.store_object
 have VF := F.store_ValueError
 have hpass : refuseLoop (.ref x) "__setattr__" cd.mro = pure () := by rw [hm, refuseLoop_ref, refuseLoop_ref]; exact VF.passes _
 have sub : Looks (model prog w) hp (isInstance (.ref x) (.type "object")) true := I.type.andThen (looks_mroIn X (by unfold mroIn; rw [hc, Option.bind_some, hm]; rfl))
 have lm : Looks (model prog w) hp (mroOf (.ref C)) cd.mro := (looks_clsIn X hc).andThen .now
 have la := looks_findIn (M := model prog w) X ht
 have lt := I.type (M := model prog w)
 have lc := looks_clsIn (M := model prog w) X hc
 refine set_plain X I hs (codeAny_call_builtin SF.slot.plain SF.entry ?_)
 refine @check_slot (model prog w) _ _ ⟨hp, g, d, t + 1, os⟩ "object.__setattr__" "object" "__setattr__" (.ref x) [.str name t, v] [] _ SF.kind SF.split sub (SF.args (.ref x) (.str name t) v) ?_
 rw [osa_eq, refuse_eq]
 refine wpAny_bind (wpAny_bind (lt.at (wpAny_bind (lm.at ?_))))
 rw [hpass]
 refine wpAny_pure (wpAny_bind (lt.at (wpAny_bind (la.at (wpAny_bind (wpAny_pure ?_))))))
 dsimp only
 obtain ⟨hx, hcl, hn, hdi⟩ := I
 obtain ⟨oc, odi, oda, osl⟩ := ox
 dsimp only at hcl hdi hfl
 subst hcl hfl
 have hdn : odi = none := by
  cases odi with
  | none => rfl
  | some z => exact hdi.elim
 subst hdn
 have hxs : x ≠ hp.objs.size := Nat.ne_of_lt (Heap.lt_size hx)
 have hx1 : (hp.push { cls := .type "dict", data := .dict #[] }).get? x = some ⟨.ref C, none, .fields vs, osl⟩ := Heap.get?_push_of_some _ hx
 unfold storeInOwnDict
 refine wpAny_bind (wpAny_pure (wpAny_bind (wpAny_bind (wpAny_loadPart hx (wpAny_bind (lc.at ?_))))))
 rw [hd]
 refine wpAny_bind (wpAny_alloc' (wpAny_bind (wpAny_update' hx1 (wpAny_pure ?_))))
 have hgd : ((hp.push { cls := .type "dict", data := .dict #[] }).update x fun o => { cls := o.cls, dict := some hp.objs.size, data := o.data, slots := o.slots }).get? hp.objs.size = some { cls := .type "dict", data := .dict #[] } := (Heap.get?_update_other _ _ hxs).trans (Heap.get?_push_size _ rfl)
 have hgx : ((hp.push { cls := .type "dict", data := .dict #[] }).update x fun o => { cls := o.cls, dict := some hp.objs.size, data := o.data, slots := o.slots }).get? x = some ⟨.ref C, some hp.objs.size, .fields vs, osl⟩ := Heap.get?_update_self _ hx1 rfl
 have ho : ∀ b o, b ≠ x → hp.get? b = some o → ((hp.push { cls := .type "dict", data := .dict #[] }).update x fun o => { cls := o.cls, dict := some hp.objs.size, data := o.data, slots := o.slots }).get? b = some o := fun b o nb z => (Heap.get?_update_other _ _ (Ne.symm nb)).trans (Heap.get?_push_of_some _ z)
 generalize (hp.push { cls := .type "dict", data := .dict #[] }).update x (fun o => { cls := o.cls, dict := some hp.objs.size, data := o.data, slots := o.slots }) = h2 at hgd hgx ho ⊢
 have hnd : h2.Ns hp.objs.size (fun _ => none) := ⟨_, #[], _, hgd, rfl, fun e he => absurd he (by simp), fun _ => rfl⟩
 show wpAny _ _ (storeInDict hp.objs.size (.str name t) name v) _ _ _
 unfold storeInDict newKeyGuard
 refine wpAny_bind (wpAny_pure (wpAny_bind (wpAny_nsSet1 (Heap.Ns1.of_empty hnd) fun h' hn' hs' => ?_)))
 obtain ⟨oD, esD, epD, hoD, hdD, hcD⟩ := hn'.count (Within.cons name v Within.nil)
 refine wpAny_bind (wpAny_lookBehind hoD (by rw [hdD]; exact pastItsLine_dict (Nat.le_trans hcD (by rw [List.length_cons, List.length_nil, sizeLine_eq]; omega))) ?_)
 exact wpAny_pure (h h' ((hs'.2 x hxs).trans hgx) hn' fun b o nb z => (hs'.2 b (Nat.ne_of_lt (Heap.lt_size z))).trans (ho b o nb z))
end
end EX
namespace EX
open PySem PySem.Spec L2
open PyProof.Rows hiding St
abbrev bmV : List Value := [.type "ValueError", .type "Exception", .type "BaseException", .type "object"]
def excX (K : PySem.W.Frag) (C : Addr) : Bool := match K.lookup C with
 | some ⟨.type "type", _, .cls cd, sl⟩ => (match cd.mro, sl.toList with
  | .ref C' :: bm, [_, _, _, _, some (.builtin n), _] => C' == C && n == "ValueError.__new__" && !cd.hasDel && PySem.W.tailIn K bmV bm
  | _, _ => false)
 | _ => false
theorem Hy {K : PySem.W.Frag} {h : Heap} {C : Addr} (X : K.In h) (q : excX K C = true) : ∃ nm qn N bs bm hdct sn sub ab col dd k0 k1 k2 k3 k5, h.get? C = some (excClassObj nm qn C N bs bm hdct sn sub ab col dd k0 k1 k2 k3 k5 "ValueError.__new__") ∧ OwnTail h bmV bm := by
 unfold excX at q
 split at q
 ·rename_i dd cd sl ho
  split at q
  ·rename_i C' bm k0 k1 k2 k3 n k5 hm hs
   simp only [Bool.and_eq_true, beq_iff_eq, Bool.not_eq_true'] at q
   obtain ⟨⟨⟨e1, e2⟩, e3⟩, e4⟩ := q
   subst e1 e2
   obtain ⟨nm, bs, mro, ns, qn, hd, sn, sub, ab, col, del⟩ := cd
   obtain ⟨l⟩ := sl
   simp only at hm hs e3
   subst hm e3 hs
   exact ⟨nm, qn, ns, bs, bm, hd, sn, sub, ab, col, dd, k0, k1, k2, k3, k5, X _ _ ho, PySem.W.tail_of_in X e4⟩
  ·cases q
 ·cases q
structure XC (K : PySem.W.Frag) (C R : Addr) : Prop where
 obj : excX K C = true
 sa : PySem.W.findIn K (.ref C) "__setattr__" = some (some (.builtin "object.__setattr__"))
 ga : PySem.W.findIn K (.ref C) "__getattribute__" = some (some (.builtin "BaseException.__getattribute__"))
 gt : PySem.W.findIn K (.ref C) "__getattr__" = some none
 cd : (PySem.W.clsIn K C).any (fun cd => cd.mro == [.ref C, .ref R, .type "ValueError", .type "Exception", .type "BaseException", .type "object"] && cd.hasDict) = true
theorem XC.cls {K : PySem.W.Frag} {C R : Addr} (x : XC K C R) : ∃ cd, PySem.W.clsIn K C = some cd ∧ cd.mro = [.ref C, .ref R, .type "ValueError", .type "Exception", .type "BaseException", .type "object"] ∧ cd.hasDict = true := by
 obtain ⟨cd, h1, h2⟩ := PySem.W.any_some x.cd
 simp only [Bool.and_eq_true, beq_iff_eq] at h2
 exact ⟨cd, h1, h2.1, h2.2⟩
theorem M_ {H : Hp} {a : Addr} {o : HO} (h : H a = some o) : upd H a o = H := by
 funext b
 unfold upd
 split
 ·rename_i e; rw [e, h]
 ·rfl
section
variable {X : Cx} {pins : List (Addr × Obj)} {σ : St} {H : Hp} {s : Shared} {e C R dx : Addr} {od tb : Option Addr} {A : Around} {E : Value → Shared → Prop} {f : Str}
theorem Tq {u : Value} {Q : Value → Shared → Prop} (I : Inv X pins σ H s) (he : H e = some (excO e C od tb)) (x : XC X.K C R) (hQ : ∀ s', Inv X pins σ H s' → Q .none s') :
  wpAny (model X.prog X.w) A (call (.builtin "ValueError.__init__") [.ref e, u]) Q E s := by
 have F := PySem.F.excBase_ValueError
 obtain ⟨⟨o, vs, q1, q2, q3, q4, q5, q6⟩, _⟩ := I.hok e _ he
 obtain ⟨nm, qn, N, bs, bm, hdct, sn, sub, ab, col, dd, k0, k1, k2, k3, k5, hC, T⟩ := Hy I.kIn x.obj
 have I1 := I.kept (h' := s.heap.push { cls := .type "tuple", data := .seq [u].toArray }) (t' := s.toks) fun b v z => Heap.get?_push_of_some _ z
 have g1 := Heap.get?_push_of_some (h := s.heap) { cls := .type "tuple", data := .seq [u].toArray } q1
 have I2 := Hu (u' := excO e C od tb) (i := 0) (v := .ref s.heap.objs.size) I1 he trivial g1 q4 fun h' o' r1 r2 r3 r4 => ExcP.ok ⟨o', _, r1, r2.trans q2, r3.trans q3, r4, by simpa using q5, by rw [Array.getElem?_setIfInBounds_ne (by decide)]; exact q6⟩
 rw [M_ he] at I2
 obtain ⟨hp, g, d, t, os⟩ := s
 have h0 : ∃ v0, vs[0]? = some v0 := ⟨vs[0]'(by omega), by simp⟩
 obtain ⟨v0, h0⟩ := h0
 refine wpAny_call (codeAny_call_builtin F.init.plain F.initEntry (wpAny_check_init_subT F T hC q1 q2 ?_))
 unfold Builtin.«BaseException.__init__»
 dsimp only
 rw [if_neg (by simp)]
 unfold newTuple Builtin.BaseException.bexcPut
 refine wpAny_bind (wpAny_newObj_type (wpAny_bind (wpAny_bind (wpAny_field g1 q4 h0 (wpAny_bind (wpAny_setField g1 q4 (by omega) ?_))))) (by show 1 ≤ sizeLine; decide))
 have z := hQ _ I2
 cases v0 <;> first | exact wpAny_letGo (wpAny_pure z) | exact wpAny_pure (wpAny_pure z)
theorem V2 {y : V} {u : Value} {Q : Unit → Shared → Prop} (I : Inv X pins σ H s) (he : H e = some (excO e C none tb)) (x : XC X.K C R) (n : Cv X.K C f) (ry : RelV y u)
  (h : ∀ dx s', H dx = none → Inv X pins σ (upd (upd H dx (.xd [(f, y)])) e (excO e C (some dx) tb)) s' → Q () s') : wpAny (model X.prog X.w) A (setAttr (.ref e) f u) Q E s := by
 obtain ⟨⟨o, vs, q1, q2, q3, q4, q5, q6⟩, _⟩ := I.hok e _ he
 obtain ⟨cd, c1, c2, c3⟩ := x.cls
 have ia : PySem.W.InstAt s.heap e o C none := ⟨q1, q2, by unfold PySem.W.notCls; rw [q4], by rw [q3]; trivial⟩
 refine V1 I.kIn ia q4 x.sa c1 c2 c3 n fun h' r1 r2 r3 => h s.heap.objs.size _ I.fresh ?_
 have hf := I.fresh
 have ne : e ≠ s.heap.objs.size := Bu he hf
 have hs : ∃ o', h'.get? s.heap.objs.size = some o' := let ⟨o', _, _, z, _⟩ := r2; ⟨o', z⟩
 have nx : ∀ b v, H b = some v → (∀ φ, v ≠ .ext φ) → b ≠ e ∧ b ≠ s.heap.objs.size := fun b v q z => ⟨fun w => by rw [w, he] at q; cases q; exact z _ rfl, Bu q hf⟩
 have ot : ∀ b v, H b = some v → (∀ φ, v ≠ .ext φ) → upd (upd H s.heap.objs.size (.xd [(f, y)])) e (excO e C (some s.heap.objs.size) tb) b = some v := fun b v q z => by rw [BP (nx b v q z).1, BP (nx b v q z).2]; exact q
 refine I.un ⟨fun b ob z nb _ _ => r3 b ob (Ne.symm (Bu he nb)) z, fun b ob z nb _ _ => ⟨ob.slots, r3 b ob (Ne.symm (Bu he nb)) z⟩, fun b ob z nb _ => ?_, fun b ob z _ => ?_, fun b xs z => ot b _ z (fun _ z => nomatch z), fun b o' u' z => ot b _ z (fun _ z => nomatch z), fun b ps z => ⟨#[], by rw [ot b _ z (fun _ z => nomatch z)]; simp⟩⟩ fun b v z => ?_
 ·rw [BP (Ne.symm (Bu he nb)), BP (Nat.ne_of_lt (Heap.lt_size z))]; exact nb
 ·by_cases hb : b = e
  ·rw [hb]; exact ⟨_, r1⟩
  ·exact ⟨ob, r3 b ob hb z⟩
 ·by_cases hb : b = e
  ·subst hb
   rw [B_] at z
   cases z
   exact ExcP.ok ⟨_, vs, r1, q2, rfl, q4, q5, q6⟩
  ·rw [BP hb] at z
   by_cases hb2 : b = s.heap.objs.size
   ·subst hb2
    rw [B_] at z
    cases z
    refine ⟨_, r2, fun g => ?_⟩
    by_cases hg : g = f
    ·subst hg; simp [List.lookup]; exact ry
    ·have : (g == f) = false := beq_eq_false_iff_ne.mpr hg
     simp [List.lookup, this, hg]; trivial
   ·rw [BP hb2] at z
    refine (I.hok b v z).stay (fun c w hc k => r3 c w ?_ k) (fun c q => ot c _ q (fun _ z => nomatch z)) (fun c xs q => ot c _ q (fun _ z => nomatch z))
    rcases hc with hc | hc
    ·rw [hc]; exact hb
    ·exact (nx c _ hc (fun _ z => nomatch z)).1
theorem V3 {b : Bool} {fs : List (Str × V)} {v : V} {Q : Value → Shared → Prop} (I : Inv X pins σ H s) (he : H e = some (excO e C (some dx) tb)) (hd : H dx = some (.xd fs)) (x : XC X.K C R) (n : Cv X.K C f) (l : fs.lookup f = some v)
  (h : ∀ u s', Inv X pins σ H s' → RelV v u → Q u s') : wpAny (model X.prog X.w) A (getAttr (.ref e) f b) Q E s := by
 obtain ⟨⟨o, vs, q1, q2, q3, q4, q5, q6⟩, _⟩ := I.hok e _ he
 obtain ⟨mA, ns, r⟩ := I.hok dx _ hd
 obtain ⟨u, hu, ru⟩ := RelO.some_of (v := v) (o := mA f) (by rw [← l]; exact r f)
 obtain ⟨oD, g1, g2⟩ := KZ ns
 obtain ⟨cd, c1, c2, c3⟩ := x.cls
 have ia : PySem.W.InstAt s.heap e o C (some oD) := ⟨q1, q2, by unfold PySem.W.notCls; rw [q4], by rw [q3]; exact g1⟩
 have hh : PySem.W.hasDictIn X.K C = true := by unfold PySem.W.hasDictIn; rw [c1]; exact c3
 refine V0 I.kIn ia x.ga x.gt ?_ (PySem.W.findObj_own hh n rfl (by rw [g2, hu])) (Ka ru) (h u _ (I.tok _) ru)
 show PySem.W.mroIn X.K C _ = _
 unfold PySem.W.mroIn
 rw [c1, Option.bind_some, c2]
 rfl
end
end EX
namespace EX
open PySem PySem.Spec L2
open PyProof.Rows hiding St
section
variable {X : Cx} {a b : Expr} {es : List Expr} {t : TA} {p pos apos : Pos} {x : Str} {R : Addr}
def PP (X : Cx) (c : St → Prop) (e : Expr) : Prop := ∀ (pins : List (Addr × Obj)) (s : Shared) (σ : St) (H : Hp), Inv X pins σ H s → c σ →
 wpAny (model X.prog X.w) X.A (eval e X.env) (fun v s' => ∃ y t, v = .str y t ∧ y.length ≤ 2000000 ∧ Inv X pins σ H s') X.xe s
theorem Yq {c : St → Prop} {z : Str} {j} (h : z.length ≤ 2000000 := by decide) : PP X c (.Constant (.str z) j pos) := fun pins s σ H I _ => Calls.Constant_str ⟨z, _, rfl, h, I.tok _⟩
def Tr (i : Nat) (σ : St) : Prop := ∃ z : Str, σ[i]? = some (some (.str z)) ∧ z.length ≤ 100000 ∧ ∀ c ∈ z.cps.toList, c < 16 ^ 8
theorem V4 {i : Nat} {e : Expr} (h : PE X e (tVar i)) : PP X (Tr i) (.FormattedValue e 114 none pos) := fun pins s σ H I ⟨z, h1, h2, h3⟩ => by
 refine wpAny_FormattedValue_repr (thn (h pins s σ H (fun v H' => v = .str z ∧ H' = H) I ⟨_, h1, rfl, rfl⟩) fun u s1 ⟨v, H1, I1, r1, q1, q2⟩ => ?_)
 subst q1 q2
 obtain ⟨t, rfl⟩ := (show ∃ t, u = Value.str z t from r1)
 have hl : (reprText z).length ≤ 2000000 := by have := PySem.StrLaws.reprText_len z h3; omega
 refine wpAny_pyReprObj_str ?_ (PV.Dy (by omega))
 exact wpAny_formatField_str ⟨_, _, rfl, hl, I1.tok _⟩ ⟨_, _, rfl, hl, (I1.tok _).tok _⟩ (PV.Dy (by omega))
theorem QF (y : Str) : (Str.empty ++ y).length = y.length := by rw [PV.Aa]; simp [Str.length, Str.empty]
def tTxt (c : St → Prop) : TE := fun σ H Q => c σ ∧ ∀ y, Q (.str y) H
theorem Tt {c : St → Prop} {e1 e2 : Expr} (h1 : PP X c e1) (h2 : PP X c e2) : PE X (.JoinedStr [e1, e2] pos) (tTxt c) := fun pins s σ H Q I ⟨hc, q⟩ => by
 refine wpAny_JoinedStr ?_
 refine thn (h1 pins s σ H I hc) fun v s1 ⟨y, t, e, l, I1⟩ => ⟨y, t, e, PV.Dy (by rw [QF]; omega), ?_⟩
 have b2 : ∀ y2 : Str, y2.length ≤ 2000000 → (Str.empty ++ y ++ y2).length ≤ sizeLine := fun y2 l2 => PV.Dy (by rw [PV.Aa, QF]; omega)
 exact thn (h2 pins s1 σ H I1 hc) fun v s2 ⟨y2, t2, e2, l2, I2⟩ => ⟨y2, t2, e2, b2 y2 l2, b2 y2 l2, ⟨.str _, H, I2.tok _, ⟨_, rfl⟩, q _⟩⟩
def tSup (K : PySem.W.Frag) (t : TA) : TE := fun σ H Q => t σ H fun vs H1 => ∃ e y C R od tb, vs = [.ref e, .str y] ∧ H1 e = some (excO e C od tb) ∧ XC K C R ∧ Q .non H1
theorem Tu {pl : Sem Bool} (hg : Gl X x) (hm : X.mg x = some (.ref R)) (h1 : PySem.W.specialIn X.K (.ref R) "__getattribute__" = some (some (.builtin "type.__getattribute__"))) (h2 : PySem.W.readsIn X.K R (.type "type") = true)
  (h3 : PySem.W.findCls X.K (.ref R) (.type "type") "__init__" = some (.val (.builtin "ValueError.__init__"))) (ha : PA X (a :: es) t) (hdb : (x == ("__debug__" : Str)) = false := by decide)
  (hst : starEach (a :: es) X.env = (false, eval a X.env) :: starEach es X.env := by rfl) (hpl : (backTo pos (starEach es X.env)).any (·.1) = false := by rfl)
  (ht : eval (.Call (.Attribute (.Name x p) "__init__" apos) (a :: es) [] pos) X.env = (do
   let ov ← eval (.Name x p) X.env
   standAt apos.atName
   let (f, first) ← holding [ov] (getMethod ov "__init__" pl)
   callWith pos f first (backTo pos (starEach (a :: es) X.env)) (backToKw pos (keywordEach [] X.env))) := by rfl) :
  PE X (.Call (.Attribute (.Name x p) "__init__" apos) (a :: es) [] pos) (tSup X.K t) := by
 intro pins s σ H Q I h
 refine PySem.W.methodCall_KW (pl := pl) (Gg I hg hm ?_ hdb) ht
 refine PySem.W.method_cls I.kIn h1 (PySem.W.cls_value I.kIn h2 h3 rfl ?_)
 refine callWith_builtin1 (thn (ha pos pins _ σ H _ (I.tok _) h) fun us s1 ⟨vs, H1, I1, r, e, y, C, R', od, tb, ev, he, xc, q⟩ => ?_) hst hpl
 subst ev
 cases r with
 | cons r1 r =>
  cases r with
  | cons r2 r =>
   cases r
   obtain rfl := (show _ = Value.ref e from r1)
   exact Tq I1 he xc fun s' I' => ⟨.non, H1, I', rfl, q⟩
end
end EX
namespace EX
open PySem PySem.Spec L2
open PyProof.Rows hiding St
section
variable {X : Cx} {o value : Expr} {ta tv : TE} {pos pos' : Pos} {f : Str}
def sXf (K : PySem.W.Frag) (ta tv : TE) (f : Str) : TS := fun D σ H => tv σ H fun y H1 => ta σ H1 fun x H2 => ∃ e C R tb, x = .ref e ∧ H2 e = some (excO e C none tb) ∧ XC K C R ∧ Cv K C f ∧
 ∀ dx, H2 dx = none → D.nx σ (upd (upd H2 dx (.xd [(f, y)])) e (excO e C (some dx) tb))
theorem V5 (ha : PE X o ta) (hv : PE X value tv) (hs : swapsWith value (some (.Attribute o f pos')) pos.line X.env = pure false) : PS X (.Assign [.Attribute o f pos'] value pos) (sXf X.K ta tv f) := by
 intro pins s σ H D I h
 refine plainObj_wpAny_Assign_Attribute (thn (hv pins s σ H _ I h) fun u s1 ⟨y, H1, I1, ry, q⟩ => thn (ha pins s1 σ H1 _ I1 q) fun ov s2 ⟨x, H2, I2, rx, e, C, R, tb, ex, ea, c, n, q2⟩ => ?_) hs
 subst ex
 obtain rfl : ov = Value.ref e := rx
 exact V2 I2 ea c n ry fun dx s3 hd I3 => ⟨σ, _, I3, q2 dx hd⟩
end
def spE (K : PySem.W.Frag) (f : Str) (c : V → Prop) : Sp := fun vs H Q _ => ∃ e y C R, vs = [.ref e, y] ∧ H e = some (excO e C none none) ∧ XC K C R ∧ Cv K C f ∧ c y ∧ ∀ dx, H dx = none → Q .non (upd (upd H dx (.xd [(f, y)])) e (excO e C (some dx) none))
theorem Qp {K : PySem.W.Frag} {f : Str} {c : V → Prop} {cs : St → Prop} {vs : List V} {H : Hp} {Q : VK} {E : XK} {N : List Str} (h : spE K f c vs H Q E) (hN : N.length = 2) (hc : ∀ e y, c y → cs [some (.ref e), some y]) :
  tSeq (WY (tSup K (Ov (tVar 0) (Ov (tTxt cs) tNil)))) (sXf K (tVar 0) (tVar 1) f) { nx := fun _ H' => Q .non H', rt := Q } (start N vs) H := by
 obtain ⟨e, y, C, R, rfl, he, xc, n, cy, q⟩ := h
 have st : start N [.ref e, y] = [some (.ref e), some y] := by unfold L2.start; rw [hN]; rfl
 rw [st]
 exact ⟨_, rfl, hc e y cy, fun z => ⟨e, z, C, R, none, none, rfl, he, xc, _, rfl, _, rfl, e, C, R, none, rfl, he, xc, n, q⟩⟩
theorem V6 {K : PySem.W.Frag} {f : Str} {c : V → Prop} {vs : List V} {H : Hp} {Q : VK} {E : XK} (h : spE K f c vs H Q E) : vs.length = 2 := by
 obtain ⟨e, y, C, R, rfl, _⟩ := h
 rfl
def okS (y : V) : Prop := ∃ z : Str, y = .str z ∧ z.length ≤ 100000 ∧ ∀ c ∈ z.cps.toList, c < 16 ^ 8
theorem Yr (e : Addr) (y : V) (h : okS y) : Tr 1 [some (.ref e), some y] := by obtain ⟨n, rfl, h⟩ := h; exact ⟨n, rfl, h⟩
section
variable {X : Cx} {pins : List (Addr × Obj)} {σ : St} {H : Hp} {s : Shared} {C R fi : Addr} {k : Nat} {fd : FuncData} {ps : List Str} {f : Str} {c : V → Prop}
theorem Inv.exc {us : List Value} (I : Inv X pins σ H s) : Inv X pins σ (upd H (s.heap.objs.size + 1) (excO (s.heap.objs.size + 1) C none none)) { s with heap := (s.heap.push (GD us)).push (Gn C s.heap.objs.size) } := by
 have I1 := I.kept (h' := s.heap.push (GD us)) (t' := s.toks) fun b v z => Heap.get?_push_of_some _ z
 have hs : (s.heap.push (GD us)).objs.size = s.heap.objs.size + 1 := by simp [Heap.size_push]
 refine I1.laid (a := s.heap.objs.size + 1) (h' := (s.heap.push (GD us)).push (Gn C s.heap.objs.size)) (t' := s.toks) (fun b v z => Heap.get?_push_of_some _ z) (Nat.le_of_eq hs) ?_
 have g := Heap.get?_push_size (s.heap.push (GD us)) (o := Gn C s.heap.objs.size) rfl
 rw [hs] at g
 exact ExcP.ok ⟨_, _, g, rfl, rfl, rfl, rfl, rfl⟩
theorem V7 {Q : VK} {us : List Value} {y : V} (x : XC X.K C R) (hi : PySem.W.findIn X.K (.ref C) "__init__" = some (some (.ref fi))) (hf : PySem.W.isFn X.K (.ref fi) = true) (n : Cv X.K C f)
  (F : FnOk X.prog X.w X.K X.mg X.base CX0 k fi fd ps (spE X.K f c)) (hr : Room (k + 1) X.A) (hb : Binds X.K fd ps []) (I : Inv X pins σ H s) (r : Vals [y] us) (cy : c y)
  (h : ∀ e dx, H e = none → H dx = none → dx ≠ e → Q (.ref e) (upd (upd H dx (.xd [(f, y)])) e (excO e C (some dx) none))) : wpAny (model X.prog X.w) X.A (call (.ref C) us) (EP X pins σ Q) X.xe s := by
 have I2 := Inv.exc (C := C) (us := us) I
 have hfe : H (s.heap.objs.size + 1) = none := I.hok.fresh (Nat.le_succ _)
 have sp : spE X.K f c [.ref (s.heap.objs.size + 1), y] (upd H (s.heap.objs.size + 1) (excO (s.heap.objs.size + 1) C none none)) (fun v H2 => v = .non ∧ Q (.ref (s.heap.objs.size + 1)) H2) E0 := by
  refine ⟨_, y, C, R, rfl, B_, x, n, cy, fun dx hd => ⟨rfl, ?_⟩⟩
  have ne : dx ≠ s.heap.objs.size + 1 := fun z => by rw [z, B_] at hd; cases hd
  rw [BP ne] at hd
  have := h _ dx hfe hd ne
  have e : upd (upd (upd H (s.heap.objs.size + 1) (excO (s.heap.objs.size + 1) C none none)) dx (.xd [(f, y)])) (s.heap.objs.size + 1) (excO (s.heap.objs.size + 1) C (some dx) none) = upd (upd H dx (.xd [(f, y)])) (s.heap.objs.size + 1) (excO (s.heap.objs.size + 1) C (some dx) none) := by
   funext b
   unfold upd
   split <;> rfl
  rw [e]
  exact this
 have r2 : Vals [V.ref (s.heap.objs.size + 1), y] (Value.ref (s.heap.objs.size + 1) :: us) := .cons rfl r
 have hl : (Value.ref (s.heap.objs.size + 1) :: us).length = ps.length := by rw [← r2.length]; exact F.len _ _ _ _ sp
 have hb' := hb { s with heap := (s.heap.push (GD us)).push (Gn C s.heap.objs.size) } (Value.ref (s.heap.objs.size + 1) :: us) I2.kIn (by rw [List.append_nil]; exact hl)
 rw [List.append_nil] at hb'
 have hus : us.length ≤ sizeLine := by rw [← r.length]; exact PV.Dy (by show 1 ≤ _; decide)
 obtain ⟨nm, qn, N, bs, bm, hdct, sn, sub, ab, col, dd, k0, k1, k2, k3, k5, hC, T⟩ := Hy I.kIn x.obj
 have KI := I.kIn
 have run := F.run _ X.stack _ _ ⟨Value.ref (s.heap.objs.size + 1) :: us, []⟩ (Value.ref (s.heap.objs.size + 1) :: us) _ _ E0 (hr.make C us []) (I2.env0.make C us []) hb' r2 sp
 obtain ⟨hp, g, d, t, os⟩ := s
 refine wpAny_call (Tp PySem.F.excBase_ValueError T hC (PySem.W.looks_findIn KI hi) (fun self => PySem.W.bind_fn KI self (beq_iff_eq.mp hf)) (codeAny_mono run fun r s' hq' => ?_) hus)
 cases r with
 | error e => exact hq'.elim
 | ok fl =>
  cases fl with
  | ret u =>
   obtain ⟨v, H', I3, rv, ev, q3⟩ := I2.after hq'
   subst ev
   exact ⟨rv, ⟨V.ref (hp.objs.size + 1), H', I3, rfl, q3⟩⟩
  | next => exact False.elim hq'
  | brk => exact False.elim hq'
  | cont => exact False.elim hq'
end
end EX
namespace EX
open PySem PySem.Spec L2
open PyProof.Rows hiding St
section
variable {M : Model} {A : Around} {E : Value → Shared → Prop} {env : Env} {K : PySem.W.Frag}
theorem Tv {s : Shared} {x : Sem Value} {Q : Flow → Shared → Prop} (hh : A.handled = none)
  (h : wpAny M A x (fun v s₁ => ∃ e C od, v = .ref e ∧ ExcP e C od none s₁.heap ∧ K.In s₁.heap ∧ excX K C = true ∧ E (.ref e) s₁) E s) : wpAny M A (raiseStmt env (some x) none) Q E s := by
 unfold raiseStmt
 refine wpAny_bind (wpAny_mono h (fun v s₁ h₁ => ?_) fun _ _ x => x)
 obtain ⟨e, C, od, rfl, ⟨o, vs, q1, q2, q3, q4, q5, q6⟩, KI, hx, hE⟩ := h₁
 obtain ⟨nm, qn, N, bs, bm, hdct, sn, sub, ab, col, dd, k0, k1, k2, k3, k5, hC, T⟩ := Hy KI hx
 have hcB : (Value.ref C :: bm).contains (.type "BaseException") = true := by rw [List.contains_cons, T.hasType (by decide +kernel : bmV.contains (.type "BaseException") = true), Bool.or_true]
 obtain ⟨hp, g, d, tk, os⟩ := s₁
 obtain ⟨oc, odi, oda, osl⟩ := o
 dsimp only at q2 q3 q4
 subst q2 q4
 have h6 : vs[1]? = some Value.none := q6
 repeat (first | with_reducible refine wpAny_loadPart_at q1 ?_ | with_reducible refine wpAny_loadPart_at hC ?_ | (with_reducible refine wpAny_isSubtype_exc hC ?_; rw [hcB]) | with_reducible refine wpAny_field q1 rfl h6 ?_ | wp_step)
 exact wpAny_raiseNew_none hh hE
end
end EX
namespace PV
open PySem PySem.Spec L2 EX
open PyProof.Rows hiding St
def excF (c f : Str) (ok : D → Bool) (fa : FE) : FE := fun ρ => (fa ρ).bind fun d => if ok d = true then some (.exc c [(f, d)]) else none
section
variable {X : Cx} {G : Gx} {a : Expr} {fa : FE} {np cpos pos : Pos} {C R fi : Addr} {k : Nat} {fd : FuncData} {ps : List Str} {f cx cn : Str} {c : V → Prop} {ok : D → Bool}
theorem Tw {H : Hp} {v y : V} {d : D} (r : Rep G H v d) (h : flV d = some y) : v = y := by
 cases r <;> first | (cases h; rfl) | (cases h)
theorem Qq (x : XC X.K C R) (hi : PySem.W.findIn X.K (.ref C) "__init__" = some (some (.ref fi))) (hf : PySem.W.isFn X.K (.ref fi) = true) (kp : PySem.W.keepIn X.K (.ref C) = true) (n : Cv X.K C f)
  (F : FnOk X.prog X.w X.K X.mg X.base CX0 k fi fd ps (spE X.K f c)) (hr : Room (k + 1) X.A) (hb : Binds X.K fd ps []) (hg : Gl X cx) (hm : X.mg cx = some (.ref C)) (hcl : G.xcl cn = some C) (hc : X.calm = true) (hok : ∀ d, ok d = true → ∃ y, flV d = some y ∧ c y)
  (ha : PF X G a fa) (hdb : (cx == ("__debug__" : Str)) = false := by decide) (he : starEach [a] X.env = [(false, eval a X.env)] := by rfl) (hpl : (backTo cpos (starEach [] X.env)).any (·.1) = false := by rfl) :
  PSZ X G (.Raise (some (.Call (.Name cx np) [a] [] cpos)) none pos) (retF (excF cn f ok fa)) := fun A0 He pins s σ H D I ⟨ρ, o, ⟨A, w⟩, e, k, kx⟩ => by
 unfold retF excF at e
 cases e1 : fa ρ with
 | none => simp [e1] at e
 | some d =>
  rw [e1] at e
  by_cases hd : ok d = true
  ·simp only [Option.bind_some, hd, if_true, Option.map_some] at e
   cases e
   obtain ⟨y, hy, cy⟩ := hok d hd
   have kx : Rz X G A0 He cn [(f, d)] ρ := kx cn [(f, d)] rfl
   have call : wpAny (model X.prog X.w) X.A (eval (.Call (.Name cx np) [a] [] cpos) X.env) (fun v s₁ => ∃ e C od, v = .ref e ∧ ExcP e C od none s₁.heap ∧ X.K.In s₁.heap ∧ excX X.K C = true ∧ X.xe (.ref e) s₁) X.xe s := by
    refine wpAny_Call_Name_kw (Gg I hg hm ?_ hdb)
    have pa := Dw (@ha A) Hh he cpos pins s σ H (fun vs H1 => vs = [y] ∧ OkW G A0 He A σ H1 ρ) I ⟨ρ, d, w.ok, e1, fun v H1 s1 r1 => ⟨by rw [Tw r1 hy], w.mono s1⟩⟩
    refine PySem.W.callWith_K (h₀ := X.base) I.ok.mod.kin kp (thn pa fun us s1 ⟨vs, H1, I1, r, ev, w1⟩ => ⟨I1.kIn, ?_⟩) he hpl
    ·subst ev
     refine thn (V7 (Q := fun v H2 => ∃ e dx, v = .ref e ∧ H1 e = none ∧ H1 dx = none ∧ dx ≠ e ∧ H2 = upd (upd H1 dx (.xd [(f, y)])) e (excO e C (some dx) none)) x hi hf n F hr hb I1 r cy fun e dx h1 h2 h3 => ⟨e, dx, rfl, h1, h2, h3, rfl⟩) fun u s2 ⟨v2, H2, I2, r2, e, dx, ev, h1, h2, h3, eH⟩ => ?_
     subst ev eH
     obtain rfl : u = Value.ref e := r2
     refine ⟨e, C, some dx, rfl, (I2.hok e _ B_).1, I2.kIn, x.obj, ?_⟩
     refine kx pins σ H1 _ s2 e none I2 ⟨A, w1⟩ ⟨⟨C, dx, [(f, y)], hcl, B_, by rw [BP h3]; exact B_, ?_, h2⟩, fun b u q => ?_, h1, fun T z => nomatch z⟩
     ·simp [FsV, hy]
     ·rw [BP (Bu q h1), BP (Bu q h2)]; exact q
   show wpAny _ _ (exec (.Raise (some (.Call (.Name cx np) [a] [] cpos)) none pos) X.env) _ _ _
   rw [arm_exec_Raise]
   refine wpAny_bind (wpAny_standAt (Tv (K := X.K) (I.ok.hd hc) ?_))
   exact wpAny_bind (thn call fun v s1 q => wpAny_bind (wpAny_standAt (wpAny_pure q)))
  ·simp [hd] at e
end
end PV
namespace EX
open PySem PySem.Spec L2
open PyProof.Rows hiding St
abbrev Cx.mk2 (X : Cx) (e : Addr) : Cx := { X with A := X.A.mark (some (.ref e)), calm := false, xe := fun _ _ => False }
section
variable {X : Cx} {pins : List (Addr × Obj)} {σ : St} {H : Hp} {s : Shared} {e C R : Addr} {K : PySem.W.Frag}
theorem NB (I : Inv X pins σ H s) : Inv (Cx.mk2 X e) pins σ H s :=
 ⟨⟨I.ok.mod, I.ok.kind, I.ok.glob, I.ok.blt, I.ok.above, I.ok.inj, I.ok.has, I.ok.cab, (fun z => nomatch z), I.ok.frames, I.ok.stk, I.ok.exf, I.ok.bs, I.ok.bsz, I.ok.noex, I.ok.exfs, I.ok.funs, I.ok.frf⟩, I.os, I.bare, I.base, I.loc, I.cell, I.free, I.freeC, I.pin, I.hok, I.len⟩
theorem J0 (ok : X.Ok) (I : Inv (Cx.mk2 X e) pins σ H s) : Inv X pins σ H s := ⟨ok, I.os, I.bare, I.base, I.loc, I.cell, I.free, I.freeC, I.pin, I.hok, I.len⟩
abbrev Cx.tr (X : Cx) (E : Value → Shared → Prop) (pn : List (Addr × Obj)) : Cx := { X with xe := E, pn := pn }
theorem Zz {E : Value → Shared → Prop} {pn : List (Addr × Obj)} (ok : X.Ok) : (Cx.tr X E pn).Ok := ⟨ok.mod, ok.kind, ok.glob, ok.blt, ok.above, ok.inj, ok.has, ok.cab, ok.hd, ok.frames, ok.stk, ok.exf, ok.bs, ok.bsz, ok.noex, ok.exfs, ok.funs, ok.frf⟩
theorem Ys {E : Value → Shared → Prop} (I : Inv X pins σ H s) : Inv (Cx.tr X E (X.pn ++ pins)) [] σ H s := ⟨Zz I.ok, I.os, I.bare, I.base, I.loc, I.cell, I.free, I.freeC, fun p hp => I.pin p (by simpa using hp), I.hok, I.len⟩
theorem G8 {E : Value → Shared → Prop} {pins' : List (Addr × Obj)} (ok : X.Ok) (I : Inv (Cx.tr X E (X.pn ++ pins)) pins' σ H s) : Inv X pins σ H s := ⟨ok, I.os, I.bare, I.base, I.loc, I.cell, I.free, I.freeC, fun p hp => I.pin p (List.mem_append_left _ hp), I.hok, I.len⟩
theorem JW {E : Value → Shared → Prop} {pins' : List (Addr × Obj)} {D : Ends} {f : Flow} {s' : Shared} (ok : X.Ok) (h : SP (Cx.tr X E (X.pn ++ pins)) pins' D f s') : SP X pins D f s' := by
 cases f with
 | next => obtain ⟨σ', H', I, q⟩ := h; exact ⟨σ', H', G8 ok I, q⟩
 | brk => obtain ⟨σ', H', I, q⟩ := h; exact ⟨σ', H', G8 ok I, q⟩
 | cont => obtain ⟨σ', H', I, q⟩ := h; exact ⟨σ', H', G8 ok I, q⟩
 | ret u => obtain ⟨v, σ', H', I, r, q⟩ := h; exact ⟨v, σ', H', G8 ok I, r, q⟩
theorem Tz {M : Model} {A : Around} {E : Value → Shared → Prop} {Q : Unit → Shared → Prop} {od : Option Addr} {T : Addr} (I : Inv X pins σ H s) (he : H e = some (excO e C od (some T))) (ht : H T = some (tbO T .none)) (k : ∀ s', Inv X pins σ H s' → Q () s') : wpAny M A (setFlight (.ref e) none) Q E s := by
 obtain ⟨⟨o, vs, q1, q2, q3, q4, q5, q6⟩, _⟩ := I.hok e _ he
 obtain ⟨⟨oT, ts, r1, r2, r3, r4⟩, _⟩ := I.hok T _ ht
 have z3 : 3 < ts.size := (Array.getElem?_eq_some_iff.mp r3).1
 unfold setFlight
 refine wpAny_bind (wpAny_field q1 q4 q6 ?_)
 rw [if_pos (show (tbV (some T) != Value.none) = true from by simp [tbV])]
 refine wpAny_setField r1 r2 z3 (k _ ?_)
 have I1 := Hu (u' := tbO T .none) (i := 3) (v := (none : Option Addr).elim Value.none fun f => rawInt f) I ht trivial r1 r2 fun h' o' y1 y2 y3 y4 => TbP.ok ⟨o', _, y1, y4, by simp [z3], y2.trans r4⟩
 rwa [M_ ht] at I1
theorem QG {M : Model} {A : Around} {E : Value → Shared → Prop} {Q : Unit → Shared → Prop} {i : Nat} {n : Str} {pos : Pos} (I : Inv X pins σ H s) (hN : X.N.Nodup) (hi : X.N[i]? = some n) (hk : X.env.kindOf n = some .local)
  (h : ∀ s', Inv X pins (σ.set i none) H s' → Q () s') : wpAny M A (do bindName X.env n .none; unbindBehindTheSuite X.env n pos) Q E s := by
 obtain ⟨m, hn, hl⟩ := I.loc
 have hcls : (X.env.scope.kind == .class || (X.env.scope.kind == .module && X.env.locals != X.env.globals)) = false := by rw [I.ok.kind]; rfl
 have cne := I.cne
 obtain ⟨oL, _, _, hoL, _⟩ := id hn
 refine wpAny_nameGoes_keeps hk hn hcls fun h' v hn' hs => h _ ?_
 have ne : ∀ b o, X.s₀.heap.get? b = some o → b ≠ X.env.locals := fun b o z => Nat.ne_of_lt (Nat.lt_of_lt_of_le (Heap.lt_size z) I.ok.above)
 refine ⟨I.ok, I.os, I.bare, ⟨fun b o z n hb hx => (hs.2 b (ne b o z)).trans (I.base.keep b o z n hb hx), fun b o z n hb hx => ?_, I.base.free, fun b o z hx => ?_, I.base.tups, I.base.frzs, I.base.tbls⟩, ⟨_, hn', fun j y v' e1 e2 e3 => ?_⟩, fun y c z => ?_, I.free, I.freeC, fun p hp => ?_, fun b ob z => ?_, by simpa using I.len⟩
 ·obtain ⟨sl, e1⟩ := I.base.slot b o z n hb hx
  exact ⟨sl, (hs.2 b (ne b o z)).trans e1⟩
 ·obtain ⟨o', e1⟩ := I.base.there b o z hx
  exact ⟨o', (hs.2 b (ne b o z)).trans e1⟩
 ·by_cases hj : j = i
  ·subst hj
   rw [List.getElem?_set] at e2
   split at e2
   ·split at e2 <;> cases e2
   ·rename_i z; exact absurd rfl z
  ·rw [List.getElem?_set_ne (Ne.symm hj)] at e2
   obtain ⟨u', r', q⟩ := hl j y v' e1 e2 e3
   refine ⟨u', r', ?_⟩
   rcases q with ⟨k, z⟩ | ⟨k, c, z, z'⟩
   ·refine .inl ⟨k, ?_⟩
    have : y ≠ n := fun w => hj (JZ hN e1 (w ▸ hi))
    simp [this, z]
   ·exact .inr ⟨k, c, z, z'.sameBut hs (cne y c z)⟩
 ·obtain ⟨w', z'⟩ := I.cell y c z
  exact ⟨w', z'.sameBut hs (cne y c z)⟩
 ·obtain ⟨z, n, ne, nf, d⟩ := I.pin p hp
  exact ⟨(hs.2 p.1 ne).trans z, n, ne, nf, d⟩
 ·refine (I.hok b ob z).stay (fun c w' hc q => (hs.2 c ?_).trans q) (fun _ q => q) fun _ _ q => q
  rintro rfl
  rcases hc with hc | hc
  ·rw [← hc, I.free] at z; cases z
  ·rw [I.free] at hc; cases hc
theorem Lh {M : Model} {A : Around} {E : Value → Shared → Prop} {Q : Bool → Shared → Prop} {oe : Obj} (KI : K.In s.heap) {R' : Addr} (hR : excX K R = true) (xc : XC K C R') (hRR : R = R' ∨ R = C) (he : s.heap.get? e = some oe) (hcls : oe.cls = .ref C) (hq : Q true s) :
  wpAny M A (excMatches (.ref e) (.ref R)) Q E s := by
 obtain ⟨nm, qn, N, bs, bm, hdct, sn, sub, ab, col, dd, k0, k1, k2, k3, k5, hC, T⟩ := Hy KI hR
 obtain ⟨cd, c1, c2, c3⟩ := xc.cls
 have L : PySem.W.Looks M s.heap (isSubtype (.ref C) (.ref R)) true := PySem.W.looks_subIn KI (by show PySem.W.mroIn K C _ = _; unfold PySem.W.mroIn; rw [c1, Option.bind_some, c2]; rcases hRR with rfl | rfl <;> simp)
 have hcB : (Value.ref R :: bm).contains (.type "BaseException") = true := by rw [List.contains_cons, T.hasType (by decide +kernel : bmV.contains (.type "BaseException") = true), Bool.or_true]
 have f := tc_notTuple
 obtain ⟨hp, g, d, t, os⟩ := s
 unfold excMatches
 repeat (first | (with_reducible refine wpAny_loadPart_at he ?_; rw [hcls]) | with_reducible refine wpAny_loadPart_at hC ?_ | (with_reducible refine wpAny_isSubtype_exc hC ?_; rw [hcB]) | with_reducible refine L.at ?_ | wp_step)
 exact hq
end
end EX
namespace PV
open PySem PySem.Spec L2 EX
open PyProof.Rows hiding St
def offO (i : Nat) (o : Option Out) : Option Out := match o with
 | some (.nx ρ) => some (.nx (ρ.set i .un))
 | some (.rt d ρ) => some (.rt d (ρ.set i .un))
 | _ => none
def tryO (cs : List Str) (i : Nat) (h : FS) (o : Option Out) : Option Out := match o with
 | some (.rt d ρ) => (match excOf d with
  | some (c, gs) => if cs.contains c = true then offO i (h (ρ.set i (.fz (.err c gs)))) else none
  | none => some (.rt d ρ))
 | o => o
def tryF (cs : List Str) (i : Nat) (g h : FS) : FS := fun ρ => tryO cs i h (g ρ)
section
variable {X : Cx} {G : Gx} {A0 A : List Addr} {He H : Hp} {σ : St} {ρ : Rho}
theorem OkW.unset (w : OkW G A0 He A σ H ρ) (i : Nat) : OkW G A0 He A (σ.set i none) H (ρ.set i .un) := by
 have key : ∀ (j : Nat) (z : Slot), z ≠ .un → (ρ.set i .un)[j]? = some z → j ≠ i ∧ ρ[j]? = some z := fun j z nz h => by
  by_cases hj : j = i
  ·subst hj
   rw [List.getElem?_set] at h
   split at h
   ·split at h
    ·cases h; exact absurd rfl nz
    ·cases h
   ·rename_i q; exact absurd rfl q
  ·rw [List.getElem?_set_ne (Ne.symm hj)] at h; exact ⟨hj, h⟩
 have ks : ∀ (j : Nat), j ≠ i → (σ.set i none)[j]? = σ[j]? := fun j hj => List.getElem?_set_ne (Ne.symm hj)
 refine ⟨w.same, w.sub, w.fr, w.l0, ⟨by rw [List.length_set, List.length_set]; exact w.ok.len, w.ok.live, fun j d h => ?_, fun j d h => ?_, fun j k d e a h1 h2 h3 h4 => ?_⟩, fun j d a h1 h2 => ?_, fun x d hx h0 => ?_⟩
 ·obtain ⟨hj, h⟩ := key j _ (by simp) h; rw [ks j hj]; exact w.ok.fz j d h
 ·obtain ⟨hj, h⟩ := key j _ (by simp) h; rw [ks j hj]; exact w.ok.ow j d h
 ·obtain ⟨hj, h1⟩ := key j _ (by simp) h1
  obtain ⟨hk, h2⟩ := key k _ (by simp) h2
  rw [ks j hj] at h3
  rw [ks k hk] at h4
  exact w.ok.inj j k d e a h1 h2 h3 h4
 ·obtain ⟨hj, h1⟩ := key j _ (by simp) h1
  rw [ks j hj] at h2
  exact w.ow0 j d a h1 h2
 ·obtain ⟨hj, h0⟩ := key 0 _ (by simp) h0
  rw [ks 0 hj]
  exact w.lt x d hx h0
theorem V8 {cs : List Str} {i : Nat} {n rx : Str} {R : Addr} {body suite : List Stmt} {b0 : Stmt} {np hpos pos : Pos} {g h : FS} (hst : X.stack = X.env :: X.outer) (hf : X.env.frame = some X.env.locals) (hN : X.N.Nodup) (hi : X.N[i]? = some n) (hk : X.env.kindOf n = some .local) (hg : Gl X rx) (hm : X.mg rx = some (.ref R)) (hR : excX X.K R = true)
  (hcl : ∀ c C, cs.contains c = true → G.xcl c = some C → ∃ R', XC X.K C R' ∧ (R = R' ∨ R = C)) (hb : ∀ E pn, PSZs (Cx.tr X E pn) G body g) (hs : ∀ e, PSDs (Cx.mk2 X e) G (b0 :: suite) h) (hdb : (rx == ("__debug__" : Str)) = false := by decide) :
  PSD X G (.Try body [.ExceptHandler (some (.Name rx np)) (some n) (b0 :: suite) hpos] [] [] pos) (tryF cs i g h) := fun A0 He pins s σ H D I ⟨ρ, o, ok, e, k⟩ => by
 refine wpAny_Try_except ?_
 unfold tryF at e
 cases e1 : g ρ with
 | none => rw [e1] at e; cases e
 | some o1 =>
  rw [e1] at e
  have fin : ∀ {E' : Value → Shared → Prop} (f : Flow) (s1 : Shared), SP (Cx.tr X E' (X.pn ++ pins)) [] D f s1 → (match f with | .next => wpAny (model X.prog X.w) X.A (execs [] X.env) (SP X pins D) X.xe s1 | f => SP X pins D f s1) := fun f s1 q => by
   cases f with
   | next => exact wpAny_execs_nil (JW I.ok q)
   | brk => exact JW I.ok q
   | cont => exact JW I.ok q
   | ret u => exact JW I.ok q
  refine wpAny_mono (hb (fun e s1 => wpAny (model X.prog X.w) X.A (noteFrame e X.env) (fun _ s2 => wpAny (model X.prog X.w) X.A (setFlight e none) (fun _ s3 => wpAny (model X.prog X.w) X.A (handleBy e X.env [.ExceptHandler (some (.Name rx np)) (some n) (b0 :: suite) hpos]) (SP X pins D) X.xe s3) X.xe s2) X.xe s1) (X.pn ++ pins) He [] s σ H D (Ys I) ⟨ρ, o1, ok, e1, ?_, ?_⟩) (fun f s1 q => fin f s1 q) fun e s1 q => q
  ·cases o1 with
   | nx ρ' => cases e; exact k
   | bk ρ' => cases e; exact k
   | ct ρ' => cases e; exact k
   | rt d ρ' =>
    cases e2 : excOf d with
    | none => simp only [tryO, e2] at e; cases e; exact k
    | some q => exact fun v σ' H' A w r => absurd e2 (by rw [Il r]; simp)
  ·cases o1 with
   | nx ρ' => trivial
   | bk ρ' => trivial
   | ct ρ' => trivial
   | rt d ρ' =>
    intro c gs e2 pins' σ1 H1 H2 s2 ea tb I2 ⟨A1, w1⟩ x
    simp only [tryO, e2] at e
    by_cases hc : cs.contains c = true
    ·rw [if_pos hc] at e
     have I2 := G8 I.ok I2
     refine Jy hst hf I2 x fun T H3 s3 I3 x3 => ?_
     obtain ⟨C, dx, fs, y1, y2, y3, y4, y5⟩ := x3.ex
     obtain ⟨R', xc, hRR⟩ := hcl c C hc y1
     have w3 := w1.mono x3.same
     obtain ⟨⟨oe, vs, q1, q2, q3, q4, q5, q6⟩, _⟩ := I3.hok ea _ y2
     refine wpAny_handleBy_cons (codeAny_handlers_test ?_) (by intro q; cases q)
     refine Gg (X := Cx.mk2 X ea) (NB I3) hg hm ?_ hdb
     refine Lh I3.kIn hR xc hRR q1 q2 ?_
     refine codeAny_handlers_suite_as (Tz I3 y2 (x3.tbk T rfl).1 fun s4 I4 => ?_)
     have noA : ∀ b, H1 b = none → b ∉ A1 := fun b z q => (w1.ok.live b q).ne z
     have rp : Rep G (hid A1 H3) (.ref ea) (.err c gs) := .err y1 (by rw [Cu (noA ea x3.new)]; exact y2) (by rw [Cu (noA dx y5)]; exact y3) y4
     refine Hs (X := Cx.mk2 X ea) (NB I4) hN hi (Or.inl hk) (show RelV (.ref ea) (.ref ea) from rfl) (fun s5 I5 => ?_) (.inr hk)
     cases e5 : h (ρ'.set i (.fz (.err c gs))) with
     | none => rw [e5] at e; cases e
     | some o5 =>
      rw [e5] at e
      refine wpAny_mono (hs ea He pins s5 _ H3 { nx := fun σ' H' => D.nx (σ'.set i none) H', rt := D.rt } I5 ⟨_, o5, ⟨A1, w3.set rp i⟩, e5, ?_⟩) (fun f s6 q => ?_) fun _ _ z => z.elim
      ·cases o5 with
       | nx ρ5 => cases e; exact fun σ6 H6 ⟨A6, w6⟩ => k _ _ ⟨A6, w6.unset i⟩
       | rt d5 ρ5 => cases e; exact fun v σ6 H6 A6 w6 r6 => k v _ H6 A6 (w6.unset i) r6
       | bk ρ5 => cases e
       | ct ρ5 => cases e
      ·cases f with
       | next =>
        obtain ⟨σ6, H6, I6, q⟩ := q
        exact QG (J0 I.ok I6) hN hi hk fun s7 I7 => ⟨_, H6, I7, q⟩
       | ret u =>
        obtain ⟨v, σ6, H6, I6, r, q⟩ := q
        exact QG (J0 I.ok I6) hN hi hk fun s7 I7 => ⟨v, _, H6, I7, r, q⟩
       | brk => obtain ⟨_, _, _, q⟩ := q; exact q.elim
       | cont => obtain ⟨_, _, _, q⟩ := q; exact q.elim
    ·rw [if_neg hc] at e; cases e
end
end PV
namespace EX
open PySem PySem.W PySem.Spec PyProof.Rows PySem.Calls
section
variable {prog : Program} {w : World} {A : Around} {E : Value → Shared → Prop} {s : Shared} {K : Frag} {x C : Addr} {ox : Obj} {od : Obj}
structure XK2 (K : Frag) (C : Addr) : Prop where
 ha : findIn K (.ref C) "__class__" = some (some (.builtin "object.__class__"))
 hn : specialIn K (.builtin "object.__class__") "__get__" = some (some (.builtin "getset_descriptor.__get__"))
 htk : takesIn K (.builtin "object.__class__") = some true
end
end EX
namespace PV
open PySem PySem.Spec L2 EX
open PyProof.Rows hiding St
structure XT (G : Gx) (cs : List Str) (R : Addr) : Prop where
 xc : ∀ c C, cs.contains c = true → G.xcl c = some C → XC G.K C R
 xk : ∀ c C, cs.contains c = true → G.xcl c = some C → XK2 G.K C
section
variable {X : Cx} {G : Gx} {a sp : Expr} {es : List Expr} {fa : FE} {pos p : Pos} {cs ns : List Str} {cv : List Value} {R : Addr} {Cs : List Addr}
def fldE (cs : List Str) (f : Str) : D → Option D
 | .err c gs => if cs.contains c = true then gs.lookup f else none
 | _ => none
theorem V9 {fs : List (Str × V)} {gs : List (Str × D)} {f : Str} {d : D} (h : FsV fs gs) (l : gs.lookup f = some d) : ∃ y, fs.lookup f = some y ∧ flV d = some y := by
 unfold FsV at h
 induction fs generalizing gs with
 | nil => cases gs with
  | nil => cases l
  | cons q t => cases h
 | cons q t ih =>
  cases gs with
  | nil => cases l
  | cons q' t' =>
   obtain ⟨k, v⟩ := q; obtain ⟨k', v'⟩ := q'
   simp only [List.map_cons, List.cons.injEq, Prod.mk.injEq] at h
   obtain ⟨⟨rfl, h1⟩, h2⟩ := h
   simp only [List.lookup] at l ⊢
   split at l
   ·cases l; exact ⟨v, rfl, h1.symm⟩
   ·exact ih h2 l
theorem T3 {H : Hp} {d : D} {y : V} (h : flV d = some y) : Rep G H y d := by
 cases d <;> first | (cases h; constructor) | cases h
theorem V_ {f : Str} (hG : G.K = X.K) (t : XT G cs R) (ha : PF X G a fa) (n : ∀ c C, cs.contains c = true → G.xcl c = some C → Cv G.K C f)
  (hb : attributeBase a f X.env (eval a X.env) = eval a X.env := by rfl) :
  PF X G (.Attribute a f pos) (uF (fldE cs f) fa) := fun A pins s σ H Q I ⟨ρ, d, o, e, k⟩ => by
 unfold uF at e
 cases e1 : fa ρ with
 | none => simp [e1] at e
 | some d0 =>
  rw [e1] at e
  have e2 : fldE cs f d0 = some d := e
  refine Ou hb (thn (@ha A pins s σ H (fun v H1 => Same H H1 ∧ Rep G (hid A H1) v d0) I ⟨ρ, d0, o, e1, fun v H1 s1 r1 => ⟨s1, r1⟩⟩) fun u s1 ⟨v, H1, I1, rv, s1', rp⟩ => ?_)
  cases rp with
  | @err ae C dx tb c fs gs hC h1 h2 h3 =>
   obtain rfl := (show u = Value.ref ae from rv)
   have e' : (if cs.contains c = true then gs.lookup f else none) = some d := e2
   split at e'
   ·rename_i hc
    obtain ⟨y, l1, l2⟩ := V9 h3 e'
    exact V3 I1 (CV _ _ h1) (CV _ _ h2) (hG ▸ t.xc c C hc hC) (hG ▸ n c C hc hC) l1 fun u' s2 I2 ru => ⟨y, H1, I2, ru, k y H1 s1' (T3 l2)⟩
   ·cases e'
  | _ => cases e2
end
end PV
namespace PV
open PySem PySem.Spec
section
variable {prog : Program} {w : World} {A : Around} {E : Value → Shared → Prop} {s : Shared} {T : String} {r d : Addr} {n : Nat} {P : Nat → Value → Prop} {OK : Heap → Prop}
end
section
variable {prog : Program} {w : World} {A : Around} {E : Value → Shared → Prop} {s : Shared} {q : Addr}
end
open L2
section
variable {X : Cx} {G : Gx} {a : Expr} {fa : FE} {pos p : Pos}
end
end PV
namespace PV
open PySem PySem.Spec L2 EX
open PyProof.Rows hiding St
theorem Z0 {P : Program} {w : World} {G : Gx} {mg : Str → Option Value} {base : Heap} {x qual : Str} {st : Stmt} {f : Addr} {fd : FuncData} {N ps : List Str} {k : Nat} {b : FS} (F : FunD G.K x qual st f fd) (S : FnScope N ps (Ab st)) (hl : ps.length ≤ N.length)
  (hb : ∀ (cdv : Value) (A : Around) (outer : List Env) (s : Shared) (H : Hp) (E : XK), Room k (A.deeper (envOfC qual (Ab st) s.heap.objs.size f cdv)) → PSZs (cxOf (CX1 P w) P w G.K mg base N qual (Ab st) f cdv A outer s H E) G (CP st) b) :
  FnOk P w G.K mg base (CX1 P w) (k + 1) f fd ps (spZ G (runF N.length ps.length b)) := by
 obtain ⟨oc, od, dV, kV, doc, pm, an, cdv, ct, osl, rfl, lk, hcd⟩ := F.ex
 refine Ow lk hcd S (fun vs H Q E h => ?_) (fun A outer s H vs Q E hr h => ?_)
 ·obtain ⟨A, ds, d, lv, r, e, _⟩ := h
  unfold runF at e
  split at e
  ·rename_i hz; rw [r.1]; exact hz
  ·cases e
 ·obtain ⟨A0, ds, d, lv, r, e, k, kx⟩ := h
  unfold runF at e
  split at e
  ·rename_i hz
   have hzz := hb cdv A outer s H E hr
   refine ⟨_, @hzz A0 H, Do N.length ds, ?_⟩
   cases e1 : b (Do N.length ds) with
   | none => simp [e1] at e
   | some o =>
    refine ⟨o, Jq lv r (by rw [r.1, hz]; exact hl), rfl, ?_⟩
    cases o with
    | nx ρ =>
     simp only [e1] at e
     cases e
     exact ⟨fun σ H' ⟨A, w⟩ => k _ H' w.same .non, trivial⟩
    | rt d' ρ' =>
     simp only [e1] at e
     cases e
     exact ⟨fun v σ H' A w r' => k v H' w.same (r'.mono (Df w.sub)), Yp kx⟩
    | bk ρ => simp [e1] at e
    | ct ρ => simp [e1] at e
  ·cases e
def okSD : D → Bool
 | .str z => decide (z.length ≤ 100000) && z.cps.toList.all fun c => decide (c < 4294967296)
 | _ => false
theorem HD (d : D) (h : okSD d = true) : ∃ y, flV d = some y ∧ okS y := by
 cases d with
 | str z =>
  simp only [okSD, Bool.and_eq_true, decide_eq_true_eq, List.all_eq_true] at h
  exact ⟨_, rfl, z, rfl, h.1, h.2⟩
 | _ => cases h
structure Mx (K : PySem.W.Frag) (C : Addr) (m qual : Str) (st : Stmt) (ps : List Str) where
 f : Addr
 fd : FuncData
 F : Fun K m qual st f fd
 B : Binds K fd ps []
 me : Meth K C m f
structure Rx (K : PySem.W.Frag) (mg : Str → Option Value) (rn : Str) where
 R : Addr
 m : mg rn = some (.ref R)
 x : excX K R = true
 h1 : PySem.W.specialIn K (.ref R) "__getattribute__" = some (some (.builtin "type.__getattribute__"))
 h2 : PySem.W.readsIn K R (.type "type") = true
 h3 : PySem.W.findCls K (.ref R) (.type "type") "__init__" = some (.val (.builtin "ValueError.__init__"))
structure Xx (G : Gx) (mg : Str → Option Value) (R : Addr) (cn f qual : Str) (st : Stmt) (ps : List Str) where
 C : Addr
 fi : Addr
 fd : FuncData
 g : G.xcl cn = some C
 xc : XC G.K C R
 hi : PySem.W.findIn G.K (.ref C) "__init__" = some (some (.ref fi))
 hf : PySem.W.isFn G.K (.ref fi) = true
 kp : PySem.W.keepIn G.K (.ref C) = true
 na : Cv G.K C f
 m : mg cn = some (.ref C)
 F : Fun G.K "__init__" qual st fi fd
 B : Binds G.K fd ps []
section
variable {X : Cx} {G : Gx} {a ob : Expr} {es : List Expr} {fs : FA} {fa fo : FE} {pos p np cpos apos : Pos}
theorem fZ {k k' : Nat} {x : Str} {st : Stmt} {ps : List Str} {d : Dx X.K X.mg x st ps} {g : List D → Option D} (F : FnOk X.prog X.w X.K X.mg X.base (CX1 X.prog X.w) k d.f d.fd ps (spZ G g)) (hr : Room k' X.A) (ha : PFA X G (a :: es) fs) (hle : k ≤ k' := by omega) (hg : Gl X x := by rfl) (hdb : (x == ("__debug__" : Str)) = false := by decide)
  (he : starEach (a :: es) X.env = (false, eval a X.env) :: starEach es X.env := by rfl) (hpl : (backTo pos (starEach es X.env)).any (·.1) = false := by rfl) : PFZ X G (.Call (.Name x p) (a :: es) [] pos) (Ek g fs) := Yo F (hr.mono hle) hg d.m d.F.kp d.B ha hdb he hpl
theorem rZ {R : Addr} {cn f qual : Str} {st : Stmt} {ps : List Str} {x : Xx G X.mg R cn f qual st ps} {k k' : Nat} {c : V → Prop} {ok : D → Bool} (F : FnOk X.prog X.w X.K X.mg X.base CX0 k x.fi x.fd ps (spE X.K f c)) (hr : Room k' X.A) (hok : ∀ d, ok d = true → ∃ y, flV d = some y ∧ c y) (ha : PF X G a fa) (hle : k + 1 ≤ k' := by omega) (hG : G.K = X.K := by rfl) (hg : Gl X cn := by rfl) (hc : X.calm = true := by rfl)
  (hdb : (cn == ("__debug__" : Str)) = false := by decide) (he : starEach [a] X.env = [(false, eval a X.env)] := by rfl) (hpl : (backTo cpos (starEach [] X.env)).any (·.1) = false := by rfl) : PSZ X G (.Raise (some (.Call (.Name cn np) [a] [] cpos)) none pos) (retF (excF cn f ok fa)) :=
 Qq (hG ▸ x.xc) (hG ▸ x.hi) (hG ▸ x.hf) (hG ▸ x.kp) (hG ▸ x.na) F (hr.mono hle) (hG ▸ x.B) hg x.m x.g hc hok ha hdb he hpl
theorem sZ (hN : X.N.Nodup) (i : Nat) {x : Str} (ha : PFZ X G a fa) (hi : X.N[i]? = some x := by rfl) (hx : Loc X.env.scope x := by first | exact Or.inl rfl | exact Or.inr rfl) (hs : swapsWith a (some (.Name x p)) pos.line X.env = pure false := by rfl)
  (hf : X.fn x = true ∨ X.env.scope.names.lookup x = some .local := by first | exact .inl rfl | exact .inr rfl | assumption) : PSZ X G (.Assign [.Name x p] a pos) (setZ i fa) := Vz (fun _ h => Jb hN hi hx h hs hf) ha
end
section
variable {mg : Str → Option Value} {x : Str} {st : Stmt} {ps : List Str} {P : Program} {w : World} {G : Gx} {base : Heap} {N : List Str} {k : Nat} {b : FS}
theorem fnZ (d : Dx G.K mg x st ps) (S : FnScope N ps (Ab st))
  (hb : ∀ (cdv : Value) (A : Around) (outer : List Env) (s : Shared) (H : Hp) (E : XK), Room k (A.deeper (envOfC x (Ab st) s.heap.objs.size d.f cdv)) → PSZs (cxOf (CX1 P w) P w G.K mg base N x (Ab st) d.f cdv A outer s H E) G (CP st) b) (hl : ps.length ≤ N.length := by decide) :
  FnOk P w G.K mg base (CX1 P w) (k + 1) d.f d.fd ps (spZ G (runF N.length ps.length b)) := Z0 d.F S hl hb
end
end PV
namespace PV
open PySem PySem.Spec L2 EX
open PyProof.Rows hiding St
def gx2 (K : PySem.W.Frag) (cn : Str) (C : Addr) (l : List (Str × Addr)) : Gx := { K := K, cl := fun c => if c = cn then some C else none, xcl := fun c => l.lookup c }
section
variable {K : PySem.W.Frag} {h : Heap} {mg : Str → Option Value} {x qual cn m : Str} {st : Stmt} {ps : List Str} {f C R : Addr} {oc : Value} {od an : Option Addr} {osl : Array (Option Value)} {dV kV doc pm cdv ct : Value} {l : List (Str × Addr)}
theorem Yt : (gx2 K cn C l).cl cn = some C := if_pos rfl
theorem T4 (X : K.In h) (cl : Cls K C) (n : PySem.W.findIn K (.ref C) x = some none) : ∀ c C', (gx2 K cn C l).cl c = some C' → Cls K C' ∧ Cv K C' x := fun c C' h => by
 unfold gx2 at h
 simp only at h
 split at h
 ·cases h; exact ⟨cl, n⟩
 ·cases h
theorem Li {P : Addr → Prop} : ∀ {l : List (Str × Addr)}, (∀ p ∈ l, P p.2) → ∀ {c : Str} {C : Addr}, l.lookup c = some C → P C
 | [], _, _, _, h => nomatch h
 | (k, v) :: r, hp, c, C, h => by
  simp only [List.lookup] at h
  split at h
  ·cases h; exact hp (k, v) List.mem_cons_self
  ·exact Li (fun p hm => hp p (List.mem_cons_of_mem _ hm)) h
theorem Yu {cs : List Str} (X : K.In h) (hp : ∀ p ∈ l, XC K p.2 R ∧ XK2 K p.2) : XT (gx2 K cn C l) cs R := ⟨fun c C' _ g => (Li (P := fun C => XC K C R ∧ XK2 K C) hp g).1, fun c C' _ g => (Li (P := fun C => XC K C R ∧ XK2 K C) hp g).2⟩
theorem Yv {cs : List Str} (X : K.In h) (hp : ∀ p ∈ l, PySem.W.findIn K (.ref p.2) x = some none) : ∀ c C', cs.contains c = true → (gx2 K cn C l).xcl c = some C' → Cv (gx2 K cn C l).K C' x := fun c C' _ g => Li (P := fun C => PySem.W.findIn K (.ref C) x = some none) hp g
def kx2 {g : Addr} {n : Nat} {its : Array Value} {xs : List Str} (X : K.In h) (N : h.Ns mainGlobals mg) (a : PySem.W.nsIn K mainGlobals x = some (some (.ref g))) (lk : K.lookup g = some ⟨.type "tuple", od, .seq its n, osl⟩) (hz : its.size ≤ sizeLine) (r : Vals (xs.map V.str) its.toList) : Kx (gx2 K cn C l) mg x (.tup (xs.map .str)) := ⟨g, PySem.W.mg_of X N a, Kq lk hz r⟩
def mx (X : K.In h) (a : PySem.W.findIn K (.ref C) m = some (some (.ref f))) (i : PySem.W.isFn K (.ref f) = true) (lk : K.lookup f = some ⟨oc, od, .func (PySem.W.fnOf m qual (Cy st) (CP st) (Ab st) .none kV doc pm an cdv ct), osl⟩) (c : PySem.W.codeIn K cdv qual = true) (k : PySem.W.keepIn K (.ref f) = true)
  (b : ∀ (kV doc pm : Value) (an : Option Addr) (cdv ct : Value) (us : List Value), us.length = ps.length → bindArgs (PySem.W.fnOf m qual (Cy st) (CP st) (Ab st) .none kV doc pm an cdv ct) ⟨us, []⟩ = pure (ps.zip us)) : Mx K C m qual st ps := ⟨f, _, Hj lk c k, (Hj lk c k).binds b, a, i, k⟩
def rx (X : K.In h) (N : h.Ns mainGlobals mg) (a : PySem.W.nsIn K mainGlobals x = some (some (.ref R))) (e : excX K R = true) (h1 : PySem.W.specialIn K (.ref R) "__getattribute__" = some (some (.builtin "type.__getattribute__"))) (h2 : PySem.W.readsIn K R (.type "type") = true)
  (h3 : PySem.W.findCls K (.ref R) (.type "type") "__init__" = some (.val (.builtin "ValueError.__init__"))) : Rx K mg x := ⟨R, PySem.W.mg_of X N a, e, h1, h2, h3⟩
def xx {fn : Str} {fi : Addr} (X : K.In h) (N : h.Ns mainGlobals mg) (a : PySem.W.nsIn K mainGlobals x = some (some (.ref f))) (g : l.lookup x = some f) (xc : XC K f R) (hi : PySem.W.findIn K (.ref f) "__init__" = some (some (.ref fi))) (i : PySem.W.isFn K (.ref fi) = true) (kp : PySem.W.keepIn K (.ref f) = true) (na : PySem.W.findIn K (.ref f) fn = some none)
  (lk : K.lookup fi = some ⟨oc, od, .func (PySem.W.fnOf "__init__" qual (Cy st) (CP st) (Ab st) .none kV doc pm an cdv ct), osl⟩) (c : PySem.W.codeIn K cdv qual = true) (k : PySem.W.keepIn K (.ref fi) = true)
  (b : ∀ (kV doc pm : Value) (an : Option Addr) (cdv ct : Value) (us : List Value), us.length = ps.length → bindArgs (PySem.W.fnOf "__init__" qual (Cy st) (CP st) (Ab st) .none kV doc pm an cdv ct) ⟨us, []⟩ = pure (ps.zip us)) : Xx (gx2 K cn C l) mg R x fn qual st ps := ⟨f, fi, _, g, xc, hi, i, kp, na, PySem.W.mg_of X N a, Hj lk c k, (Hj lk c k).binds b⟩
end
end PV
namespace PV
open PySem PySem.Spec L2
open PyProof.Rows hiding St
section
variable {X : Cx} {G : Gx} {b : Expr} {fb : FE} {pos p1 : Pos} {es : List Expr} {fs : FA}
end
end PV
namespace PV
open PySem PySem.Spec L2 EX
open PyProof.Rows hiding St
def XWS (G : Gx) (x : Addr) (A : List Addr) (H : Hp) (d so' : D) (E : XK) : Prop := ∀ c gs, excOf d = some (c, gs) → ∀ e T H1 H', JF x H H1 → Top G A H1 x so' → Exc G H1 H' e (some T) c gs → E (.ref e) none H'
def spSZ (G : Gx) (g : List D → Option (D × D)) : Sp := fun vs H Q E => ∃ A x vs' so ds d so', vs = .ref x :: vs' ∧ (∀ a ∈ A, Nt (H a)) ∧ x ∈ A ∧ Top G A H x so ∧ RepL G (hid A H) vs' ds ∧ g (so :: ds) = some (d, so') ∧
 (∀ v H', JF x H H' → Top G A H' x so' → Rep G (hid A H') v d → Q v H') ∧ XWS G x A H d so' E
theorem Exc.lend {G : Gx} {x : Addr} {He H : Hp} {e : Addr} {tb : Option Addr} {c : Str} {gs : List (Str × D)} (y : Exc G He H e tb c gs) : Exc (G.lend x) He H e tb c gs := ⟨y.ex, y.same, y.new, y.tbk⟩
theorem Exc.unlend {G : Gx} {x : Addr} {He H : Hp} {e : Addr} {tb : Option Addr} {c : Str} {gs : List (Str × D)} (y : Exc (G.lend x) He H e tb c gs) : Exc G He H e tb c gs := ⟨y.ex, y.same, y.new, y.tbk⟩
theorem Cm {P : Program} {w : World} {K : PySem.W.Frag} {mg : Str → Option Value} {base : Heap} {CX : CXT} {k : Nat} {f : Addr} {fd : FuncData} {ps : List Str} {G : Gx} {g : List D → Option (D × D)} {y : Addr} (F : FnOk P w K mg base CX k f fd ps (spSZ G g)) : FnOk P w K mg base CX k f fd ps (spSZ (G.lend y) g) :=
 F.imp fun vs H Q E ⟨A, x, vs', so, ds, d, so', e0, lv, hx, t, r, e, q, qx⟩ => ⟨A, x, vs', so, ds, d, so', e0, lv, hx, t.unlend, r.unlend, e, fun v H' s t' r' => q v H' s t'.lend r'.lend, fun c gs z e T H1 H' sx t' y => qx c gs z e T H1 H' sx t'.lend y.lend⟩
theorem Qs {P : Program} {w : World} {K : PySem.W.Frag} {mg : Str → Option Value} {base : Heap} {CX : CXT} {k : Nat} {f : Addr} {fd : FuncData} {ps : List Str} {G : Gx} : FnOk P w K mg base CX k f fd ps (spSZ G fun _ => none) :=
 ⟨fun vs H Q E ⟨_, _, _, _, _, _, _, _, _, _, _, _, e, _⟩ => (nomatch e), fun A outer s H args us vs Q E hr he hb hv ⟨_, _, _, _, _, _, _, _, _, _, _, _, e, _⟩ => nomatch e⟩
def Xx.lend {G : Gx} {mg : Str → Option Value} {R y : Addr} {cn f qual : Str} {st : Stmt} {ps : List Str} (x : Xx G mg R cn f qual st ps) : Xx (G.lend y) mg R cn f qual st ps := ⟨x.C, x.fi, x.fd, x.g, x.xc, x.hi, x.hf, x.kp, x.na, x.m, x.F, x.B⟩
theorem WD {P : Program} {w : World} {G : Gx} {mg : Str → Option Value} {base : Heap} {N : List Str} {qual : Str} {scope : Scope} {f : Addr} {cd : Value} {A : Around} {outer : List Env} {s : Shared} {H : Hp} {E : XK} {A1 : List Addr} {x : Addr} {d so' : D} {ρ : Rho} (h : XWS G x A1 H d so' E) (he : endS d ρ = some (d, so')) :
  RzO (cxOf (CX1 P w) P w G.K mg base N qual scope f cd A outer s H E) (G.lend x) (A1.filter fun b => decide (b ≠ x)) (hid [x] H) d ρ := fun c gs z pins σ H1 H2 s2 e tb I ⟨A2, ok⟩ y => by
 show wpAny _ _ (leaving _ _) _ _ _
 unfold leaving
 refine wpAny_bind (Jy (G := G.lend x) (X := cxOf (CX1 P w) P w G.K mg base N qual scope f cd A outer s H E) rfl rfl I y fun T H' s' I' y' => ?_)
 obtain ⟨_, h0⟩ := HB he
 obtain ⟨a, q1, q2, q3⟩ := ok.ok.ow 0 so' h0
 rw [ok.lt x so' rfl h0] at q1
 cases q1
 have sub : ∀ a ∈ A1, a ∈ A2 := fun a ha => by
  by_cases z : a = x
  ·rw [z]; exact q2
  ·exact ok.sub a (by simp [List.mem_filter, ha, z])
 exact ⟨e, H', rfl, I'.os, I'.bare, I'.base, I'.hok, h c gs z e T H1 H' (fun b o hb ho => ok.same b o (by rw [Cu (by simpa using hb)]; exact ho)) (q3.unlend.sub sub) y'.unlend⟩
theorem J1 {P : Program} {w : World} {G : Gx} {mg : Str → Option Value} {base : Heap} {x qual : Str} {st : Stmt} {f : Addr} {fd : FuncData} {N ps : List Str} {k : Nat} {b : FS} (F : FunD G.K x qual st f fd) (S : FnScope N ps (Ab st)) (hl : ps.length ≤ N.length)
  (hb : ∀ (y : Addr) (cdv : Value) (A : Around) (outer : List Env) (s : Shared) (H : Hp) (E : XK), Room k (A.deeper (envOfC qual (Ab st) s.heap.objs.size f cdv)) → PSZs (cxOf (CX1 P w) P w G.K mg base N qual (Ab st) f cdv A outer s H E) (G.lend y) (CP st) b) :
  FnOk P w G.K mg base (CX1 P w) (k + 1) f fd ps (spSZ G (runS N.length ps.length b)) := by
 obtain ⟨oc, od, dV, kV, doc, pm, an, cdv, ct, osl, rfl, lk, hcd⟩ := F.ex
 refine Ow lk hcd S (fun vs H Q E h => ?_) (fun A outer s H vs Q E hr h => ?_)
 ·obtain ⟨A, x, vs', so, ds, d, so', rfl, lv, hx, t, r, e, _⟩ := h
  unfold runS at e
  split at e
  ·rename_i hz; rw [List.length_cons, r.1]; exact hz
  ·cases e
 ·obtain ⟨A1, x, vs', so, ds, d, so', rfl, lv, hx, t, r, e, k, kx⟩ := h
  unfold runS at e
  split at e
  ·rename_i hz
   have hzz := hb x cdv A outer s H E hr
   refine ⟨_, @hzz (A1.filter fun b => decide (b ≠ x)) (hid [x] H), GC N.length (so :: ds), ?_⟩
   have fin : ∀ (σ' : St) (H' : Hp) (A2 : List Addr) (ρ : Rho) (v : V) (d2 : D), OkW (G.lend x) (A1.filter fun b => decide (b ≠ x)) (hid [x] H) A2 σ' H' ρ → Rep (G.lend x) (hid A2 H') v d2 → endS d2 ρ = some (d, so') → Q v H' := fun σ' H' A2 ρ v d2 w rv he => by
    obtain ⟨rfl, h0⟩ := HB he
    obtain ⟨a, q1, q2, q3⟩ := w.ok.ow 0 so' h0
    rw [w.lt x so' rfl h0] at q1
    cases q1
    have sub : ∀ a ∈ A1, a ∈ A2 := fun a ha => by
     by_cases z : a = x
     ·rw [z]; exact q2
     ·exact w.sub a (by simp [List.mem_filter, ha, z])
    exact k v H' (fun b o hb ho => w.same b o (by rw [Cu (by simpa using hb)]; exact ho)) (q3.unlend.sub sub) (rv.unlend.mono (Df sub))
   cases e1 : b (GC N.length (so :: ds)) with
   | none => simp [e1] at e
   | some o =>
    refine ⟨o, ⟨_, Ku lv hx t r (by rw [r.1]; simp at hz; omega)⟩, rfl, ?_⟩
    cases o with
    | nx ρ =>
     simp only [e1] at e
     exact ⟨fun σ H' ⟨A, w⟩ => fin σ H' A ρ .non .non w .non e, trivial⟩
    | rt d' ρ' =>
     simp only [e1] at e
     obtain ⟨ed, _⟩ := HB e
     subst ed
     exact ⟨fun v σ H' A w r' => fin σ H' A ρ' v d w r' e, WD kx e⟩
    | bk ρ => simp [e1] at e
    | ct ρ => simp [e1] at e
  ·cases e
def tXZ (X : Cx) (G : Gx) (A0 : List Addr) (He : Hp) (h : FZ) : TE := fun σ H Q => ∃ ρ d ρ' A, OkW G A0 He A σ H ρ ∧ h ρ = some (d, ρ') ∧ (∀ v H' A', OkW G A0 He A' σ H' ρ' → Same (hid A H) (hid A' H') → Rep G (hid A' H') v d → Q v H') ∧ RzO X G A0 He d ρ'
def PXZ (X : Cx) (G : Gx) (e : Expr) (h : FZ) : Prop := ∀ ⦃A0⦄ He, PE X e (tXZ X G A0 He h)
def excL (ds : List D) : Option (Str × List (Str × D)) := ds.findSome? excOf
def tXAZ (X : Cx) (G : Gx) (A0 : List Addr) (He : Hp) (h : FZA) : TA := fun σ H Q => ∃ ρ ds ρ' A, OkW G A0 He A σ H ρ ∧ h ρ = some (ds, ρ') ∧ (∀ vs H' A', OkW G A0 He A' σ H' ρ' → Same (hid A H) (hid A' H') → RepL G (hid A' H') vs ds → Q vs H') ∧ ∀ c gs, excL ds = some (c, gs) → Rz X G A0 He c gs ρ'
def PXAZ (X : Cx) (G : Gx) (es : List Expr) (h : FZA) : Prop := ∀ ⦃A0⦄ He, PA X es (tXAZ X G A0 He h)
def Ea (h : FZ) : FS := fun ρ => (h ρ).map fun r => match excOf r.1 with | some _ => .rt r.1 r.2 | none => .nx r.2
def HX (i : Nat) (h : FZ) : FS := fun ρ => (h ρ).map fun r => match excOf r.1 with | some _ => .rt r.1 r.2 | none => .nx (r.2.set i (.fz r.1))
def Kw (h : FZA) : FZ := fun ρ => (h ρ).bind fun r => match excL r.1 with | some q => some (.exc q.1 q.2, r.2) | none => if r.1.length ≤ sizeLine then some (.tup r.1, r.2) else none
section
variable {X : Cx} {G : Gx} {a b c : Expr} {fa fb fc : FE} {pos p2 px rp p apos : Pos} {es : List Expr} {fs : FA} {h : FZ} {hs : FZA} {A0 : List Addr} {He : Hp}
theorem PX.x (ha : PX X G a h) : PXZ X G a h := fun A0 He pins s σ H Q I ⟨ρ, d, ρ', A, w, e, k, _⟩ => @ha A0 He pins s σ H Q I ⟨ρ, d, ρ', A, w, e, k⟩
theorem Gp (ha : PXZ X G a h) : PSZ X G (.Return (some a) pos) (retX h) := fun A0 He pins s σ H D I ⟨ρ, o, ⟨A, w⟩, e, k, kx⟩ => by
 refine Q0 (@ha A0 He) pins s σ H D I ?_
 unfold retX at e
 cases e1 : h ρ with
 | none => simp [e1] at e
 | some r =>
  simp only [e1, Option.map_some] at e
  cases e
  exact ⟨ρ, _, _, A, w, e1, fun v H' A' w' sm rv => k v σ H' A' w' rv, kx⟩
theorem DY (ha : PXZ X G a h) (hs : swapsWith a none pos.line X.env = pure false := by rfl) : PSZ X G (.Expr a pos) (Ea h) := fun A0 He pins s σ H D I ⟨ρ, o, ⟨A, w⟩, e, k, kx⟩ => by
 refine Oj (@ha A0 He) hs pins s σ H D I ?_
 unfold Ea at e
 cases e1 : h ρ with
 | none => simp [e1] at e
 | some r =>
  simp only [e1, Option.map_some] at e
  cases e2 : excOf r.1 with
  | none =>
   simp only [e2] at e
   cases e
   exact ⟨ρ, _, _, A, w, e1, fun v H' A' w' sm rv => k _ _ ⟨A', w'⟩, fun c gs z => by rw [e2] at z; cases z⟩
  | some q =>
   simp only [e2] at e
   cases e
   exact ⟨ρ, _, _, A, w, e1, fun v H' A' w' sm rv => absurd e2 (by rw [Il rv]; simp), kx⟩
theorem WF {i : Nat} {x : Str} (hp : ∀ te, PE X a te → PS X (.Assign [.Name x p] a pos) (tAsg te (Gw i))) (ha : PXZ X G a h) : PSZ X G (.Assign [.Name x p] a pos) (HX i h) := fun A0 He pins s σ H D I ⟨ρ, o, ⟨A, w⟩, e, k, kx⟩ => by
 refine hp _ (@ha A0 He) pins s σ H D I ?_
 unfold HX at e
 cases e1 : h ρ with
 | none => simp [e1] at e
 | some r =>
  simp only [e1, Option.map_some] at e
  cases e2 : excOf r.1 with
  | none =>
   simp only [e2] at e
   cases e
   exact ⟨ρ, _, _, A, w, e1, fun v H' A' w' sm rv => k _ _ ⟨A', w'.set rv i⟩, fun c gs z => by rw [e2] at z; cases z⟩
  | some q =>
   simp only [e2] at e
   cases e
   exact ⟨ρ, _, _, A, w, e1, fun v H' A' w' sm rv => absurd e2 (by rw [Il rv]; simp), kx⟩
theorem Im (ha : PXZ X G a h) (hst : starEach [a] X.env = [(false, eval a X.env)] := by rfl) : PXAZ X G [a] (Km h) := fun A0 He pos pins s σ H Q I ⟨ρ, ds, ρ', A, w, e, k, kx⟩ => by
 refine Dw (@ha A0 He) Hh hst pos pins s σ H Q I ?_
 unfold Km at e
 cases e1 : h ρ with
 | none => simp [e1] at e
 | some r =>
  simp only [e1, Option.map_some] at e
  cases e
  exact ⟨ρ, _, _, A, w, e1, fun v H' A' w' sm rv => k _ _ A' w' sm (.cons rv .nil), fun c gs z => kx c gs (by unfold excL; rw [List.findSome?_cons, z])⟩
theorem Ge (ha : PF X G a fa) (hr : PXAZ X G es hs) (hst : starEach (a :: es) X.env = (false, eval a X.env) :: starEach es X.env := by rfl) : PXAZ X G (a :: es) (JB fa hs) := fun A0 He pos pins s σ H Q I ⟨ρ, ds, ρ', A, w, e, k, kx⟩ => by
 refine Dw (@ha A) (@hr A0 He) hst pos pins s σ H Q I ?_
 unfold JB at e
 cases e1 : fa ρ with
 | none => simp [e1] at e
 | some d =>
  cases e2 : hs ρ with
  | none => simp [e1, e2] at e
  | some r =>
   simp only [e1, e2, Option.bind_some, Option.map_some] at e
   cases e
   refine ⟨ρ, d, w.ok, e1, fun v H1 s1 r1 => ⟨ρ, r.1, _, A, w.mono s1, e2, fun vs H2 A2 w2 sm rv => k _ _ A2 w2 ((CZ s1).trans sm) (.cons (r1.mono sm) rv), fun c gs z => kx c gs (by unfold excL; rw [List.findSome?_cons, Il r1]; exact z)⟩⟩
theorem T5 {H : Hp} {vs : List V} {ds : List D} (r : RepL G H vs ds) : excL ds = none := by
 unfold excL
 rw [List.findSome?_eq_none_iff]
 intro d hd
 obtain ⟨i, hi⟩ := List.getElem?_of_mem hd
 obtain ⟨x, _, rx⟩ := r.get hi
 exact Il rx
theorem Lj {x1} (ha : PXAZ X G es hs) : PXZ X G (.Tuple es x1 pos) (Kw hs) := fun A0 He pins s σ H Q I ⟨ρ, d, ρ', A, w, e, k, kx⟩ => by
 refine Q_ (@ha A0 He) pins s σ H Q I ?_
 unfold Kw at e
 cases e1 : hs ρ with
 | none => simp [e1] at e
 | some r =>
  simp only [e1, Option.bind_some] at e
  cases e2 : excL r.1 with
  | some q =>
   simp only [e2] at e
   cases e
   refine ⟨ρ, r.1, _, A, w, e1, fun vs H1 A1 w1 sm rv => absurd e2 (by rw [T5 rv]; simp), fun c gs z => ?_⟩
   rw [e2] at z
   cases z
   exact kx c gs rfl
  | none =>
   simp only [e2] at e
   split at e
   ·rename_i hz
    cases e
    refine ⟨ρ, r.1, _, A, w, e1, fun vs H1 A1 w1 sm rv => ⟨by rw [rv.1]; exact hz, fun p hp => ?_⟩, fun c gs z => by rw [e2] at z; cases z⟩
    exact k _ _ A1 (w1.mono (DQ hp _)) (sm.trans (CZ (DQ hp _))) (G4 w1.ok.live hp rv)
   ·cases e
end
end PV
namespace PV
open PySem PySem.Spec L2 EX
open PyProof.Rows hiding St
section
variable {X : Cx} {k : Nat} {f C : Addr} {fd : FuncData} {ps : List Str} {sp : Sp} {m : Str} {pos apos : Pos} {o : Expr} {ta : TE}
theorem Qt {pl : Sem Bool} (he : PE X o ta) (c : Cls X.K C) (hm : Meth X.K C m f) (F : FnOk X.prog X.w X.K X.mg X.base (CX1 X.prog X.w) k f fd ps sp) (hr : Room k X.A) (hb : Binds X.K fd ps [])
  (ht : eval (.Call (.Attribute o m apos) [] [] pos) X.env = (do
   let ov ← eval o X.env
   standAt apos.atName
   let (f, first) ← holding [ov] (getMethod ov m pl)
   callWith pos f first (backTo pos (starEach [] X.env)) (backToKw pos (keywordEach [] X.env))) := by rfl) :
  PE X (.Call (.Attribute o m apos) [] [] pos) (Tj X C m sp ta tNil) := by
 intro pins s σ H Q I h
 refine PySem.W.methodCall_KW (pl := pl) (thn (he pins s σ H _ I h) fun u s1 ⟨y, H1, I1, ry, a, dx, fs, ey, ea, l, q⟩ => ?_) ht
 subst ey
 obtain rfl : u = Value.ref a := ry
 exact Gi I1 ea c hm l (PySem.W.callWith_K0 (first := [.ref a]) I1.kIn hm.kp (Lg (us := [.ref a]) (vs := [.ref a]) F hr hb I1 (.cons rfl .nil) q))
end
section
variable {X : Cx} {G : Gx} {b : Expr} {rp p pos apos : Pos} {es : List Expr} {fs : FA} {A0 : List Addr} {He : Hp}
theorem Ob {σ : St} {H1 : Hp} {A : List Addr} {ρ : Rho} {d so so' : D} {i : Nat} {y : Addr} (w : OkW G A0 He A σ H1 ρ) (hi : ρ[i]? = some (.ow so)) (h1 : σ[i]? = some (some (.ref y))) (kx : RzO X G A0 He d (ρ.set i (.ow so'))) : XWS G y A H1 d so' (M8 X σ) := fun c gs z e T H2 H' sx t x pins s' I => kx c gs z pins σ H2 H' s' e (some T) I ⟨A, w.wrX hi h1 sx t⟩ x
theorem T6 {k i : Nat} {f : Addr} {fd : FuncData} {ps : List Str} {g : List D → Option (D × D)} {x r : Str} (F : FnOk X.prog X.w X.K X.mg X.base (CX1 X.prog X.w) k f fd ps (spSZ G g)) (hr : Room k X.A) (hg : Gl X x) (hm : X.mg x = some (.ref f)) (hk : PySem.W.keepIn X.K (.ref f) = true)
  (hb : Binds X.K fd ps []) (hv : PE X (.Name r rp) (tVar i)) (ha : PFA X G es fs) (hdb : (x == ("__debug__" : Str)) = false := by decide) (he : starEach (.Name r rp :: es) X.env = (false, eval (.Name r rp) X.env) :: starEach es X.env := by rfl) (hpl : (backTo pos (starEach es X.env)).any (·.1) = false := by rfl) :
  PXZ X G (.Call (.Name x p) (.Name r rp :: es) [] pos) (GK g i fs) := fun A0 He pins s σ H Q I ⟨ρ, d, ρ', A, w, e, k, kx⟩ => by
 refine M9 F hr hg hm hk hb (Dw hv (@ha A) he) hdb he hpl pins s σ H Q I ?_
 unfold GK at e
 cases e1 : fs ρ with
 | none => simp [e1] at e
 | some ds =>
  cases e2 : ownO ρ i with
  | none => simp [e1, e2] at e
  | some so =>
   cases e3 : g (so :: ds) with
   | none => simp [e1, e2, e3] at e
   | some r =>
    simp only [e1, e2, e3, Option.bind_some, Option.map_some] at e
    cases e
    have hi := GZ e2
    obtain ⟨y, h1, hA, t⟩ := w.ok.ow i so hi
    refine ⟨_, h1, ρ, ds, w.ok, e1, fun vs H1 s1 r1 => ?_⟩
    exact ⟨A, y, vs, so, ds, r.1, r.2, rfl, (w.mono s1).ok.live, hA, t.mono s1, r1, e3, fun v H' sx t' rv => k v H' A ((w.mono s1).wrX hi h1 sx t') ((CZ s1).trans (Dr hA sx)) rv, Ob (w.mono s1) hi h1 kx⟩
theorem J2 {c m : Str} {g : List D → Option (D × D)} {i : Nat} {ρ ρ' : Rho} {d : D} (e : DP c m g i fs ρ = some (d, ρ')) : ∃ so ds so', ρ[i]? = some (.ow so) ∧ isOb c m so = true ∧ fs ρ = some ds ∧ g (so :: ds) = some (d, so') ∧ ρ' = ρ.set i (.ow so') := by
 unfold DP at e
 cases e2 : ownO ρ i with
 | none => simp [e2] at e
 | some so =>
  simp only [e2, Option.bind_some] at e
  split at e
  ·rename_i ho
   cases e1 : fs ρ with
   | none => simp [e1] at e
   | some ds =>
    cases e3 : g (so :: ds) with
    | none => simp [e1, e3] at e
    | some r =>
     simp only [e1, e3, Option.bind_some, Option.map_some] at e
     cases e
     exact ⟨so, ds, r.2, GZ e2, ho, rfl, e3, rfl⟩
  ·cases e
theorem T7 {pl : Sem Bool} {k i : Nat} {f C : Addr} {fd : FuncData} {ps : List Str} {g : List D → Option (D × D)} {cn m r : Str} (hcl : G.cl cn = some C) (hc : Cls X.K C) (hme : Meth X.K C m f) (F : FnOk X.prog X.w X.K X.mg X.base (CX1 X.prog X.w) k f fd ps (spSZ G g)) (hr : Room k X.A)
  (hb : Binds X.K fd ps []) (hv : PE X (.Name r rp) (tVar i)) (ha : PFA X G (b :: es) fs) (hst : starEach (b :: es) X.env = (false, eval b X.env) :: starEach es X.env := by rfl) (hpl : (backTo pos (starEach es X.env)).any (·.1) = false := by rfl)
  (ht : eval (.Call (.Attribute (.Name r rp) m apos) (b :: es) [] pos) X.env = (do
   let ov ← eval (.Name r rp) X.env
   standAt apos.atName
   let (f, first) ← holding [ov] (getMethod ov m pl)
   callWith pos f first (backTo pos (starEach (b :: es) X.env)) (backToKw pos (keywordEach [] X.env))) := by rfl) :
  PXZ X G (.Call (.Attribute (.Name r rp) m apos) (b :: es) [] pos) (DP cn m g i fs) := fun A0 He pins s σ H Q I ⟨ρ, d, ρ', A, w, e, k, kx⟩ => by
 refine Tn (pl := pl) hv hc hme F hr hb (@ha A) hst hpl ht pins s σ H Q I ?_
 obtain ⟨so, ds, so', hi, ho, e1, e3, rfl⟩ := J2 e
 obtain ⟨y, h1, hA, t⟩ := w.ok.ow i so hi
 obtain ⟨dx, xs, q1, q2⟩ := G6 hcl ho t
 refine ⟨_, h1, y, dx, xs, rfl, q1, q2, ρ, ds, w.ok, e1, fun vs H1 s1 r1 => ?_⟩
 exact ⟨A, y, vs, so, ds, d, so', rfl, (w.mono s1).ok.live, hA, t.mono s1, r1, e3, fun v H' sx t' rv => k v H' A ((w.mono s1).wrX hi h1 sx t') ((CZ s1).trans (Dr hA sx)) rv, Ob (w.mono s1) hi h1 kx⟩
theorem Qu {pl : Sem Bool} {k i : Nat} {f C : Addr} {fd : FuncData} {ps : List Str} {g : List D → Option (D × D)} {cn m r : Str} (hcl : G.cl cn = some C) (hc : Cls X.K C) (hme : Meth X.K C m f) (F : FnOk X.prog X.w X.K X.mg X.base (CX1 X.prog X.w) k f fd ps (spSZ G g)) (hr : Room k X.A)
  (hb : Binds X.K fd ps []) (hv : PE X (.Name r rp) (tVar i))
  (ht : eval (.Call (.Attribute (.Name r rp) m apos) [] [] pos) X.env = (do
   let ov ← eval (.Name r rp) X.env
   standAt apos.atName
   let (f, first) ← holding [ov] (getMethod ov m pl)
   callWith pos f first (backTo pos (starEach [] X.env)) (backToKw pos (keywordEach [] X.env))) := by rfl) :
  PXZ X G (.Call (.Attribute (.Name r rp) m apos) [] [] pos) (DP cn m g i nilA) := fun A0 He pins s σ H Q I ⟨ρ, d, ρ', A, w, e, k, kx⟩ => by
 refine Qt (pl := pl) hv hc hme F hr hb ht pins s σ H Q I ?_
 obtain ⟨so, ds, so', hi, ho, e1, e3, rfl⟩ := J2 e
 cases e1
 obtain ⟨y, h1, hA, t⟩ := w.ok.ow i so hi
 obtain ⟨dx, xs, q1, q2⟩ := G6 hcl ho t
 refine ⟨_, h1, y, dx, xs, rfl, q1, q2, ?_⟩
 exact ⟨A, y, [], so, [], d, so', rfl, w.ok.live, hA, t, .nil, e3, fun v H' sx t' rv => k v H' A (w.wrX hi h1 sx t') (Dr hA sx) rv, Ob w hi h1 kx⟩
end
end PV
namespace PV
open PySem PySem.Spec L2 EX
open PyProof.Rows hiding St
section
variable {P : Program} {w : World} {K : PySem.W.Frag} {mg : Str → Option Value} {base : Heap} {k : Nat} {f : Addr} {fd : FuncData} {ps : List Str} {G : Gx} {sp sp' : Sp}
end
section
variable {X : Cx} {G : Gx} {a b : Expr} {es : List Expr} {fs : FA} {rp p pos apos : Pos} {h : FZ}
theorem fXZ {k k' i : Nat} {x r : Str} {st : Stmt} {ps : List Str} {d : Dx X.K X.mg x st ps} {g : List D → Option (D × D)} (F : FnOk X.prog X.w X.K X.mg X.base (CX1 X.prog X.w) k d.f d.fd ps (spSZ G g)) (hr : Room k' X.A) (hv : PE X (.Name r rp) (tVar i)) (ha : PFA X G es fs) (hle : k ≤ k' := by omega) (hg : Gl X x := by rfl) (hdb : (x == ("__debug__" : Str)) = false := by decide)
  (he : starEach (.Name r rp :: es) X.env = (false, eval (.Name r rp) X.env) :: starEach es X.env := by rfl) (hpl : (backTo pos (starEach es X.env)).any (·.1) = false := by rfl) : PXZ X G (.Call (.Name x p) (.Name r rp :: es) [] pos) (GK g i fs) := T6 F (hr.mono hle) hg d.m d.F.kp d.B hv ha hdb he hpl
theorem mXZ {k k' i : Nat} {C : Addr} {c m qual r : Str} {st : Stmt} {ps : List Str} {d : Mx X.K C m qual st ps} {g : List D → Option (D × D)} {pl : Sem Bool} (hc : G.cl c = some C) (cl : Cls X.K C) (F : FnOk X.prog X.w X.K X.mg X.base (CX1 X.prog X.w) k d.f d.fd ps (spSZ G g)) (hr : Room k' X.A) (hv : PE X (.Name r rp) (tVar i)) (ha : PFA X G (b :: es) fs) (hle : k ≤ k' := by omega)
  (hst : starEach (b :: es) X.env = (false, eval b X.env) :: starEach es X.env := by rfl) (hpl : (backTo pos (starEach es X.env)).any (·.1) = false := by rfl)
  (ht : eval (.Call (.Attribute (.Name r rp) m apos) (b :: es) [] pos) X.env = (do
   let ov ← eval (.Name r rp) X.env
   standAt apos.atName
   let (f, first) ← holding [ov] (getMethod ov m pl)
   callWith pos f first (backTo pos (starEach (b :: es) X.env)) (backToKw pos (keywordEach [] X.env))) := by rfl) :
  PXZ X G (.Call (.Attribute (.Name r rp) m apos) (b :: es) [] pos) (DP c m g i fs) := T7 hc cl d.me F (hr.mono hle) d.B hv ha hst hpl ht
theorem mXZ0 {k k' i : Nat} {C : Addr} {c m qual r : Str} {st : Stmt} {ps : List Str} {d : Mx X.K C m qual st ps} {g : List D → Option (D × D)} {pl : Sem Bool} (hc : G.cl c = some C) (cl : Cls X.K C) (F : FnOk X.prog X.w X.K X.mg X.base (CX1 X.prog X.w) k d.f d.fd ps (spSZ G g)) (hr : Room k' X.A) (hv : PE X (.Name r rp) (tVar i)) (hle : k ≤ k' := by omega)
  (ht : eval (.Call (.Attribute (.Name r rp) m apos) [] [] pos) X.env = (do
   let ov ← eval (.Name r rp) X.env
   standAt apos.atName
   let (f, first) ← holding [ov] (getMethod ov m pl)
   callWith pos f first (backTo pos (starEach [] X.env)) (backToKw pos (keywordEach [] X.env))) := by rfl) :
  PXZ X G (.Call (.Attribute (.Name r rp) m apos) [] [] pos) (DP c m g i nilA) := Qu hc cl d.me F (hr.mono hle) d.B hv ht
theorem sXZ (hN : X.N.Nodup) (i : Nat) {x : Str} (ha : PXZ X G a h) (hi : X.N[i]? = some x := by rfl) (hx : Loc X.env.scope x := by first | exact Or.inl rfl | exact Or.inr rfl) (hs : swapsWith a (some (.Name x p)) pos.line X.env = pure false := by rfl)
  (hf : X.fn x = true ∨ X.env.scope.names.lookup x = some .local := by first | exact .inl rfl | exact .inr rfl | assumption) : PSZ X G (.Assign [.Name x p] a pos) (HX i h) := WF (fun _ h => Jb hN hi hx h hs hf) ha
end
end PV
namespace PV
open PySem PySem.Spec L2
open PyProof.Rows hiding St
theorem Fun.d {K : PySem.W.Frag} {x qual : Str} {st : Stmt} {f : Addr} {fd : FuncData} (F : Fun K x qual st f fd) : FunD K x qual st f fd := ⟨let ⟨oc, od, kV, q⟩ := F.ex; ⟨oc, od, .none, kV, q⟩, F.kp⟩
end PV
namespace L2
theorem Fun.d {K : PySem.W.Frag} {x qual : PySem.Str} {st : PySem.Stmt} {f : PySem.Addr} {fd : PySem.FuncData} (F : Fun K x qual st f fd) : PV.FunD K x qual st f fd := PV.Fun.d F
end L2
namespace PV
open PySem PySem.Spec L2
section
variable {es l1 l2 : List Expr} {env : Env} {pos : Pos} {a b c : Expr}
theorem JG {k j} : starEach (.Constant k j pos :: es) env = (false, eval (.Constant k j pos) env) :: starEach es env := rfl
theorem Cd {x} : starEach (.Name x pos :: es) env = (false, eval (.Name x pos) env) :: starEach es env := rfl
theorem Hz {o} : starEach (.BinOp a o b pos :: es) env = (false, eval (.BinOp a o b pos) env) :: starEach es env := rfl
theorem T8 : starEach (.IfExp a b c pos :: es) env = (false, eval (.IfExp a b c pos) env) :: starEach es env := rfl
theorem Eb : starEach (.Subscript a b pos :: es) env = (false, eval (.Subscript a b pos) env) :: starEach es env := rfl
end
section
variable {X : Cx} {G : Gx} {es : List Expr} {fs : FA} {pos : Pos}
theorem iS {i j} (h : PFA X G es fs) : PFA X G (.Constant (.str i) j pos :: es) (BR (kF (.str i)) fs) := Bk Hm h JG
theorem iI {i j} (h : PFA X G es fs) : PFA X G (.Constant (.int i) j pos :: es) (BR (kF (.int i)) fs) := Bk K8 h JG
end
section
variable {G : Gx} {mg : Str → Option Value} {cs : List Str} {R : Addr} {cn f qual : Str} {st : Stmt} {ps : List Str}
theorem WK (x : Xx G mg R cn f qual st ps) : ∀ c C, [cn].contains c = true → G.xcl c = some C → ∃ R', EX.XC G.K C R' ∧ (x.C = R' ∨ x.C = C) := fun c C h g => by
 have e : c = cn := by simpa using h
 subst e
 rw [x.g] at g
 cases g
 exact ⟨R, x.xc, .inr rfl⟩
end
end PV
namespace K24
open PySem PySem.Spec L2 PV EX
open PyProof.Rows hiding St
def c_BINDERS : D := (.tup ((["some", "all"] : List Str).map .str))
def c_KEPT_TEXTS : D := (.tup ((["not", "and", "or", "some", "all"] : List Str).map .str))
def Dn : FE := bF ixD (vF 1) (bF modD (bF I_ (vF 2) (kF (.int 2))) (kF (.int 16)))
def HY : FS := seqF (setF 1 (lstF (BR (kF (.str "some ")) (BR (kF (.str "all ")) (BR (kF (.str "not ")) (BR (kF (.str "x")) (BR (kF (.str "y")) (BR (kF (.str "q")) (BR (kF (.str "red(")) (BR (kF (.str "abcdefgh(")) (BR (kF (.str ",")) (BR (kF (.str ")")) (BR (kF (.str "(")) (BR (kF (.str " and ")) (BR (kF (.str " or ")) (BR (kF (.str "=")) (nilA))))))))))))))))) (seqF (setF 1 (bF addD (vF 1) (lstF (BR (kF (.str "x=y")) (BR (kF (.str "o(y)")) (nilA)))))) (retF (bF Hv (kF (.str "")) (HR (seqI (vF 0)) (allT) (Dn)))))
def Eu : List D → Option D := runF 2 1 HY
def Ew (rec_shown : List D → Option D) : FS := seqF (setF 1 (bF ixD (vF 0) (kF (.int 0)))) (seqF (ifS (blF (bF (eqD false) (vF 1) (kF (.str "same")))) (retF (bF Hv (kF (.str "=")) (slF (vF 0) (someO (kF (.int 1))) (noO)))) (nxF)) (seqF (ifS (orT (blF (bF (eqD false) (vF 1) (kF (.str "mark")))) (blF (bF (eqD false) (vF 1) (kF (.str "tie"))))) (retF (bF addD (bF addD (bF addD (bF ixD (vF 0) (kF (.int 1))) (kF (.str "("))) (bF Hv (kF (.str ",")) (slF (vF 0) (someO (kF (.int 2))) (noO)))) (kF (.str ")")))) (nxF)) (seqF (ifS (blF (bF (eqD false) (vF 1) (kF (.str "not")))) (retF (bF addD (kF (.str "not ")) (Ek (rec_shown) (BR (bF ixD (vF 0) (kF (.int 1))) (nilA))))) (nxF)) (seqF (ifS (blF (bF (inD false) (vF 1) (kF c_BINDERS))) (retF (bF addD (bF addD (bF addD (bF addD (vF 1) (kF (.str " "))) (bF ixD (vF 0) (kF (.int 1)))) (kF (.str " "))) (Ek (rec_shown) (BR (bF ixD (vF 0) (kF (.int 2))) (nilA))))) (nxF)) (seqF (setF 2 (ifF (blF (bF (eqD false) (vF 1) (kF (.str "both")))) (kF (.str " and ")) (kF (.str " or ")))) (retF (bF addD (bF addD (bF addD (bF addD (kF (.str "(")) (Ek (rec_shown) (BR (bF ixD (vF 0) (kF (.int 1))) (nilA)))) (vF 2)) (Ek (rec_shown) (BR (bF ixD (vF 0) (kF (.int 2))) (nilA)))) (kF (.str ")")))))))))
def DW : Nat → List D → Option D
 | 0 => fun _ => none
 | n + 1 => runF 3 1 (Ew (DW n))
def Ec : FS := seqF (fldS "line" 0 (vF 1)) (fldS "at" 0 (kF (.int 0)))
def DX : List D → Option (D × D) := runS 2 2 Ec
def Ed : FS := retF (bF (eqD false) (slF (uF (fldD "line") (vF 0)) (someO (uF (fldD "at") (vF 0))) (someO (bF addD (uF (fldD "at") (vF 0)) (uF lenD (vF 1))))) (vF 1))
def BV : List D → Option D := runF 2 2 Ed
def Cp : FS := retF (andF (bF ltD (uF (fldD "at") (vF 0)) (uF lenD (uF (fldD "line") (vF 0)))) (bF (inD false) (bF ixD (uF (fldD "line") (vF 0)) (uF (fldD "at") (vF 0))) (kF (.str "abcdefghijklmnopqrstuvwxyz"))))
def Bp : List D → Option D := runF 1 1 Cp
def Bq : FT := trF (GP "Reader" "is_at_letter" (Bp) 0 (nilA))
def CN : FS := fldS "at" 0 (bF addD (uF (fldD "at") (vU 0)) (kF (.int 1)))
def DR : FS := seqF (setF 1 (uF (fldD "at") (vU 0))) (seqF (FW (Bq) (CN) 3000) (retF (slF (uF (fldD "line") (vU 0)) (someO (vF 1)) (someO (uF (fldD "at") (vU 0))))))
def Cq : List D → Option (D × D) := runS 2 1 DR
def Ex : FS := seqF (ifS (notT (trF (GP "Reader" "is_ahead" (BV) 0 (BR (vF 1) (nilA))))) (retF (excF "NoSaying" "line" okSD (uF (fldD "line") (vU 0)))) (nxF)) (fldS "at" 0 (bF addD (uF (fldD "at") (vU 0)) (uF lenD (vF 1))))
def BW : List D → Option (D × D) := runS 2 2 Ex
def BK (rec_read_saying : List D → Option (D × D)) : FS := seqF (Ea (DP "Reader" "take" (BW) 0 (BR (kF (.str "(")) (nilA)))) (seqF (HX 1 (GK (rec_read_saying) 0 (nilA))) (seqF (setF 2 (ifF (trF (GP "Reader" "is_ahead" (BV) 0 (BR (kF (.str " and ")) (nilA)))) (kF (.str "both")) (kF (.str "either")))) (seqF (Ea (DP "Reader" "take" (BW) 0 (BR (ifF (blF (bF (eqD false) (vF 2) (kF (.str "both")))) (kF (.str " and ")) (kF (.str " or "))) (nilA)))) (seqF (HX 3 (GK (rec_read_saying) 0 (nilA))) (seqF (Ea (DP "Reader" "take" (BW) 0 (BR (kF (.str ")")) (nilA)))) (retF (tupF (BR (vF 2) (BR (vF 1) (BR (vF 3) (nilA)))))))))))
def Ak (rec_read_saying : List D → Option (D × D)) : List D → Option (D × D) := runS 4 1 (BK rec_read_saying)
def DK : FS := seqF (ifS (notT (trF (GP "Reader" "is_at_letter" (Bp) 0 (nilA)))) (retF (excF "NoSaying" "line" okSD (uF (fldD "line") (vU 0)))) (nxF)) (seqF (fldS "at" 0 (bF addD (uF (fldD "at") (vU 0)) (kF (.int 1)))) (retF (bF ixD (uF (fldD "line") (vU 0)) (bF subD (uF (fldD "at") (vU 0)) (kF (.int 1))))))
def Bv : List D → Option (D × D) := runS 1 1 DK
def Ez : FE := bF (inF false) (vF 1) (kF (.str "abcdefghijklmnopqrstuvwxyz"))
def FQ : FS := seqF (ifS (orT (blF (bF (inF false) (vF 0) (kF c_KEPT_TEXTS))) (orT (blF (bF (eqD false) (uF lenE (vF 0)) (kF (.int 0)))) (blF (bF gtD (uF lenE (vF 0)) (kF (.int 8)))))) (retF (kF (.bl false))) (nxF)) (retF (uF allD (HR (seqA (vF 0)) (allT) (Ez))))
def Ds : List D → Option D := runF 1 1 FQ
def Bo : FS := seqF (ifS (notT (trF (Ek (Ds) (BR (vF 1) (nilA))))) (retF (excF "NoSaying" "line" okSD (uF (fldD "line") (vU 0)))) (nxF)) (seqF (Ea (DP "Reader" "take" (BW) 0 (BR (kF (.str "(")) (nilA)))) (seqF (HX 2 (DP "Reader" "take_name" (Bv) 0 (nilA))) (seqF (ifS (trF (GP "Reader" "is_ahead" (BV) 0 (BR (kF (.str ")")) (nilA)))) (seqF (Ea (DP "Reader" "take" (BW) 0 (BR (kF (.str ")")) (nilA)))) (retF (tupF (BR (kF (.str "mark")) (BR (vF 1) (BR (vF 2) (nilA))))))) (nxF)) (seqF (Ea (DP "Reader" "take" (BW) 0 (BR (kF (.str ",")) (nilA)))) (seqF (HX 3 (DP "Reader" "take_name" (Bv) 0 (nilA))) (seqF (Ea (DP "Reader" "take" (BW) 0 (BR (kF (.str ")")) (nilA)))) (retF (tupF (BR (kF (.str "tie")) (BR (vF 1) (BR (vF 2) (BR (vF 3) (nilA)))))))))))))
def BX : List D → Option (D × D) := runS 4 2 Bo
def Dt : FS := seqF (ifS (blF (bF (eqD true) (uF lenD (vF 1)) (kF (.int 1)))) (retF (excF "NoSaying" "line" okSD (uF (fldD "line") (vU 0)))) (nxF)) (seqF (Ea (DP "Reader" "take" (BW) 0 (BR (kF (.str "=")) (nilA)))) (retX (Kw (JB (kF (.str "same")) (JB (vF 1) (Km (DP "Reader" "take_name" (Bv) 0 (nilA))))))))
def C_ : List D → Option (D × D) := runS 2 2 Dt
def CK (rec_read_saying : List D → Option (D × D)) : FS := seqF (Ea (DP "Reader" "take" (BW) 0 (BR (kF (.str " ")) (nilA)))) (seqF (HX 2 (DP "Reader" "take_name" (Bv) 0 (nilA))) (seqF (Ea (DP "Reader" "take" (BW) 0 (BR (kF (.str " ")) (nilA)))) (retX (Kw (JB (vF 1) (JB (vF 2) (Km (GK (rec_read_saying) 0 (nilA)))))))))
def Bw (rec_read_saying : List D → Option (D × D)) : List D → Option (D × D) := runS 3 2 (CK rec_read_saying)
def Bs (rec_read_saying : List D → Option (D × D)) : FS := seqF (ifS (trF (GP "Reader" "is_ahead" (BV) 0 (BR (kF (.str "(")) (nilA)))) (retX (GK (Ak rec_read_saying) 0 (nilA))) (nxF)) (seqF (setX 1 (DP "Reader" "take_letters" (Cq) 0 (nilA))) (seqF (ifS (trF (GP "Reader" "is_ahead" (BV) 0 (BR (kF (.str "(")) (nilA)))) (retX (GK (BX) 0 (BR (vF 1) (nilA)))) (nxF)) (seqF (ifS (trF (GP "Reader" "is_ahead" (BV) 0 (BR (kF (.str "=")) (nilA)))) (retX (GK (C_) 0 (BR (vF 1) (nilA)))) (nxF)) (seqF (ifS (blF (bF (inD false) (vF 1) (kF c_BINDERS))) (retX (GK (Bw rec_read_saying) 0 (BR (vF 1) (nilA)))) (nxF)) (seqF (ifS (blF (bF (eqD true) (vF 1) (kF (.str "not")))) (retF (excF "NoSaying" "line" okSD (uF (fldD "line") (vU 0)))) (nxF)) (seqF (Ea (DP "Reader" "take" (BW) 0 (BR (kF (.str " ")) (nilA)))) (retX (Kw (JB (kF (.str "not")) (Km (GK (rec_read_saying) 0 (nilA))))))))))))
def Aj : Nat → List D → Option (D × D)
 | 0 => fun _ => none
 | n + 1 => runS 2 1 (Bs (Aj n))
def J3 : FS := seqF (setW 1 (mkF "Reader" (DX) (BR (vF 0) (nilA)))) (seqF (HX 2 (GK (Aj 110) 1 (nilA))) (seqF (ifS (blF (bF ltD (uF (fldD "at") (vU 1)) (uF lenD (vF 0)))) (retF (excF "NoSaying" "line" okSD (vF 0))) (nxF)) (retF (vF 2))))
def Hn : List D → Option D := runF 3 1 J3
def Fw : FS := seqF (ifS (blF (bF ltD (vF 1) (uF lenD (vF 0)))) (retF (bF ixD (vF 0) (vF 1))) (nxF)) (retF (kF (.int 0)))
def Dc : List D → Option D := runF 2 2 Fw
def Dg : FS := seqF (setF 2 (bF ixD (kF (.str "abcxyz")) (bF modD (bF I_ (vF 1) (kF (.int 16))) (kF (.int 6))))) (seqF (setF 3 (lstF (BR (bF addD (kF (.str "x=")) (vF 2)) (BR (bF addD (bF addD (kF (.str "red(")) (vF 2)) (kF (.str ")"))) (BR (bF addD (bF addD (kF (.str "near(")) (vF 2)) (kF (.str ",y)"))) (BR (bF addD (bF addD (bF addD (bF addD (kF (.str "not all ")) (vF 2)) (kF (.str " "))) (vF 2)) (kF (.str "=y"))) (nilA))))))) (seqF (ifS (blF (bF (eqD false) (bF modD (vF 1) (kF (.int 4))) (kF (.int 0)))) (retF (bF addD (bF addD (bF addD (bF addD (kF (.str "(")) (bF ixD (vF 3) (bF modD (bF I_ (vF 1) (kF (.int 4))) (kF (.int 4))))) (kF (.str " and "))) (vF 0)) (kF (.str ")")))) (nxF)) (seqF (ifS (blF (bF (eqD false) (bF modD (vF 1) (kF (.int 4))) (kF (.int 1)))) (retF (bF addD (bF addD (bF addD (bF addD (kF (.str "(")) (vF 0)) (kF (.str " or "))) (bF ixD (vF 3) (bF modD (bF I_ (vF 1) (kF (.int 4))) (kF (.int 4))))) (kF (.str ")")))) (nxF)) (seqF (ifS (blF (bF (eqD false) (bF modD (vF 1) (kF (.int 4))) (kF (.int 2)))) (retF (bF addD (bF addD (bF addD (kF (.str "all ")) (vF 2)) (kF (.str " "))) (vF 0))) (nxF)) (retF (bF addD (bF addD (bF addD (bF addD (kF (.str "(")) (bF ixD (vF 3) (bF modD (bF I_ (vF 1) (kF (.int 4))) (kF (.int 4))))) (kF (.str " and not "))) (vF 0)) (kF (.str ")"))))))))
def DN : List D → Option D := runF 4 2 Dg
def Lk : FS := setF 1 (Ek (DN) (BR (vF 1) (BR (vF 2) (nilA))))
def Ky : FS := seqF (setF 1 (Ek (Eu) (BR (slF (vF 0) (someO (kF (.int 1))) (someO (kF (.int 51)))) (nilA)))) (seqF (ifS (blF (bF (eqD false) (bF modD (Ek (Dc) (BR (vF 0) (BR (kF (.int 0)) (nilA)))) (kF (.int 2))) (kF (.int 1)))) (seqF (setF 1 (kF (.str "x=y"))) (forS (seqI (slF (vF 0) (someO (kF (.int 1))) (someO (kF (.int 26))))) (O2 2) (Lk))) (nxF)) (seqF (setF 3 (kF .non)) (seqF (setF 4 (kF .non)) (seqF (tryF ["NoSaying"] 5 (setZ 3 (Ek (Hn) (BR (vF 1) (nilA)))) (setF 4 (vF 5))) (seqF (ifS (blF (uF (isND true) (vF 4))) (retF (andF (bF (eqD false) (uF (fldE ["NoSaying"] "line") (vF 4)) (vF 1)) (bF (eqD false) (bF modD (Ek (Dc) (BR (vF 0) (BR (kF (.int 0)) (nilA)))) (kF (.int 2))) (kF (.int 0))))) (nxF)) (seqF (setF 6 (Ek (DW 110) (BR (vF 3) (nilA)))) (retF (andF (uF (isiD "tuple") (vF 3)) (andF (uF (isiD "str") (vF 6)) (bF (eqD false) (vF 6) (vF 1)))))))))))
def JH : List D → Option D := runF 7 1 Ky
end K24
namespace K24
open PySem PySem.Spec L2 PV EX
open PyProof.Rows hiding St
def top (i : Nat) : Stmt := PySem.Challenge.pw_twinrounds_k24_whole_read_and_shown.main.body.getD i (.Pass ⟨0, 0, 0, 0⟩)
abbrev GF : Stmt := top 22
abbrev QH : Stmt := top 12
abbrev Fx : Stmt := inClass (top 13) 0
abbrev Fy : Stmt := inClass (top 13) 1
abbrev Em : Stmt := inClass (top 13) 2
abbrev En : Stmt := inClass (top 13) 5
abbrev H4 : Stmt := inClass (top 2) 0
abbrev Ha : Stmt := inClass (top 13) 3
abbrev Eo : Stmt := top 16
abbrev Ff : Stmt := inClass (top 13) 4
abbrev Io : Stmt := top 7
abbrev Fg : Stmt := top 14
abbrev JK : Stmt := top 15
abbrev Fi : Stmt := top 17
abbrev Hb : Stmt := top 18
abbrev T9 : Stmt := top 19
abbrev JL : Stmt := top 21
abbrev H_ : Stmt := top 23
abbrev XR : Stmt := top 24
structure Tx (G : Gx) (mg : Str → Option Value) where
 C_Reader : Addr
 gc_Reader : G.cl "Reader" = some C_Reader
 cl_Reader : Cls G.K C_Reader
 mC_Reader : mg "Reader" = some (.ref C_Reader)
 x__law_pieces : Dx G.K mg "_law_pieces" GF ["_law_cells"]
 x_shown : Dx G.K mg "shown" QH ["saying"]
 x_Reader___init__ : Ix G.K C_Reader "Reader.__init__" Fx ["self", "line"]
 x_Reader_is_ahead : Mx G.K C_Reader "is_ahead" "Reader.is_ahead" Fy ["self", "text"]
 x_Reader_is_at_letter : Mx G.K C_Reader "is_at_letter" "Reader.is_at_letter" Em ["self"]
 x_Reader_take_letters : Mx G.K C_Reader "take_letters" "Reader.take_letters" En ["self"]
 x_Reader_take : Mx G.K C_Reader "take" "Reader.take" Ha ["self", "text"]
 x_read_both_or_either : Dx G.K mg "read_both_or_either" Eo ["reader"]
 x_Reader_take_name : Mx G.K C_Reader "take_name" "Reader.take_name" Ff ["self"]
 x_is_word : Dx G.K mg "is_word" Io ["text"]
 x_read_mark_or_tie : Dx G.K mg "read_mark_or_tie" Fg ["reader", "word"]
 x_read_same : Dx G.K mg "read_same" JK ["reader", "name"]
 x_read_some_or_all : Dx G.K mg "read_some_or_all" Fi ["reader", "sort"]
 x_read_saying : Dx G.K mg "read_saying" Hb ["reader"]
 x_read : Dx G.K mg "read" T9 ["line"]
 x__law_cell : Dx G.K mg "_law_cell" JL ["_law_script", "_law_k"]
 x__law_grown : Dx G.K mg "_law_grown" H_ ["_law_line", "_law_cell_here"]
 x_law : Dx G.K mg "law" XR ["_law_script"]
 r : Rx G.K mg "RoundError"
 xt : XT G ["NoSaying"] r.R
 e_NoSaying : Xx G mg r.R "NoSaying" "line" "NoSaying.__init__" H4 ["self", "line"]
 nf_line : ∀ c C, (["NoSaying"] : List Str).contains c = true → G.xcl c = some C → Cv G.K C "line"
 z_all : mg "all" = none
 z_isinstance : mg "isinstance" = none
 z_len : mg "len" = none
 z_str : mg "str" = none
 z_tuple : mg "tuple" = none
 s_AND : Sx mg "AND" (.str " and ")
 s_OR : Sx mg "OR" (.str " or ")
 s_LETTERS : Sx mg "LETTERS" (.str "abcdefghijklmnopqrstuvwxyz")
 s_MOST_LETTERS : Sx mg "MOST_LETTERS" (.int 8)
 fl_line : ∀ c C, G.cl c = some C → Cls G.K C ∧ Cv G.K C "line"
 fl_at : ∀ c C, G.cl c = some C → Cls G.K C ∧ Cv G.K C "at"
 c_BINDERS : Kx G mg "BINDERS" K24.c_BINDERS
 c_KEPT_TEXTS : Kx G mg "KEPT_TEXTS" K24.c_KEPT_TEXTS
section
variable {P : Program} {w : World} {G : Gx} {mg : Str → Option Value} {base : Heap}
abbrev Dl : List Str := ["_law_cells", "_law_some"]
theorem Fj : FnScope Dl ["_law_cells"] (Ab GF) := ⟨rfl, rfl, rfl, by decide +kernel, rfl, by decide +kernel, by decide +kernel⟩
theorem J4 (T : Tx G mg) : DOk P w base T.x__law_pieces 1 (spD G Eu) :=
 fnX (k := 0) (N := Dl) (b := HY) T.x__law_pieces Fj fun _ _ _ _ _ _ hr => Bt (sF Fj.nd 1 (N_ (iS (iS (iS (iS (iS (iS (iS (iS (iS (iS (iS (iS (iS (iS (BL))))))))))))))))) (Bt (sF Fj.nd 1 (bAdd (vp 1) (pU (N_ (iS (iS (BL))))))) (CQ (CT (Le rfl (sP) (pU (Py (nT Dl "_law_cell_here") (by show El "_law_cell_here" Dl ++ (["_law_cell_here"] : List Str) = _; decide +kernel) (cO (N := Dl) (sc := Ab GF) rfl rfl) rfl (Vf rfl (vp 0)) (fun _ _ _ => M3) (fun _ _ _ => iD (vp 1) (pU (bMod (pU (bDiv (vp 2) (iP))) (iP))))))))))
abbrev QJ : List Str := ["saying", "sort", "joint"]
theorem J5 : FnScope QJ ["saying"] (Ab QH) := ⟨rfl, rfl, rfl, by decide +kernel, rfl, by decide +kernel, by decide +kernel⟩
theorem G9 (T : Tx G mg) : ∀ n : Nat, DOk P w base T.x_shown (n * 1 + 0) (spD G (DW n))
 | 0 => Vm
 | n + 1 => (fnX (k := n * 1 + 0) (N := QJ) (b := Ew (DW n)) T.x_shown J5 fun _ _ _ _ _ _ hr => Bt (sF J5.nd 1 (iD (vp 0) (iP))) (Bt (Fd (tEq hr (vp 1) (sP)) (CQ (CT (Le rfl (sP) (pU (GR rfl (vp 0) (Dk (iP)) (Mu)))))) (Dm)) (Bt (Fd (PFW.pt (N7 (tEq hr (vp 1) (sP)) (Kp (tEq hr (vp 1) (sP))))) (CQ (CT (bAdd (pU (bAdd (pU (bAdd (pU (iD (vp 0) (iP))) (sP))) (pU (Le rfl (sP) (pU (GR rfl (vp 0) (Dk (iP)) (Mu))))))) (sP)))) (Dm)) (Bt (Fd (tEq hr (vp 1) (sP)) (CQ (CT (bAdd (sP) (pU (fX (G9 T n) hr (Bk (iD (vp 0) (iP)) (BL) Eb)))))) (Dm)) (Bt (Fd (Fb Jl (La false) (vp 1) (pU (Dp (Dv (v := .ref T.c_BINDERS.a) rfl T.c_BINDERS.m rfl) T.c_BINDERS.r)) (by with_unfolding_all rfl)) (CQ (CT (bAdd (pU (bAdd (pU (bAdd (pU (bAdd (vp 1) (sP))) (pU (iD (vp 0) (iP))))) (sP))) (pU (fX (G9 T n) hr (Bk (iD (vp 0) (iP)) (BL) Eb)))))) (Dm)) (Bt (sF J5.nd 2 (S7 (tEq hr (vp 1) (sP)) (Dp (Dv (v := (.str " and ")) rfl T.s_AND.m ⟨_, rfl⟩) (.str _)) (Dp (Dv (v := (.str " or ")) rfl T.s_OR.m ⟨_, rfl⟩) (.str _)))) (CQ (CT (bAdd (pU (bAdd (pU (bAdd (pU (bAdd (sP) (pU (fX (G9 T n) hr (Bk (iD (vp 0) (iP)) (BL) Eb))))) (vp 2))) (pU (fX (G9 T n) hr (Bk (iD (vp 0) (iP)) (BL) Eb))))) (sP)))))))))).mono (by omega)
abbrev Fz : List Str := ["self", "line"]
theorem Ho : FnScope Fz ["self", "line"] (Ab Fx) := ⟨rfl, rfl, rfl, by decide +kernel, rfl, by decide +kernel, by decide +kernel⟩
theorem Hq (T : Tx G mg) : FnOk P w G.K mg base CX0 1 T.x_Reader___init__.f T.x_Reader___init__.fd ["self", "line"] (spS G DX) :=
 fn_S (k := 0) (N := Fz) (b := Ec) T.x_Reader___init__.F Ho (by decide) fun y _ _ _ _ _ _ hr => Bt (G7 T.fl_line (pv 0) (vr 1)) (CQ (G7 T.fl_at (pv 0) (K8)))
abbrev F_ : List Str := ["self", "text"]
theorem Hr : FnScope F_ ["self", "text"] (Ab Fy) := ⟨rfl, rfl, rfl, by decide +kernel, rfl, by decide +kernel, by decide +kernel⟩
theorem Ca (T : Tx G mg) : FnOk P w G.K mg base CX0 1 T.x_Reader_is_ahead.f T.x_Reader_is_ahead.fd ["self", "text"] (spD G BV) :=
 fn_D (k := 0) (N := F_) (b := Ed) T.x_Reader_is_ahead.F Hr (by decide) fun _ _ _ _ _ _ hr => CQ (CT (cEq hr (pU (GR rfl (pU (Cw T.fl_line (vp 0))) (Dk (pU (Cw T.fl_at (vp 0)))) (Dk (pU (bAdd (pU (Cw T.fl_at (vp 0))) (pU (D_ (Dq rfl) Gm rfl T.z_len G5 (vp 1)))))))) (vp 1)))
abbrev Ep : List Str := ["self"]
theorem Gq : FnScope Ep ["self"] (Ab Em) := ⟨rfl, rfl, rfl, by decide +kernel, rfl, by decide +kernel, by decide +kernel⟩
theorem Eg (T : Tx G mg) : FnOk P w G.K mg base CX0 1 T.x_Reader_is_at_letter.f T.x_Reader_is_at_letter.fd ["self"] (spD G Bp) :=
 fn_D (k := 0) (N := Ep) (b := Cp) T.x_Reader_is_at_letter.F Gq (by decide) fun _ _ _ _ _ _ hr => CQ (CT (LK (LC Wb S6 (pU (Cw T.fl_at (vp 0))) (pU (D_ (Dq rfl) Gm rfl T.z_len G5 (pU (Cw T.fl_line (vp 0))))) (Ie _)) (N5 (LC Jl (La false) (pU (iD (pU (Cw T.fl_line (vp 0))) (pU (Cw T.fl_at (vp 0))))) (pU (Dp (Dv (v := (.str "abcdefghijklmnopqrstuvwxyz")) rfl T.s_LETTERS.m ⟨_, rfl⟩) (.str _))) (by with_unfolding_all rfl)))))
abbrev Es : List Str := ["self", "start"]
theorem Eh : FnScope Es ["self"] (Ab En) := ⟨rfl, rfl, rfl, by decide +kernel, rfl, by decide +kernel, by decide +kernel⟩
theorem Gs (T : Tx G mg) : FnOk P w G.K mg base CX0 2 T.x_Reader_take_letters.f T.x_Reader_take_letters.fd ["self"] (spS G Cq) :=
 fn_S (k := 1) (N := Es) (b := DR) T.x_Reader_take_letters.F Eh (by decide) fun y _ _ _ _ _ _ hr => Bt (sF Eh.nd 1 (Cw T.fl_at (vq 0))) (Bt (Qj 3000 PassesOwn.never (FP (pU (Kv T.gc_Reader T.cl_Reader T.x_Reader_is_at_letter.me (Hx (Eg T)) (hr.mono (by omega)) T.x_Reader_is_at_letter.B (pv 0))) rfl) (CQ (G7 T.fl_at (pv 0) (bAdd (pU (Cw T.fl_at (vq 0))) (iP))))) (CQ (CT (GR rfl (pU (Cw T.fl_line (vq 0))) (Dk (vp 1)) (Dk (pU (Cw T.fl_at (vq 0))))))))
abbrev Ln : List Str := ["self", "line"]
theorem KQ : FnScope Ln ["self", "line"] (Ab H4) := ⟨rfl, rfl, rfl, by decide +kernel, rfl, by decide +kernel, by decide +kernel⟩
theorem Du (T : Tx G mg) : FnOk P w G.K mg base CX0 1 T.e_NoSaying.fi T.e_NoSaying.fd ["self", "line"] (spE G.K "line" okS) :=
 T.e_NoSaying.F.ok KQ (fun vs H Q E h => V6 h) fun cdv A outer s H vs Q E hr h => ⟨_, Ja (Oj (Tu rfl T.r.m T.r.h1 T.r.h2 T.r.h3 (Dw (pv 0) (Dw (Tt (V4 (pv 1)) Yq) Hh)))) (K1 (V5 (pv 0) (pv 1) rfl)), Qp h rfl Yr⟩
abbrev Hd : List Str := ["self", "text"]
theorem J6 : FnScope Hd ["self", "text"] (Ab Ha) := ⟨rfl, rfl, rfl, by decide +kernel, rfl, by decide +kernel, by decide +kernel⟩
theorem CG (T : Tx G mg) : FnOk P w G.K mg base (CX1 P w) 3 T.x_Reader_take.f T.x_Reader_take.fd ["self", "text"] (spSZ G BW) :=
 J1 (k := 2) (N := Hd) (b := Ex) T.x_Reader_take.F.d J6 (by decide) fun y _ _ _ _ _ _ hr => Bl (Fe (LQ (FP (pU (Ga T.gc_Reader T.cl_Reader T.x_Reader_is_ahead.me (Hx (Ca T)) (hr.mono (by omega)) T.x_Reader_is_ahead.B (pv 0) (Bk (vr 1) (BL) Cd))) rfl)) (Cg (rZ (x := T.e_NoSaying.lend (y := y)) (Du T) hr HD (Cw T.fl_line (vq 0)))) (EY)) (Cg (PSD.x (G7 T.fl_at (pv 0) (bAdd (pU (Cw T.fl_at (vq 0))) (pU (D_ (Dq rfl) Gm rfl T.z_len G5 (vp 1)))))))
abbrev Et : List Str := ["reader", "first", "sort", "second"]
theorem Ci : FnScope Et ["reader"] (Ab Eo) := ⟨rfl, rfl, rfl, by decide +kernel, rfl, by decide +kernel, by decide +kernel⟩
theorem Gu (T : Tx G mg) {m : Nat} {rec_read_saying : List D → Option (D × D)} (hm : 4 ≤ m) (hrec : FnOk P w G.K mg base (CX1 P w) m T.x_read_saying.f T.x_read_saying.fd ["reader"] (spSZ G rec_read_saying)) : FnOk P w G.K mg base (CX1 P w) (m + 1) T.x_read_both_or_either.f T.x_read_both_or_either.fd ["reader"] (spSZ G (Ak rec_read_saying)) :=
 J1 (k := m + 0) (N := Et) (b := BK rec_read_saying) T.x_read_both_or_either.F Ci (by decide) fun y _ _ _ _ _ _ hr => Bl (DY (mXZ (d := T.x_Reader_take) T.gc_Reader T.cl_Reader (Cm (CG T)) hr (pv 0) (iS (BL)))) (Bl (sXZ Ci.nd 1 (fXZ (Cm (hrec)) hr (pv 0) (BL))) (Bl (PSD.x (sF Ci.nd 2 (S7 (FP (pU (Ga T.gc_Reader T.cl_Reader T.x_Reader_is_ahead.me (Hx (Ca T)) (hr.mono (by omega)) T.x_Reader_is_ahead.B (pv 0) (Bk (Dp (Dv (v := (.str " and ")) rfl T.s_AND.m ⟨_, rfl⟩) (.str _)) (BL) Cd))) rfl) (Hm) (Hm)))) (Bl (DY (mXZ (d := T.x_Reader_take) T.gc_Reader T.cl_Reader (Cm (CG T)) hr (pv 0) (Bk (S7 (tEq hr (vp 2) (sP)) (Dp (Dv (v := (.str " and ")) rfl T.s_AND.m ⟨_, rfl⟩) (.str _)) (Dp (Dv (v := (.str " or ")) rfl T.s_OR.m ⟨_, rfl⟩) (.str _))) (BL) T8))) (Bl (sXZ Ci.nd 3 (fXZ (Cm (hrec)) hr (pv 0) (BL))) (Bl (DY (mXZ (d := T.x_Reader_take) T.gc_Reader T.cl_Reader (Cm (CG T)) hr (pv 0) (iS (BL)))) (Cg (PSD.x (CT (N8 (Bk (vr 2) (Bk (vr 1) (Bk (vr 3) (BL) Cd) Cd) Cd))))))))))
abbrev Fl : List Str := ["self"]
theorem HJ : FnScope Fl ["self"] (Ab Ff) := ⟨rfl, rfl, rfl, by decide +kernel, rfl, by decide +kernel, by decide +kernel⟩
theorem Cz (T : Tx G mg) : FnOk P w G.K mg base (CX1 P w) 3 T.x_Reader_take_name.f T.x_Reader_take_name.fd ["self"] (spSZ G Bv) :=
 J1 (k := 2) (N := Fl) (b := DK) T.x_Reader_take_name.F.d HJ (by decide) fun y _ _ _ _ _ _ hr => Bl (Fe (LQ (FP (pU (Kv T.gc_Reader T.cl_Reader T.x_Reader_is_at_letter.me (Hx (Eg T)) (hr.mono (by omega)) T.x_Reader_is_at_letter.B (pv 0))) rfl)) (Cg (rZ (x := T.e_NoSaying.lend (y := y)) (Du T) hr HD (Cw T.fl_line (vq 0)))) (EY)) (Bl (PSD.x (G7 T.fl_at (pv 0) (bAdd (pU (Cw T.fl_at (vq 0))) (iP)))) (Cg (PSD.x (CT (iD (pU (Cw T.fl_line (vq 0))) (pU (bSub (pU (Cw T.fl_at (vq 0))) (iP))))))))
abbrev Gf : List Str := ["text"]
theorem Oc : FnScope Gf ["text"] (Ab Io) := ⟨rfl, rfl, rfl, by decide +kernel, rfl, by decide +kernel, by decide +kernel⟩
theorem Od (T : Tx G mg) : DOk P w base T.x_is_word 1 (spD G Ds) :=
 fnX (k := 0) (N := Gf) (b := FQ) T.x_is_word Oc fun _ _ _ _ _ _ hr => Bt (Fd (PFW.pt (N7 (tIn hr (vp 0) (pU (Dp (Dv (v := .ref T.c_KEPT_TEXTS.a) rfl T.c_KEPT_TEXTS.m rfl) T.c_KEPT_TEXTS.r))) (N7 (tEq hr (pU (D_ ((Dq rfl).or Ju) M4 rfl T.z_len G5 (vp 0))) (iP)) (Kp (tGt (pU (D_ ((Dq rfl).or Ju) M4 rfl T.z_len G5 (vp 0))) (pU (Dp (Dv (v := (.int 8)) rfl T.s_MOST_LETTERS.m ⟨_, rfl⟩) (.int _)))))))) (CQ (CT (Zq))) (Dm)) (CQ (CT (D_ (Qo rfl) Vs rfl T.z_all Ym (pU (Py (nT Gf "letter") (by show El "letter" Gf ++ (["letter"] : List Str) = _; decide +kernel) (cO (N := Gf) (sc := Ab Io) rfl rfl) rfl (PFI.top (Te rfl (vr 0))) (fun _ _ _ => M3) (fun _ _ _ => cIn hr (vp 1) (pU (Dp (Dv (v := (.str "abcdefghijklmnopqrstuvwxyz")) rfl T.s_LETTERS.m ⟨_, rfl⟩) (.str _)))))))))
abbrev Fo : List Str := ["reader", "word", "first", "second"]
theorem Di : FnScope Fo ["reader", "word"] (Ab Fg) := ⟨rfl, rfl, rfl, by decide +kernel, rfl, by decide +kernel, by decide +kernel⟩
theorem HN (T : Tx G mg) : FnOk P w G.K mg base (CX1 P w) 4 T.x_read_mark_or_tie.f T.x_read_mark_or_tie.fd ["reader", "word"] (spSZ G BX) :=
 J1 (k := 3) (N := Fo) (b := Bo) T.x_read_mark_or_tie.F Di (by decide) fun y _ _ _ _ _ _ hr => Bl (Fe (LQ (FP (pU (fX (Hx (Od T)) hr (Bk (vr 1) (BL) Cd))) rfl)) (Cg (rZ (x := T.e_NoSaying.lend (y := y)) (Du T) hr HD (Cw T.fl_line (vq 0)))) (EY)) (Bl (DY (mXZ (d := T.x_Reader_take) T.gc_Reader T.cl_Reader (Cm (CG T)) hr (pv 0) (iS (BL)))) (Bl (sXZ Di.nd 2 (mXZ0 (d := T.x_Reader_take_name) T.gc_Reader T.cl_Reader (Cm (Cz T)) hr (pv 0))) (Bl (Fe (FP (pU (Ga T.gc_Reader T.cl_Reader T.x_Reader_is_ahead.me (Hx (Ca T)) (hr.mono (by omega)) T.x_Reader_is_ahead.B (pv 0) (iS (BL)))) rfl) (Bl (DY (mXZ (d := T.x_Reader_take) T.gc_Reader T.cl_Reader (Cm (CG T)) hr (pv 0) (iS (BL)))) (Cg (PSD.x (CT (N8 (iS (Bk (vr 1) (Bk (vr 2) (BL) Cd) Cd))))))) (EY)) (Bl (DY (mXZ (d := T.x_Reader_take) T.gc_Reader T.cl_Reader (Cm (CG T)) hr (pv 0) (iS (BL)))) (Bl (sXZ Di.nd 3 (mXZ0 (d := T.x_Reader_take_name) T.gc_Reader T.cl_Reader (Cm (Cz T)) hr (pv 0))) (Bl (DY (mXZ (d := T.x_Reader_take) T.gc_Reader T.cl_Reader (Cm (CG T)) hr (pv 0) (iS (BL)))) (Cg (PSD.x (CT (N8 (iS (Bk (vr 1) (Bk (vr 2) (Bk (vr 3) (BL) Cd) Cd) Cd))))))))))))
abbrev JM : List Str := ["reader", "name"]
theorem Lp : FnScope JM ["reader", "name"] (Ab JK) := ⟨rfl, rfl, rfl, by decide +kernel, rfl, by decide +kernel, by decide +kernel⟩
theorem Lq (T : Tx G mg) : FnOk P w G.K mg base (CX1 P w) 4 T.x_read_same.f T.x_read_same.fd ["reader", "name"] (spSZ G C_) :=
 J1 (k := 3) (N := JM) (b := Dt) T.x_read_same.F Lp (by decide) fun y _ _ _ _ _ _ hr => Bl (Fe (tNe hr (pU (D_ (Dq rfl) Gm rfl T.z_len G5 (vp 1))) (iP)) (Cg (rZ (x := T.e_NoSaying.lend (y := y)) (Du T) hr HD (Cw T.fl_line (vq 0)))) (EY)) (Bl (DY (mXZ (d := T.x_Reader_take) T.gc_Reader T.cl_Reader (Cm (CG T)) hr (pv 0) (iS (BL)))) (Cg (Gp (Lj (Ge (Hm) (Ge (vr 1) (Im (mXZ0 (d := T.x_Reader_take_name) T.gc_Reader T.cl_Reader (Cm (Cz T)) hr (pv 0)))))))))
abbrev Fp : List Str := ["reader", "sort", "name"]
theorem FN : FnScope Fp ["reader", "sort"] (Ab Fi) := ⟨rfl, rfl, rfl, by decide +kernel, rfl, by decide +kernel, by decide +kernel⟩
theorem HQ (T : Tx G mg) {m : Nat} {rec_read_saying : List D → Option (D × D)} (hm : 4 ≤ m) (hrec : FnOk P w G.K mg base (CX1 P w) m T.x_read_saying.f T.x_read_saying.fd ["reader"] (spSZ G rec_read_saying)) : FnOk P w G.K mg base (CX1 P w) (m + 1) T.x_read_some_or_all.f T.x_read_some_or_all.fd ["reader", "sort"] (spSZ G (Bw rec_read_saying)) :=
 J1 (k := m + 0) (N := Fp) (b := CK rec_read_saying) T.x_read_some_or_all.F FN (by decide) fun y _ _ _ _ _ _ hr => Bl (DY (mXZ (d := T.x_Reader_take) T.gc_Reader T.cl_Reader (Cm (CG T)) hr (pv 0) (iS (BL)))) (Bl (sXZ FN.nd 2 (mXZ0 (d := T.x_Reader_take_name) T.gc_Reader T.cl_Reader (Cm (Cz T)) hr (pv 0))) (Bl (DY (mXZ (d := T.x_Reader_take) T.gc_Reader T.cl_Reader (Cm (CG T)) hr (pv 0) (iS (BL)))) (Cg (Gp (Lj (Ge (vr 1) (Ge (vr 2) (Im (fXZ (Cm (hrec)) hr (pv 0) (BL))))))))))
abbrev Hg : List Str := ["reader", "letters"]
theorem G_ : FnScope Hg ["reader"] (Ab Hb) := ⟨rfl, rfl, rfl, by decide +kernel, rfl, by decide +kernel, by decide +kernel⟩
theorem Ei (T : Tx G mg) : ∀ n : Nat, FnOk P w G.K mg base (CX1 P w) (n * 2 + 4) T.x_read_saying.f T.x_read_saying.fd ["reader"] (spSZ G (Aj n))
 | 0 => Qs
 | n + 1 => (J1 (k := n * 2 + 5) (N := Hg) (b := Bs (Aj n)) T.x_read_saying.F G_ (by decide) fun y _ _ _ _ _ _ hr => Bl (Fe (FP (pU (Ga T.gc_Reader T.cl_Reader T.x_Reader_is_ahead.me (Hx (Ca T)) (hr.mono (by omega)) T.x_Reader_is_ahead.B (pv 0) (iS (BL)))) rfl) (Cg (Gp (fXZ (Cm (Gu T (by omega) (Ei T n))) hr (pv 0) (BL)))) (EY)) (Bl (PSD.x (Vv (i := 1) (fun _ h => Jb G_.nd rfl (by first | exact Or.inl rfl | exact Or.inr rfl) h) (Ti T.gc_Reader T.cl_Reader T.x_Reader_take_letters.me (Zw (Gs T)) (hr.mono (by omega)) T.x_Reader_take_letters.B (pv 0)))) (Bl (Fe (FP (pU (Ga T.gc_Reader T.cl_Reader T.x_Reader_is_ahead.me (Hx (Ca T)) (hr.mono (by omega)) T.x_Reader_is_ahead.B (pv 0) (iS (BL)))) rfl) (Cg (Gp (fXZ (Cm (HN T)) hr (pv 0) (Bk (vr 1) (BL) Cd)))) (EY)) (Bl (Fe (FP (pU (Ga T.gc_Reader T.cl_Reader T.x_Reader_is_ahead.me (Hx (Ca T)) (hr.mono (by omega)) T.x_Reader_is_ahead.B (pv 0) (iS (BL)))) rfl) (Cg (Gp (fXZ (Cm (Lq T)) hr (pv 0) (Bk (vr 1) (BL) Cd)))) (EY)) (Bl (Fe (Fb Jl (La false) (vp 1) (pU (Dp (Dv (v := .ref T.c_BINDERS.a) rfl T.c_BINDERS.m rfl) T.c_BINDERS.r.lend)) (by with_unfolding_all rfl)) (Cg (Gp (fXZ (Cm (HQ T (by omega) (Ei T n))) hr (pv 0) (Bk (vr 1) (BL) Cd)))) (EY)) (Bl (Fe (tNe hr (vp 1) (sP)) (Cg (rZ (x := T.e_NoSaying.lend (y := y)) (Du T) hr HD (Cw T.fl_line (vq 0)))) (EY)) (Bl (DY (mXZ (d := T.x_Reader_take) T.gc_Reader T.cl_Reader (Cm (CG T)) hr (pv 0) (iS (BL)))) (Cg (Gp (Lj (Ge (Hm) (Im (fXZ (Cm (Ei T n)) hr (pv 0) (BL)))))))))))))).mono (by omega)
abbrev T_ : List Str := ["line", "reader", "saying"]
theorem Lr : FnScope T_ ["line"] (Ab T9) := ⟨rfl, rfl, rfl, by decide +kernel, rfl, by decide +kernel, by decide +kernel⟩
theorem WL (T : Tx G mg) : FnOk P w G.K mg base (CX1 P w) 225 T.x_read.f T.x_read.fd ["line"] (spZ G Hn) :=
 fnZ (k := 224) (N := T_) (b := J3) T.x_read Lr fun _ _ _ _ _ _ hr => Bl (PSD.x (sW Lr.nd 1 (Vw T.gc_Reader T.x_Reader___init__.mM (Hq T) (hr.mono (by omega)) rfl T.mC_Reader T.x_Reader___init__.B (Bk (vr 0) (BL) Cd)))) (Bl (sXZ Lr.nd 2 (fXZ (Ei T 110) hr (pv 1) (BL))) (Bl (Fe (tLt (pU (Cw T.fl_at (vq 1))) (pU (D_ (Dq rfl) Gm rfl T.z_len G5 (vp 0)))) (Cg (rZ (x := T.e_NoSaying) (Du T) hr HD (vr 0))) (EY)) (Cg (PSD.x (CT (vr 2))))))
abbrev JN : List Str := ["_law_script", "_law_k"]
theorem Ls : FnScope JN ["_law_script", "_law_k"] (Ab JL) := ⟨rfl, rfl, rfl, by decide +kernel, rfl, by decide +kernel, by decide +kernel⟩
theorem IK (T : Tx G mg) : DOk P w base T.x__law_cell 1 (spD G Dc) :=
 fnX (k := 0) (N := JN) (b := Fw) T.x__law_cell Ls fun _ _ _ _ _ _ hr => Bt (Fd (tLt (vp 1) (pU (D_ (Dq rfl) Gm rfl T.z_len G5 (vp 0)))) (CQ (CT (iD (vp 0) (vp 1)))) (Dm)) (CQ (CT (K8)))
abbrev IV : List Str := ["_law_line", "_law_cell_here", "_law_name", "_law_other"]
theorem GJ : FnScope IV ["_law_line", "_law_cell_here"] (Ab H_) := ⟨rfl, rfl, rfl, by decide +kernel, rfl, by decide +kernel, by decide +kernel⟩
theorem KR (T : Tx G mg) : DOk P w base T.x__law_grown 1 (spD G DN) :=
 fnX (k := 0) (N := IV) (b := Dg) T.x__law_grown GJ fun _ _ _ _ _ _ hr => Bt (sF GJ.nd 2 (iD (sP) (pU (bMod (pU (bDiv (vp 1) (iP))) (iP))))) (Bt (sF GJ.nd 3 (N_ (Bk (bAdd (sP) (vp 2)) (Bk (bAdd (pU (bAdd (sP) (vp 2))) (sP)) (Bk (bAdd (pU (bAdd (sP) (vp 2))) (sP)) (Bk (bAdd (pU (bAdd (pU (bAdd (pU (bAdd (sP) (vp 2))) (sP))) (vp 2))) (sP)) (BL) Hz) Hz) Hz) Hz))) (Bt (Fd (tEq hr (pU (bMod (vp 1) (iP))) (iP)) (CQ (CT (bAdd (pU (bAdd (pU (bAdd (pU (bAdd (sP) (pU (iD (vp 3) (pU (bMod (pU (bDiv (vp 1) (iP))) (iP))))))) (sP))) (vp 0))) (sP)))) (Dm)) (Bt (Fd (tEq hr (pU (bMod (vp 1) (iP))) (iP)) (CQ (CT (bAdd (pU (bAdd (pU (bAdd (pU (bAdd (sP) (vp 0))) (sP))) (pU (iD (vp 3) (pU (bMod (pU (bDiv (vp 1) (iP))) (iP))))))) (sP)))) (Dm)) (Bt (Fd (tEq hr (pU (bMod (vp 1) (iP))) (iP)) (CQ (CT (bAdd (pU (bAdd (pU (bAdd (sP) (vp 2))) (sP))) (vp 0)))) (Dm)) (CQ (CT (bAdd (pU (bAdd (pU (bAdd (pU (bAdd (sP) (pU (iD (vp 3) (pU (bMod (pU (bDiv (vp 1) (iP))) (iP))))))) (sP))) (vp 0))) (sP))))))))
abbrev XS : List Str := ["_law_script", "_law_line", "_law_cell_here", "_law_found", "_law_refused", "e", "_law_made"]
theorem Fq : FnScope XS ["_law_script"] (Ab XR) := ⟨rfl, rfl, rfl, by decide +kernel, rfl, by decide +kernel, by decide +kernel⟩
theorem Yw (T : Tx G mg) : DOk P w base T.x_law 226 (spD G JH) :=
 fnX (k := 225) (N := XS) (b := Ky) T.x_law Fq fun _ _ _ _ _ _ hr => Bt (sF Fq.nd 1 (fX (J4 T) hr (Bk (GR rfl (vp 0) (Dk (iP)) (Dk (iP))) (BL) Eb))) (Bt (Fd (tEq hr (pU (bMod (pU (fX (IK T) hr (Bk (vr 0) (iI (BL)) Cd))) (iP))) (iP)) (Bt (sF Fq.nd 1 (Hm)) (CQ (Vh PassesOwn.never rfl (Px rfl (GR rfl (vp 0) (Dk (iP)) (Dk (iP)))) (S_ (gN Fq.nd 2)) (CQ (sF Fq.nd 1 (fX (KR T) hr (Bk (vr 1) (Bk (vr 2) (BL) Cd) Cd))))))) (Dm)) (Bt (sF Fq.nd 3 (Sw)) (Bt (sF Fq.nd 4 (Sw)) (Bt (V8 (cs := ["NoSaying"]) (i := 5) rfl rfl Fq.nd rfl rfl rfl T.e_NoSaying.m T.e_NoSaying.xc.obj (WK T.e_NoSaying) (fun _ _ => Cg (sZ Fq.nd 3 (fZ (WL T) hr (Bk (vr 1) (BL) Cd)))) (fun _ => CQ (sF Fq.nd 4 (vr 5)))) (Bt (Fd (Tf (vp 4)) (CQ (CT (LK (cEq hr (pU (V_ rfl T.xt (vr 4) T.nf_line)) (vp 1)) (N5 (cEq hr (pU (bMod (pU (fX (IK T) hr (Bk (vr 0) (iI (BL)) Cd))) (iP))) (iP)))))) (Dm)) (Bt (sF Fq.nd 6 (fX (G9 T 110) hr (Bk (vr 3) (BL) Cd))) (CQ (CT (LK (TJ Ql rfl rfl T.z_isinstance HW rfl T.z_tuple Th (vp 3)) (LK (TJ Vl rfl rfl T.z_isinstance HW rfl T.z_str Yj (vp 6)) (N5 (cEq hr (vp 6) (vp 1)))))))))))))
end
abbrev gx (K : PySem.W.Frag) (C_Reader : Addr) (l : List (Str × Addr)) : Gx := gx2 K "Reader" C_Reader l
def XX (K : PySem.W.Frag) : Sp := fun vs H Q _ => ∃ (a : Addr) (ns : List Int), vs = [.ref a] ∧ SqL K H a (ns.map V.int) ∧ ns.length ≤ 63 ∧ ∀ H', Q (.bl true) H'
theorem Yx (ht : ∀ ns : List Int, ns.length ≤ 63 → JH [.lst (ns.map .int)] = some (.bl true)) {K : PySem.W.Frag} {C_Reader : Addr} {l : List (Str × Addr)} (vs : List V) (H : Hp) (Q : VK) (E : XK) (h : XX K vs H Q E) : spD (gx K C_Reader l) JH vs H Q E := by
 obtain ⟨a, ns, rfl, hs, hl, k⟩ := h
 refine ⟨[], [.lst (ns.map .int)], .bl true, (fun _ z => nomatch z), RepL.cons ?_ RepL.nil, ht ns hl, fun v H2 _ r => ?_⟩
 ·have e : hid [] H = H := by funext b; exact Cu (fun z => nomatch z)
  rw [e]
  refine .lst hs (by simp) fun i x d h1 h2 => ?_
  rw [List.getElem?_map] at h1 h2
  cases e2 : ns[i]? with
  | none => rw [e2] at h1; cases h1
  | some z => rw [e2] at h1 h2; cases h1; cases h2; exact .int z
 ·cases r; exact k H2
end K24
namespace K24
open PySem L2 PV
theorem WM (ns : List Int) (k : Nat) : ∃ i, Dc [.lst (ns.map .int), .int k] = some (.int i) := by
 by_cases h : k < ns.length
 ·refine ⟨ns[k], ?_⟩
  have e : atI (ns.map D.int) (k : Int) = some (.int ns[k]) := by
   rw [RN (by omega) (by simpa using h)]
   simp [h]
  simp [Dc, runF, Fw, seqF, ifS, blF, bF, vF, uF, Do, lenD, O3, h, retF, ixD, e]
 ·refine ⟨0, ?_⟩
  simp [Dc, runF, Fw, seqF, ifS, blF, bF, vF, uF, Do, lenD, O3, h, retF, nxF, kF]
abbrev cs (x : Str) : List Nat := x.cps.toList
theorem Cj (x y : Str) : cs (x ++ y) = cs x ++ cs y := by show (x.cps ++ y.cps).toList = _; simp [cs]
theorem Dd (x : Str) : (cs x).length = x.length := by simp [cs, Str.length]
theorem Ft {x y : Str} (h : cs x = cs y) : x = y := by
 cases x with | mk a => cases y with | mk b => simp [cs] at h; rw [h]
theorem UG (x : Str) (lo hi : Option Int) : cs (cutS x lo hi) = cutD (cs x) lo hi := by simp [cs, cutS]
def LET : Str := "abcdefghijklmnopqrstuvwxyz"
def IsL (x : Str) : Prop := ∀ c ∈ cs x, c ∈ cs LET
def Nm (x : Str) : Prop := ∃ c, c ∈ cs LET ∧ x = ⟨#[c]⟩
theorem Nm.isL {x : Str} (h : Nm x) : IsL x := by obtain ⟨c, hc, rfl⟩ := h; intro d hd; simp [cs] at hd; subst hd; exact hc
theorem Nm.len {x : Str} (h : Nm x) : x.length = 1 := by obtain ⟨c, hc, rfl⟩ := h; rfl
def KEPT : List Str := ["not", "and", "or", "some", "all"]
structure Wd (x : Str) : Prop where
 lo : 1 ≤ x.length
 hi : x.length ≤ 8
 isL : IsL x
 kept : x ∉ KEPT
end K24
section
open PySem L2 PV
local macro_rules | `(tactic| simp only [cK, $ls,*] $[$l:location]?) => `(tactic| simp only [Wn, e_nx, e_rt, e_bk, e_ct, Wo, e_if, Wq, Wr, Ws, RT, Wt, RV, RW, RX, O5, e_b, e_bs, e_u, e_us, RZ, O6, Ra, O7, Ww, Wx, Wy, Rc, Rf, Rg, Rh, Ri, Rj, Rk, Ro, Rp, Rr, Ru, Rv, Rw, e_bl, Wz, Ry, O8, O9, W0, R0, R1, R3, R4, O_, PB, W2, R5, R6, R7, PJ, W3, R8, R9, e_sl, W4, W5, PK, Mm, e_v, e_vs, e_vU, W6, W7, e_k, R_, PL, PQ, SJ, W8, SM, SN, SQ, SX, W_, Sd, Mp, W9, e_tr, Sh, Pb, XF, Sq, Ss, Mq, Kl, Pg, Ph, Pj, Pk, Nx, e_tg, Su, List.length_cons, List.length_nil, List.map_cons, List.map_nil, List.cons_append, List.nil_append, List.replicate_succ, List.replicate_zero, List.getElem?_cons_zero, List.getElem?_cons_succ, List.set_cons_zero, List.set_cons_succ, Nat.reduceAdd, Nat.reduceSub, Nat.reduceEqDiff, Nat.zero_add, truB, Bool.not_true, Bool.not_false, decide_true, decide_false, List.append_nil, Int.reduceLT, Int.reduceLE, Int.reduceNeg, Int.reduceEq, Int.reduceToNat, Nat.reduceLeDiff, ix0, ix1, ix2, ixt0, ixt1, ixt2, ixt3, $ls,*] $[$l:location]?)
local macro_rules | `(tactic| simp only [cK]) => `(tactic| simp only [Wn, e_nx, e_rt, e_bk, e_ct, Wo, e_if, Wq, Wr, Ws, RT, Wt, RV, RW, RX, O5, e_b, e_bs, e_u, e_us, RZ, O6, Ra, O7, Ww, Wx, Wy, Rc, Rf, Rg, Rh, Ri, Rj, Rk, Ro, Rp, Rr, Ru, Rv, Rw, e_bl, Wz, Ry, O8, O9, W0, R0, R1, R3, R4, O_, PB, W2, R5, R6, R7, PJ, W3, R8, R9, e_sl, W4, W5, PK, Mm, e_v, e_vs, e_vU, W6, W7, e_k, R_, PL, PQ, SJ, W8, SM, SN, SQ, SX, W_, Sd, Mp, W9, e_tr, Sh, Pb, XF, Sq, Ss, Mq, Kl, Pg, Ph, Pj, Pk, Nx, e_tg, Su, List.length_cons, List.length_nil, List.map_cons, List.map_nil, List.cons_append, List.nil_append, List.replicate_succ, List.replicate_zero, List.getElem?_cons_zero, List.getElem?_cons_succ, List.set_cons_zero, List.set_cons_succ, Nat.reduceAdd, Nat.reduceSub, Nat.reduceEqDiff, Nat.zero_add, truB, Bool.not_true, Bool.not_false, decide_true, decide_false, List.append_nil, Int.reduceLT, Int.reduceLE, Int.reduceNeg, Int.reduceEq, Int.reduceToNat, Nat.reduceLeDiff, ix0, ix1, ix2, ixt0, ixt1, ixt2, ixt3])
local macro_rules | `(tactic| simp only [dK, $ls,*] $[$l:location]?) => `(tactic| simp only [cK, e_ixEl, e_ixEt, e_ixEs, e_ixEks, e_ixEki, e_lenEl, e_lenEk, e_inFks, e_inFki, e_inFst, e_inFsl, e_inFil, e_seqA, e_seqAl, e_seqAt, e_seqAk, e_put, e_puts, e_putT, e_putTs, e_fz0, e_fz1, e_frzO, e_frzF, e_items, e_itemss, e_tup2g, kDt_s, kDt_i, $ls,*] $[$l:location]?)
local macro_rules | `(tactic| simp only [ciK, $ls,*] $[$l:location]?) => `(tactic| simp only [cK, Hk, Hw, RP, RQ, O3, Wi, Wj, Wk, HS, Wl, Wm, $ls,*] $[$l:location]?)
local macro_rules | `(tactic| simp only [diK, $ls,*] $[$l:location]?) => `(tactic| simp only [cK, e_ixEl, e_ixEt, e_ixEs, e_ixEks, e_ixEki, e_lenEl, e_lenEk, e_inFks, e_inFki, e_inFst, e_inFsl, e_inFil, e_seqA, e_seqAl, e_seqAt, e_seqAk, e_put, e_puts, e_putT, e_putTs, e_fz0, e_fz1, e_frzO, e_frzF, e_items, e_itemss, e_tup2g, kDt_s, kDt_i, Hk, Hw, RP, RQ, O3, Wi, Wj, Wk, HS, Wl, Wm, $ls,*] $[$l:location]?)
namespace K24
open PySem L2 PV
inductive Say where
 | mark (w x : Str) | tie (w x y : Str) | same (x y : Str) | neg (s : Say) | both (s t : Say) | either (s t : Say) | ex (x : Str) (s : Say) | al (x : Str) (s : Say)
def enc : Say → D
 | .mark w x => .tup [.str "mark", .str w, .str x]
 | .tie w x y => .tup [.str "tie", .str w, .str x, .str y]
 | .same x y => .tup [.str "same", .str x, .str y]
 | .neg s => .tup [.str "not", enc s]
 | .both s t => .tup [.str "both", enc s, enc t]
 | .either s t => .tup [.str "either", enc s, enc t]
 | .ex x s => .tup [.str "some", .str x, enc s]
 | .al x s => .tup [.str "all", .str x, enc s]
def hgt : Say → Nat
 | .mark _ _ => 1 | .tie _ _ _ => 1 | .same _ _ => 1
 | .neg s => hgt s + 1
 | .both s t => max (hgt s) (hgt t) + 1
 | .either s t => max (hgt s) (hgt t) + 1
 | .ex _ s => hgt s + 1
 | .al _ s => hgt s + 1
def txt : Say → Str
 | .mark w x => w ++ "(" ++ x ++ ")"
 | .tie w x y => w ++ "(" ++ x ++ "," ++ y ++ ")"
 | .same x y => x ++ "=" ++ y
 | .neg s => "not " ++ txt s
 | .both s t => "(" ++ txt s ++ " and " ++ txt t ++ ")"
 | .either s t => "(" ++ txt s ++ " or " ++ txt t ++ ")"
 | .ex x s => "some" ++ " " ++ x ++ " " ++ txt s
 | .al x s => "all" ++ " " ++ x ++ " " ++ txt s
def Gd : Say → Prop
 | .mark w x => Wd w ∧ Nm x
 | .tie w x y => Wd w ∧ Nm x ∧ Nm y
 | .same x y => Nm x ∧ Nm y
 | .neg s => Gd s
 | .both s t => Gd s ∧ Gd t
 | .either s t => Gd s ∧ Gd t
 | .ex x s => Nm x ∧ Gd s
 | .al x s => Nm x ∧ Gd s
theorem l_p : Str.length "(" = 1 := by decide +kernel
theorem l_q : Str.length ")" = 1 := by decide +kernel
theorem l_c : Str.length "," = 1 := by decide +kernel
theorem l_e : Str.length "=" = 1 := by decide +kernel
theorem l_b : Str.length " " = 1 := by decide +kernel
theorem Xa : Str.length "not " = 4 := by decide +kernel
theorem JP : Str.length " and " = 5 := by decide +kernel
theorem l_or : Str.length " or " = 4 := by decide +kernel
theorem J7 : Str.length "some" = 4 := by decide +kernel
theorem NK : Str.length "all" = 3 := by decide +kernel
theorem k1 (a b c : D) : slD (.tup [a, b, c]) (some 1) none = some (.tup [b, c]) := of_eq_true (eq_self _)
theorem k2 (a b c : D) : slD (.tup [a, b, c]) (some 2) none = some (.tup [c]) := of_eq_true (eq_self _)
theorem k3 (a b c d : D) : slD (.tup [a, b, c, d]) (some 2) none = some (.tup [c, d]) := of_eq_true (eq_self _)
theorem Z1 (z x : Str) (h : x.length + z.length ≤ 1000) : Hv (.str z) (.tup [.str x]) = some (.str x) := by
 show (Fv ([x].map .str)).bind (fun ys => if (ys.map (·.length)).sum + ys.length * z.length ≤ 16777216 then some (D.str (Str.join z ys)) else none) = _
 rw [Ii, Option.bind_some, if_pos]
 ·rfl
 ·simp; omega
theorem Xb (z x y : Str) (h : x.length + y.length + z.length ≤ 1000) : Hv (.str z) (.tup [.str x, .str y]) = some (.str (x ++ z ++ y)) := by
 show (Fv ([x, y].map .str)).bind (fun ys => if (ys.map (·.length)).sum + ys.length * z.length ≤ 16777216 then some (D.str (Str.join z ys)) else none) = _
 rw [Ii, Option.bind_some, if_pos]
 ·rfl
 ·simp; omega
theorem eqs (x y : Str) : eqD false (.str x) (.str y) = some (.bl (decide (x = y))) := of_eq_true (eq_self _)
theorem Yy : inD false (.str "both") c_BINDERS = some (.bl false) := of_eq_true (eq_self _)
theorem UJ : inD false (.str "either") c_BINDERS = some (.bl false) := of_eq_true (eq_self _)
theorem Yz : inD false (.str "some") c_BINDERS = some (.bl true) := of_eq_true (eq_self _)
theorem Z2 : inD false (.str "all") c_BINDERS = some (.bl true) := of_eq_true (eq_self _)
theorem g1 : eqD false (.str "mark") (.str "same") = some (.bl false) := of_eq_true (eq_self _)
theorem g2 : eqD false (.str "mark") (.str "mark") = some (.bl true) := of_eq_true (eq_self _)
theorem g3 : eqD false (.str "tie") (.str "same") = some (.bl false) := of_eq_true (eq_self _)
theorem g4 : eqD false (.str "tie") (.str "mark") = some (.bl false) := of_eq_true (eq_self _)
theorem g5 : eqD false (.str "tie") (.str "tie") = some (.bl true) := of_eq_true (eq_self _)
theorem g6 : eqD false (.str "same") (.str "same") = some (.bl true) := of_eq_true (eq_self _)
theorem g7 : eqD false (.str "not") (.str "same") = some (.bl false) := of_eq_true (eq_self _)
theorem g8 : eqD false (.str "not") (.str "mark") = some (.bl false) := of_eq_true (eq_self _)
theorem g9 : eqD false (.str "not") (.str "tie") = some (.bl false) := of_eq_true (eq_self _)
theorem g10 : eqD false (.str "not") (.str "not") = some (.bl true) := of_eq_true (eq_self _)
theorem g11 : eqD false (.str "both") (.str "same") = some (.bl false) := of_eq_true (eq_self _)
theorem g12 : eqD false (.str "both") (.str "mark") = some (.bl false) := of_eq_true (eq_self _)
theorem g13 : eqD false (.str "both") (.str "tie") = some (.bl false) := of_eq_true (eq_self _)
theorem g14 : eqD false (.str "both") (.str "not") = some (.bl false) := of_eq_true (eq_self _)
theorem g15 : eqD false (.str "both") (.str "both") = some (.bl true) := of_eq_true (eq_self _)
theorem g16 : eqD false (.str "either") (.str "same") = some (.bl false) := of_eq_true (eq_self _)
theorem g17 : eqD false (.str "either") (.str "mark") = some (.bl false) := of_eq_true (eq_self _)
theorem g18 : eqD false (.str "either") (.str "tie") = some (.bl false) := of_eq_true (eq_self _)
theorem g19 : eqD false (.str "either") (.str "not") = some (.bl false) := of_eq_true (eq_self _)
theorem g20 : eqD false (.str "either") (.str "both") = some (.bl false) := of_eq_true (eq_self _)
theorem g22 : eqD false (.str "some") (.str "same") = some (.bl false) := of_eq_true (eq_self _)
theorem g23 : eqD false (.str "some") (.str "mark") = some (.bl false) := of_eq_true (eq_self _)
theorem g24 : eqD false (.str "some") (.str "tie") = some (.bl false) := of_eq_true (eq_self _)
theorem g25 : eqD false (.str "some") (.str "not") = some (.bl false) := of_eq_true (eq_self _)
theorem g32 : eqD false (.str "all") (.str "same") = some (.bl false) := of_eq_true (eq_self _)
theorem g33 : eqD false (.str "all") (.str "mark") = some (.bl false) := of_eq_true (eq_self _)
theorem g34 : eqD false (.str "all") (.str "tie") = some (.bl false) := of_eq_true (eq_self _)
theorem g35 : eqD false (.str "all") (.str "not") = some (.bl false) := of_eq_true (eq_self _)
theorem adds (x y : Str) (h : x.length + y.length ≤ 100000) : addD (.str x) (.str y) = some (.str (x ++ y)) := YQ (by omega)
theorem UL : ∀ (s : Say) (n : Nat), hgt s ≤ n → Gd s → (txt s).length ≤ 10000 → DW n [enc s] = some (.str (txt s)) := by
 intro s
 induction s with
 | mark w x =>
  intro n h hg hl
  obtain ⟨n, rfl⟩ : ∃ m, n = m + 1 := ⟨n - 1, by simp only [hgt] at h; omega⟩
  have hw := hg.1.hi
  have hx := hg.2.len
  have j := Z1 "," x (by rw [l_c]; omega)
  have a1 := adds w "(" (by rw [l_p]; omega)
  have a2 := adds (w ++ "(") x (by rw [Aa, l_p]; omega)
  have a3 := adds (w ++ "(" ++ x) ")" (by rw [Aa, Aa, l_p, l_q]; omega)
  simp only [cK, DW, enc, txt, Ew, k2, g1, g2, j, a1, a2, a3]
 | tie w x y =>
  intro n h hg hl
  obtain ⟨n, rfl⟩ : ∃ m, n = m + 1 := ⟨n - 1, by simp only [hgt] at h; omega⟩
  have hw := hg.1.hi
  have hx := hg.2.1.len
  have hy := hg.2.2.len
  have j := Xb "," x y (by rw [l_c]; omega)
  have a1 := adds w "(" (by rw [l_p]; omega)
  have a2 := adds (w ++ "(") (x ++ "," ++ y) (by simp only [Aa, l_p, l_c]; omega)
  have a3 := adds (w ++ "(" ++ (x ++ "," ++ y)) ")" (by simp only [Aa, l_p, l_c, l_q]; omega)
  have e : w ++ "(" ++ (x ++ "," ++ y) ++ ")" = w ++ "(" ++ x ++ "," ++ y ++ ")" := Ft (by simp only [Cj, List.append_assoc])
  simp only [cK, DW, enc, txt, Ew, k3, g3, g4, g5, j, a1, a2, a3, e]
 | same x y =>
  intro n h hg hl
  obtain ⟨n, rfl⟩ : ∃ m, n = m + 1 := ⟨n - 1, by simp only [hgt] at h; omega⟩
  have hx := hg.1.len
  have hy := hg.2.len
  have j := Xb "=" x y (by rw [l_e]; omega)
  simp only [cK, DW, enc, txt, Ew, k1, g6, j]
 | neg s ih =>
  intro n h hg hl
  obtain ⟨n, rfl⟩ : ∃ m, n = m + 1 := ⟨n - 1, by simp only [hgt] at h; omega⟩
  have hl' : 4 + (txt s).length ≤ 10000 := by simpa only [txt, Aa, Xa] using hl
  have i1 := ih n (by simp only [hgt] at h; omega) hg (by omega)
  have a1 := adds "not " (txt s) (by rw [Xa]; omega)
  simp only [cK, DW, enc, txt, Ew, g7, g8, g9, g10, i1, a1]
 | ex x s ih =>
  intro n h hg hl
  obtain ⟨n, rfl⟩ : ∃ m, n = m + 1 := ⟨n - 1, by simp only [hgt] at h; omega⟩
  have hx := hg.1.len
  have hl' : 4 + 1 + x.length + 1 + (txt s).length ≤ 10000 := by simpa only [txt, Aa, J7, l_b] using hl
  have i1 := ih n (by simp only [hgt] at h; omega) hg.2 (by omega)
  have a1 := adds "some" " " (by rw [J7, l_b]; omega)
  have a2 := adds ("some" ++ " ") x (by simp only [Aa, J7, l_b]; omega)
  have a3 := adds ("some" ++ " " ++ x) " " (by simp only [Aa, J7, l_b]; omega)
  have a4 := adds ("some" ++ " " ++ x ++ " ") (txt s) (by simp only [Aa, J7, l_b]; omega)
  simp only [cK, DW, enc, txt, Ew, g22, g23, g24, g25, Yz, i1, a1, a2, a3, a4]
 | al x s ih =>
  intro n h hg hl
  obtain ⟨n, rfl⟩ : ∃ m, n = m + 1 := ⟨n - 1, by simp only [hgt] at h; omega⟩
  have hx := hg.1.len
  have hl' : 3 + 1 + x.length + 1 + (txt s).length ≤ 10000 := by simpa only [txt, Aa, NK, l_b] using hl
  have i1 := ih n (by simp only [hgt] at h; omega) hg.2 (by omega)
  have a1 := adds "all" " " (by rw [NK, l_b]; omega)
  have a2 := adds ("all" ++ " ") x (by simp only [Aa, NK, l_b]; omega)
  have a3 := adds ("all" ++ " " ++ x) " " (by simp only [Aa, NK, l_b]; omega)
  have a4 := adds ("all" ++ " " ++ x ++ " ") (txt s) (by simp only [Aa, NK, l_b]; omega)
  simp only [cK, DW, enc, txt, Ew, g32, g33, g34, g35, Z2, i1, a1, a2, a3, a4]
 | both s t ih1 ih2 =>
  intro n h hg hl
  obtain ⟨n, rfl⟩ : ∃ m, n = m + 1 := ⟨n - 1, by simp only [hgt] at h; omega⟩
  have hl' : 1 + (txt s).length + 5 + (txt t).length + 1 ≤ 10000 := by simpa only [txt, Aa, l_p, l_q, JP] using hl
  have i1 := ih1 n (by simp only [hgt] at h; omega) hg.1 (by omega)
  have i2 := ih2 n (by simp only [hgt] at h; omega) hg.2 (by omega)
  have a1 := adds "(" (txt s) (by rw [l_p]; omega)
  have a2 := adds ("(" ++ txt s) " and " (by simp only [Aa, l_p, JP]; omega)
  have a3 := adds ("(" ++ txt s ++ " and ") (txt t) (by simp only [Aa, l_p, JP]; omega)
  have a4 := adds ("(" ++ txt s ++ " and " ++ txt t) ")" (by simp only [Aa, l_p, JP, l_q]; omega)
  simp only [cK, DW, enc, txt, Ew, g11, g12, g13, g14, g15, Yy, i1, i2, a1, a2, a3, a4]
 | either s t ih1 ih2 =>
  intro n h hg hl
  obtain ⟨n, rfl⟩ : ∃ m, n = m + 1 := ⟨n - 1, by simp only [hgt] at h; omega⟩
  have hl' : 1 + (txt s).length + 4 + (txt t).length + 1 ≤ 10000 := by simpa only [txt, Aa, l_p, l_q, l_or] using hl
  have i1 := ih1 n (by simp only [hgt] at h; omega) hg.1 (by omega)
  have i2 := ih2 n (by simp only [hgt] at h; omega) hg.2 (by omega)
  have a1 := adds "(" (txt s) (by rw [l_p]; omega)
  have a2 := adds ("(" ++ txt s) " or " (by simp only [Aa, l_p, l_or]; omega)
  have a3 := adds ("(" ++ txt s ++ " or ") (txt t) (by simp only [Aa, l_p, l_or]; omega)
  have a4 := adds ("(" ++ txt s ++ " or " ++ txt t) ")" (by simp only [Aa, l_p, l_or, l_q]; omega)
  simp only [cK, DW, enc, txt, Ew, g16, g17, g18, g19, g20, UJ, i1, i2, a1, a2, a3, a4]
end K24
namespace K24
open PySem L2 PV
def rd (x : Str) (i : Int) : D := .ob "Reader" [("line", .str x), ("at", .int i)]
theorem Ip (x : Str) (i : Int) : fldD "line" (rd x i) = some (.str x) := by
 show List.lookup ("line" : Str) [("line", D.str x), ("at", .int i)] = _
 rw [List.lookup_cons, show (("line" : Str) == "line") = true by decide +kernel]
theorem f_at (x : Str) (i : Int) : fldD "at" (rd x i) = some (.int i) := by
 show List.lookup ("at" : Str) [("line", D.str x), ("at", .int i)] = _
 rw [List.lookup_cons, show (("at" : Str) == "line") = false by decide +kernel]
 show List.lookup ("at" : Str) [("at", D.int i)] = _
 rw [List.lookup_cons, show (("at" : Str) == "at") = true by decide +kernel]
theorem p_at (x : Str) (i j : Int) : JC "at" (rd x i) (.int j) = some (rd x j) := by
 show (if 2 < 1000 then some (D.ob "Reader" (putG "at" (.int j) [("line", .str x), ("at", .int i)])) else none) = _
 rw [if_pos (by decide)]
 have e1 : ¬ (("line" : Str) = "at") := by decide +kernel
 unfold putG putG
 rw [if_neg e1, if_pos rfl]
 rfl
theorem J8 (x : Str) (i : Int) (m : Str) (h1 : (m == ("line" : Str)) = false) (h2 : (m == ("at" : Str)) = false) : isOb "Reader" m (rd x i) = true := by
 show (decide (("Reader" : Str) = "Reader") && (List.lookup m [("line", D.str x), ("at", .int i)]).isNone) = true
 rw [List.lookup_cons, h1]
 show (decide (("Reader" : Str) = "Reader") && (List.lookup m [("at", D.int i)]).isNone) = true
 rw [List.lookup_cons, h2]
 simp
theorem ob1 (x : Str) (i : Int) : isOb "Reader" "take" (rd x i) = true := J8 x i _ (by decide +kernel) (by decide +kernel)
theorem ob2 (x : Str) (i : Int) : isOb "Reader" "take_name" (rd x i) = true := J8 x i _ (by decide +kernel) (by decide +kernel)
theorem ob3 (x : Str) (i : Int) : isOb "Reader" "take_letters" (rd x i) = true := J8 x i _ (by decide +kernel) (by decide +kernel)
theorem ob4 (x : Str) (i : Int) : isOb "Reader" "is_ahead" (rd x i) = true := J8 x i _ (by decide +kernel) (by decide +kernel)
theorem ob5 (x : Str) (i : Int) : isOb "Reader" "is_at_letter" (rd x i) = true := J8 x i _ (by decide +kernel) (by decide +kernel)
def At (x : Str) (i : Int) (r : List Nat) : Prop := (x.length ≤ 2500 ∧ ∀ c ∈ cs x, 32 ≤ c ∧ c < 127) ∧ ∃ n : Nat, i = n ∧ n ≤ (cs x).length ∧ (cs x).drop n = r
theorem At.len {x : Str} {i : Int} {r : List Nat} (h : At x i r) : x.length ≤ 2500 := h.1.1
theorem At.rl {x : Str} {i : Int} {r : List Nat} (h : At x i r) : r.length ≤ 2500 := by
 obtain ⟨⟨hl, _⟩, n, rfl, hn, e⟩ := h
 rw [← e, List.length_drop, Dd]
 omega
theorem At.pl {x : Str} {i : Int} {r : List Nat} (h : At x i r) : ∀ c ∈ r, 32 ≤ c ∧ c < 127 := by
 obtain ⟨⟨_, hp⟩, n, rfl, hn, e⟩ := h
 intro c hc
 rw [← e] at hc
 exact hp c (List.mem_of_mem_drop hc)
theorem At.skip {x : Str} {i : Int} {w r : List Nat} (h : At x i (w ++ r)) : At x (i + w.length) r := by
 obtain ⟨hl, n, rfl, hn, e⟩ := h
 have hlen := congrArg List.length e
 rw [List.length_drop, List.length_append] at hlen
 refine ⟨hl, n + w.length, by omega, by omega, ?_⟩
 rw [← List.drop_drop, e, List.drop_left']
 rfl
theorem At.one {x : Str} {i : Int} {c : Nat} {r : List Nat} (h : At x i (c :: r)) : At x (i + 1) r := At.skip (w := [c]) h
theorem At.ok {x : Str} {i : Int} {r : List Nat} (h : At x i r) : okSD (.str x) = true := by
 show (decide (x.length ≤ 100000) && x.cps.toList.all fun c => decide (c < 4294967296)) = true
 rw [Bool.and_eq_true, decide_eq_true_eq, List.all_eq_true]
 exact ⟨by have := h.len; omega, fun c hc => decide_eq_true (by have := (h.1.2 c hc).2; omega)⟩
theorem QK (T : List Nat) (n k : Nat) (h : n ≤ T.length) : cutD T (some (n : Int)) (some ((n : Int) + k)) = (T.drop n).take k := by
 unfold cutD HT.sIx
 have e1 : ¬ ((n : Int) < 0) := by omega
 have e2 : ¬ ((n : Int) + k < 0) := by omega
 simp only [e1, e2, if_false]
 have q1 : min (n : Int).toNat T.length = n := by omega
 have q2 : min ((n : Int) + k).toNat T.length = min (n + k) T.length := by omega
 first
  | rw [q1, q2]
  | simp only [Int.toNat_natCast, Nat.min_eq_left h]
 rw [List.take_eq_take_iff, List.length_drop]
 omega
theorem NP {x : Str} {i : Int} {r : List Nat} (y : Str) (hy : y.length ≤ 100) (h : At x i r) : BV [rd x i, .str y] = some (.bl (decide (r.take y.length = cs y))) := by
 have hl := h.len
 obtain ⟨_, n, rfl, hn, e⟩ := h
 have l1 := Jj y (by omega)
 have s1 := sl_s x (some (n : Int)) (some ((n : Int) + y.length)) (by omega)
 have e1 : eqD false (.str (cutS x (some (n : Int)) (some ((n : Int) + y.length)))) (.str y) = some (.bl (decide (r.take y.length = cs y))) := by
  rw [eqs]
  have q : (cutS x (some (n : Int)) (some ((n : Int) + y.length)) = y) ↔ (r.take y.length = cs y) := by
   rw [← e, ← QK (cs x) n y.length hn, ← UG]
   exact ⟨fun z => by rw [z], fun z => Ft z⟩
  simp only [q]
 simp only [ciK, BV, Ed, Ip, f_at, l1, s1, e1]
def strip (t r : List Nat) : Option (List Nat) := if r.take t.length = t then some (r.drop t.length) else none
theorem Bm {t r r' : List Nat} (h : strip t r = some r') : r = t ++ r' := by
 unfold strip at h
 split at h
 ·rename_i e
  cases h
  have := List.take_append_drop t.length r
  rw [e] at this
  exact this.symm
 ·cases h
theorem Ir (t r : List Nat) : strip t (t ++ r) = some r := by
 unfold strip
 rw [if_pos (by simp)]
 simp
theorem ah_t {x : Str} {i : Int} {r r' : List Nat} (y : Str) (hy : y.length ≤ 100) (h : At x i r) (hs : strip (cs y) r = some r') : BV [rd x i, .str y] = some (.bl true) := by
 rw [NP y hy h, Bm hs]
 have : (cs y ++ r').take y.length = cs y := by rw [← Dd y]; simp
 simp [this]
theorem ah_f {x : Str} {i : Int} {r : List Nat} (y : Str) (hy : y.length ≤ 100) (h : At x i r) (hs : strip (cs y) r = none) : BV [rd x i, .str y] = some (.bl false) := by
 rw [NP y hy h]
 have : ¬ (r.take y.length = cs y) := fun e => by
  unfold strip at hs
  rw [Dd, if_pos e] at hs
  cases hs
 simp [this]
def E (x : Str) : D := .exc "NoSaying" [("line", .str x)]
theorem J9 {x : Str} (i : Int) (ρ : Rho) (ho : okSD (.str x) = true) : excF "NoSaying" "line" okSD (uF (fldD "line") (vU 0)) (.ow (rd x i) :: ρ) = some (E x) := by
 unfold excF
 have e : uF (fldD "line") (vU 0) (.ow (rd x i) :: ρ) = some (.str x) := Ip x i
 rw [e, Option.bind_some, if_pos ho]
 rfl
def dz1 (r : Option (D × Rho)) : Option Out := r.map fun r => match excOf r.1 with | some _ => .rt r.1 r.2 | none => .nx r.2
theorem Br (h : FZ) (ρ : Rho) : Ea h ρ = dz1 (h ρ) := of_eq_true (eq_self _)
theorem E_ (x : Str) (ρ : Rho) : dz1 (some (E x, ρ)) = some (.rt (E x) ρ) := of_eq_true (eq_self _)
theorem Dh (ρ : Rho) : dz1 (some (.non, ρ)) = some (.nx ρ) := of_eq_true (eq_self _)
def sz1 (i : Nat) (r : Option (D × Rho)) : Option Out := r.map fun r => match excOf r.1 with | some _ => .rt r.1 r.2 | none => .nx (r.2.set i (.fz r.1))
theorem Ce (i : Nat) (h : FZ) (ρ : Rho) : HX i h ρ = sz1 i (h ρ) := of_eq_true (eq_self _)
theorem J_ (i : Nat) (x : Str) (ρ : Rho) : sz1 i (some (E x, ρ)) = some (.rt (E x) ρ) := of_eq_true (eq_self _)
theorem JQ (i : Nat) (y : Str) (ρ : Rho) : sz1 i (some (.str y, ρ)) = some (.nx (ρ.set i (.fz (.str y)))) := of_eq_true (eq_self _)
theorem JX (s : Say) : excOf (enc s) = none := by cases s <;> rfl
theorem IW (i : Nat) (s : Say) (ρ : Rho) : sz1 i (some (enc s, ρ)) = some (.nx (ρ.set i (.fz (enc s)))) := by
 simp [sz1, JX]
def tz1 (r : Option (List D × Rho)) : Option (D × Rho) := r.bind fun r => match excL r.1 with | some q => some (.exc q.1 q.2, r.2) | none => if r.1.length ≤ sizeLine then some (.tup r.1, r.2) else none
theorem HF (h : FZA) (ρ : Rho) : Kw h ρ = tz1 (h ρ) := of_eq_true (eq_self _)
theorem UT (a b x : Str) (ρ : Rho) : tz1 (some ([.str a, .str b, E x], ρ)) = some (E x, ρ) := of_eq_true (eq_self _)
theorem Y0 (a b c : Str) (ρ : Rho) : tz1 (some ([.str a, .str b, .str c], ρ)) = some (.tup [.str a, .str b, .str c], ρ) := of_eq_true (eq_self _)
theorem Y4 (a b : Str) (s : Say) (ρ : Rho) : tz1 (some ([.str a, .str b, enc s], ρ)) = some (.tup [.str a, .str b, enc s], ρ) := by
 have h : (3 : Nat) ≤ sizeLine := by decide
 have e1 : excOf (.str a) = none := rfl
 have e2 : excOf (.str b) = none := rfl
 simp [tz1, excL, List.findSome?, e1, e2, JX, h]
theorem Y5 (a x : Str) (ρ : Rho) : tz1 (some ([.str a, E x], ρ)) = some (E x, ρ) := of_eq_true (eq_self _)
theorem Y6 (a : Str) (s : Say) (ρ : Rho) : tz1 (some ([.str a, enc s], ρ)) = some (.tup [.str a, enc s], ρ) := by
 have h : (2 : Nat) ≤ sizeLine := by decide
 have e1 : excOf (.str a) = none := rfl
 simp [tz1, excL, List.findSome?, e1, JX, h]
theorem Oe {x : Str} {i : Int} {r r' : List Nat} (y : Str) (hy : y.length ≤ 100) (h : At x i r) (hs : strip (cs y) r = some r') : BW [rd x i, .str y] = some (.non, rd x (i + y.length)) ∧ At x (i + y.length) r' := by
 have a := ah_t y hy h hs
 have l1 := Jj y (by omega)
 refine ⟨by simp only [ciK, BW, Ex, Al, Ac, Bx, Am, Ad, An, Ae, BZ, Ba, Bb, Ao, Af, Aq, Ag, Bc, Ar, Av, Bd, Aw, Ax, Ah, Be, Ay, Bf, Az, By, Bg, Bh, Bj, Ai, A_, BJ, ob4, a, f_at, l1, p_at], ?_⟩
 rw [Bm hs] at h
 have := h.skip
 rwa [Dd] at this
theorem UV {x : Str} {i : Int} {r : List Nat} (y : Str) (hy : y.length ≤ 100) (h : At x i r) (hs : strip (cs y) r = none) : BW [rd x i, .str y] = some (E x, rd x i) := by
 have a := ah_f y hy h hs
 have ex := fun ρ => J9 i ρ h.ok
 simp only [cK, BW, Ex, Al, Ac, Bx, Am, Ad, An, Ae, BZ, Ba, Bb, Ao, Af, Aq, Ag, Bc, Ar, Av, Bd, Aw, Ax, Ah, Be, Ay, Bf, Az, By, Bg, Bh, Bj, Ai, A_, BJ, ob4, a, ex]
def isl (c : Nat) : Bool := decide (c ∈ cs LET)
theorem UW (c : Nat) : inD false (.str ⟨#[c]⟩) (.str LET) = some (.bl (!(Builtin.Str.occurrences LET ⟨#[c]⟩ 0 LET.length 1).isEmpty)) := of_eq_true (eq_self _)
theorem Y7 : ∀ c < 127, (!(Builtin.Str.occurrences LET ⟨#[c]⟩ 0 LET.length 1).isEmpty) = isl c := by decide +kernel
theorem Y8 : ∀ c ∈ cs LET, (!(Builtin.Str.occurrences LET ⟨#[c]⟩ 0 LET.length 1).isEmpty) = true := by decide +kernel
theorem Xc {x : Str} {i : Int} {c : Nat} {r : List Nat} (h : At x i (c :: r)) : ixD (.str x) (.int i) = some (.str ⟨#[c]⟩) ∧ i < x.length := by
 have hl := h.len
 obtain ⟨_, n, rfl, hn, e⟩ := h
 have hlt : n < (cs x).length := by
  have := congrArg List.length e
  rw [List.length_drop, List.length_cons] at this
  omega
 have g : (cs x)[n]? = some c := by
  have := List.getElem?_drop (xs := cs x) (i := n) (j := 0)
  rw [e] at this
  simpa using this.symm
 refine ⟨?_, by rw [← Dd]; omega⟩
 show (if x.length ≤ sizeLine then (atI (cs x) (n : Int)).map (fun c => D.str ⟨#[c]⟩) else none) = _
 rw [if_pos (Dy (by omega)), Gj, g]
 rfl
theorem Y9 {x : Str} {i : Int} (h : At x i []) : i = x.length := by
 obtain ⟨_, n, rfl, hn, e⟩ := h
 have := congrArg List.length e
 rw [List.length_drop, Dd, List.length_nil] at this
 rw [Dd] at hn
 omega
theorem KC {x : Str} {i : Int} {c : Nat} {r : List Nat} (h : At x i (c :: r)) : Bp [rd x i] = some (.bl (isl c)) := by
 obtain ⟨e1, e2⟩ := Xc h
 have l1 := Jj x (by have := h.len; omega)
 have e3 : inD false (.str ⟨#[c]⟩) (.str LET) = some (.bl (isl c)) := by rw [UW, Y7 c (h.pl c (by simp)).2]
 have hL : (Str.ofString "abcdefghijklmnopqrstuvwxyz") = LET := rfl
 simp only [ciK, Bp, Cp, hL, Ip, f_at, l1, e1, e2, e3]
theorem NQ {x : Str} {i : Int} (h : At x i []) : Bp [rd x i] = some (.bl false) := by
 have e := Y9 h
 have l1 := Jj x (by have := h.len; omega)
 have e2 : ¬ (i < (x.length : Int)) := by omega
 simp only [ciK, Bp, Cp, Ip, f_at, l1, e2]
def nm : List Nat → Option (Str × List Nat)
 | [] => none
 | c :: r => if isl c = true then some (⟨#[c]⟩, r) else none
theorem Ia {r : List Nat} {a : Str} {r' : List Nat} (h : nm r = some (a, r')) : Nm a ∧ r = cs a ++ r' := by
 cases r with
 | nil => cases h
 | cons c r =>
  simp only [nm] at h
  split at h
  ·rename_i hc
   cases h
   exact ⟨⟨c, of_decide_eq_true hc, rfl⟩, rfl⟩
  ·cases h
theorem Iu {a : Str} (h : Nm a) (r : List Nat) : nm (cs a ++ r) = some (a, r) := by
 obtain ⟨c, hc, rfl⟩ := h
 have : isl c = true := decide_eq_true hc
 show (if isl c = true then some ((⟨#[c]⟩ : Str), r) else none) = _
 rw [if_pos this]
theorem Lw {x : Str} {i : Int} {r r' : List Nat} {a : Str} (h : At x i r) (hs : nm r = some (a, r')) : Bv [rd x i] = some (.str a, rd x (i + 1)) ∧ At x (i + 1) r' := by
 cases r with
 | nil => cases hs
 | cons c r =>
  simp only [nm] at hs
  split at hs
  ·rename_i hc
   cases hs
   have a := KC h
   rw [hc] at a
   obtain ⟨e1, e2⟩ := Xc h
   have e3 : i + 1 - 1 = i := by omega
   exact ⟨by simp only [ciK, Bv, DK, Al, Ac, Bx, Am, Ad, An, Ae, BZ, Ba, Bb, Ao, Af, Aq, Ag, Bc, Ar, Av, Bd, Aw, Ax, Ah, Be, Ay, Bf, Az, By, Bg, Bh, Bj, Ai, A_, BJ, ob5, a, f_at, Ip, p_at, e3, e1], h.one⟩
  ·cases hs
theorem Lx {x : Str} {i : Int} {r : List Nat} (h : At x i r) (hs : nm r = none) : Bv [rd x i] = some (E x, rd x i) := by
 have ex := fun ρ => J9 i ρ h.ok
 have a : Bp [rd x i] = some (.bl false) := by
  cases r with
  | nil => exact NQ h
  | cons c r =>
   rw [KC h]
   simp only [nm] at hs
   split at hs
   ·cases hs
   ·rename_i hc; rw [Bool.eq_false_iff.mpr hc]
 simp only [cK, Bv, DK, Al, Ac, Bx, Am, Ad, An, Ae, BZ, Ba, Bb, Ao, Af, Aq, Ag, Bc, Ar, Av, Bd, Aw, Ax, Ah, Be, Ay, Bf, Az, By, Bg, Bh, Bj, Ai, A_, BJ, ob5, a, ex]
theorem Ly {x : Str} (z : Slot) : ∀ (r : List Nat) (i : Int) (k : Nat), At x i r → r.length < k →
  FW Bq CN k [.ow (rd x i), z] = some (.nx [.ow (rd x (i + (r.takeWhile isl).length)), z]) := by
 intro r
 induction r with
 | nil =>
  intro i k h hk
  obtain ⟨k, rfl⟩ : ∃ m, k = m + 1 := ⟨k - 1, by simp at hk; omega⟩
  have a := NQ h
  have t0 : Bq [.ow (rd x i), z] = some false := by simp only [cK, Bq, Al, Ac, Bx, Am, Ad, An, Ae, BZ, Ba, Bb, Ao, Af, Aq, Ag, Bc, Ar, Av, Bd, Aw, Ax, Ah, Be, Ay, Bf, Az, By, Bg, Bh, Bj, Ai, A_, BJ, ob5, a]
  unfold FW
  rw [t0]
  simp
 | cons d w ih =>
  intro i k h hk
  obtain ⟨k, rfl⟩ : ∃ m, k = m + 1 := ⟨k - 1, by simp at hk; omega⟩
  have a := KC h
  have t0 : Bq [.ow (rd x i), z] = some (isl d) := by simp only [cK, Bq, Al, Ac, Bx, Am, Ad, An, Ae, BZ, Ba, Bb, Ao, Af, Aq, Ag, Bc, Ar, Av, Bd, Aw, Ax, Ah, Be, Ay, Bf, Az, By, Bg, Bh, Bj, Ai, A_, BJ, ob5, a]
  unfold FW
  rw [t0]
  cases hd : isl d with
  | false => simp [List.takeWhile, hd]
  | true =>
   have b0 : CN [.ow (rd x i), z] = some (.nx [.ow (rd x (i + 1)), z]) := by simp only [ciK, CN, Al, Ac, Bx, Am, Ad, An, Ae, BZ, Ba, Bb, Ao, Af, Aq, Ag, Bc, Ar, Av, Bd, Aw, Ax, Ah, Be, Ay, Bf, Az, By, Bg, Bh, Bj, Ai, A_, BJ, f_at, p_at]
   have e := ih (i + 1) k h.one (by simp at hk; omega)
   rw [b0]
   show FW Bq CN k [.ow (rd x (i + 1)), z] = _
   rw [e]
   simp only [List.takeWhile, hd, List.length_cons, Int.natCast_add, Int.natCast_one]
   rw [show i + 1 + ((w.takeWhile isl).length : Int) = i + (((w.takeWhile isl).length : Int) + 1) by omega]
def W (r : List Nat) : Str := ⟨(r.takeWhile isl).toArray⟩
theorem cs_W (r : List Nat) : cs (W r) = r.takeWhile isl := by simp [W, cs]
theorem Xd (r : List Nat) : IsL (W r) := fun c hc => by
 rw [cs_W] at hc
 have key : ∀ r : List Nat, ∀ c ∈ r.takeWhile isl, isl c = true := by
  intro r
  induction r with
  | nil => intro c hc; cases hc
  | cons d r ih =>
   intro c hc
   rw [List.takeWhile_cons] at hc
   split at hc
   ·rename_i hd
    rcases List.mem_cons.mp hc with rfl | hc
    ·exact hd
    ·exact ih c hc
   ·cases hc
 exact of_decide_eq_true (key r c hc)
theorem Ib (r : List Nat) : r = cs (W r) ++ r.dropWhile isl := by rw [cs_W]; exact List.takeWhile_append_dropWhile.symm
theorem Og {x : Str} {i : Int} {r : List Nat} (h : At x i r) : Cq [rd x i] = some (.str (W r), rd x (i + (W r).length)) ∧ At x (i + (W r).length) (r.dropWhile isl) := by
 have hl := h.rl
 have w := Ly (x := x) (.fz (.int i)) r i 3000 h (by omega)
 rw [← cs_W, Dd] at w
 have s1 := sl_s x (some i) (some (i + (W r).length)) (by have := h.len; omega)
 have e1 : cutS x (some i) (some (i + (W r).length)) = W r := by
  obtain ⟨hx, n, rfl, hn, e⟩ := h
  apply Ft
  rw [UG, QK _ _ _ hn, e, ← Dd (W r)]
  have := Ib r
  have e2 : List.take (cs (W r)).length (cs (W r) ++ r.dropWhile isl) = cs (W r) := by simp
  rw [← this] at e2
  exact e2
 rw [e1] at s1
 refine ⟨by simp only [cK, Cq, DR, Al, Ac, Bx, Am, Ad, An, Ae, BZ, Ba, Bb, Ao, Af, Aq, Ag, Bc, Ar, Av, Bd, Aw, Ax, Ah, Be, Ay, Bf, Az, By, Bg, Bh, Bj, Ai, A_, BJ, f_at, Ip, w, s1], ?_⟩
 rw [Ib r] at h
 have := h.skip
 rwa [Dd] at this
theorem WN {x : Str} (h : x ∉ KEPT) : inF false (.str x) c_KEPT_TEXTS = some (.bl false) := by
 have e : inF false (.str x) c_KEPT_TEXTS = inD false (.str x) (.lst (KEPT.map .str)) := rfl
 rw [e, K7]
 have : (KEPT.any fun y => y == x) = false := by
  rw [List.any_eq_false]
  intro y hy hz
  have := beq_iff_eq.mp hz
  exact h (this ▸ hy)
 rw [this]
theorem Ua (x : Str) (h : x.length ≤ 10000000) : lenE (.str x) = some (.int x.length) := Jj x h
theorem WP {x : Str} (h : Wd x) : Ds [.str x] = some (.bl true) := by
 have k := WN h.kept
 have h1 := h.lo
 have h2 := h.hi
 have l := Ua x (by omega)
 have c0 : ¬ ((x.length : Int) = 0) := by omega
 have c8 : ¬ ((8 : Int) < x.length) := by omega
 have cc : ∀ l : List Nat, (∀ c ∈ l, c ∈ cs LET) → FJ [.fz (.str x)] allT Ez (l.map fun c => .str ⟨#[c]⟩) = some (l.map fun _ => .bl true) := by
  intro l
  induction l with
  | nil => intro _; rfl
  | cons c r ih =>
   intro hl
   have v : Ez ([.fz (.str x)] ++ [.fz (.str ⟨#[c]⟩)]) = some (.bl true) := by
    have e : inF false (.str ⟨#[c]⟩) (.str LET) = some (.bl true) := by
     show inD false (.str ⟨#[c]⟩) (.str LET) = _
     rw [UW, Y8 c (hl c (by simp))]
    have hL : (Str.ofString "abcdefghijklmnopqrstuvwxyz") = LET := rfl
    simp only [cK, Ez, hL, e]
   rw [List.map_cons, Nv, SN, v, ih fun d hd => hl d (by simp [hd])]
   rfl
 have c1 : HR (seqA (vF 0)) allT Ez [.fz (.str x)] = some (.lst ((cs x).map fun _ => .bl true)) := by
  refine O4 (ds := (cs x).map fun c => .str ⟨#[c]⟩) (by rfl) (by rw [List.length_map, Dd]; omega) (cc (cs x) h.isL)
 have al : ∀ l : List Nat, allD (.lst (l.map fun _ => .bl true)) = some (.bl true) := by
  intro l
  have q : ∀ l : List Nat, blsD (l.map fun _ => D.bl true) = some (l.map fun _ => true) := by
   intro l
   induction l with
   | nil => rfl
   | cons c r ih => simp [blsD, ih]
  show (blsD (l.map fun _ => D.bl true)).map _ = _
  rw [q]
  simp
 simp only [ciK, Ds, FQ, k, l, c0, c8, c1, al]
end K24
namespace K24
open PySem L2 PV
theorem c_p : cs "(" = [40] := by decide +kernel
theorem c_q : cs ")" = [41] := by decide +kernel
theorem c_c : cs "," = [44] := by decide +kernel
theorem c_e : cs "=" = [61] := by decide +kernel
theorem c_b : cs " " = [32] := by decide +kernel
theorem Ub : cs "not" = [110, 111, 116] := by decide +kernel
theorem Uc : cs "not " = [110, 111, 116, 32] := by decide +kernel
theorem Y_ : cs "some" = [115, 111, 109, 101] := by decide +kernel
theorem Z3 : cs "all" = [97, 108, 108] := by decide +kernel
theorem Z4 : cs " and " = [32, 97, 110, 100, 32] := by decide +kernel
theorem c_or : cs " or " = [32, 111, 114, 32] := by decide +kernel
def wd (w : Str) : Bool := !(KEPT.any fun y => y == w) && decide (1 ≤ w.length) && decide (w.length ≤ 8)
theorem Xe {w : Str} (hL : IsL w) (h : wd w = true) : Wd w := by
 unfold wd at h
 simp only [Bool.and_eq_true, decide_eq_true_eq, Bool.not_eq_true', List.any_eq_false, beq_iff_eq] at h
 exact ⟨h.1.2, h.2, hL, fun hk => h.1.1 w hk rfl⟩
theorem Xf {w : Str} (h : Wd w) : wd w = true := by
 unfold wd
 simp only [Bool.and_eq_true, decide_eq_true_eq, Bool.not_eq_true', List.any_eq_false, beq_iff_eq]
 exact ⟨⟨fun y hy e => h.kept (e ▸ hy), h.lo⟩, h.hi⟩
def Rm (w : Str) (r : List Nat) : Option (Say × List Nat) :=
 if wd w = true then (strip [40] r).bind fun r1 => (nm r1).bind fun a => match strip [41] a.2 with
  | some r3 => some (.mark w a.1, r3)
  | none => (strip [44] a.2).bind fun r3 => (nm r3).bind fun b => (strip [41] b.2).map fun r5 => (.tie w a.1 b.1, r5)
 else none
def Re (w : Str) (r : List Nat) : Option (Say × List Nat) :=
 if w.length = 1 then (strip [61] r).bind fun r1 => (nm r1).map fun a => (.same w a.1, a.2) else none
def Rb (f : List Nat → Option (Say × List Nat)) (r : List Nat) : Option (Say × List Nat) :=
 (strip [40] r).bind fun r1 => (f r1).bind fun s => match strip (cs " and ") s.2 with
  | some r3 => (f r3).bind fun t => (strip [41] t.2).map fun r5 => (.both s.1 t.1, r5)
  | none => (strip (cs " or ") s.2).bind fun r3 => (f r3).bind fun t => (strip [41] t.2).map fun r5 => (.either s.1 t.1, r5)
def Rq (f : List Nat → Option (Say × List Nat)) (w : Str) (r : List Nat) : Option (Say × List Nat) :=
 (strip [32] r).bind fun r1 => (nm r1).bind fun a => (strip [32] a.2).bind fun r3 => (f r3).map fun s => (if w = "some" then .ex a.1 s.1 else .al a.1 s.1, s.2)
def Rn (f : List Nat → Option (Say × List Nat)) (r : List Nat) : Option (Say × List Nat) :=
 (strip [32] r).bind fun r1 => (f r1).map fun s => (.neg s.1, s.2)
def Rt (f : List Nat → Option (Say × List Nat)) (w : Str) (r : List Nat) : Option (Say × List Nat) :=
 if (strip [40] r).isSome = true then Rm w r else if (strip [61] r).isSome = true then Re w r else if w = "some" ∨ w = "all" then Rq f w r else if w = "not" then Rn f r else none
def R : Nat → List Nat → Option (Say × List Nat)
 | 0, _ => none
 | n + 1, r => if (strip [40] r).isSome = true then Rb (R n) r else Rt (R n) (W r) (r.dropWhile isl)
def ctp : Nat → List Nat → Nat
 | _, [] => 0
 | p, c :: r => (if c = 40 ∨ (c = 32 ∧ (p = 116 ∨ p = 101 ∨ p = 108)) then 1 else 0) + ctp c r
theorem Ud (p : Nat) (r : List Nat) : ctp 0 r ≤ ctp p r := by
 cases r with
 | nil => exact Nat.le_refl _
 | cons c r =>
  unfold ctp
  have : (if c = 40 ∨ (c = 32 ∧ ((0 : Nat) = 116 ∨ (0 : Nat) = 101 ∨ (0 : Nat) = 108)) then 1 else 0) ≤ (if c = 40 ∨ (c = 32 ∧ (p = 116 ∨ p = 101 ∨ p = 108)) then 1 else 0) := by
   by_cases h : c = 40
   ·simp [h]
   ·simp [h]
  omega
theorem QL (a : List Nat) : ∀ (p : Nat) (b : List Nat), ctp p (a ++ b) = ctp p a + ctp (a.getLastD p) b := by
 induction a with
 | nil => intro p b; simp [ctp]
 | cons c a ih =>
  intro p b
  have e1 : ∀ l, ctp p (c :: l) = (if c = 40 ∨ (c = 32 ∧ (p = 116 ∨ p = 101 ∨ p = 108)) then 1 else 0) + ctp c l := fun l => rfl
  rw [List.cons_append, List.getLastD_cons, e1, e1, ih c b]
  omega
theorem Lz (a b : List Nat) (p : Nat) : ctp 0 b ≤ ctp p (a ++ b) := by
 rw [QL]
 have := Ud (a.getLastD p) b
 omega
abbrev ct (r : List Nat) : Nat := ctp 0 r
theorem ct_p (r : List Nat) : ct r + 1 ≤ ct (40 :: r) := by
 have := Ud 40 r
 show ctp 0 r + 1 ≤ (if (40 : Nat) = 40 ∨ _ then 1 else 0) + ctp 40 r
 rw [if_pos (.inl rfl)]
 omega
theorem ct_w (w : Str) (hw : w = "some" ∨ w = "all" ∨ w = "not") (r : List Nat) : ct r + 1 ≤ ct (cs w ++ 32 :: r) := by
 have := Ud 32 r
 rcases hw with rfl | rfl | rfl
 ·rw [Y_]; simp [ct, ctp]; omega
 ·rw [Z3]; simp [ct, ctp]; omega
 ·rw [Ub]; simp [ct, ctp]; omega
theorem Ue {w : Str} {r : List Nat} {s : Say} {r' : List Nat} (hL : IsL w) (h : Rm w r = some (s, r')) : cs w ++ r = cs (txt s) ++ r' ∧ Gd s ∧ hgt s = 1 := by
 unfold Rm at h
 split at h
 ·rename_i hw
  have hW := Xe hL hw
  cases e1 : strip [40] r with
  | none => rw [e1] at h; cases h
  | some r1 =>
   rw [e1, Option.bind_some] at h
   cases e2 : nm r1 with
   | none => rw [e2] at h; cases h
   | some a =>
    obtain ⟨a, r2⟩ := a
    rw [e2, Option.bind_some] at h
    obtain ⟨na, er1⟩ := Ia e2
    have er := Bm e1
    simp only at h
    cases e3 : strip [41] r2 with
    | some r3 =>
     rw [e3] at h
     cases h
     refine ⟨?_, ⟨hW, na⟩, rfl⟩
     rw [er, er1, Bm e3]
     simp only [txt, Cj, c_p, c_q, List.append_assoc]
    | none =>
     rw [e3] at h
     simp only at h
     cases e4 : strip [44] r2 with
     | none => rw [e4] at h; cases h
     | some r3 =>
      rw [e4, Option.bind_some] at h
      cases e5 : nm r3 with
      | none => rw [e5] at h; cases h
      | some b =>
       obtain ⟨b, r4⟩ := b
       rw [e5, Option.bind_some] at h
       obtain ⟨nb, er3⟩ := Ia e5
       simp only at h
       cases e6 : strip [41] r4 with
       | none => rw [e6] at h; cases h
       | some r5 =>
        rw [e6] at h
        cases h
        refine ⟨?_, ⟨hW, na, nb⟩, rfl⟩
        rw [er, er1, Bm e4, er3, Bm e6]
        simp only [txt, Cj, c_p, c_q, c_c, List.append_assoc]
 ·cases h
theorem Ug {w : Str} {r : List Nat} {s : Say} {r' : List Nat} (hL : IsL w) (h : Re w r = some (s, r')) : cs w ++ r = cs (txt s) ++ r' ∧ Gd s ∧ hgt s = 1 := by
 unfold Re at h
 split at h
 ·rename_i hw
  have nw : Nm w := by
   have e : (cs w).length = 1 := by rw [Dd]; exact hw
   match hc : cs w, e with
   | [c], _ =>
    refine ⟨c, hL c (by rw [hc]; simp), Ft ?_⟩
    rw [hc]
  cases e1 : strip [61] r with
  | none => rw [e1] at h; cases h
  | some r1 =>
   rw [e1, Option.bind_some] at h
   cases e2 : nm r1 with
   | none => rw [e2] at h; cases h
   | some a =>
    obtain ⟨a, r2⟩ := a
    rw [e2] at h
    cases h
    obtain ⟨na, er1⟩ := Ia e2
    refine ⟨?_, ⟨nw, na⟩, rfl⟩
    rw [Bm e1, er1]
    simp only [txt, Cj, c_e, List.append_assoc]
 ·cases h
theorem QM : ∀ (n : Nat) (r : List Nat) (s : Say) (r' : List Nat), R n r = some (s, r') → r = cs (txt s) ++ r' ∧ Gd s ∧ hgt s ≤ n := by
 intro n
 induction n with
 | zero => intro r s r' h; cases h
 | succ n ih =>
  intro r s r' h
  unfold R at h
  split at h
  ·unfold Rb at h
   cases e1 : strip [40] r with
   | none => rw [e1] at h; cases h
   | some r1 =>
    rw [e1, Option.bind_some] at h
    cases e2 : R n r1 with
    | none => rw [e2] at h; cases h
    | some p =>
     obtain ⟨u, r2⟩ := p
     rw [e2, Option.bind_some] at h
     obtain ⟨q1, q2, q3⟩ := ih _ _ _ e2
     simp only at h
     cases e3 : strip (cs " and ") r2 with
     | some r3 =>
      rw [e3] at h
      simp only at h
      cases e4 : R n r3 with
      | none => rw [e4] at h; cases h
      | some p =>
       obtain ⟨t, r4⟩ := p
       rw [e4, Option.bind_some] at h
       obtain ⟨y1, y2, y3⟩ := ih _ _ _ e4
       simp only at h
       cases e5 : strip [41] r4 with
       | none => rw [e5] at h; cases h
       | some r5 =>
        rw [e5] at h
        cases h
        refine ⟨?_, ⟨q2, y2⟩, by simp only [hgt]; omega⟩
        rw [Bm e1, q1, Bm e3, y1, Bm e5]
        simp only [txt, Cj, c_p, c_q, List.append_assoc]
     | none =>
      rw [e3] at h
      simp only at h
      cases e6 : strip (cs " or ") r2 with
      | none => rw [e6] at h; cases h
      | some r3 =>
       rw [e6, Option.bind_some] at h
       cases e4 : R n r3 with
       | none => rw [e4] at h; cases h
       | some p =>
        obtain ⟨t, r4⟩ := p
        rw [e4, Option.bind_some] at h
        obtain ⟨y1, y2, y3⟩ := ih _ _ _ e4
        simp only at h
        cases e5 : strip [41] r4 with
        | none => rw [e5] at h; cases h
        | some r5 =>
         rw [e5] at h
         cases h
         refine ⟨?_, ⟨q2, y2⟩, by simp only [hgt]; omega⟩
         rw [Bm e1, q1, Bm e6, y1, Bm e5]
         simp only [txt, Cj, c_p, c_q, List.append_assoc]
  ·have hs := Ib r
   have hL := Xd r
   generalize W r = w at h hs hL
   generalize r.dropWhile isl = q at h hs
   unfold Rt at h
   split at h
   ·obtain ⟨y1, y2, y3⟩ := Ue hL h
    exact ⟨hs.trans y1, y2, by omega⟩
   ·split at h
    ·obtain ⟨y1, y2, y3⟩ := Ug hL h
     exact ⟨hs.trans y1, y2, by omega⟩
    ·split at h
     ·rename_i hw
      unfold Rq at h
      cases e1 : strip [32] q with
      | none => rw [e1] at h; cases h
      | some r1 =>
       rw [e1, Option.bind_some] at h
       cases e2 : nm r1 with
       | none => rw [e2] at h; cases h
       | some a =>
        obtain ⟨a, r2⟩ := a
        rw [e2, Option.bind_some] at h
        obtain ⟨na, er1⟩ := Ia e2
        simp only at h
        cases e3 : strip [32] r2 with
        | none => rw [e3] at h; cases h
        | some r3 =>
         rw [e3, Option.bind_some] at h
         cases e4 : R n r3 with
         | none => rw [e4] at h; cases h
         | some p =>
          obtain ⟨t, r4⟩ := p
          rw [e4] at h
          obtain ⟨y1, y2, y3⟩ := ih _ _ _ e4
          rcases hw with rfl | rfl
          ·cases h
           refine ⟨?_, ⟨na, y2⟩, by simp only [if_pos, hgt]; omega⟩
           rw [hs, Bm e1, er1, Bm e3, y1]
           simp only [if_pos, txt, Cj, c_b, List.append_assoc]
          ·have e : ¬ (("all" : Str) = "some") := by decide +kernel
           simp only [Option.map_some, if_neg e] at h
           cases h
           refine ⟨?_, ⟨na, y2⟩, by simp only [hgt]; omega⟩
           rw [hs, Bm e1, er1, Bm e3, y1]
           simp only [txt, Cj, c_b, List.append_assoc]
     ·split at h
      ·rename_i hw
       subst hw
       unfold Rn at h
       cases e1 : strip [32] q with
       | none => rw [e1] at h; cases h
       | some r1 =>
        rw [e1, Option.bind_some] at h
        cases e4 : R n r1 with
        | none => rw [e4] at h; cases h
        | some p =>
         obtain ⟨t, r4⟩ := p
         rw [e4] at h
         obtain ⟨y1, y2, y3⟩ := ih _ _ _ e4
         cases h
         refine ⟨?_, y2, by simp only [hgt]; omega⟩
         rw [hs, Bm e1, y1]
         simp only [txt, Cj, Ub, Uc, List.append_assoc, List.cons_append, List.nil_append]
      ·cases h
end K24
namespace K24
open PySem L2 PV
def Res (x : Str) (o : Option (Say × List Nat)) (res : Option (D × D)) : Prop := match o with
 | some p => ∃ j, At x j p.2 ∧ res = some (enc p.1, rd x j)
 | none => ∃ j, res = some (E x, rd x j)
theorem Res.no {x : Str} {res : Option (D × D)} {j : Int} (h : res = some (E x, rd x j)) : Res x none res := ⟨j, h⟩
theorem Res.yes {x : Str} {res : Option (D × D)} {j : Int} {s : Say} {r : List Nat} (a : At x j r) (h : res = some (enc s, rd x j)) : Res x (some (s, r)) res := ⟨j, a, h⟩
theorem WQ (w : Str) : inF false (.str w) c_KEPT_TEXTS = some (.bl (KEPT.any fun y => y == w)) := by
 have e : inF false (.str w) c_KEPT_TEXTS = inD false (.str w) (.lst (KEPT.map .str)) := rfl
 rw [e, K7]
theorem ZC {w : Str} (h : wd w = false) (hl : w.length ≤ 2500) : Ds [.str w] = some (.bl false) := by
 have k := WQ w
 have l := Ua w (by omega)
 unfold wd at h
 cases hk : (KEPT.any fun y => y == w) with
 | true =>
  rw [hk] at k
  simp only [cK, Ds, FQ, k]
 | false =>
  rw [hk] at k h
  by_cases h0 : w.length = 0
  ·have c0 : ((w.length : Int) = 0) := by omega
   simp only [ciK, Ds, FQ, k, l, c0]
  ·have h8 : 8 < w.length := by
    simp only [Bool.not_false, Bool.true_and, Bool.and_eq_false_iff, decide_eq_false_iff_not] at h
    omega
   have c0 : ¬ ((w.length : Int) = 0) := by omega
   have c8 : ((8 : Int) < w.length) := by omega
   simp only [ciK, Ds, FQ, k, l, c0, c8]
theorem y1 {y : Str} {c : Nat} (h : cs y = [c]) : y.length = 1 := by rw [← Dd, h]; rfl
theorem tk_t {x : Str} {i : Int} {r r' : List Nat} (y : Str) {c : Nat} (hc : cs y = [c]) (h : At x i r) (hs : strip [c] r = some r') : BW [rd x i, .str y] = some (.non, rd x (i + 1)) ∧ At x (i + 1) r' := by
 have := Oe y (by rw [y1 hc]; decide) h (by rw [hc]; exact hs)
 rw [y1 hc] at this
 exact this
theorem tk_f {x : Str} {i : Int} {r : List Nat} (y : Str) {c : Nat} (hc : cs y = [c]) (h : At x i r) (hs : strip [c] r = none) : BW [rd x i, .str y] = some (E x, rd x i) :=
 UV y (by rw [y1 hc]; decide) h (by rw [hc]; exact hs)
theorem ad_t {x : Str} {i : Int} {r r' : List Nat} (y : Str) {c : Nat} (hc : cs y = [c]) (h : At x i r) (hs : strip [c] r = some r') : BV [rd x i, .str y] = some (.bl true) :=
 ah_t y (by rw [y1 hc]; decide) h (by rw [hc]; exact hs)
theorem ad_f {x : Str} {i : Int} {r : List Nat} (y : Str) {c : Nat} (hc : cs y = [c]) (h : At x i r) (hs : strip [c] r = none) : BV [rd x i, .str y] = some (.bl false) :=
 ah_f y (by rw [y1 hc]; decide) h (by rw [hc]; exact hs)
theorem mt_R {x : Str} {i : Int} {r : List Nat} {w : Str} (h : At x i r) (hL : IsL w) (hl : w.length ≤ 2500) : Res x (Rm w r) (BX [rd x i, .str w]) := by
 unfold Rm
 cases hw : wd w with
 | false =>
  have k := ZC hw hl
  have ex := fun ρ => J9 i ρ h.ok
  rw [if_neg (by simp)]
  exact .no (j := i) (by simp only [cK, BX, Bo, Al, Ac, Bx, Am, Ad, An, Ae, BZ, Ba, Bb, Ao, Af, Aq, Ag, Bc, Ar, Av, Bd, Aw, Ax, Ah, Be, Ay, Bf, Az, By, Bg, Bh, Bj, Ai, A_, BJ, k, ex])
 | true =>
  have k := WP (Xe hL hw)
  rw [if_pos rfl]
  cases e1 : strip [40] r with
  | none =>
   have a1 := tk_f "(" c_p h e1
   exact .no (j := i) (by simp only [cK, BX, Bo, Al, Ac, Bx, Am, Ad, An, Ae, BZ, Ba, Bb, Ao, Af, Aq, Ag, Bc, Ar, Av, Bd, Aw, Ax, Ah, Be, Ay, Bf, Az, By, Bg, Bh, Bj, Ai, A_, BJ, k, ob1, a1, Br, E_])
  | some r1 =>
   obtain ⟨a1, h1⟩ := tk_t "(" c_p h e1
   rw [Option.bind_some]
   cases e2 : nm r1 with
   | none =>
    have a2 := Lx h1 e2
    exact .no (j := i + 1) (by simp only [cK, BX, Bo, Al, Ac, Bx, Am, Ad, An, Ae, BZ, Ba, Bb, Ao, Af, Aq, Ag, Bc, Ar, Av, Bd, Aw, Ax, Ah, Be, Ay, Bf, Az, By, Bg, Bh, Bj, Ai, A_, BJ, k, ob1, ob2, a1, a2, Br, Dh, Ce, J_])
   | some a =>
    obtain ⟨a, r2⟩ := a
    obtain ⟨a2, h2⟩ := Lw h1 e2
    rw [Option.bind_some]
    simp only
    cases e3 : strip [41] r2 with
    | some r3 =>
     have a3 := ad_t ")" c_q h2 e3
     obtain ⟨a4, h3⟩ := tk_t ")" c_q h2 e3
     exact .yes h3 (by simp only [cK, BX, Bo, Al, Ac, Bx, Am, Ad, An, Ae, BZ, Ba, Bb, Ao, Af, Aq, Ag, Bc, Ar, Av, Bd, Aw, Ax, Ah, Be, Ay, Bf, Az, By, Bg, Bh, Bj, Ai, A_, BJ, k, ob1, ob2, ob4, a1, a2, a3, a4, Br, Dh, Ce, JQ, enc])
    | none =>
     have a3 := ad_f ")" c_q h2 e3
     simp only
     cases e4 : strip [44] r2 with
     | none =>
      have a4 := tk_f "," c_c h2 e4
      exact .no (j := i + 1 + 1) (by simp only [cK, BX, Bo, Al, Ac, Bx, Am, Ad, An, Ae, BZ, Ba, Bb, Ao, Af, Aq, Ag, Bc, Ar, Av, Bd, Aw, Ax, Ah, Be, Ay, Bf, Az, By, Bg, Bh, Bj, Ai, A_, BJ, k, ob1, ob2, ob4, a1, a2, a3, a4, Br, Dh, E_, Ce, JQ])
     | some r3 =>
      obtain ⟨a4, h3⟩ := tk_t "," c_c h2 e4
      rw [Option.bind_some]
      cases e5 : nm r3 with
      | none =>
       have a5 := Lx h3 e5
       exact .no (j := i + 1 + 1 + 1) (by simp only [cK, BX, Bo, Al, Ac, Bx, Am, Ad, An, Ae, BZ, Ba, Bb, Ao, Af, Aq, Ag, Bc, Ar, Av, Bd, Aw, Ax, Ah, Be, Ay, Bf, Az, By, Bg, Bh, Bj, Ai, A_, BJ, k, ob1, ob2, ob4, a1, a2, a3, a4, a5, Br, Dh, E_, Ce, JQ, J_])
      | some b =>
       obtain ⟨b, r4⟩ := b
       obtain ⟨a5, h4⟩ := Lw h3 e5
       rw [Option.bind_some]
       simp only
       cases e6 : strip [41] r4 with
       | none =>
        have a6 := tk_f ")" c_q h4 e6
        exact .no (j := i + 1 + 1 + 1 + 1) (by simp only [cK, BX, Bo, Al, Ac, Bx, Am, Ad, An, Ae, BZ, Ba, Bb, Ao, Af, Aq, Ag, Bc, Ar, Av, Bd, Aw, Ax, Ah, Be, Ay, Bf, Az, By, Bg, Bh, Bj, Ai, A_, BJ, k, ob1, ob2, ob4, a1, a2, a3, a4, a5, a6, Br, Dh, E_, Ce, JQ])
       | some r5 =>
        obtain ⟨a6, h5⟩ := tk_t ")" c_q h4 e6
        exact .yes h5 (by simp only [cK, BX, Bo, Al, Ac, Bx, Am, Ad, An, Ae, BZ, Ba, Bb, Ao, Af, Aq, Ag, Bc, Ar, Av, Bd, Aw, Ax, Ah, Be, Ay, Bf, Az, By, Bg, Bh, Bj, Ai, A_, BJ, k, ob1, ob2, ob4, a1, a2, a3, a4, a5, a6, Br, Dh, E_, Ce, JQ, enc])
theorem sm_R {x : Str} {i : Int} {r : List Nat} {w : Str} (h : At x i r) (hl : w.length ≤ 2500) : Res x (Re w r) (C_ [rd x i, .str w]) := by
 have l := Jj w (by omega)
 unfold Re
 split
 ·rename_i hw
  have c1 : ((w.length : Int) = 1) := by omega
  cases e1 : strip [61] r with
  | none =>
   have a1 := tk_f "=" c_e h e1
   exact .no (j := i) (by simp only [ciK, C_, Dt, Al, Ac, Bx, Am, Ad, An, Ae, BZ, Ba, Bb, Ao, Af, Aq, Ag, Bc, Ar, Av, Bd, Aw, Ax, Ah, Be, Ay, Bf, Az, By, Bg, Bh, Bj, Ai, A_, BJ, l, c1, ob1, a1, Br, E_])
  | some r1 =>
   obtain ⟨a1, h1⟩ := tk_t "=" c_e h e1
   rw [Option.bind_some]
   cases e2 : nm r1 with
   | none =>
    have a2 := Lx h1 e2
    exact .no (j := i + 1) (by simp only [ciK, C_, Dt, Al, Ac, Bx, Am, Ad, An, Ae, BZ, Ba, Bb, Ao, Af, Aq, Ag, Bc, Ar, Av, Bd, Aw, Ax, Ah, Be, Ay, Bf, Az, By, Bg, Bh, Bj, Ai, A_, BJ, l, c1, ob1, ob2, a1, a2, Br, Dh, HF, UT])
   | some a =>
    obtain ⟨a, r2⟩ := a
    obtain ⟨a2, h2⟩ := Lw h1 e2
    exact .yes h2 (by simp only [ciK, C_, Dt, Al, Ac, Bx, Am, Ad, An, Ae, BZ, Ba, Bb, Ao, Af, Aq, Ag, Bc, Ar, Av, Bd, Aw, Ax, Ah, Be, Ay, Bf, Az, By, Bg, Bh, Bj, Ai, A_, BJ, l, c1, ob1, ob2, a1, a2, Br, Dh, HF, Y0, enc])
 ·rename_i hw
  have ex := fun ρ => J9 i ρ h.ok
  have c1 : ¬ ((w.length : Int) = 1) := by omega
  exact .no (j := i) (by simp only [ciK, C_, Dt, Al, Ac, Bx, Am, Ad, An, Ae, BZ, Ba, Bb, Ao, Af, Aq, Ag, Bc, Ar, Av, Bd, Aw, Ax, Ah, Be, Ay, Bf, Az, By, Bg, Bh, Bj, Ai, A_, BJ, l, c1, ex])
end K24
namespace K24
open PySem L2 PV
theorem Oh : Str.length " and " = 5 := by decide +kernel
theorem Xg : Str.length " or " = 4 := by decide +kernel
theorem q_bb : eqD false (.str "both") (.str "both") = some (.bl true) := of_eq_true (eq_self _)
theorem q_eb : eqD false (.str "either") (.str "both") = some (.bl false) := of_eq_true (eq_self _)
def Uh (x : Str) (m : Nat) (f : List Nat → Option (Say × List Nat)) (rec : List D → Option (D × D)) : Prop :=
 (∀ i r, At x i r → ct r < m → Res x (f r) (rec [rd x i])) ∧ ∀ r s r', f r = some (s, r') → r = cs (txt s) ++ r'
theorem L_ {r r' t : List Nat} (h : strip t r = some r') : ct r' ≤ ct r := by rw [Bm h]; exact Lz _ _ _
theorem bo_R {x : Str} {m : Nat} {f : List Nat → Option (Say × List Nat)} {rec : List D → Option (D × D)} {i : Int} {r : List Nat} (F : Uh x m f rec) (h : At x i r) (hc : ct r < m + 1) : Res x (Rb f r) (Ak rec [rd x i]) := by
 unfold Rb
 cases e1 : strip [40] r with
 | none =>
  have a1 := tk_f "(" c_p h e1
  exact .no (j := i) (by simp only [cK, Ak, BK, Al, Ac, Bx, Am, Ad, An, Ae, BZ, Ba, Bb, Ao, Af, Aq, Ag, Bc, Ar, Av, Bd, Aw, Ax, Ah, Be, Ay, Bf, Az, By, Bg, Bh, Bj, Ai, A_, BJ, ob1, a1, Br, E_])
 | some r1 =>
  obtain ⟨a1, h1⟩ := tk_t "(" c_p h e1
  have m1 : ct r1 < m := by
   have := ct_p r1
   rw [Bm e1] at hc
   have e : ct ([40] ++ r1) = ct (40 :: r1) := rfl
   omega
  rw [Option.bind_some]
  have q := F.1 _ _ h1 m1
  cases e2 : f r1 with
  | none =>
   rw [e2] at q
   obtain ⟨j, q⟩ := q
   exact .no (j := j) (by simp only [cK, Ak, BK, Al, Ac, Bx, Am, Ad, An, Ae, BZ, Ba, Bb, Ao, Af, Aq, Ag, Bc, Ar, Av, Bd, Aw, Ax, Ah, Be, Ay, Bf, Az, By, Bg, Bh, Bj, Ai, A_, BJ, ob1, a1, q, Br, Dh, Ce, J_])
  | some p =>
   obtain ⟨s, r2⟩ := p
   rw [e2] at q
   obtain ⟨j, h2, q⟩ := q
   simp only at h2 q
   have m2 : ct r2 < m := by
    have := F.2 _ _ _ e2
    have := Lz (cs (txt s)) r2 0
    rw [← F.2 _ _ _ e2] at this
    exact Nat.lt_of_le_of_lt this m1
   rw [Option.bind_some]
   simp only
   cases e3 : strip (cs " and ") r2 with
   | some r3 =>
    have a2 := ah_t " and " (by rw [Oh]; decide) h2 e3
    obtain ⟨a3, h3⟩ := Oe " and " (by rw [Oh]; decide) h2 e3
    have q2 := F.1 _ _ h3 (Nat.lt_of_le_of_lt (L_ e3) m2)
    simp only
    cases e4 : f r3 with
    | none =>
     rw [e4] at q2
     obtain ⟨k, q2⟩ := q2
     exact .no (j := k) (by simp only [cK, Ak, BK, Al, Ac, Bx, Am, Ad, An, Ae, BZ, Ba, Bb, Ao, Af, Aq, Ag, Bc, Ar, Av, Bd, Aw, Ax, Ah, Be, Ay, Bf, Az, By, Bg, Bh, Bj, Ai, A_, BJ, ob1, ob4, a1, a2, a3, q, q2, q_bb, Br, Dh, Ce, IW, J_])
    | some p =>
     obtain ⟨t, r4⟩ := p
     rw [e4] at q2
     obtain ⟨k, h4, q2⟩ := q2
     simp only at h4 q2
     rw [Option.bind_some]
     simp only
     cases e5 : strip [41] r4 with
     | none =>
      have a4 := tk_f ")" c_q h4 e5
      exact .no (j := k) (by simp only [cK, Ak, BK, Al, Ac, Bx, Am, Ad, An, Ae, BZ, Ba, Bb, Ao, Af, Aq, Ag, Bc, Ar, Av, Bd, Aw, Ax, Ah, Be, Ay, Bf, Az, By, Bg, Bh, Bj, Ai, A_, BJ, ob1, ob4, a1, a2, a3, a4, q, q2, q_bb, Br, Dh, E_, Ce, IW])
     | some r5 =>
      obtain ⟨a4, h5⟩ := tk_t ")" c_q h4 e5
      exact .yes h5 (by simp only [cK, Ak, BK, Al, Ac, Bx, Am, Ad, An, Ae, BZ, Ba, Bb, Ao, Af, Aq, Ag, Bc, Ar, Av, Bd, Aw, Ax, Ah, Be, Ay, Bf, Az, By, Bg, Bh, Bj, Ai, A_, BJ, ob1, ob4, a1, a2, a3, a4, q, q2, q_bb, Br, Dh, E_, Ce, IW, enc])
   | none =>
    have a2 := ah_f " and " (by rw [Oh]; decide) h2 e3
    simp only
    cases e6 : strip (cs " or ") r2 with
    | none =>
     have a3 := UV " or " (by rw [Xg]; decide) h2 e6
     exact .no (j := j) (by simp only [cK, Ak, BK, Al, Ac, Bx, Am, Ad, An, Ae, BZ, Ba, Bb, Ao, Af, Aq, Ag, Bc, Ar, Av, Bd, Aw, Ax, Ah, Be, Ay, Bf, Az, By, Bg, Bh, Bj, Ai, A_, BJ, ob1, ob4, a1, a2, a3, q, q_eb, Br, Dh, E_, Ce, IW])
    | some r3 =>
     obtain ⟨a3, h3⟩ := Oe " or " (by rw [Xg]; decide) h2 e6
     have q2 := F.1 _ _ h3 (Nat.lt_of_le_of_lt (L_ e6) m2)
     rw [Option.bind_some]
     cases e4 : f r3 with
     | none =>
      rw [e4] at q2
      obtain ⟨k, q2⟩ := q2
      exact .no (j := k) (by simp only [cK, Ak, BK, Al, Ac, Bx, Am, Ad, An, Ae, BZ, Ba, Bb, Ao, Af, Aq, Ag, Bc, Ar, Av, Bd, Aw, Ax, Ah, Be, Ay, Bf, Az, By, Bg, Bh, Bj, Ai, A_, BJ, ob1, ob4, a1, a2, a3, q, q2, q_eb, Br, Dh, Ce, IW, J_])
     | some p =>
      obtain ⟨t, r4⟩ := p
      rw [e4] at q2
      obtain ⟨k, h4, q2⟩ := q2
      simp only at h4 q2
      rw [Option.bind_some]
      simp only
      cases e5 : strip [41] r4 with
      | none =>
       have a4 := tk_f ")" c_q h4 e5
       exact .no (j := k) (by simp only [cK, Ak, BK, Al, Ac, Bx, Am, Ad, An, Ae, BZ, Ba, Bb, Ao, Af, Aq, Ag, Bc, Ar, Av, Bd, Aw, Ax, Ah, Be, Ay, Bf, Az, By, Bg, Bh, Bj, Ai, A_, BJ, ob1, ob4, a1, a2, a3, a4, q, q2, q_eb, Br, Dh, E_, Ce, IW])
      | some r5 =>
       obtain ⟨a4, h5⟩ := tk_t ")" c_q h4 e5
       exact .yes h5 (by simp only [cK, Ak, BK, Al, Ac, Bx, Am, Ad, An, Ae, BZ, Ba, Bb, Ao, Af, Aq, Ag, Bc, Ar, Av, Bd, Aw, Ax, Ah, Be, Ay, Bf, Az, By, Bg, Bh, Bj, Ai, A_, BJ, ob1, ob4, a1, a2, a3, a4, q, q2, q_eb, Br, Dh, E_, Ce, IW, enc])
theorem sa_R {x : Str} {m : Nat} {f : List Nat → Option (Say × List Nat)} {rec : List D → Option (D × D)} {i : Int} {r : List Nat} {w : Str} (F : Uh x m f rec) (h : At x i r) (hw : w = "some" ∨ w = "all") (hc : ct (cs w ++ r) < m + 1) : Res x (Rq f w r) (Bw rec [rd x i, .str w]) := by
 unfold Rq
 cases e1 : strip [32] r with
 | none =>
  have a1 := tk_f " " c_b h e1
  exact .no (j := i) (by simp only [cK, Bw, CK, Al, Ac, Bx, Am, Ad, An, Ae, BZ, Ba, Bb, Ao, Af, Aq, Ag, Bc, Ar, Av, Bd, Aw, Ax, Ah, Be, Ay, Bf, Az, By, Bg, Bh, Bj, Ai, A_, BJ, ob1, a1, Br, E_])
 | some r1 =>
  obtain ⟨a1, h1⟩ := tk_t " " c_b h e1
  have m1 : ct r1 < m := by
   have := ct_w w (by rcases hw with z | z <;> simp [z]) r1
   rw [Bm e1] at hc
   have e : ct (cs w ++ ([32] ++ r1)) = ct (cs w ++ 32 :: r1) := rfl
   omega
  rw [Option.bind_some]
  cases e2 : nm r1 with
  | none =>
   have a2 := Lx h1 e2
   exact .no (j := i + 1) (by simp only [cK, Bw, CK, Al, Ac, Bx, Am, Ad, An, Ae, BZ, Ba, Bb, Ao, Af, Aq, Ag, Bc, Ar, Av, Bd, Aw, Ax, Ah, Be, Ay, Bf, Az, By, Bg, Bh, Bj, Ai, A_, BJ, ob1, ob2, a1, a2, Br, Dh, Ce, J_])
  | some a =>
   obtain ⟨a, r2⟩ := a
   obtain ⟨a2, h2⟩ := Lw h1 e2
   have m2 : ct r2 < m := by
    have := Lz (cs a) r2 0
    rw [← (Ia e2).2] at this
    exact Nat.lt_of_le_of_lt this m1
   rw [Option.bind_some]
   simp only
   cases e3 : strip [32] r2 with
   | none =>
    have a3 := tk_f " " c_b h2 e3
    exact .no (j := i + 1 + 1) (by simp only [cK, Bw, CK, Al, Ac, Bx, Am, Ad, An, Ae, BZ, Ba, Bb, Ao, Af, Aq, Ag, Bc, Ar, Av, Bd, Aw, Ax, Ah, Be, Ay, Bf, Az, By, Bg, Bh, Bj, Ai, A_, BJ, ob1, ob2, a1, a2, a3, Br, Dh, E_, Ce, JQ])
   | some r3 =>
    obtain ⟨a3, h3⟩ := tk_t " " c_b h2 e3
    have q := F.1 _ _ h3 (Nat.lt_of_le_of_lt (L_ e3) m2)
    rw [Option.bind_some]
    cases e4 : f r3 with
    | none =>
     rw [e4] at q
     obtain ⟨k, q⟩ := q
     exact .no (j := k) (by simp only [cK, Bw, CK, Al, Ac, Bx, Am, Ad, An, Ae, BZ, Ba, Bb, Ao, Af, Aq, Ag, Bc, Ar, Av, Bd, Aw, Ax, Ah, Be, Ay, Bf, Az, By, Bg, Bh, Bj, Ai, A_, BJ, ob1, ob2, a1, a2, a3, q, Br, Dh, E_, Ce, JQ, HF, UT])
    | some p =>
     obtain ⟨s, r4⟩ := p
     rw [e4] at q
     obtain ⟨k, h4, q⟩ := q
     simp only at h4 q
     rw [Option.map_some]
     refine .yes h4 ?_
     have e : enc (if w = "some" then Say.ex a s else Say.al a s) = .tup [.str w, .str a, enc s] := by
      rcases hw with rfl | rfl
      ·rw [if_pos rfl]; rfl
      ·rw [if_neg (by decide +kernel)]; rfl
     simp only [cK, e, Bw, CK, Al, Ac, Bx, Am, Ad, An, Ae, BZ, Ba, Bb, Ao, Af, Aq, Ag, Bc, Ar, Av, Bd, Aw, Ax, Ah, Be, Ay, Bf, Az, By, Bg, Bh, Bj, Ai, A_, BJ, ob1, ob2, a1, a2, a3, q, Br, Dh, E_, Ce, JQ, HF, Y4]
theorem WR (w : Str) : inD false (.str w) c_BINDERS = some (.bl (decide (w = "some" ∨ w = "all"))) := by
 have e : inD false (.str w) c_BINDERS = inD false (.str w) (.lst ((["some", "all"] : List Str).map .str)) := rfl
 rw [e, K7]
 congr 2
 rw [Bool.eq_iff_iff]
 simp only [List.any_cons, List.any_nil, Bool.or_false, Bool.or_eq_true, beq_iff_eq, decide_eq_true_eq]
 constructor <;> (rintro (z | z) <;> simp [z])
theorem ZD (w : Str) : eqD true (.str w) (.str "not") = some (.bl (!decide (w = "not"))) := of_eq_true (eq_self _)
theorem Z5 {x : Str} {i : Int} {r : List Nat} (h : At x i r) : (W r).length ≤ 2500 := by
 have := h.rl
 have e := congrArg List.length (Ib r)
 rw [List.length_append, Dd] at e
 omega
theorem ZF : ∀ (n : Nat) (x : Str) (i : Int) (r : List Nat), At x i r → ct r < n → Res x (R n r) (Aj n [rd x i]) := by
 intro n
 induction n with
 | zero => intro x i r _ h; omega
 | succ n ih =>
  intro x i r h hc
  have F : Uh x n (R n) (Aj n) := ⟨fun i r => ih x i r, fun r s r' e => (QM n r s r' e).1⟩
  show Res x (if (strip [40] r).isSome = true then Rb (R n) r else Rt (R n) (W r) (r.dropWhile isl)) _
  cases e0 : strip [40] r with
  | some r0 =>
   rw [if_pos (show (some _).isSome = true from rfl)]
   have a0 := ad_t "(" c_p h e0
   have q := bo_R F h hc
   have e : Aj (n + 1) [rd x i] = Ak (Aj n) [rd x i] := by
    cases o : Rb (R n) r with
    | none =>
     rw [o] at q
     obtain ⟨j, q⟩ := q
     simp only [cK, Aj, Bs, Al, Ac, Bx, Am, Ad, An, Ae, BZ, Ba, Bb, Ao, Af, Aq, Ag, Bc, Ar, Av, Bd, Aw, Ax, Ah, Be, Ay, Bf, Az, By, Bg, Bh, Bj, Ai, A_, BJ, ob4, a0, q]
    | some p =>
     rw [o] at q
     obtain ⟨j, _, q⟩ := q
     simp only [cK, Aj, Bs, Al, Ac, Bx, Am, Ad, An, Ae, BZ, Ba, Bb, Ao, Af, Aq, Ag, Bc, Ar, Av, Bd, Aw, Ax, Ah, Be, Ay, Bf, Az, By, Bg, Bh, Bj, Ai, A_, BJ, ob4, a0, q]
   rw [e]
   exact q
  | none =>
   rw [if_neg (by simp)]
   have a0 := ad_f "(" c_p h e0
   obtain ⟨a1, h1⟩ := Og h
   have wl := Z5 h
   have hs := Ib r
   have hL := Xd r
   generalize W r = w at a1 h1 wl hs hL ⊢
   generalize r.dropWhile isl = r1 at h1 hs ⊢
   generalize i + (w.length : Int) = j1 at a1 h1
   unfold Rt
   cases e1 : strip [40] r1 with
   | some r2 =>
    rw [if_pos (show (some _).isSome = true from rfl)]
    have a2 := ad_t "(" c_p h1 e1
    have q := mt_R h1 hL wl
    have e : Aj (n + 1) [rd x i] = BX [rd x j1, .str w] := by
     cases o : Rm w r1 with
     | none =>
      rw [o] at q
      obtain ⟨j, q⟩ := q
      simp only [cK, Aj, Bs, Al, Ac, Bx, Am, Ad, An, Ae, BZ, Ba, Bb, Ao, Af, Aq, Ag, Bc, Ar, Av, Bd, Aw, Ax, Ah, Be, Ay, Bf, Az, By, Bg, Bh, Bj, Ai, A_, BJ, ob3, ob4, a0, a1, a2, q]
     | some p =>
      rw [o] at q
      obtain ⟨j, _, q⟩ := q
      simp only [cK, Aj, Bs, Al, Ac, Bx, Am, Ad, An, Ae, BZ, Ba, Bb, Ao, Af, Aq, Ag, Bc, Ar, Av, Bd, Aw, Ax, Ah, Be, Ay, Bf, Az, By, Bg, Bh, Bj, Ai, A_, BJ, ob3, ob4, a0, a1, a2, q]
    rw [e]
    exact q
   | none =>
    rw [if_neg (by simp)]
    have a2 := ad_f "(" c_p h1 e1
    cases e2 : strip [61] r1 with
    | some r2 =>
     rw [if_pos (show (some _).isSome = true from rfl)]
     have a3 := ad_t "=" c_e h1 e2
     have q := sm_R h1 wl
     have e : Aj (n + 1) [rd x i] = C_ [rd x j1, .str w] := by
      cases o : Re w r1 with
      | none =>
       rw [o] at q
       obtain ⟨j, q⟩ := q
       simp only [cK, Aj, Bs, Al, Ac, Bx, Am, Ad, An, Ae, BZ, Ba, Bb, Ao, Af, Aq, Ag, Bc, Ar, Av, Bd, Aw, Ax, Ah, Be, Ay, Bf, Az, By, Bg, Bh, Bj, Ai, A_, BJ, ob3, ob4, a0, a1, a2, a3, q]
      | some p =>
       rw [o] at q
       obtain ⟨j, _, q⟩ := q
       simp only [cK, Aj, Bs, Al, Ac, Bx, Am, Ad, An, Ae, BZ, Ba, Bb, Ao, Af, Aq, Ag, Bc, Ar, Av, Bd, Aw, Ax, Ah, Be, Ay, Bf, Az, By, Bg, Bh, Bj, Ai, A_, BJ, ob3, ob4, a0, a1, a2, a3, q]
     rw [e]
     exact q
    | none =>
     rw [if_neg (by simp)]
     have a3 := ad_f "=" c_e h1 e2
     have ib := WR w
     have nn := ZD w
     split
     ·rename_i hw
      rw [decide_eq_true hw] at ib
      have q := sa_R F h1 hw (by rw [← hs]; exact hc)
      have e : Aj (n + 1) [rd x i] = Bw (Aj n) [rd x j1, .str w] := by
       cases o : Rq (R n) w r1 with
       | none =>
        rw [o] at q
        obtain ⟨j, q⟩ := q
        simp only [cK, Aj, Bs, Al, Ac, Bx, Am, Ad, An, Ae, BZ, Ba, Bb, Ao, Af, Aq, Ag, Bc, Ar, Av, Bd, Aw, Ax, Ah, Be, Ay, Bf, Az, By, Bg, Bh, Bj, Ai, A_, BJ, ob3, ob4, a0, a1, a2, a3, ib, q]
       | some p =>
        rw [o] at q
        obtain ⟨j, _, q⟩ := q
        simp only [cK, Aj, Bs, Al, Ac, Bx, Am, Ad, An, Ae, BZ, Ba, Bb, Ao, Af, Aq, Ag, Bc, Ar, Av, Bd, Aw, Ax, Ah, Be, Ay, Bf, Az, By, Bg, Bh, Bj, Ai, A_, BJ, ob3, ob4, a0, a1, a2, a3, ib, q]
      rw [e]
      exact q
     ·rename_i hw
      rw [decide_eq_false hw] at ib
      split
      ·rename_i hn
       subst hn
       have nn : eqD true (.str "not") (.str "not") = some (.bl false) := of_eq_true (eq_self _)
       unfold Rn
       cases e3 : strip [32] r1 with
       | none =>
        have a4 := tk_f " " c_b h1 e3
        exact .no (j := j1) (by simp only [cK, Aj, Bs, Al, Ac, Bx, Am, Ad, An, Ae, BZ, Ba, Bb, Ao, Af, Aq, Ag, Bc, Ar, Av, Bd, Aw, Ax, Ah, Be, Ay, Bf, Az, By, Bg, Bh, Bj, Ai, A_, BJ, ob1, ob3, ob4, a0, a1, a2, a3, a4, ib, nn, Br, E_])
       | some r2 =>
        obtain ⟨a4, h2⟩ := tk_t " " c_b h1 e3
        have m1 : ct r2 < n := by
         have := ct_w "not" (by simp) r2
         have e : r = cs "not" ++ 32 :: r2 := by rw [hs, Bm e3]; rfl
         rw [e] at hc
         omega
        have q := ih x _ _ h2 m1
        rw [Option.bind_some]
        cases e4 : R n r2 with
        | none =>
         rw [e4] at q
         obtain ⟨k, q⟩ := q
         exact .no (j := k) (by simp only [cK, Aj, Bs, Al, Ac, Bx, Am, Ad, An, Ae, BZ, Ba, Bb, Ao, Af, Aq, Ag, Bc, Ar, Av, Bd, Aw, Ax, Ah, Be, Ay, Bf, Az, By, Bg, Bh, Bj, Ai, A_, BJ, ob1, ob3, ob4, a0, a1, a2, a3, a4, ib, nn, q, Br, Dh, HF, Y5])
        | some p =>
         obtain ⟨s, r4⟩ := p
         rw [e4] at q
         obtain ⟨k, h4, q⟩ := q
         simp only at h4 q
         exact .yes h4 (by simp only [cK, Aj, Bs, Al, Ac, Bx, Am, Ad, An, Ae, BZ, Ba, Bb, Ao, Af, Aq, Ag, Bc, Ar, Av, Bd, Aw, Ax, Ah, Be, Ay, Bf, Az, By, Bg, Bh, Bj, Ai, A_, BJ, ob1, ob3, ob4, a0, a1, a2, a3, a4, ib, nn, q, Br, Dh, HF, Y6, enc])
      ·rename_i hn
       rw [decide_eq_false hn] at nn
       have ex := fun ρ => J9 j1 ρ h1.ok
       exact .no (j := j1) (by simp only [cK, Aj, Bs, Al, Ac, Bx, Am, Ad, An, Ae, BZ, Ba, Bb, Ao, Af, Aq, Ag, Bc, Ar, Av, Bd, Aw, Ax, Ah, Be, Ay, Bf, Az, By, Bg, Bh, Bj, Ai, A_, BJ, ob3, ob4, a0, a1, a2, a3, ib, nn, ex])
theorem WT (x : Str) : DX [.ob "Reader" [], .str x] = some (.non, rd x 0) := by
 have e : JC "line" (.ob "Reader" []) (.str x) = some (.ob "Reader" [("line", .str x)]) := by
  show (if (0 : Nat) < 1000 then some (D.ob "Reader" (putG "line" (.str x) [])) else none) = _
  rw [if_pos (by decide)]
  rfl
 have e2 : JC "at" (.ob "Reader" [("line", .str x)]) (.int 0) = some (rd x 0) := by
  show (if (1 : Nat) < 1000 then some (D.ob "Reader" (putG "at" (.int 0) [("line", .str x)])) else none) = _
  rw [if_pos (by decide)]
  have e1 : ¬ (("line" : Str) = "at") := by decide +kernel
  unfold putG putG
  rw [if_neg e1]
  rfl
 simp only [cK, DX, Ec, Al, Ac, Bx, Am, Ad, An, Ae, BZ, Ba, Bb, Ao, Af, Aq, Ag, Bc, Ar, Av, Bd, Aw, Ax, Ah, Be, Ay, Bf, Az, By, Bg, Bh, Bj, Ai, A_, BJ, e, e2]
def Pl (x : Str) : Prop := x.length ≤ 2500 ∧ ∀ c ∈ cs x, 32 ≤ c ∧ c < 127
theorem Pl.at0 {x : Str} (h : Pl x) : At x 0 (cs x) := ⟨h, 0, rfl, Nat.zero_le _, rfl⟩
theorem ZG {x : Str} {j : Int} {r : List Nat} (h : At x j r) : j < x.length ↔ r ≠ [] := by
 have hl := h.len
 obtain ⟨_, n, rfl, hn, e⟩ := h
 have := congrArg List.length e
 rw [List.length_drop, Dd] at this
 rw [Dd] at hn
 constructor
 ·intro q z
  rw [z] at this
  simp at this
  omega
 ·intro q
  have : 0 < r.length := List.length_pos_iff.mpr q
  omega
theorem KD {x : Str} (h : Pl x) (hc : ct (cs x) < 110) : Hn [.str x] = some (match R 110 (cs x) with | some (s, []) => enc s | _ => E x) := by
 have q := ZF 110 x 0 (cs x) h.at0 hc
 have i0 := WT x
 have l := Jj x (by have := h.1; omega)
 have exl : excF "NoSaying" "line" okSD (vF 0) = fun ρ => (vF 0 ρ).bind fun d => if okSD d = true then some (.exc "NoSaying" [("line", d)]) else none := rfl
 have ex : ∀ ρ, excF "NoSaying" "line" okSD (vF 0) (.fz (.str x) :: ρ) = some (E x) := fun ρ => by
  show (if okSD (.str x) = true then some (D.exc "NoSaying" [("line", .str x)]) else none) = _
  rw [if_pos h.at0.ok]
  rfl
 cases e : R 110 (cs x) with
 | none =>
  rw [e] at q
  obtain ⟨j, q⟩ := q
  simp only [cK, Hn, J3, Al, Ac, Bx, Am, Ad, An, Ae, BZ, Ba, Bb, Ao, Af, Aq, Ag, Bc, Ar, Av, Bd, Aw, Ax, Ah, Be, Ay, Bf, Az, By, Bg, Bh, Bj, Ai, A_, BJ, i0, q, Ce, J_]
 | some p =>
  obtain ⟨s, r⟩ := p
  rw [e] at q
  obtain ⟨j, a, q⟩ := q
  simp only at a q
  have an := ZG a
  cases r with
  | nil =>
   have c : ¬ (j < (x.length : Int)) := fun z => an.mp z rfl
   simp only [ciK, Hn, J3, Al, Ac, Bx, Am, Ad, An, Ae, BZ, Ba, Bb, Ao, Af, Aq, Ag, Bc, Ar, Av, Bd, Aw, Ax, Ah, Be, Ay, Bf, Az, By, Bg, Bh, Bj, Ai, A_, BJ, i0, q, l, c, f_at, Ce, IW]
  | cons c0 r =>
   have c : j < (x.length : Int) := an.mpr (by simp)
   simp only [ciK, Hn, J3, Al, Ac, Bx, Am, Ad, An, Ae, BZ, Ba, Bb, Ao, Af, Aq, Ag, Bc, Ar, Av, Bd, Aw, Ax, Ah, Be, Ay, Bf, Az, By, Bg, Bh, Bj, Ai, A_, BJ, i0, q, l, c, f_at, ex, Ce, IW]
end K24
namespace K24
open PySem L2 PV
theorem Kz {w : Str} (hL : IsL w) {c : Nat} (r : List Nat) (hc : isl c = false) : W (cs w ++ c :: r) = w ∧ (cs w ++ c :: r).dropWhile isl = c :: r := by
 have key : ∀ l : List Nat, (∀ d ∈ l, isl d = true) → (l ++ c :: r).takeWhile isl = l ∧ (l ++ c :: r).dropWhile isl = c :: r := by
  intro l
  induction l with
  | nil => intro _; simp [List.takeWhile_cons, List.dropWhile_cons, hc]
  | cons d l ih =>
   intro h
   obtain ⟨e1, e2⟩ := ih fun y hy => h y (by simp [hy])
   have hd := h d (by simp)
   simp [List.takeWhile_cons, List.dropWhile_cons, hd, e1, e2]
 obtain ⟨e1, e2⟩ := key (cs w) fun d hd => decide_eq_true (hL d hd)
 exact ⟨Ft (by rw [cs_W, e1]), e2⟩
theorem ZJ : ∀ c ∈ cs LET, c ≠ 40 := by decide +kernel
theorem Ej {c d : Nat} {r : List Nat} (h : d ≠ c) : strip [c] (d :: r) = none := by
 unfold strip
 rw [if_neg (by simpa using h)]
theorem strip_eq {c : Nat} {r : List Nat} : strip [c] (c :: r) = some r := Ir [c] r
theorem HH {w : Str} (hL : IsL w) (h1 : 1 ≤ w.length) (r : List Nat) : strip [40] (cs w ++ r) = none := by
 cases e : cs w with
 | nil => rw [← Dd, e] at h1; simp at h1
 | cons c l => exact Ej (ZJ c (hL c (by rw [e]; simp)))
theorem KH {w : Str} (h : ∀ c ∈ cs w, c ∈ cs LET) : IsL w := h
theorem ZK : ∀ (s : Say), Gd s → ∀ (n : Nat) (r : List Nat), hgt s ≤ n → R n (cs (txt s) ++ r) = some (s, r) := by
 intro s
 induction s with
 | mark w x =>
  intro hg n r hn
  obtain ⟨n, rfl⟩ : ∃ m, n = m + 1 := ⟨n - 1, by simp only [hgt] at hn; omega⟩
  have e : cs (txt (.mark w x)) ++ r = cs w ++ 40 :: (cs x ++ 41 :: r) := by simp [txt, Cj, c_p, c_q]
  obtain ⟨w1, w2⟩ := Kz hg.1.isL (c := 40) (cs x ++ 41 :: r) (by decide +kernel)
  have s1 := HH hg.1.isL hg.1.lo (40 :: (cs x ++ 41 :: r))
  rw [e]
  simp [R, s1, w1, w2, Rt, strip_eq, Rm, Xf hg.1, Iu hg.2]
 | tie w x y =>
  intro hg n r hn
  obtain ⟨n, rfl⟩ : ∃ m, n = m + 1 := ⟨n - 1, by simp only [hgt] at hn; omega⟩
  have e : cs (txt (.tie w x y)) ++ r = cs w ++ 40 :: (cs x ++ 44 :: (cs y ++ 41 :: r)) := by simp [txt, Cj, c_p, c_q, c_c]
  obtain ⟨w1, w2⟩ := Kz hg.1.isL (c := 40) (cs x ++ 44 :: (cs y ++ 41 :: r)) (by decide +kernel)
  have s1 := HH hg.1.isL hg.1.lo (40 :: (cs x ++ 44 :: (cs y ++ 41 :: r)))
  have s2 : strip [41] (44 :: (cs y ++ 41 :: r)) = none := Ej (by decide)
  rw [e]
  simp [R, s1, s2, w1, w2, Rt, strip_eq, Rm, Xf hg.1, Iu hg.2.1, Iu hg.2.2]
 | same x y =>
  intro hg n r hn
  obtain ⟨n, rfl⟩ : ∃ m, n = m + 1 := ⟨n - 1, by simp only [hgt] at hn; omega⟩
  have e : cs (txt (.same x y)) ++ r = cs x ++ 61 :: (cs y ++ r) := by simp [txt, Cj, c_e]
  obtain ⟨w1, w2⟩ := Kz hg.1.isL (c := 61) (cs y ++ r) (by decide +kernel)
  have s1 := HH hg.1.isL (by rw [hg.1.len]; decide) (61 :: (cs y ++ r))
  have s2 : strip [40] (61 :: (cs y ++ r)) = none := Ej (by decide)
  rw [e]
  simp [R, s1, s2, w1, w2, Rt, strip_eq, Re, hg.1.len, Iu hg.2]
 | neg s ih =>
  intro hg n r hn
  obtain ⟨n, rfl⟩ : ∃ m, n = m + 1 := ⟨n - 1, by simp only [hgt] at hn; omega⟩
  have hL : IsL "not" := KH (by decide +kernel)
  have e : cs (txt (.neg s)) ++ r = cs "not" ++ 32 :: (cs (txt s) ++ r) := by simp [txt, Cj, Ub, Uc]
  obtain ⟨w1, w2⟩ := Kz hL (c := 32) (cs (txt s) ++ r) (by decide +kernel)
  have s1 := HH hL (by decide +kernel) (32 :: (cs (txt s) ++ r))
  have s2 : strip [40] (32 :: (cs (txt s) ++ r)) = none := Ej (by decide)
  have s3 : strip [61] (32 :: (cs (txt s) ++ r)) = none := Ej (by decide)
  have n1 : ¬ (("not" : Str) = "some" ∨ ("not" : Str) = "all") := by decide +kernel
  have i1 := ih hg n r (by simp only [hgt] at hn; omega)
  rw [e]
  simp [R, s1, s2, s3, w1, w2, Rt, strip_eq, Rn, n1, i1]
 | ex x s ih =>
  intro hg n r hn
  obtain ⟨n, rfl⟩ : ∃ m, n = m + 1 := ⟨n - 1, by simp only [hgt] at hn; omega⟩
  have hL : IsL "some" := KH (by decide +kernel)
  have e : cs (txt (.ex x s)) ++ r = cs "some" ++ 32 :: (cs x ++ 32 :: (cs (txt s) ++ r)) := by simp [txt, Cj, c_b]
  obtain ⟨w1, w2⟩ := Kz hL (c := 32) (cs x ++ 32 :: (cs (txt s) ++ r)) (by decide +kernel)
  have s1 := HH hL (by decide +kernel) (32 :: (cs x ++ 32 :: (cs (txt s) ++ r)))
  have s2 : strip [40] (32 :: (cs x ++ 32 :: (cs (txt s) ++ r))) = none := Ej (by decide)
  have s3 : strip [61] (32 :: (cs x ++ 32 :: (cs (txt s) ++ r))) = none := Ej (by decide)
  have i1 := ih hg.2 n r (by simp only [hgt] at hn; omega)
  rw [e]
  simp [R, s1, s2, s3, w1, w2, Rt, strip_eq, Rq, Iu hg.1, i1]
 | al x s ih =>
  intro hg n r hn
  obtain ⟨n, rfl⟩ : ∃ m, n = m + 1 := ⟨n - 1, by simp only [hgt] at hn; omega⟩
  have hL : IsL "all" := KH (by decide +kernel)
  have e : cs (txt (.al x s)) ++ r = cs "all" ++ 32 :: (cs x ++ 32 :: (cs (txt s) ++ r)) := by simp [txt, Cj, c_b]
  obtain ⟨w1, w2⟩ := Kz hL (c := 32) (cs x ++ 32 :: (cs (txt s) ++ r)) (by decide +kernel)
  have s1 := HH hL (by decide +kernel) (32 :: (cs x ++ 32 :: (cs (txt s) ++ r)))
  have s2 : strip [40] (32 :: (cs x ++ 32 :: (cs (txt s) ++ r))) = none := Ej (by decide)
  have s3 : strip [61] (32 :: (cs x ++ 32 :: (cs (txt s) ++ r))) = none := Ej (by decide)
  have n1 : ¬ (("all" : Str) = "some") := by decide +kernel
  have i1 := ih hg.2 n r (by simp only [hgt] at hn; omega)
  rw [e]
  simp [R, s1, s2, s3, w1, w2, Rt, strip_eq, Rq, Iu hg.1, i1, n1]
 | both s t ih1 ih2 =>
  intro hg n r hn
  obtain ⟨n, rfl⟩ : ∃ m, n = m + 1 := ⟨n - 1, by simp only [hgt] at hn; omega⟩
  have e : cs (txt (.both s t)) ++ r = 40 :: (cs (txt s) ++ (cs " and " ++ (cs (txt t) ++ 41 :: r))) := by simp [txt, Cj, c_p, c_q]
  have i1 := ih1 hg.1 n (cs " and " ++ (cs (txt t) ++ 41 :: r)) (by simp only [hgt] at hn; omega)
  have i2 := ih2 hg.2 n (41 :: r) (by simp only [hgt] at hn; omega)
  have s1 := Ir (cs " and ") (cs (txt t) ++ 41 :: r)
  rw [e]
  simp [R, strip_eq, Rb, i1, i2, s1]
 | either s t ih1 ih2 =>
  intro hg n r hn
  obtain ⟨n, rfl⟩ : ∃ m, n = m + 1 := ⟨n - 1, by simp only [hgt] at hn; omega⟩
  have e : cs (txt (.either s t)) ++ r = 40 :: (cs (txt s) ++ (cs " or " ++ (cs (txt t) ++ 41 :: r))) := by simp [txt, Cj, c_p, c_q]
  have i1 := ih1 hg.1 n (cs " or " ++ (cs (txt t) ++ 41 :: r)) (by simp only [hgt] at hn; omega)
  have i2 := ih2 hg.2 n (41 :: r) (by simp only [hgt] at hn; omega)
  have s1 := Ir (cs " or ") (cs (txt t) ++ 41 :: r)
  have s2 : strip (cs " and ") (cs " or " ++ (cs (txt t) ++ 41 :: r)) = none := by
   unfold strip
   rw [if_neg]
   rw [Z4, c_or]
   simp
  rw [e]
  simp [R, strip_eq, Rb, i1, i2, s1, s2]
def tel (p : Nat) : Bool := p == 116 || p == 101 || p == 108
theorem WW {p : Nat} (h : tel p = false) (l : List Nat) : ctp p l = ctp 0 l := by
 cases l with
 | nil => rfl
 | cons c l =>
  unfold tel at h
  simp only [Bool.or_eq_false_iff, beq_eq_false_iff_ne] at h
  simp [ctp, h.1.1, h.1.2, h.2]
theorem Ui : ∀ (a b : List Nat) (p : Nat), (a ++ b).getLastD p = b.getLastD (a.getLastD p) := by
 intro a
 induction a with
 | nil => intro b p; simp
 | cons c a ih => intro b p; rw [List.cons_append, List.getLastD_cons, List.getLastD_cons, ih]
structure Sg (y : Str) (k : Nat) : Prop where
 pl : ∀ c ∈ cs y, 32 ≤ c ∧ c < 127
 ct : ∀ p, tel p = false → ctp p (cs y) ≤ k ∧ tel ((cs y).getLastD p) = false
theorem Sg.app {x y : Str} {a b : Nat} (h : Sg x a) (k : Sg y b) : Sg (x ++ y) (a + b) := by
 refine ⟨fun c hc => ?_, fun p hp => ?_⟩
 ·rw [Cj] at hc
  exact (List.mem_append.mp hc).elim (h.pl c) (k.pl c)
 ·obtain ⟨h1, h2⟩ := h.ct p hp
  obtain ⟨k1, k2⟩ := k.ct _ h2
  rw [Cj, QL, Ui]
  exact ⟨by omega, k2⟩
def sgB (y : Str) (k : Nat) : Bool := (cs y).all (fun c => decide (32 ≤ c ∧ c < 127)) && decide (ctp 0 (cs y) ≤ k) && !(tel ((cs y).getLastD 116))
theorem De {y : Str} {k : Nat} (h : sgB y k = true) : Sg y k := by
 unfold sgB at h
 simp only [Bool.and_eq_true, List.all_eq_true, decide_eq_true_eq, Bool.not_eq_true'] at h
 obtain ⟨⟨h1, h2⟩, h3⟩ := h
 refine ⟨h1, fun p hp => ⟨by rw [WW hp]; exact h2, ?_⟩⟩
 cases e : cs y with
 | nil => rw [e] at h3; simp [tel] at h3
 | cons c l =>
  rw [e] at h3
  rw [List.getLastD_cons] at h3 ⊢
  exact h3
theorem Sg.mono {y : Str} {a b : Nat} (h : Sg y a) (k : a ≤ b) : Sg y b := ⟨h.pl, fun p hp => ⟨by have := (h.ct p hp).1; omega, (h.ct p hp).2⟩⟩
theorem c_mt : cs ("" : Str) = [] := by decide +kernel
theorem NT : Sg "" 0 := by
 refine ⟨fun c hc => ?_, fun p hp => ?_⟩
 ·rw [c_mt] at hc
  cases hc
 ·rw [c_mt]
  exact ⟨Nat.le_refl _, hp⟩
theorem Sg.ct0 {y : Str} {k : Nat} (h : Sg y k) : K24.ct (cs y) ≤ k := (h.ct 0 rfl).1
end K24
namespace K24
open PySem L2 PV
def PT : List Str := ["some ", "all ", "not ", "x", "y", "q", "red(", "abcdefgh(", ",", ")", "(", " and ", " or ", "=", "x=y", "o(y)"]
def TAB : List D := PT.map .str
theorem Uj : ∀ w ∈ PT, sgB w 1 = true ∧ w.length ≤ 9 := by decide +kernel
theorem Oi (L : D) : Eu [L] = runO (((HR (seqI (vF 0)) allT Dn [.fz L, .fz (.lst TAB)]).bind fun y => Hv (.str "") y).map fun d => .rt d [.fz L, .fz (.lst TAB)]) := by kernel_rfl
theorem l_mt : Str.length "" = 0 := by decide +kernel
theorem QQ : ∀ ws : List Str, (∀ w ∈ ws, w ∈ PT) → Sg (Str.join "" ws) ws.length ∧ (Str.join "" ws).length ≤ 9 * ws.length
 | [], _ => ⟨NT, by show (Str.length "") ≤ _; rw [l_mt]; exact Nat.zero_le _⟩
 | [x], h => by
  obtain ⟨a, b⟩ := Uj x (h x (by simp))
  exact ⟨De a, by simpa [Str.join] using b⟩
 | x :: y :: r, h => by
  obtain ⟨a, b⟩ := Uj x (h x (by simp))
  obtain ⟨c, d⟩ := QQ (y :: r) fun w hw => h w (by simp at hw ⊢; exact .inr hw)
  have e : Str.join "" (x :: y :: r) = x ++ "" ++ Str.join "" (y :: r) := rfl
  rw [e]
  refine ⟨(((De a).app NT).app c).mono (by simp; omega), ?_⟩
  rw [Aa, Aa, l_mt]
  simp only [List.length_cons] at d ⊢
  omega
theorem Qv (xs : List Int) (h : xs.length ≤ 50) : ∃ y, Eu [.lst (xs.map .int)] = some (.str y) ∧ Pl y ∧ ct (cs y) < 110 := by
 obtain ⟨out, h1, h2, h3⟩ := VM (src := seqI (vF 0)) (fe := Dn) (ρ := [.fz (.lst (xs.map .int)), .fz (.lst TAB)]) (ds := xs.map .int) (P := fun y => ∃ x, y = D.str x ∧ x ∈ PT) (by rfl) (by rw [List.length_map]; omega) fun d hd => by
  obtain ⟨i, _, rfl⟩ := List.mem_map.mp hd
  have d2 := Hw i 2 (by decide) (by decide)
  have m := Hk (i / 2) 16 (by decide)
  have b0 : 0 ≤ i / 2 % 16 := Int.emod_nonneg _ (by decide)
  have b1 : i / 2 % 16 < 16 := Int.emod_lt_of_pos _ (by decide)
  obtain ⟨k, ek⟩ : ∃ k : Nat, (k : Int) = i / 2 % 16 := ⟨(i / 2 % 16).toNat, by omega⟩
  have hk : k < PT.length := by show k < 16; omega
  have ix : ixD (.lst TAB) (.int (k : Int)) = some (.str PT[k]) := by
   show atI TAB (k : Int) = _
   rw [Gj]
   simp [TAB, hk]
  refine ⟨.str PT[k], ?_, _, rfl, List.getElem_mem hk⟩
  simp only [cK, Dn, d2, m, ← ek, ix]
 obtain ⟨ws, e, hl, hw⟩ := Pa h3
 have wl : ws.length ≤ 50 := by rw [hl, h2, List.length_map]; exact h
 obtain ⟨s, l⟩ := QQ ws hw
 have jn : Hv (.str "") (.lst (ws.map .str)) = some (.str (Str.join "" ws)) := by
  show (Fv (ws.map .str)).bind (fun ys => if (ys.map (·.length)).sum + ys.length * Str.length "" ≤ 16777216 then some (D.str (Str.join "" ys)) else none) = _
  rw [Ii, Option.bind_some, if_pos]
  rw [l_mt]
  have q : ∀ ws : List Str, (∀ w ∈ ws, w ∈ PT) → (ws.map (·.length)).sum ≤ 9 * ws.length := by
   intro ws
   induction ws with
   | nil => intro _; simp
   | cons w r ih =>
    intro hw
    have := ih fun y hy => hw y (by simp [hy])
    have := (Uj w (hw w (by simp))).2
    simp only [List.map_cons, List.sum_cons, List.length_cons]
    omega
  have := q ws hw
  omega
 refine ⟨Str.join "" ws, ?_, ⟨by omega, s.pl⟩, by have := s.ct0; omega⟩
 rw [Oi, h1, e, Option.bind_some, jn]
 rfl
theorem nm6 : ∀ ch ∈ cs "abcxyz", sgB ⟨#[ch]⟩ 0 = true ∧ ch ∈ cs LET := by decide +kernel
def N6 (n : Str) : Prop := ∃ ch, ch ∈ cs "abcxyz" ∧ n = ⟨#[ch]⟩
theorem N6.nm {n : Str} (h : N6 n) : Nm n := by obtain ⟨c, hc, rfl⟩ := h; exact ⟨c, (nm6 c hc).2, rfl⟩
theorem N6.sg {n : Str} (h : N6 n) : Sg n 0 := by obtain ⟨c, hc, rfl⟩ := h; exact De (nm6 c hc).1
theorem nmx : Nm "x" := ⟨120, by decide +kernel, by decide +kernel⟩
theorem nmy : Nm "y" := ⟨121, by decide +kernel, by decide +kernel⟩
theorem ZL : Wd "red" := ⟨by decide +kernel, by decide +kernel, KH (by decide +kernel), by decide +kernel⟩
theorem WX : Wd "near" := ⟨by decide +kernel, by decide +kernel, KH (by decide +kernel), by decide +kernel⟩
structure Gr (s : Say) (h l k : Nat) : Prop where
 gd : Gd s
 hg : hgt s ≤ h
 ln : (txt s).length ≤ l
 sg : Sg (txt s) k
theorem o0 {n : Str} (h : N6 n) : "x=" ++ n = txt (.same "x" n) ∧ Gr (.same "x" n) 3 13 2 := by
 have e : "x=" ++ n = txt (.same "x" n) := Ft (by simp only [txt, Cj]; rw [show cs "x=" = cs "x" ++ cs "=" by decide +kernel])
 refine ⟨e, ⟨nmx, h.nm⟩, by simp [hgt], ?_, ?_⟩
 ·rw [← e, Aa, h.nm.len, show Str.length "x=" = 2 by decide +kernel]; decide
 ·rw [← e]; exact ((De (k := 0) (by decide +kernel)).app h.sg).mono (by decide)
theorem o1 {n : Str} (h : N6 n) : "red(" ++ n ++ ")" = txt (.mark "red" n) ∧ Gr (.mark "red" n) 3 13 2 := by
 have e : "red(" ++ n ++ ")" = txt (.mark "red" n) := Ft (by simp only [txt, Cj]; rw [show cs "red(" = cs "red" ++ cs "(" by decide +kernel])
 refine ⟨e, ⟨ZL, h.nm⟩, by simp [hgt], ?_, ?_⟩
 ·rw [← e, Aa, Aa, h.nm.len, show Str.length "red(" = 4 by decide +kernel, l_q]; decide
 ·rw [← e]; exact (((De (k := 1) (by decide +kernel)).app h.sg).app (De (k := 0) (by decide +kernel))).mono (by decide)
theorem o2 {n : Str} (h : N6 n) : "near(" ++ n ++ ",y)" = txt (.tie "near" n "y") ∧ Gr (.tie "near" n "y") 3 13 2 := by
 have e : "near(" ++ n ++ ",y)" = txt (.tie "near" n "y") := Ft (by simp only [txt, Cj, List.append_assoc]; rw [show cs "near(" = cs "near" ++ cs "(" by decide +kernel, show cs ",y)" = cs "," ++ (cs "y" ++ cs ")") by decide +kernel]; simp only [List.append_assoc])
 refine ⟨e, ⟨WX, h.nm, nmy⟩, by simp [hgt], ?_, ?_⟩
 ·rw [← e, Aa, Aa, h.nm.len, show Str.length "near(" = 5 by decide +kernel, show Str.length ",y)" = 3 by decide +kernel]; decide
 ·rw [← e]; exact (((De (k := 1) (by decide +kernel)).app h.sg).app (De (k := 0) (by decide +kernel))).mono (by decide)
theorem o3 {n : Str} (h : N6 n) : "not all " ++ n ++ " " ++ n ++ "=y" = txt (.neg (.al n (.same n "y"))) ∧ Gr (.neg (.al n (.same n "y"))) 3 13 2 := by
 have e : "not all " ++ n ++ " " ++ n ++ "=y" = txt (.neg (.al n (.same n "y"))) := Ft (by simp only [txt, Cj, List.append_assoc]; rw [show cs "not all " = cs "not " ++ (cs "all" ++ cs " ") by decide +kernel, show cs "=y" = cs "=" ++ cs "y" by decide +kernel]; simp only [List.append_assoc])
 refine ⟨e, ⟨h.nm, h.nm, nmy⟩, by simp [hgt], ?_, ?_⟩
 ·rw [← e]; simp only [Aa, h.nm.len, show Str.length "not all " = 8 by decide +kernel, show Str.length "=y" = 2 by decide +kernel, l_b]; decide
 ·rw [← e]; exact (((((De (k := 2) (by decide +kernel)).app h.sg).app (De (k := 0) (by decide +kernel))).app h.sg).app (De (k := 0) (by decide +kernel))).mono (by decide)
theorem ix4 (a b c d : D) (j : Int) (h0 : 0 ≤ j) (h4 : j < 4) : ∃ z, ixD (.lst [a, b, c, d]) (.int j) = some z ∧ (z = a ∨ z = b ∨ z = c ∨ z = d) := by
 have : j = 0 ∨ j = 1 ∨ j = 2 ∨ j = 3 := by omega
 rcases this with rfl | rfl | rfl | rfl
 ·exact ⟨a, rfl, .inl rfl⟩
 ·exact ⟨b, rfl, .inr (.inl rfl)⟩
 ·exact ⟨c, rfl, .inr (.inr (.inl rfl))⟩
 ·exact ⟨d, rfl, .inr (.inr (.inr rfl))⟩
theorem Uk {s : Say} {h l k : Nat} (g : Gr s h l k) (hl : l ≤ 2000) (c : Int) : ∃ s', DN [.str (txt s), .int c] = some (.str (txt s')) ∧ Gr s' (max h 3 + 2) (l + 24) (k + 4) := by
 obtain ⟨ch, hc, en⟩ := VN "abcxyz" 6 (c / 16) (by decide +kernel) (by decide +kernel) (by decide +kernel)
 obtain ⟨n, hn⟩ : ∃ n : Str, n = ⟨#[ch]⟩ := ⟨_, rfl⟩
 rw [← hn] at en
 have N : N6 n := ⟨ch, hc, hn⟩
 have nl := N.nm.len
 have d16 := Hw c 16 (by decide) (by decide)
 have m6 := Hk (c / 16) 6 (by decide)
 have d4 := Hw c 4 (by decide) (by decide)
 have m4 := Hk (c / 4) 4 (by decide)
 have lx : Str.length "x=" = 2 := by decide +kernel
 have lr : Str.length "red(" = 4 := by decide +kernel
 have lna : Str.length "near(" = 5 := by decide +kernel
 have lcy : Str.length ",y)" = 3 := by decide +kernel
 have lnn : Str.length "not all " = 8 := by decide +kernel
 have ley : Str.length "=y" = 2 := by decide +kernel
 have lal : Str.length "all " = 4 := by decide +kernel
 have lan : Str.length " and not " = 9 := by decide +kernel
 have a1 := adds "x=" n (by omega)
 have a2 := adds "red(" n (by omega)
 have a3 := adds ("red(" ++ n) ")" (by rw [Aa, l_q]; omega)
 have a4 := adds "near(" n (by omega)
 have a5 := adds ("near(" ++ n) ",y)" (by rw [Aa]; omega)
 have a6 := adds "not all " n (by omega)
 have a7 := adds ("not all " ++ n) " " (by rw [Aa, l_b]; omega)
 have a8 := adds ("not all " ++ n ++ " ") n (by simp only [Aa, l_b]; omega)
 have a9 := adds ("not all " ++ n ++ " " ++ n) "=y" (by simp only [Aa, l_b]; omega)
 obtain ⟨z, iz, hz⟩ := ix4 (.str ("x=" ++ n)) (.str ("red(" ++ n ++ ")")) (.str ("near(" ++ n ++ ",y)")) (.str ("not all " ++ n ++ " " ++ n ++ "=y")) (c / 4 % 4) (Int.emod_nonneg _ (by decide)) (Int.emod_lt_of_pos _ (by decide))
 obtain ⟨o, ez, go⟩ : ∃ o, z = .str (txt o) ∧ Gr o 3 13 2 := by
  rcases hz with rfl | rfl | rfl | rfl
  ·exact ⟨_, by rw [(o0 N).1], (o0 N).2⟩
  ·exact ⟨_, by rw [(o1 N).1], (o1 N).2⟩
  ·exact ⟨_, by rw [(o2 N).1], (o2 N).2⟩
  ·exact ⟨_, by rw [(o3 N).1], (o3 N).2⟩
 subst ez
 have lo := go.ln
 have ls := g.ln
 have m := Hk c 4 (by decide)
 have h4 : c % 4 = 0 ∨ c % 4 = 1 ∨ c % 4 = 2 ∨ c % 4 = 3 := by omega
 have hgo := go.hg
 have hgs := g.hg
 rcases h4 with e | e | e | e
 ·rw [e] at m
  have b1 := adds "(" (txt o) (by rw [l_p]; omega)
  have b2 := adds ("(" ++ txt o) " and " (by simp only [Aa, l_p, JP]; omega)
  have b3 := adds ("(" ++ txt o ++ " and ") (txt s) (by simp only [Aa, l_p, JP]; omega)
  have b4 := adds ("(" ++ txt o ++ " and " ++ txt s) ")" (by simp only [Aa, l_p, JP, l_q]; omega)
  refine ⟨.both o s, ?_, ⟨go.gd, g.gd⟩, by simp only [hgt]; omega, by simp only [txt, Aa, l_p, JP, l_q]; omega, ?_⟩
  ·simp only [cK, DN, Dg, d16, m6, en, d4, m4, a1, a2, a3, a4, a5, a6, a7, a8, a9, iz, m, HS, b1, b2, b3, b4, txt]
  ·exact ((((((De (y := "(") (k := 1) (by decide +kernel)).app go.sg).app (De (y := " and ") (k := 0) (by decide +kernel))).app g.sg).app (De (y := ")") (k := 0) (by decide +kernel)))).mono (by omega)
 ·rw [e] at m
  have b1 := adds "(" (txt s) (by rw [l_p]; omega)
  have b2 := adds ("(" ++ txt s) " or " (by simp only [Aa, l_p, l_or]; omega)
  have b3 := adds ("(" ++ txt s ++ " or ") (txt o) (by simp only [Aa, l_p, l_or]; omega)
  have b4 := adds ("(" ++ txt s ++ " or " ++ txt o) ")" (by simp only [Aa, l_p, l_or, l_q]; omega)
  refine ⟨.either s o, ?_, ⟨g.gd, go.gd⟩, by simp only [hgt]; omega, by simp only [txt, Aa, l_p, l_or, l_q]; omega, ?_⟩
  ·simp only [cK, DN, Dg, d16, m6, en, d4, m4, a1, a2, a3, a4, a5, a6, a7, a8, a9, iz, m, HS, b1, b2, b3, b4, txt]
  ·exact ((((((De (y := "(") (k := 1) (by decide +kernel)).app g.sg).app (De (y := " or ") (k := 0) (by decide +kernel))).app go.sg).app (De (y := ")") (k := 0) (by decide +kernel)))).mono (by omega)
 ·rw [e] at m
  have ea : ("all " : Str) = "all" ++ " " := by decide +kernel
  have b1 := adds "all " n (by omega)
  have b2 := adds ("all " ++ n) " " (by simp only [Aa, l_b]; omega)
  have b3 := adds ("all " ++ n ++ " ") (txt s) (by simp only [Aa, l_b]; omega)
  have et : txt (.al n s) = "all " ++ n ++ " " ++ txt s := by rw [ea]; rfl
  refine ⟨.al n s, ?_, ⟨N.nm, g.gd⟩, by simp only [hgt]; omega, by rw [et]; simp only [Aa, l_b, lal]; omega, ?_⟩
  ·rw [et]
   simp only [cK, DN, Dg, d16, m6, en, d4, m4, a1, a2, a3, a4, a5, a6, a7, a8, a9, iz, m, HS, b1, b2, b3]
  ·rw [et]
   exact (((((De (y := "all ") (k := 1) (by decide +kernel)).app N.sg).app (De (y := " ") (k := 0) (by decide +kernel))).app g.sg)).mono (by omega)
 ·rw [e] at m
  have b1 := adds "(" (txt o) (by rw [l_p]; omega)
  have b2 := adds ("(" ++ txt o) " and not " (by simp only [Aa, l_p, lan]; omega)
  have b3 := adds ("(" ++ txt o ++ " and not ") (txt s) (by simp only [Aa, l_p, lan]; omega)
  have b4 := adds ("(" ++ txt o ++ " and not " ++ txt s) ")" (by simp only [Aa, l_p, lan, l_q]; omega)
  have et : txt (.both o (.neg s)) = "(" ++ txt o ++ " and not " ++ txt s ++ ")" := Ft (by simp only [txt, Cj, List.append_assoc]; rw [show cs " and not " = cs " and " ++ cs "not " by decide +kernel]; simp only [List.append_assoc])
  refine ⟨.both o (.neg s), ?_, ⟨go.gd, g.gd⟩, by simp only [hgt]; omega, by rw [et]; simp only [Aa, l_p, lan, l_q]; omega, ?_⟩
  ·rw [et]
   simp only [cK, DN, Dg, d16, m6, en, d4, m4, a1, a2, a3, a4, a5, a6, a7, a8, a9, iz, m, HS, b1, b2, b3, b4]
  ·rw [et]
   exact ((((((De (y := "(") (k := 1) (by decide +kernel)).app go.sg).app (De (y := " and not ") (k := 1) (by decide +kernel))).app g.sg).app (De (y := ")") (k := 0) (by decide +kernel)))).mono (by omega)
def szO (i : Nat) (ρ : Rho) (o : Option D) : Option Out := o.map fun d => match excOf d with | some _ => .rt d ρ | none => .nx (ρ.set i (.fz d))
theorem MF (i : Nat) (f : FE) (ρ : Rho) : setZ i f ρ = szO i ρ (f ρ) := of_eq_true (eq_self _)
theorem Xh (i : Nat) (ρ : Rho) (y : Str) : szO i ρ (some (E y)) = some (.rt (E y) ρ) := of_eq_true (eq_self _)
theorem Xi (i : Nat) (ρ : Rho) (s : Say) : szO i ρ (some (enc s)) = some (.nx (ρ.set i (.fz (enc s)))) := by simp [szO, JX]
theorem MJ (cs : List Str) (i : Nat) (g h : FS) (ρ : Rho) : tryF cs i g h ρ = tryO cs i h (g ρ) := of_eq_true (eq_self _)
theorem Ul (cs : List Str) (i : Nat) (h : FS) (ρ : Rho) : tryO cs i h (some (.nx ρ)) = some (.nx ρ) := of_eq_true (eq_self _)
def Er (y : Str) : D := .err "NoSaying" [("line", .str y)]
theorem Um (i : Nat) (h : FS) (y : Str) (ρ : Rho) : tryO ["NoSaying"] i h (some (.rt (E y) ρ)) = offO i (h (ρ.set i (.fz (Er y)))) := by
 show (if (["NoSaying"] : List Str).contains "NoSaying" = true then offO i (h (ρ.set i (.fz (Er y)))) else none) = _
 rw [if_pos (by decide +kernel)]
theorem Uo (i : Nat) (ρ : Rho) : offO i (some (.nx ρ)) = some (.nx (ρ.set i .un)) := of_eq_true (eq_self _)
theorem f_er (y : Str) : fldE ["NoSaying"] "line" (Er y) = some (.str y) := by
 show (if (["NoSaying"] : List Str).contains "NoSaying" = true then List.lookup ("line" : Str) [("line", D.str y)] else none) = _
 rw [if_pos (by decide +kernel), List.lookup_cons, show (("line" : Str) == "line") = true by decide +kernel]
theorem n_er (y : Str) : isND true (Er y) = some (.bl true) := of_eq_true (eq_self _)
theorem Xj : isND true .non = some (.bl false) := of_eq_true (eq_self _)
theorem eqy (y : Str) : eqD false (.str y) (.str y) = some (.bl true) := by rw [eqs, decide_eq_true rfl]
theorem Xk (s : Say) : isiD "tuple" (enc s) = some (.bl true) := by cases s <;> rfl
theorem Xl (y : Str) : isiD "str" (.str y) = some (.bl true) := of_eq_true (eq_self _)
theorem NZ (ns : List Int) (a b : Int) (k : Nat) (hk : ∀ n : Nat, HT.sIx n n (some b) - HT.sIx n 0 (some a) ≤ k) : ∃ xs : List Int, slD (.lst (ns.map .int)) (some a) (some b) = some (.lst (xs.map .int)) ∧ xs.length ≤ k := by
 refine ⟨cutD ns (some a) (some b), ?_, ?_⟩
 ·show some (D.lst (cutD (ns.map D.int) (some a) (some b))) = _
  unfold cutD
  rw [List.length_map, List.map_take, List.map_drop]
 ·unfold cutD
  rw [List.length_take]
  have := hk ns.length
  omega
theorem sx51 (n : Nat) : HT.sIx n n (some 51) - HT.sIx n 0 (some 1) ≤ 50 := by
 unfold HT.sIx
 simp
 omega
theorem sx26 (n : Nat) : HT.sIx n n (some 26) - HT.sIx n 0 (some 1) ≤ 25 := by
 unfold HT.sIx
 simp
 omega
theorem Nb {y : Str} {s : Say} (h : Pl y) (hc : ct (cs y) < 110) (e : R 110 (cs y) = some (s, [])) : Hn [.str y] = some (enc s) ∧ DW 110 [enc s] = some (.str y) := by
 have q := KD h hc
 rw [e] at q
 obtain ⟨e1, e2, e3⟩ := QM _ _ _ _ e
 rw [List.append_nil] at e1
 have ey := Ft e1
 refine ⟨q, ?_⟩
 rw [ey]
 exact UL s 110 e3 e2 (by rw [← ey]; have := h.1; omega)
theorem Up : ∀ ns : List Int, ns.length ≤ 63 → JH [.lst (ns.map .int)] = some (.bl true) := by
 intro ns hn
 obtain ⟨xs, ex, xl⟩ := NZ ns 1 51 50 sx51
 obtain ⟨zs, ez, zl⟩ := NZ ns 1 26 25 sx26
 obtain ⟨y, ey, py, cy⟩ := Qv xs xl
 obtain ⟨c0, ec⟩ := WM ns 0
 have ec : Dc [.lst (ns.map .int), .int 0] = some (.int c0) := ec
 have m := Hk c0 2 (by decide)
 by_cases hodd : c0 % 2 = 1
 ·rw [hodd] at m
  obtain ⟨ρ', ef, s, z, rfl, g⟩ := Mi (b := tgB (O2 2) Lk) (ds := zs.map D.int) (ρ := [.fz (.lst (ns.map .int)), .fz (.str "x=y"), .un, .un, .un, .un, .un])
   (P := fun k ρ => ∃ (s : Say) (z : Slot), ρ = [.fz (.lst (ns.map .int)), .fz (.str (txt s)), z, .un, .un, .un, .un] ∧ (k ≤ zs.length → Gr s (3 + 2 * k) (3 + 24 * k) (4 * k))) 0
   ⟨.same "x" "y", .un, by rw [show txt (.same "x" "y") = "x=y" by decide +kernel], fun _ => ⟨⟨nmx, nmy⟩, by decide, by decide +kernel, De (by decide +kernel)⟩⟩ (by
    rintro k d ρ hd ⟨s, z, rfl, g⟩
    have hk : 0 + k < zs.length := by
     have := (List.getElem?_eq_some_iff.mp hd).1
     rw [List.length_map] at this
     omega
    obtain ⟨i, _, rfl⟩ := List.mem_map.mp (List.mem_of_getElem? hd)
    obtain ⟨s', e', g'⟩ := Uk (g (by omega)) (by omega) i
    refine ⟨_, ?_, s', .fz (.int i), rfl, fun _ => ⟨g'.gd, by have := g'.hg; omega, by have := g'.ln; omega, g'.sg.mono (by omega)⟩⟩
    rw [e_tg, Nx, Su]
    simp only [cK, Lk, e'])
  rw [List.length_map] at g
  have g := g (by omega)
  have pl : Pl (txt s) := ⟨by have := g.ln; omega, g.sg.pl⟩
  have hct : ct (cs (txt s)) < 110 := by have := g.sg.ct0; omega
  have er : R 110 (cs (txt s)) = some (s, []) := by
   have := ZK s g.gd 110 [] (by have := g.hg; omega)
   rwa [List.append_nil] at this
  obtain ⟨r1, r2⟩ := Nb pl hct er
  have q1 := eqy (txt s)
  have tt := Xk s
  have ts := Xl (txt s)
  simp only [cK, JH, Ky, ex, ey, ec, m, HS, ez, ef, r1, r2, q1, tt, ts, MJ, MF, Xi, Ul, Xj]
 ·have m0 : c0 % 2 = 0 := by omega
  rw [m0] at m
  have q1 := eqy y
  cases e : R 110 (cs y) with
  | none =>
   have rd := KD py cy
   rw [e] at rd
   simp only [cK, JH, Ky, ex, ey, ec, m, HS, rd, q1, MJ, MF, Xh, Um, Uo, n_er, f_er]
  | some p =>
   obtain ⟨s, r⟩ := p
   cases r with
   | nil =>
    obtain ⟨r1, r2⟩ := Nb py cy e
    have tt := Xk s
    have ts := Xl y
    simp only [cK, JH, Ky, ex, ey, ec, m, HS, r1, r2, q1, tt, ts, MJ, MF, Xi, Ul, Xj]
   | cons c r =>
    have rd := KD py cy
    rw [e] at rd
    simp only [cK, JH, Ky, ex, ey, ec, m, HS, rd, q1, MJ, MF, Xh, Um, Uo, n_er, f_er]
end K24
end
open PySem PySem.W PyProof.Rows
theorem L2.both_map {α β γ : Type} {o : Option α} {f : α → β} {g : α → γ} {a : β} {b : γ} (h1 : o.map f = some a) (h2 : o.map g = some b) : o.map (fun s => (f s, g s)) = some (a, b) := by
 cases o with
 | none => cases h1
 | some x => cases h1; cases h2; rfl
theorem L2.head_at {r : OpenRow} {q : Program} {loose : List Str} {d : DefRec} {kwd : List (Str × Expr)} {N : Nat} (H : Hook)
  (l1 : ∀ w : World, (openEnds treeTable r.prog w N).map (fun s => openSeen q loose (importedModules r.prog.main.body) (fun s => xlAt q [] s && recOk r.records s) true s) = some (openGood q loose))
  (l2 : ∀ w : World, (openEnds treeTable r.prog w N).map H.obs = some (H.val w))
  (e1 : defOf q r.name = some (d, kwd)) (e2 : r.prog.theDef r.name = some (d.params, d.body, d.scope)) (e3 : kwWritten? d.params.kwonlyargs d.params.kw_defaults = some kwd)
  (e4 : (!r.writes || r.records.isEmpty) = true) (e5 : r.wellSaid = true) (e6 : (chainsOk q && opensWell r.prog && (frees r.toRowW && r.within.isEmpty)) = true) (e7 : r.prog.bare) (e8 : r.toRowW.promised)
  (e9 : WalkO q loose (XL q []) H.says r.toRowW d kwd fun f vs => PySem.call f vs) : r.Holds :=
 holds_open (XP := XL q []) (fun w => L2.both_map (l1 w) (l2 w)) H.of H.keeps (fun s e => xl_of s (Bool.and_eq_true_iff.mp e).1) XL.keeps e1 e2 e3 (fun _ e => recFacts_of (Bool.and_eq_true_iff.mp e).2) e4 e5 e6 e7 e8 e9
set_option maxRecDepth 100000 in
set_option maxHeartbeats 0 in
theorem PySem.Challenge.cw_twinrounds_k24_whole_read_and_shown_holds : PySem.Challenge.rw_twinrounds_k24_whole_read_and_shown.Holds := by
 w_on; o_law; refine L2.head_at (q := K24.vw) (loose := []) (N := 6000) K24.hook K24.look1 K24.look2 (by rfl) (by rfl) (by rfl) (by rfl) (by assumption) (by decide +kernel) ⟨rfl, rfl, rfl, rfl, rfl, by decide +kernel⟩ ?_ ?_
 ·w_witness2
 unfold K24.hook
 k_fill
 refine L2.VG (l := PySem.Challenge.rw_twinrounds_k24_whole_read_and_shown) (n := 63) (k := 226) (x := "_law_script") (CX := fun _ => L2.CX0) (sp := fun w => K24.XX _) rfl (by decide) rfl ⟨rfl, by decide, by decide⟩ (fun w h Y => PySem.W.kIn_of Y) ?F (fun _ _ a ns hl _ hS => ⟨a, ns, rfl, hS, hl, fun _ => rfl⟩) fun _ _ _ _ _ z => z
 case F =>
  intro w mg fa h KX G hmg
  have TT : ∃ C_Reader : Addr, ∃ l : List (Str × Addr), ∃ T : K24.Tx (K24.gx (L2.KOf KX) C_Reader l) mg, ∀ (s : Shared) (u : Value), BindsTo s T.x_law.fd ⟨[u], []⟩ [("_law_script", u)] := by
   dsimp only [L2.KOf]
   refine' ⟨_, [("NoSaying", _)], { C_Reader := _, gc_Reader := PV.Yt, cl_Reader := (PV.cls KX ?pg_Reader ?hd_Reader ?po_Reader ?sa_Reader :), mC_Reader := PySem.W.mg_of KX G ?aC_Reader, x__law_pieces := (PV.dx KX G ?a0 ?l0 ?c0 ?k0 ?b0 :), x_shown := (PV.dx KX G ?a1 ?l1 ?c1 ?k1 ?b1 :), x_Reader___init__ := (PV.ix KX ?mk_Reader ?kc_Reader ?a2 ?i2 ?l2 ?c2 ?k2 ?b2 :), x_Reader_is_ahead := (PV.mx KX ?a3 ?i3 ?l3 ?c3 ?k3 ?b3 :), x_Reader_is_at_letter := (PV.mx KX ?a4 ?i4 ?l4 ?c4 ?k4 ?b4 :), x_Reader_take_letters := (PV.mx KX ?a5 ?i5 ?l5 ?c5 ?k5 ?b5 :), x_Reader_take := (PV.mx KX ?a6 ?i6 ?l6 ?c6 ?k6 ?b6 :), x_read_both_or_either := (PV.dx KX G ?a7 ?l7 ?c7 ?k7 ?b7 :), x_Reader_take_name := (PV.mx KX ?a8 ?i8 ?l8 ?c8 ?k8 ?b8 :), x_is_word := (PV.dx KX G ?a9 ?l9 ?c9 ?k9 ?b9 :), x_read_mark_or_tie := (PV.dx KX G ?a10 ?l10 ?c10 ?k10 ?b10 :), x_read_same := (PV.dx KX G ?a11 ?l11 ?c11 ?k11 ?b11 :), x_read_some_or_all := (PV.dx KX G ?a12 ?l12 ?c12 ?k12 ?b12 :), x_read_saying := (PV.dx KX G ?a13 ?l13 ?c13 ?k13 ?b13 :), x_read := (PV.dx KX G ?a14 ?l14 ?c14 ?k14 ?b14 :), x__law_cell := (PV.dx KX G ?a15 ?l15 ?c15 ?k15 ?b15 :), x__law_grown := (PV.dx KX G ?a16 ?l16 ?c16 ?k16 ?b16 :), x_law := (PV.dx KX G ?a17 ?l17 ?c17 ?k17 ?b17 :), fl_line := (PV.T4 KX (PV.cls KX ?pg_Reader ?hd_Reader ?po_Reader ?sa_Reader) ?n_Reader_line :), fl_at := (PV.T4 KX (PV.cls KX ?pg_Reader ?hd_Reader ?po_Reader ?sa_Reader) ?n_Reader_at :), z_all := PySem.W.mg_none_of KX G ?z_all, z_isinstance := PySem.W.mg_none_of KX G ?z_isinstance, z_len := PySem.W.mg_none_of KX G ?z_len, z_str := PySem.W.mg_none_of KX G ?z_str, z_tuple := PySem.W.mg_none_of KX G ?z_tuple, s_AND := (PV.sx (f := (.str " and ")) KX G ?a_AND :), s_OR := (PV.sx (f := (.str " or ")) KX G ?a_OR :), s_LETTERS := (PV.sx (f := (.str "abcdefghijklmnopqrstuvwxyz")) KX G ?a_LETTERS :), s_MOST_LETTERS := (PV.sx (f := (.int 8)) KX G ?a_MOST_LETTERS :), c_BINDERS := (PV.kx2 (xs := ["some", "all"]) KX G ?a_BINDERS ?l_BINDERS ?h_BINDERS ?v_BINDERS :), c_KEPT_TEXTS := (PV.kx2 (xs := ["not", "and", "or", "some", "all"]) KX G ?a_KEPT_TEXTS ?l_KEPT_TEXTS ?h_KEPT_TEXTS ?v_KEPT_TEXTS :), r := (PV.rx KX G ?rA ?rE ?r1 ?r2 ?r3 :), xt := (PV.Yu KX ?xt :), e_NoSaying := (PV.xx KX G ?eA_NoSaying ?eg_NoSaying ⟨?x1_NoSaying, ?x2_NoSaying, ?x3_NoSaying, ?x4_NoSaying, ?x5_NoSaying⟩ ?hi_NoSaying ?ii_NoSaying ?kp_NoSaying ?na_NoSaying ?el_NoSaying ?ec_NoSaying ?ek_NoSaying ?eb_NoSaying :), nf_line := (PV.Yv KX ?nf_line :) }, ?bt⟩
   case aC_Reader | pg_Reader | hd_Reader | po_Reader | sa_Reader | mk_Reader | kc_Reader | n_Reader_line | n_Reader_at | a0 | l0 | c0 | k0 | a1 | l1 | c1 | k1 | a2 | i2 | l2 | c2 | k2 | a3 | i3 | l3 | c3 | k3 | a4 | i4 | l4 | c4 | k4 | a5 | i5 | l5 | c5 | k5 | a6 | i6 | l6 | c6 | k6 | a7 | l7 | c7 | k7 | a8 | i8 | l8 | c8 | k8 | a9 | l9 | c9 | k9 | a10 | l10 | c10 | k10 | a11 | l11 | c11 | k11 | a12 | l12 | c12 | k12 | a13 | l13 | c13 | k13 | a14 | l14 | c14 | k14 | a15 | l15 | c15 | k15 | a16 | l16 | c16 | k16 | a17 | l17 | c17 | k17 | z_all | z_isinstance | z_len | z_str | z_tuple | a_AND | a_OR | a_LETTERS | a_MOST_LETTERS | a_BINDERS | l_BINDERS | a_KEPT_TEXTS | l_KEPT_TEXTS | rA | eA_NoSaying | hi_NoSaying | ii_NoSaying | kp_NoSaying | el_NoSaying | ec_NoSaying | ek_NoSaying => k_is
   case b0 | b1 | b4 | b5 | b7 | b8 | b9 | b13 | b14 | b17 => exact fun _ _ _ _ _ _ us hl => match us, hl with | [_], _ => rfl
   case b2 | b3 | b6 | b10 | b11 | b12 | b15 | b16 | eb_NoSaying => exact fun _ _ _ _ _ _ us hl => match us, hl with | [_, _], _ => rfl
   case h_BINDERS => decide
   case v_BINDERS => exact .cons ⟨_, rfl⟩ (.cons ⟨_, rfl⟩ (.nil))
   case h_KEPT_TEXTS => decide
   case v_KEPT_TEXTS => exact .cons ⟨_, rfl⟩ (.cons ⟨_, rfl⟩ (.cons ⟨_, rfl⟩ (.cons ⟨_, rfl⟩ (.cons ⟨_, rfl⟩ (.nil)))))
   case eg_NoSaying => rfl
   case rE | r1 | r2 | r3 | x1_NoSaying | x2_NoSaying | x3_NoSaying | x4_NoSaying | x5_NoSaying | na_NoSaying => kernel_rfl
   case xt => exact fun p hp => by (rcases List.mem_cons.mp hp with rfl | hp; (exact ⟨⟨by kernel_rfl, by kernel_rfl, by kernel_rfl, by kernel_rfl, by kernel_rfl⟩, ⟨by kernel_rfl, by kernel_rfl, by kernel_rfl⟩⟩); cases hp)
   case nf_line => exact fun p hp => by (rcases List.mem_cons.mp hp with rfl | hp; (exact by kernel_rfl); cases hp)
   case bt => exact fun s u => .of_eq rfl
  obtain ⟨C_Reader, l, T, e1⟩ := TT
  have e0 : fa = T.x_law.f := by
   have q := hmg.symm.trans T.x_law.m
   cases q
   rfl
  subst e0
  exact ⟨T.x_law.fd, e1, fun base kb nb => (K24.Yw (w := w) (base := base) T).imp (K24.Yx K24.Up)⟩
