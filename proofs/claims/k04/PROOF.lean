import PyProof.Rows.All
import Wide.All
import OpenK.AllK
import Wide.FinOn
import Lean
import PyProof.EqAt
import PyProof.EqKinds
import PyProof.TupleCall
import PyProof.StationsW
import PyProof.DictWalks
import PyProof.DictItemsLoops
import KE.KPairComp
import KE.KDictList
import PyProof.StrWalks
import PyProof.ConsumeWalk
import PyProof.DictUpdate
import PyProof.ExcClass2
import PyProof.ExcClass3
import PyProof.ExcArgsOwn
import PyProof.ExcAttrAll.ValueError
import PyProof.InstStoreFacts
import PyProof.StrLawsRepr
import PyProof.ReprStr
import PyProof.NsDelKeeps
import PyProof.RulesAs
import KE.KIsAll
import PySem.Challenge.RW_twinrounds_k04_no_thing_asked
set_option Elab.async false
set_option linter.all false
set_option maxRecDepth 100000
set_option maxHeartbeats 4000000
section
open PySem PySem.W PyProof.Rows
def L2.viewAt (p : Program) (ks : List Nat) : Program := { p with main := { p.main with body := ks.filterMap fun i => p.main.body[i]? } }
def K04.vw : Program := L2.viewAt PySem.Challenge.pw_twinrounds_k04_no_thing_asked [1, 2, 3, 4, 5, 6, 7, 8, 10, 11, 12, 13, 14, 15, 16, 17, 18, 19, 20, 22, 23, 24, 25, 26, 27, 28, 29, 30]
set_option maxRecDepth 100000 in
set_option maxHeartbeats 0 in
theorem K04.look1 : ∀ w : World, (openEnds treeTable (PySem.Challenge.rw_twinrounds_k04_no_thing_asked.row).prog w 6000).map (fun s => openSeen K04.vw [] (importedModules (PySem.Challenge.rw_twinrounds_k04_no_thing_asked.row).prog.main.body) (fun s => xlAt K04.vw [] s && recOk (PySem.Challenge.rw_twinrounds_k04_no_thing_asked.row).records s) true s) = some (openGood K04.vw []) := by
 intro w; kernel_rfl
section
local macro_rules | `(tactic| o_head $H) => `(tactic| exact ‹∀ P : Prop, P› _)
set_option maxRecDepth 100000 in
set_option maxHeartbeats 0 in
theorem K04.side (hole : ∀ P : Prop, P) : (PySem.Challenge.rw_twinrounds_k04_no_thing_asked.row).Holds := by
 k_head
end
def K04.as : List Addr := [2, 3, 15, 22, 23, 24, 25, 28, 35, 37, 38, 40, 41, 42, 43, 44, 47, 54, 56, 57, 59, 60, 61, 62, 63, 66, 73, 75, 76, 78, 79, 80, 81, 82, 85, 92, 94, 95, 97, 98, 99, 100, 101, 104, 111, 113, 114, 116, 117, 118, 119, 120, 123, 130, 131, 132, 135, 142, 143, 144, 147, 148, 151, 152, 153, 155, 156, 158, 159, 160, 162, 163, 165, 166, 167, 169, 170, 172, 173, 174, 176, 177, 179, 180, 188, 190, 191, 193, 194, 195, 197, 198, 200, 201, 202, 204, 205, 207, 208, 209, 211, 212, 214, 215, 216, 218, 219, 221, 222, 223, 224, 225, 226, 227, 230, 232, 233, 235, 236, 237, 239, 240, 242, 243, 244, 246, 247, 249, 250, 251, 254, 255, 256, 258, 259, 261, 262, 263, 265, 266, 268, 269, 270, 272, 273, 275, 276, 277, 279, 280, 282, 283, 284, 286, 287, 289, 290]
set_option maxRecDepth 100000 in
set_option maxHeartbeats 0 in
theorem K04.as_ok : ∀ P, K04.as = (K04.side.heap_1 P).map (·.1) := fun _ => by kernel_rfl
noncomputable def K04.hook : Hook := kHook K04.side.heap_1 K04.as K04.as_ok
set_option maxRecDepth 100000 in
set_option maxHeartbeats 0 in
theorem K04.look2 : ∀ w : World, (openEnds treeTable (PySem.Challenge.rw_twinrounds_k04_no_thing_asked.row).prog w 6000).map K04.hook.obs = some (K04.hook.val w) := by
 intro w; kernel_rfl
end
namespace L2
open PySem PySem.Spec PyProof.Rows
abbrev Key := Sum Int Str
def Ld : Key → Value → Bool
 | .inl k, v => Value.isInt k v
 | .inr x, v => Value.isStrOf x v
def keyH (w : World) : Key → Int
 | .inl k => hashInt k
 | .inr x => hashStr w x
theorem BR : ∀ {k : Key} {v : Value}, Ld k v = true → (∃ i t, k = Sum.inl i ∧ v = Value.int i t) ∨ (∃ x t, k = Sum.inr x ∧ v = Value.str x t)
 | .inl i, v, h => by
  obtain ⟨t, e⟩ := Value.isInt_shape (k := i) (v := v) h
  exact .inl ⟨i, t, rfl, e⟩
 | .inr x, v, h => by
  obtain ⟨t, e⟩ := Value.isStrOf_shape (x := x) (v := v) h
  exact .inr ⟨x, t, rfl, e⟩
theorem Sw (i : Int) (t : Tok) : Ld (.inl i) (.int i t) = true := by simp [Ld, Value.isInt]
theorem Sy (x : Str) (t : Tok) : Ld (.inr x) (.str x t) = true := by simp [Ld, Value.isStrOf]
theorem aJ (a b : Int) : decide ((Sum.inl a : Key) = Sum.inl b) = (a == b) := by
 by_cases e : a = b
 ·subst e; simp
 ·have h : ¬ (Sum.inl a : Key) = Sum.inl b := fun q => e (Sum.inl.inj q)
  rw [decide_eq_false h]
  exact (beq_eq_false_iff_ne.mpr e).symm
theorem aK (a b : Str) : decide ((Sum.inr a : Key) = Sum.inr b) = decide (a = b) := by
 by_cases e : a = b
 ·subst e; simp
 ·have h : ¬ (Sum.inr a : Key) = Sum.inr b := fun q => e (Sum.inr.inj q)
  rw [decide_eq_false h, decide_eq_false e]
theorem aL (a : Int) (b : Str) : decide ((Sum.inl a : Key) = Sum.inr b) = false := decide_eq_false (fun q => nomatch q)
theorem aM (a : Str) (b : Int) : decide ((Sum.inr a : Key) = Sum.inl b) = false := decide_eq_false (fun q => nomatch q)
def Av (prog : Program) (w : World) : PySem.KeyKind prog w Key where
 is := Ld
 hash := keyH w
 inj := fun v a b ha hb => by
  rcases BR ha with ⟨i, t, rfl, rfl⟩ | ⟨x, t, rfl, rfl⟩
  ·rcases BR hb with ⟨j, u, rfl, e⟩ | ⟨y, u, rfl, e⟩
   ·injection e with e1 _; rw [e1]
   ·exact nomatch e
  ·rcases BR hb with ⟨j, u, rfl, e⟩ | ⟨y, u, rfl, e⟩
   ·exact nomatch e
   ·injection e with e1 _; rw [e1]
 byValue := fun k v h => by
  rcases BR h with ⟨i, t, rfl, rfl⟩ | ⟨x, t, rfl, rfl⟩ <;> rfl
 pyHash := fun hv h => by
  rcases BR hv with ⟨i, t, rfl, rfl⟩ | ⟨x, t, rfl, rfl⟩
  ·exact wpAny_pyHash_int h
  ·exact wpAny_pyHash_str h
 eqBool := fun hu hv h => by
  rcases BR hu with ⟨i, t, rfl, rfl⟩ | ⟨x, t, rfl, rfl⟩
  ·rcases BR hv with ⟨j, u, rfl, rfl⟩ | ⟨y, u, rfl, rfl⟩
   ·rw [aJ] at h; exact wpAny_eqBool_int h
   ·rw [aL] at h; exact SeqAt.EqAt.int_str i t y u _ _ _ _ h
  ·rcases BR hv with ⟨j, u, rfl, rfl⟩ | ⟨y, u, rfl, rfl⟩
   ·rw [aM] at h; exact SeqAt.EqAt.str_int x t j u _ _ _ _ h
   ·rw [aK] at h; exact wpAny_eqBool_str h
 «strs» := fun k x t v h => by
  rcases BR h with ⟨i, u, rfl, e⟩ | ⟨y, u, rfl, e⟩
  ·exact nomatch e
  ·injection e with e1 _
   subst e1
   cases v <;> rfl
theorem N7 (prog : Program) (w : World) (i : Int) (t : Tok) : (Av prog w).is (.inl i) (.int i t) = true := Sw i t
theorem N8 (prog : Program) (w : World) (x : Str) (t : Tok) : (Av prog w).is (.inr x) (.str x t) = true := Sy x t
end L2
namespace L2
open PySem PySem.Spec PyProof.Rows
inductive V where
 | non | bl (b : Bool) | int (i : Int) | str (x : Str) | byt (b : Array UInt8) | flt (b : UInt64) | ref (a : Addr) | ty (n : String)
 deriving DecidableEq
def RelV : V → Value → Prop
 | .non, u => u = Value.none
 | .bl b, u => u = Value.bool b
 | .int i, u => ∃ t, u = Value.int i t
 | .str x, u => ∃ t, u = Value.str x t
 | .byt b, u => ∃ t, u = Value.bytes b t
 | .flt b, u => ∃ t, u = Value.float b t
 | .ref a, u => u = Value.ref a
 | .ty n, u => u = Value.type n
abbrev Vals : List V → List Value → Prop := Paired RelV
theorem Vals.length {xs : List V} {us : List Value} (r : Vals xs us) : xs.length = us.length := Paired.length r
theorem Vals.get : ∀ {xs : List V} {us : List Value} {i : Nat} {x : V}, Vals xs us → xs[i]? = some x → ∃ u, us[i]? = some u ∧ RelV x u
 | _, _, _, _, .nil, e => by simp at e
 | _, _, 0, _, .cons r _, e => by simp at e; subst e; exact ⟨_, rfl, r⟩
 | _, _, i + 1, x, .cons _ t, e => by
  obtain ⟨u, h1, h2⟩ := Vals.get (i := i) (x := x) t (by simpa using e)
  exact ⟨u, by simpa using h1, h2⟩
theorem Vals.set {x : V} {u : Value} (r : RelV x u) : ∀ {xs : List V} {us : List Value} (i : Nat), Vals xs us → Vals (xs.set i x) (us.set i u)
 | _, _, _, .nil => .nil
 | _, _, 0, .cons _ t => .cons r t
 | _, _, i + 1, .cons q t => .cons q (Vals.set r i t)
theorem Vals.append : ∀ {xs ys : List V} {us ws : List Value}, Vals xs us → Vals ys ws → Vals (xs ++ ys) (us ++ ws)
 | _, _, _, _, .nil, s => s
 | _, _, _, _, .cons r t, s => .cons r (Vals.append t s)
theorem Vals.take : ∀ {xs : List V} {us : List Value} (n : Nat), Vals xs us → Vals (xs.take n) (us.take n)
 | _, _, 0, _ => .nil
 | _, _, _ + 1, .nil => .nil
 | _, _, n + 1, .cons r t => .cons r (Vals.take n t)
theorem Vals.drop : ∀ {xs : List V} {us : List Value} (n : Nat), Vals xs us → Vals (xs.drop n) (us.drop n)
 | _, _, 0, r => r
 | _, _, _ + 1, .nil => .nil
 | _, _, n + 1, .cons _ t => Vals.drop n t
theorem Vals.none_of : ∀ {xs : List V} {us : List Value} {i : Nat}, Vals xs us → xs[i]? = none → us[i]? = none := fun {xs us i} r e => by
 have h1 := r.length
 have h2 : xs.length ≤ i := List.getElem?_eq_none_iff.mp e
 exact List.getElem?_eq_none_iff.mpr (by omega)
def RelO : Option V → Option Value → Prop
 | some v, some u => RelV v u
 | none, none => True
 | _, _ => False
def KV {κ : Type} : List (κ × V) → List (κ × Value) → Prop := Paired fun (p : κ × V) (q : κ × Value) => p.1 = q.1 ∧ RelV p.2 q.2
def kV : Key → V
 | .inl i => .int i
 | .inr x => .str x
inductive HO where
 | lst (xs : List V)
 | tup (xs : List V)
 | dK (kvs : List (Key × V)) | dT (kvs : List (List Key × V))
 | set (S : Int → Bool) (n : Nat)
 | ins (C dx : Addr) (fs : List (Str × V))
 | own (x : Addr)
 | xd (fs : List (Str × V))
 | met (f x : Addr)
 | rng (lo hi : Int)
 | frz (o : Obj) (u : HO)
 | tbl (ps : Array Value)
 | ext (φ : Heap → Prop)
abbrev Hp := Addr → Option HO
def upd (H : Hp) (a : Addr) (o : HO) : Hp := fun b => if b = a then some o else H b
theorem Ah {H : Hp} {a : Addr} {o : HO} : upd H a o a = some o := by unfold upd; rw [if_pos rfl]
theorem Af {H : Hp} {a b : Addr} {o : HO} (h : b ≠ a) : upd H a o b = H b := by unfold upd; rw [if_neg h]
theorem ZJ {H : Hp} {a b : Addr} {o u : HO} (h : H a = some o) (h' : H b = some u) (d : o ≠ u) : a ≠ b := by
 intro e; subst e; rw [h] at h'; exact d (Option.some.inj h')
theorem Aj {H : Hp} {a b : Addr} {o : HO} (h : H a = some o) (h' : H b = none) : a ≠ b := by
 intro e; subst e; rw [h] at h'; cases h'
section
variable (P : Program) (w : World)
def BK (H : Hp) (h : Heap) (a : Addr) : HO → Prop
  | .lst xs => xs.length ≤ sizeLine ∧ ∃ (its : List Value) (n : Nat), Vals xs its ∧ h.get? a = some { cls := .type "list", data := .seq its.toArray n }
  | .tup xs => xs.length ≤ sizeLine ∧ ∃ its : List Value, Vals xs its ∧ IsTup h a its.toArray
  | .dK kvs => kvs.length ≤ sizeLine ∧ (a == sysModules) = false ∧ ∃ vs, KV kvs vs ∧ h.DictOf (Av P w) a vs
  | .dT kvs => kvs.length ≤ sizeLine ∧ (a == sysModules) = false ∧ ∃ xs : List (List Key × Addr × Value),
      Paired (fun (p : List Key × V) (q : List Key × Addr × Value) => p.1 = q.1 ∧ H q.2.1 = some (.tup (p.1.map kV)) ∧ RelV p.2 q.2.2) kvs xs ∧
      ∃ o es ep, h.get? a = some o ∧ o.ExactDict ∧ o.data = .dict es ep ∧ es.toList = xs.map (entryOfKey (tupleKind (Av P w))) ∧ (xs.map (·.1)).Nodup
  | .set S n => h.SetOf (intKind P w) a S n
  | .ins C dx fs => H dx = some (.own a) ∧ fs.length ≤ 1000 ∧ dx ≠ a ∧ h.get? a = some (PySem.W.instObj C dx) ∧
      ∃ mA, h.Ns1 dx mA ∧ (∀ f, RelO (fs.lookup f) (mA f)) ∧ PySem.Within mA (fs.map (·.1))
  | .own _ => ∃ o, h.get? a = some o
  | .xd fs => ∃ mA, h.Ns1 a mA ∧ ∀ f, RelO (fs.lookup f) (mA f)
  | .rng lo hi => ∃ t u v, h.get? a = some { cls := .type "range", data := .fields #[.int lo t, .int hi u, .int 1 v] }
  | .frz o u => h.get? a = some o ∧ BK H h a u
  | .tbl ps => h.get? a = some { cls := .none, data := .fields ps }
  | .met f x => h.get? a = some (PySem.W.methodObj (.ref f) (.ref x))
  | .ext φ => φ h ∧ (∃ o, h.get? a = some o) ∧ ∀ h1 h2 : Heap, φ h1 → (∀ o, h1.get? a = some o → h2.get? a = some o) → φ h2
def HOk (H : Hp) (h : Heap) : Prop := ∀ a o, H a = some o → BK P w H h a o
end
section
variable {P : Program} {w : World} {H H' : Hp} {h h' : Heap} {a : Addr} {o : HO}
theorem BK.lt (x : BK P w H h a o) : a < h.objs.size := by
 cases o with
 | lst xs => obtain ⟨_, _, _, _, e⟩ := x; exact Heap.lt_size e
 | tup xs => obtain ⟨_, _, _, p⟩ := x; exact p.lt
 | dK kvs => obtain ⟨_, _, _, _, o, _, _, e, _⟩ := x; exact Heap.lt_size e
 | dT kvs => obtain ⟨_, _, _, _, o, _, _, e, _⟩ := x; exact Heap.lt_size e
 | set S n => obtain ⟨o, _, _, _, e, _⟩ := x; exact Heap.lt_size e
 | ins C dx fs => obtain ⟨_, _, _, e, _⟩ := x; exact Heap.lt_size e
 | own y => obtain ⟨_, e⟩ := x; exact Heap.lt_size e
 | xd fs => obtain ⟨_, ⟨_, _, _, e, _⟩, _⟩ := x; exact Heap.lt_size e
 | rng lo hi => obtain ⟨_, _, _, e⟩ := x; exact Heap.lt_size e
 | frz ob u => obtain ⟨e, _⟩ := x; exact Heap.lt_size e
 | tbl ps => exact Heap.lt_size (show h.get? a = some _ from x)
 | met f y => exact Heap.lt_size (show h.get? a = some _ from x)
 | ext φ => obtain ⟨_, ⟨_, e⟩, _⟩ := x; exact Heap.lt_size e
theorem Paired.mapP {α β : Type} {F G : α → β → Prop} : ∀ {l₁ : List α} {l₂ : List β}, Paired F l₁ l₂ → (∀ a b, F a b → G a b) → Paired G l₁ l₂
 | _, _, .nil, _ => .nil
 | _, _, .cons r t, f => .cons (f _ _ r) (Paired.mapP t f)
theorem BK.stay (x : BK P w H h a o) (k : ∀ b u, (b = a ∨ H b = some (.own a)) → h.get? b = some u → h'.get? b = some u)
  (ho : ∀ b, H b = some (.own a) → H' b = some (.own a)) (ht : ∀ b xs, H b = some (.tup xs) → H' b = some (.tup xs)) : BK P w H' h' a o := by
 induction o with
 | lst xs => obtain ⟨z, its, n, r, e⟩ := x; exact ⟨z, its, n, r, k _ _ (.inl rfl) e⟩
 | tup xs => obtain ⟨z, its, r, ob, e, c⟩ := x; exact ⟨z, its, r, ob, k _ _ (.inl rfl) e, c⟩
 | dK kvs => obtain ⟨z, y, vs, r, ob, es, ep, e, c⟩ := x; exact ⟨z, y, vs, r, ob, es, ep, k _ _ (.inl rfl) e, c⟩
 | dT kvs =>
  obtain ⟨z, y, xs, r, ob, es, ep, e, c⟩ := x
  exact ⟨z, y, xs, Paired.mapP r fun p q z => ⟨z.1, ht _ _ z.2.1, z.2.2⟩, ob, es, ep, k _ _ (.inl rfl) e, c⟩
 | set S n => obtain ⟨ob, es, ep, t, e, c⟩ := x; exact ⟨ob, es, ep, t, k _ _ (.inl rfl) e, c⟩
 | ins C dx fs =>
  obtain ⟨d, z, ne, e, mA, ⟨od, es, ep, e2, c⟩, r⟩ := x
  exact ⟨ho _ d, z, ne, k _ _ (.inl rfl) e, mA, ⟨od, es, ep, k _ _ (.inr d) e2, c⟩, r⟩
 | own y => obtain ⟨ob, e⟩ := x; exact ⟨ob, k _ _ (.inl rfl) e⟩
 | xd fs => obtain ⟨mA, ⟨od, es, ep, e, c⟩, r⟩ := x; exact ⟨mA, ⟨od, es, ep, k _ _ (.inl rfl) e, c⟩, r⟩
 | rng lo hi => obtain ⟨t, u, v, e⟩ := x; exact ⟨t, u, v, k _ _ (.inl rfl) e⟩
 | frz ob u ih => obtain ⟨e, q⟩ := x; exact ⟨k _ _ (.inl rfl) e, ih q⟩
 | tbl ps =>
  have e : h.get? a = some { cls := .none, data := .fields ps } := x
  show h'.get? a = some { cls := .none, data := .fields ps }
  exact k a _ (.inl rfl) e
 | met f y =>
  have e : h.get? a = some (PySem.W.methodObj (.ref f) (.ref y)) := x
  show h'.get? a = some (PySem.W.methodObj (.ref f) (.ref y))
  exact k a _ (.inl rfl) e
 | ext φ => obtain ⟨p, ⟨o, e⟩, st⟩ := x; exact ⟨st _ _ p fun o q => k _ _ (.inl rfl) q, ⟨o, k _ _ (.inl rfl) e⟩, st⟩
theorem HOk.lt (x : HOk P w H h) (e : H a = some o) : a < h.objs.size := (x a o e).lt
theorem HOk.fresh (x : HOk P w H h) (e : h.objs.size ≤ a) : H a = none := by
 cases q : H a with
 | none => rfl
 | some u => exact absurd (Nat.lt_of_lt_of_le (x.lt q) e) (Nat.lt_irrefl _)
theorem HOk.kept (x : HOk P w H h) (k : ∀ b u, h.get? b = some u → h'.get? b = some u) : HOk P w H h' := fun a o e =>
 (x a o e).stay (fun b u _ q => k b u q) (fun _ q => q) fun _ _ q => q
theorem HOk.laid (x : HOk P w H h) (k : ∀ b u, h.get? b = some u → h'.get? b = some u) (hp : h.objs.size ≤ a) (new : BK P w (upd H a o) h' a o) : HOk P w (upd H a o) h' := fun b u e => by
 have hn := x.fresh hp
 by_cases hb : b = a
 ·subst hb; rw [Ah] at e; cases e; exact new
 ·rw [Af hb] at e
  exact (x b u e).stay (fun c v _ q => k c v q) (fun c q => by rw [Af (Aj q hn)]; exact q) fun c xs q => by rw [Af (Aj q hn)]; exact q
end
def Rd (H : Hp) (a : Addr) (u : HO) : Prop := H a = some u ∨ ∃ o, H a = some (.frz o u)
theorem Rd.of {H : Hp} {a : Addr} {u : HO} (h : H a = some u) : Rd H a u := .inl h
theorem Rd.ok {P : Program} {w : World} {H : Hp} {h : Heap} {a : Addr} {u : HO} (r : Rd H a u) (x : HOk P w H h) : BK P w H h a u := by
 rcases r with r | ⟨o, r⟩
 ·exact x a u r
 ·obtain ⟨_, q⟩ := x a _ r
  exact q
def Mut : Option HO → Prop
 | some (.lst _) => True
 | some (.dK _) => True
 | some (.dT _) => True
 | some (.set _ _) => True
 | some (.ins _ _ _) => True
 | some (.ext _) => True
 | _ => False
section
variable {P : Program} {w : World} {H : Hp} {h h' : Heap} {x e : Addr} {o' : HO}
theorem HOk.write (ok : HOk P w H h) (mu : Mut (H x)) (he : e = x ∨ H e = some (.own x)) (k : ∀ b u, b ≠ e → h.get? b = some u → h'.get? b = some u) (heo : ∃ u, h'.get? e = some u)
  (new : BK P w (upd H x o') h' x o') : HOk P w (upd H x o') h' := fun b u q => by
 have nown : ∀ c y, H c = some (.own y) → c ≠ x := fun c y r z => by subst z; rw [r] at mu; exact mu
 have ntup : ∀ c xs, H c = some (.tup xs) → c ≠ x := fun c xs r z => by subst z; rw [r] at mu; exact mu
 by_cases hb : b = x
 ·subst hb; rw [Ah] at q; cases q; exact new
 ·rw [Af hb] at q
  by_cases hbe : b = e
  ·have q' : H b = some (.own x) := by
    rcases he with z | z
    ·exact absurd (hbe.trans z) hb
    ·rw [hbe]; exact z
   rw [q] at q'; cases q'
   obtain ⟨v, hv⟩ := heo
   exact ⟨v, by rw [hbe]; exact hv⟩
  ·refine (ok b u q).stay (fun c v hc r => k c v ?_ r) (fun c r => by rw [Af (nown c b r)]; exact r) fun c xs r => by rw [Af (ntup c xs r)]; exact r
   rcases hc with rfl | hc
   ·exact hbe
   ·rintro rfl
    rcases he with z | z
    ·exact nown c b hc z
    ·rw [hc] at z; cases z; exact hb rfl
end
structure Un (fs ex : List Addr) (H H' : Hp) (h h' : Heap) : Prop where
 keep : ∀ b o, h.get? b = some o → H b = none → b ∉ fs → b ∉ ex → h'.get? b = some o
 slot : ∀ b o, h.get? b = some o → H b = none → b ∈ fs → b ∉ ex → ∃ sl, h'.get? b = some { o with slots := sl }
 free : ∀ b o, h.get? b = some o → H b = none → b ∉ ex → H' b = none
 there : ∀ b o, h.get? b = some o → b ∉ ex → ∃ o', h'.get? b = some o'
 tups : ∀ b xs, H b = some (.tup xs) → H' b = some (.tup xs)
 frzs : ∀ b o u, H b = some (.frz o u) → H' b = some (.frz o u)
 tbls : ∀ b ps, H b = some (.tbl ps) → ∃ more, H' b = some (.tbl (ps ++ more))
section
variable {fs fs' ex ex' : List Addr} {H H1 H2 : Hp} {h h1 h2 h' : Heap} {a x e : Addr} {o : HO}
theorem Un.any (u : Un fs ex H H1 h h1) {b : Addr} {ob : Obj} (q : h.get? b = some ob) (n : H b = none) (hx : b ∉ ex) : ∃ sl, h1.get? b = some { ob with slots := sl } := by
 by_cases hb : b ∈ fs
 ·exact u.slot b ob q n hb hx
 ·exact ⟨ob.slots, u.keep b ob q n hb hx⟩
theorem Un.trans (a : Un fs ex H H1 h h1) (b : Un fs ex H1 H2 h1 h2) : Un fs ex H H2 h h2 where
 keep := fun c ob q n hc hx => b.keep c ob (a.keep c ob q n hc hx) (a.free c ob q n hx) hc hx
 slot := fun c ob q n hc hx => by
  obtain ⟨sl, e1⟩ := a.slot c ob q n hc hx
  obtain ⟨sl', e2⟩ := b.slot c _ e1 (a.free c ob q n hx) hc hx
  exact ⟨sl', e2⟩
 free := fun c ob q n hx => by
  obtain ⟨o', e1⟩ := a.there c ob q hx
  exact b.free c o' e1 (a.free c ob q n hx) hx
 there := fun c ob q hx => by
  obtain ⟨o', e1⟩ := a.there c ob q hx
  exact b.there c o' e1 hx
 tups := fun c xs q => b.tups c xs (a.tups c xs q)
 frzs := fun c ob xs q => b.frzs c ob xs (a.frzs c ob xs q)
 tbls := fun c ps q => by
  obtain ⟨m1, e1⟩ := a.tbls c ps q
  obtain ⟨m2, e2⟩ := b.tbls c _ e1
  exact ⟨m1 ++ m2, by rw [e2, Array.append_assoc]⟩
theorem Un.kept (k : ∀ b u, h.get? b = some u → h'.get? b = some u) : Un fs ex H H h h' :=
 ⟨fun b ob q _ _ _ => k b ob q, fun b ob q _ _ _ => ⟨ob.slots, k b ob q⟩, fun _ _ _ n _ => n, fun b ob q _ => ⟨ob, k b ob q⟩, fun _ _ q => q, fun _ _ _ q => q, fun _ ps q => ⟨#[], by rw [q]; simp⟩⟩
theorem Un.refl : Un fs ex H H h h := Un.kept fun _ _ q => q
theorem Un.laid (k : ∀ b u, h.get? b = some u → h'.get? b = some u) (hp : h.objs.size ≤ a) (hn : H a = none) : Un fs ex H (upd H a o) h h' where
 keep := fun b u q _ _ _ => k b u q
 slot := fun b u q _ _ _ => ⟨u.slots, k b u q⟩
 free := fun b u q n _ => by rw [Af (Nat.ne_of_lt (Nat.lt_of_lt_of_le (Heap.lt_size q) hp))]; exact n
 there := fun b u q _ => ⟨u, k b u q⟩
 tups := fun b xs q => by rw [Af (Aj q hn)]; exact q
 frzs := fun b u xs q => by rw [Af (Aj q hn)]; exact q
 tbls := fun b ps q => ⟨#[], by rw [Af (Aj q hn), q]; simp⟩
theorem Un.write (mu : Mut (H x)) (he : e = x ∨ H e = some (.own x)) (k : ∀ b u, b ≠ e → h.get? b = some u → h'.get? b = some u) (heo : ∃ u, h'.get? e = some u) : Un fs ex H (upd H x o) h h' := by
 have hx : ∀ b, H b = none → b ≠ x := fun b n z => by subst z; rw [n] at mu; exact mu
 have hb : ∀ b, H b = none → b ≠ e := fun b n z => by
  subst z
  rcases he with r | r
  ·exact hx b n r
  ·rw [n] at r; cases r
 have hm : ∀ b u, H b = some u → ¬ Mut (some u) → b ≠ x := fun b u q nm z => by subst z; rw [q] at mu; exact nm mu
 refine ⟨fun b u q n _ _ => k b u (hb b n) q, fun b u q n _ _ => ⟨u.slots, k b u (hb b n) q⟩, fun b u q n _ => by rw [Af (hx b n)]; exact n, fun b u q _ => ?_,
  fun b xs q => by rw [Af (hm b _ q fun z => z)]; exact q, fun b u xs q => by rw [Af (hm b _ q fun z => z)]; exact q, fun b ps q => ⟨#[], by rw [Af (hm b _ q fun z => z), q]; simp⟩⟩
 by_cases hbe : b = e
 ·subst hbe; exact heo
 ·exact ⟨u, k b u hbe q⟩
theorem Un.mono (u : Un fs ex H H1 h h1) (hs : ∀ b ∈ fs, b ∈ fs') (hx : ∀ b ∈ ex, b ∈ ex') : Un fs' ex' H H1 h h1 :=
 ⟨fun b ob q n hb he => u.keep b ob q n (fun z => hb (hs b z)) fun z => he (hx b z), fun _ _ q n _ he => u.any q n fun z => he (hx _ z), fun b ob q n he => u.free b ob q n fun z => he (hx b z), fun b ob q he => u.there b ob q fun z => he (hx b z), u.tups, u.frzs, u.tbls⟩
end
def trk (h : Heap) (H : Hp) : List Addr := (List.range h.objs.size).filter fun a => (H a).isSome
def hidT (h : Heap) (H : Hp) : Heap := PySem.W.hideAll h (trk h H)
theorem S5 (h : Heap) (H : Hp) : (hidT h H).objs.size = h.objs.size := PySem.W.hideAll_size _ _
theorem T9 {h : Heap} {H : Hp} {b : Addr} {o : Obj} (e : h.get? b = some o) (n : H b = none) : (hidT h H).get? b = some o :=
 PySem.W.hideAll_get _ e fun hm => by
  have q : (H b).isSome = true := (List.mem_filter.mp hm).2
  rw [n] at q; simp at q
theorem Xk {h : Heap} {H : Hp} {b : Addr} {o : Obj} (e : (hidT h H).get? b = some o) : h.get? b = some o ∧ H b = none := by
 have e' : h.get? b = some o := PySem.W.of_hideAll (trk h H) e
 refine ⟨e', ?_⟩
 cases q : H b with
 | none => rfl
 | some x =>
  have hm : b ∈ trk h H := List.mem_filter.mpr ⟨List.mem_range.mpr (Heap.lt_size e'), by simp [q]⟩
  have z : (hidT h H).get? b = none := PySem.W.hideAll_none (trk h H) hm
  rw [z] at e; cases e
def Xl (g h : Heap) (L : Addr) : List (Addr × Obj) := (List.range h.objs.size).filterMap fun a => if a = L ∨ (g.get? a).isSome = true then none else (h.get? a).map fun o => (a, o)
def rest (g h : Heap) (L d : Addr) : List (Addr × Obj) := (Xl g h L).filter fun p => decide (p.1 ≠ d)
end L2
namespace L2
open PySem PySem.Spec PyProof.Rows
structure Mod (K : PySem.W.Frag) (mg : Str → Option Value) (base : Heap) : Prop where
 kin : K.In base
 glob : base.Ns mainGlobals mg
 blt : ∃ mb, base.Ns builtinsNs mb ∧ ∀ x : Str, x ≠ "__name__" → mb x = bootBuiltins x
 nolimit : base.NoLimit
structure Cx where
 prog : Program
 w : World
 K : PySem.W.Frag
 mg : Str → Option Value
 base : Heap
 A : Around
 N : List Str
 s₀ : Shared
 H₀ : Hp
 env : Env
 outer : List Env
 stack : List Env
 ex : List Addr
 fn : Str → Bool
 calm : Bool
 pn : List (Addr × Obj)
 xe : Value → Shared → Prop
def frs (l : List Env) : List Addr := l.filterMap (·.frame)
abbrev Cx.fs (X : Cx) : List Addr := frs X.outer
def Vis (sc : Scope) (x : Str) : Prop := sc.names.lookup x = some .local ∨ sc.names.lookup x = some .cell ∨ sc.names.lookup x = some .free
def Loc (sc : Scope) (x : Str) : Prop := sc.names.lookup x = some .local ∨ sc.names.lookup x = some .cell
def Look (env : Env) (h : Heap) (m : Str → Option Value) (x : Str) (u : Value) : Prop :=
 (env.kindOf x = some .local ∧ m x = some u) ∨ ((env.kindOf x = some .cell ∨ env.kindOf x = some .free) ∧ ∃ c, env.cells.lookup x = some c ∧ h.IsCell c (some u))
structure Cx.Ok (X : Cx) : Prop where
 mod : Mod X.K X.mg X.base
 kind : X.env.scope.kind = .function
 glob : X.env.globals = mainGlobals
 blt : X.env.builtins = builtinsNs
 above : X.s₀.heap.objs.size ≤ X.env.locals
 inj : ∀ x y c, X.env.cells.lookup x = some c → X.env.cells.lookup y = some c → x = y
 has : ∀ x, (X.env.kindOf x = some .cell ∨ X.env.kindOf x = some .free) → ∃ c, X.env.cells.lookup x = some c
 cab : ∀ x c, X.fn x = true → X.env.cells.lookup x = some c → X.s₀.heap.objs.size ≤ c
 hd : X.calm = true → X.A.handled = none
 frames : X.A.frames = some X.stack
 stk : X.stack = X.outer ∨ (X.stack = X.env :: X.outer ∧ X.env.frame = some X.env.locals)
 exf : ∀ b ∈ X.ex, b ≠ X.env.locals ∧ ∀ x c, X.env.cells.lookup x = some c → c ≠ b
 bs : ∀ b o, X.base.get? b = some o → X.s₀.heap.get? b = some o ∧ X.H₀ b = none
 bsz : X.base.objs.size ≤ X.s₀.heap.objs.size
 noex : ∀ b o, X.base.get? b = some o → b ∉ X.ex
 exfs : ∀ b ∈ X.ex, b ∉ X.fs
 funs : X.s₀.heap.FunFrames X.base X.outer
 frf : ∀ b ∈ X.fs, X.H₀ b = none
structure Inv (X : Cx) (pins : List (Addr × Obj)) (σ : List (Option V)) (H : Hp) (s : Shared) : Prop where
 ok : X.Ok
 os : s.os = X.s₀.os
 bare : AllBare s.gens
 base : Un X.fs X.ex X.H₀ H X.s₀.heap s.heap
 loc : ∃ m, s.heap.Ns X.env.locals m ∧ ∀ (i : Nat) (x : Str) (v : V), X.N[i]? = some x → σ[i]? = some (some v) → Vis X.env.scope x → ∃ u, RelV v u ∧ Look X.env s.heap m x u
 cell : ∀ x c, X.env.cells.lookup x = some c → ∃ v, s.heap.IsCell c v
 free : H X.env.locals = none
 freeC : ∀ x c, X.env.cells.lookup x = some c → H c = none
 pin : ∀ p ∈ X.pn ++ pins, s.heap.get? p.1 = some p.2 ∧ H p.1 = none ∧ p.1 ≠ X.env.locals ∧ p.1 ∉ X.fs ∧ ∀ v, p.2.data ≠ .cell v
 hok : HOk X.prog X.w H s.heap
 len : σ.length = X.N.length
section
variable {X : Cx} {pins : List (Addr × Obj)} {σ : List (Option V)} {H H' : Hp} {s : Shared} {h' : Heap}
theorem Cx.Ok.nofr (ok : X.Ok) {b : Addr} {o : Obj} (e : X.base.get? b = some o) : b ∉ X.fs := fun hb => by
 have := (ok.funs.mem hb).1
 rw [e] at this; cases this
theorem Inv.bs (I : Inv X pins σ H s) : ∀ b o, X.base.get? b = some o → s.heap.get? b = some o ∧ H b = none := fun b o e =>
 ⟨I.base.keep b o (I.ok.bs b o e).1 (I.ok.bs b o e).2 (I.ok.nofr e) (I.ok.noex b o e), I.base.free b o (I.ok.bs b o e).1 (I.ok.bs b o e).2 (I.ok.noex b o e)⟩
theorem Inv.bk (I : Inv X pins σ H s) : ∀ b o, X.base.get? b = some o → s.heap.get? b = some o := fun b o e => (I.bs b o e).1
theorem Inv.mod (I : Inv X pins σ H s) : Mod X.K X.mg X.base := I.ok.mod
theorem Inv.kIn (I : Inv X pins σ H s) : X.K.In s.heap := I.ok.mod.kin.keeps I.bk
theorem Inv.nolimit (I : Inv X pins σ H s) : s.heap.NoLimit := I.ok.mod.nolimit.keeps I.bk
theorem Inv.fr (I : Inv X pins σ H s) : ∃ m, Fr X.base X.env.locals s.heap m :=
 let ⟨m, hn, _⟩ := I.loc
 ⟨m, hn, I.bk, Nat.le_trans I.ok.bsz I.ok.above⟩
theorem Inv.lt (I : Inv X pins σ H s) : X.env.locals < s.heap.objs.size := let ⟨_, hn, _⟩ := I.loc; hn.lt
theorem Inv.sz (I : Inv X pins σ H s) : X.s₀.heap.objs.size ≤ s.heap.objs.size := Nat.le_trans I.ok.above (Nat.le_of_lt I.lt)
theorem Inv.nofs (I : Inv X pins σ H s) {a : Addr} (h : s.heap.objs.size ≤ a) : a ∉ X.fs := fun hb => by
 obtain ⟨_, o, ho, _⟩ := I.ok.funs.mem hb
 exact absurd (Nat.lt_of_lt_of_le (Heap.lt_size ho) (Nat.le_trans I.sz h)) (Nat.lt_irrefl _)
theorem Inv.cne (I : Inv X pins σ H s) : ∀ x c, X.env.cells.lookup x = some c → c ≠ X.env.locals := fun x c e z => by
 obtain ⟨v, o, ho, hd⟩ := I.cell x c e
 obtain ⟨m, ⟨o', es, ep, ho', hd', _⟩, _⟩ := I.loc
 rw [z, ho'] at ho; cases ho; rw [hd'] at hd; cases hd
theorem Inv.funs (I : Inv X pins σ H s) : s.heap.FunFrames X.base X.outer := by
 have all : ∀ (l : List Env), (∀ b ∈ frs l, b ∈ X.fs) → X.s₀.heap.FunFrames X.base l → s.heap.FunFrames X.base l := by
  intro l
  induction l with
  | nil => intro _ _; trivial
  | cons env r ih =>
   intro hs hl
   obtain ⟨hk, ⟨L, o, hf, hn, ho, hd⟩, hr⟩ := hl
   have hL : L ∈ X.fs := hs L (by unfold frs; rw [List.filterMap_cons, hf]; exact List.mem_cons_self)
   obtain ⟨sl, e⟩ := I.base.slot L o ho (I.ok.frf L hL) hL fun z => I.ok.exfs L z hL
   exact ⟨hk, ⟨L, _, hf, hn, e, hd⟩, ih (fun b hb => hs b (by unfold frs; rw [List.filterMap_cons, hf]; exact List.mem_cons_of_mem _ hb)) hr⟩
 exact all X.outer (fun _ hb => hb) I.ok.funs
theorem Inv.stack (I : Inv X pins σ H s) : s.heap.FunFrames X.base X.stack := by
 rcases I.ok.stk with e | ⟨e, hf⟩
 ·rw [e]; exact I.funs
 ·rw [e]
  obtain ⟨m, hn, _⟩ := I.loc
  refine .cons (by rw [I.ok.kind]; decide) hf hn ?_ I.funs
  exact Heap.get?_none_of_le (Nat.le_trans I.ok.bsz I.ok.above)
theorem Inv.stkSub (I : Inv X pins σ H s) : ∀ b ∈ frs X.stack, b ∈ X.env.locals :: X.fs := fun b hb => by
 rcases I.ok.stk with e | ⟨e, hf⟩
 ·rw [e] at hb; exact List.mem_cons_of_mem _ hb
 ·rw [e] at hb
  unfold frs at hb
  rw [List.filterMap_cons, hf] at hb
  exact hb
theorem Inv.stkFree (I : Inv X pins σ H s) : ∀ b ∈ frs X.stack, H b = none := fun b hb => by
 rcases List.mem_cons.mp (I.stkSub b hb) with e | hb
 ·rw [e]; exact I.free
 ·obtain ⟨_, o, ho, _⟩ := I.ok.funs.mem hb
  exact I.base.free b o ho (I.ok.frf b hb) fun z => I.ok.exfs b z hb
theorem Inv.step {g' : Array GenState} {t' : Nat} {d' : Drawn} {ch : List Addr} (I : Inv X pins σ H s)
  (hch : ∀ b ∈ ch, (b ∈ X.ex ∨ X.s₀.heap.objs.size ≤ b) ∧ b ≠ X.env.locals ∧ (∀ x c, X.env.cells.lookup x = some c → c ≠ b) ∧ ∀ p ∈ X.pn ++ pins, p.1 ≠ b)
  (keep : ∀ b o, b ≠ X.env.locals → b ∉ X.fs → b ∉ ch → s.heap.get? b = some o → H b = none → h'.get? b = some o)
  (slot : ∀ b o, b ≠ X.env.locals → b ∈ X.fs → b ∉ ch → s.heap.get? b = some o → H b = none → ∃ sl, h'.get? b = some { o with slots := sl }) (free : ∀ b o, b ∉ ch → s.heap.get? b = some o → H b = none → H' b = none)
  (there : ∀ b o, b ∉ ch → s.heap.get? b = some o → ∃ o', h'.get? b = some o')
  (tups : ∀ b xs, H b = some (.tup xs) → H' b = some (.tup xs)) (frzs : ∀ b o u, H b = some (.frz o u) → H' b = some (.frz o u)) (tbls : ∀ b ps, H b = some (.tbl ps) → ∃ more, H' b = some (.tbl (ps ++ more)))
  (ns : ∀ m, s.heap.Ns X.env.locals m → h'.Ns X.env.locals m) (hok : HOk X.prog X.w H' h') (hg : AllBare g') :
  Inv X pins σ H' { s with heap := h', gens := g', drawn := d', toks := t' } := by
 have neL : ∀ b o, X.s₀.heap.get? b = some o → b ≠ X.env.locals := fun b o e => Nat.ne_of_lt (Nat.lt_of_lt_of_le (Heap.lt_size e) I.ok.above)
 have neC : ∀ b o, X.s₀.heap.get? b = some o → b ∉ X.ex → b ∉ ch := fun b o e hx hb => by
  rcases (hch b hb).1 with z | z
  ·exact hx z
  ·exact absurd (Nat.lt_of_lt_of_le (Heap.lt_size e) z) (Nat.lt_irrefl _)
 have cellK : ∀ x c, X.env.cells.lookup x = some c → ∀ v, s.heap.IsCell c v → h'.IsCell c v := fun x c e v ⟨o, ho, hd⟩ => by
  have nch : c ∉ ch := fun z => (hch c z).2.2.1 x c e rfl
  by_cases hc : c ∈ X.fs
  ·obtain ⟨sl, q⟩ := slot c o (I.cne x c e) hc nch ho (I.freeC x c e)
   exact ⟨_, q, hd⟩
  ·exact ⟨o, keep c o (I.cne x c e) hc nch ho (I.freeC x c e), hd⟩
 refine ⟨I.ok, I.os, hg, ⟨fun b o e n hb hx => ?_, fun b o e n hb hx => ?_, fun b o e n hx => ?_, fun b o e hx => ?_, fun b xs e => tups b xs (I.base.tups b xs e), fun b o xs e => frzs b o xs (I.base.frzs b o xs e), fun b ps e => ?_⟩, ?_, fun x c e => ?_, ?_, fun x c e => ?_, fun p hp => ?_, hok, I.len⟩
 ·exact keep b o (neL b o e) hb (neC b o e hx) (I.base.keep b o e n hb hx) (I.base.free b o e n hx)
 ·obtain ⟨sl, e1⟩ := I.base.slot b o e n hb hx
  obtain ⟨sl', e2⟩ := slot b _ (neL b o e) hb (neC b o e hx) e1 (I.base.free b o e n hx)
  exact ⟨sl', e2⟩
 ·obtain ⟨o', e1⟩ := I.base.there b o e hx
  exact free b o' (neC b o e hx) e1 (I.base.free b o e n hx)
 ·obtain ⟨o', e1⟩ := I.base.there b o e hx
  exact there b o' (neC b o e hx) e1
 ·obtain ⟨m1, e1⟩ := I.base.tbls b ps e
  obtain ⟨m2, e2⟩ := tbls b _ e1
  exact ⟨m1 ++ m2, by rw [e2, Array.append_assoc]⟩
 ·obtain ⟨m, hn, hl⟩ := I.loc
  refine ⟨m, ns m hn, fun i x v e1 e2 e3 => ?_⟩
  obtain ⟨u, r, l⟩ := hl i x v e1 e2 e3
  refine ⟨u, r, ?_⟩
  rcases l with l | ⟨k, c, e, z⟩
  ·exact .inl l
  ·exact .inr ⟨k, c, e, cellK x c e _ z⟩
 ·obtain ⟨v, z⟩ := I.cell x c e
  exact ⟨v, cellK x c e v z⟩
 ·obtain ⟨m, ⟨o, _, _, ho, _⟩, _⟩ := I.loc
  exact free _ o (fun z => (hch _ z).2.1 rfl) ho I.free
 ·obtain ⟨v, o, ho, hd⟩ := I.cell x c e
  exact free c o (fun z => (hch c z).2.2.1 x c e rfl) ho (I.freeC x c e)
 ·obtain ⟨e, n, ne, nf, d⟩ := I.pin p hp
  have nch : p.1 ∉ ch := fun z => (hch p.1 z).2.2.2 p hp rfl
  exact ⟨keep p.1 p.2 ne nf nch e n, free p.1 p.2 nch e n, ne, nf, d⟩
theorem Inv.un {t' : Nat} (I : Inv X pins σ H s) (u : Un X.fs [] H H' s.heap h') (hok : HOk X.prog X.w H' h') : Inv X pins σ H' { s with heap := h', toks := t' } := by
 obtain ⟨m, ⟨o, es, ep, ho, r⟩, _⟩ := id I.loc
 obtain ⟨sl, hL⟩ := u.any ho I.free (by simp)
 exact I.step (g' := s.gens) (d' := s.drawn) (ch := []) (fun _ z => nomatch z) (fun b o _ hb _ e n => u.keep b o e n hb (by simp)) (fun b o _ hb _ e n => u.slot b o e n hb (by simp)) (fun b o _ e n => u.free b o e n (by simp)) (fun b o _ e => u.there b o e (by simp)) u.tups u.frzs u.tbls (fun m' hm => by
  obtain ⟨o', es', ep', ho', r'⟩ := hm
  rw [ho] at ho'; cases ho'
  exact ⟨_, es', ep', hL, r'⟩) hok I.bare
theorem Inv.call {g' : Array GenState} {t' : Nat} {d' : Drawn} {ch : List Addr} (I : Inv X pins σ H s) (u : Un (frs X.stack) ch H H' s.heap h') (hok : HOk X.prog X.w H' h') (hg : AllBare g')
  (hch : ∀ b ∈ ch, (b ∈ X.ex ∨ X.s₀.heap.objs.size ≤ b) ∧ b ≠ X.env.locals ∧ (∀ x c, X.env.cells.lookup x = some c → c ≠ b) ∧ ∀ p ∈ X.pn ++ pins, p.1 ≠ b) :
  Inv X pins σ H' { s with heap := h', gens := g', drawn := d', toks := t' } := by
 obtain ⟨m, ⟨o, es, ep, ho, r⟩, _⟩ := id I.loc
 obtain ⟨sl, hL⟩ := u.any ho I.free fun z => (hch _ z).2.1 rfl
 exact I.step (ch := ch) hch (fun b o hL hb hc e n => u.keep b o e n (fun z => (List.mem_cons.mp (I.stkSub b z)).elim hL hb) hc) (fun b o _ _ hc e n => u.any e n hc) (fun b o hc e n => u.free b o e n hc) (fun b o hc e => u.there b o e hc) u.tups u.frzs u.tbls (fun m' hm => by
  obtain ⟨o', es', ep', ho', r'⟩ := hm
  rw [ho] at ho'; cases ho'
  exact ⟨_, es', ep', hL, r'⟩) hok hg
theorem Inv.turned {t' : Nat} {it : Addr} (I : Inv X pins σ H s) (k : ∀ b o, b ≠ it → s.heap.get? b = some o → h'.get? b = some o) (hn : H it = none) (hL : it ≠ X.env.locals)
  (h1 : it ∈ X.ex ∨ X.s₀.heap.objs.size ≤ it) (h2 : ∀ x c, X.env.cells.lookup x = some c → c ≠ it) (h3 : ∀ p ∈ X.pn ++ pins, p.1 ≠ it) : Inv X pins σ H { s with heap := h', toks := t' } := by
 have nit : ∀ b u, H b = some u → b ≠ it := fun b u e z => by rw [z, hn] at e; cases e
 refine I.step (g' := s.gens) (d' := s.drawn) (ch := [it]) (fun b hb => ?_) (fun b o _ _ hc e _ => k b o (fun z => hc (by simp [z])) e) (fun b o _ _ hc e _ => ⟨o.slots, k b o (fun z => hc (by simp [z])) e⟩) (fun _ _ _ _ n => n)
  (fun b o hc e => ⟨o, k b o (fun z => hc (by simp [z])) e⟩) (fun _ _ e => e) (fun _ _ _ e => e) (fun b ps e => ⟨#[], by rw [e]; simp⟩) (fun m hm => ?_) (fun b u e => ?_) I.bare
 ·have e : b = it := by simpa using hb
  subst e
  exact ⟨h1, hL, h2, h3⟩
 ·obtain ⟨o, es, ep, ho, r⟩ := hm
  exact ⟨o, es, ep, k _ o (Ne.symm hL) ho, r⟩
 ·refine (I.hok b u e).stay (fun c v hc q => k c v ?_ q) (fun _ q => q) fun _ _ q => q
  rcases hc with z | z
  ·rw [z]; exact nit b u e
  ·exact nit c _ z
theorem Inv.tok (I : Inv X pins σ H s) (t : Nat) : Inv X pins σ H { s with toks := t } := I.un (h' := s.heap) (t' := t) Un.refl I.hok
theorem Inv.kept {t' : Nat} (I : Inv X pins σ H s) (k : ∀ b u, s.heap.get? b = some u → h'.get? b = some u) : Inv X pins σ H { s with heap := h', toks := t' } := I.un (Un.kept k) (I.hok.kept k)
theorem Inv.laid {a : Addr} {o : HO} {t' : Nat} (I : Inv X pins σ H s) (k : ∀ b u, s.heap.get? b = some u → h'.get? b = some u) (hp : s.heap.objs.size ≤ a) (new : BK X.prog X.w (upd H a o) h' a o) :
  Inv X pins σ (upd H a o) { s with heap := h', toks := t' } := I.un (Un.laid k hp (I.hok.fresh hp)) (I.hok.laid k hp new)
theorem Inv.write {x e : Addr} {o : HO} {t' : Nat} (I : Inv X pins σ H s) (mu : Mut (H x)) (he : e = x ∨ H e = some (.own x)) (k : ∀ b u, b ≠ e → s.heap.get? b = some u → h'.get? b = some u) (heo : ∃ u, h'.get? e = some u)
  (new : BK X.prog X.w (upd H x o) h' x o) : Inv X pins σ (upd H x o) { s with heap := h', toks := t' } := I.un (Un.write mu he k heo) (I.hok.write mu he k heo new)
theorem Inv.pins_of {pins' : List (Addr × Obj)} (I : Inv X pins σ H s) (h : ∀ p ∈ pins', s.heap.get? p.1 = some p.2 ∧ H p.1 = none ∧ p.1 ≠ X.env.locals ∧ p.1 ∉ X.fs ∧ ∀ v, p.2.data ≠ .cell v) : Inv X pins' σ H s :=
 ⟨I.ok, I.os, I.bare, I.base, I.loc, I.cell, I.free, I.freeC, fun p hp => (List.mem_append.mp hp).elim (fun z => I.pin p (List.mem_append_left _ z)) (h p), I.hok, I.len⟩
theorem J6 {N : List Str} (hN : N.Nodup) {i j : Nat} {x : Str} (a : N[i]? = some x) (b : N[j]? = some x) : i = j := by
 obtain ⟨h1, e1⟩ := List.getElem?_eq_some_iff.mp a
 obtain ⟨h2, e2⟩ := List.getElem?_eq_some_iff.mp b
 exact (List.getElem_inj hN).mp (e1.trans e2.symm)
theorem S6 {M : Model} {A : Around} {E : Value → Shared → Prop} {i : Nat} {x : Str} {v : V} {u : Value} {Q : Unit → Shared → Prop} (I : Inv X pins σ H s) (hN : X.N.Nodup) (hi : X.N[i]? = some x) (hx : Loc X.env.scope x) (r : RelV v u)
  (h : ∀ s', Inv X pins (σ.set i (some v)) H s' → (∃ a, Heap.SameBut a s.heap s'.heap ∧ (a = X.env.locals ∨ X.env.cells.lookup x = some a)) → Q () s') (hf : X.fn x = true ∨ X.env.scope.names.lookup x = some .local := by first | exact .inl rfl | exact .inr rfl | assumption) : wpAny M A (storeName X.env x u) Q E s := by
 obtain ⟨m, hn, hl⟩ := id I.loc
 have hcls : (X.env.scope.kind == .class || (X.env.scope.kind == .module && X.env.locals != X.env.globals)) = false := by rw [I.ok.kind]; rfl
 have hiσ : i < σ.length := by rw [I.len]; exact (List.getElem?_eq_some_iff.mp hi).1
 have cne := I.cne
 have tracked : ∀ {a : Addr} {h' : Heap}, (∃ o, s.heap.get? a = some o ∧ H a = none) → Heap.SameBut a s.heap h' → HOk X.prog X.w H h' := fun {a h'} ha hs b ob e => by
  obtain ⟨_, _, hfree⟩ := ha
  refine (I.hok b ob e).stay (fun c w' hc q => (hs.2 c ?_).trans q) (fun _ q => q) fun _ _ q => q
  rintro rfl
  rcases hc with rfl | hc
  ·rw [hfree] at e; cases e
  ·rw [hfree] at hc; cases hc
 rcases hx with hk | hk
 ·refine wpAny_storeName_local hk hn (fun h' hn' hs => ?_) hcls
  obtain ⟨oL, _, _, hoL, _⟩ := id hn
  refine h _ ⟨I.ok, I.os, I.bare, ⟨fun b o e n hb hx => ?_, fun b o e n hb hx => ?_, I.base.free, fun b o e hx => ?_, I.base.tups, I.base.frzs, I.base.tbls⟩, ⟨_, hn', fun j y v' e1 e2 e3 => ?_⟩, fun y c e => ?_, I.free, I.freeC, fun p hp => ?_, tracked ⟨oL, hoL, I.free⟩ hs, by simpa using I.len⟩ ⟨_, hs, .inl rfl⟩
  ·exact (hs.2 b (Nat.ne_of_lt (Nat.lt_of_lt_of_le (Heap.lt_size e) I.ok.above))).trans (I.base.keep b o e n hb hx)
  ·obtain ⟨sl, e1⟩ := I.base.slot b o e n hb hx
   exact ⟨sl, (hs.2 b (Nat.ne_of_lt (Nat.lt_of_lt_of_le (Heap.lt_size e) I.ok.above))).trans e1⟩
  ·obtain ⟨o', e1⟩ := I.base.there b o e hx
   exact ⟨o', (hs.2 b (Nat.ne_of_lt (Nat.lt_of_lt_of_le (Heap.lt_size e) I.ok.above))).trans e1⟩
  ·by_cases hj : j = i
   ·subst hj
    rw [hi] at e1; cases e1
    rw [List.getElem?_set_self hiσ] at e2
    cases e2
    exact ⟨u, r, .inl ⟨hk, by simp⟩⟩
   ·rw [List.getElem?_set_ne (Ne.symm hj)] at e2
    obtain ⟨u', r', q⟩ := hl j y v' e1 e2 e3
    refine ⟨u', r', ?_⟩
    rcases q with ⟨k, e⟩ | ⟨k, c, e, z⟩
    ·refine .inl ⟨k, ?_⟩
     have : y ≠ x := fun e => hj (J6 hN e1 (e ▸ hi))
     simp [this, e]
    ·exact .inr ⟨k, c, e, z.sameBut hs (cne y c e)⟩
  ·obtain ⟨w', z⟩ := I.cell y c e
   exact ⟨w', z.sameBut hs (cne y c e)⟩
  ·obtain ⟨e, n, ne, nf, d⟩ := I.pin p hp
   exact ⟨(hs.2 p.1 ne).trans e, n, ne, nf, d⟩
 ·have hfn : X.fn x = true := by
   rcases hf with z | z
   ·exact z
   ·rw [z] at hk; cases hk
  obtain ⟨c, hc⟩ := I.ok.has x (.inl hk)
  obtain ⟨w', z⟩ := I.cell x c hc
  refine wpAny_storeName_cell I.ok.kind hk hc z (fun h' hc' hs => ?_)
  obtain ⟨oc, hoc, hocd⟩ := id z
  refine h { s with heap := h' } ⟨I.ok, I.os, I.bare, ⟨fun b o e n hb hx => ?_, fun b o e n hb hx => ?_, I.base.free, fun b o e hx => ?_, I.base.tups, I.base.frzs, I.base.tbls⟩, ⟨m, hn.sameBut hs (Ne.symm (cne x c hc)), fun j y v' e1 e2 e3 => ?_⟩, fun y c' e => ?_, I.free, I.freeC, fun p hp => ?_, tracked ⟨oc, hoc, I.freeC x c hc⟩ hs, by simpa using I.len⟩ ⟨c, hs, .inr hc⟩
  ·exact (hs.2 b (Nat.ne_of_lt (Nat.lt_of_lt_of_le (Heap.lt_size e) (I.ok.cab x c hfn hc)))).trans (I.base.keep b o e n hb hx)
  ·obtain ⟨sl, e1⟩ := I.base.slot b o e n hb hx
   exact ⟨sl, (hs.2 b (Nat.ne_of_lt (Nat.lt_of_lt_of_le (Heap.lt_size e) (I.ok.cab x c hfn hc)))).trans e1⟩
  ·obtain ⟨o', e1⟩ := I.base.there b o e hx
   exact ⟨o', (hs.2 b (Nat.ne_of_lt (Nat.lt_of_lt_of_le (Heap.lt_size e) (I.ok.cab x c hfn hc)))).trans e1⟩
  ·by_cases hj : j = i
   ·subst hj
    rw [hi] at e1; cases e1
    rw [List.getElem?_set_self hiσ] at e2
    cases e2
    exact ⟨u, r, .inr ⟨.inl hk, c, hc, hc'⟩⟩
   ·rw [List.getElem?_set_ne (Ne.symm hj)] at e2
    obtain ⟨u', r', q⟩ := hl j y v' e1 e2 e3
    refine ⟨u', r', ?_⟩
    rcases q with q | ⟨k, c', e, z'⟩
    ·exact .inl q
    ·refine .inr ⟨k, c', e, z'.sameBut hs ?_⟩
     rintro rfl
     exact hj (J6 hN e1 (I.ok.inj _ _ _ e hc ▸ hi))
  ·by_cases hcc : c' = c
   ·subst hcc; exact ⟨_, hc'⟩
   ·obtain ⟨w2, z2⟩ := I.cell y c' e
    exact ⟨w2, z2.sameBut hs hcc⟩
  ·obtain ⟨e, n, ne, nf, d⟩ := I.pin p hp
   refine ⟨(hs.2 p.1 ?_).trans e, n, ne, nf, d⟩
   intro q
   rw [q, hoc] at e
   have q' : oc = p.2 := Option.some.inj e
   exact d w' (by rw [← q']; exact hocd)
theorem Hg {M : Model} {A : Around} {E : Value → Shared → Prop} {i : Nat} {x : Str} {v : V} {u : Value} {Q : Unit → Shared → Prop} (I : Inv X pins σ H s) (hN : X.N.Nodup) (hi : X.N[i]? = some x) (hx : Loc X.env.scope x) (r : RelV v u)
  (h : ∀ s', Inv X pins (σ.set i (some v)) H s' → Q () s') (hf : X.fn x = true ∨ X.env.scope.names.lookup x = some .local := by first | exact .inl rfl | exact .inr rfl | assumption) : wpAny M A (storeName X.env x u) Q E s :=
 S6 I hN hi hx r (fun s' I' _ => h s' I') hf
theorem Inv.call' {s' : Shared} {ch : List Addr} (I : Inv X pins σ H s) (ho : s'.os = s.os) (u : Un (frs X.stack) ch H H' s.heap s'.heap) (hok : HOk X.prog X.w H' s'.heap) (hg : AllBare s'.gens)
  (hch : ∀ b ∈ ch, (b ∈ X.ex ∨ X.s₀.heap.objs.size ≤ b) ∧ b ≠ X.env.locals ∧ (∀ x c, X.env.cells.lookup x = some c → c ≠ b) ∧ ∀ p ∈ X.pn ++ pins, p.1 ≠ b) : Inv X pins σ H' s' := by
 obtain ⟨h', g', d', t', o'⟩ := s'
 have e : o' = s.os := ho
 subst e
 exact I.call (g' := g') (t' := t') (d' := d') u hok hg hch
end
abbrev XK := Value → Option Addr → Hp → Prop
abbrev St := List (Option V)
abbrev VK := V → Hp → Prop
abbrev TE := St → Hp → VK → Prop
abbrev TT := St → Hp → (Bool → Hp → Prop) → Prop
abbrev TA := St → Hp → (List V → Hp → Prop) → Prop
structure Ends where
 nx : St → Hp → Prop
 rt : VK
 bk : St → Hp → Prop := fun _ _ => False
 ct : St → Hp → Prop := fun _ _ => False
abbrev TS := Ends → St → Hp → Prop
def EP (X : Cx) (pins : List (Addr × Obj)) (σ : St) (Q : VK) (u : Value) (s' : Shared) : Prop := ∃ v H', Inv X pins σ H' s' ∧ RelV v u ∧ Q v H'
def TP (X : Cx) (pins : List (Addr × Obj)) (σ : St) (Q : Bool → Hp → Prop) (b : Bool) (s' : Shared) : Prop := ∃ H', Inv X pins σ H' s' ∧ Q b H'
def AP (X : Cx) (pins : List (Addr × Obj)) (σ : St) (Q : List V → Hp → Prop) (us : List Value) (s' : Shared) : Prop := ∃ vs H', Inv X pins σ H' s' ∧ Vals vs us ∧ Q vs H'
def SP (X : Cx) (pins : List (Addr × Obj)) (D : Ends) (f : Flow) (s' : Shared) : Prop :=
 match f with
 | .next => ∃ σ' H', Inv X pins σ' H' s' ∧ D.nx σ' H'
 | .brk => ∃ σ' H', Inv X pins σ' H' s' ∧ D.bk σ' H'
 | .cont => ∃ σ' H', Inv X pins σ' H' s' ∧ D.ct σ' H'
 | .ret u => ∃ v σ' H', Inv X pins σ' H' s' ∧ RelV v u ∧ D.rt v H'
def PE (X : Cx) (e : Expr) (t : TE) : Prop :=
 ∀ (pins : List (Addr × Obj)) (s : Shared) (σ : St) (H : Hp) (Q : VK), Inv X pins σ H s → t σ H Q → wpAny (model X.prog X.w) X.A (eval e X.env) (EP X pins σ Q) X.xe s
def PT (X : Cx) (e : Expr) (t : TT) : Prop :=
 ∀ (pins : List (Addr × Obj)) (s : Shared) (σ : St) (H : Hp) (Q : Bool → Hp → Prop), Inv X pins σ H s → t σ H Q → wpAny (model X.prog X.w) X.A (isTrue e X.env (eval e X.env)) (TP X pins σ Q) X.xe s
def PW (X : Cx) (e : Expr) (t : TT) : Prop :=
 ∀ (whole : Sem Value) (pins : List (Addr × Obj)) (s : Shared) (σ : St) (H : Hp) (Q : Bool → Hp → Prop), Inv X pins σ H s → t σ H Q → wpAny (model X.prog X.w) X.A (isTrue e X.env whole) (TP X pins σ Q) X.xe s
theorem PW.pt {X : Cx} {e : Expr} {t : TT} (h : PW X e t) : PT X e t := h _
def PA (X : Cx) (es : List Expr) (t : TA) : Prop :=
 ∀ (pos : Pos) (pins : List (Addr × Obj)) (s : Shared) (σ : St) (H : Hp) (Q : List V → Hp → Prop), Inv X pins σ H s → t σ H Q → wpAny (model X.prog X.w) X.A (spliced (backTo pos (starEach es X.env))) (AP X pins σ Q) X.xe s
def PS (X : Cx) (st : Stmt) (t : TS) : Prop :=
 ∀ (pins : List (Addr × Obj)) (s : Shared) (σ : St) (H : Hp) (D : Ends), Inv X pins σ H s → t D σ H → wpAny (model X.prog X.w) X.A (exec st X.env) (SP X pins D) X.xe s
def PSs (X : Cx) (st : List Stmt) (t : TS) : Prop :=
 ∀ (pins : List (Addr × Obj)) (s : Shared) (σ : St) (H : Hp) (D : Ends), Inv X pins σ H s → t D σ H → wpAny (model X.prog X.w) X.A (execs st X.env) (SP X pins D) X.xe s
theorem thn {α : Type} {t : Sem α} {Q Q' : α → Shared → Prop} {M : Model} {A : Around} {E : Value → Shared → Prop} {s : Shared} (h : wpAny M A t Q E s) (hQ : ∀ a s, Q a s → Q' a s) : wpAny M A t Q' E s := wpAny_mono h hQ fun _ _ x => x
end L2
namespace L2
open PySem PySem.Spec PyProof.Rows
section
variable {X : Cx}
def tVar (i : Nat) : TE := fun σ H Q => ∃ v, σ[i]? = some (some v) ∧ Q v H
def tC (v : V) : TE := fun _ H Q => Q v H
theorem aN {i : Nat} {x : Str} {pos : Pos} (hN : X.N[i]? = some x) (hv : Vis X.env.scope x) (hd : (x == ("__debug__" : Str)) = false := by decide) (hcd : (x == ("__classdict__" : Str)) = false := by decide) : PE X (.Name x pos) (tVar i) := by
 intro pins s σ H Q I h
 obtain ⟨v, e, h⟩ := h
 obtain ⟨m, hn, hl⟩ := I.loc
 obtain ⟨u, r, l⟩ := hl i x v hN e hv
 have fin : EP X pins σ Q u s := ⟨v, H, I, r, h⟩
 rcases l with ⟨hk, hm⟩ | ⟨hk, c, hc, hcell⟩
 ·exact wpAny_Name (wpAny_loadName_local I.ok.kind hk hn hm fin) hd
 ·rcases hk with hk | hk
  ·exact wpAny_Name (wpAny_loadName_cell I.ok.kind hk hc hcell fin) hd
  ·exact wpAny_Name (wpAny_loadName_free I.ok.kind hk hc hcell fin hcd) hd
theorem aO {i j pos} : PE X (.Constant (.int i) j pos) (tC (.int i)) := fun _ _ _ H _ I h => wpAny_Constant_int ⟨.int i, H, I.tok _, ⟨_, rfl⟩, h⟩
theorem dC {b j pos} : PE X (.Constant (.bool b) j pos) (tC (.bl b)) := fun _ _ _ H _ I h => Constant_bool ⟨.bl b, H, I, rfl, h⟩
theorem aP {j pos} : PE X (.Constant .none j pos) (tC .non) := fun _ _ _ H _ I h => Constant_none ⟨.non, H, I, rfl, h⟩
theorem aQ {x j pos} : PE X (.Constant (.str x) j pos) (tC (.str x)) := fun _ _ _ H _ I h => Calls.Constant_str ⟨.str x, H, I.tok _, ⟨_, rfl⟩, h⟩
def Gl (X : Cx) (x : Str) : Prop := X.env.kindOf x = some .globalImplicit
theorem Fl {E : Value → Shared → Prop} {pins : List (Addr × Obj)} {s : Shared} {σ : St} {H : Hp} {x : Str} {u : Value} {pos : Pos} {Q : Value → Shared → Prop} (I : Inv X pins σ H s) (hg : Gl X x) (hm : X.mg x = some u) (h : Q u s)
  (hd : (x == ("__debug__" : Str)) = false := by decide) : wpAny (model X.prog X.w) X.A (eval (.Name x pos) X.env) Q E s :=
 Calls.Name_function_global I.ok.kind hg (Calls.loadGlobal_global (by rw [I.ok.glob]; exact I.mod.glob.keeps I.bk) hm h) hd
theorem Mi {E : Value → Shared → Prop} {pins : List (Addr × Obj)} {s : Shared} {σ : St} {H : Hp} {x : Str} {u : Value} {pos : Pos} {Q : Value → Shared → Prop} (I : Inv X pins σ H s) (hg : Gl X x) (hm : X.mg x = none) (hv : bootBuiltins x = some u) (h : Q u s)
  (hn : x ≠ "__name__" := by decide) (hd : (x == ("__debug__" : Str)) = false := by decide) : wpAny (model X.prog X.w) X.A (eval (.Name x pos) X.env) Q E s := by
 obtain ⟨mb, h1, h2⟩ := I.mod.blt
 exact Calls.Name_function_global I.ok.kind hg (Calls.loadGlobal_builtin (by rw [I.ok.glob]; exact I.mod.glob.keeps I.bk) hm (by rw [I.ok.blt]; exact h1.keeps I.bk) ((h2 x hn).trans hv) h) hd
theorem El {x : Str} {v : V} {u : Value} {pos : Pos} (hg : Gl X x) (hm : X.mg x = some u) (r : RelV v u) (hd : (x == ("__debug__" : Str)) = false := by decide) : PE X (.Name x pos) (tC v) :=
 fun _ _ _ H _ I h => Fl I hg hm ⟨v, H, I, r, h⟩ hd
theorem Xm {x : Str} {v : V} {u : Value} {pos : Pos} (hg : Gl X x) (hm : X.mg x = none) (hv : bootBuiltins x = some u) (r : RelV v u) (hn : x ≠ "__name__" := by decide) (hd : (x == ("__debug__" : Str)) = false := by decide) : PE X (.Name x pos) (tC v) :=
 fun _ _ _ H _ I h => Mi I hg hm hv ⟨v, H, I, r, h⟩ hn hd
def t2I (ta tb : TE) (k : Int → Int → Hp → Prop) : St → Hp → Prop := fun σ H => ta σ H fun x H1 => tb σ H1 fun y H2 => ∃ i j, x = .int i ∧ y = .int j ∧ k i j H2
variable {a b : Expr} {ta tb : TE} {pos : Pos}
def tCmp (p : Int → Int → Bool) (ta tb : TE) : TE := fun σ H Q => t2I ta tb (fun i j H2 => Q (.bl (p i j)) H2) σ H
abbrev tLt : TE → TE → TE := tCmp fun i j => decide (i < j)
abbrev tGt : TE → TE → TE := tCmp fun i j => decide (j < i)
abbrev tGe : TE → TE → TE := tCmp fun i j => decide (j ≤ i)
variable {tA tB' : TT} {rest : List Expr}
def tAnd (t u : TT) : TT := fun σ H Q => t σ H fun c H1 => if c = true then u σ H1 Q else Q false H1
def tOr (t u : TT) : TT := fun σ H Q => t σ H fun c H1 => if c = true then Q true H1 else u σ H1 Q
def tNot (t : TT) : TT := fun σ H Q => t σ H fun c H1 => Q (!c) H1
theorem Xn (ha : PT X a tA) : PW X (.BoolOp .And [a] pos) tA := by
 intro wh pins s σ H Q I h
 refine isTrue_and (thn (ha pins s σ H Q I h) fun c s1 e => ?_)
 cases c with
 | true => exact isTrue_and_nil e
 | false => exact e
theorem T_ (ha : PT X a tA) : PW X (.BoolOp .Or [a] pos) tA := by
 intro wh pins s σ H Q I h
 refine isTrue_or (thn (ha pins s σ H Q I h) fun c s1 e => ?_)
 cases c with
 | false => exact isTrue_or_nil e
 | true => exact e
theorem aR (ha : PT X a tA) (hb : PW X (.BoolOp .And (b :: rest) pos) tB') : PW X (.BoolOp .And (a :: b :: rest) pos) (tAnd tA tB') := by
 intro wh pins s σ H Q I h
 refine isTrue_and (thn (ha pins s σ H _ I h) fun c s1 ⟨H1, I1, q1⟩ => ?_)
 cases c with
 | true => exact hb wh pins s1 σ H1 Q I1 q1
 | false => exact ⟨H1, I1, q1⟩
theorem ZK (ha : PT X a tA) (hb : PW X (.BoolOp .Or (b :: rest) pos) tB') : PW X (.BoolOp .Or (a :: b :: rest) pos) (tOr tA tB') := by
 intro wh pins s σ H Q I h
 refine isTrue_or (thn (ha pins s σ H _ I h) fun c s1 ⟨H1, I1, q1⟩ => ?_)
 cases c with
 | true => exact ⟨H1, I1, q1⟩
 | false => exact hb wh pins s1 σ H1 Q I1 q1
theorem aU (ha : PT X a tA) : PT X (.UnaryOp .Not a pos) (tNot tA) := by
 intro pins s σ H Q I h
 exact isTrue_not (ha pins s σ H (fun c H1 => Q (!c) H1) I h)
def dD (ta tb : TE) : TE := fun σ H Q => ta σ H fun x H1 => ∃ c, x = .bl c ∧ if c = true then tb σ H1 Q else Q (.bl false) H1
theorem aV {op} {t : TE} (h : PE X a t) : PE X (.BoolOp op [a] pos) t := fun pins s σ H Q I hw => BoolOp_one (h pins s σ H Q I hw)
theorem aW (ha : PE X a ta) (hb : PE X (.BoolOp .And (b :: rest) pos) tb) : PE X (.BoolOp .And (a :: b :: rest) pos) (dD ta tb) := by
 intro pins s σ H Q I h
 refine BoolOp_and (thn (ha pins s σ H _ I h) fun v s1 ⟨x, H1, I1, r1, q1⟩ => ?_)
 obtain ⟨c, rfl, q1⟩ := q1
 cases r1
 refine wpAny_truthy_bool ?_
 cases c with
 | true => exact hb pins s1 σ H1 Q I1 q1
 | false => exact ⟨.bl false, H1, I1, rfl, q1⟩
end
end L2
namespace L2
open PySem PySem.Spec PyProof.Rows
def SqL (K : PySem.W.Frag) (H : Hp) (a : Addr) (xs : List V) : Prop :=
 Rd H a (.lst xs) ∨
  ∃ (o : Obj) (its : Array Value) (n : Nat), K.lookup a = some o ∧ o.cls = .type "list" ∧ o.dict = none ∧ o.data = .seq its n ∧ its.size ≤ sizeLine ∧ Vals xs its.toList
def SqT (K : PySem.W.Frag) (H : Hp) (a : Addr) (xs : List V) : Prop :=
 Rd H a (.tup xs) ∨
  ∃ (o : Obj) (its : Array Value) (n : Nat), K.lookup a = some o ∧ o.cls = .type "tuple" ∧ o.data = .seq its n ∧ its.size ≤ sizeLine ∧ Vals xs its.toList
def absV : Value → Option V
 | .none => some .non
 | .bool b => some (.bl b)
 | .int i _ => some (.int i)
 | .str x _ => some (.str x)
 | .bytes b _ => some (.byt b)
 | .float b _ => some (.flt b)
 | .ref a => some (.ref a)
 | .type n => some (.ty n)
 | _ => none
theorem RelV.abs {x : V} {u : Value} (r : RelV x u) : absV u = some x := by
 cases x with
 | non => cases r; rfl
 | bl _ => cases r; rfl
 | int _ => obtain ⟨t, rfl⟩ := r; rfl
 | str _ => obtain ⟨t, rfl⟩ := r; rfl
 | byt _ => obtain ⟨t, rfl⟩ := r; rfl
 | flt _ => obtain ⟨t, rfl⟩ := r; rfl
 | ref _ => cases r; rfl
 | ty _ => cases r; rfl
theorem RelV.inj {x y : V} {u : Value} (r : RelV x u) (q : RelV y u) : x = y := Option.some.inj (r.abs.symm.trans q.abs)
theorem Vals.inj : ∀ {xs ys : List V} {us : List Value}, Vals xs us → Vals ys us → xs = ys
 | _, _, _, .nil, .nil => rfl
 | _, _, _, .cons r t, .cons r' t' => by rw [r.inj r', Vals.inj t t']
section
variable {X : Cx} {pins : List (Addr × Obj)} {σ : St} {H : Hp} {s : Shared} {a : Addr} {xs ys : List V}
theorem SqL.of {K : PySem.W.Frag} (h : H a = some (.lst xs)) : SqL K H a xs := .inl (.inl h)
theorem SqT.of {K : PySem.W.Frag} (h : H a = some (.tup xs)) : SqT K H a xs := .inl (.inl h)
theorem Inv.list (I : Inv X pins σ H s) (h : SqL X.K H a xs) : ∃ its : List Value, Vals xs its ∧ PlainL s.heap a its.toArray ∧ xs.length ≤ sizeLine := by
 rcases h with h | ⟨o, its, n, hk, hc, hd, hs, hz, r⟩
 ·obtain ⟨z, its, n, r, e⟩ := h.ok I.hok
  exact ⟨its, r, ⟨_, n, e, rfl, rfl, rfl⟩, z⟩
 ·refine ⟨its.toList, r, ⟨o, n, I.kIn a o hk, hc, hd, by simpa using hs⟩, ?_⟩
  have e := r.length
  simp only [Array.length_toList] at e
  omega
theorem Inv.tuple (I : Inv X pins σ H s) (h : SqT X.K H a xs) : ∃ its : List Value, Vals xs its ∧ IsTup s.heap a its.toArray ∧ xs.length ≤ sizeLine := by
 rcases h with h | ⟨o, its, n, hk, hc, hs, hz, r⟩
 ·obtain ⟨z, its, r, p⟩ := h.ok I.hok
  exact ⟨its, r, p, z⟩
 ·refine ⟨its.toList, r, ⟨o, I.kIn a o hk, hc, n, by simpa using hs⟩, ?_⟩
  have e := r.length
  simp only [Array.length_toList] at e
  omega
theorem Inv.list_inj (I : Inv X pins σ H s) (h : SqL X.K H a xs) (h' : SqL X.K H a ys) : xs = ys := by
 obtain ⟨its, r, ⟨o, n, e, _, _, d⟩, _⟩ := I.list h
 obtain ⟨its', r', ⟨o', n', e', _, _, d'⟩, _⟩ := I.list h'
 rw [e] at e'; cases e'
 rw [d] at d'
 injection d' with d1 _
 have : its = its' := by simpa using congrArg Array.toList d1
 subst this
 exact r.inj r'
theorem Inv.tuple_inj (I : Inv X pins σ H s) (h : SqT X.K H a xs) (h' : SqT X.K H a ys) : xs = ys := by
 obtain ⟨its, r, ⟨o, e, _, n, d⟩, _⟩ := I.tuple h
 obtain ⟨its', r', ⟨o', e', _, n', d'⟩, _⟩ := I.tuple h'
 rw [e] at e'; cases e'
 rw [d] at d'
 injection d' with d1 _
 have : its = its' := by simpa using congrArg Array.toList d1
 subst this
 exact r.inj r'
end
abbrev Cx.wish (X : Cx) (E : Value → Shared → Prop) : Cx := { X with xe := E }
abbrev Cx.nox (X : Cx) : Cx := X.wish fun _ _ => False
theorem Cx.Ok.wish {X : Cx} (ok : X.Ok) (E : Value → Shared → Prop) : (X.wish E).Ok :=
 ⟨ok.mod, ok.kind, ok.glob, ok.blt, ok.above, ok.inj, ok.has, ok.cab, ok.hd, ok.frames, ok.stk, ok.exf, ok.bs, ok.bsz, ok.noex, ok.exfs, ok.funs, ok.frf⟩
theorem Cx.Ok.unwish {X : Cx} {E : Value → Shared → Prop} (ok : (X.wish E).Ok) : X.Ok :=
 ⟨ok.mod, ok.kind, ok.glob, ok.blt, ok.above, ok.inj, ok.has, ok.cab, ok.hd, ok.frames, ok.stk, ok.exf, ok.bs, ok.bsz, ok.noex, ok.exfs, ok.funs, ok.frf⟩
section
variable {X : Cx} {pins : List (Addr × Obj)} {σ : St} {H : Hp} {s : Shared} {E : Value → Shared → Prop}
theorem Inv.wish (I : Inv X pins σ H s) (E : Value → Shared → Prop) : Inv (X.wish E) pins σ H s := ⟨I.ok.wish E, I.os, I.bare, I.base, I.loc, I.cell, I.free, I.freeC, I.pin, I.hok, I.len⟩
theorem Inv.unwish (I : Inv (X.wish E) pins σ H s) : Inv X pins σ H s := ⟨I.ok.unwish, I.os, I.bare, I.base, I.loc, I.cell, I.free, I.freeC, I.pin, I.hok, I.len⟩
theorem SP.unwish {D : Ends} {f : Flow} {s' : Shared} (h : SP (X.wish E) pins D f s') : SP X pins D f s' := by
 cases f with
 | next => obtain ⟨σ', H', I, q⟩ := h; exact ⟨σ', H', I.unwish, q⟩
 | brk => obtain ⟨σ', H', I, q⟩ := h; exact ⟨σ', H', I.unwish, q⟩
 | cont => obtain ⟨σ', H', I, q⟩ := h; exact ⟨σ', H', I.unwish, q⟩
 | ret u => obtain ⟨v, σ', H', I, r, q⟩ := h; exact ⟨v, σ', H', I.unwish, r, q⟩
theorem PE.nox {e : Expr} {t : TE} (h : PE X.nox e t) : PE X e t := fun pins s σ H Q I hw =>
 wpAny_mono (h pins s σ H Q (I.wish _) hw) (fun _ _ ⟨v, H', I', r, q⟩ => ⟨v, H', I'.unwish, r, q⟩) fun _ _ z => False.elim z
theorem PT.nox {e : Expr} {t : TT} (h : PT X.nox e t) : PT X e t := fun pins s σ H Q I hw =>
 wpAny_mono (h pins s σ H Q (I.wish _) hw) (fun _ _ ⟨H', I', q⟩ => ⟨H', I'.unwish, q⟩) fun _ _ z => False.elim z
theorem PSs.nox {st : List Stmt} {t : TS} (h : PSs X.nox st t) : PSs X st t := fun pins s σ H D I hw =>
 wpAny_mono (h pins s σ H D (I.wish _) hw) (fun _ _ q => q.unwish) fun _ _ z => False.elim z
end
section
variable {X : Cx} {st : Stmt} {rest : List Stmt} {t u : TS} {e : Expr} {te : TE} {pos : Pos}
def dF : TS := fun D σ H => D.nx σ H
def tSeq (t u : TS) : TS := fun D σ H => t { D with nx := u D } σ H
theorem Mj : PSs X [] dF := fun _ _ σ H _ I h => wpAny_execs_nil ⟨σ, H, I, h⟩
theorem FP (h1 : PS X st t) (h2 : PSs X rest u) : PSs X (st :: rest) (tSeq t u) := by
 intro pins s σ H D I h
 refine wpAny_execs_cons (thn (h1 pins s σ H { D with nx := u D } I h) fun f s1 q => ?_)
 cases f with
 | next =>
  obtain ⟨σ', H', I', q⟩ := q
  exact h2 pins s1 σ' H' D I' q
 | ret v => exact q
 | brk => exact q
 | cont => exact q
theorem Hh (h1 : PS X st t) : PSs X [st] t := by
 intro pins s σ H D I h
 refine wpAny_execs_cons (thn (h1 pins s σ H D I h) fun f s1 q => ?_)
 cases f with
 | next => exact wpAny_execs_nil q
 | ret v => exact q
 | brk => exact q
 | cont => exact q
theorem Inv.quiet {pins : List (Addr × Obj)} {σ : St} {H : Hp} {s : Shared} (I : Inv X pins σ H s) : interactive X.env = false := by simp [interactive, I.ok.kind]
def ZL (te : TE) : TS := fun D σ H => te σ H fun _ H1 => D.nx σ H1
theorem Hi (he : PE X e te) (hs : swapsWith e none pos.line X.env = pure false := by rfl) : PS X (.Expr e pos) (ZL te) := by
 intro pins s σ H D I h
 exact wpAny_Expr_any (thn (he pins s σ H _ I h) fun v s1 ⟨x, H1, I1, r1, q1⟩ => ⟨σ, H1, I1, q1⟩) I.quiet hs
def tRet (te : TE) : TS := fun D σ H => te σ H D.rt
theorem aX (he : PE X e te) : PS X (.Return (some e) pos) (tRet te) := by
 intro pins s σ H D I h
 exact wpAny_Return_some (thn (he pins s σ H _ I h) fun v s1 ⟨x, H1, I1, r1, q1⟩ => ⟨x, σ, H1, I1, r1, q1⟩)
def tIfS (c : TT) (t u : TS) : TS := fun D σ H => c σ H fun b H1 => if b = true then t D σ H1 else u D σ H1
theorem UG {c : Expr} {a b : List Stmt} {tc : TT} (hc : PT X c tc) (ha : PSs X a t) (hb : PSs X b u) : PS X (.If c a b pos) (tIfS tc t u) := by
 intro pins s σ H D I h
 refine wpAny_If (thn (hc pins s σ H _ I h) fun d s1 ⟨H1, I1, q1⟩ => ?_)
 cases d with
 | true => exact ha pins s1 σ H1 D I1 q1
 | false => exact hb pins s1 σ H1 D I1 q1
end
abbrev TG := V → St → Hp → (St → Hp → Prop) → Prop
abbrev TGs := List V → St → Hp → (St → Hp → Prop) → Prop
def PG (X : Cx) (target : Expr) (t : TG) : Prop :=
 ∀ (pins : List (Addr × Obj)) (s : Shared) (σ : St) (H : Hp) (v : V) (u : Value) (Q : St → Hp → Prop), Inv X pins σ H s → RelV v u → t v σ H Q →
  wpAny (model X.prog X.w) X.A (assign target X.env u) (fun _ s' => ∃ σ' H', Inv X pins σ' H' s' ∧ Q σ' H') X.xe s
def PGs (X : Cx) (ts : List Expr) (t : TGs) : Prop :=
 ∀ (pins : List (Addr × Obj)) (s : Shared) (σ : St) (H : Hp) (vs : List V) (us : List Value) (Q : St → Hp → Prop), Inv X pins σ H s → Vals vs us → t vs σ H Q →
  wpAny (model X.prog X.w) X.A (assignInOrder ((assignEach ts X.env).map (·.2)) us) (fun _ s' => ∃ σ' H', Inv X pins σ' H' s' ∧ Q σ' H') X.xe s
section
variable {X : Cx} {pos : Pos}
def G_ (i : Nat) : TG := fun v σ H Q => Q (σ.set i (some v)) H
theorem Xo {i : Nat} {x : Str} (hN : X.N.Nodup) (hi : X.N[i]? = some x) (hx : Loc X.env.scope x) (hf : X.fn x = true ∨ X.env.scope.names.lookup x = some .local := by first | exact .inl rfl | exact .inr rfl | assumption) : PG X (.Name x pos) (G_ i) := by
 intro pins s σ H v u Q I r h
 exact wpAny_assign_Name (Hg I hN hi hx r (fun s' I' => ⟨_, H, I', h⟩) hf)
def gNil : TGs := fun vs σ H Q => vs = [] ∧ Q σ H
def dG (t : TG) (u : TGs) : TGs := fun vs σ H Q => ∃ v r, vs = v :: r ∧ t v σ H fun σ' H' => u r σ' H' Q
theorem Xp : PGs X [] gNil := by
 intro pins s σ H vs us Q I r h
 obtain ⟨e, h⟩ := h
 subst e
 cases r
 exact assignInOrder_nil ⟨σ, H, I, h⟩
theorem UJ {e : Expr} {es : List Expr} {t : TG} {u : TGs} (h1 : PG X e t) (h2 : PGs X es u)
  (hs : (assignEach (e :: es) X.env).map (·.2) = assign e X.env :: (assignEach es X.env).map (·.2) := by rfl) : PGs X (e :: es) (dG t u) := by
 intro pins s σ H vs us Q I r h
 obtain ⟨v, vr, e1, h⟩ := h
 subst e1
 cases r with
 | cons r rr =>
  rw [hs]
  refine assignInOrder_cons (thn (h1 pins s σ H _ _ _ I r h) fun _ s1 ⟨σ1, H1, I1, q1⟩ => ?_)
  exact h2 pins s1 σ1 H1 _ _ Q I1 rr q1
def gTup (K : PySem.W.Frag) (n : Nat) (t : TGs) : TG := fun v σ H Q => ∃ a xs, v = .ref a ∧ SqT K H a xs ∧ xs.length = n ∧ t xs σ H Q
theorem aZ {es : List Expr} {k : Nat} {t : TGs} {n : Nat} (hc : X.calm = true) (h : PGs X es t)
  (hn : (assignEach es X.env).length = n := by rfl) (hst : (assignEach es X.env).findIdx? (·.1) = none := by rfl) : PG X (.Tuple es k pos) (gTup X.K n t) := by
 intro pins s σ H v u Q I r hw
 obtain ⟨a, xs, e1, hq, hl, hw⟩ := hw
 subst e1
 cases r
 obtain ⟨its, rv, ht, hz⟩ := I.tuple hq
 refine assign_Tuple_tuple (I.ok.hd hc) ht (by simp [hn, ← hl, rv.length]) hst fun h' hx => ?_
 have I1 : Inv X pins σ H { s with heap := h' } := I.kept (t' := s.toks) fun b o e => hx b o (Nat.ne_of_lt (Heap.lt_size e)) e
 exact h pins _ σ H xs _ Q I1 (by simpa using rv) hw
def tAsg (te : TE) (g : TG) : TS := fun D σ H => te σ H fun x H1 => g x σ H1 D.nx
theorem aa {tg e : Expr} {te : TE} {g : TG} (he : PE X e te) (hg : PG X tg g) (hs : swapsWithSole [tg] e pos.line X.env = pure false := by rfl) (hw : swappedStores [tg] e X.env = pure none := by rfl)
  (h1 : (assignEach [tg] X.env).map (·.2) = [assign tg X.env] := by rfl) : PS X (.Assign [tg] e pos) (tAsg te g) := by
 intro pins s σ H D I h
 refine wpAny_Assign_stores (thn (he pins s σ H _ I h) fun v s1 ⟨x, H1, I1, r1, q1⟩ => ?_) hs hw
 rw [h1]
 exact thn (hg pins s1 σ H1 x v _ I1 r1 q1) fun _ s2 q => q
theorem Pu {i : Nat} {x : Str} {e : Expr} {te : TE} {pos' : Pos} (hN : X.N.Nodup) (hi : X.N[i]? = some x) (hx : Loc X.env.scope x) (he : PE X e te) (hs : swapsWith e (some (.Name x pos')) pos.line X.env = pure false := by rfl) (hf : X.fn x = true ∨ X.env.scope.names.lookup x = some .local := by first | exact .inl rfl | exact .inr rfl | assumption) :
  PS X (.Assign [.Name x pos'] e pos) (tAsg te (G_ i)) := by
 intro pins s σ H D I h
 refine wpAny_Assign_Name (thn (he pins s σ H _ I h) fun v s1 ⟨y, H1, I1, r1, q1⟩ => ?_) hs
 exact Hg I1 hN hi hx r1 (fun s2 I2 => ⟨_, H1, I2, q1⟩) hf
end
section
variable {X : Cx} {pos : Pos}
end
structure It where
 go : Nat → Hp → Prop
 yld : Nat → Hp → V → Hp → Prop
 stop : Nat → Hp → Prop
def FpOk (X : Cx) (pins : List (Addr × Obj)) (H : Hp) (b : Addr) : Prop :=
 H b = none ∧ b ≠ X.env.locals ∧ b ∉ X.fs ∧ (b ∈ X.ex ∨ X.s₀.heap.objs.size ≤ b) ∧ (∀ x c, X.env.cells.lookup x = some c → c ≠ b) ∧ ∀ p ∈ X.pn ++ pins, p.1 ≠ b
theorem Inv.fpOk {X : Cx} {pins : List (Addr × Obj)} {σ : St} {H H' : Hp} {s : Shared} {b : Addr} (I : Inv X pins σ H s) (hb : s.heap.objs.size ≤ b) (hn : H' b = none) : FpOk X pins H' b := by
 refine ⟨hn, Nat.ne_of_gt (Nat.lt_of_lt_of_le I.lt hb), I.nofs hb, .inr (Nat.le_trans I.sz hb), fun x c e z => ?_, fun p hp z => ?_⟩
 ·obtain ⟨v, q⟩ := I.cell x c e
  exact absurd (Nat.lt_of_lt_of_le q.lt (by rw [z]; exact hb)) (Nat.lt_irrefl _)
 ·exact absurd (Nat.lt_of_lt_of_le (Heap.lt_size (I.pin p hp).1) (by rw [z]; exact hb)) (Nat.lt_irrefl _)
structure Turn (P : Program) (w : World) (K : PySem.W.Frag) (tg : Expr) (J : It) (fp : List Addr) (it : Addr) (tn : Nat → Heap → Prop) : Prop where
 mem : it ∈ fp
 obj : ∀ i h, tn i h → ∀ b ∈ fp, ∃ o, h.get? b = some o ∧ ∀ v, o.data ≠ .cell v
 keep : ∀ i h h', tn i h → (∀ b ∈ fp, ∀ o, h.get? b = some o → h'.get? b = some o) → tn i h'
 item : ∀ (X : Cx), X.prog = P → X.w = w → X.K = K → X.calm = true → ∀ (i : Nat) (pins : List (Addr × Obj)) (s : Shared) (σ : St) (H : Hp) (E : Value → Shared → Prop), Inv X pins σ H s → (∀ b ∈ fp, FpOk X pins H b) → tn i s.heap → J.go i H →
  wpAny (model P w) X.A (pyNext (.ref it)) (fun r s1 => ∃ u, r = some u ∧
   wpAny (model P w) X.A (letOwnedTupleGo tg (.ref it) u) (fun _ s2 => ∃ x H', Inv X pins σ H' s2 ∧ RelV x u ∧ J.yld i H x H' ∧ tn (i + 1) s2.heap ∧ ∀ b ∈ fp, H' b = none) E s1) E s
 done : ∀ (X : Cx), X.prog = P → X.w = w → X.K = K → X.calm = true → ∀ (i : Nat) (pins : List (Addr × Obj)) (s : Shared) (σ : St) (H : Hp) (E : Value → Shared → Prop), Inv X pins σ H s → (∀ b ∈ fp, FpOk X pins H b) → tn i s.heap → J.stop i H →
  wpAny (model P w) X.A (pyNext (.ref it)) (fun r s1 => r = none ∧ Inv X pins σ H s1) E s
 self : ∀ (A : Around) (i : Nat) (s : Shared) (Q : Value → Shared → Prop) (E : Value → Shared → Prop), tn i s.heap → Q (.ref it) s → wpAny (model P w) A (pyIter (.ref it)) Q E s
abbrev TI := St → Hp → (It → Hp → Prop) → Prop
def PIE (X : Cx) (pins : List (Addr × Obj)) (σ : St) (tg : Expr) (R : It → Hp → Prop) (itv : Value) (s2 : Shared) : Prop :=
 ∃ (it : Addr) (fp : List Addr) (tn : Nat → Heap → Prop) (J : It) (H' : Hp), itv = .ref it ∧ Inv X pins σ H' s2 ∧ Turn X.prog X.w X.K tg J fp it tn ∧ tn 0 s2.heap ∧ (∀ b ∈ fp, FpOk X pins H' b) ∧ R J H'
def PI (X : Cx) (tg iter : Expr) (wi : TI) : Prop :=
 ∀ (pins : List (Addr × Obj)) (s : Shared) (σ : St) (H : Hp) (R : It → Hp → Prop), Inv X pins σ H s → wi σ H R →
  wpAny (model X.prog X.w) X.A (eval iter X.env) (fun v s1 => wpAny (model X.prog X.w) X.A (pyIter v) (PIE X pins σ tg R) X.xe s1) X.xe s
theorem N_ {M : Model} {A : Around} {E : Value → Shared → Prop} {s : Shared} {tg : Expr} {it : Addr} {u : Value} {o : Obj} {n : String} {vs : Array Value} {Q : Unit → Shared → Prop} (ho : s.heap.get? it = some o) (hc : o.cls = .type n) (hd : o.data = .fields vs)
    (hn : ["enumerate", "zip", "dict_itemiterator", "dict_reverseitemiterator", "odict_iterator", "itertools.zip_longest", "itertools.pairwise"].contains n = false) (hQ : Q () s) : wpAny M A (letOwnedTupleGo tg (.ref it) u) Q E s := by
  unfold letOwnedTupleGo
  cases tg <;> first
    | exact wpAny_pure hQ
    | (cases u <;> first
        | exact wpAny_pure hQ
        | (refine wpAny_bind (wpAny_load ho ?_)
           rw [hc, hd]
           show wpAny M A (if (["enumerate", "zip", "dict_itemiterator", "dict_reverseitemiterator", "odict_iterator", "itertools.zip_longest", "itertools.pairwise"].contains n && vs[0]? == some (rawInt _)) = true then _ else _) Q E s
           rw [if_neg (by intro h; rw [hn, Bool.false_and] at h; cases h)]
           exact wpAny_pure hQ))
def Itl (K : PySem.W.Frag) (a : Addr) : It :=
 ⟨fun i H => ∃ xs x, SqL K H a xs ∧ xs[i]? = some x, fun i H x H' => H' = H ∧ ∀ xs, SqL K H a xs → xs[i]? = some x, fun i H => ∃ xs, SqL K H a xs ∧ xs.length ≤ i⟩
def Itt (K : PySem.W.Frag) (a : Addr) : It :=
 ⟨fun i H => ∃ xs x, SqT K H a xs ∧ xs[i]? = some x, fun i H x H' => H' = H ∧ ∀ xs, SqT K H a xs → xs[i]? = some x, fun i H => ∃ xs, SqT K H a xs ∧ xs.length ≤ i⟩
def Itr (lo : Int) (n : Nat) : It := ⟨fun i _ => i < n, fun i H x H' => H' = H ∧ x = .int (lo + i), fun i _ => n ≤ i⟩
theorem S7 {P : Program} {w : World} {K : PySem.W.Frag} {tg : Expr} (a it : Addr) : Turn P w K tg (Itl K a) [it] it (fun i h => h.IsListIter it a i) where
 mem := by simp
 obj := fun i h st b hb => by
  have e : b = it := by simpa using hb
  subst e
  obtain ⟨o, e, c, d⟩ := st
  exact ⟨o, e, fun v z => by rw [d] at z; cases z⟩
 keep := fun i h h' st k => st.at fun o e => k it (by simp) o e
 item := by
  intro X hP hw hK hc i pins s σ H E I hf st hg
  subst hP hw hK
  obtain ⟨xs, x, hq, hx⟩ := hg
  obtain ⟨its, rv, p, hz⟩ := I.list hq
  obtain ⟨u, hu, ru⟩ := rv.get hx
  obtain ⟨f0, f1, f2, f3, f4, f5⟩ := hf it (by simp)
  refine wpAny_pyNext_list_item st p.isList (x := u) (by simpa using hu) fun h' st' sb => ?_
  have I1 : Inv X pins σ H { s with heap := h' } := I.turned (t' := s.toks) (fun b o hb e => (sb.2 b hb).trans e) f0 f1 f3 f4 f5
  obtain ⟨o, e, c, d⟩ := id st'
  exact ⟨u, rfl, N_ (s := { s with heap := h' }) e c d (by decide) ⟨x, H, I1, ru, ⟨rfl, fun ys hy => by rw [I.list_inj hy hq]; exact hx⟩, st', fun b hb => (hf b hb).1⟩⟩
 done := by
  intro X hP hw hK hc i pins s σ H E I hf st hg
  subst hP hw hK
  obtain ⟨xs, hq, hx⟩ := hg
  obtain ⟨its, rv, p, hz⟩ := I.list hq
  obtain ⟨f0, f1, f2, f3, f4, f5⟩ := hf it (by simp)
  have hl := rv.length
  exact wpAny_pyNext_list_end (I.ok.hd hc) st p.isList (by simp; omega) fun h' eb => ⟨rfl, I.turned (t' := s.toks) (fun b o hb e => eb b o hb e) f0 f1 f3 f4 f5⟩
 self := fun _ _ _ _ _ st h => wpAny_pyIter_listiter st h
theorem Px {P : Program} {w : World} {K : PySem.W.Frag} {tg : Expr} (a it : Addr) : Turn P w K tg (Itt K a) [it] it (fun i h => h.IsTupleIter it a i) where
 mem := by simp
 obj := fun i h st b hb => by
  have e : b = it := by simpa using hb
  subst e
  obtain ⟨o, e, c, d⟩ := st
  exact ⟨o, e, fun v z => by rw [d] at z; cases z⟩
 keep := fun i h h' st k => st.at fun o e => k it (by simp) o e
 item := by
  intro X hP hw hK hc i pins s σ H E I hf st hg
  subst hP hw hK
  obtain ⟨xs, x, hq, hx⟩ := hg
  obtain ⟨its, rv, p, hz⟩ := I.tuple hq
  obtain ⟨u, hu, ru⟩ := rv.get hx
  obtain ⟨f0, f1, f2, f3, f4, f5⟩ := hf it (by simp)
  refine wpAny_pyNext_tuple_item st (show s.heap.IsTuple a its.toArray from p) (x := u) (by simpa using hu) fun h' st' sb => ?_
  have I1 : Inv X pins σ H { s with heap := h' } := I.turned (t' := s.toks) (fun b o hb e => (sb.2 b hb).trans e) f0 f1 f3 f4 f5
  obtain ⟨o, e, c, d⟩ := id st'
  exact ⟨u, rfl, N_ (s := { s with heap := h' }) e c d (by decide) ⟨x, H, I1, ru, ⟨rfl, fun ys hy => by rw [I.tuple_inj hy hq]; exact hx⟩, st', fun b hb => (hf b hb).1⟩⟩
 done := by
  intro X hP hw hK hc i pins s σ H E I hf st hg
  subst hP hw hK
  obtain ⟨xs, hq, hx⟩ := hg
  obtain ⟨its, rv, p, hz⟩ := I.tuple hq
  obtain ⟨f0, f1, f2, f3, f4, f5⟩ := hf it (by simp)
  have hl := rv.length
  exact wpAny_pyNext_tuple_end (I.ok.hd hc) st (show s.heap.IsTuple a its.toArray from p) (by simp; omega) fun h' eb => ⟨rfl, I.turned (t' := s.toks) (fun b o hb e => eb b o hb e) f0 f1 f3 f4 f5⟩
 self := fun _ _ _ _ _ st h => wpAny_pyIter_tupleiter st h
theorem Py {P : Program} {w : World} {K : PySem.W.Frag} {tg : Expr} (it : Addr) (lo : Int) (n : Nat) : Turn P w K tg (Itr lo n) [it] it (fun i h => IsRangeIter h it (lo + (i : Nat) * 1) ((n : Int) - (i : Nat)) 1) where
 mem := by simp
 obj := fun i h st b hb => by
  have e : b = it := by simpa using hb
  subst e
  exact ⟨_, st, fun v z => by
   have z' : Data.fields _ = Data.cell v := z
   cases z'⟩
 keep := fun i h h' st k => k it (by simp) _ st
 item := by
  intro X hP hw hK hc i pins s σ H E I hf st hg
  subst hP hw hK
  obtain ⟨f0, f1, f2, f3, f4, f5⟩ := hf it (by simp)
  have W := Walks.range (prog := X.prog) (w := X.w) (I.ok.hd hc) it lo 1 n
  refine W.item i s _ _ hg st fun v h' tk hv st' kk => ?_
  obtain ⟨t, rfl⟩ := hv
  have I1 : Inv X pins σ H { s with heap := h', toks := tk } := I.turned (fun b o hb e => kk b o (by simpa using hb) e) f0 f1 f3 f4 f5
  refine ⟨_, rfl, N_ (s := { s with heap := h', toks := tk }) (n := "range_iterator") st' rfl rfl (by decide) ⟨.int (lo + i), H, I1, ⟨t, ?_⟩, ⟨rfl, rfl⟩, st', fun b hb => (hf b hb).1⟩⟩
  rw [Int.mul_one]
 done := by
  intro X hP hw hK hc i pins s σ H E I hf st hg
  subst hP hw hK
  obtain ⟨f0, f1, f2, f3, f4, f5⟩ := hf it (by simp)
  exact wpAny_pyNext_range_end (I.ok.hd hc) st (by have : n ≤ i := hg; omega) fun h' eb => ⟨rfl, I.turned (t' := s.toks) (fun b o hb e => eb b o hb e) f0 f1 f3 f4 f5⟩
 self := fun _ _ _ _ _ st h => wpAny_pyIter_rangeiter st h
end L2
namespace L2
open PySem PySem.Spec PyProof.Rows
section
variable {X : Cx} {tg : Expr}
def dH (K : PySem.W.Frag) (tl : TE) : TI := fun σ H R => tl σ H fun x H1 => ∃ a, x = .ref a ∧ (∃ xs, SqL K H1 a xs) ∧ R (Itl K a) H1
def iTup (K : PySem.W.Frag) (tl : TE) : TI := fun σ H R => tl σ H fun x H1 => ∃ a, x = .ref a ∧ (∃ xs, SqT K H1 a xs) ∧ R (Itt K a) H1
theorem Xq {l : Expr} {tl : TE} (hl : PE X l tl) : PI X tg l (dH X.K tl) := by
 intro pins s σ H R I h
 refine thn (hl pins s σ H _ I h) fun v s1 ⟨x, H1, I1, r1, q1⟩ => ?_
 obtain ⟨a, e, ⟨xs, hq⟩, q⟩ := q1
 subst e
 cases r1
 obtain ⟨its, rv, p, hz⟩ := I1.list hq
 refine wpAny_pyIter_list p.isList ?_
 refine ⟨s1.heap.objs.size, [s1.heap.objs.size], _, _, H1, rfl, I1.kept (t' := s1.toks) fun b o e => Heap.get?_push_of_some _ e, S7 a _, ⟨_, Heap.get?_push_size _ rfl, rfl, rfl⟩, fun b hb => ?_, q⟩
 have e : b = s1.heap.objs.size := by simpa using hb
 subst e
 exact I1.fpOk (Nat.le_refl _) (I1.hok.fresh (Nat.le_refl _))
theorem aj {l : Expr} {tl : TE} (hl : PE X l tl) : PI X tg l (iTup X.K tl) := by
 intro pins s σ H R I h
 refine thn (hl pins s σ H _ I h) fun v s1 ⟨x, H1, I1, r1, q1⟩ => ?_
 obtain ⟨a, e, ⟨xs, hq⟩, q⟩ := q1
 subst e
 cases r1
 obtain ⟨its, rv, p, hz⟩ := I1.tuple hq
 refine wpAny_pyIter_tuple (show s1.heap.IsTuple a its.toArray from p) ?_
 refine ⟨s1.heap.objs.size, [s1.heap.objs.size], _, _, H1, rfl, I1.kept (t' := s1.toks) fun b o e => Heap.get?_push_of_some _ e, Px a _, ⟨_, Heap.get?_push_size _ rfl, rfl, rfl⟩, fun b hb => ?_, q⟩
 have e : b = s1.heap.objs.size := by simpa using hb
 subst e
 exact I1.fpOk (Nat.le_refl _) (I1.hok.fresh (Nat.le_refl _))
theorem UL {pins : List (Addr × Obj)} {σ : St} {H : Hp} {s : Shared} {R : It → Hp → Prop} {E : Value → Shared → Prop} {lo hi : Int} {t u v : Tok} {tk : Nat} (I : Inv X pins σ H s) (h1 : -(2 ^ 62) ≤ lo) (h2 : lo < 2 ^ 62) (h3 : -(2 ^ 62) ≤ hi) (h4 : hi < 2 ^ 62)
  (q : R (Itr lo (hi - lo).toNat) H) : wpAny (model X.prog X.w) X.A (pyIter (.ref s.heap.objs.size)) (PIE X pins σ tg R) E { s with heap := s.heap.push { cls := .type "range", data := .fields #[.int lo t, .int hi u, .int 1 v] }, toks := tk } := by
 refine wpAny_pyIter_range (IsRange.new ..) (small_one h1 h2 h3 h4) ?_
 have I1 : Inv X pins σ H { s with heap := s.heap.push { cls := .type "range", data := .fields #[.int lo t, .int hi u, .int 1 v] }, toks := tk } := I.kept fun b o e => Heap.get?_push_of_some _ e
 refine ⟨(s.heap.push { cls := .type "range", data := .fields #[.int lo t, .int hi u, .int 1 v] }).objs.size, [(s.heap.push { cls := .type "range", data := .fields #[.int lo t, .int hi u, .int 1 v] }).objs.size], _, _, H, rfl,
  I1.kept (t' := tk) fun b o e => Heap.get?_push_of_some _ e, Py _ lo (hi - lo).toNat, ?_, fun b hb => ?_, q⟩
 ·have e1 : lo + ((0 : Nat) : Int) * 1 = lo := by simp
  have e2 : (((hi - lo).toNat : Nat) : Int) - ((0 : Nat) : Int) = Builtin.Range.rangeSize lo hi 1 := by rw [rangeSize_one]; split <;> omega
  show IsRangeIter _ _ (lo + ((0 : Nat) : Int) * 1) ((((hi - lo).toNat : Nat) : Int) - ((0 : Nat) : Int)) 1
  rw [e1, e2]
  exact Heap.get?_push_size _ rfl
 ·have e : b = (s.heap.push { cls := .type "range", data := .fields #[.int lo t, .int hi u, .int 1 v] }).objs.size := by simpa using hb
  subst e
  exact I1.fpOk (Nat.le_refl _) (I1.hok.fresh (Nat.le_refl _))
def dI (ta : TA) : TI := fun σ H R => ta σ H fun vs H1 => ∃ j : Int, vs = [.int j] ∧ -(2 ^ 62) ≤ j ∧ j < 2 ^ 62 ∧ R (Itr 0 j.toNat) H1
theorem S8 {a : Expr} {ta : TA} {p pos : Pos} (hg : Gl X "range") (hm : X.mg "range" = none) (ha : PA X [a] ta) (hs : starEach [a] X.env = [(false, eval a X.env)] := by rfl) : PI X tg (.Call (.Name "range" p) [a] [] pos) (dI ta) := by
 intro pins s σ H R I h
 refine Call_ (Mi I hg hm boot_range (PyProof.Rows.callWith_type1 (thn (ha pos pins s σ H _ I h) fun us s1 ⟨vs, H1, I1, r1, q1⟩ => ?_) hs rfl))
 obtain ⟨j, e, q1, q2, q⟩ := q1
 subst e
 cases r1 with
 | cons r rr =>
  cases rr
  obtain ⟨t, rfl⟩ := r
  exact call_range_1 (UL I1 (by omega) (by omega) q1 q2 (by simpa using q))
def tFor (wi : TI) (g : TG) (tb : TS) : TS := fun D σ H => wi σ H fun J H1 => ∃ W : Nat → Nat → St → Hp → Prop, (∃ m, W 0 m σ H1) ∧ ∀ i m σ H, W i m σ H →
 (J.stop i H ∧ D.nx σ H) ∨ (J.go i H ∧ ∃ N : St → Hp → Prop, (∀ σ' H', N σ' H' → ∃ m', m' < m ∧ W (i + 1) m' σ' H') ∧ ∀ x H', J.yld i H x H' → g x σ H' fun σ2 H2 => tb { D with nx := N, ct := N, bk := D.nx } σ2 H2)
def J7 (fp : List Addr) (h : Heap) : List (Addr × Obj) := fp.filterMap fun b => (h.get? b).map fun o => (b, o)
theorem Fo {fp : List Addr} {h : Heap} {b : Addr} {o : Obj} (hb : b ∈ fp) (e : h.get? b = some o) : (b, o) ∈ J7 fp h := List.mem_filterMap.mpr ⟨b, hb, by rw [e]; rfl⟩
theorem S9 {fp : List Addr} {h : Heap} {p : Addr × Obj} (hp : p ∈ J7 fp h) : p.1 ∈ fp ∧ h.get? p.1 = some p.2 := by
 obtain ⟨b, hb, e⟩ := List.mem_filterMap.mp hp
 cases q : h.get? b with
 | none => rw [q] at e; cases e
 | some o =>
  rw [q] at e
  have e' : (b, o) = p := Option.some.inj e
  subst e'
  exact ⟨hb, q⟩
theorem Inv.pinned {pins : List (Addr × Obj)} {σ : St} {H : Hp} {s : Shared} {fp : List Addr} (I : Inv X pins σ H s) (hf : ∀ b ∈ fp, FpOk X pins H b) (ho : ∀ b ∈ fp, ∃ o, s.heap.get? b = some o ∧ ∀ v, o.data ≠ .cell v) : Inv X (pins ++ J7 fp s.heap) σ H s :=
 I.pins_of fun p hp => (List.mem_append.mp hp).elim (fun z => I.pin p (List.mem_append_right _ z)) fun z => by
  obtain ⟨hb, e⟩ := S9 z
  obtain ⟨f0, f1, f2, _⟩ := hf p.1 hb
  obtain ⟨o, e', d⟩ := ho p.1 hb
  rw [e] at e'; cases e'
  exact ⟨e, f0, f1, f2, d⟩
theorem Inv.unpinned {pins pl : List (Addr × Obj)} {σ : St} {H : Hp} {s : Shared} (I : Inv X (pins ++ pl) σ H s) : Inv X pins σ H s := I.pins_of fun p hp => I.pin p (List.mem_append_right _ (List.mem_append_left _ hp))
theorem UT {iter : Expr} {body : List Stmt} {wi : TI} {g : TG} {tb : TS} {pos : Pos} (hp : PassesOwn (model X.prog X.w) X.A X.env X.xe) (hc : X.calm = true) (hi : PI X tg iter wi) (hg : PG X tg g) (hb : PSs X body tb)
  (hs : ∀ x, foldedSetIterable iter X.env x = pure x := by intro _; rfl) : PS X (.For tg iter body [] pos) (tFor wi g tb) := by
 intro pins s σ H D I h
 refine wpAny_For (thn (hi pins s σ H _ I h) fun v s1 h1 => thn h1 fun itv s2 h2 => ?_) hs
 obtain ⟨it, fp, tn, J, H2, e, I2, T, st2, f2, W, ⟨m0, w0⟩, turn⟩ := h2
 subst e
 have stat : ∀ {H' : Hp}, (∀ b ∈ fp, H' b = none) → ∀ b ∈ fp, FpOk X pins H' b := fun hn b hb => ⟨hn b hb, (f2 b hb).2⟩
 refine codeAny_forLoop_any (fun n s' => ∃ i σ' H', Inv X pins σ' H' s' ∧ tn i s'.heap ∧ (∀ b ∈ fp, H' b = none) ∧ W i n σ' H') ?_ m0 ⟨0, σ, H2, I2, st2, fun b hb => (f2 b hb).1, w0⟩
 rintro n s3 ⟨i, σ3, H3, I3, st3, fr3, w3⟩
 rcases turn i n σ3 H3 w3 with ⟨stop, qn⟩ | ⟨go, N, hN, step⟩
 ·refine wpAny_passesOwn hp (thn (T.done X rfl rfl rfl hc i pins s3 σ3 H3 X.xe I3 (stat fr3) st3 stop) fun r s4 ⟨hr, I4⟩ => ?_)
  subst hr
  exact wpAny_execs_nil ⟨σ3, H3, I4, qn⟩
 ·refine wpAny_passesOwn hp (thn (T.item X rfl rfl rfl hc i pins s3 σ3 H3 X.xe I3 (stat fr3) st3 go) fun r s4 ⟨u, hr, h4⟩ => ?_)
  subst hr
  refine wpAny_passesOwn hp (thn h4 fun _ s5 ⟨x, H5, I5, r5, y5, st5, fr5⟩ => ?_)
  have I5' := I5.pinned (stat fr5) (T.obj _ _ st5)
  refine wpAny_passesOwn hp (thn (hg _ s5 σ3 H5 x u _ I5' r5 (step x H5 y5)) fun _ s6 ⟨σ6, H6, I6, q6⟩ => ?_)
  refine wpAny_passesOwn hp (thn (hb _ s6 σ6 H6 _ I6 q6) fun f s7 q7 => ?_)
  have again : ∀ {σ7 : St} {H7 : Hp}, Inv X (pins ++ J7 fp s5.heap) σ7 H7 s7 → N σ7 H7 → ∃ m, m < n ∧ ∃ i σ' H', Inv X pins σ' H' s7 ∧ tn i s7.heap ∧ (∀ b ∈ fp, H' b = none) ∧ W i m σ' H' := fun {σ7 H7} I7 n7 => by
   obtain ⟨m', hm, w7⟩ := hN σ7 H7 n7
   refine ⟨m', hm, i + 1, σ7, H7, I7.unpinned, T.keep _ _ _ st5 fun b hb o e => (I7.pin (b, o) (List.mem_append_right _ (List.mem_append_right _ (Fo hb e)))).1, fun b hb => ?_, w7⟩
   obtain ⟨o, e, d⟩ := T.obj _ _ st5 b hb
   exact (I7.pin (b, o) (List.mem_append_right _ (List.mem_append_right _ (Fo hb e)))).2.1
  cases f with
  | next => obtain ⟨σ7, H7, I7, n7⟩ := q7; exact again I7 n7
  | cont => obtain ⟨σ7, H7, I7, n7⟩ := q7; exact again I7 n7
  | brk => obtain ⟨σ7, H7, I7, q7⟩ := q7; exact ⟨σ7, H7, I7.unpinned, q7⟩
  | ret v => obtain ⟨x7, σ7, H7, I7, r7, q7⟩ := q7; exact ⟨x7, σ7, H7, I7.unpinned, r7, q7⟩
end
end L2
namespace L2
open PySem PySem.Spec PyProof.Rows
abbrev R2 := V → V → Hp → VK → Prop
def OpR (X : Cx) (f : Value → Value → Sem Value) (r : R2) : Prop :=
 ∀ (pins : List (Addr × Obj)) (s : Shared) (σ : St) (H : Hp) (x y : V) (v u : Value) (Q : VK), Inv X pins σ H s → RelV x v → RelV y u → r x y H Q →
  wpAny (model X.prog X.w) X.A (f v u) (EP X pins σ Q) X.xe s
def DW (X : Cx) (f : Value) (r : List V → Hp → VK → Prop) : Prop :=
 ∀ (pins : List (Addr × Obj)) (s : Shared) (σ : St) (H : Hp) (xs : List V) (us : List Value) (Q : VK), Inv X pins σ H s → Vals xs us → r xs H Q →
  wpAny (model X.prog X.w) X.A (call f us) (EP X pins σ Q) X.xe s
def TruR (X : Cx) (r : V → Hp → (Bool → Hp → Prop) → Prop) : Prop :=
 ∀ (pins : List (Addr × Obj)) (s : Shared) (σ : St) (H : Hp) (x : V) (v : Value) (Q : Bool → Hp → Prop), Inv X pins σ H s → RelV x v → r x H Q →
  wpAny (model X.prog X.w) X.A (truthy v) (TP X pins σ Q) X.xe s
def tOp (r : R2) (ta tb : TE) : TE := fun σ H Q => ta σ H fun x H1 => tb σ H1 fun y H2 => r x y H2 Q
def rI (C : Int → Int → Prop) (g : Int → Int → V) : R2 := fun x y H Q => ∃ i j, x = .int i ∧ y = .int j ∧ C i j ∧ Q (g i j) H
def rI0 (g : Int → Int → V) : R2 := fun x y H Q => ∃ i j, x = .int i ∧ y = .int j ∧ Q (g i j) H
section
variable {X : Cx} {a b c : Expr} {ta tb tc : TE} {pos : Pos}
theorem binT (ha : PE X a ta) (hb : PE X b tb) {pins : List (Addr × Obj)} {s : Shared} {σ : St} {H : Hp} {R : V → V → Hp → Prop} (I : Inv X pins σ H s)
  (h : ta σ H fun x H1 => tb σ H1 fun y H2 => R x y H2) {Q : Value → Shared → Prop} {f : Value → Value → Sem Value}
  (hf : ∀ v u s2 x y H2, Inv X pins σ H2 s2 → RelV x v → RelV y u → R x y H2 → wpAny (model X.prog X.w) X.A (f v u) Q X.xe s2) :
  wpAny (model X.prog X.w) X.A (eval a X.env) (fun v s₁ => wpAny (model X.prog X.w) X.A (eval b X.env) (fun u s₂ => wpAny (model X.prog X.w) X.A (f v u) Q X.xe s₂) X.xe s₁) X.xe s := by
 refine thn (ha pins s σ H _ I h) fun v s1 ⟨x, H1, I1, r1, q1⟩ => ?_
 refine thn (hb pins s1 σ H1 _ I1 q1) fun u s2 ⟨y, H2, I2, r2, q2⟩ => ?_
 exact hf v u s2 x y H2 I2 r1 r2 q2
theorem dJ {op : Operator} {r : R2} (ho : OpR X (binaryOp op) r) (ha : PE X a ta) (hb : PE X b tb) : PE X (.BinOp a op b pos) (tOp r ta tb) := by
 intro pins s σ H Q I h
 exact wpAny_BinOp (binT ha hb I h fun v u s2 x y H2 I2 rx ry q => ho pins s2 σ H2 x y v u Q I2 rx ry q)
theorem opI {f : Value → Value → Sem Value} {C : Int → Int → Prop} {g : Int → Int → Int}
  (rule : ∀ (i j : Int) (t u : Tok) (s : Shared) (Q : Value → Shared → Prop) (E : Value → Shared → Prop), C i j → Q (.int (g i j) s.toks) { s with toks := s.toks + 1 } → wpAny (model X.prog X.w) X.A (f (.int i t) (.int j u)) Q E s) :
  OpR X f (rI C fun i j => .int (g i j)) := by
 intro pins s σ H x y v u Q I rx ry h
 obtain ⟨i, j, rfl, rfl, hc, q⟩ := h
 obtain ⟨t, rfl⟩ := rx
 obtain ⟨t', rfl⟩ := ry
 exact rule i j t t' s _ _ hc ⟨.int (g i j), H, I.tok _, ⟨_, rfl⟩, q⟩
theorem opI0 {f : Value → Value → Sem Value} {g : Int → Int → Int}
  (rule : ∀ (i j : Int) (t u : Tok) (s : Shared) (Q : Value → Shared → Prop) (E : Value → Shared → Prop), Q (.int (g i j) s.toks) { s with toks := s.toks + 1 } → wpAny (model X.prog X.w) X.A (f (.int i t) (.int j u)) Q E s) :
  OpR X f (rI0 fun i j => .int (g i j)) := by
 intro pins s σ H x y v u Q I rx ry h
 obtain ⟨i, j, rfl, rfl, q⟩ := h
 obtain ⟨t, rfl⟩ := rx
 obtain ⟨t', rfl⟩ := ry
 exact rule i j t t' s _ _ ⟨.int (g i j), H, I.tok _, ⟨_, rfl⟩, q⟩
theorem opB0 {f : Value → Value → Sem Value} {g : Int → Int → Bool}
  (rule : ∀ (i j : Int) (t u : Tok) (s : Shared) (Q : Value → Shared → Prop) (E : Value → Shared → Prop), Q (.bool (g i j)) s → wpAny (model X.prog X.w) X.A (f (.int i t) (.int j u)) Q E s) :
  OpR X f (rI0 fun i j => .bl (g i j)) := by
 intro pins s σ H x y v u Q I rx ry h
 obtain ⟨i, j, rfl, rfl, q⟩ := h
 obtain ⟨t, rfl⟩ := rx
 obtain ⟨t', rfl⟩ := ry
 exact rule i j t t' s _ _ ⟨.bl (g i j), H, I, rfl, q⟩
def CDiv (i j : Int) : Prop := 0 < j ∧ j < 1073741824
def CPow (i j : Int) : Prop := 0 ≤ j ∧ j ≤ 1000000 ∧ i.natAbs < 2 ^ 64
def CMul (i j : Int) : Prop := (-(2 ^ 64) < i ∧ i < 2 ^ 64) ∨ (-(2 ^ 64) < j ∧ j < 2 ^ 64)
theorem CMul.ok {i j : Int} (h : CMul i j) : IntMulOk i j := by
 rcases h with ⟨h1, h2⟩ | ⟨h1, h2⟩
 ·exact .of_left (intBits_le_64 h1 h2)
 ·exact .of_right (intBits_le_64 h1 h2)
theorem ak : OpR X (binaryOp .Add) (rI0 fun i j => .int (i + j)) := opI0 fun _ _ _ _ _ _ _ q => add_int q
theorem ao : OpR X (binaryOp .Sub) (rI0 fun i j => .int (i - j)) := opI0 fun _ _ _ _ _ _ _ q => sub_int q
theorem Xr : OpR X (binaryOp .FloorDiv) (rI CDiv fun i j => .int (i / j)) := opI fun i j _ _ _ _ _ hc q => by
 have h1 : (0 : Int) < j := hc.1
 have h2 : j < 1073741824 := hc.2
 exact floordiv_int (by omega) (by rw [Int.fdiv_eq_ediv_of_nonneg i (by omega)]; exact q) (.inl (PyProof.noPylong_small (by omega)))
theorem aq : OpR X (binaryOp .Mod) (rI (fun _ j => 0 < j) fun i j => .int (i % j)) := opI fun i j _ _ _ _ _ hc q => by
 have h1 : (0 : Int) < j := hc
 exact mod_int' (by omega) (by rw [Int.fmod_eq_emod_of_nonneg i (by omega)]; exact q)
theorem UV : OpR X (binaryOp .Pow) (rI CPow fun i j => .int (i ^ j.toNat)) := opI fun _ _ _ _ _ _ _ hc q => pow_int_small hc.1 hc.2.1 hc.2.2 q
end
def scal : V → V → Bool
 | .non, .non => true | .non, .int _ => true | .int _, .non => true | .non, .bl _ => true | .bl _, .non => true | .non, .str _ => true | .str _, .non => true
 | .int _, .int _ => true | .bl _, .bl _ => true | .str _, .str _ => true | .byt _, .byt _ => true
 | .int _, .str _ => true | .str _, .int _ => true | .bl _, .str _ => true | .str _, .bl _ => true
 | _, _ => false
def rEq : R2 := fun x y H Q => scal x y = true ∧ Q (.bl (decide (x = y))) H
def rNe : R2 := fun x y H Q => scal x y = true ∧ Q (.bl (!decide (x = y))) H
theorem Qh {i j : Int} : decide (V.int i = V.int j) = (i == j) := by
 rw [Bool.eq_iff_iff]
 simp
theorem UW {i j : Bool} : decide (V.bl i = V.bl j) = (i == j) := by
 rw [Bool.eq_iff_iff]
 simp
theorem Qi {i j : Str} : decide (V.str i = V.str j) = (i == j) := by
 rw [Bool.eq_iff_iff]
 simp
theorem Qj {i j : Array UInt8} : decide (V.byt i = V.byt j) = (i.toList == j.toList) := by
 rw [Bool.eq_iff_iff]
 cases i
 cases j
 simp
section
variable {X : Cx} {a b c : Expr} {ta tb tc : TE} {pos : Pos}
theorem Ar {pins : List (Addr × Obj)} {σ : St} {H : Hp} {s : Shared} {Q : VK} {k k' : Bool} (I : Inv X pins σ H s) (q : Q (.bl k) H) (e : k = k') : EP X pins σ Q (.bool k') s := by
 subst e
 exact ⟨.bl k, H, I, rfl, q⟩
theorem dM : OpR X (compareOp .Eq) rEq := by
 intro pins s σ H x y v u Q I rx ry h
 obtain ⟨hs, q⟩ := h
 cases x with
 | non =>
  cases rx
  cases y with
  | non => cases ry; exact PySem.EqNone.eq_none_none (Ar I q (by simp))
  | bl j => cases ry; exact PySem.EqNone.eq_none_bool (Ar I q (by simp))
  | int j => obtain ⟨t', rfl⟩ := ry; exact PySem.EqNone.eq_none_int (Ar I q (by simp))
  | str j => obtain ⟨t', rfl⟩ := ry; exact PySem.EqNone.eq_none_str (Ar I q (by simp))
  | _ => exact absurd (show false = true from hs) Bool.false_ne_true
 | bl i =>
  cases rx
  cases y with
  | non => cases ry; exact PySem.EqNone.eq_bool_none (Ar I q (by simp))
  | bl j => cases ry; exact eq_bool (Ar I q UW)
  | str j => obtain ⟨t', rfl⟩ := ry; exact PySem.EqMixed.eq_bool_str (Ar I q (by simp))
  | _ => exact absurd (show false = true from hs) Bool.false_ne_true
 | int i =>
  obtain ⟨t, rfl⟩ := rx
  cases y with
  | non => cases ry; exact PySem.EqNone.eq_int_none (Ar I q (by simp))
  | int j => obtain ⟨t', rfl⟩ := ry; exact eq_int (Ar I q Qh)
  | str j => obtain ⟨t', rfl⟩ := ry; exact PySem.EqMixed.eq_int_str (Ar I q (by simp))
  | _ => exact absurd (show false = true from hs) Bool.false_ne_true
 | str i =>
  obtain ⟨t, rfl⟩ := rx
  cases y with
  | non => cases ry; exact PySem.EqNone.eq_str_none (Ar I q (by simp))
  | bl j => cases ry; exact PySem.EqMixed.eq_str_bool (Ar I q (by simp))
  | int j => obtain ⟨t', rfl⟩ := ry; exact PySem.EqMixed.eq_str_int (Ar I q (by simp))
  | str j => obtain ⟨t', rfl⟩ := ry; exact eq_str (Ar I q Qi)
  | _ => exact absurd (show false = true from hs) Bool.false_ne_true
 | byt i =>
  obtain ⟨t, rfl⟩ := rx
  cases y with
  | byt j => obtain ⟨t', rfl⟩ := ry; exact PySem.W.eq_bytes (Ar I q Qj)
  | _ => exact absurd (show false = true from hs) Bool.false_ne_true
 | _ => cases y <;> exact absurd (show false = true from hs) Bool.false_ne_true
theorem dN : OpR X (compareOp .NotEq) rNe := by
 intro pins s σ H x y v u Q I rx ry h
 obtain ⟨hs, q⟩ := h
 cases x with
 | non =>
  cases rx
  cases y with
  | non => cases ry; exact PySem.EqNone.ne_none_none (Ar I q (by simp))
  | bl j => cases ry; exact PySem.EqNone.ne_none_bool (Ar I q (by simp))
  | int j => obtain ⟨t', rfl⟩ := ry; exact PySem.EqNone.ne_none_int (Ar I q (by simp))
  | str j => obtain ⟨t', rfl⟩ := ry; exact PySem.EqNone.ne_none_str (Ar I q (by simp))
  | _ => exact absurd (show false = true from hs) Bool.false_ne_true
 | bl i =>
  cases rx
  cases y with
  | non => cases ry; exact PySem.EqNone.ne_bool_none (Ar I q (by simp))
  | bl j => cases ry; exact ne_bool (Ar I q (congrArg not UW))
  | str j => obtain ⟨t', rfl⟩ := ry; exact PySem.EqMixed.ne_bool_str (Ar I q (by simp))
  | _ => exact absurd (show false = true from hs) Bool.false_ne_true
 | int i =>
  obtain ⟨t, rfl⟩ := rx
  cases y with
  | non => cases ry; exact PySem.EqNone.ne_int_none (Ar I q (by simp))
  | int j => obtain ⟨t', rfl⟩ := ry; exact ne_int (Ar I q (congrArg not Qh))
  | str j => obtain ⟨t', rfl⟩ := ry; exact PySem.EqMixed.ne_int_str (Ar I q (by simp))
  | _ => exact absurd (show false = true from hs) Bool.false_ne_true
 | str i =>
  obtain ⟨t, rfl⟩ := rx
  cases y with
  | non => cases ry; exact PySem.EqNone.ne_str_none (Ar I q (by simp))
  | bl j => cases ry; exact PySem.EqMixed.ne_str_bool (Ar I q (by simp))
  | int j => obtain ⟨t', rfl⟩ := ry; exact PySem.EqMixed.ne_str_int (Ar I q (by simp))
  | str j => obtain ⟨t', rfl⟩ := ry; exact ne_str (Ar I q (congrArg not Qi))
  | _ => exact absurd (show false = true from hs) Bool.false_ne_true
 | byt i =>
  obtain ⟨t, rfl⟩ := rx
  cases y with
  | byt j => obtain ⟨t', rfl⟩ := ry; exact PySem.W.ne_bytes (Ar I q (congrArg not Qj))
  | _ => exact absurd (show false = true from hs) Bool.false_ne_true
 | _ => cases y <;> exact absurd (show false = true from hs) Bool.false_ne_true
theorem dO : OpR X (compareOp .Lt) (rI0 fun i j => .bl (decide (i < j))) := opB0 fun _ _ _ _ _ _ _ q => lt_int q
theorem dR : OpR X (compareOp .Gt) (rI0 fun i j => .bl (decide (j < i))) := opB0 fun _ _ _ _ _ _ _ q => gt_int q
theorem dU : OpR X (compareOp .GtE) (rI0 fun i j => .bl (decide (j ≤ i))) := opB0 fun _ _ _ _ _ _ _ q => ge_int q
theorem S_ : OpR X (compareOp .In) (fun x y H Q => ∃ i j, x = .str i ∧ y = .str j ∧ Q (.bl (!(Builtin.Str.occurrences j i 0 j.length 1).isEmpty)) H) := by
 intro pins s σ H x y v u Q I rx ry h
 obtain ⟨i, j, rfl, rfl, q⟩ := h
 obtain ⟨t, rfl⟩ := rx
 obtain ⟨t', rfl⟩ := ry
 exact in_str (Ar I q rfl)
theorem Ml : OpR X (compareOp .NotIn) (fun x y H Q => ∃ i j, x = .str i ∧ y = .str j ∧ Q (.bl (!(!(Builtin.Str.occurrences j i 0 j.length 1).isEmpty))) H) := by
 intro pins s σ H x y v u Q I rx ry h
 obtain ⟨i, j, rfl, rfl, q⟩ := h
 obtain ⟨t, rfl⟩ := rx
 obtain ⟨t', rfl⟩ := ry
 exact notIn_str (Ar I q rfl)
theorem OpR.or {f : Value → Value → Sem Value} {r r' : R2} (h : OpR X f r) (h' : OpR X f r') : OpR X f (fun x y H Q => r x y H Q ∨ r' x y H Q) := by
 intro pins s σ H x y v u Q I rx ry q
 rcases q with q | q
 ·exact h pins s σ H x y v u Q I rx ry q
 ·exact h' pins s σ H x y v u Q I rx ry q
theorem Ir (b : Expr) {op : CmpOp} (h : op ≠ .In := by decide) (h2 : op ≠ .NotIn := by decide) : behindInMarks op b = false := by
 have e1 : (op == CmpOp.In) = false := by cases op <;> first | rfl | exact absurd rfl h
 have e2 : (op == CmpOp.NotIn) = false := by cases op <;> first | rfl | exact absurd rfl h2
 cases b <;> simp [behindInMarks, e1, e2]
theorem Qk {op : CmpOp} {r : R2} (ho : OpR X (compareOp op) r) (ha : PE X a ta) (hb : PE X b tb) (hm : behindInMarks op b = false) : PE X (.Compare a [op] [b] pos) (tOp r ta tb) := by
 intro pins s σ H Q I h
 exact wpAny_Compare1 (binT ha hb I h fun v u s2 x y H2 I2 rx ry q => ho pins s2 σ H2 x y v u Q I2 rx ry q) hm
def dW (t : TE) : TT := fun σ H Q => t σ H fun x H' => ∃ k, x = .bl k ∧ Q k H'
theorem Ql {op : CmpOp} {r : R2} (ho : OpR X (compareOp op) r) (ha : PE X a ta) (hb : PE X b tb) (hm : behindInMarks op b = false) : PT X (.Compare a [op] [b] pos) (dW (tOp r ta tb)) := by
 intro pins s σ H Q I h
 refine wpAny_isTrue_Compare1 (thn (ha pins s σ H _ I h) fun v s1 ⟨x, H1, I1, r1, q1⟩ => thn (hb pins s1 σ H1 _ I1 q1) fun u s2 ⟨y, H2, I2, r2, q2⟩ =>
  thn (ho pins s2 σ H2 x y v u _ I2 r1 r2 q2) fun c s3 ⟨z, H3, I3, r3, k, e, q3⟩ => ?_) hm
 subst e
 cases r3
 exact wpAny_truthy_bool ⟨H3, I3, q3⟩
def TruV (K : PySem.W.Frag) (x : V) (H : Hp) (k : Bool) : Prop :=
 match x with
 | .non => k = false
 | .bl b => k = b
 | .int i => k = (i != 0)
 | .str y => y.length ≤ sizeLine ∧ k = ((y.length : Int) != 0)
 | .byt y => y.size ≤ sizeLine ∧ k = ((y.size : Int) != 0)
 | .ref p => (∃ xs, SqL K H p xs ∧ k = !xs.isEmpty) ∨ (∃ xs, SqT K H p xs ∧ k = !xs.isEmpty) ∨ ∃ kvs, H p = some (.dK kvs) ∧ k = !kvs.isEmpty
 | _ => False
theorem Pz {κ : Type} {kvs : List (κ × V)} {vs : List (κ × Value)} (r : KV kvs vs) : (!vs.isEmpty) = !kvs.isEmpty := by
 cases r <;> rfl
theorem J8 {xs : List V} {its : List Value} (r : Vals xs its) : (!its.toArray.isEmpty) = !xs.isEmpty := by
 cases r <;> simp
theorem J9 : (sizeLine : Nat) < 2 ^ 63 := by rw [sizeLine_eq]; decide
theorem au : TruR X (fun x H Q => ∃ k, TruV X.K x H k ∧ Q k H) := by
 intro pins s σ H x v Q I rx h
 obtain ⟨k, e, q⟩ := h
 have hl := J9
 have hs : sizeLine = 16777216 := sizeLine_eq
 cases x with
 | non =>
  cases rx
  have e' : k = false := e
  subst e'
  exact truthy_none ⟨H, I, q⟩
 | bl b =>
  cases rx
  have e' : k = b := e
  subst e'
  exact wpAny_truthy_bool ⟨H, I, q⟩
 | int i =>
  obtain ⟨t, rfl⟩ := rx
  have e' : k = (i != 0) := e
  subst e'
  exact PySem.P.truthy_int ⟨H, I, q⟩
 | str y =>
  obtain ⟨t, rfl⟩ := rx
  obtain ⟨hy, e'⟩ : y.length ≤ sizeLine ∧ k = ((y.length : Int) != 0) := e
  subst e'
  exact PySem.P.truthy_str (by omega) ⟨H, I.tok _, q⟩
 | byt y =>
  obtain ⟨t, rfl⟩ := rx
  obtain ⟨hy, e'⟩ : y.size ≤ sizeLine ∧ k = ((y.size : Int) != 0) := e
  subst e'
  exact PySem.W.truthy_bytes (by omega) ⟨H, I.tok _, q⟩
 | ref p =>
  cases rx
  have e' : (∃ xs, SqL X.K H p xs ∧ k = !xs.isEmpty) ∨ (∃ xs, SqT X.K H p xs ∧ k = !xs.isEmpty) ∨ ∃ kvs, H p = some (.dK kvs) ∧ k = !kvs.isEmpty := e
  rcases e' with ⟨xs, hx, e'⟩ | ⟨xs, hx, e'⟩ | ⟨kvs, hx, e'⟩
  ·subst e'
   obtain ⟨its, r, pl, hz⟩ := I.list hx
   have hlen := r.length
   exact wpAny_truthy_list pl.isList (by simp only [List.size_toArray]; omega) ⟨H, I.tok _, by rw [J8 r]; exact q⟩
  ·subst e'
   obtain ⟨its, r, pl, hz⟩ := I.tuple hx
   have hlen := r.length
   exact truthy_tuple pl (by simp only [List.size_toArray]; omega) ⟨H, I.tok _, by rw [J8 r]; exact q⟩
  ·subst e'
   obtain ⟨hz, hS, vs, r, m⟩ : kvs.length ≤ sizeLine ∧ (p == sysModules) = false ∧ ∃ vs, KV kvs vs ∧ s.heap.DictOf (Av X.prog X.w) p vs := I.hok p _ hx
   have hlen : kvs.length = vs.length := Paired.length r
   exact wpAny_truthy_dict hS m (by omega) ⟨H, I.tok _, by rw [Pz r]; exact q⟩
 | _ => exact (show False from e).elim
theorem Ua (ha : PE X a ta) (he : ∀ whole, isTrue a X.env whole = (do let v ← whole; standAt a.pos; holding [v] (truthy v))) :
  PT X a (fun σ H Q => ta σ H fun x H' => ∃ k, TruV X.K x H' k ∧ Q k H') := by
 intro pins s σ H Q I h
 exact isTrue_plain (thn (ha pins s σ H _ I h) fun v s1 ⟨x, H1, I1, r1, q1⟩ => au pins s1 σ H1 x v Q I1 r1 q1) (he _)
theorem P0 : OpR X (binaryOp .Add) (fun x y H Q => ∃ i j, x = .str i ∧ y = .str j ∧ i.length + j.length ≤ sizeLine ∧ Q (.str (i ++ j)) H) := by
 intro pins s σ H x y v u Q I rx ry h
 obtain ⟨i, j, rfl, rfl, hz, q⟩ := h
 obtain ⟨t, rfl⟩ := rx
 obtain ⟨t', rfl⟩ := ry
 exact add_str (fun t' tk => ⟨.str (i ++ j), H, I.tok _, ⟨_, rfl⟩, q⟩) hz
theorem vals1 {x : V} {us : List Value} (r : Vals [x] us) : ∃ u, us = [u] ∧ RelV x u := by
 cases r with
 | cons r1 r2 => cases r2; exact ⟨_, rfl, r1⟩
theorem Le : DW X (.type "int") (fun xs H Q => (∃ i, xs = [.int i] ∧ Q (.int i) H) ∨ ∃ k, xs = [.bl k] ∧ Q (.int (if k then 1 else 0)) H) := by
 intro pins s σ H xs us Q I r h
 rcases h with ⟨i, rfl, q⟩ | ⟨k, rfl, q⟩
 ·obtain ⟨u, rfl, t, rfl⟩ := vals1 r
  exact call_int_int ⟨.int i, H, I, ⟨_, rfl⟩, q⟩
 ·obtain ⟨u, rfl, r1⟩ := vals1 r
  cases r1
  exact call_int_bool ⟨.int (if k then 1 else 0), H, I.tok _, ⟨_, rfl⟩, q⟩
def LenV (K : PySem.W.Frag) (x : V) (H : Hp) (n : Nat) : Prop :=
 match x with
 | .str y => y.length ≤ sizeLine ∧ n = y.length
 | .byt y => y.size ≤ sizeLine ∧ n = y.size
 | .ref p => (∃ xs, SqL K H p xs ∧ n = xs.length) ∨ ∃ xs, SqT K H p xs ∧ n = xs.length
 | _ => False
theorem Ub : DW X (.builtin "len") (fun xs H Q => ∃ x n, xs = [x] ∧ LenV X.K x H n ∧ Q (.int n) H) := by
 intro pins s σ H xs us Q I r h
 obtain ⟨x, n, rfl, e, q⟩ := h
 obtain ⟨u, rfl, rx⟩ := vals1 r
 have hl := J9
 have hs : sizeLine = 16777216 := sizeLine_eq
 cases x with
 | str y =>
  obtain ⟨t, rfl⟩ := rx
  obtain ⟨hy, e'⟩ : y.length ≤ sizeLine ∧ n = y.length := e
  subst e'
  exact len_str (by omega) ⟨.int _, H, I.tok _, ⟨_, rfl⟩, q⟩
 | byt y =>
  obtain ⟨t, rfl⟩ := rx
  obtain ⟨hy, e'⟩ : y.size ≤ sizeLine ∧ n = y.size := e
  subst e'
  exact PySem.W.len_bytes (by omega) ⟨.int _, H, I.tok _, ⟨_, rfl⟩, q⟩
 | ref p =>
  cases rx
  have e' : (∃ xs, SqL X.K H p xs ∧ n = xs.length) ∨ ∃ xs, SqT X.K H p xs ∧ n = xs.length := e
  rcases e' with ⟨xs, hx, e'⟩ | ⟨xs, hx, e'⟩
  ·subst e'
   obtain ⟨its, r', pl, hz⟩ := I.list hx
   have hlen := r'.length
   exact Calls.call_len_list pl.isList (by simp only [List.size_toArray]; omega) ⟨.int xs.length, H, I.tok _, ⟨_, by simp only [List.size_toArray]; rw [hlen]⟩, q⟩
  ·subst e'
   obtain ⟨its, r', pl, hz⟩ := I.tuple hx
   have hlen := r'.length
   exact len_tuple pl (by simp only [List.size_toArray]; omega) ⟨.int xs.length, H, I.tok _, ⟨_, by simp only [List.size_toArray]; rw [hlen]⟩, q⟩
 | _ => exact (show False from e).elim
end
end L2
namespace L2
open PySem PySem.Spec PyProof.Rows
structure ObjM (h : Heap) (x dx C : Addr) (mA : Str → Option Value) : Prop where
 obj : h.get? x = some (PySem.W.instObj C dx)
 ns : h.Ns1 dx mA
 ne : dx ≠ x
theorem Iu {h : Heap} {dx : Addr} {mA : Str → Option Value} (n : h.Ns1 dx mA) : ∃ od, h.get? dx = some od ∧ ∀ name, PySem.W.lookIn name od = some (mA name) := by
 obtain ⟨o, es, ep, ho, hd, hk, _, hm⟩ := n
 refine ⟨o, ho, fun name => ?_⟩
 have e := hm name
 unfold nsFind findBy at e
 rw [← Array.find?_toList] at e
 unfold PySem.W.lookIn
 rw [hd]
 dsimp only
 split
 ·rename_i y q
  rw [q] at e
  exact congrArg some e
 ·rename_i q
  rw [q] at e
  have a : es.toList.any (·.refKey) = false := by
   rw [List.any_eq_false]
   intro y hy
   obtain ⟨z, t, hkey⟩ := hk y (Array.mem_toList_iff.mp hy)
   simp [DictEntry.refKey, hkey]
  have a' : ¬ es.toList.any (·.refKey) = true := by rw [a]; exact Bool.false_ne_true
  rw [if_neg a']
  exact congrArg some e
theorem ObjM.look {h : Heap} {x dx C : Addr} {mA : Str → Option Value} (I : ObjM h x dx C mA) : ∃ od, PySem.W.InstAt h x (PySem.W.instObj C dx) C (some od) ∧ ∀ name, PySem.W.lookIn name od = some (mA name) :=
 let ⟨od, ho, hl⟩ := Iu I.ns
 ⟨od, ⟨I.obj, rfl, rfl, ho⟩, hl⟩
section
variable {prog : Program} {w : World} {A : Around} {E : Value → Shared → Prop} {s : Shared} {K : PySem.W.Frag} {x dx C f : Addr} {mA : Str → Option Value} {name : Str} {v : Value}
theorem Xu {expr : Bool} {Q : Value → Shared → Prop} (X : K.In s.heap) (I : ObjM s.heap x dx C mA) (hg : PySem.W.plainGet K C name = true) (hh : PySem.W.hasDictIn K C = true)
  (ha : PySem.W.findIn K (.ref C) name = some none) (hv : mA name = some v) (hv' : PySem.W.handedIn v = true) (h : Q v { s with toks := s.toks + 1 }) :
  wpAny (model prog w) A (getAttr (.ref x) name expr) Q E s := by
 obtain ⟨od, J, hl⟩ := I.look
 exact PySem.W.get_value X J (PySem.W.plainGet_of hg).1 (PySem.W.findObj_own hh ha rfl (by rw [hl, hv])) hv' h
theorem Uc {pl : Sem Bool} {Q : Value × List Value → Shared → Prop} (X : K.In s.heap) (I : ObjM s.heap x dx C mA) (hg : PySem.W.plainGet K C name = true)
  (hf : PySem.W.findIn K (.ref C) name = some (some (.ref f))) (ht : PySem.W.isFn K (.ref f) = true) (hv : mA name = none) (h : Q (.ref f, [.ref x]) s) :
  wpAny (model prog w) A (getMethod (.ref x) name pl) Q E s := by
 obtain ⟨od, J, hl⟩ := I.look
 exact PySem.W.method_fn X J (PySem.W.plainGet_of hg).1 (PySem.W.plainGet_of hg).2 hf (beq_iff_eq.mp ht) (by show (PySem.W.lookIn name od).map (·.isSome) = some false; rw [hl, hv]; rfl) h
theorem Xv {ns : List Str} {Q : Unit → Shared → Prop} (X : K.In s.heap) (I : ObjM s.heap x dx C mA)
  (hs : PySem.W.findIn K (.ref C) "__setattr__" = some (some (.builtin "object.__setattr__"))) (hp : PySem.W.plainOver K C = true) (ht : PySem.W.takerIn K C name = some none) (hh : PySem.W.hasDictIn K C = true)
  (hw : PySem.Within mA ns) (hsz : ns.length ≤ sizeLine)
  (h : ∀ h', ObjM h' x dx C (fun y => if y = name then some v else mA y) → Heap.SameBut dx s.heap h' → Q () { s with heap := h', toks := s.toks + 2 }) :
  wpAny (model prog w) A (setAttr (.ref x) name v) Q E s := by
 obtain ⟨od, J, hl⟩ := I.look
 refine PySem.W.set_plain X J hs (PySem.W.osa_open (s := { s with toks := s.toks + 1 }) (r := none) X J hp ht fun b => ?_)
 obtain ⟨cd, hc, hd'⟩ := PySem.W.any_some hh
 have hx : s.heap.get? x = some ⟨.ref C, some dx, .plain, #[]⟩ := I.obj
 refine wpAny_bind (wpAny_pure (wpAny_bind (wpAny_bind (wpAny_loadPart hx (wpAny_bind (PySem.W.Looks.here (s := { s with toks := s.toks + 1 }) (PySem.W.looks_clsIn X hc) ?_))))))
 rw [hd']
 refine wpAny_pure (a := some dx) (wpAny_bind (wpAny_pure (wpAny_bind ?_)))
 refine wpAny_nsSet1 (s := { s with toks := s.toks + 1 }) I.ns fun h' hn2 hs2 => ?_
 obtain ⟨oD, esD, epD, hoD, hdD, hcD⟩ := hn2.count (PySem.Within.cons name v hw)
 refine wpAny_bind (wpAny_lookBehind hoD (by rw [hdD]; exact pastItsLine_dict (Nat.le_trans hcD (by rw [List.length_cons]; omega))) ?_)
 exact wpAny_pure (h _ ⟨(hs2.2 _ (Ne.symm I.ne)).trans I.obj, hn2, I.ne⟩ hs2)
theorem Ud {R : Result → Shared → Prop} {vs : List Value} {kw : List (Str × Value)} (X : K.In s.heap) (hm : PySem.W.makesIn K C = true)
  (hi : PySem.W.findIn K (.ref C) "__init__" = some (some (.ref f))) (hf : PySem.W.typeIn K (.ref f) = some (.type "function"))
  (h : codeAny (model prog w) (A.under (.builtin "type.__call__" ⟨.ref C :: vs, kw⟩)) (.call (.ref f) ⟨.ref (s.heap.objs.size + 1) :: vs, kw⟩) (PySem.W.InitBack (s.heap.objs.size + 1) R)
   { s with heap := (s.heap.push PySem.W.emptyDict).push (PySem.W.instObj C s.heap.objs.size) }) :
  codeAny (model prog w) A (.call (.ref C) ⟨vs, kw⟩) R s := by
 obtain ⟨hh, g, d, t, os⟩ := s
 exact PySem.W.make_core (PySem.W.makes_of X hm) (PySem.W.looks_findIn X hi) (fun self => PySem.W.bind_fn X self hf) (.inl rfl) h
end
def putF (f : Str) (v : V) : List (Str × V) → List (Str × V)
 | [] => [(f, v)]
 | (g, x) :: r => if g = f then (g, v) :: r else (g, x) :: putF f v r
theorem JX (f g : Str) (v : V) : ∀ fs : List (Str × V), (putF f v fs).lookup g = if g = f then some v else fs.lookup g
 | [] => by
  show List.lookup g [(f, v)] = _
  by_cases h : g = f
  ·have hb : (g == f) = true := beq_iff_eq.mpr h
   simp only [List.lookup, hb, if_pos h]
  ·have hb : (g == f) = false := beq_eq_false_iff_ne.mpr h
   simp only [List.lookup, hb, if_neg h]
 | (k, x) :: r => by
  have ih := JX f g v r
  rw [show putF f v ((k, x) :: r) = (if k = f then (k, v) :: r else (k, x) :: putF f v r) from rfl]
  by_cases hk : k = f
  ·rw [if_pos hk]
   by_cases h : g = k
   ·have hb : (g == k) = true := beq_iff_eq.mpr h
    simp only [List.lookup, hb, if_pos (h.trans hk)]
   ·have hb : (g == k) = false := beq_eq_false_iff_ne.mpr h
    simp only [List.lookup, hb, if_neg (fun e : g = f => h (e.trans hk.symm))]
  ·rw [if_neg hk]
   by_cases h : g = k
   ·have hb : (g == k) = true := beq_iff_eq.mpr h
    simp only [List.lookup, hb, if_neg (fun e : g = f => hk (h.symm.trans e))]
   ·have hb : (g == k) = false := beq_eq_false_iff_ne.mpr h
    simp only [List.lookup, hb]
    exact ih
theorem Iv (f : Str) (v : V) : ∀ fs : List (Str × V), f ∈ (putF f v fs).map (·.1) ∧ ∀ g, g ∈ fs.map (·.1) → g ∈ (putF f v fs).map (·.1)
 | [] => ⟨by simp [putF], fun g h => by simp at h⟩
 | (k, x) :: r => by
  obtain ⟨i1, i2⟩ := Iv f v r
  rw [show putF f v ((k, x) :: r) = (if k = f then (k, v) :: r else (k, x) :: putF f v r) from rfl]
  by_cases hk : k = f
  ·rw [if_pos hk]
   subst hk
   exact ⟨by simp, fun g h => by simpa using h⟩
  ·rw [if_neg hk]
   refine ⟨?_, fun g h => ?_⟩
   ·rw [List.map_cons]
    exact List.mem_cons_of_mem _ i1
   ·rw [List.map_cons] at h ⊢
    rcases List.mem_cons.mp h with e | e
    ·exact List.mem_cons.mpr (.inl e)
    ·exact List.mem_cons_of_mem _ (i2 g e)
theorem JZ (f : Str) (v : V) : ∀ fs : List (Str × V), (putF f v fs).length ≤ fs.length + 1
 | [] => by simp [putF]
 | (k, x) :: r => by
  have ih := JZ f v r
  rw [show putF f v ((k, x) :: r) = (if k = f then (k, v) :: r else (k, x) :: putF f v r) from rfl]
  by_cases hk : k = f
  ·rw [if_pos hk, List.length_cons, List.length_cons]; omega
  ·rw [if_neg hk, List.length_cons, List.length_cons]; omega
theorem RelO.some_of {v : V} {o : Option Value} (r : RelO (some v) o) : ∃ u, o = some u ∧ RelV v u := by
 cases o with
 | none => exact (show False from r).elim
 | some u => exact ⟨u, rfl, r⟩
theorem RelO.none_of {o : Option Value} (r : RelO none o) : o = none := by
 cases o with
 | none => rfl
 | some u => exact (show False from r).elim
theorem Lf {v : V} {u : Value} (r : RelV v u) : PySem.W.handedIn u = true := by
 cases v with
 | non => cases (show u = Value.none from r); rfl
 | bl b => cases (show u = Value.bool b from r); rfl
 | int i => obtain ⟨t, e⟩ := (show ∃ t, u = Value.int i t from r); cases e; rfl
 | str x => obtain ⟨t, e⟩ := (show ∃ t, u = Value.str x t from r); cases e; rfl
 | byt b => obtain ⟨t, e⟩ := (show ∃ t, u = Value.bytes b t from r); cases e; rfl
 | flt b => obtain ⟨t, e⟩ := (show ∃ t, u = Value.float b t from r); cases e; rfl
 | ref a => cases (show u = Value.ref a from r); rfl
 | ty n => cases (show u = Value.type n from r); rfl
section
variable {P : Program} {w : World} {H H' : Hp} {h h' : Heap} {a C dx : Addr} {fs fs' : List (Str × V)}
theorem Mm (hok : HOk P w H h) (e : H a = some (.ins C dx fs)) : ∃ mA, ObjM h a dx C mA ∧ (∀ f, RelO (fs.lookup f) (mA f)) ∧ PySem.Within mA (fs.map (·.1)) ∧ fs.length ≤ 1000 ∧ H dx = some (.own a) := by
 obtain ⟨d, z, ne, ob, mA, n, r, q⟩ := (show BK P w H h a (.ins C dx fs) from hok a _ e)
 exact ⟨mA, ⟨ob, n, ne⟩, r, q, z, d⟩
end
structure Cls (K : PySem.W.Frag) (C : Addr) : Prop where
 pg : PySem.W.plainGet K C Str.empty = true
 hd : PySem.W.hasDictIn K C = true
 po : PySem.W.plainOver K C = true
 sa : PySem.W.findIn K (.ref C) "__setattr__" = some (some (.builtin "object.__setattr__"))
theorem Cls.get {K : PySem.W.Frag} {C : Addr} (c : Cls K C) (f : Str) : PySem.W.plainGet K C f = true := c.pg
def BJ (K : PySem.W.Frag) (C : Addr) (f : Str) : Prop := PySem.W.findIn K (.ref C) f = some none
theorem BJ.taker {K : PySem.W.Frag} {C : Addr} {f : Str} (n : BJ K C f) : PySem.W.takerIn K C f = some none := by
 unfold PySem.W.takerIn
 rw [show PySem.W.findIn K (.ref C) f = some none from n]
 rfl
structure Meth (K : PySem.W.Frag) (C : Addr) (m : Str) (f : Addr) : Prop where
 at_ : PySem.W.findIn K (.ref C) m = some (some (.ref f))
 fn : PySem.W.isFn K (.ref f) = true
 kp : PySem.W.keepIn K (.ref f) = true
section
variable {X : Cx} {pins : List (Addr × Obj)} {σ : St} {H : Hp} {s : Shared} {a C dx : Addr} {fs : List (Str × V)} {f : Str} {v : V} {A : Around} {E : Value → Shared → Prop}
theorem P_ {b : Bool} {Q : Value → Shared → Prop} (I : Inv X pins σ H s) (e : H a = some (.ins C dx fs)) (c : Cls X.K C) (n : BJ X.K C f) (l : fs.lookup f = some v)
  (h : ∀ u s', Inv X pins σ H s' → RelV v u → Q u s') : wpAny (model X.prog X.w) A (getAttr (.ref a) f b) Q E s := by
 obtain ⟨mA, O, r, _, _, _⟩ := Mm I.hok e
 obtain ⟨u, hu, ru⟩ := RelO.some_of (v := v) (o := mA f) (by rw [← l]; exact r f)
 exact Xu I.kIn O (c.get f) c.hd n hu (Lf ru) (h u _ (I.tok _) ru)
theorem J_ {m : Str} {g : Addr} {pl : Sem Bool} {Q : Value × List Value → Shared → Prop} (I : Inv X pins σ H s) (e : H a = some (.ins C dx fs)) (c : Cls X.K C) (k : Meth X.K C m g) (l : fs.lookup m = none)
  (h : Q (.ref g, [.ref a]) s) : wpAny (model X.prog X.w) A (getMethod (.ref a) m pl) Q E s := by
 obtain ⟨mA, O, r, _, _, _⟩ := Mm I.hok e
 have hn : mA m = none := RelO.none_of (by rw [← l]; exact r m)
 exact Uc I.kIn O (c.get m) k.at_ k.fn hn h
theorem QB {y : V} {u : Value} {Q : Unit → Shared → Prop} (I : Inv X pins σ H s) (e : H a = some (.ins C dx fs)) (c : Cls X.K C) (n : BJ X.K C f) (hl : fs.length < 1000) (ry : RelV y u)
  (h : ∀ s', Inv X pins σ (upd H a (.ins C dx (putF f y fs))) s' → Q () s') : wpAny (model X.prog X.w) A (setAttr (.ref a) f u) Q E s := by
 obtain ⟨mA, O, r, wi, _, ho⟩ := Mm I.hok e
 have hz : (fs.map (·.1)).length ≤ sizeLine := by rw [List.length_map, sizeLine_eq]; omega
 refine Xv I.kIn O c.sa c.po n.taker c.hd wi hz fun h' O' sb => h _ ?_
 have hd : ∃ o, h'.get? dx = some o := let ⟨o, _, _, e', _⟩ := O'.ns; ⟨o, e'⟩
 refine I.write (x := a) (e := dx) (by rw [e]; exact True.intro) (.inr ho) (fun b q hb z => (sb.2 b hb).trans z) hd ?_
 refine ⟨by rw [Af O.ne]; exact ho, ?_, O.ne, O'.obj, _, O'.ns, fun g => ?_, fun g hg => ?_⟩
 ·have := JZ f y fs; omega
 ·show RelO ((putF f y fs).lookup g) (if g = f then some u else mA g)
  rw [JX]
  by_cases q : g = f
  ·rw [if_pos q, if_pos q]; exact ry
  ·rw [if_neg q, if_neg q]; exact r g
 ·by_cases q : g = f
  ·rw [q]; exact (Iv f y fs).1
  ·refine (Iv f y fs).2 g (wi g fun z => hg ?_)
   show (if g = f then some u else mA g) = none
   rw [if_neg q]; exact z
theorem Inv.made (I : Inv X pins σ H s) : Inv X pins σ (upd (upd H s.heap.objs.size (.own (s.heap.objs.size + 1))) (s.heap.objs.size + 1) (.ins C s.heap.objs.size []))
  { s with heap := (s.heap.push PySem.W.emptyDict).push (PySem.W.instObj C s.heap.objs.size) } := by
 have e1 : (s.heap.push PySem.W.emptyDict).get? s.heap.objs.size = some PySem.W.emptyDict := Heap.get?_push_size s.heap rfl
 have e2 : ((s.heap.push PySem.W.emptyDict).push (PySem.W.instObj C s.heap.objs.size)).get? (s.heap.objs.size + 1) = some (PySem.W.instObj C s.heap.objs.size) := by
  have := Heap.get?_push_size (s.heap.push PySem.W.emptyDict) (o := PySem.W.instObj C s.heap.objs.size) rfl
  rwa [Heap.size_push] at this
 have e3 : (s.heap.push PySem.W.emptyDict).Ns s.heap.objs.size (fun _ => none) := ⟨PySem.W.emptyDict, #[], _, e1, rfl, (fun e he => absurd he (by simp)), fun _ => rfl⟩
 have I1 := I.laid (a := s.heap.objs.size) (o := .own (s.heap.objs.size + 1)) (h' := s.heap.push PySem.W.emptyDict) (t' := s.toks) (fun b u q => Heap.get?_push_of_some _ q) (Nat.le_refl _) ⟨_, e1⟩
 refine I1.laid (a := s.heap.objs.size + 1) (o := .ins C s.heap.objs.size []) (t' := s.toks) (fun b u q => Heap.get?_push_of_some _ q) (Nat.le_of_eq (Heap.size_push _ _)) ?_
 have ne : s.heap.objs.size ≠ s.heap.objs.size + 1 := Nat.ne_of_lt (Nat.lt_succ_self _)
 refine ⟨by rw [Af ne, Ah], Nat.zero_le _, ne, e2, fun _ => none, (Heap.Ns1.of_empty e3).at fun o q => Heap.get?_push_of_some _ q, fun _ => True.intro, fun y hy => absurd rfl hy⟩
theorem Qm {prog : Program} {w : World} {env : Env} {e : Expr} {f : Str} {pos : Pos} {s : Shared} {Q : Value → Shared → Prop} (hb : attributeBase e f env (eval e env) = eval e env)
  (h : wpAny (model prog w) A (eval e env) (fun o s₁ => wpAny (model prog w) A (getAttr o f true) Q E s₁) E s) : wpAny (model prog w) A (eval (.Attribute e f pos) env) Q E s :=
 Attribute_any_ h (by rw [arm_eval_Attribute, hb])
end
def tFld (K : PySem.W.Frag) (ta : TE) (f : Str) : TE := fun σ H Q => ta σ H fun x H1 => ∃ a C dx fs v, x = .ref a ∧ H1 a = some (.ins C dx fs) ∧ Cls K C ∧ BJ K C f ∧ fs.lookup f = some v ∧ Q v H1
def sFld (K : PySem.W.Frag) (ta tv : TE) (f : Str) : TS := fun D σ H => tv σ H fun y H1 => ta σ H1 fun x H2 => ∃ a C dx fs, x = .ref a ∧ H2 a = some (.ins C dx fs) ∧ Cls K C ∧ BJ K C f ∧ fs.length < 1000 ∧
 D.nx σ (upd H2 a (.ins C dx (putF f y fs)))
section
variable {X : Cx} {o e value : Expr} {f : Str} {pos pos' tpos : Pos} {ta tv : TE}
theorem QC (he : PE X e ta) (hb : attributeBase e f X.env (eval e X.env) = eval e X.env) : PE X (.Attribute e f pos) (tFld X.K ta f) := by
 intro pins s σ H Q I h
 refine Qm hb (thn (he pins s σ H _ I h) fun u s1 ⟨x, H1, I1, rx, a, C, dx, fs, v, ex, ea, c, n, l, q⟩ => ?_)
 subst ex
 obtain rfl : u = Value.ref a := rx
 exact P_ I1 ea c n l fun u' s2 I2 ru => ⟨v, H1, I2, ru, q⟩
theorem Ue (ha : PE X o ta) (hv : PE X value tv) (hs : swapsWith value (some (.Attribute o f pos')) pos.line X.env = pure false) : PS X (.Assign [.Attribute o f pos'] value pos) (sFld X.K ta tv f) := by
 intro pins s σ H D I h
 refine plainObj_wpAny_Assign_Attribute (thn (hv pins s σ H _ I h) fun u s1 ⟨y, H1, I1, ry, q⟩ => thn (ha pins s1 σ H1 _ I1 q) fun ov s2 ⟨x, H2, I2, rx, a, C, dx, fs, ex, ea, c, n, l, q2⟩ => ?_) hs
 subst ex
 obtain rfl : ov = Value.ref a := rx
 exact QB I2 ea c n l ry fun s3 I3 => ⟨σ, _, I3, q2⟩
def rAdd : V → V → Hp → VK → Prop := fun x y H Q => ∃ i j, x = .int i ∧ y = .int j ∧ Q (.int (i + j)) H
end
section
variable {X : Cx} {pins : List (Addr × Obj)} {σ : St} {H : Hp} {s : Shared} {A : Around} {E : Value → Shared → Prop} {Q : Value → Shared → Prop} {c : Value} {b : Bool}
end
end L2
namespace L2
open PySem PySem.Spec PyProof.Rows
structure Room (k : Nat) (A : Around) : Prop where
 hd : A.handled = none
 dp : A.depth + 3 * k + 5 < recursionLimit
 un : A.units + 16 * k + 200 < cLine
theorem Room.mono {j k : Nat} {A : Around} (r : Room k A) (h : j ≤ k) : Room j A := ⟨r.hd, by have := r.dp; omega, by have := r.un; omega⟩
theorem Room.deeper {k : Nat} {A : Around} (r : Room (k + 1) A) (env : Env) : Room k (A.deeper env) :=
 ⟨r.hd, by have := r.dp; show A.depth + 1 + 3 * k + 5 < _; omega, by have := r.un; show A.units + 3 + 16 * k + 200 < _; omega⟩
theorem Room.in1 {k : Nat} {A : Around} (r : Room (k + 1) A) : Room k A.in1 :=
 ⟨r.hd, by have := r.dp; show A.depth + 3 * k + 5 < _; omega, by have := r.un; show A.units + 1 + 16 * k + 200 < _; omega⟩
theorem QD {A : Around} {C : Addr} {us : List Value} {kw : List (Str × Value)} : (A.under (.builtin "type.__call__" ⟨.ref C :: us, kw⟩)).depth = A.depth + 1 := by
 first | rfl | simp [Around.under, Code.weight, Code.isCreation, Code.isGuard, Code.isCaller, Code.frames, Code.isFrame, guardIds]
theorem QF {A : Around} {C : Addr} {us : List Value} {kw : List (Str × Value)} : (A.under (.builtin "type.__call__" ⟨.ref C :: us, kw⟩)).units = A.units + 1 := by
 first | rfl | simp [Around.under, Code.cUnits, Code.frames, Code.isFrame]
theorem Room.make {k : Nat} {A : Around} (r : Room (k + 1) A) (C : Addr) (us : List Value) (kw : List (Str × Value)) : Room k (A.under (.builtin "type.__call__" ⟨.ref C :: us, kw⟩)) :=
 ⟨r.hd, by have := r.dp; rw [QD]; omega, by have := r.un; rw [QF]; omega⟩
theorem Room.depth {k : Nat} {A : Around} (r : Room k A) : A.depth < recursionLimit := by have := r.dp; omega
theorem Room.units {k : Nat} {A : Around} (r : Room k A) : A.units + 64 < cLine := by have := r.un; omega
def tNil : TA := fun _ H Q => Q [] H
def Qn (ta : TE) (tr : TA) : TA := fun σ H Q => ta σ H fun x H1 => tr σ H1 fun xs H2 => Q (x :: xs) H2
section
variable {X : Cx} {e : Expr} {es : List Expr} {te : TE} {t : TA} {pos : Pos}
theorem Ex : PA X [] tNil := fun _ _ _ _ H Q I h => Calls.spliced_nil ⟨[], H, I, .nil, h⟩
theorem CV (ha : PE X e te) (hr : PA X es t) (hs : starEach (e :: es) X.env = (false, eval e X.env) :: starEach es X.env := by rfl) : PA X (e :: es) (Qn te t) := by
 intro pos pins s σ H Q I h
 rw [hs]
 show wpAny _ _ (spliced ((false, eval e X.env) :: backTo pos (starEach es X.env))) _ _ s
 refine Calls.spliced_cons (thn (ha pins s σ H _ I h) fun u s1 ⟨x, H1, I1, r1, q1⟩ => ?_)
 exact thn (hr pos pins s1 σ H1 _ I1 q1) fun us s2 ⟨xs, H2, I2, r2, q2⟩ => ⟨x :: xs, H2, I2, .cons r1 r2, q2⟩
def tTup (t : TA) : TE := fun σ H Q => t σ H fun xs H1 => xs.length ≤ sizeLine ∧ ∀ p, H1 p = none → Q (.ref p) (upd H1 p (.tup xs))
def tLst (t : TA) : TE := fun σ H Q => t σ H fun xs H1 => xs.length ≤ sizeLine ∧ ∀ p, H1 p = none → Q (.ref p) (upd H1 p (.lst xs))
theorem Mp {x1} (h : PA X es t) : PE X (.Tuple es x1 pos) (tTup t) := by
 intro pins s σ H Q I hq
 refine wpAny_Tuple_spliced (thn (h pos pins s σ H _ I hq) fun us s1 ⟨xs, H1, I1, r, z, q⟩ => ⟨by rw [← r.length]; exact z, ?_⟩)
 have hf : H1 s1.heap.objs.size = none := I1.hok.fresh (Nat.le_refl _)
 refine ⟨.ref s1.heap.objs.size, upd H1 s1.heap.objs.size (.tup xs), I1.laid (t' := s1.toks) (fun b u e => Heap.get?_push_of_some _ e) (Nat.le_refl _) ?_, rfl, q _ hf⟩
 exact ⟨z, us, r, ⟨_, Heap.get?_push_size _ rfl, rfl, _, rfl⟩⟩
theorem Ug (h : PA X es t) : PE X (.List es pos) (tLst t) := by
 intro pins s σ H Q I hq
 refine wpAny_List_spliced (thn (h pos pins s σ H _ I hq) fun us s1 ⟨xs, H1, I1, r, z, q⟩ => ⟨by rw [← r.length]; exact z, ?_⟩)
 have hf : H1 s1.heap.objs.size = none := I1.hok.fresh (Nat.le_refl _)
 refine ⟨.ref s1.heap.objs.size, upd H1 s1.heap.objs.size (.lst xs), I1.laid (t' := s1.toks) (fun b u e => Heap.get?_push_of_some _ e) (Nat.le_refl _) ?_, rfl, q _ hf⟩
 exact ⟨z, us, 0, r, Heap.get?_push_size _ rfl⟩
end
abbrev Sp := List V → Hp → VK → XK → Prop
abbrev CXT := List Env → Hp → Shared → XK → Value → Shared → Prop
structure Env0 (P : Program) (w : World) (K : PySem.W.Frag) (mg : Str → Option Value) (base : Heap) (A : Around) (outer : List Env) (s : Shared) (H : Hp) : Prop where
 frames : A.frames = some outer
 mod : Mod K mg base
 bs : ∀ b o, base.get? b = some o → s.heap.get? b = some o ∧ H b = none
 bsz : base.objs.size ≤ s.heap.objs.size
 funs : s.heap.FunFrames base outer
 frf : ∀ b ∈ frs outer, H b = none
 hok : HOk P w H s.heap
 bare : AllBare s.gens
def CE (outer : List Env) (P : Program) (w : World) (H : Hp) (s : Shared) (Q : VK) (u : Value) (s' : Shared) : Prop :=
 ∃ v H', s'.os = s.os ∧ AllBare s'.gens ∧ Un (frs outer) [] H H' s.heap s'.heap ∧ HOk P w H' s'.heap ∧ RelV v u ∧ Q v H'
def CR (CX : CXT) (outer : List Env) (P : Program) (w : World) (H : Hp) (s : Shared) (Q : VK) (E : XK) (r : Result) (s' : Shared) : Prop :=
 match r with
 | .ok (.ret u) => CE outer P w H s Q u s'
 | .ok _ => False
 | .error e => CX outer H s E e s'
structure FnOk (P : Program) (w : World) (K : PySem.W.Frag) (mg : Str → Option Value) (base : Heap) (CX : CXT) (k : Nat) (f : Addr) (fd : FuncData) (ps : List Str) (sp : Sp) : Prop where
 len : ∀ vs H Q E, sp vs H Q E → vs.length = ps.length
 run : ∀ (A : Around) (outer : List Env) (s : Shared) (H : Hp) (args : Args) (us : List Value) (vs : List V) (Q : VK) (E : XK), Room k A → Env0 P w K mg base A outer s H → BindsTo s fd args (ps.zip us) → Vals vs us → sp vs H Q E →
  codeAny (model P w) A (.call (.ref f) args) (CR CX outer P w H s Q E) s
theorem FnOk.mono {P : Program} {w : World} {K : PySem.W.Frag} {mg : Str → Option Value} {base : Heap} {CX : CXT} {j k : Nat} {f : Addr} {fd : FuncData} {ps : List Str} {sp : Sp} (F : FnOk P w K mg base CX j f fd ps sp) (h : j ≤ k) :
  FnOk P w K mg base CX k f fd ps sp := ⟨F.len, fun A outer s H args us vs Q E hr => F.run A outer s H args us vs Q E (hr.mono h)⟩
theorem FnOk.imp {P : Program} {w : World} {K : PySem.W.Frag} {mg : Str → Option Value} {base : Heap} {CX : CXT} {k : Nat} {f : Addr} {fd : FuncData} {ps : List Str} {sp sp' : Sp} (F : FnOk P w K mg base CX k f fd ps sp)
  (h : ∀ vs H Q E, sp' vs H Q E → sp vs H Q E) : FnOk P w K mg base CX k f fd ps sp' :=
 ⟨fun vs H Q E q => F.len vs H Q E (h _ _ _ _ q), fun A outer s H args us vs Q E hr he hb hv hs => F.run A outer s H args us vs Q E hr he hb hv (h _ _ _ _ hs)⟩
theorem Env0.make {P : Program} {w : World} {K : PySem.W.Frag} {mg : Str → Option Value} {base : Heap} {A : Around} {outer : List Env} {s : Shared} {H : Hp} (e : Env0 P w K mg base A outer s H) (C : Addr) (us : List Value) (kw : List (Str × Value)) :
  Env0 P w K mg base (A.under (.builtin "type.__call__" ⟨.ref C :: us, kw⟩)) outer s H := ⟨by first | exact e.frames | (simpa [Around.under, Code.envs, Code.isFrame, pushEnvs] using e.frames), e.mod, e.bs, e.bsz, e.funs, e.frf, e.hok, e.bare⟩
theorem Env0.in1 {P : Program} {w : World} {K : PySem.W.Frag} {mg : Str → Option Value} {base : Heap} {A : Around} {outer : List Env} {s : Shared} {H : Hp} (e : Env0 P w K mg base A outer s H) :
  Env0 P w K mg base A.in1 outer s H := ⟨e.frames, e.mod, e.bs, e.bsz, e.funs, e.frf, e.hok, e.bare⟩
section
variable {X : Cx} {pins : List (Addr × Obj)} {σ : St} {H : Hp} {s s' : Shared}
theorem Inv.env0 (I : Inv X pins σ H s) : Env0 X.prog X.w X.K X.mg X.base X.A X.stack s H :=
 ⟨I.ok.frames, I.ok.mod, I.bs, Nat.le_trans I.ok.bsz I.sz, I.stack, I.stkFree, I.hok, I.bare⟩
theorem Inv.after {Q : VK} {u : Value} (I : Inv X pins σ H s) (h : CE X.stack X.prog X.w H s Q u s') : EP X pins σ Q u s' := by
 obtain ⟨v, H', os, bare, un, hok, r, q⟩ := h
 obtain ⟨hh, g, d, t, os'⟩ := s'
 obtain rfl : os' = s.os := os
 exact ⟨v, H', I.call (h' := hh) (g' := g) (d' := d) (t' := t) (ch := []) un hok bare (fun b z => absurd z (by simp)), r, q⟩
end
def dX (sp : Sp) (dvs : List V) (E : XK) (t : TA) : TE := fun σ H Q => t σ H fun vs H1 => sp (vs ++ dvs) H1 Q E
def dY (C : Addr) (m : Str) (sp : Sp) (dvs : List V) (E : XK) (ta : TE) (t : TA) : TE := fun σ H Q => ta σ H fun x H1 => ∃ a dx fs, x = .ref a ∧ H1 a = some (.ins C dx fs) ∧ fs.lookup m = none ∧
 t σ H1 fun vs H2 => sp (x :: (vs ++ dvs)) H2 Q E
def dZ (C : Addr) (sp : Sp) (dvs : List V) (E : XK) (t : TA) : TE := fun σ H Q => t σ H fun vs H1 => ∀ x dx, H1 x = none → H1 dx = none → dx ≠ x →
 sp (.ref x :: (vs ++ dvs)) (upd (upd H1 dx (.own x)) x (.ins C dx [])) (fun v H2 => v = .non ∧ Q (.ref x) H2) E
def Binds (K : PySem.W.Frag) (fd : FuncData) (ps : List Str) (ds : List Value) : Prop :=
 ∀ (s : Shared) (us : List Value), K.In s.heap → (us ++ ds).length = ps.length → BindsTo s fd ⟨us, []⟩ (ps.zip (us ++ ds))
theorem Binds.all {K : PySem.W.Frag} {fd : FuncData} {ps : List Str} (h : ∀ us : List Value, us.length = ps.length → bindArgs fd ⟨us, []⟩ = pure (ps.zip us)) : Binds K fd ps [] := fun s us _ hl => by
 rw [List.append_nil] at hl ⊢
 exact .of_eq (h us hl)
def Iw (CX : CXT) (X : Cx) (E : XK) : Prop := ∀ (pins : List (Addr × Obj)) (σ : St) (H : Hp) (s : Shared) (e : Value) (s' : Shared), Inv X pins σ H s → CX X.stack H s E e s' → X.xe e s'
section
variable {X : Cx} {CX : CXT} {k : Nat} {f C : Addr} {fd : FuncData} {ps : List Str} {sp : Sp} {dvs : List V} {ds : List Value} {E : XK} {x m : Str} {p pos apos : Pos} {e o : Expr} {es : List Expr} {ta : TE} {t : TA}
theorem Uh {pins : List (Addr × Obj)} {σ : St} {H : Hp} {s : Shared} {Q : VK} {us : List Value} {vs : List V} (F : FnOk X.prog X.w X.K X.mg X.base CX k f fd ps sp) (hr : Room k X.A) (hb : Binds X.K fd ps ds) (hd : Vals dvs ds) (hx : Iw CX X E)
  (I : Inv X pins σ H s) (r : Vals vs us) (h : sp (vs ++ dvs) H Q E) : wpAny (model X.prog X.w) X.A (call (.ref f) us) (EP X pins σ Q) X.xe s := by
 have r2 : Vals (vs ++ dvs) (us ++ ds) := r.append hd
 have hl : (us ++ ds).length = ps.length := by rw [← r2.length]; exact F.len _ _ _ _ h
 refine wpAny_call (codeAny_mono (F.run X.A X.stack s H ⟨us, []⟩ (us ++ ds) (vs ++ dvs) Q E hr I.env0 (hb s us I.kIn hl) r2 h) fun r s' hq => ?_)
 cases r with
 | error e => exact hx pins σ H s e s' I hq
 | ok fl =>
  cases fl with
  | ret u => exact I.after hq
  | next => exact False.elim hq
  | brk => exact False.elim hq
  | cont => exact False.elim hq
theorem Xw (F : FnOk X.prog X.w X.K X.mg X.base CX k f fd ps sp) (hr : Room k X.A) (hg : Gl X x) (hm : X.mg x = some (.ref f)) (hk : PySem.W.keepIn X.K (.ref f) = true) (hb : Binds X.K fd ps ds) (hd : Vals dvs ds) (hx : Iw CX X E)
  (ha : PA X (e :: es) t) (hdb : (x == ("__debug__" : Str)) = false := by decide) (he : starEach (e :: es) X.env = (false, eval e X.env) :: starEach es X.env := by rfl) (hpl : (backTo pos (starEach es X.env)).any (·.1) = false := by rfl) :
  PE X (.Call (.Name x p) (e :: es) [] pos) (dX sp dvs E t) := by
 intro pins s σ H Q I h
 refine wpAny_Call_Name_kw (Fl I hg hm ?_ hdb)
 refine PySem.W.callWith_K (h₀ := X.base) I.ok.mod.kin hk (thn (ha pos pins s σ H _ I h) fun us s1 ⟨vs, H1, I1, r, q⟩ => ⟨I1.kIn, ?_⟩) he hpl
 exact Uh F hr hb hd hx I1 r q
theorem Ui {pl : Sem Bool} (he : PE X o ta) (c : Cls X.K C) (hm : Meth X.K C m f) (F : FnOk X.prog X.w X.K X.mg X.base CX k f fd ps sp) (hr : Room k X.A) (hb : Binds X.K fd ps ds) (hd : Vals dvs ds) (hx : Iw CX X E)
  (ht : eval (.Call (.Attribute o m apos) [] [] pos) X.env = (do
   let ov ← eval o X.env
   standAt apos.atName
   let (f, first) ← holding [ov] (getMethod ov m pl)
   callWith pos f first (backTo pos (starEach [] X.env)) (backToKw pos (keywordEach [] X.env))) := by rfl) :
  PE X (.Call (.Attribute o m apos) [] [] pos) (dY C m sp dvs E ta tNil) := by
 intro pins s σ H Q I h
 refine PySem.W.methodCall_KW (pl := pl) (thn (he pins s σ H _ I h) fun u s1 ⟨x, H1, I1, rx, a, dx, fs, ex, ea, l, q⟩ => ?_) ht
 subst ex
 obtain rfl : u = Value.ref a := rx
 refine J_ I1 ea c hm l ?_
 exact PySem.W.callWith_K0 (first := [.ref a]) I1.kIn hm.kp (Uh (us := [.ref a]) (vs := [.ref a]) F hr hb hd hx I1 (.cons rfl .nil) q)
structure Mk (K : PySem.W.Frag) (C f : Addr) : Prop where
 makes : PySem.W.makesIn K C = true
 init : PySem.W.findIn K (.ref C) "__init__" = some (some (.ref f))
 fn : PySem.W.isFn K (.ref f) = true
 kp : PySem.W.keepIn K (.ref C) = true
theorem Uj {pins : List (Addr × Obj)} {σ : St} {H : Hp} {s : Shared} {Q : VK} {us : List Value} {vs : List V} (M : Mk X.K C f) (F : FnOk X.prog X.w X.K X.mg X.base CX k f fd ps sp) (hr : Room (k + 1) X.A) (hb : Binds X.K fd ps ds) (hd : Vals dvs ds)
  (hx : Iw CX X E) (I : Inv X pins σ H s) (r : Vals vs us)
  (h : ∀ x dx, H x = none → H dx = none → dx ≠ x → sp (.ref x :: (vs ++ dvs)) (upd (upd H dx (.own x)) x (.ins C dx [])) (fun v H2 => v = .non ∧ Q (.ref x) H2) E) :
  wpAny (model X.prog X.w) X.A (call (.ref C) us) (EP X pins σ Q) X.xe s := by
 have hq := h (s.heap.objs.size + 1) s.heap.objs.size (I.hok.fresh (Nat.le_succ _)) (I.hok.fresh (Nat.le_refl _)) (Nat.ne_of_lt (Nat.lt_succ_self _))
 have I2 := Inv.made (C := C) I
 have r2 : Vals (V.ref (s.heap.objs.size + 1) :: (vs ++ dvs)) (Value.ref (s.heap.objs.size + 1) :: (us ++ ds)) := .cons rfl (r.append hd)
 have hl : (Value.ref (s.heap.objs.size + 1) :: us ++ ds).length = ps.length := by
  have e := r2.length
  rw [F.len _ _ _ _ hq] at e
  exact e.symm
 refine wpAny_call (Ud (f := f) I.kIn M.makes M.init (beq_iff_eq.mp M.fn) (codeAny_mono (F.run _ X.stack _ _ ⟨Value.ref (s.heap.objs.size + 1) :: us, []⟩ (Value.ref (s.heap.objs.size + 1) :: (us ++ ds)) _ _ E (hr.make C us [])
  (I2.env0.make C us []) (hb _ (Value.ref (s.heap.objs.size + 1) :: us) I2.kIn hl) r2 hq) fun r s' hq' => ?_))
 cases r with
 | error e => exact hx pins σ _ _ e s' I2 hq'
 | ok fl =>
  cases fl with
  | ret u =>
   obtain ⟨v, H', I3, rv, ev, q3⟩ := I2.after hq'
   subst ev
   exact ⟨rv, ⟨V.ref (s.heap.objs.size + 1), H', I3, rfl, q3⟩⟩
  | next => exact False.elim hq'
  | brk => exact False.elim hq'
  | cont => exact False.elim hq'
theorem Xy (M : Mk X.K C f) (F : FnOk X.prog X.w X.K X.mg X.base CX k f fd ps sp) (hr : Room (k + 1) X.A) (hg : Gl X x) (hm : X.mg x = some (.ref C)) (hb : Binds X.K fd ps ds) (hd : Vals dvs ds) (hx : Iw CX X E)
  (ha : PA X (e :: es) t) (hdb : (x == ("__debug__" : Str)) = false := by decide) (he : starEach (e :: es) X.env = (false, eval e X.env) :: starEach es X.env := by rfl) (hpl : (backTo pos (starEach es X.env)).any (·.1) = false := by rfl) :
  PE X (.Call (.Name x p) (e :: es) [] pos) (dZ C sp dvs E t) := by
 intro pins s σ H Q I h
 refine wpAny_Call_Name_kw (Fl I hg hm ?_ hdb)
 refine PySem.W.callWith_K (h₀ := X.base) I.ok.mod.kin M.kp (thn (ha pos pins s σ H _ I h) fun us s1 ⟨vs, H1, I1, r, q⟩ => ⟨I1.kIn, ?_⟩) he hpl
 exact Uj M F hr hb hd hx I1 r q
end
section
variable {X : Cx} {CX : CXT} {k : Nat} {f C : Addr} {fd : FuncData} {ps ks : List Str} {sp : Sp} {E : XK} {x m : Str} {p pos apos kpos : Pos} {e o : Expr} {es : List Expr} {kws : List Keyword} {te ta : TE} {t tk : TA} {nm : Option Str}
variable {g : List Value → List Value → List Value} {gV : List V → List V → List V}
end
structure FnScope (N P : List Str) (sc : Scope) : Prop where
 kind : sc.kind = .function
 co : sc.isCoroutine = false
 gen : sc.isGenerator = false
 nd : N.Nodup
 pre : N.take P.length = P
 par : ∀ x ∈ P, sc.names.lookup x = some .local ∨ sc.names.lookup x = some .cell
 nofree : ∀ y ∈ sc.names, y.2 ≠ .free
theorem Lg {kindOf : Str → Option NameKind} {x : Str} : ∀ {binds : List (Str × Value)} {m : Str → Option Value}, (∀ v, (x, v) ∉ binds) → bindL kindOf binds m x = m x
 | [], _, _ => rfl
 | (n, v) :: r, m, h => by
  unfold bindL
  rw [Lg fun w hw => h w (List.mem_cons_of_mem _ hw)]
  split
  ·have : x ≠ n := by rintro rfl; exact h v List.mem_cons_self
   simp [this]
  ·rfl
theorem Lh {kindOf : Str → Option NameKind} {x : Str} : ∀ {binds : List (Str × Value)} {m : Str → Option Value}, (∀ v, (x, v) ∉ binds) → bindC kindOf binds m x = m x
 | [], _, _ => rfl
 | (n, v) :: r, m, h => by
  unfold bindC
  rw [Lh fun w hw => h w (List.mem_cons_of_mem _ hw)]
  split
  ·rfl
  ·have : x ≠ n := by rintro rfl; exact h v List.mem_cons_self
   simp [this]
theorem Li {kindOf : Str → Option NameKind} {x : Str} {v : Value} : ∀ {P : List Str} {vs : List Value} {i : Nat} {m : Str → Option Value}, P.Nodup → P[i]? = some x → vs[i]? = some v → kindOf x = some .local →
  bindL kindOf (P.zip vs) m x = some v
 | [], _, _, _, _, h, _, _ => by simp at h
 | _ :: _, [], _, _, _, _, h, _ => by simp at h
 | p :: P, w :: vs, 0, m, nd, h1, h2, hk => by
  simp at h1 h2; subst h1; subst h2
  show bindL kindOf ((p, w) :: P.zip vs) m p = _
  unfold bindL
  rw [Lg fun v hv => (List.nodup_cons.mp nd).1 (List.of_mem_zip hv).1, if_pos hk]
  simp
 | p :: P, w :: vs, i + 1, m, nd, h1, h2, hk => by
  show bindL kindOf ((p, w) :: P.zip vs) m x = _
  unfold bindL
  exact Li (i := i) (List.nodup_cons.mp nd).2 (by simpa using h1) (by simpa using h2) hk
theorem Lj {kindOf : Str → Option NameKind} {x : Str} {v : Value} : ∀ {P : List Str} {vs : List Value} {i : Nat} {m : Str → Option Value}, P.Nodup → P[i]? = some x → vs[i]? = some v → kindOf x ≠ some .local →
  bindC kindOf (P.zip vs) m x = some v
 | [], _, _, _, _, h, _, _ => by simp at h
 | _ :: _, [], _, _, _, _, h, _ => by simp at h
 | p :: P, w :: vs, 0, m, nd, h1, h2, hk => by
  simp at h1 h2; subst h1; subst h2
  show bindC kindOf ((p, w) :: P.zip vs) m p = _
  unfold bindC
  rw [Lh fun v hv => (List.nodup_cons.mp nd).1 (List.of_mem_zip hv).1, if_neg hk]
  simp
 | p :: P, w :: vs, i + 1, m, nd, h1, h2, hk => by
  show bindC kindOf ((p, w) :: P.zip vs) m x = _
  unfold bindC
  exact Lj (i := i) (List.nodup_cons.mp nd).2 (by simpa using h1) (by simpa using h2) hk
def start (N : List Str) (vs : List V) : St := vs.map some ++ List.replicate (N.length - vs.length) none
def cxOf (CX : CXT) (P : Program) (w : World) (K : PySem.W.Frag) (mg : Str → Option Value) (base : Heap) (N : List Str) (qual : Str) (scope : Scope) (f : Addr) (cd : Value) (A : Around) (outer : List Env) (s : Shared) (H : Hp) (E : XK) : Cx where
 prog := P
 w := w
 K := K
 mg := mg
 base := base
 A := A.deeper (envOfC qual scope s.heap.objs.size f cd)
 N := N
 s₀ := s
 H₀ := H
 env := envOfC qual scope s.heap.objs.size f cd
 outer := outer
 stack := envOfC qual scope s.heap.objs.size f cd :: outer
 ex := []
 calm := true
 fn := fun _ => true
 pn := []
 xe := fun e s' => wpAny (model P w) (A.deeper (envOfC qual scope s.heap.objs.size f cd)) (leaving (envOfC qual scope s.heap.objs.size f cd) e) (fun _ s'' => CX outer H s E e s'') (fun e' s'' => CX outer H s E e' s'') s'
theorem OD {sc : Scope} {n : Nat} {x : Str} (h : sc.names.lookup x = some .cell) : ∃ c, (cellsFrom n sc.names []).lookup x = some c := by
 have q := PySem.W.cellsFrom_some sc.names n [] (.inl h)
 exact Option.isSome_iff_exists.mp q
theorem TF {CX : CXT} {P : Program} {w : World} {K : PySem.W.Frag} {mg : Str → Option Value} {base : Heap} {N ps : List Str} {qual : Str} {scope : Scope} {f : Addr} {cd : Value} {A : Around} {outer : List Env} {s s1 : Shared} {H : Hp} {E : XK} {us : List Value} {vs : List V}
  (S : FnScope N ps scope) (hd : A.handled = none) (e0 : Env0 P w K mg base A outer s H) (hl : vs.length = ps.length) (r : Vals vs us)
  (x : InCallC s s.heap.objs.size (bindL (envOfC qual scope s.heap.objs.size f cd).kindOf (ps.zip us) fun _ => none) (cellsFrom (s.heap.objs.size + 1) scope.names []) (bindC (envOfC qual scope s.heap.objs.size f cd).kindOf (ps.zip us) fun _ => none) s1) :
  Inv (cxOf CX P w K mg base N qual scope f cd A outer s H E) [] (start N vs) H s1 := by
 have hpl : ps.length ≤ N.length := by have := congrArg List.length S.pre; rw [List.length_take] at this; omega
 obtain ⟨h1, tk, rfl, hk⟩ := x.done
 have noA : ∀ b : Addr, b ∉ (cxOf CX P w K mg base N qual scope f cd A outer s H E).ex := fun b z => absurd (show b ∈ ([] : List Addr) from z) (by simp)
 refine ⟨⟨e0.mod, S.kind, rfl, rfl, Nat.le_refl _, fun y z c h1 h2 => ?_, fun y hy => ?_, fun y c _ h => ?_, fun _ => hd, Around.frames_deeper e0.frames, .inr ⟨rfl, rfl⟩, fun b z => absurd z (noA b), e0.bs, e0.bsz, fun b _ _ => noA b, fun b z => absurd z (noA b), e0.funs, e0.frf⟩,
  rfl, e0.bare, Un.kept hk, ⟨_, x.toInCall.ns, fun i y v h1 h2 h3 => ?_⟩, fun y c h => ⟨_, x.cell y c h⟩, e0.hok.fresh (Nat.le_refl _), fun y c h => ?_, fun p hp => absurd (show p ∈ ([] : List (Addr × Obj)) from hp) (by simp), e0.hok.kept hk, ?_⟩
 ·exact name_of_addr x.apart (PySem.mem_of_lookup h1) (PySem.mem_of_lookup h2)
 ·have hy : scope.names.lookup y = some .cell ∨ scope.names.lookup y = some .free := hy
  rcases hy with hy | hy
  ·exact OD hy
  ·exact absurd rfl (S.nofree _ (PySem.mem_of_lookup hy))
 ·exact Nat.le_of_lt (x.above y c (PySem.mem_of_lookup h))
 ·have hi : i < vs.length := by
   unfold start at h2
   by_cases hi : i < vs.length
   ·exact hi
   ·rw [List.getElem?_append_right (by simpa using hi)] at h2
    rw [List.getElem?_replicate] at h2
    split at h2 <;> cases h2
  have ha : vs[i]? = some v := by
   unfold start at h2
   rw [List.getElem?_append_left (by simpa using hi), List.getElem?_map] at h2
   cases e : vs[i]? with
   | none => rw [e] at h2; cases h2
   | some a => rw [e] at h2; cases h2; rfl
  obtain ⟨u, hu, rv⟩ := r.get ha
  have hp : ps[i]? = some y := by
   rw [← S.pre, List.getElem?_take_of_lt (by omega)]; exact h1
  have ndP : ps.Nodup := by rw [← S.pre]; exact S.nd.sublist (List.take_sublist _ _)
  refine ⟨u, rv, ?_⟩
  rcases S.par y (List.mem_of_getElem? hp) with k | k
  ·exact .inl ⟨k, Li ndP hp hu k⟩
  ·obtain ⟨c, e⟩ := OD (n := s.heap.objs.size + 1) k
   refine .inr ⟨.inl k, c, e, ?_⟩
   have q := x.cell y c e
   rw [Lj ndP hp hu (by show scope.names.lookup y ≠ _; rw [k]; decide)] at q
   exact q
 ·exact e0.hok.fresh (Nat.le_of_lt (x.above y c (PySem.mem_of_lookup h)))
 ·unfold start
  show _ = N.length
  rw [List.length_append, List.length_map, List.length_replicate]
  omega
theorem Qo {CX : CXT} {P : Program} {w : World} {K : PySem.W.Frag} {mg : Str → Option Value} {base : Heap} {k : Nat} {f : Addr} {name qual : Str} {params : Arguments} {body : List Stmt} {scope : Scope} {dV kV doc pm cdv ct oc : Value} {an od : Option Addr}
  {osl : Array (Option Value)} {N ps : List Str} {sp : Sp} (lk : K.lookup f = some ⟨oc, od, .func (PySem.W.fnOf name qual params body scope dV kV doc pm an cdv ct), osl⟩) (hcd : PySem.W.codeIn K cdv qual = true) (S : FnScope N ps scope)
  (len : ∀ vs H Q E, sp vs H Q E → vs.length = ps.length)
  (hbody : ∀ (A : Around) (outer : List Env) (s : Shared) (H : Hp) (vs : List V) (Q : VK) (E : XK), Room k (A.deeper (envOfC qual scope s.heap.objs.size f cdv)) → sp vs H Q E →
   ∃ t, PSs (cxOf CX P w K mg base N qual scope f cdv A outer s H E) body t ∧ t { nx := fun _ H' => Q .non H', rt := Q } (start N vs) H) :
  FnOk P w K mg base CX (k + 1) f (PySem.W.fnOf name qual params body scope dV kV doc pm an cdv ct) ps sp := by
 refine ⟨len, fun A outer s H args us vs Q E hr e0 hb r hsp => ?_⟩
 have hl := len _ _ _ _ hsp
 have KX : K.In s.heap := e0.mod.kin.keeps fun b o e => (e0.bs b o e).1
 have lim : s.heap.NoLimit := e0.mod.nolimit.keeps fun b o e => (e0.bs b o e).1
 have hkind : ∀ y ∈ ps.zip us, scope.names.lookup y.1 = some .local ∨ (scope.names.lookup y.1 = some .cell ∧ ((cellsFrom (s.heap.objs.size + 1) scope.names []).lookup y.1).isSome = true) := fun ⟨n, v⟩ hy => by
  rcases S.par n (List.of_mem_zip hy).1 with q | q
  ·exact .inl q
  ·exact .inr ⟨q, PySem.W.cellsFrom_some _ _ _ (.inl q)⟩
 refine codeAny_call_function hr.depth (KX _ _ lk) rfl S.co S.gen rfl (PySem.W.codeRec_of KX hcd) (hb _ _ _ _ ?_)
 refine wpAny_newFunctionEnv_cells S.kind hkind fun env he s1 x => ?_
 subst he
 refine ⟨lim.keeps x.toInCall.keep, codeAny_func ?_⟩
 obtain ⟨t, ht, hq⟩ := hbody A outer s H vs Q E (hr.deeper _) hsp
 have I : Inv (cxOf CX P w K mg base N qual scope f cdv A outer s H E) [] (start N vs) H s1 := TF S hr.hd e0 hl r x
 refine wpAny_mono (ht [] s1 (start N vs) H _ I hq) (fun fl s' hs => ?_) fun e s' hs => hs
 have fin : ∀ {σ' : St} {H' : Hp} {v : V} {u : Value}, Inv (cxOf CX P w K mg base N qual scope f cdv A outer s H E) [] σ' H' s' → RelV v u → Q v H' → CE outer P w H s Q u s' :=
  fun {σ' H' v u} J rv q => ⟨v, H', J.os, J.bare, J.base, J.hok, rv, q⟩
 cases fl with
 | ret u =>
  obtain ⟨v, σ', H', J, rv, q⟩ := hs
  exact fin J rv q
 | next =>
  obtain ⟨σ', H', J, q⟩ := hs
  exact fin (v := V.non) (u := Value.none) J rfl q
 | brk =>
  obtain ⟨_, _, _, q⟩ := hs
  exact False.elim q
 | cont =>
  obtain ⟨_, _, _, q⟩ := hs
  exact False.elim q
end L2
namespace L2
open PySem PySem.Spec PyProof.Rows
section
variable {X : Cx} {x : Str} {p pos : Pos} {e : Expr} {es : List Expr} {t : TA} {id T : String} {r : List V → Hp → VK → Prop}
def tCB (r : List V → Hp → VK → Prop) (t : TA) : TE := fun σ H Q => t σ H fun vs H1 => r vs H1 Q
theorem OJ (hc : DW X (.builtin id) r) (hg : Gl X x) (hm : X.mg x = none) (hv : bootBuiltins x = some (.builtin id)) (ha : PA X (e :: es) t) (hn : x ≠ "__name__" := by decide) (hdb : (x == ("__debug__" : Str)) = false := by decide)
  (he : starEach (e :: es) X.env = (false, eval e X.env) :: starEach es X.env := by rfl) (hpl : (backTo pos (starEach es X.env)).any (·.1) = false := by rfl) : PE X (.Call (.Name x p) (e :: es) [] pos) (tCB r t) := by
 intro pins s σ H Q I h
 refine wpAny_Call_Name_kw (Mi I hg hm hv ?_ hn hdb)
 exact PyProof.Rows.callWith_builtin1 (thn (ha pos pins s σ H _ I h) fun us s1 ⟨vs, H1, I1, r1, q1⟩ => hc pins s1 σ H1 vs us Q I1 r1 q1) he hpl
theorem TJ (hc : DW X (.type T) r) (hg : Gl X x) (hm : X.mg x = none) (hv : bootBuiltins x = some (.type T)) (ha : PA X (e :: es) t) (hn : x ≠ "__name__" := by decide) (hdb : (x == ("__debug__" : Str)) = false := by decide)
  (he : starEach (e :: es) X.env = (false, eval e X.env) :: starEach es X.env := by rfl) (hpl : (backTo pos (starEach es X.env)).any (·.1) = false := by rfl) : PE X (.Call (.Name x p) (e :: es) [] pos) (tCB r t) := by
 intro pins s σ H Q I h
 refine wpAny_Call_Name_kw (Mi I hg hm hv ?_ hn hdb)
 exact PyProof.Rows.callWith_type1 (thn (ha pos pins s σ H _ I h) fun us s1 ⟨vs, H1, I1, r1, q1⟩ => hc pins s1 σ H1 vs us Q I1 r1 q1) he hpl
end
end L2
namespace HT
open PySem PyProof.Rows
section
open PySem.SeqAt
open PySem.AutoSeq1 (wpAny_loadPart')
open PySem.MeetsSeq PySem.MeetsSeq2 PySem.MeetsSeq3
end
section
variable {prog : Program} {w : World} {A : Around} {E : Value → Shared → Prop} {s : Shared}
def sIx (n d : Nat) : Option Int → Nat
 | none => d
 | some v => if v < 0 then (v + (n : Int)).toNat else min v.toNat n
theorem az (n d : Nat) (hd : d ≤ n) (o : Option Int) : sIx n d o ≤ n := by
 cases o with
 | none => exact hd
 | some v =>
  show (if v < 0 then (v + (n : Int)).toNat else min v.toNat n) ≤ n
  by_cases hv : v < 0
  ·rw [if_pos hv]; omega
  ·rw [if_neg hv]; exact Nat.min_le_right _ _
theorem Qp (v : Int) (n d : Nat) : (if v < 0 then max (v + (n : Int)) 0 else min v (n : Int)) = ((sIx n d (some v) : Nat) : Int) := by
 show (if v < 0 then max (v + (n : Int)) 0 else min v (n : Int)) = (((if v < 0 then (v + (n : Int)).toNat else min v.toNat n) : Nat) : Int)
 by_cases hv : v < 0
 ·simp only [if_pos hv]; omega
 ·simp only [if_neg hv]; omega
theorem QG (lo hi : Option Int) (n : Nat) : Builtin.Slice.sliceAdjust lo hi 1 (n : Int) = (((sIx n 0 lo : Nat) : Int), ((sIx n n hi : Nat) : Int)) := by
 have h1 : ¬ ((1 : Int) < 0) := by omega
 unfold Builtin.Slice.sliceAdjust
 simp only [h1, if_false]
 refine Prod.ext ?_ ?_
 ·cases lo with
  | none => rfl
  | some v => exact Qp v n 0
 ·cases hi with
  | none => rfl
  | some v => exact Qp v n n
theorem QH (i j : Nat) : Builtin.Slice.slicePlaces (i : Int) (j : Int) 1 = j - i := by
 unfold Builtin.Slice.slicePlaces
 have h1 : (1 : Int) > 0 := by omega
 simp only [h1, if_true, Int.ediv_one]
 split <;> omega
theorem KC {v : Value} {o : Option Int} {Q : Option Int → Shared → Prop} (p : IsPart v o) (h : Q o s) : wpAny (model prog w) A (Builtin.Slice.slicePartIndex v) Q E s := by
 cases p with
 | none => exact slicePart_none h
 | int i t => exact slicePart_int h
theorem Iz {sl : Addr} {vl vu : Value} {lo hi : Option Int} {n : Nat} {Q : Int × Int × Nat → Shared → Prop} (hs : s.heap.IsSliceOf sl vl vu .none) (pl : IsPart vl lo) (pu : IsPart vu hi)
  (h : Q (((sIx n 0 lo : Nat) : Int), 1, sIx n n hi - sIx n 0 lo) s) : wpAny (model prog w) A (Builtin.Slice.sliceApplied (.ref sl) (pure (n : Int))) Q E s := by
 obtain ⟨os, hos, hcs, hds⟩ := id hs
 unfold Builtin.Slice.sliceApplied Builtin.Slice.sliceFields
 refine wpAny_bind (wpAny_bind (wpAny_field hos hds (x := vl) rfl (wpAny_bind (wpAny_field hos hds (x := vu) rfl (wpAny_bind (wpAny_field hos hds (x := .none) rfl (wpAny_pure ?_)))))))
 refine wpAny_bind (slicePart_none ?_)
 show wpAny _ _ (if ((1 : Int) == 0) = true then _ else _) _ _ s
 rw [if_neg (by decide)]
 refine wpAny_bind (KC pl (wpAny_bind (KC pu (wpAny_bind (wpAny_pure ?_)))))
 show wpAny _ _ (match Builtin.Slice.sliceAdjust lo hi 1 (n : Int) with | (lo, hi) => pure (lo, (1 : Int), Builtin.Slice.slicePlaces lo hi 1)) _ _ s
 rw [QG lo hi n]
 show wpAny _ _ (pure (((sIx n 0 lo : Nat) : Int), (1 : Int), Builtin.Slice.slicePlaces ((sIx n 0 lo : Nat) : Int) ((sIx n n hi : Nat) : Int) 1)) _ _ s
 rw [QH]
 exact wpAny_pure h
theorem Uk (xs : Array Value) (i k : Nat) : ((List.range k).filterMap fun (m : Nat) => xs[((i : Int) + (m : Int) * 1).toNat]?).toArray = ((xs.toList.drop i).take k).toArray := by
 have e : (fun (m : Nat) => xs[((i : Int) + (m : Int) * 1).toNat]?) = fun m => xs[i + m]? := by
  funext m
  have : ((i : Int) + (m : Int) * 1).toNat = i + m := by omega
  rw [this]
 rw [e]
 have := pick_run xs i k
 rw [List.filterMap_map] at this
 have e2 : ((fun x => xs[x]?) ∘ fun x => i + x) = fun m => xs[i + m]? := rfl
 rw [e2] at this
 rw [this]
theorem Hj {t sl : Addr} {items : Array Value} {vl vu : Value} {lo hi : Option Int} {Q : Value → Shared → Prop} (ht : IsTup s.heap t items) (hs : s.heap.IsSliceOf sl vl vu .none) (pl : IsPart vl lo) (pu : IsPart vu hi)
  (hw : ¬ (sIx items.size 0 lo = 0 ∧ sIx items.size items.size hi = items.size))
  (h : Q (.ref s.heap.objs.size) { s with heap := s.heap.push { cls := .type "tuple", data := .seq ((items.toList.drop (sIx items.size 0 lo)).take (sIx items.size items.size hi - sIx items.size 0 lo)).toArray } })
  (hsz : items.size ≤ sizeLine) : wpAny (model prog w) A (getItem (.ref t) (.ref sl)) Q E s := by
 have htake : sizeOk (.seq ((items.toList.drop (sIx items.size 0 lo)).take (sIx items.size items.size hi - sIx items.size 0 lo)).toArray) := by
  show ((items.toList.drop (sIx items.size 0 lo)).take (sIx items.size items.size hi - sIx items.size 0 lo)).toArray.size ≤ sizeLine
  rw [List.size_toArray, List.length_take, List.length_drop, Array.length_toList]
  omega
 have hj : sIx items.size items.size hi ≤ items.size := az _ _ (Nat.le_refl _) hi
 obtain ⟨os, hos, hcs, hds⟩ := id hs
 have hTs : s.TypeIs (.ref sl) "slice" := ⟨os, hos, hcs⟩
 unfold getItem
 try with_reducible refine wpAny_holding ?_
 first | refine wpAny_bind (wpAny_pure ?_) | skip
 refine wpAny_bind (wpAny_sequenceKey ht.typeIs (by decide) ?_)
 refine wpAny_bind (wpAny_callSpecial?_slot (name := Str.ofString "__getitem__") ht.typeIs PyProof.Rows.slot_tuple_getitem
  (wpAny_call_entry PyProof.Rows.slot_tuple_getitem ht.typeIs entry_tuple_getitem ?_ (args_tuple_getitem _ _)))
 show wpAny _ _ (Builtin.Tuple.tupleItemsOf (.ref t) >>= _) _ _ s
 refine wpAny_bind (tupleItemsOf_ ht ?_)
 refine wpAny_bind (wpAny_typeOf hTs ?_)
 rw [if_pos (by decide)]
 refine wpAny_bind (Iz hs pl pu ?_)
 have hno : ¬ ((((sIx items.size 0 lo : Nat) : Int) == 0 && (1 : Int) == 1 && (sIx items.size items.size hi - sIx items.size 0 lo) == items.size) = true) := by
  intro q
  rw [Bool.and_eq_true, Bool.and_eq_true] at q
  have q1 : ((sIx items.size 0 lo : Nat) : Int) = 0 := eq_of_beq q.1.1
  have q2 : sIx items.size items.size hi - sIx items.size 0 lo = items.size := eq_of_beq q.2
  exact hw ⟨by omega, by omega⟩
 show wpAny _ _ (if (((sIx items.size 0 lo : Nat) : Int) == 0 && (1 : Int) == 1 && (sIx items.size items.size hi - sIx items.size 0 lo) == items.size) = true then _ else _) _ _ s
 rw [if_neg hno, Uk]
 first
  | exact wpAny_bind (m := Builtin.Tuple.tupleExact _) (wpAny_newObj_type (wpAny_pure ⟨_, rfl, wpAny_pure h⟩) htake)
  | exact wpAny_bind (m := Builtin.Tuple.tupleExact _) (wpAny_newObj_type (wpAny_bind (wpAny_pure (wpAny_pure ⟨_, rfl, wpAny_pure h⟩))) htake)
  | exact wpAny_bind (wpAny_bind (m := Builtin.Tuple.tupleExact _) (wpAny_newObj_type (wpAny_pure (wpAny_pure ⟨_, rfl, wpAny_pure h⟩)) htake))
  | exact wpAny_bind (wpAny_bind (m := Builtin.Tuple.tupleExact _) (wpAny_newObj_type (wpAny_pure ⟨_, rfl, wpAny_pure h⟩) htake))
end
end HT
namespace L2
open PySem PySem.Spec PyProof.Rows
abbrev TO := St → Hp → (Option Int → Hp → Prop) → Prop
def PO (X : Cx) (e : Option Expr) (t : TO) : Prop :=
 ∀ (pins : List (Addr × Obj)) (s : Shared) (σ : St) (H : Hp) (Q : Option Int → Hp → Prop), Inv X pins σ H s → t σ H Q →
  wpAny (model X.prog X.w) X.A (evalPart e X.env) (fun u s' => ∃ o H', Inv X pins σ H' s' ∧ IsPart u o ∧ Q o H') X.xe s
def dg (t : TE) : TO := fun σ H Q => t σ H fun x H1 => ∃ i, x = .int i ∧ Q (some i) H1
section
variable {X : Cx} {e : Expr} {te : TE} {lo hi : Option Expr} {tl th : TO} {pos p2 : Pos}
theorem Xz (h : PE X e te) : PO X (some e) (dg te) := by
 intro pins s σ H Q I hw
 rw [evalPart_some]
 refine thn (h pins s σ H _ I hw) fun u s1 ⟨x, H1, I1, r1, q1⟩ => ?_
 obtain ⟨i, rfl, q⟩ := q1
 obtain ⟨t, rfl⟩ := r1
 exact ⟨some i, H1, I1, .int i t, q⟩
def SlR (X : Cx) (r : V → Option Int → Option Int → Hp → VK → Prop) : Prop :=
 ∀ (pins : List (Addr × Obj)) (s : Shared) (σ : St) (H : Hp) (x : V) (v vl vu : Value) (lo hi : Option Int) (sl : Addr) (Q : VK), Inv X pins σ H s → RelV x v → s.heap.IsSliceOf sl vl vu .none → IsPart vl lo → IsPart vu hi → r x lo hi H Q →
  ∃ T id, typeLookup (.type T) "__getitem__" = pure (some (.builtin id)) ∧ s.TypeIs v T ∧ wpAny (model X.prog X.w) X.A (getItem v (.ref sl)) (EP X pins σ Q) X.xe s
theorem SlR.or {r r' : V → Option Int → Option Int → Hp → VK → Prop} (h : SlR X r) (h' : SlR X r') : SlR X (fun x lo hi H Q => r x lo hi H Q ∨ r' x lo hi H Q) := by
 intro pins s σ H x v vl vu lo hi sl Q I rx hs pl pu q
 rcases q with q | q
 ·exact h pins s σ H x v vl vu lo hi sl Q I rx hs pl pu q
 ·exact h' pins s σ H x v vl vu lo hi sl Q I rx hs pl pu q
def tSl (r : V → Option Int → Option Int → Hp → VK → Prop) (te : TE) (tl th : TO) : TE := fun σ H Q => te σ H fun x H1 => tl σ H1 fun l H2 => th σ H2 fun u H3 => r x l u H3 Q
theorem Ul {r : V → Option Int → Option Int → Hp → VK → Prop} (hr : SlR X r) (he : PE X e te) (hl : PO X lo tl) (hu : PO X hi th) : PE X (.Subscript e (.Slice lo hi none p2) pos) (tSl r te tl th) := by
 intro pins s σ H Q I h
 refine Subscript_ (thn (he pins s σ H _ I h) fun v s1 ⟨x, H1, I1, r1, q1⟩ => ?_)
 refine wpAny_Slice (thn (hl pins s1 σ H1 _ I1 q1) fun vl s2 ⟨l, H2, I2, pl, q2⟩ => thn (hu pins s2 σ H2 _ I2 q2) fun vu s3 ⟨u, H3, I3, pu, q3⟩ => ?_)
 rw [evalPart_none]
 refine wpAny_pure ?_
 have I4 : Inv X pins σ H3 { s3 with heap := s3.heap.push { cls := .type "slice", data := .fields #[vl, vu, .none] } } := I3.kept (t' := s3.toks) fun b ob q => Heap.get?_push_of_some _ q
 obtain ⟨T, id, hT, ht, hg⟩ := hr pins { s3 with heap := s3.heap.push { cls := .type "slice", data := .fields #[vl, vu, .none] } } σ H3 x v vl vu l u s3.heap.objs.size Q I4 r1 (Heap.IsSliceOf.new ..) pl pu q3
 show wpAny (model X.prog X.w) X.A (subscriptTail e (.Slice lo hi none p2) v (.ref s3.heap.objs.size)) (EP X pins σ Q) X.xe { s3 with heap := s3.heap.push { cls := .type "slice", data := .fields #[vl, vu, .none] } }
 exact tail_any (ops := [.ref s3.heap.objs.size, v]) ht hT hg (by with_unfolding_all rfl)
def cutV (xs : List V) (lo hi : Option Int) : List V := (xs.drop (HT.sIx xs.length 0 lo)).take (HT.sIx xs.length xs.length hi - HT.sIx xs.length 0 lo)
theorem Ja (xs : List V) (lo hi : Option Int) : (cutV xs lo hi).length ≤ xs.length := by
 unfold cutV
 rw [List.length_take, List.length_drop]
 omega
def rSlT (K : PySem.W.Frag) : V → Option Int → Option Int → Hp → VK → Prop := fun x lo hi H Q => ∃ a xs, x = .ref a ∧ SqT K H a xs ∧
 ¬ (HT.sIx xs.length 0 lo = 0 ∧ HT.sIx xs.length xs.length hi = xs.length) ∧ ∀ p, H p = none → Q (.ref p) (upd H p (.tup (cutV xs lo hi)))
theorem a_ : SlR X (rSlT X.K) := by
 intro pins s σ H x v vl vu lo hi sl Q I rx hs pl pu h
 obtain ⟨a, xs, rfl, hx, hw, q⟩ := h
 cases rx
 obtain ⟨its, r, ht, hz⟩ := I.tuple hx
 have hlen : its.toArray.size = xs.length := by rw [List.size_toArray]; exact r.length.symm
 refine ⟨"tuple", _, PyProof.Rows.slot_tuple_getitem.lookup, ht.typeIs, ?_⟩
 refine HT.Hj ht hs pl pu (by rw [hlen]; exact hw) ?_ (by rw [hlen]; exact hz)
 rw [hlen]
 refine ⟨.ref s.heap.objs.size, _, I.laid (t' := s.toks) (o := .tup (cutV xs lo hi)) (fun b ob q => Heap.get?_push_of_some _ q) (Nat.le_refl _) ?_, rfl, q _ (I.hok.fresh (Nat.le_refl _))⟩
 exact ⟨Nat.le_trans (Ja xs lo hi) hz, _, (r.drop (HT.sIx xs.length 0 lo)).take (HT.sIx xs.length xs.length hi - HT.sIx xs.length 0 lo), IsTup.new _ _⟩
end
end L2
namespace L2
open PySem PySem.Spec PyProof.Rows
def ixN (n : Nat) (i : Int) : Option Nat := if 0 ≤ i then (if i < n then some i.toNat else none) else if -(n : Int) ≤ i then some (i + n).toNat else none
def atI {α : Type} (xs : List α) (i : Int) : Option α := (ixN xs.length i).bind fun j => xs[j]?
theorem X3 {n : Nat} {i : Int} {j : Nat} (h : ixN n i = some j) : seqIndex? i n = some j ∧ j < n ∧ -(n : Int) ≤ i ∧ i < n := by
 unfold ixN at h
 by_cases h0 : 0 ≤ i
 ·rw [if_pos h0] at h
  by_cases h1 : i < n
  ·rw [if_pos h1] at h
   have e : i.toNat = j := Option.some.inj h
   exact ⟨by rw [seqIndex_of h0 h1, e], by omega, by omega, h1⟩
  ·rw [if_neg h1] at h; cases h
 ·rw [if_neg h0] at h
  by_cases h1 : -(n : Int) ≤ i
  ·rw [if_pos h1] at h
   have e : (i + n).toNat = j := Option.some.inj h
   exact ⟨by rw [seqIndex_neg (by omega) h1, e], by omega, h1, by omega⟩
  ·rw [if_neg h1] at h; cases h
theorem Mq {α : Type} {xs : List α} {i : Int} {v : α} (h : atI xs i = some v) : ∃ j, seqIndex? i xs.length = some j ∧ xs[j]? = some v ∧ j < xs.length ∧ -(xs.length : Int) ≤ i ∧ i < xs.length := by
 unfold atI at h
 cases e : ixN xs.length i with
 | none => rw [e] at h; cases h
 | some j =>
  rw [e] at h
  obtain ⟨h1, h2, h3, h4⟩ := X3 e
  exact ⟨j, h1, h, h2, h3, h4⟩
def Hk (b : Expr) : Prop := ∀ o i, subscripted b false o i = operate [o, i] (getItem o i)
def IxR (X : Cx) (r : R2) : Prop :=
 ∀ (value slice : Expr) (pins : List (Addr × Obj)) (s : Shared) (σ : St) (H : Hp) (x y : V) (v u : Value) (Q : VK), Inv X pins σ H s → RelV x v → RelV y u → r x y H Q →
  subscripted slice false v u = operate [v, u] (getItem v u) → wpAny (model X.prog X.w) X.A (subscriptTail value slice v u) (EP X pins σ Q) X.xe s
def MtR (X : Cx) (id : String) (r : V → List V → Hp → VK → Prop) : Prop :=
 ∀ (pins : List (Addr × Obj)) (s : Shared) (σ : St) (H : Hp) (x : V) (xs : List V) (v : Value) (us : List Value) (Q : VK), Inv X pins σ H s → RelV x v → Vals xs us → r x xs H Q →
  wpAny (model X.prog X.w) X.A (call (.builtin id) (v :: us)) (EP X pins σ Q) X.xe s
section
variable {X : Cx} {a b : Expr} {ta tb : TE} {pos : Pos}
theorem IxR.or {r r' : R2} (h : IxR X r) (h' : IxR X r') : IxR X (fun x y H Q => r x y H Q ∨ r' x y H Q) := by
 intro value slice pins s σ H x y v u Q I rx ry q hs
 rcases q with q | q
 ·exact h value slice pins s σ H x y v u Q I rx ry q hs
 ·exact h' value slice pins s σ H x y v u Q I rx ry q hs
theorem MtR.or {id : String} {r r' : V → List V → Hp → VK → Prop} (h : MtR X id r) (h' : MtR X id r') : MtR X id (fun x xs H Q => r x xs H Q ∨ r' x xs H Q) := by
 intro pins s σ H x xs v us Q I rx rs q
 rcases q with q | q
 ·exact h pins s σ H x xs v us Q I rx rs q
 ·exact h' pins s σ H x xs v us Q I rx rs q
theorem ZM {r : R2} (hr : IxR X r) (ha : PE X a ta) (hb : PE X b tb) (hs : Hk b) : PE X (.Subscript a b pos) (tOp r ta tb) := by
 intro pins s σ H Q I h
 exact Subscript_ (binT ha hb I h fun v u s2 x y H2 I2 rx ry q => hr a b pins s2 σ H2 x y v u Q I2 rx ry q (hs _ _))
def rIxL (K : PySem.W.Frag) : R2 := fun x y H Q => ∃ p xs i v, x = .ref p ∧ y = .int i ∧ SqL K H p xs ∧ atI xs i = some v ∧ Q v H
def rIxT (K : PySem.W.Frag) : R2 := fun x y H Q => ∃ p xs i v, x = .ref p ∧ y = .int i ∧ SqT K H p xs ∧ atI xs i = some v ∧ Q v H
def rIxS : R2 := fun x y H Q => ∃ z i c, x = .str z ∧ y = .int i ∧ z.length ≤ sizeLine ∧ atI z.cps.toList i = some c ∧ Q (.str ⟨#[c]⟩) H
theorem X4 : IxR X (rIxL X.K) := by
 intro value slice pins s σ H x y v u Q I rx ry h hs
 obtain ⟨p, xs, i, z, rfl, rfl, hq, he, q⟩ := h
 cases rx
 obtain ⟨t, rfl⟩ := ry
 obtain ⟨its, r, pl, hz⟩ := I.list hq
 obtain ⟨j, h1, h2, h3, h4, h5⟩ := Mq he
 obtain ⟨w, ew, rw'⟩ := r.get h2
 have hl := r.length
 have hn := J9
 have fin : EP X pins σ Q w s := ⟨z, H, I, rw', q⟩
 by_cases h0 : 0 ≤ i
 ·have hj : i.toNat = j := by
   rw [seqIndex_of h0 h5] at h1
   exact Option.some.inj h1
  exact item_listR pl.isList h0 (by omega) (by rw [hj]; simpa using ew) fin hs
 ·have hj : (i + (its.toArray.size : Int)).toNat = j := by
   rw [seqIndex_neg (by omega) h4] at h1
   rw [List.size_toArray, ← hl]
   exact Option.some.inj h1
  exact subscriptTail_builtinR (x := w) pl.isList.typeIs slot_list_getitem.lookup
   (wpAny_getItem_list_neg (Q := fun r s' => r = w ∧ EP X pins σ Q r s') pl.isList (by omega) (by rw [List.size_toArray] <;> omega) (by omega) (by rw [hj]; simpa using ew) ⟨rfl, fin⟩) hs
theorem bA : IxR X (rIxT X.K) := by
 intro value slice pins s σ H x y v u Q I rx ry h hs
 obtain ⟨p, xs, i, z, rfl, rfl, hq, he, q⟩ := h
 cases rx
 obtain ⟨t, rfl⟩ := ry
 obtain ⟨its, r, pl, hz⟩ := I.tuple hq
 obtain ⟨j, h1, h2, h3, h4, h5⟩ := Mq he
 obtain ⟨w, ew, rw'⟩ := r.get h2
 have hl := r.length
 have hn := J9
 have fin : EP X pins σ Q w s := ⟨z, H, I, rw', q⟩
 exact subscriptTail_builtinR (x := w) pl.typeIs slot_tuple_getitem.lookup
  (getItem_tuple (j := j) (Q := fun r s' => r = w ∧ EP X pins σ Q r s') pl (by omega) (by omega) (by rw [List.size_toArray, ← hl]; exact h1) (by simpa using ew) ⟨rfl, fin⟩) hs
theorem KD : IxR X rIxS := by
 intro value slice pins s σ H x y v u Q I rx ry h hs
 obtain ⟨z, i, c, rfl, rfl, hz, he, q⟩ := h
 obtain ⟨t, rfl⟩ := rx
 obtain ⟨t', rfl⟩ := ry
 obtain ⟨j, h1, h2, h3, h4, h5⟩ := Mq he
 have hl : z.cps.toList.length = z.length := by simp [Str.length]
 rw [hl] at h1 h4 h5
 have hn := J9
 exact tail_any (typeIs_str s z t) slot_str_getitem.lookup (getItem_str (c := c) (by
  have e1 : decide (i < -(2 ^ 63 : Int)) = false := decide_eq_false (by omega)
  have e2 : decide (i ≥ 2 ^ 63) = false := decide_eq_false (by omega)
  rw [e1, e2, Bool.or_false]) (by rw [h1]; simpa using h2) ⟨.str ⟨#[c]⟩, H, I.tok _, ⟨_, rfl⟩, q⟩) hs
def rIx (K : PySem.W.Frag) : R2 := fun x y H Q => rIxL K x y H Q ∨ rIxT K x y H Q ∨ rIxS x y H Q
theorem Um : IxR X (rIx X.K) := X4.or (bA.or KD)
theorem Inv.lst {pins : List (Addr × Obj)} {σ : St} {H : Hp} {s : Shared} {p : Addr} {xs : List V} (I : Inv X pins σ H s) (h : H p = some (.lst xs)) :
  ∃ (its : List Value) (n : Nat), Vals xs its ∧ s.heap.get? p = some { cls := .type "list", data := .seq its.toArray n } ∧ xs.length ≤ sizeLine := by
 obtain ⟨z, its, n, r, e⟩ := I.hok p _ h
 exact ⟨its, n, r, e, z⟩
theorem Mr (lo hi : Option Int) (n : Nat) : (sliceBounds lo hi none n).1 = ((HT.sIx n 0 lo : Nat) : Int) ∧ (sliceBounds lo hi none n).2.1 = ((HT.sIx n n hi : Nat) : Int) ∧ (sliceBounds lo hi none n).2.2 = 1 := by
 refine ⟨?_, ?_, rfl⟩
 ·cases lo with
  | none => simp [sliceBounds, HT.sIx]
  | some i =>
   simp only [sliceBounds, HT.sIx, Option.getD_none, show (1 : Int) > 0 by decide, if_true]
   by_cases h : i < 0
   ·simp only [h, if_true] <;> omega
   ·simp only [h, if_false] <;> omega
 ·cases hi with
  | none => simp [sliceBounds, HT.sIx]
  | some i =>
   simp only [sliceBounds, HT.sIx, Option.getD_none, show (1 : Int) > 0 by decide, if_true]
   by_cases h : i < 0
   ·simp only [h, if_true] <;> omega
   ·simp only [h, if_false] <;> omega
theorem K6 (its : List Value) (lo hi : Option Int) : slicePick its.toArray lo hi none = ((its.drop (HT.sIx its.length 0 lo)).take (HT.sIx its.length its.length hi - HT.sIx its.length 0 lo)).toArray := by
 obtain ⟨h1, h2, h3⟩ := Mr lo hi its.toArray.size
 unfold slicePick
 rw [h1, h2, h3]
 simp only [sliceRange_one, pick_run, List.size_toArray] <;> rfl
def rSlL (K : PySem.W.Frag) : V → Option Int → Option Int → Hp → VK → Prop := fun x lo hi H Q => ∃ a xs, x = .ref a ∧ SqL K H a xs ∧ ∀ p, H p = none → Q (.ref p) (upd H p (.lst (cutV xs lo hi)))
theorem X5 : SlR X (rSlL X.K) := by
 intro pins s σ H x v vl vu lo hi sl Q I rx hs pl pu h
 obtain ⟨a, xs, rfl, hx, q⟩ := h
 cases rx
 obtain ⟨its, r, ht, hz⟩ := I.list hx
 have hlen := r.length
 refine ⟨"list", _, slot_list_getitem.lookup, ht.isList.typeIs, ?_⟩
 refine wpAny_getItem_list_slice ht.isList hs pl pu .none (by simp) ?_ (by rw [List.size_toArray] <;> omega)
 rw [K6, ← hlen]
 refine ⟨.ref s.heap.objs.size, _, I.laid (t' := s.toks) (o := .lst (cutV xs lo hi)) (fun b ob q => Heap.get?_push_of_some _ q) (Nat.le_refl _) ?_, rfl, q _ (I.hok.fresh (Nat.le_refl _))⟩
 exact ⟨Nat.le_trans (Ja xs lo hi) hz, _, 0, (r.drop (HT.sIx xs.length 0 lo)).take (HT.sIx xs.length xs.length hi - HT.sIx xs.length 0 lo), Heap.get?_push_size _ rfl⟩
def GD : V → Bool
 | .non => true
 | .bl _ => true
 | .int _ => true
 | .str _ => true
 | _ => false
def eqV : V → V → Bool
 | .non, .non => true
 | .bl a, .bl b => a == b
 | .bl a, .int b => (if a then 1 else 0) == b
 | .int a, .bl b => a == (if b then 1 else 0)
 | .int a, .int b => a == b
 | .str a, .str b => a == b
 | _, _ => false
theorem Uo {A : Around} {s : Shared} {y x : V} {u v : Value} (ry : RelV y u) (rx : RelV x v) (fy : GD y = true) (fx : GD x = true) : SeqAt.EqAt A s u v (eqV y x) := by
 cases y with
 | non =>
  cases ry
  cases x with
  | non => cases rx; exact SeqAt.EqAt.same _
  | bl b => cases rx; exact SeqAt.EqAt.none_bool b
  | int b => obtain ⟨t, rfl⟩ := rx; exact SeqAt.EqAt.none_int b t
  | str b => obtain ⟨t, rfl⟩ := rx; exact SeqAt.EqAt.none_str b t
  | _ => exact absurd (show false = true from fx) Bool.false_ne_true
 | bl a =>
  cases ry
  cases x with
  | non => cases rx; exact SeqAt.EqAt.bool_none a
  | bl b => cases rx; exact SeqAt.EqAt.bool_bool a b
  | int b => obtain ⟨t, rfl⟩ := rx; exact SeqAt.EqAt.bool_int a b t
  | str b => obtain ⟨t, rfl⟩ := rx; exact SeqAt.EqAt.bool_str a b t
  | _ => exact absurd (show false = true from fx) Bool.false_ne_true
 | int a =>
  obtain ⟨t', rfl⟩ := ry
  cases x with
  | non => cases rx; exact SeqAt.EqAt.int_none a t'
  | bl b => cases rx; exact SeqAt.EqAt.int_bool a t' b
  | int b => obtain ⟨t, rfl⟩ := rx; exact SeqAt.EqAt.int_int a t' b t
  | str b => obtain ⟨t, rfl⟩ := rx; exact SeqAt.EqAt.int_str a t' b t
  | _ => exact absurd (show false = true from fx) Bool.false_ne_true
 | str a =>
  obtain ⟨t', rfl⟩ := ry
  cases x with
  | non => cases rx; exact SeqAt.EqAt.str_none a t'
  | bl b => cases rx; exact SeqAt.EqAt.str_bool a t' b
  | int b => obtain ⟨t, rfl⟩ := rx; exact SeqAt.EqAt.str_int a t' b t
  | str b => obtain ⟨t, rfl⟩ := rx; exact SeqAt.EqAt.str_str a t' b t
  | _ => exact absurd (show false = true from fx) Bool.false_ne_true
 | _ => exact absurd (show false = true from fy) Bool.false_ne_true
def eqU (x : V) (u : Value) : Bool := match u with
 | .none => eqV .non x
 | .bool b => eqV (.bl b) x
 | .int i _ => eqV (.int i) x
 | .str z _ => eqV (.str z) x
 | _ => false
theorem Uq {x y : V} {u : Value} (r : RelV y u) (f : GD y = true) : eqU x u = eqV y x := by
 cases y with
 | non => cases r; rfl
 | bl b => cases r; rfl
 | int i => obtain ⟨t, rfl⟩ := r; rfl
 | str z => obtain ⟨t, rfl⟩ := r; rfl
 | _ => exact absurd (show false = true from f) Bool.false_ne_true
theorem Hl {x : V} : ∀ {xs : List V} {us : List Value}, Vals xs us → xs.all GD = true → us.any (eqU x) = xs.any fun y => eqV y x
 | _, _, .nil, _ => rfl
 | y :: xs, u :: us, .cons r t, f => by
  rw [List.all_cons, Bool.and_eq_true] at f
  rw [List.any_cons, List.any_cons, Uq r f.1, Hl t f.2]
theorem GP {A : Around} {s : Shared} {x : V} {v : Value} (rx : RelV x v) (fx : GD x = true) : ∀ {xs : List V} {us : List Value}, Vals xs us → xs.all GD = true → ∀ u ∈ us, SeqAt.EqAt A s u v (eqU x u)
 | _, _, .nil, _ => fun u hu => by cases hu
 | y :: xs, u :: us, .cons r t, f => fun u' hu => by
  rw [List.all_cons, Bool.and_eq_true] at f
  rcases List.mem_cons.mp hu with rfl | hu
  ·rw [Uq r f.1]; exact Uo r rx f.1 fx
  ·exact GP rx fx t f.2 u' hu
def inV (x : V) (xs : List V) : Bool := xs.any fun y => eqV y x
def rIn (K : PySem.W.Frag) (neg : Bool) : R2 := fun x y H Q => ∃ p xs, y = .ref p ∧ (SqL K H p xs ∨ SqT K H p xs) ∧ GD x = true ∧ xs.all GD = true ∧ Q (.bl (if neg then !inV x xs else inV x xs)) H
theorem TQ : OpR X (compareOp .In) (rIn X.K false) := by
 intro pins s σ H x y v u Q I rx ry h
 obtain ⟨p, xs, rfl, hq, fx, fs, q⟩ := h
 cases ry
 rcases hq with hq | hq
 ·obtain ⟨its, r, pl, hz⟩ := I.list hq
  refine SeqAt.in_listAt (eqU x) pl.isList (fun w hw => GP rx fx r fs w (by simpa using hw)) ⟨.bl _, H, I, rfl, ?_⟩
  rw [show its.toArray.any (eqU x) = its.any (eqU x) by simp, Hl r fs]
  exact q
 ·obtain ⟨its, r, pl, hz⟩ := I.tuple hq
  refine SeqAt.in_tupleAt (eqU x) pl (fun w hw => GP rx fx r fs w (by simpa using hw)) ⟨.bl _, H, I, rfl, ?_⟩
  rw [show its.toArray.any (eqU x) = its.any (eqU x) by simp, Hl r fs]
  exact q
theorem Ms : OpR X (compareOp .NotIn) (rIn X.K true) := by
 intro pins s σ H x y v u Q I rx ry h
 obtain ⟨p, xs, rfl, hq, fx, fs, q⟩ := h
 cases ry
 rcases hq with hq | hq
 ·obtain ⟨its, r, pl, hz⟩ := I.list hq
  refine SeqAt.notIn_listAt (eqU x) pl.isList (fun w hw => GP rx fx r fs w (by simpa using hw)) ⟨.bl _, H, I, rfl, ?_⟩
  rw [show its.toArray.any (eqU x) = its.any (eqU x) by simp, Hl r fs]
  exact q
 ·obtain ⟨its, r, pl, hz⟩ := I.tuple hq
  refine SeqAt.notIn_tupleAt (eqU x) pl (fun w hw => GP rx fx r fs w (by simpa using hw)) ⟨.bl _, H, I, rfl, ?_⟩
  rw [show its.toArray.any (eqU x) = its.any (eqU x) by simp, Hl r fs]
  exact q
theorem DW.or {f : Value} {r r' : List V → Hp → VK → Prop} (h : DW X f r) (h' : DW X f r') : DW X f (fun xs H Q => r xs H Q ∨ r' xs H Q) := by
 intro pins s σ H xs us Q I rs q
 rcases q with q | q
 ·exact h pins s σ H xs us Q I rs q
 ·exact h' pins s σ H xs us Q I rs q
theorem Hm : DW X (.type "list") (fun xs H Q => ∃ p ys, xs = [.ref p] ∧ (SqL X.K H p ys ∨ SqT X.K H p ys) ∧ ∀ l, H l = none → Q (.ref l) (upd H l (.lst ys))) := by
  intro pins s σ H xs us Q I r h
  obtain ⟨p, ys, rfl, hq, q⟩ := h
  obtain ⟨u, rfl, rx⟩ := vals1 r
  cases rx
  have fin : ∀ (its : List Value), Vals ys its → ys.length ≤ sizeLine → ∀ (h' : Heap) (c' : Nat), (∀ b o', s.heap.get? b = some o' → h'.get? b = some o') →
      h'.get? s.heap.objs.size = some { cls := .type "list", dict := none, data := .seq its.toArray c', slots := #[] } → EP X pins σ Q (.ref s.heap.objs.size) { s with heap := h' } := fun its r' hz h' c' kp e =>
    ⟨.ref s.heap.objs.size, _, I.laid (t' := s.toks) kp (Nat.le_refl _) (show BK X.prog X.w _ h' _ (.lst ys) from ⟨hz, its, c', r', e⟩), rfl, q _ (I.hok.fresh (Nat.le_refl _))⟩
  rcases hq with hq | hq
  · obtain ⟨its, r', pl, hz⟩ := I.list hq
    have hlen := r'.length
    obtain ⟨o, ho, hc, n, hd⟩ := pl.isList
    exact call_list_seq p (.inl rfl) ho hc hd (fun h' c' kp e => fin its r' hz h' c' kp e) (by simp only [List.size_toArray] <;> omega)
  · obtain ⟨its, r', pl, hz⟩ := I.tuple hq
    have hlen := r'.length
    obtain ⟨o, ho, hc, n, hd⟩ := pl
    exact call_list_seq p (.inr rfl) ho hc hd (fun h' c' kp e => fin its r' hz h' c' kp e) (by simp only [List.size_toArray] <;> omega)
def tyV (K : PySem.W.Frag) (T : String) (x : V) (H : Hp) : Prop := match x with
  | .str _ => T = "str"
  | .int _ => T = "int"
  | .ref p => (T = "list" ∧ ∃ xs, SqL K H p xs) ∨ (T = "tuple" ∧ ∃ o, K.lookup p = some o ∧ o.cls = .type "tuple" ∧ o.dict = none) ∨
      (T = "dict" ∧ ((∃ kvs, H p = some (.dK kvs)) ∨ ∃ kvs, H p = some (.dT kvs))) ∨ (T = "set" ∧ ∃ S n, H p = some (.set S n))
  | _ => False
theorem bB {pins : List (Addr × Obj)} {σ : St} {H : Hp} {s : Shared} {T : String} {x : V} {v : Value} (I : Inv X pins σ H s) (r : RelV x v) (ty : tyV X.K T x H) :
  s.TypeIs v T ∧ ∀ a, v = .ref a → ∃ ob, s.heap.get? a = some ob ∧ ob.dict = none := by
 cases x with
 | str z =>
  obtain ⟨t, rfl⟩ := r
  cases (show T = "str" from ty)
  exact ⟨typeIs_str s z t, fun _ e => nomatch e⟩
 | int i =>
  obtain ⟨t, rfl⟩ := r
  cases (show T = "int" from ty)
  exact ⟨typeIs_int s i t, fun _ e => nomatch e⟩
 | ref p =>
  cases r
  rcases ty with ⟨rfl, xs, hq⟩ | ⟨rfl, o, hk, hc, hd⟩ | ⟨rfl, hk⟩ | ⟨rfl, S, n, hk⟩
  ·obtain ⟨its, _, pl, _⟩ := I.list hq
   refine ⟨pl.isList.typeIs, fun a e => ?_⟩
   cases e
   obtain ⟨o, n, e, c, hd, _⟩ := pl
   exact ⟨o, e, hd⟩
  ·refine ⟨⟨o, I.kIn p o hk, hc⟩, fun a e => ?_⟩
   cases e
   exact ⟨o, I.kIn _ o hk, hd⟩
  ·have z : ∃ o, s.heap.get? p = some o ∧ o.ExactDict := by
    rcases hk with ⟨kvs, hk⟩ | ⟨kvs, hk⟩
    ·obtain ⟨_, _, _, _, o, _, _, e, ex, _⟩ := I.hok p _ hk
     exact ⟨o, e, ex⟩
    ·obtain ⟨_, _, _, _, o, _, _, e, ex, _⟩ := I.hok p _ hk
     exact ⟨o, e, ex⟩
   obtain ⟨o, e, ex⟩ := z
   refine ⟨⟨o, e, ex.1⟩, fun a e2 => ?_⟩
   cases e2
   exact ⟨o, e, ex.2.1⟩
  ·obtain ⟨o, _, _, _, e, ex, _⟩ := I.hok p _ hk
   refine ⟨⟨o, e, ex.1⟩, fun a e2 => ?_⟩
   cases e2
   exact ⟨o, e, ex.2.1⟩
 | _ => exact False.elim ty
def tBM (K : PySem.W.Frag) (T : String) (r : V → List V → Hp → VK → Prop) (to : TE) (t : TA) : TE := fun σ H Q => to σ H fun x H1 => tyV K T x H1 ∧ t σ H1 fun xs H2 => r x xs H2 Q
variable {o e : Expr} {es : List Expr} {to : TE} {t : TA} {name : Str} {apos cpos : Pos} {T id : String} {r : V → List V → Hp → VK → Prop}
theorem dh (pa : PlainAttrs T) (slot : Slot T name id) (hty : typeOf (.builtin id) = pure (.type "method_descriptor")) (hm : MtR X id r) (ho : PE X o to) (ha : PA X (e :: es) t)
  (hbase : attributeBase o name X.env (eval o X.env) = eval o X.env := by rfl)
  (hfew : ((backTo cpos (starEach (e :: es) X.env)).all (fun x => !x.1) && (backToKw cpos (keywordEach [] X.env)).all (fun x => x.1.isSome)
   && decide ((e :: es).length + ([] : List Keyword).length + (if ([] : List Keyword).isEmpty then 0 else 1) < 30)) = true := by rfl)
  (hline : (apos.endLine == cpos.line) = true := by rfl) (hs : starEach (e :: es) X.env = (false, eval e X.env) :: starEach es X.env := by rfl) (hplain : (backTo cpos (starEach es X.env)).any (·.1) = false := by rfl) :
  PE X (.Call (.Attribute o name apos) (e :: es) [] cpos) (tBM X.K T r to t) := by
 intro pins s σ H Q I h
 refine wpAny_Call_method_late hbase hfew hline rfl (thn (ho pins s σ H _ I h) fun v s1 ⟨x, H1, I1, r1, ty, q1⟩ => ?_)
 obtain ⟨h1, h2⟩ := bB I1 r1 ty
 refine ⟨T, id, pa, slot, hty, h1, h2, ?_⟩
 have hA := ha cpos pins s1 σ H1 _ I1 q1
 rw [hs] at hA ⊢
 refine Calls.callWith_builtin (by show (false || (backTo cpos (starEach es X.env)).any (·.1)) = false; rw [hplain] <;> rfl) (Calls.evalArgs_plain ?_)
 exact thn hA fun us s2 ⟨vs, H2, I2, r2, q2⟩ => hm pins s2 σ H2 x vs v us Q I2 r1 r2 q2
end
end L2
namespace L2
open PySem PySem.Spec PyProof.Rows
def MtM (X : Cx) (id : String) (r : V → List V → Hp → VK → Prop) : Prop :=
 ∀ (pins : List (Addr × Obj)) (s : Shared) (σ : St) (H : Hp) (x : V) (xs : List V) (v : Value) (us : List Value) (Q : VK), Inv X pins σ H s → RelV x v → Vals xs us → r x xs H Q →
  wpAny (model X.prog X.w) X.A (call (.builtin id) (v :: us)) (EP X pins σ Q) X.xe s
theorem Vals.one : ∀ {x : V} {us : List Value}, Vals [x] us → ∃ u, us = [u] ∧ RelV x u
 | _, _, .cons r .nil => ⟨_, rfl, r⟩
theorem Vals.zero : ∀ {us : List Value}, Vals [] us → us = []
 | _, .nil => rfl
section
variable {X : Cx} {pins : List (Addr × Obj)} {σ : St} {H : Hp} {s : Shared} {l b : Addr} {xs ys zs : List V}
theorem Inv.lset {its its' : List Value} {n : Nat} {f : Array Value → Array Value} {t' : Nat} (I : Inv X pins σ H s) (hH : H l = some (.lst xs))
  (e : s.heap.get? l = some { cls := .type "list", data := .seq its.toArray n }) (hf : f its.toArray = its'.toArray) (hv : Vals ys its') (hz : ys.length ≤ sizeLine) :
  Inv X pins σ (upd H l (.lst ys)) { s with heap := s.heap.update l (Obj.mapSeq f), toks := t' } := by
 have q := PySem.IsL.update e f
 rw [hf] at q
 refine I.write (x := l) (e := l) (by rw [hH]; exact trivial) (.inl rfl) (fun b' u hb hu => (Heap.get?_update_other s.heap (Obj.mapSeq f) (Ne.symm hb)).trans hu) ⟨_, q⟩ ?_
 exact ⟨hz, its', _, hv, q⟩
theorem Inv.lnew {its : List Value} {t' : Nat} (I : Inv X pins σ H s) (hv : Vals ys its) (hz : ys.length ≤ sizeLine) :
  Inv X pins σ (upd H s.heap.objs.size (.lst ys)) { s with heap := s.heap.push { cls := .type "list", data := .seq its.toArray }, toks := t' } :=
 I.laid (fun _ _ q => Heap.get?_push_of_some _ q) (Nat.le_refl _) ⟨hz, its, 0, hv, Heap.get?_push_size _ rfl⟩
theorem Inv.fresh (I : Inv X pins σ H s) : H s.heap.objs.size = none := I.hok.fresh (Nat.le_refl _)
theorem Inv.lstM (I : Inv X pins σ H s) (hH : H l = some (.lst xs)) : xs.length ≤ sizeLine ∧ ∃ (its : List Value) (n : Nat), Vals xs its ∧ xs.length = its.length ∧ s.heap.get? l = some { cls := .type "list", data := .seq its.toArray n } := by
 obtain ⟨z, its, n, r, e⟩ := I.hok l _ hH
 exact ⟨z, its, n, r, r.length, e⟩
end
section
variable {X : Cx}
def X6 : V → List V → Hp → VK → Prop := fun x vs H Q => ∃ l xs y, x = .ref l ∧ vs = [y] ∧ H l = some (.lst xs) ∧ xs.length < sizeLine ∧ Q .non (upd H l (.lst (xs ++ [y])))
theorem Lk : MtM X "list.append" X6 := by
 intro pins s σ H x vs v us Q I rx rv h
 obtain ⟨l, xs, y, rfl, rfl, hH, hz, q⟩ := h
 cases rx
 obtain ⟨u, rfl, ru⟩ := rv.one
 obtain ⟨z, its, n, r, hl, e⟩ := I.lstM hH
 refine call_meets F.slot_list_append ⟨_, e, rfl⟩ F.entry_list_append (F.args_list_append_2 _ _) (PySem.list_append l its.toArray n u (by rw [List.size_toArray]; omega)) ⟨e, ?_⟩
 refine ⟨.non, _, I.lset (its' := its ++ [u]) hH e (by simp) (r.append (.cons ru .nil)) ?_, rfl, q⟩
 rw [List.length_append, List.length_singleton]
 omega
end
section
variable {prog : Program} {w : World} {A : Around} {E : Value → Shared → Prop} {s : Shared}
set_option maxRecDepth 100000 in
end
section
variable {X : Cx}
end
end L2
namespace L2
open PySem PySem.Spec PyProof.Rows
section
variable {κ : Type} [DecidableEq κ]
def valV (kvs : List (κ × V)) (k : κ) : Option V := (kvs.find? fun kv => decide (kv.1 = k)).map (·.2)
def putK (kvs : List (κ × V)) (k : κ) (v : V) : List (κ × V) :=
 if (kvs.any fun kv => decide (kv.1 = k)) = true then kvs.map (fun kv => if kv.1 = k then (kv.1, v) else kv) else kvs ++ [(k, v)]
def ZP (kvs : List (κ × V)) (k : κ) : List (κ × V) := kvs.filter fun kv => decide (kv.1 ≠ k)
theorem Hn {p : κ × V} {r : List (κ × V)} {k : κ} (e : p.1 = k) : valV (p :: r) k = some p.2 := by simp [valV, List.find?_cons, e]
theorem Ho {p : κ × V} {r : List (κ × V)} {k : κ} (e : ¬ p.1 = k) : valV (p :: r) k = valV r k := by simp [valV, List.find?_cons, e]
theorem KH (k : κ) : ∀ kvs : List (κ × V), (kvs.any fun kv => decide (kv.1 = k)) = (valV kvs k).isSome
 | [] => rfl
 | p :: r => by
  rw [List.any_cons]
  by_cases e : p.1 = k
  ·simp only [Hn e, decide_eq_true e, Bool.true_or, Option.isSome_some]
  ·rw [Ho e, decide_eq_false e, Bool.false_or]; exact KH k r
theorem Jb (kvs : List (κ × V)) (k : κ) (v : V) : (putK kvs k v).length ≤ kvs.length + 1 := by
 unfold putK
 split
 ·rw [List.length_map]; omega
 ·rw [List.length_append, List.length_cons, List.length_nil]; omega
theorem RelO.isSome_eq {o : Option V} {u : Option Value} (r : RelO o u) : o.isSome = u.isSome := by
 cases o with
 | none => cases u with
  | none => rfl
  | some _ => exact (show False from r).elim
 | some _ => cases u with
  | none => exact (show False from r).elim
  | some _ => rfl
theorem RelO.getD {o : Option V} {u : Option Value} {d : V} {d' : Value} (r : RelO o u) (rd : RelV d d') : RelV (o.getD d) (u.getD d') := by
 cases o with
 | none => cases u with
  | none => exact rd
  | some _ => exact (show False from r).elim
 | some _ => cases u with
  | none => exact (show False from r).elim
  | some _ => exact r
theorem KV.val {kvs : List (κ × V)} {vs : List (κ × Value)} (r : KV kvs vs) (k : κ) : RelO (valV kvs k) (valueAt vs k) := by
 unfold KV at r
 induction r with
 | nil => exact True.intro
 | @cons p q ps qs h t ih =>
  obtain ⟨h1, h2⟩ := h
  by_cases e : p.1 = k
  ·have e' : q.1 = k := h1.symm.trans e
   have b : valueAt (q :: qs) k = some q.2 := by simp [valueAt, List.find?_cons, e']
   rw [Hn e, b]; exact h2
  ·have e' : ¬ q.1 = k := fun z => e (h1.trans z)
   have b : valueAt (q :: qs) k = valueAt qs k := by simp [valueAt, List.find?_cons, e']
   rw [Ho e, b]; exact ih
theorem KV.any {kvs : List (κ × V)} {vs : List (κ × Value)} (r : KV kvs vs) (k : κ) : (kvs.any fun kv => decide (kv.1 = k)) = vs.any fun kv => decide (kv.1 = k) := by
 unfold KV at r
 induction r with
 | nil => rfl
 | cons h t ih => rw [List.any_cons, List.any_cons, ih, h.1]
theorem KV.repl {kvs : List (κ × V)} {vs : List (κ × Value)} (r : KV kvs vs) (k : κ) {y : V} {u : Value} (ry : RelV y u) :
  KV (kvs.map fun kv => if kv.1 = k then (kv.1, y) else kv) (vs.map fun kv => if kv.1 = k then (kv.1, u) else kv) := by
 unfold KV at r ⊢
 induction r with
 | nil => exact .nil
 | @cons p q ps qs h t ih =>
  rw [List.map_cons, List.map_cons]
  refine .cons ?_ ih
  obtain ⟨h1, h2⟩ := h
  by_cases e : p.1 = k
  ·rw [if_pos e, if_pos (h1.symm.trans e)]; exact ⟨h1, ry⟩
  ·rw [if_neg e, if_neg (fun z => e (h1.trans z))]; exact ⟨h1, h2⟩
theorem KV.put {kvs : List (κ × V)} {vs : List (κ × Value)} (r : KV kvs vs) (k : κ) {y : V} {u : Value} (ry : RelV y u) : KV (putK kvs k y) (stored vs k u) := by
 unfold putK stored
 rw [r.any k]
 by_cases e : (vs.any fun kv => decide (kv.1 = k)) = true
 ·rw [if_pos e, if_pos e]; exact r.repl k ry
 ·rw [if_neg e, if_neg e]; exact Paired.snoc r ⟨rfl, ry⟩
theorem KV.drop {kvs : List (κ × V)} {vs : List (κ × Value)} (r : KV kvs vs) (k : κ) : KV (ZP kvs k) (without vs k) := by
 unfold KV at r ⊢
 unfold ZP without
 induction r with
 | nil => exact .nil
 | @cons p q ps qs h t ih =>
  obtain ⟨h1, h2⟩ := h
  rw [List.filter_cons, List.filter_cons]
  by_cases e : p.1 = k
  ·have a : ¬ decide (p.1 ≠ k) = true := by simp [e]
   have b : ¬ decide (q.1 ≠ k) = true := by simp [h1.symm.trans e]
   rw [if_neg a, if_neg b]; exact ih
  ·have e' : ¬ q.1 = k := fun z => e (h1.trans z)
   have a : decide (p.1 ≠ k) = true := by simp [e]
   have b : decide (q.1 ≠ k) = true := by simp [e']
   rw [if_pos a, if_pos b]; exact .cons ⟨h1, h2⟩ ih
theorem KV.length {kvs : List (κ × V)} {vs : List (κ × Value)} (r : KV kvs vs) : kvs.length = vs.length := Paired.length r
end
theorem Oa {P : Program} {w : World} {k : Key} {u : Value} (r : RelV (kV k) u) : (Av P w).is k u = true := by
 cases k with
 | inl i => obtain ⟨t, e⟩ := (show ∃ t, u = Value.int i t from r); subst e; exact N7 P w i t
 | inr x => obtain ⟨t, e⟩ := (show ∃ t, u = Value.str x t from r); subst e; exact N8 P w x t
theorem Ln {P : Program} {w : World} : ∀ {ks : List Key} {us : List Value}, Vals (ks.map kV) us → ItemsAre (Av P w) ks us
 | [], _, r => by rw [List.map_nil] at r; cases r; exact .nil
 | k :: ks, _, r => by
  rw [List.map_cons] at r
  cases r with
  | cons h t => exact .cons (Oa h) (Ln t)
abbrev KT (H : Hp) : List (List Key × V) → List (List Key × Addr × Value) → Prop := Paired fun p q => p.1 = q.1 ∧ H q.2.1 = some (.tup (p.1.map kV)) ∧ RelV p.2 q.2.2
theorem KT.val {H : Hp} {kvs : List (List Key × V)} {xs : List (List Key × Addr × Value)} (r : KT H kvs xs) (k : List Key) : RelO (valV kvs k) ((atKey xs k).map (·.2)) := by
 induction r with
 | nil => exact True.intro
 | @cons p q ps qs h t ih =>
  obtain ⟨h1, _, h2⟩ := h
  by_cases e : p.1 = k
  ·have e' : q.1 = k := h1.symm.trans e
   have b : atKey (q :: qs) k = some q.2 := by simp [atKey, List.find?_cons, e']
   rw [Hn e, b]; exact h2
  ·have e' : ¬ q.1 = k := fun z => e (h1.trans z)
   have b : atKey (q :: qs) k = atKey qs k := by simp [atKey, List.find?_cons, e']
   rw [Ho e, b]; exact ih
theorem KT.repl {H : Hp} {kvs : List (List Key × V)} {xs : List (List Key × Addr × Value)} (r : KT H kvs xs) (k : List Key) {y : V} {u : Value} (ry : RelV y u) :
  KT H (kvs.map fun kv => if kv.1 = k then (kv.1, y) else kv) (xs.map (putAt k u)) := by
 induction r with
 | nil => exact .nil
 | @cons p q ps qs h t ih =>
  rw [List.map_cons, List.map_cons]
  refine .cons ?_ ih
  obtain ⟨h1, h2, h3⟩ := h
  unfold putAt
  by_cases e : p.1 = k
  ·rw [if_pos e, if_pos (h1.symm.trans e)]; exact ⟨h1, h2, ry⟩
  ·rw [if_neg e, if_neg (fun z => e (h1.trans z))]; exact ⟨h1, h2, h3⟩
theorem KT.put {H : Hp} {kvs : List (List Key × V)} {xs : List (List Key × Addr × Value)} (r : KT H kvs xs) (k : List Key) {b : Addr} {y : V} {u : Value} (hb : H b = some (.tup (k.map kV))) (ry : RelV y u) :
  KT H (putK kvs k y) (storedH xs k b u) := by
 have e : (kvs.any fun kv => decide (kv.1 = k)) = (atKey xs k).isSome := by
  rw [KH, (r.val k).isSome_eq, Option.isSome_map]
 unfold putK storedH
 rw [e]
 by_cases q : (atKey xs k).isSome = true
 ·rw [if_pos q, if_pos q]; exact r.repl k ry
 ·rw [if_neg q, if_neg q]; exact Paired.snoc r ⟨rfl, hb, ry⟩
theorem KT.keeps {H H' : Hp} {kvs : List (List Key × V)} {xs : List (List Key × Addr × Value)} (r : KT H kvs xs) (ht : ∀ b ys, H b = some (.tup ys) → H' b = some (.tup ys)) : KT H' kvs xs :=
 Paired.mapP r fun _ _ z => ⟨z.1, ht _ _ z.2.1, z.2.2⟩
section
variable {P : Program} {w : World} {H : Hp} {h : Heap} {a : Addr}
theorem Ur {u : HO} (ok : HOk P w H h) (e : Rd H a u) : BK P w H h a u := e.ok ok
theorem Jc {kvs : List (Key × V)} (ok : HOk P w H h) (e : Rd H a (.dK kvs)) : kvs.length ≤ sizeLine ∧ (a == sysModules) = false ∧ ∃ vs, KV kvs vs ∧ h.DictOf (Av P w) a vs :=
 show BK P w H h a (.dK kvs) from Ur ok e
theorem ZQ {kvs : List (Key × V)} (ok : HOk P w H h) (e : H a = some (.dK kvs)) : kvs.length ≤ sizeLine ∧ (a == sysModules) = false ∧ ∃ vs, KV kvs vs ∧ h.DictOf (Av P w) a vs := Jc ok (.inl e)
theorem KJ {ks : List Key} (ok : HOk P w H h) (e : H a = some (.tup (ks.map kV))) : (tupleKind (Av P w)).is h ks a := by
 obtain ⟨_, its, r, o, h1, h2, n, h3⟩ := (show BK P w H h a (.tup (ks.map kV)) from ok a _ e)
 exact ⟨o, its.toArray, n, h1, h2, h3, by simpa using Ln r⟩
theorem Ob {kvs : List (List Key × V)} (ok : HOk P w H h) (e : Rd H a (.dT kvs)) : kvs.length ≤ sizeLine ∧ (a == sysModules) = false ∧
  ∃ xs, KT H kvs xs ∧ h.DictOfH (tupleKind (Av P w)) a xs := by
 obtain ⟨z, y, xs, r, o, es, ep, h1, h2, h3, h4, h5⟩ := (show BK P w H h a (.dT kvs) from Ur ok e)
 refine ⟨z, y, xs, r, o, es, ep, h1, h2, h3, h4, fun x hx => ?_, h5⟩
 have all : ∀ {l : List (List Key × V)} {m : List (List Key × Addr × Value)}, KT H l m → ∀ x ∈ m, (tupleKind (Av P w)).is h x.1 x.2.1 := by
  intro l m q
  induction q with
  | nil => intro x hx; exact nomatch hx
  | @cons p q ps qs hq t ih =>
   intro x hx
   rcases List.mem_cons.mp hx with e | hx
   ·subst e
    exact KJ ok (by rw [← hq.1]; exact hq.2.1)
   ·exact ih x hx
 exact all r x hx
theorem di {kvs : List (List Key × V)} (ok : HOk P w H h) (e : H a = some (.dT kvs)) : kvs.length ≤ sizeLine ∧ (a == sysModules) = false ∧
  ∃ xs, KT H kvs xs ∧ h.DictOfH (tupleKind (Av P w)) a xs := Ob ok (.inl e)
end
def DGet (H : Hp) (a : Addr) (y : V) (r : Option V) : Prop :=
 (∃ kvs k, Rd H a (.dK kvs) ∧ y = kV k ∧ r = valV kvs k) ∨ ∃ kvs k b, Rd H a (.dT kvs) ∧ y = .ref b ∧ H b = some (.tup (k.map kV)) ∧ r = valV kvs k
def DPut (H : Hp) (a : Addr) (y v : V) (H' : Hp) : Prop :=
 (∃ kvs k, H a = some (.dK kvs) ∧ y = kV k ∧ kvs.length < sizeLine ∧ H' = upd H a (.dK (putK kvs k v))) ∨
 ∃ kvs k b, H a = some (.dT kvs) ∧ y = .ref b ∧ H b = some (.tup (k.map kV)) ∧ kvs.length < sizeLine ∧ H' = upd H a (.dT (putK kvs k v))
theorem DGet.k {H : Hp} {a : Addr} {kvs : List (Key × V)} {k : Key} (e : H a = some (.dK kvs)) : DGet H a (kV k) (valV kvs k) := .inl ⟨kvs, k, .inl e, rfl, rfl⟩
theorem DGet.t {H : Hp} {a b : Addr} {kvs : List (List Key × V)} {k : List Key} (e : H a = some (.dT kvs)) (eb : H b = some (.tup (k.map kV))) : DGet H a (.ref b) (valV kvs k) := .inr ⟨kvs, k, b, .inl e, rfl, eb, rfl⟩
theorem DPut.k {H : Hp} {a : Addr} {kvs : List (Key × V)} {k : Key} {v : V} (e : H a = some (.dK kvs)) (hl : kvs.length < sizeLine) : DPut H a (kV k) v (upd H a (.dK (putK kvs k v))) := .inl ⟨kvs, k, e, rfl, hl, rfl⟩
theorem DPut.t {H : Hp} {a b : Addr} {kvs : List (List Key × V)} {k : List Key} {v : V} (e : H a = some (.dT kvs)) (eb : H b = some (.tup (k.map kV))) (hl : kvs.length < sizeLine) :
  DPut H a (.ref b) v (upd H a (.dT (putK kvs k v))) := .inr ⟨kvs, k, b, e, rfl, eb, hl, rfl⟩
section
variable {X : Cx} {pins : List (Addr × Obj)} {σ : St} {H : Hp} {s : Shared} {a : Addr} {y v : V} {u r : Value} {o : Option V} {A : Around} {E : Value → Shared → Prop}
theorem Inv.big (I : Inv X pins σ H s) : sysModules < s.heap.objs.size := by
 have h : mainGlobals < s.heap.objs.size := (I.mod.glob.keeps I.bk).lt
 exact Nat.lt_trans (by decide) h
theorem TV {Q : Value → Shared → Prop} (hu : A.units + 1 < cLine) (I : Inv X pins σ H s) (g : DGet H a y (some v)) (ry : RelV y u) (h : ∀ w' s', Inv X pins σ H s' → RelV v w' → Q w' s') :
  wpAny (model X.prog X.w) A (getItem (.ref a) u) Q E s := by
 rcases g with ⟨kvs, k, e, ey, l⟩ | ⟨kvs, k, b, e, ey, eb, l⟩
 ·subst ey
  obtain ⟨z, hd, vs, rel, dd⟩ := Jc I.hok e
  obtain ⟨w', hw, rw'⟩ := RelO.some_of (v := v) (o := valueAt vs k) (by rw [l]; exact rel.val k)
  exact wpAny_getItem_of (Oa ry) dd.mapOf hw (h w' _ (I.tok _) rw')
 ·subst ey
  cases (show u = Value.ref b from ry)
  obtain ⟨z, hd, xs, rel, dd⟩ := Ob I.hok e
  obtain ⟨w', hw, rw'⟩ := RelO.some_of (v := v) (o := (atKey xs k).map (·.2)) (by rw [l]; exact rel.val k)
  obtain ⟨p, hp, hp2⟩ := Option.map_eq_some_iff.mp hw
  refine wpAny_getItem_heap (tupleKind_room_in1 hu) (KJ I.hok eb) dd hp ?_
  rw [hp2]
  exact h w' _ (I.tok _) rw'
theorem d_in {Q : Value → Shared → Prop} (hu : A.units + 1 < cLine) (I : Inv X pins σ H s) (g : DGet H a y o) (ry : RelV y u) (h : ∀ s', Inv X pins σ H s' → Q (.bool o.isSome) s') :
  wpAny (model X.prog X.w) A (compareOp .In u (.ref a)) Q E s := by
 rcases g with ⟨kvs, k, e, ey, l⟩ | ⟨kvs, k, b, e, ey, eb, l⟩
 ·subst ey
  obtain ⟨z, hd, vs, rel, dd⟩ := Jc I.hok e
  refine wpAny_in_of (Oa ry) hd dd.mapOf ?_
  rw [← (rel.val k).isSome_eq, ← l]
  exact h _ (I.tok _)
 ·subst ey
  cases (show u = Value.ref b from ry)
  obtain ⟨z, hd, xs, rel, dd⟩ := Ob I.hok e
  refine wpAny_in_heap (tupleKind_room_in1 hu) (KJ I.hok eb) hd dd ?_
  have q := (rel.val k).isSome_eq
  rw [Option.isSome_map] at q
  rw [← q, ← l]
  exact h _ (I.tok _)
theorem X7 {Q : Value → Shared → Prop} (hu : A.units + 1 < cLine) (I : Inv X pins σ H s) (g : DGet H a y o) (ry : RelV y u) (h : ∀ s', Inv X pins σ H s' → Q (.bool (!o.isSome)) s') :
  wpAny (model X.prog X.w) A (compareOp .NotIn u (.ref a)) Q E s := by
 rcases g with ⟨kvs, k, e, ey, l⟩ | ⟨kvs, k, b, e, ey, eb, l⟩
 ·subst ey
  obtain ⟨z, hd, vs, rel, dd⟩ := Jc I.hok e
  refine wpAny_notIn_of (Oa ry) hd dd.mapOf ?_
  rw [← (rel.val k).isSome_eq, ← l]
  exact h _ (I.tok _)
 ·subst ey
  cases (show u = Value.ref b from ry)
  obtain ⟨z, hd, xs, rel, dd⟩ := Ob I.hok e
  refine wpAny_notIn_heap (tupleKind_room_in1 hu) (KJ I.hok eb) hd dd ?_
  have q := (rel.val k).isSome_eq
  rw [Option.isSome_map] at q
  rw [← q, ← l]
  exact h _ (I.tok _)
theorem Jw {h' : Heap} {t' : Nat} {ob : HO} (I : Inv X pins σ H s) (mu : Mut (H a)) (hs : Heap.SameBut a s.heap h') (he : ∃ q, h'.get? a = some q) (new : BK X.prog X.w (upd H a ob) h' a ob) :
  Inv X pins σ (upd H a ob) { s with heap := h', toks := t' } :=
 I.write (x := a) (e := a) mu (.inl rfl) (fun b q hb z => (hs.2 b hb).trans z) he new
theorem bC {P : Program} {w : World} {H' : Hp} {h' : Heap} {kvs : List (Key × V)} {vs : List (Key × Value)} (z : kvs.length ≤ sizeLine) (hd : (a == sysModules) = false) (rel : KV kvs vs) (dd : h'.DictOf (Av P w) a vs) :
  BK P w H' h' a (.dK kvs) := ⟨z, hd, vs, rel, dd⟩
theorem TX {H' : Hp} {Q : Unit → Shared → Prop} (hu : A.units + 1 < cLine) (I : Inv X pins σ H s) (g : DPut H a y v H') (ry : RelV y u) (rv : RelV v r) (h : ∀ s', Inv X pins σ H' s' → Q () s') :
  wpAny (model X.prog X.w) A (setItem (.ref a) u r) Q E s := by
 rcases g with ⟨kvs, k, e, ey, l, eH⟩ | ⟨kvs, k, b, e, ey, eb, l, eH⟩
 ·subst ey eH
  obtain ⟨z, hd, vs, rel, dd⟩ := ZQ I.hok e
  have hz : vs.length ≤ sizeLine := by rw [← rel.length]; exact z
  have hl : (putK kvs k v).length ≤ sizeLine := by have := Jb kvs k v; omega
  refine wpAny_setItem_pairs (hsz := hz) (Oa ry) dd fun h' dd' hs => h _ ?_
  have he : ∃ q, h'.get? a = some q := let ⟨q, _, _, hq, _⟩ := dd'; ⟨q, hq⟩
  exact Jw I (by rw [e]; exact True.intro) hs he (bC hl hd (rel.put k rv) dd')
 ·subst ey eH
  cases (show u = Value.ref b from ry)
  obtain ⟨z, hd, xs, rel, dd⟩ := di I.hok e
  have hz : xs.length ≤ sizeLine := by rw [← Paired.length rel]; exact z
  have hl : (putK kvs k v).length ≤ sizeLine := by have := Jb kvs k v; omega
  refine wpAny_setItem_heap (hsz := hz) (tupleKind_room_in1 hu) (KJ I.hok eb) dd fun h' dd' hs => h _ ?_
  obtain ⟨q, es, ep, hq, h2, h3, h4, _, h5⟩ := dd'
  refine Jw I (by rw [e]; exact True.intro) hs ⟨q, hq⟩ ⟨hl, hd, _, (rel.put k eb rv).keeps fun c ys ec => ?_, q, es, ep, hq, h2, h3, h4, h5⟩
  rw [Af (ZJ ec e (fun z => nomatch z))]
  exact ec
end
section
variable {X : Cx} {pins : List (Addr × Obj)} {σ : St} {H : Hp} {s : Shared} {a : Addr} {kvs : List (Key × V)} {k : Key} {u : Value} {A : Around} {E : Value → Shared → Prop}
theorem dj {Q : Value → Shared → Prop} (I : Inv X pins σ H s) (e : Rd H a (.dK kvs)) (h : ∀ t s', Inv X pins σ H s' → Q (.int kvs.length t) s') : wpAny (model X.prog X.w) A (call (.builtin "len") [.ref a]) Q E s := by
 obtain ⟨z, hd, vs, rel, dd⟩ := Jc I.hok e
 refine call_len_dict hd dd (by rw [← rel.length]; rw [sizeLine_eq] at z; omega) ?_
 rw [← rel.length]
 exact h _ _ (I.tok _)
end
theorem Oc {X : Cx} {pins : List (Addr × Obj)} {σ : St} {H : Hp} {s : Shared} {a : Addr} {y : V} {o : Option V} (I : Inv X pins σ H s) (g : DGet H a y o) : s.TypeIs (.ref a) "dict" := by
 rcases g with ⟨kvs, k, e, _, _⟩ | ⟨kvs, k, b, e, _, _, _⟩
 ·obtain ⟨_, _, vs, _, dd⟩ := Jc I.hok e
  exact dd.typeIs
 ·obtain ⟨_, _, xs, _, dd⟩ := Ob I.hok e
  exact dd.typeIs
def dm (td ty tv : TE) : TS := fun D σ H => tv σ H fun v H1 => td σ H1 fun x H2 => ty σ H2 fun y H3 => ∃ a H4, x = .ref a ∧ DPut H3 a y v H4 ∧ D.nx σ H4
section
variable {X : Cx} {o i e value : Expr} {pos pos' tpos : Pos} {td ty tv : TE}
theorem Mt (hu : X.A.units + 1 < cLine) (ho : PE X o td) (hi : PE X i ty) (hv : PE X value tv) (hs : swapsWith value (some (.Subscript o i pos')) pos.line X.env = pure false) :
  PS X (.Assign [.Subscript o i pos'] value pos) (dm td ty tv) := by
 intro pins s σ H D I h
 refine wpAny_Assign_Subscript (thn (hv pins s σ H _ I h) fun r s1 ⟨v, H1, I1, rv, q1⟩ => thn (ho pins s1 σ H1 _ I1 q1) fun u s2 ⟨x, H2, I2, rx, q2⟩ => thn (hi pins s2 σ H2 _ I2 q2) fun iv s3 ⟨y, H3, I3, ry, a, H4, ex, g, q3⟩ => ?_) hs
 subst ex
 obtain rfl : u = Value.ref a := rx
 exact TX hu I3 g ry rv fun s4 I4 => ⟨σ, H4, I4, q3⟩
end
theorem Us {P : Program} {w : World} {H : Hp} (h : Heap) (hb : sysModules < h.objs.size) : BK P w H (h.push { cls := .type "dict", data := .dict #[] }) h.objs.size (.dK []) :=
 ⟨Nat.zero_le _, beq_eq_false_iff_ne.mpr (Ne.symm (Nat.ne_of_lt hb)), [], .nil, Heap.DictOf.new h⟩
theorem Ut {P : Program} {w : World} {H : Hp} (h : Heap) (hb : sysModules < h.objs.size) : BK P w H (h.push { cls := .type "dict", data := .dict #[] }) h.objs.size (.dT []) :=
 ⟨Nat.zero_le _, beq_eq_false_iff_ne.mpr (Ne.symm (Nat.ne_of_lt hb)), [], .nil, _, #[], 0, Heap.get?_push_size _ rfl, ⟨rfl, rfl, rfl⟩, rfl, rfl, List.nodup_nil⟩
def bD : TE := fun _ H Q => ∀ p, H p = none → Q (.ref p) (upd H p (.dK []))
def bG : TE := fun _ H Q => ∀ p, H p = none → Q (.ref p) (upd H p (.dT []))
section
variable {X : Cx} {pos : Pos}
theorem Uu : PE X (.Dict [] [] pos) bD := fun pins s σ H Q I h =>
 wpAny_Dict_empty ⟨.ref s.heap.objs.size, _, I.laid (a := s.heap.objs.size) (o := .dK []) (t' := s.toks) (fun _ _ q => Heap.get?_push_of_some _ q) (Nat.le_refl _) (Us s.heap I.big), rfl, h _ (I.hok.fresh (Nat.le_refl _))⟩
theorem Uv : PE X (.Dict [] [] pos) bG := fun pins s σ H Q I h =>
 wpAny_Dict_empty ⟨.ref s.heap.objs.size, _, I.laid (a := s.heap.objs.size) (o := .dT []) (t' := s.toks) (fun _ _ q => Heap.get?_push_of_some _ q) (Nat.le_refl _) (Ut s.heap I.big), rfl, h _ (I.hok.fresh (Nat.le_refl _))⟩
end
section
variable {X : Cx} {pins : List (Addr × Obj)} {σ : St} {H : Hp} {s : Shared} {a : Addr} {y d : V} {u r : Value} {o : Option V} {A : Around} {E : Value → Shared → Prop}
end
section
variable {X : Cx} {o e f : Expr} {apos cpos : Pos} {td ty tx : TE}
end
section
variable {X : Cx} {pins : List (Addr × Obj)} {σ : St} {H : Hp} {s : Shared} {a : Addr} {kvs : List (Key × V)} {A : Around} {E : Value → Shared → Prop}
end
section
variable {X : Cx} {pins : List (Addr × Obj)} {σ : St} {H : Hp} {s : Shared} {a : Addr} {y : V} {u : Value} {A : Around} {E : Value → Shared → Prop}
end
end L2
namespace Att
open PySem PySem.W PySem.Calls PyProof.Rows
theorem Jt {P : Params} {h : Heap} : ∀ (ns : List Int) (vs : List Value), WellAll P h vs (ns.map WData.int) → IntsAre vs ns := by
 intro ns
 induction ns with
 | nil =>
  intro vs w
  rw [List.map_nil] at w
  cases w
  exact .nil
 | cons n ns ih =>
  intro vs w
  rw [List.map_cons] at w
  cases w with
  | cons a b =>
   cases a
   exact .cons _ _ (ih _ b)
theorem TY {l : OpenLaw} {n : Nat} (hn : l.most = some n) {P : Params} {h : Heap} {args : List WData} {vals : List Value}
  (hpre : l.row.toRowW.claim.pre args = true) (hwl : WellAll P h vals args) :
  ∃ a vs ns, vals = [Value.ref a] ∧ args = [WData.list (ns.map WData.int)] ∧ h.get? a = some { cls := .type "list", data := .seq vs.toArray } ∧ IntsAre vs ns ∧ ns.length ≤ n := by
 have hsh : WShape.hasAll [] args [.list .int] = true := (pre_splitW hpre).1
 have hc : l.pre.holds [] { args := args } = true := (pre_splitW hpre).2
 obtain ⟨d, r, rfl, h1, h2⟩ := hasAllW_cons hsh
 obtain rfl := hasAllW_nil h2
 obtain ⟨xs, rfl, h3⟩ := hasW_list h1
 obtain ⟨ns, rfl⟩ := items_int h3
 have hlen : ns.length ≤ n := by
  unfold OpenLaw.pre at hc
  have h4 : (WTm.not (.lt (.lit (.int (n : Int))) (.len (.arg 0)))).holds [] { args := [.list (ns.map .int)] } = true := by
   have h4 := (holds_andW hc).1
   rw [hn] at h4
   exact h4
  have h5 := condW_of h4 (w_not (w_lt w_lit (w_len_list (w_arg rfl))))
  rw [List.length_map] at h5
  refine Nat.le_of_not_lt fun q => ?_
  have q' : (n : Int) < ((ns.length : Nat) : Int) := by omega
  first
   | (rw [decide_eq_true q'] at h5; exact absurd h5 (by decide))
   | (simp at h5; omega)
 cases hwl with
 | cons w1 w2 =>
  cases w2
  cases w1 with
  | list ho hall => exact ⟨_, _, ns, rfl, rfl, ho, Jt ns _ hall, hlen⟩
theorem Tc (l : OpenLaw) (args : List WData) : l.row.toRowW.claim.post args (.bool true) args = true :=
 postW_of (r := l.row.toRowW) (X := (true == true))
  (show WShape.has [] (.bool true) .bool = true by first | rfl | decide | simp [WShape.has, WShape.arms, WShape.armsAll])
  (show (WTm.eq .res (.lit (.bool true))).value [] { args := args, res := some (.bool true), after := args } = some (.bool (true == true)) from w_eq_bool (w_res rfl) w_lit) rfl
section
variable {prog : Program} {w : World} {A : Around} {E : Value → Shared → Prop} {s : Shared} {K : Frag}
end
end Att
namespace L2
open PySem PySem.Spec PyProof.Rows
theorem Lp : ∀ {vs : List Value} {ns : List Int}, IntsAre vs ns → Vals (ns.map V.int) vs
 | _, _, .nil => .nil
 | _, _, .cons n t h => .cons ⟨t, rfl⟩ (Lp h)
def Only (H : Hp) : Prop := ∀ b, H b = none ∨ ∃ o xs, H b = some (.frz o (.lst xs))
theorem Uw {P : Program} {w : World} {K : PySem.W.Frag} {mg mb : Str → Option Value} {CX : CXT} {k : Nat} {fa a : Addr} {fd : FuncData} {x : Str} {sp : Sp} {s₁ : Shared} {vs : List Value} {ns : List Int}
    (KX : K.In s₁.heap) (hns : s₁.heap.Ns mainGlobals mg) (hb : s₁.heap.Ns builtinsNs mb) (hbb : ∀ x : Str, x ≠ "__name__" → mb x = bootBuiltins x) (hlim : s₁.heap.NoLimit) (hg : s₁.gens = #[])
    (ha : s₁.heap.get? a = some { cls := .type "list", data := .seq vs.toArray }) (hi : IntsAre vs ns) (hl : ns.length ≤ sizeLine) (hr : Room k callerA)
    (F : ∀ base : Heap, K.In base → base.Ns mainGlobals mg → FnOk P w K mg base CX k fa fd [x] sp) (hbind : ∀ (s : Shared) (u : Value), BindsTo s fd ⟨[u], []⟩ [(x, u)])
    (hsp : ∀ H : Hp, Only H → SqL K H a (ns.map V.int) → sp [.ref a] H (fun v _ => v = .bl true) fun _ _ _ => False)
    (hCX : ∀ H e s', CX [] H s₁ (fun _ _ _ => False) e s' → False) :
    codeAny (model P w) callerA (.call (.ref fa) ⟨[.ref a], []⟩) (fun r s' => r = .ok (.ret (.bool true)) ∧ OldK s₁.heap s'.heap ∧ s'.os = s₁.os ∧ AllBare s'.gens) s₁ := by
  have rv := Lp hi
  have lenV := hi.length
  have core : ∀ H : Hp, Only H → SqL K H a (ns.map V.int) → HOk P w H s₁.heap → (∀ b, H b ≠ none → b = a) → (H a ≠ none → K.lookup a = none) →
      codeAny (model P w) callerA (.call (.ref fa) ⟨[.ref a], []⟩) (fun r s' => r = .ok (.ret (.bool true)) ∧ OldK s₁.heap s'.heap ∧ s'.os = s₁.os ∧ AllBare s'.gens) s₁ := by
    intro H hO hS hok hA hK
    have base_of : ∀ {b : Addr} {o : Obj}, s₁.heap.get? b = some o → H b = none → (hidT s₁.heap H).get? b = some o := fun e n => T9 e n
    have noA : ∀ {b : Addr} {o : Obj} {es : Array DictEntry} {ep : Nat}, s₁.heap.get? b = some o → o.data = .dict es ep → H b = none := fun {b o es ep} e d => by
      cases q : H b with
      | none => rfl
      | some u =>
        have e' : b = a := hA b (by rw [q]; simp)
        subst e'
        rw [ha] at e; cases e
        have d' : Data.seq vs.toArray _ = Data.dict es ep := d
        cases d'
    have nsK : ∀ {b : Addr} {m : Str → Option Value}, s₁.heap.Ns b m → (hidT s₁.heap H).Ns b m := fun {b m} ⟨o, es, ep, e, d, r⟩ => ⟨o, es, ep, base_of e (noA e d), d, r⟩
    have hKb : K.In (hidT s₁.heap H) := fun b o e => base_of (KX b o e) (by
      cases q : H b with
      | none => rfl
      | some u =>
        have e' : b = a := hA b (by rw [q]; simp)
        subst e'
        rw [hK (by rw [q]; simp)] at e; cases e)
    have hM : Mod K mg (hidT s₁.heap H) := ⟨hKb, nsK hns, ⟨mb, nsK hb, hbb⟩, let ⟨mc, h1, h2⟩ := hlim; ⟨mc, nsK h1, h2⟩⟩
    have e0 : Env0 P w K mg (hidT s₁.heap H) callerA [] s₁ H := ⟨rfl, hM, fun b o e => Xk e, Nat.le_of_eq (S5 _ _), trivial, fun b hb => absurd (show b ∈ ([] : List Addr) from hb) (by simp), hok, .of_eq hg⟩
    refine codeAny_mono ((F _ hKb (nsK hns)).run callerA [] s₁ H ⟨[.ref a], []⟩ [.ref a] [.ref a] _ _ hr e0 (hbind s₁ (.ref a)) (.cons rfl .nil) (hsp H hO hS)) fun r s' h => ?_
    cases r with
    | error e => exact (hCX H e s' h).elim
    | ok fl =>
      cases fl with
      | next => exact False.elim h
      | brk => exact False.elim h
      | cont => exact False.elim h
      | ret u =>
        obtain ⟨v, H', os, bare, un, hok', r', q⟩ := h
        have q' : v = .bl true := q
        subst q'
        obtain rfl : u = Value.bool true := r'
        refine ⟨rfl, OldK.of_keep fun b o e => ?_, os, bare⟩
        cases q : H b with
        | none => exact un.keep b o e q (by intro z; exact absurd (show b ∈ ([] : List Addr) from z) (by simp)) (by simp)
        | some u =>
          rcases hO b with z | ⟨ob, xs, z⟩
          · rw [q] at z; cases z
          · have z2 := un.frzs b ob _ z
            obtain ⟨e1, _⟩ := hok b _ z
            obtain ⟨e2, _⟩ := hok' b _ z2
            rw [e] at e1; cases e1
            exact e2
  cases hk : K.lookup a with
  | some o =>
    have e := KX a o hk
    rw [ha] at e
    cases e
    refine core (fun _ => none) (fun _ => .inl rfl) (.inr ⟨_, vs.toArray, _, hk, rfl, rfl, rfl, by rw [List.size_toArray, lenV]; exact hl, by simpa using rv⟩) (fun b u z => by have z' : (none : Option HO) = some u := z; cases z') (fun b z => absurd rfl z) fun z => absurd rfl z
  | none =>
    refine core (fun b => if b = a then some (.frz { cls := .type "list", data := .seq vs.toArray } (.lst (ns.map V.int))) else none) (fun b => ?_) (.inl (.inr ⟨{ cls := .type "list", data := .seq vs.toArray }, if_pos rfl⟩)) (fun b u z => ?_) (fun b z => ?_) fun _ => hk
    · by_cases hb : b = a
      · exact .inr ⟨_, _, if_pos hb⟩
      · exact .inl (if_neg hb)
    · by_cases hb : b = a
      · have z' := (if_pos hb).symm.trans z
        cases z'
        subst hb
        exact ⟨ha, by rw [List.length_map]; exact hl, vs, _, rv, ha⟩
      · have z' := (if_neg hb).symm.trans z
        cases z'
    · by_cases hb : b = a
      · exact hb
      · exact absurd (if_neg hb) z
end L2
namespace L2
open PySem PySem.Spec PyProof.Rows
abbrev KOf {K : PySem.W.Frag} {h : Heap} (_ : K.In h) : PySem.W.Frag := K
end L2
namespace L2
open PySem PySem.Spec PyProof.Rows
def inClass (s : Stmt) (j : Nat) : Stmt := match s with
 | .ClassDef _ _ _ body _ _ _ _ _ _ _ => body.getD j (.Pass ⟨0, 0, 0, 0⟩)
 | _ => .Pass ⟨0, 0, 0, 0⟩
def Bp (s : Stmt) : Arguments := match s with
 | .FunctionDef _ a _ _ _ _ _ _ _ _ => a
 | _ => { posonlyargs := [], args := [], vararg := none, kwonlyargs := [], kw_defaults := [], kwarg := none, defaults := [] }
def Aw (s : Stmt) : List Stmt := match s with
 | .FunctionDef _ _ b _ _ _ _ _ _ _ => b
 | _ => []
def Ab (s : Stmt) : Scope := match s with
 | .FunctionDef _ _ _ _ _ _ sc _ _ _ => sc
 | _ => { kind := .function, names := [], isGenerator := false, isCoroutine := false }
abbrev CX0 : CXT := fun _ _ _ _ _ _ => False
abbrev E0 : XK := fun _ _ _ => False
theorem Ux {X : Cx} : Iw CX0 X E0 := fun _ _ _ _ _ _ _ h => h.elim
structure Fun (K : PySem.W.Frag) (x qual : Str) (st : Stmt) (f : Addr) (fd : FuncData) : Prop where
 ex : ∃ (oc : Value) (od : Option Addr) (kV doc pm : Value) (an : Option Addr) (cdv ct : Value) (osl : Array (Option Value)),
  fd = PySem.W.fnOf x qual (Bp st) (Aw st) (Ab st) .none kV doc pm an cdv ct ∧ K.lookup f = some ⟨oc, od, .func fd, osl⟩ ∧ PySem.W.codeIn K cdv qual = true
 kp : PySem.W.keepIn K (.ref f) = true
section
variable {P : Program} {w : World} {K : PySem.W.Frag} {mg : Str → Option Value} {base : Heap}
theorem Fun.ok {x qual : Str} {st : Stmt} {f : Addr} {fd : FuncData} {N ps : List Str} {k : Nat} {sp : Sp} (F : Fun K x qual st f fd) (S : FnScope N ps (Ab st)) (len : ∀ vs H Q E, sp vs H Q E → vs.length = ps.length)
  (hbody : ∀ (cdv : Value) (A : Around) (outer : List Env) (s : Shared) (H : Hp) (vs : List V) (Q : VK) (E : XK), Room k (A.deeper (envOfC qual (Ab st) s.heap.objs.size f cdv)) → sp vs H Q E →
   ∃ t, PSs (cxOf CX0 P w K mg base N qual (Ab st) f cdv A outer s H E).nox (Aw st) t ∧ t { nx := fun _ H' => Q .non H', rt := Q } (start N vs) H) : FnOk P w K mg base CX0 (k + 1) f fd ps sp := by
 obtain ⟨oc, od, kV, doc, pm, an, cdv, ct, osl, rfl, lk, hcd⟩ := F.ex
 refine Qo lk hcd S len fun A outer s H vs Q E hr hsp => ?_
 obtain ⟨t, h, q⟩ := hbody cdv A outer s H vs Q E hr hsp
 exact ⟨t, h.nox, q⟩
theorem Fun.binds {x qual : Str} {st : Stmt} {f : Addr} {fd : FuncData} {ps : List Str} (F : Fun K x qual st f fd)
  (h : ∀ (kV doc pm : Value) (an : Option Addr) (cdv ct : Value) (us : List Value), us.length = ps.length → bindArgs (PySem.W.fnOf x qual (Bp st) (Aw st) (Ab st) .none kV doc pm an cdv ct) ⟨us, []⟩ = pure (ps.zip us)) : Binds K fd ps [] := by
 obtain ⟨oc, od, kV, doc, pm, an, cdv, ct, osl, rfl, lk, hcd⟩ := F.ex
 exact .all (h kV doc pm an cdv ct)
theorem HQ {x qual : Str} {st : Stmt} {f : Addr} {oc : Value} {od an : Option Addr} {osl : Array (Option Value)} {kV doc pm cdv ct : Value} (l : K.lookup f = some ⟨oc, od, .func (PySem.W.fnOf x qual (Bp st) (Aw st) (Ab st) .none kV doc pm an cdv ct), osl⟩)
  (c : PySem.W.codeIn K cdv qual = true) (k : PySem.W.keepIn K (.ref f) = true) : Fun K x qual st f (PySem.W.fnOf x qual (Bp st) (Aw st) (Ab st) .none kV doc pm an cdv ct) := ⟨⟨oc, od, kV, doc, pm, an, cdv, ct, osl, rfl, l, c⟩, k⟩
end
theorem GF {A : Around} {k : Nat} (hr : Room k A) : A.units + 1 < cLine := Nat.lt_of_le_of_lt (Nat.add_le_add_left (by decide : 1 ≤ 64) _) hr.units
section
variable {X : Cx}
theorem pv (i : Nat) {x : Str} {pos : Pos} (hN : X.N[i]? = some x := by rfl) (hv : Vis X.env.scope x := by first | exact Or.inl rfl | exact Or.inr (Or.inl rfl) | exact Or.inr (Or.inr rfl)) (hd : (x == ("__debug__" : Str)) = false := by decide)
  (hcd : (x == ("__classdict__" : Str)) = false := by decide) : PE X (.Name x pos) (tVar i) := aN hN hv hd hcd
end
theorem iteF {A B : Prop} (h : B) : if false = true then A else B := by
 rw [if_neg Bool.false_ne_true]
 exact h
theorem iteT {A B : Prop} (h : A) : if true = true then A else B := by
 rw [if_pos rfl]
 exact h
def Same (H H' : Hp) : Prop := ∀ b o, H b = some o → H' b = some o
theorem Same.refl (H : Hp) : Same H H := fun _ _ h => h
theorem Same.trans {H H1 H2 : Hp} (a : Same H H1) (b : Same H1 H2) : Same H H2 := fun c o h => b c o (a c o h)
theorem Same.free {H H' : Hp} (e : Same H H') {l : Addr} (h : H' l = Option.none) : H l = Option.none := by
 cases q : H l with
 | none => rfl
 | some o =>
  rw [e l o q] at h
  cases h
theorem Same.seq {K : PySem.W.Frag} {H H' : Hp} {a : Addr} {xs : List V} (e : Same H H') (h : SqL K H a xs) : SqL K H' a xs := by
 rcases h with (h | ⟨o, h⟩) | h
 ·exact .inl (.inl (e _ _ h))
 ·exact .inl (.inr ⟨o, e _ _ h⟩)
 ·exact .inr h
section
variable {κ : Type} [DecidableEq κ]
end
end L2
namespace EX
open PySem PySem.Spec L2
open PyProof.Rows hiding St
def tbV : Option Addr → Value
 | none => .none
 | some T => .ref T
def ExcP (a C : Addr) (od tb : Option Addr) : Heap → Prop := fun h => ∃ o vs, h.get? a = some o ∧ o.cls = .ref C ∧ o.dict = od ∧ o.data = .fields vs ∧ vs.size = 6 ∧ vs[1]? = some (tbV tb)
def TbP (T : Addr) (v : Value) : Heap → Prop := fun h => ∃ o ts, h.get? T = some o ∧ o.data = .fields ts ∧ ts[3]? = some v ∧ o.cls = .type "traceback"
abbrev excO (a C : Addr) (od tb : Option Addr) : HO := .ext (ExcP a C od tb)
abbrev tbO (T : Addr) (v : Value) : HO := .ext (TbP T v)
theorem ExcP.ok {P : Program} {w : World} {H : Hp} {h : Heap} {a C : Addr} {od tb : Option Addr} (x : ExcP a C od tb h) : BK P w H h a (excO a C od tb) :=
 ⟨x, let ⟨o, _, e, _⟩ := x; ⟨o, e⟩, fun h1 h2 ⟨o, vs, e, r⟩ k => ⟨o, vs, k o e, r⟩⟩
theorem TbP.ok {P : Program} {w : World} {H : Hp} {h : Heap} {a : Addr} {v : Value} (x : TbP a v h) : BK P w H h a (tbO a v) :=
 ⟨x, let ⟨o, _, e, _⟩ := x; ⟨o, e⟩, fun h1 h2 ⟨o, vs, e, r⟩ k => ⟨o, vs, k o e, r⟩⟩
theorem X8 (f : Array Value → Array Value) (o : Obj) : (Obj.mapFields f o).dict = o.dict := by
 unfold Obj.mapFields
 split <;> rfl
section
variable {X : Cx} {pins : List (Addr × Obj)} {σ : St} {H : Hp} {s : Shared} {e C : Addr} {od tb : Option Addr}
theorem Td {h' : Heap} (I : Inv X pins σ H s) (x : Heap.SlotsOnly (frs X.stack) s.heap h') : Inv X pins σ H { s with heap := h' } := by
 have k : ∀ b o, s.heap.get? b = some o → H b = none → b ∉ frs X.stack → h'.get? b = some o := fun b o q _ hb => (x.2.1 b hb).trans q
 refine I.call (g' := s.gens) (d' := s.drawn) (t' := s.toks) (ch := []) ⟨fun b o q n hb _ => k b o q n hb, fun b o q _ _ _ => x.2.2 b o q, fun _ _ _ n _ => n, fun b o q _ => let ⟨_, z⟩ := x.2.2 b o q; ⟨_, z⟩, fun _ _ q => q, fun _ _ _ q => q, fun _ ps q => ⟨#[], by rw [q]; simp⟩⟩ (fun b u q => ?_) I.bare fun _ z => nomatch z
 have no : ∀ c v, H c = some v → c ∉ frs X.stack := fun c v q z => by rw [I.stkFree c z] at q; cases q
 refine (I.hok b u q).stay (fun c v hc r => (x.2.1 c ?_).trans r) (fun _ r => r) fun _ _ r => r
 rcases hc with z | z
 ·rw [z]; exact no b u q
 ·exact no c _ z
theorem Hq {a : Addr} {o : Obj} {vs : Array Value} {u u' : HO} {i : Nat} {v : Value} (I : Inv X pins σ H s) (hH : H a = some u) (mu : Mut (some u)) (ho : s.heap.get? a = some o) (hd : o.data = .fields vs)
  (new : ∀ h' o', h'.get? a = some o' → o'.cls = o.cls → o'.dict = o.dict → o'.data = .fields (vs.setIfInBounds i v) → BK X.prog X.w (upd H a u') h' a u') :
  Inv X pins σ (upd H a u') { s with heap := s.heap.update a (Obj.mapFields (·.setIfInBounds i v)) } := by
 have hd' := Obj.data_mapFields hd (·.setIfInBounds i v)
 have g := Heap.get?_update_self (Obj.mapFields (·.setIfInBounds i v)) ho (Obj.isFreed_of_fields hd')
 exact I.write (x := a) (e := a) (t' := s.toks) (by rw [hH]; exact mu) (.inl rfl) (fun b q nb z => (Heap.get?_update_other _ _ (Ne.symm nb)).trans z) ⟨_, g⟩ (new _ _ g (Obj.cls_mapFields _ _) (X8 _ _) hd')
structure Noted (X : Cx) (pins : List (Addr × Obj)) (σ : St) (H : Hp) (e C : Addr) (od tb : Option Addr) (T : Addr) (H' : Hp) (s' : Shared) : Prop where
 inv : Inv X pins σ H' s'
 exc : H' e = some (excO e C od (some T))
 tbk : H' T = some (tbO T .none)
 new : H T = none
 rest : ∀ b u, b ≠ e → tb ≠ some b → H b = some u → H' b = some u
theorem Od {E : Value → Shared → Prop} {Q : Unit → Shared → Prop} {M : Model} {L : Addr} {head : Value} {hadNext : Bool} (hst : X.stack = X.env :: X.outer) (hf : X.env.frame = some L) (I : Inv X pins σ H s) (he : H e = some (excO e C od tb))
  (k : ∀ T H' s', Noted X pins σ H e C od none T H' s' → Q () s') :
  wpAny M X.A (do let a ← frameOf X.env; let pl ← entryPlaceOf L hadNext; let b ← EntryCells.newEntry head a .none (rawInt L) .none pl; setField (.ref e) 1 b) (fun _ s₂ => wpAny M X.A (setFlight (.ref e) none) Q E s₂) E s := by
 refine wpAny_bind (wpAny_frameOf_fun (base := X.base) (outer := X.outer) (hst ▸ I.ok.frames) (hst ▸ I.stack) hf fun h1 x1 => ?_)
 have I1 := Td I (h' := h1) (hst ▸ x1)
 refine wpAny_bind (wpAny_entryPlaceOf fun pl hpl => ?_)
 unfold EntryCells.newEntry newFields
 refine wpAny_bind (wpAny_newObj_type ?_ (hpl.sizeOk5 _ _ _ _ _))
 have h3 : ([head, .ref L, .none, rawInt L, .none] ++ (if pl.isEmpty then List.replicate 6 Value.none else pl)).toArray[3]? = some (rawInt L) := by simp
 generalize ([head, .ref L, .none, rawInt L, .none] ++ (if pl.isEmpty then List.replicate 6 Value.none else pl)).toArray = ts at h3
 have g2 : (h1.push { cls := .type "traceback", dict := none, data := .fields ts }).get? h1.objs.size = some { cls := .type "traceback", dict := none, data := .fields ts } := Heap.get?_push_size h1 rfl
 have I2 := I1.laid (a := h1.objs.size) (o := tbO h1.objs.size (rawInt L)) (h' := h1.push { cls := .type "traceback", dict := none, data := .fields ts }) (t' := s.toks) (fun b u q => Heap.get?_push_of_some _ q) (Nat.le_refl _) (TbP.ok ⟨_, ts, g2, rfl, h3, rfl⟩)
 have hT : H h1.objs.size = none := I1.hok.fresh (Nat.le_refl _)
 have neT : e ≠ h1.objs.size := Aj he hT
 have he2 : (upd H h1.objs.size (tbO h1.objs.size (rawInt L))) e = some (excO e C od tb) := by rw [Af neT]; exact he
 obtain ⟨⟨o, vs, q1, q2, q3, q4, q5, q6⟩, _⟩ := I2.hok e _ he2
 refine wpAny_setField q1 q4 (by omega) ?_
 have I3 := Hq (u' := excO e C od (some h1.objs.size)) (i := 1) (v := .ref h1.objs.size) I2 he2 trivial q1 q4 fun h' o' r1 r2 r3 r4 => ExcP.ok ⟨o', _, r1, r2.trans q2, r3.trans q3, r4, by simpa using q5, by simp [tbV, q5]⟩
 have e3 := Ah (H := upd H h1.objs.size (tbO h1.objs.size (rawInt L))) (a := e) (o := excO e C od (some h1.objs.size))
 have t3 : upd (upd H h1.objs.size (tbO h1.objs.size (rawInt L))) e (excO e C od (some h1.objs.size)) h1.objs.size = some (tbO h1.objs.size (rawInt L)) := by rw [Af (Ne.symm neT)]; exact Ah
 obtain ⟨⟨o5, vs5, p1, p2, p3, p4, p5, p6⟩, _⟩ := I3.hok e _ e3
 unfold setFlight
 refine wpAny_bind (wpAny_field p1 p4 p6 ?_)
 rw [if_pos (show (tbV (some h1.objs.size) != Value.none) = true from by simp [tbV])]
 obtain ⟨⟨o6, ts6, r1, r2, r3, r4⟩, _⟩ := I3.hok h1.objs.size _ t3
 have z3 : 3 < ts6.size := (Array.getElem?_eq_some_iff.mp r3).1
 refine wpAny_setField r1 r2 z3 ?_
 have I4 := Hq (u' := tbO h1.objs.size .none) (i := 3) (v := (none : Option Addr).elim Value.none fun f => rawInt f) I3 t3 trivial r1 r2 fun h' o' y1 y2 y3 y4 => TbP.ok ⟨o', _, y1, y4, by simp [z3], y2.trans r4⟩
 refine k h1.objs.size _ _ ⟨I4, ?_, Ah, hT, fun b u hb _ q => ?_⟩
 ·rw [Af neT]; exact e3
 ·have := Aj q hT
  rw [Af this, Af hb, Af this]
  exact q
theorem X_ {E : Value → Shared → Prop} {Q : Unit → Shared → Prop} {M : Model} {L : Addr} (hst : X.stack = X.env :: X.outer) (hf : X.env.frame = some L) (I : Inv X pins σ H s) (he : H e = some (excO e C od tb)) (ht : ∀ T, tb = some T → H T = some (tbO T .none))
  (k : ∀ T H' s', Noted X pins σ H e C od tb T H' s' → Q () s') :
  wpAny M X.A (noteFrame (.ref e) X.env) (fun _ s₂ => wpAny M X.A (setFlight (.ref e) none) Q E s₂) E s := by
 obtain ⟨⟨o, vs, q1, q2, q3, q4, q5, q6⟩, _⟩ := I.hok e _ he
 unfold noteFrame
 simp only [hf]
 refine wpAny_bind (wpAny_field q1 q4 q6 ?_)
 cases tb with
 | none =>
  rw [if_neg (by decide)]
  exact Od hst hf I he fun T H' s' n => k T H' s' n
 | some T0 =>
  have hT0 := ht T0 rfl
  obtain ⟨⟨oT, ts, r1, r2, r3, r4⟩, _⟩ := I.hok T0 _ hT0
  rw [if_pos (show (tbV (some T0) != Value.none) = true from by simp [tbV])]
  refine wpAny_bind (wpAny_field r1 r2 r3 ?_)
  rw [if_neg (show ¬ ((Value.none == rawInt L) = true) from by simp [rawInt])]
  have z3 : 3 < ts.size := (Array.getElem?_eq_some_iff.mp r3).1
  refine wpAny_bind (wpAny_setField r1 r2 z3 ?_)
  have I1 := Hq (u' := tbO T0 .none) (i := 3) (v := .none) I hT0 trivial r1 r2 fun h' o' y1 y2 y3 y4 => TbP.ok ⟨o', _, y1, y4, by simp [z3], y2.trans r4⟩
  have ne : e ≠ T0 := fun z => by
   subst z
   rw [r1] at q1
   cases q1
   rw [r4] at q2
   cases q2
  refine Od hst hf I1 (tb := some T0) (by rw [Af ne]; exact he) fun T H' s' n => k T H' s' ⟨n.inv, n.exc, n.tbk, ?_, fun b u hb hb' q => n.rest b u hb (by simp) (by rw [Af (fun z => hb' (by rw [z]))]; exact q)⟩
  have := n.new
  by_cases z : T = T0
  ·subst z; rw [Ah] at this; cases this
  ·rwa [Af z] at this
end
end EX
namespace PV
open PySem L2
inductive D where
 | non | bl (b : Bool) | int (i : Int) | str (x : Str) | tup (ds : List D) | lst (ds : List D)
 | dk (kvs : List (Key × D)) | dt (kvs : List (List Key × D)) | ob (c : Str) (fs : List (Str × D)) | adr (a : Addr) | exc (c : Str) (fs : List (Str × D)) | err (c : Str) (fs : List (Str × D))
inductive Slot where
 | un | fz (d : D) | ow (d : D)
abbrev Rho := List Slot
abbrev FE := Rho → Option D
abbrev FA := Rho → Option (List D)
abbrev FT := Rho → Option Bool
abbrev FO := Rho → Option (Option Int)
abbrev FI := Rho → Option (List D)
def vF (i : Nat) : FE := fun ρ => match ρ[i]? with | some (.fz d) => some d | _ => none
def vU (i : Nat) : FE := fun ρ => match ρ[i]? with | some (.fz d) => some d | some (.ow d) => some d | _ => none
def kF (d : D) : FE := fun _ => some d
def bF (g : D → D → Option D) (fa fb : FE) : FE := fun ρ => (fa ρ).bind fun x => (fb ρ).bind fun y => g x y
def uF (g : D → Option D) (fa : FE) : FE := fun ρ => (fa ρ).bind g
def blF (f : FE) : FT := fun ρ => match f ρ with | some (.bl b) => some b | _ => none
def iiD (g : Int → Int → Option D) : D → D → Option D := fun x y => match x, y with | .int i, .int j => g i j | _, _ => none
instance (i j : Int) : Decidable (CMul i j) := by unfold CMul; infer_instance
instance (i j : Int) : Decidable (CDiv i j) := by unfold CDiv; infer_instance
instance (i j : Int) : Decidable (CPow i j) := by unfold CPow; infer_instance
def subD := iiD fun i j => some (.int (i - j))
def Hr (i j : Int) : Prop := CMul i j ∨ (Builtin.Int.intBits i ≤ 4194304 ∧ Builtin.Int.intBits j ≤ 4194304)
instance (i j : Int) : Decidable (Hr i j) := by unfold Hr; infer_instance
def CShl (i j : Int) : Prop := 0 ≤ j ∧ j ≤ 1000000 ∧ Builtin.Int.intBits i ≤ 4194304
instance (i j : Int) : Decidable (CShl i j) := by unfold CShl; infer_instance
def mulD := iiD fun i j => if Hr i j then some (.int (i * j)) else none
def Cy := iiD fun i j => if CDiv i j then some (.int (i / j)) else none
def modD := iiD fun i j => if 0 < j then some (.int (i % j)) else none
def powD := iiD fun i j => if CPow i j then some (.int (i ^ j.toNat)) else none
def shlD := iiD fun i j => if CShl i j then some (.int (i * 2 ^ j.toNat)) else none
def ltD := iiD fun i j => some (.bl (decide (i < j)))
def leD := iiD fun i j => some (.bl (decide (i ≤ j)))
def gtD := iiD fun i j => some (.bl (decide (j < i)))
def geD := iiD fun i j => some (.bl (decide (j ≤ i)))
def addD : D → D → Option D := fun x y => match x, y with
 | .int i, .int j => some (.int (i + j))
 | .str i, .str j => if i.length + j.length ≤ sizeLine then some (.str (i ++ j)) else none
 | .lst i, .lst j => if i.length + j.length ≤ sizeLine then some (.lst (i ++ j)) else none
 | _, _ => none
def andF (fa fb : FE) : FE := fun ρ => match fa ρ with | some (.bl true) => fb ρ | some (.bl false) => some (.bl false) | _ => none
def orF (fa fb : FE) : FE := fun ρ => match fa ρ with | some (.bl true) => some (.bl true) | some (.bl false) => fb ρ | _ => none
def notF (fa : FE) : FE := fun ρ => match fa ρ with | some (.bl b) => some (.bl (!b)) | _ => none
def andT (fa fb : FT) : FT := fun ρ => match fa ρ with | some true => fb ρ | some false => some false | none => none
def orT (fa fb : FT) : FT := fun ρ => match fa ρ with | some true => some true | some false => fb ρ | none => none
def notT (fa : FT) : FT := fun ρ => (fa ρ).map (!·)
def truD : D → Option Bool
 | .non => some false
 | .bl b => some b
 | .int i => some (i != 0)
 | .str y => if y.length ≤ sizeLine then some ((y.length : Int) != 0) else none
 | .lst ds => some (!ds.isEmpty)
 | .tup ds => some (!ds.isEmpty)
 | _ => none
def trF (f : FE) : FT := fun ρ => (f ρ).bind truD
def ifF (t : FT) (fa fb : FE) : FE := fun ρ => match t ρ with | some true => fa ρ | some false => fb ρ | none => none
def nilA : FA := fun _ => some []
def Ac (fa : FE) (fs : FA) : FA := fun ρ => (fa ρ).bind fun d => (fs ρ).map (d :: ·)
def tupF (fs : FA) : FE := fun ρ => (fs ρ).bind fun ds => if ds.length ≤ sizeLine then some (.tup ds) else none
def lstF (fs : FA) : FE := fun ρ => (fs ρ).bind fun ds => if ds.length ≤ sizeLine then some (.lst ds) else none
def ixD : D → D → Option D := fun x y => match x, y with
 | .lst ds, .int i => atI ds i
 | .tup ds, .int i => atI ds i
 | .str z, .int i => if z.length ≤ sizeLine then (atI z.cps.toList i).map fun c => .str ⟨#[c]⟩ else none
 | _, _ => none
def noO : FO := fun _ => some none
def someO (f : FE) : FO := fun ρ => match f ρ with | some (.int i) => some (some i) | _ => none
def cutD {α : Type} (ds : List α) (lo hi : Option Int) : List α := (ds.drop (HT.sIx ds.length 0 lo)).take (HT.sIx ds.length ds.length hi - HT.sIx ds.length 0 lo)
def cutS (z : Str) (lo hi : Option Int) : Str := ⟨(cutD z.cps.toList lo hi).toArray⟩
def slD (x : D) (lo hi : Option Int) : Option D := match x with
 | .lst ds => some (.lst (cutD ds lo hi))
 | .tup ds => if HT.sIx ds.length 0 lo = 0 ∧ HT.sIx ds.length ds.length hi = ds.length then none else some (.tup (cutD ds lo hi))
 | .str z => if z.length ≤ sizeLine then some (.str (cutS z lo hi)) else none
 | _ => none
def slF (f : FE) (l h : FO) : FE := fun ρ => (f ρ).bind fun x => (l ρ).bind fun lo => (h ρ).bind fun hi => slD x lo hi
def flV : D → Option V
 | .non => some .non
 | .bl b => some (.bl b)
 | .int i => some (.int i)
 | .str x => some (.str x)
 | _ => none
def flVs : List D → Option (List V)
 | [] => some []
 | d :: r => (flV d).bind fun v => (flVs r).map (v :: ·)
def inD (neg : Bool) : D → D → Option D := fun x y => match x, y with
 | .str i, .str j => some (.bl (if neg then !(!(Builtin.Str.occurrences j i 0 j.length 1).isEmpty) else !(Builtin.Str.occurrences j i 0 j.length 1).isEmpty))
 | x, .lst ds => (flV x).bind fun v => (flVs ds).map fun vs => .bl (if neg then !inV v vs else inV v vs)
 | x, .tup ds => (flV x).bind fun v => (flVs ds).map fun vs => .bl (if neg then !inV v vs else inV v vs)
 | _, _ => none
def allO (f : D → D → Option Bool) : List D → List D → Option Bool
 | [], [] => some true
 | x :: xs, y :: ys => match f x y, allO f xs ys with | some a, some b => some (a && b) | _, _ => none
 | _, _ => none
def flD (x y : D) : Option Bool := (flV x).bind fun u => (flV y).map fun v => eqV u v
def eqS (f : D → D → Option Bool) : D → D → Option Bool
 | .lst xs, .lst ys => if xs.length = ys.length then allO f xs ys else some false
 | .tup xs, .tup ys => if xs.length = ys.length then allO f xs ys else none
 | x, y => flD x y
def eqK : Nat → D → D → Option Bool
 | 0 => flD
 | n + 1 => eqS (eqK n)
def eqvD (x y : D) : Option Bool := match x, y with
 | .int i, .int j => some (decide (i = j))
 | .str i, .str j => some (decide (i = j))
 | .bl i, .bl j => some (decide (i = j))
 | .lst xs, .lst ys => if xs.length = ys.length then allO (eqK 62) xs ys else some false
 | .tup xs, .tup ys => if xs.length = ys.length then allO (eqK 62) xs ys else none
 | _, _ => none
def eqD (neg : Bool) (x y : D) : Option D := (eqvD x y).map fun b => .bl (if neg then !b else b)
def lenD : D → Option D
 | .str y => if y.length ≤ sizeLine then some (.int y.length) else none
 | .lst ds => some (.int ds.length)
 | .tup ds => some (.int ds.length)
 | _ => none
def Uy : D → Option D
 | .lst ds => some (.lst ds)
 | .tup ds => some (.lst ds)
 | _ => none
def intD : D → Option D
 | .int i => some (.int i)
 | .bl k => some (.int (if k then 1 else 0))
 | _ => none
def negD : D → Option D
 | .int i => some (.int (-i))
 | _ => none
def seqI (f : FE) : FI := fun ρ => match f ρ with | some (.lst ds) => some ds | some (.tup ds) => some ds | _ => none
def rngD (n : Nat) : List D := (List.range n).map fun (i : Nat) => .int i
def rngI (f : FE) : FI := fun ρ => match f ρ with | some (.int j) => if -(2 ^ 62) ≤ j ∧ j < 2 ^ 62 then some (rngD j.toNat) else none | _ => none
inductive Out where
 | nx (ρ : Rho) | rt (d : D) (ρ : Rho) | bk (ρ : Rho) | ct (ρ : Rho)
abbrev FS := Rho → Option Out
def nxF : FS := fun ρ => some (.nx ρ)
def seqF (g gs : FS) : FS := fun ρ => match g ρ with | some (.nx ρ') => gs ρ' | o => o
def ifS (t : FT) (g gs : FS) : FS := fun ρ => match t ρ with | some true => g ρ | some false => gs ρ | none => none
def setF (i : Nat) (f : FE) : FS := fun ρ => (f ρ).map fun d => .nx (ρ.set i (.fz d))
def retF (f : FE) : FS := fun ρ => (f ρ).map fun d => .rt d ρ
def retN : FS := fun ρ => some (.rt .non ρ)
def Em (f : FE) : FS := fun ρ => (f ρ).map fun _ => .nx ρ
def badF : FS := fun _ => none
def forF (b : D → FS) : List D → FS
 | [], ρ => some (.nx ρ)
 | d :: r, ρ => match b d ρ with
  | some (.nx ρ') => forF b r ρ'
  | some (.ct ρ') => forF b r ρ'
  | some (.bk ρ') => some (.nx ρ')
  | some (.rt e ρ') => some (.rt e ρ')
  | none => none
abbrev FG := D → Rho → Option Rho
def Dh (i : Nat) : FG := fun d ρ => some (ρ.set i (.fz d))
def tgB (tg : FG) (b : FS) : D → FS := fun d ρ => (tg d ρ).bind b
def forS (src : FI) (tg : FG) (b : FS) : FS := fun ρ => (src ρ).bind fun ds => forF (tgB tg b) ds ρ
def Al (g : List D → Option D) (fs : FA) : FE := fun ρ => (fs ρ).bind g
def Br (n : Nat) (ds : List D) : Rho := ds.map .fz ++ List.replicate (n - ds.length) .un
def runF (n np : Nat) (b : FS) (ds : List D) : Option D := if ds.length = np then (match b (Br n ds) with | some (.rt d _) => some d | some (.nx _) => some .non | _ => none) else none
def Dv (ρ : Rho) (ga : FT) (fe : FE) : List D → Option (List D)
 | [] => some []
 | d :: r => match ga (ρ ++ [.fz d]) with
  | some true => (fe (ρ ++ [.fz d])).bind fun y => (Dv ρ ga fe r).map (y :: ·)
  | some false => Dv ρ ga fe r
  | none => none
def GJ (src : FI) (ga : FT) (fe : FE) : FE := fun ρ => (src ρ).bind fun ds => if ds.length ≤ sizeLine then (Dv ρ ga fe ds).map .lst else none
def allT : FT := fun _ => some true
def HB : List D → Option (List Str)
 | [] => some []
 | .str i :: r => (HB r).map (i :: ·)
 | _ :: _ => none
def ltS (a b : Str) : Bool := decide (a.cps.toList < b.cps.toList)
def insS (x : Str) : List Str → List Str
 | [] => [x]
 | y :: r => if ltS x y then x :: y :: r else if x = y then y :: r else y :: insS x r
def Di (xs : List Str) : List Str := xs.foldr insS []
def setW (i : Nat) (f : FE) : FS := fun ρ => (f ρ).map fun d => .nx (ρ.set i (.ow d))
def ownO (ρ : Rho) (i : Nat) : Option D := match ρ[i]? with | some (.ow d) => some d | _ => none
def appL (x v : D) : Option D := match x with | .lst ds => if ds.length < sizeLine then some (.lst (ds ++ [v])) else none | _ => none
def mutF (g : D → D → Option D) (i : Nat) (f : FE) : FS := fun ρ => (f ρ).bind fun v => (ownO ρ i).bind fun x => (g x v).map fun y => .nx (ρ.set i (.ow y))
def frz1 (ρ : Rho) (i : Nat) : Rho := match ρ[i]? with | some (.ow d) => ρ.set i (.fz d) | _ => ρ
def fzS (is : List Nat) (g : FS) : FS := fun ρ => g (is.foldl frz1 ρ)
end PV
namespace PV
open PySem L2
theorem Uz {α : Type} {xs : List α} {i : Int} (h0 : 0 ≤ i) (h1 : i < xs.length) : atI xs i = xs[i.toNat]? := by
 unfold atI ixN; rw [if_pos h0, if_pos h1]; rfl
theorem DX (i j : Int) (h : 0 < j) : modD (.int i) (.int j) = some (.int (i % j)) := by
 show (if 0 < j then some (D.int (i % j)) else none) = _
 rw [if_pos h]
theorem Cp (i j : Int) (h : 0 < j) (h2 : j < 1073741824) : Cy (.int i) (.int j) = some (.int (i / j)) := by
 show (if CDiv i j then some (D.int (i / j)) else none) = _
 rw [if_pos ⟨h, h2⟩]
theorem Jx (i j : Int) (h : -(2 ^ 64) < j ∧ j < 2 ^ 64) : mulD (.int i) (.int j) = some (.int (i * j)) := by
 show (if Hr i j then some (D.int (i * j)) else none) = _
 rw [if_pos (.inl (.inr h))]
theorem Qq (i j : Int) (h : -(2 ^ 64) < i ∧ i < 2 ^ 64) : mulD (.int i) (.int j) = some (.int (i * j)) := by
 show (if Hr i j then some (D.int (i * j)) else none) = _
 rw [if_pos (.inl (.inl h))]
theorem QJ (i j : Int) : addD (.int i) (.int j) = some (.int (i + j)) := of_eq_true (eq_self _)
theorem Mu (i j : Int) : subD (.int i) (.int j) = some (.int (i - j)) := of_eq_true (eq_self _)
theorem Qs (i j : Int) : ltD (.int i) (.int j) = some (.bl (decide (i < j))) := of_eq_true (eq_self _)
theorem ZR (i j : Int) : gtD (.int i) (.int j) = some (.bl (decide (j < i))) := of_eq_true (eq_self _)
theorem ZS (i j : Int) : leD (.int i) (.int j) = some (.bl (decide (i ≤ j))) := of_eq_true (eq_self _)
theorem ZV (i j : Int) : geD (.int i) (.int j) = some (.bl (decide (j ≤ i))) := of_eq_true (eq_self _)
theorem Lq (i j : Int) : eqD false (.int i) (.int j) = some (.bl (decide (i = j))) := of_eq_true (eq_self _)
theorem ZW (i j : Int) : eqD true (.int i) (.int j) = some (.bl (!decide (i = j))) := of_eq_true (eq_self _)
theorem ZX (i : Int) : negD (.int i) = some (.int (-i)) := of_eq_true (eq_self _)
theorem Cq {n : Nat} (h : n ≤ 10000000) : n ≤ sizeLine := Nat.le_trans h (by decide)
theorem QK {i j : List D} (h : i.length + j.length ≤ 10000000) : addD (.lst i) (.lst j) = some (.lst (i ++ j)) := by
 show (if _ then _ else _) = _
 rw [if_pos (Cq h)]
theorem U0 {i j : Str} (h : i.length + j.length ≤ 10000000) : addD (.str i) (.str j) = some (.str (i ++ j)) := by
 show (if _ then _ else _) = _
 rw [if_pos (Cq h)]
theorem FQ {b : D → FS} {P : Nat → Rho → Prop} : ∀ {ds : List D} {ρ : Rho} (k : Nat), P k ρ → (∀ (i : Nat) d ρ, ds[i]? = some d → P (k + i) ρ → ∃ ρ', b d ρ = some (.nx ρ') ∧ P (k + i + 1) ρ') → ∃ ρ', forF b ds ρ = some (.nx ρ') ∧ P (k + ds.length) ρ'
 | [], ρ, k, h0, _ => ⟨ρ, rfl, by simpa using h0⟩
 | d :: r, ρ, k, h0, hs => by
  obtain ⟨ρ1, e1, p1⟩ := hs 0 d ρ rfl (by simpa using h0)
  obtain ⟨ρ2, e2, p2⟩ := FQ (ds := r) (ρ := ρ1) (k + 1) (by simpa using p1) fun i d' ρ' hd hp => by
   have := hs (i + 1) d' ρ' (by simpa using hd) (by rw [show k + (i + 1) = k + 1 + i by omega]; exact hp)
   rw [show k + (i + 1) + 1 = k + 1 + i + 1 by omega] at this
   exact this
  refine ⟨ρ2, ?_, by rw [List.length_cons, show k + (r.length + 1) = k + 1 + r.length by omega]; exact p2⟩
  unfold forF
  rw [e1]
  exact e2
theorem Qt {src : FI} {ga : FT} {fe : FE} {ρ : Rho} {ds out : List D} (h : src ρ = some ds) (hz : ds.length ≤ 10000000) (hc : Dv ρ ga fe ds = some out) : GJ src ga fe ρ = some (.lst out) := by
 unfold GJ; rw [h]
 show (if ds.length ≤ sizeLine then (Dv ρ ga fe ds).map D.lst else none) = _
 rw [if_pos (Cq hz), hc]
 rfl
def Oe (o : Option Out) (gs : FS) : Option Out := match o with | some (.nx ρ') => gs ρ' | o => o
theorem ZZ (g gs : FS) (ρ : Rho) : seqF g gs ρ = Oe (g ρ) gs := of_eq_true (eq_self _)
theorem e_nx (gs : FS) (ρ : Rho) : Oe (some (.nx ρ)) gs = gs ρ := of_eq_true (eq_self _)
theorem e_rt (gs : FS) (d : D) (ρ : Rho) : Oe (some (.rt d ρ)) gs = some (.rt d ρ) := of_eq_true (eq_self _)
theorem e_bk (gs : FS) (d : Rho) : Oe (some (.bk d)) gs = some (.bk d) := of_eq_true (eq_self _)
theorem e_ct (gs : FS) (d : Rho) : Oe (some (.ct d)) gs = some (.ct d) := of_eq_true (eq_self _)
theorem Za (ρ : Rho) : nxF ρ = some (.nx ρ) := of_eq_true (eq_self _)
def iteO (o : Option Bool) (g gs : FS) (ρ : Rho) : Option Out := match o with | some true => g ρ | some false => gs ρ | none => none
theorem e_if (t : FT) (g gs : FS) (ρ : Rho) : ifS t g gs ρ = iteO (t ρ) g gs ρ := of_eq_true (eq_self _)
theorem Zb (g gs : FS) (ρ : Rho) : iteO (some true) g gs ρ = g ρ := of_eq_true (eq_self _)
theorem Zc (g gs : FS) (ρ : Rho) : iteO (some false) g gs ρ = gs ρ := of_eq_true (eq_self _)
def setO (i : Nat) (ρ : Rho) (o : Option D) : Option Out := o.map fun d => .nx (ρ.set i (.fz d))
theorem Zd (i : Nat) (f : FE) (ρ : Rho) : setF i f ρ = setO i ρ (f ρ) := of_eq_true (eq_self _)
theorem U3 (i : Nat) (ρ : Rho) (d : D) : setO i ρ (some d) = some (.nx (ρ.set i (.fz d))) := of_eq_true (eq_self _)
def retO (ρ : Rho) (o : Option D) : Option Out := o.map fun d => .rt d ρ
theorem Ze (f : FE) (ρ : Rho) : retF f ρ = retO ρ (f ρ) := of_eq_true (eq_self _)
theorem U4 (d : D) (ρ : Rho) : retO ρ (some d) = some (.rt d ρ) := of_eq_true (eq_self _)
theorem U5 (ρ : Rho) : retN ρ = some (.rt .non ρ) := of_eq_true (eq_self _)
def Zf (ρ : Rho) (o : Option D) : Option Out := o.map fun _ => .nx ρ
theorem U6 (f : FE) (ρ : Rho) : Em f ρ = Zf ρ (f ρ) := of_eq_true (eq_self _)
theorem Qu (ρ : Rho) (d : D) : Zf ρ (some d) = some (.nx ρ) := of_eq_true (eq_self _)
def b2 (g : D → D → Option D) (x y : Option D) : Option D := x.bind fun x => y.bind fun y => g x y
theorem e_b (g : D → D → Option D) (fa fb : FE) (ρ : Rho) : bF g fa fb ρ = b2 g (fa ρ) (fb ρ) := of_eq_true (eq_self _)
theorem e_bs (g : D → D → Option D) (x y : D) : b2 g (some x) (some y) = g x y := of_eq_true (eq_self _)
def b1 (g : D → Option D) (x : Option D) : Option D := x.bind g
theorem e_u (g : D → Option D) (fa : FE) (ρ : Rho) : uF g fa ρ = b1 g (fa ρ) := of_eq_true (eq_self _)
theorem e_us (g : D → Option D) (x : D) : b1 g (some x) = g x := of_eq_true (eq_self _)
def cl1 (g : List D → Option D) (x : Option (List D)) : Option D := x.bind g
theorem U7 (g : List D → Option D) (fs : FA) (ρ : Rho) : Al g fs ρ = cl1 g (fs ρ) := of_eq_true (eq_self _)
theorem Qv (g : List D → Option D) (ds : List D) : cl1 g (some ds) = g ds := of_eq_true (eq_self _)
def Zg (x : Option D) (y : Option (List D)) : Option (List D) := x.bind fun d => y.map (d :: ·)
theorem U8 (fa : FE) (fs : FA) (ρ : Rho) : Ac fa fs ρ = Zg (fa ρ) (fs ρ) := of_eq_true (eq_self _)
theorem Qw (d : D) (ds : List D) : Zg (some d) (some ds) = some (d :: ds) := of_eq_true (eq_self _)
theorem Zh (ρ : Rho) : nilA ρ = some [] := of_eq_true (eq_self _)
def tupO (o : Option (List D)) : Option D := o.bind fun ds => if ds.length ≤ sizeLine then some (.tup ds) else none
def lstO (o : Option (List D)) : Option D := o.bind fun ds => if ds.length ≤ sizeLine then some (.lst ds) else none
theorem Zi (fs : FA) (ρ : Rho) : tupF fs ρ = tupO (fs ρ) := of_eq_true (eq_self _)
theorem Zj (fs : FA) (ρ : Rho) : lstF fs ρ = lstO (fs ρ) := of_eq_true (eq_self _)
theorem U9 : tupO (some []) = some (.tup []) := of_eq_true (eq_self _)
theorem U_ (a : D) : tupO (some [a]) = some (.tup [a]) := of_eq_true (eq_self _)
theorem VB (a b : D) : tupO (some [a, b]) = some (.tup [a, b]) := of_eq_true (eq_self _)
theorem VD (a b c : D) : tupO (some [a, b, c]) = some (.tup [a, b, c]) := of_eq_true (eq_self _)
theorem VG (a b c d : D) : tupO (some [a, b, c, d]) = some (.tup [a, b, c, d]) := of_eq_true (eq_self _)
theorem VH (a b c d e : D) : tupO (some [a, b, c, d, e]) = some (.tup [a, b, c, d, e]) := of_eq_true (eq_self _)
theorem VJ : lstO (some []) = some (.lst []) := of_eq_true (eq_self _)
theorem VL (a : D) : lstO (some [a]) = some (.lst [a]) := of_eq_true (eq_self _)
theorem VM (a b : D) : lstO (some [a, b]) = some (.lst [a, b]) := of_eq_true (eq_self _)
theorem VN (a b c : D) : lstO (some [a, b, c]) = some (.lst [a, b, c]) := of_eq_true (eq_self _)
theorem VP (a b c d : D) : lstO (some [a, b, c, d]) = some (.lst [a, b, c, d]) := of_eq_true (eq_self _)
theorem VR (a b c d e : D) : lstO (some [a, b, c, d, e]) = some (.lst [a, b, c, d, e]) := of_eq_true (eq_self _)
theorem VV (a b c d e f : D) : lstO (some [a, b, c, d, e, f]) = some (.lst [a, b, c, d, e, f]) := of_eq_true (eq_self _)
def blO (o : Option D) : Option Bool := match o with | some (.bl b) => some b | _ => none
theorem e_bl (f : FE) (ρ : Rho) : blF f ρ = blO (f ρ) := of_eq_true (eq_self _)
theorem Zk (b : Bool) : blO (some (.bl b)) = some b := of_eq_true (eq_self _)
def andO (o : Option Bool) (fb : FT) (ρ : Rho) : Option Bool := match o with | some true => fb ρ | some false => some false | none => none
def orO (o : Option Bool) (fb : FT) (ρ : Rho) : Option Bool := match o with | some true => some true | some false => fb ρ | none => none
theorem Va (a b : FT) (ρ : Rho) : andT a b ρ = andO (a ρ) b ρ := of_eq_true (eq_self _)
theorem Qx (b : FT) (ρ : Rho) : andO (some true) b ρ = b ρ := of_eq_true (eq_self _)
theorem Qy (b : FT) (ρ : Rho) : andO (some false) b ρ = some false := of_eq_true (eq_self _)
theorem Zm (a b : FT) (ρ : Rho) : orT a b ρ = orO (a ρ) b ρ := of_eq_true (eq_self _)
theorem Vb (b : FT) (ρ : Rho) : orO (some true) b ρ = some true := of_eq_true (eq_self _)
theorem Vc (b : FT) (ρ : Rho) : orO (some false) b ρ = b ρ := of_eq_true (eq_self _)
theorem Vd (a : FT) (ρ : Rho) : notT a ρ = (a ρ).map (!·) := of_eq_true (eq_self _)
def andP (o : Option D) (fb : FE) (ρ : Rho) : Option D := match o with | some (.bl true) => fb ρ | some (.bl false) => some (.bl false) | _ => none
def orP (o : Option D) (fb : FE) (ρ : Rho) : Option D := match o with | some (.bl true) => some (.bl true) | some (.bl false) => fb ρ | _ => none
def notP (o : Option D) : Option D := match o with | some (.bl b) => some (.bl (!b)) | _ => none
theorem Ve (a b : FE) (ρ : Rho) : andF a b ρ = andP (a ρ) b ρ := of_eq_true (eq_self _)
theorem Qz (b : FE) (ρ : Rho) : andP (some (.bl true)) b ρ = b ρ := of_eq_true (eq_self _)
theorem Q0 (b : FE) (ρ : Rho) : andP (some (.bl false)) b ρ = some (.bl false) := of_eq_true (eq_self _)
theorem Zn (a b : FE) (ρ : Rho) : orF a b ρ = orP (a ρ) b ρ := of_eq_true (eq_self _)
theorem Vf (b : FE) (ρ : Rho) : orP (some (.bl true)) b ρ = some (.bl true) := of_eq_true (eq_self _)
theorem Vg (b : FE) (ρ : Rho) : orP (some (.bl false)) b ρ = b ρ := of_eq_true (eq_self _)
theorem Vh (a : FE) (ρ : Rho) : notF a ρ = notP (a ρ) := of_eq_true (eq_self _)
theorem Q3 (b : Bool) : notP (some (.bl b)) = some (.bl (!b)) := of_eq_true (eq_self _)
def ifP (o : Option Bool) (fa fb : FE) (ρ : Rho) : Option D := match o with | some true => fa ρ | some false => fb ρ | none => none
theorem Zo (t : FT) (a b : FE) (ρ : Rho) : ifF t a b ρ = ifP (t ρ) a b ρ := of_eq_true (eq_self _)
theorem Vi (a b : FE) (ρ : Rho) : ifP (some true) a b ρ = a ρ := of_eq_true (eq_self _)
theorem Vj (a b : FE) (ρ : Rho) : ifP (some false) a b ρ = b ρ := of_eq_true (eq_self _)
def sl3 (f : Option D) (l h : Option (Option Int)) : Option D := f.bind fun x => l.bind fun lo => h.bind fun hi => slD x lo hi
theorem e_sl (f : FE) (l h : FO) (ρ : Rho) : slF f l h ρ = sl3 (f ρ) (l ρ) (h ρ) := of_eq_true (eq_self _)
theorem Zq (x : D) (l h : Option Int) : sl3 (some x) (some l) (some h) = slD x l h := of_eq_true (eq_self _)
theorem Zr (ρ : Rho) : noO ρ = some none := of_eq_true (eq_self _)
def somO (o : Option D) : Option (Option Int) := match o with | some (.int i) => some (some i) | _ => none
theorem Q4 (f : FE) (ρ : Rho) : someO f ρ = somO (f ρ) := of_eq_true (eq_self _)
theorem Og (i : Int) : somO (some (.int i)) = some (some i) := of_eq_true (eq_self _)
def getO (o : Option Slot) : Option D := match o with | some (.fz d) => some d | _ => none
def getU (o : Option Slot) : Option D := match o with | some (.fz d) => some d | some (.ow d) => some d | _ => none
theorem e_v (i : Nat) (ρ : Rho) : vF i ρ = getO (ρ[i]?) := of_eq_true (eq_self _)
theorem e_vs (d : D) : getO (some (.fz d)) = some d := of_eq_true (eq_self _)
theorem e_vU (i : Nat) (ρ : Rho) : vU i ρ = getU (ρ[i]?) := of_eq_true (eq_self _)
theorem Zt (d : D) : getU (some (.fz d)) = some d := of_eq_true (eq_self _)
theorem Zu (d : D) : getU (some (.ow d)) = some d := of_eq_true (eq_self _)
theorem e_k (d : D) (ρ : Rho) : kF d ρ = some d := of_eq_true (eq_self _)
def seqO (o : Option D) : Option (List D) := match o with | some (.lst ds) => some ds | some (.tup ds) => some ds | _ => none
theorem Vk (f : FE) (ρ : Rho) : seqI f ρ = seqO (f ρ) := of_eq_true (eq_self _)
theorem Q5 (ds : List D) : seqO (some (.lst ds)) = some ds := of_eq_true (eq_self _)
theorem Q6 (ds : List D) : seqO (some (.tup ds)) = some ds := of_eq_true (eq_self _)
def rngO (o : Option D) : Option (List D) := match o with | some (.int j) => if -(2 ^ 62) ≤ j ∧ j < 2 ^ 62 then some (rngD j.toNat) else none | _ => none
theorem QL (f : FE) (ρ : Rho) : rngI f ρ = rngO (f ρ) := of_eq_true (eq_self _)
theorem I_ (j : Int) (h : -(2 ^ 62) ≤ j ∧ j < 2 ^ 62) : rngO (some (.int j)) = some (rngD j.toNat) := by
 show (if _ then _ else _) = _
 rw [if_pos h]
def forO (o : Option (List D)) (tg : FG) (b : FS) (ρ : Rho) : Option Out := o.bind fun ds => forF (tgB tg b) ds ρ
theorem Zv (src : FI) (tg : FG) (b : FS) (ρ : Rho) : forS src tg b ρ = forO (src ρ) tg b ρ := of_eq_true (eq_self _)
theorem Vl (ds : List D) (tg : FG) (b : FS) (ρ : Rho) : forO (some ds) tg b ρ = forF (tgB tg b) ds ρ := of_eq_true (eq_self _)
def ccO (o : Option Bool) (e : Option D) (r : Option (List D)) : Option (List D) := match o with | some true => e.bind fun y => r.map (y :: ·) | some false => r | none => none
theorem KN (ρ : Rho) (ga : FT) (fe : FE) (d : D) (r : List D) : Dv ρ ga fe (d :: r) = ccO (ga (ρ ++ [.fz d])) (fe (ρ ++ [.fz d])) (Dv ρ ga fe r) := of_eq_true (eq_self _)
theorem Vm (ρ : Rho) : allT ρ = some true := of_eq_true (eq_self _)
def runO (o : Option Out) : Option D := match o with | some (.rt d _) => some d | some (.nx _) => some .non | _ => none
theorem Zw {n np : Nat} {b : FS} {ds : List D} (h : ds.length = np) : runF n np b ds = runO (b (Br n ds)) := by
 unfold runF; rw [if_pos h]; rfl
theorem Vn (d : D) (ρ : Rho) : runO (some (.rt d ρ)) = some d := of_eq_true (eq_self _)
theorem Vo (ρ : Rho) : runO (some (.nx ρ)) = some .non := of_eq_true (eq_self _)
theorem Zx {α β : Type} (f : α → β) (x : α) : Option.map f (some x) = some (f x) := of_eq_true (eq_self _)
theorem Vp {α β : Type} (f : α → Option β) (x : α) : Option.bind (some x) f = f x := of_eq_true (eq_self _)
theorem Oh (n : Nat) (ds : List D) : Br n ds = ds.map .fz ++ List.replicate (n - ds.length) .un := of_eq_true (eq_self _)
theorem truB (b : Bool) : truD (.bl b) = some b := of_eq_true (eq_self _)
theorem Fp {α : Type} (l : List α) (k : Nat) : atI l (k : Int) = l[k]? := by
 unfold atI ixN
 rw [if_pos (by omega)]
 by_cases h : k < l.length
 ·rw [if_pos (by omega)]
  simp
 ·rw [if_neg (by omega), List.getElem?_eq_none (by omega)]
  rfl
theorem ix0 (x : D) (r : List D) : ixD (.lst (x :: r)) (.int 0) = some x := Fp _ 0
theorem ix1 (x y : D) (r : List D) : ixD (.lst (x :: y :: r)) (.int 1) = some y := Fp _ 1
theorem ix2 (x y z : D) (r : List D) : ixD (.lst (x :: y :: z :: r)) (.int 2) = some z := Fp _ 2
theorem ixt0 (x : D) (r : List D) : ixD (.tup (x :: r)) (.int 0) = some x := Fp _ 0
theorem ixt1 (x y : D) (r : List D) : ixD (.tup (x :: y :: r)) (.int 1) = some y := Fp _ 1
theorem ixt2 (x y z : D) (r : List D) : ixD (.tup (x :: y :: z :: r)) (.int 2) = some z := Fp _ 2
theorem ixt3 (x y z w : D) (r : List D) : ixD (.tup (x :: y :: z :: w :: r)) (.int 3) = some w := Fp _ 3
theorem e_tr (f : FE) (ρ : Rho) : trF f ρ = (f ρ).bind truD := of_eq_true (eq_self _)
theorem Dw (x y : Str) : (x ++ y).length = x.length + y.length := by
 show (x.cps ++ y.cps).size = _
 simp [Str.length]
theorem dq (z : Str) (h : z.length ≤ 10000000) : lenD (.str z) = some (.int z.length) := by
 show (if z.length ≤ sizeLine then some (D.int z.length) else none) = _
 rw [if_pos (Cq h)]
theorem dw (l : List D) : lenD (.lst l) = some (.int l.length) := of_eq_true (eq_self _)
theorem Q7 (x : Str) (ys : List Str) : inD false (.str x) (.lst (ys.map .str)) = some (.bl (ys.any (fun y => y == x))) := by
 have h : ∀ ys : List Str, flVs (ys.map .str) = some (ys.map V.str) := fun ys => by
  induction ys with
  | nil => rfl
  | cons y r ih => simp [flVs, flV, ih]
 show ((flV (.str x)).bind fun v => (flVs (ys.map .str)).map fun vs => D.bl (inV v vs)) = _
 rw [h]
 show some (D.bl (inV (.str x) (ys.map V.str))) = _
 simp [inV, List.any_map, Function.comp_def, eqV]
theorem Cz (n : Nat) : (rngD n).length = n := by simp [rngD]
theorem Te (ys : List Str) : HB (ys.map .str) = some ys := by
 induction ys with
 | nil => rfl
 | cons y r ih => simp [HB, ih]
def Zy (i : Nat) (ρ : Rho) (o : Option D) : Option Out := o.map fun d => .nx (ρ.set i (.ow d))
theorem Vq (i : Nat) (f : FE) (ρ : Rho) : setW i f ρ = Zy i ρ (f ρ) := of_eq_true (eq_self _)
theorem Q8 (i : Nat) (ρ : Rho) (d : D) : Zy i ρ (some d) = some (.nx (ρ.set i (.ow d))) := of_eq_true (eq_self _)
def mutO (g : D → D → Option D) (i : Nat) (ρ : Rho) (x v : Option D) : Option Out := v.bind fun v => x.bind fun x => (g x v).map fun y => .nx (ρ.set i (.ow y))
def getW (o : Option Slot) : Option D := match o with | some (.ow d) => some d | _ => none
theorem Zz (g : D → D → Option D) (i : Nat) (f : FE) (ρ : Rho) : mutF g i f ρ = mutO g i ρ (getW ρ[i]?) (f ρ) := of_eq_true (eq_self _)
theorem Vr (g : D → D → Option D) (i : Nat) (ρ : Rho) (x v : D) : mutO g i ρ (some x) (some v) = (g x v).map fun y => .nx (ρ.set i (.ow y)) := of_eq_true (eq_self _)
theorem Mv (d : D) : getW (some (.ow d)) = some d := of_eq_true (eq_self _)
def forB (o : Option Out) (b : D → FS) (r : List D) : Option Out := match o with
  | some (.nx ρ') => forF b r ρ'
  | some (.ct ρ') => forF b r ρ'
  | some (.bk ρ') => some (.nx ρ')
  | some (.rt e ρ') => some (.rt e ρ')
  | none => none
theorem Oi (b : D → FS) (ρ : Rho) : forF b [] ρ = some (.nx ρ) := of_eq_true (eq_self _)
theorem Gr (b : D → FS) (d : D) (r : List D) (ρ : Rho) : forF b (d :: r) ρ = forB (b d ρ) b r := of_eq_true (eq_self _)
theorem Jy (b : D → FS) (r : List D) (ρ : Rho) : forB (some (.nx ρ)) b r = forF b r ρ := of_eq_true (eq_self _)
theorem Q9 (b : D → FS) (r : List D) (ρ : Rho) : forB (some (.ct ρ)) b r = forF b r ρ := of_eq_true (eq_self _)
theorem Q_ (b : D → FS) (r : List D) (ρ : Rho) : forB (some (.bk ρ)) b r = some (.nx ρ) := of_eq_true (eq_self _)
theorem RB (b : D → FS) (r : List D) (d : D) (ρ : Rho) : forB (some (.rt d ρ)) b r = some (.rt d ρ) := of_eq_true (eq_self _)
def bndO (o : Option Rho) (b : FS) : Option Out := o.bind b
theorem e_tg (tg : FG) (b : FS) (d : D) (ρ : Rho) : tgB tg b d ρ = bndO (tg d ρ) b := of_eq_true (eq_self _)
theorem Hs (ρ : Rho) (b : FS) : bndO (some ρ) b = b ρ := of_eq_true (eq_self _)
theorem GQ (i : Nat) (d : D) (ρ : Rho) : Dh i d ρ = some (ρ.set i (.fz d)) := of_eq_true (eq_self _)
end PV
namespace PV
open PySem L2
theorem Fq (a : Str) : ltS a a = false := by
 unfold ltS
 exact decide_eq_false (List.lt_irrefl _)
theorem JB {a b c : Str} (h1 : ltS a b = true) (h2 : ltS b c = true) : ltS a c = true := by
 unfold ltS at *
 exact decide_eq_true (List.lt_trans (of_decide_eq_true h1) (of_decide_eq_true h2))
theorem RC {a b : Str} (h1 : ltS a b = false) (h2 : a ≠ b) : ltS b a = true := by
 unfold ltS at *
 have h1' := of_decide_eq_false h1
 have h3 : b.cps.toList ≤ a.cps.toList := List.not_lt.mp h1'
 rcases Decidable.em (b.cps.toList < a.cps.toList) with h | h
 ·exact decide_eq_true h
 ·exfalso
  have h4 : a.cps.toList ≤ b.cps.toList := List.not_lt.mp h
  have e : a.cps.toList = b.cps.toList := List.le_antisymm h4 h3
  apply h2
  cases a; cases b
  simp at e
  rw [e]
def Up (l : List Str) : Prop := l.Pairwise fun a b => ltS a b = true
theorem KQ (x y : Str) : ∀ l : List Str, y ∈ insS x l ↔ y = x ∨ y ∈ l
 | [] => by simp [insS]
 | z :: r => by
  unfold insS
  split
  ·simp
  ·split
   ·rename_i _ e; subst e; simp
   ·simp [KQ x y r]
    constructor
    ·rintro (h | h | h)
     ·exact .inr (.inl h)
     ·exact .inl h
     ·exact .inr (.inr h)
    ·rintro (h | h | h)
     ·exact .inr (.inl h)
     ·exact .inl h
     ·exact .inr (.inr h)
theorem RD (x : Str) : ∀ {l : List Str}, Up l → Up (insS x l)
 | [], _ => by simp [insS, Up]
 | z :: r, h => by
  obtain ⟨h1, h2⟩ := List.pairwise_cons.mp h
  unfold insS
  split
  ·rename_i hlt
   exact List.pairwise_cons.mpr ⟨fun y hy => by
    rcases List.mem_cons.mp hy with rfl | hy
    ·exact hlt
    ·exact JB hlt (h1 y hy), h⟩
  ·rename_i hn
   split
   ·exact h
   ·rename_i hne
    refine List.pairwise_cons.mpr ⟨fun y hy => ?_, RD x h2⟩
    rcases (KQ x y r).mp hy with rfl | hy
    ·exact RC (by simpa using hn) hne
    ·exact h1 y hy
theorem Oj (l : List Str) : Up (Di l) := by
 unfold Di
 induction l with
 | nil => exact List.Pairwise.nil
 | cons x r ih => exact RD x ih
theorem Lr (y : Str) (l : List Str) : y ∈ Di l ↔ y ∈ l := by
 unfold Di
 induction l with
 | nil => simp
 | cons x r ih => rw [List.foldr_cons, KQ, ih]; simp
theorem Vs {l : List Str} (h : Up l) : l.Nodup := h.imp fun {a b} hab e => by
 subst e; rw [Fq] at hab; cases hab
theorem sub_len : ∀ {l m : List Str}, l.Nodup → (∀ x ∈ l, x ∈ m) → l.length ≤ m.length
 | [], _, _, _ => Nat.zero_le _
 | x :: r, m, h, hs => by
  obtain ⟨h1, h2⟩ := List.nodup_cons.mp h
  have hx : x ∈ m := hs x List.mem_cons_self
  have := sub_len (l := r) (m := m.erase x) h2 fun y hy => (List.mem_erase_of_ne (fun e => by subst e; exact h1 hy)).mpr (hs y (List.mem_cons_of_mem _ hy))
  rw [List.length_erase_of_mem hx] at this
  have hp : 0 < m.length := List.length_pos_of_mem hx
  simp; omega
theorem Vt : ∀ {l m : List Str}, Up l → Up m → (∀ x, x ∈ l ↔ x ∈ m) → l = m
 | [], [], _, _, _ => rfl
 | [], y :: s, _, _, h => by have := (h y).mpr List.mem_cons_self; simp at this
 | x :: r, [], _, _, h => by have := (h x).mp List.mem_cons_self; simp at this
 | x :: r, y :: s, h1, h2, h => by
  obtain ⟨a1, a2⟩ := List.pairwise_cons.mp h1
  obtain ⟨b1, b2⟩ := List.pairwise_cons.mp h2
  have e : x = y := by
   rcases List.mem_cons.mp ((h x).mp List.mem_cons_self) with e | hx
   ·exact e
   ·rcases List.mem_cons.mp ((h y).mpr List.mem_cons_self) with e | hy
    ·exact e.symm
    ·have := JB (a1 y hy) (b1 x hx)
     rw [Fq] at this; cases this
  subst e
  have : r = s := Vt a2 b2 fun z => by
   constructor
   ·intro hz
    rcases List.mem_cons.mp ((h z).mp (List.mem_cons_of_mem _ hz)) with e | q
    ·subst e; have := a1 z hz; rw [Fq] at this; cases this
    ·exact q
   ·intro hz
    rcases List.mem_cons.mp ((h z).mpr (List.mem_cons_of_mem _ hz)) with e | q
    ·subst e; have := b1 z hz; rw [Fq] at this; cases this
    ·exact q
  rw [this]
end PV
namespace PV
open PySem L2
abbrev FZ := Rho → Option (D × Rho)
abbrev FZA := Rho → Option (List D × Rho)
end PV
namespace L2
open PySem PySem.Spec PyProof.Rows
def clOf (cells : List (Str × Addr)) : List (Str × NameKind) → List (Str × Addr) → List (Str × Addr)
 | [], cs => cs
 | y :: r, cs => if y.2 == .free then clOf cells r ((y.1, (cells.lookup y.1).getD 0) :: cs) else clOf cells r cs
theorem KR {cells : List (Str × Addr)} {x : Str} {c : Addr} : ∀ {names : List (Str × NameKind)} {cs : List (Str × Addr)}, (∀ y ∈ names, y.2 = .free → ∃ c, cells.lookup y.1 = some c) →
  (clOf cells names cs).lookup x = some c → cs.lookup x = some c ∨ cells.lookup x = some c
 | [], _, _, h => .inl h
 | y :: r, cs, hf, h => by
  unfold clOf at h
  split at h
  ·rename_i hk
   have hk' : y.2 = .free := by simpa using hk
   obtain ⟨c', hc⟩ := hf y List.mem_cons_self hk'
   rcases KR (fun z hz => hf z (List.mem_cons_of_mem _ hz)) h with q | q
   ·rw [List.lookup_cons] at q
    split at q
    ·rename_i e
     have e' : x = y.1 := by simpa using e
     rw [hc] at q
     subst e'
     right
     rw [hc]; simpa using q
    ·exact .inl q
   ·exact .inr q
  ·exact KR (fun z hz => hf z (List.mem_cons_of_mem _ hz)) h
theorem JC {cells : List (Str × Addr)} {x : Str} : ∀ {names : List (Str × NameKind)} {cs : List (Str × Addr)}, (∃ c, cs.lookup x = some c) → ∃ c, (clOf cells names cs).lookup x = some c
 | [], _, h => h
 | y :: r, cs, h => by
  unfold clOf
  split
  ·apply JC
   rw [List.lookup_cons]
   split
   ·exact ⟨_, rfl⟩
   ·exact h
  ·exact JC h
theorem GR {cells : List (Str × Addr)} {x : Str} : ∀ {names : List (Str × NameKind)} {cs : List (Str × Addr)}, (x, NameKind.free) ∈ names → ∃ c, (clOf cells names cs).lookup x = some c
 | [], _, h => by cases h
 | y :: r, cs, h => by
  unfold clOf
  rcases List.mem_cons.mp h with e | h
  ·subst e
   rw [if_pos (by rfl)]
   apply JC
   rw [List.lookup_cons]
   simp
  ·split
   ·exact GR h
   ·exact GR h
theorem RG {env : Env} : ∀ (names : List (Str × NameKind)) (cs : List (Str × Addr)), (∀ y ∈ names, y.2 = .free → ∃ c, env.cells.lookup y.1 = some c) →
  (forIn names cs (fun x r => match x with
   | (name, kind) => if (kind == NameKind.free) = true then do let a ← cellOf env name; pure (ForInStep.yield ((name, a) :: r)) else pure (ForInStep.yield r)) : Sem (List (Str × Addr))) = pure (clOf env.cells names cs)
 | [], _, _ => rfl
 | (n, k) :: r, cs, hf => by
  have ih := fun cs => RG r cs (fun z hz => hf z (List.mem_cons_of_mem _ hz))
  rw [List.forIn_cons]
  by_cases hk : (k == NameKind.free) = true
  ·obtain ⟨c, hc⟩ := hf (n, k) List.mem_cons_self (by simpa using hk)
   have hc' : env.cells.lookup n = some c := hc
   have e : cellOf env n = pure c := by unfold cellOf; rw [hc']
   simp only [hk, if_true, e]
   show (forIn r ((n, c) :: cs) _ : Sem _) = _
   rw [ih]
   conv => rhs; unfold clOf
   simp only [hk, if_true, hc', Option.getD_some]
  ·simp only [hk, if_false]
   show (forIn r cs _ : Sem _) = _
   rw [ih]
   conv => rhs; unfold clOf
   simp only [hk, if_false]
   rfl
theorem K7 {scope : Scope} {env : Env} (hf : ∀ y ∈ scope.names, y.2 = .free → ∃ c, env.cells.lookup y.1 = some c) : closureFor scope env = pure (clOf env.cells scope.names []) := by
 have h := RG (env := env) scope.names [] hf
 unfold closureFor
 show ((forIn scope.names [] _ : Sem _) >>= fun r => pure r) = _
 exact (congrArg (fun m => m >>= fun r => pure r) h)
theorem C_ {env : Env} {x : Str} {k : NameKind} : ∀ {names : List (Str × NameKind)}, (names.map fun (n, k) => if (k == NameKind.free && env.scope.kind == .function && env.kindOf n == some .cell) then (n, NameKind.cell) else (n, k)).lookup x = some k →
  ∃ k', (x, k') ∈ names ∧ (k' = k ∨ (k' = .free ∧ k = .cell))
 | [], h => by simp at h
 | (n, k0) :: r, h => by
  rw [List.map_cons] at h
  have ih := @C_ env x k r
  by_cases hc : (k0 == NameKind.free && env.scope.kind == .function && env.kindOf n == some .cell) = true
  ·simp only [hc, if_true] at h
   rw [List.lookup_cons] at h
   split at h
   ·rename_i e
    have e' : x = n := by simpa using e
    subst e'
    have hk0 : k0 = .free := by
     rw [Bool.and_eq_true, Bool.and_eq_true] at hc
     simpa using hc.1.1
    cases h
    exact ⟨k0, List.mem_cons_self, .inr ⟨hk0, rfl⟩⟩
   ·obtain ⟨k', h1, h2⟩ := ih h
    exact ⟨k', List.mem_cons_of_mem _ h1, h2⟩
  ·simp only [hc, if_false] at h
   rw [List.lookup_cons] at h
   split at h
   ·rename_i e
    have e' : x = n := by simpa using e
    subst e'
    cases h
    exact ⟨k0, List.mem_cons_self, .inl rfl⟩
   ·obtain ⟨k', h1, h2⟩ := ih h
    exact ⟨k', List.mem_cons_of_mem _ h1, h2⟩
def DG (t : Str) (N : List Str) : List Str := N.map fun y => if y = t then Str.empty else y
def Ft (X : Cx) (scope : Scope) (t : Str) (s2 : Shared) (H2 : Hp) (fp : List Addr) : Cx :=
 { X with N := DG t X.N ++ [t], s₀ := s2, H₀ := H2, env := compEnvC scope (clOf X.env.cells scope.names []) (s2.heap.objs.size + 1) X.env, outer := X.stack, ex := fp, fn := fun _ => false, pn := [], xe := fun _ _ => False }
structure CompOk (X : Cx) (scope : Scope) (t : Str) : Prop where
 nocell : ∀ y ∈ scope.names, y.2 ≠ .cell
 kind : scope.kind = .function
 names : ∀ y ∈ scope.names, y.2 = .local → scope.names.lookup y.1 = some .local
 tl : scope.names.lookup t = some .local
 loc : ∀ y ∈ scope.names, y.2 = .local → y.1 = t ∨ y.1 ∉ X.N
 fre : ∀ y ∈ scope.names, y.2 = .free → X.env.kindOf y.1 = some .cell ∨ X.env.kindOf y.1 = some .free
 emp : ∀ y ∈ scope.names, y.1 ≠ Str.empty
 nd : (DG t X.N ++ [t]).Nodup
section
variable {X : Cx} {scope : Scope} {t : Str}
theorem CompOk.cells (c : CompOk X scope t) (ok : X.Ok) : ∀ y ∈ scope.names, y.2 = .free → ∃ c, X.env.cells.lookup y.1 = some c := fun y hy hf => ok.has y.1 (c.fre y hy hf)
theorem CompOk.sub (c : CompOk X scope t) (ok : X.Ok) {x : Str} {a : Addr} (h : (clOf X.env.cells scope.names []).lookup x = some a) : X.env.cells.lookup x = some a := by
 rcases KR (c.cells ok) h with q | q
 ·simp at q
 ·exact q
theorem CompOk.inv {pins : List (Addr × Obj)} {σ : St} {H : Hp} {s : Shared} {fp : List Addr} {h1 : Heap} {tk : Nat} (c : CompOk X scope t) (I : Inv X pins σ H s) (hf : ∀ b ∈ fp, FpOk X pins H b) (ho : ∀ b ∈ fp, ∃ o, s.heap.get? b = some o)
  (hns : h1.Ns (s.heap.objs.size + 1) (fun _ => none)) (kp : ∀ b o, s.heap.get? b = some o → h1.get? b = some o) (hacc : h1.get? s.heap.objs.size = some { cls := .type "list", data := .seq #[] }) :
  Inv (Ft X scope t s H fp) [] (σ ++ [none]) (upd H s.heap.objs.size (.lst [])) { s with heap := h1, toks := tk } := by
 have lt_of : ∀ b o, s.heap.get? b = some o → b < s.heap.objs.size := fun b o e => Heap.lt_size e
 have ok' : (Ft X scope t s H fp).Ok := by
  refine ⟨I.ok.mod, c.kind, I.ok.glob, I.ok.blt, Nat.le_succ _, fun x y a h1 h2 => I.ok.inj x y a (c.sub I.ok h1) (c.sub I.ok h2), fun x hx => ?_, fun x a h _ => absurd (show false = true from h) Bool.false_ne_true, I.ok.hd, I.ok.frames, .inl rfl, fun b hb => ⟨?_, fun x a h => ?_⟩, I.bs, Nat.le_trans I.ok.bsz I.sz, fun b o e hb => ?_, fun b hb hs => ?_, I.stack, I.stkFree⟩
  ·have hx' : (relabel scope X.env).names.lookup x = some .cell ∨ (relabel scope X.env).names.lookup x = some .free := hx
   have go : ∀ k, (relabel scope X.env).names.lookup x = some k → (k = .cell ∨ k = .free) → (x, NameKind.free) ∈ scope.names := fun k hk hkk => by
    obtain ⟨k', m, e⟩ := C_ hk
    rcases e with e | ⟨e, _⟩
    ·subst e
     rcases hkk with z | z
     ·exact absurd z (c.nocell _ m)
     ·rw [← z]; exact m
    ·rw [← e]; exact m
   rcases hx' with h | h
   ·exact GR (go _ h (.inl rfl))
   ·exact GR (go _ h (.inr rfl))
  ·obtain ⟨o, e⟩ := ho b hb
   exact Nat.ne_of_lt (Nat.lt_succ_of_lt (lt_of b o e))
  ·exact (hf b hb).2.2.2.2.1 x a (c.sub I.ok h)
  ·rcases (hf b hb).2.2.2.1 with z | z
   ·exact I.ok.noex b o e z
   ·exact absurd (Nat.lt_of_lt_of_le (Heap.lt_size e) (Nat.le_trans I.ok.bsz z)) (Nat.lt_irrefl _)
  ·rcases List.mem_cons.mp (I.stkSub b hs) with z | z
   ·exact (hf b hb).2.1 z
   ·exact (hf b hb).2.2.1 z
 have fr : H s.heap.objs.size = none := I.hok.fresh (Nat.le_refl _)
 have new : BK X.prog X.w (upd H s.heap.objs.size (.lst [])) h1 s.heap.objs.size (.lst []) := ⟨Nat.zero_le _, [], 0, .nil, hacc⟩
 refine ⟨ok', rfl, I.bare, Un.laid kp (Nat.le_refl _) fr, ⟨_, hns, fun i x v e1 e2 e3 => ?_⟩, fun x a h => ?_, ?_, fun x a h => ?_, fun p hp => absurd (show p ∈ ([] : List (Addr × Obj)) from hp) (by simp), I.hok.laid kp (Nat.le_refl _) new, ?_⟩
 ·have e1' : (DG t X.N ++ [t])[i]? = some x := e1
  have hil : i < σ.length := by
   by_cases z : i < σ.length
   ·exact z
   ·rw [List.getElem?_append_right (by omega)] at e2
    cases q : i - σ.length with
    | zero => rw [q] at e2; cases e2
    | succ n => rw [q] at e2; simp at e2
  have e2' : σ[i]? = some (some v) := by rw [List.getElem?_append_left hil] at e2; exact e2
  have hN : i < X.N.length := by rw [← I.len]; exact hil
  have e1'' : (DG t X.N)[i]? = some x := by rw [List.getElem?_append_left (by unfold DG; rw [List.length_map]; exact hN)] at e1'; exact e1'
  unfold DG at e1''
  rw [List.getElem?_map] at e1''
  have e3' : (relabel scope X.env).names.lookup x = some .local ∨ (relabel scope X.env).names.lookup x = some .cell ∨ (relabel scope X.env).names.lookup x = some .free := e3
  have hin : ∃ k', (x, k') ∈ scope.names ∧ (k' = .local ∨ k' = .free) ∧ (k' = .free → (relabel scope X.env).names.lookup x = some .cell ∨ (relabel scope X.env).names.lookup x = some .free) := by
   rcases e3' with z | z | z
   ·obtain ⟨k', m, e⟩ := C_ z
    rcases e with e | ⟨_, e⟩
    ·exact ⟨k', m, .inl e, fun q => by rw [q] at e; cases e⟩
    ·cases e
   ·obtain ⟨k', m, e⟩ := C_ z
    rcases e with e | ⟨e, _⟩
    ·exact absurd e (c.nocell _ m)
    ·exact ⟨k', m, .inr e, fun _ => .inl z⟩
   ·obtain ⟨k', m, e⟩ := C_ z
    rcases e with e | ⟨e, q⟩
    ·exact ⟨k', m, .inr e, fun _ => .inr z⟩
    ·cases q
  cases ey : X.N[i]? with
  | none => rw [ey] at e1''; cases e1''
  | some y =>
   rw [ey] at e1''
   have e1z : (if y = t then Str.empty else y) = x := Option.some.inj e1''
   obtain ⟨k', m, hk', hfr⟩ := hin
   by_cases hyt : y = t
   ·rw [if_pos hyt] at e1z
    exact absurd e1z.symm (c.emp _ m)
   ·rw [if_neg hyt] at e1z
    subst e1z
    rcases hk' with hk' | hk'
    ·rcases c.loc _ m hk' with z | z
     ·exact absurd z hyt
     ·exact absurd (List.mem_of_getElem? ey) z
    ·have hkk := c.fre _ m hk'
     have hkk' : X.env.kindOf y = some .cell ∨ X.env.kindOf y = some .free := hkk
     obtain ⟨mm, hn, hl⟩ := I.loc
     have hv : Vis X.env.scope y := by
      rcases hkk' with z | z
      ·exact .inr (.inl z)
      ·exact .inr (.inr z)
     obtain ⟨u, r, l⟩ := hl i y v ey e2' hv
     refine ⟨u, r, .inr ⟨hfr hk', ?_⟩⟩
     rcases l with ⟨kl, _⟩ | ⟨_, a, ea, hc⟩
     ·rcases hkk' with z | z
      ·rw [kl] at z; cases z
      ·rw [kl] at z; cases z
     ·rw [hk'] at m
      obtain ⟨a', ha'⟩ := GR (cells := X.env.cells) (cs := []) m
      refine ⟨a', ha', ?_⟩
      have := c.sub I.ok ha'
      rw [ea] at this
      cases this
      obtain ⟨o, e, d⟩ := hc
      exact ⟨o, kp _ _ e, d⟩
 ·obtain ⟨v, o, e, d⟩ := I.cell x a (c.sub I.ok h)
  exact ⟨v, o, kp _ _ e, d⟩
 ·show upd H s.heap.objs.size (.lst []) (s.heap.objs.size + 1) = none
  rw [Af (Nat.succ_ne_self _)]
  exact I.hok.fresh (Nat.le_succ _)
 ·have ha := c.sub I.ok h
  obtain ⟨v, o, e, d⟩ := I.cell x a ha
  rw [Af (Nat.ne_of_lt (lt_of _ _ e))]
  exact I.freeC x a ha
 ·show (σ ++ [none]).length = (DG t X.N ++ [t]).length
  unfold DG
  rw [List.length_append, List.length_append, List.length_map, I.len]
  rfl
def Z0 (wi : TI) (tc : TT) (te : TE) : TE := fun σ H Q => wi σ H fun J H1 => ∀ p, H1 p = none → ∃ W : Nat → Nat → List V → Hp → Prop, (∃ m, W 0 m [] (upd H1 p (.lst []))) ∧
 ∀ i m ys H, W i m ys H → (J.stop i H ∧ Q (.ref p) H) ∨ (J.go i H ∧ ∀ x H', J.yld i H x H' → tc (σ ++ [some x]) H' fun b H2 =>
  if b = true then te (σ ++ [some x]) H2 fun y H3 => H3 p = some (.lst ys) ∧ ys.length < sizeLine ∧ ∃ m', m' < m ∧ W (i + 1) m' (ys ++ [y]) (upd H3 p (.lst (ys ++ [y]))) else ∃ m', m' < m ∧ W (i + 1) m' ys H2)
def PTs (X : Cx) (ifs : List Expr) (tc : TT) : Prop :=
 ∀ (pins : List (Addr × Obj)) (s : Shared) (σ : St) (H : Hp) (Q : Bool → Hp → Prop), Inv X pins σ H s → tc σ H Q →
  wpAny (model X.prog X.w) X.A (forIn ifs true fun c r => if r = true then do let ok ← isTrue c X.env (eval c X.env); pure (ForInStep.yield ok) else pure (ForInStep.yield r)) (TP X pins σ Q) X.xe s
theorem YB : PTs X [] (fun _ H Q => Q true H) := fun _ _ _ H _ I h => wpAny_tests_nil ⟨H, I, h⟩
theorem YC {e : Expr} {tc : TT} (h : PT X e tc) : PTs X [e] tc := fun pins s σ H Q I q => wpAny_tests_one (h pins s σ H Q I q)
variable {elt iter : Expr} {ifs : List Expr} {px pos : Pos} {wi : TI} {tc : TT} {te : TE}
theorem QM {pins : List (Addr × Obj)} {s : Shared} {σ : St} {H : Hp} {Q : VK} {it : Addr} {fp : List Addr} {tn : Nat → Heap → Prop} {J : It} {E : Value → Shared → Prop} {RR : Value → Addr → Result → Shared → Prop} (c : CompOk X scope t) (hc : X.calm = true)
    (I : Inv X pins σ H s) (T : Turn X.prog X.w X.K (.Name t px) J fp it tn) (st0 : tn 0 s.heap) (hf : ∀ b ∈ fp, FpOk X pins H b)
    (hI : ∀ s2 H2 fp, PTs (Ft X scope t s2 H2 fp) ifs tc) (hE : ∀ s2 H2 fp, PE (Ft X scope t s2 H2 fp) elt te)
    (h : ∀ p, H p = none → ∃ W : Nat → Nat → List V → Hp → Prop, (∃ m, W 0 m [] (upd H p (.lst []))) ∧
      ∀ i m ys H, W i m ys H → (J.stop i H ∧ Q (.ref p) H) ∨ (J.go i H ∧ ∀ x H', J.yld i H x H' → tc (σ ++ [some x]) H' fun b H2 =>
        if b = true then te (σ ++ [some x]) H2 fun y H3 => H3 p = some (.lst ys) ∧ ys.length < sizeLine ∧ ∃ m', m' < m ∧ W (i + 1) m' (ys ++ [y]) (upd H3 p (.lst (ys ++ [y]))) else ∃ m', m' < m ∧ W (i + 1) m' ys H2))
    (hRR : ∀ p C s' H' m, Inv X pins σ H' s' → H' C = none → C ≠ X.env.locals → X.s₀.heap.objs.size ≤ C → (∀ x a, X.env.cells.lookup x = some a → a ≠ C) → (∀ q ∈ X.pn ++ pins, q.1 ≠ C) → s'.heap.Ns C m → Q (.ref p) H' → RR (.ref p) C (.ok .next) s') :
    wpAny (model X.prog X.w) X.A (newList []) (fun acc s₃ => wpAny (model X.prog X.w) X.A (newFunctionEnv scope X.env.globals (clOf X.env.cells scope.names []) [] X.env.qual none .none (some X.env)) (fun cenv s₄ =>
      codeAny (model X.prog X.w) X.A (.compStart (.ListComp elt [⟨.Name t px, iter, ifs, 0⟩] scope pos) 0 (.ref it) acc { cenv with scope := relabel scope X.env }) (RR acc cenv.locals) s₄) E s₃) E s := by
  refine wpAny_newObj_type (wpAny_newFunctionEnv c.nocell (by intro y hy; simp at hy) (fun h₁ hns₁ hsb₁ => ?_) c.kind)
  dsimp only at hns₁ hsb₁ ⊢
  generalize hH2 : s.heap.push { cls := .type "list", dict := none, data := .seq ([] : List Value).toArray } = G2 at hns₁ hsb₁ ⊢
  have hC : G2.objs.size = s.heap.objs.size + 1 := by rw [← hH2, Heap.size_push]
  rw [hC] at hns₁ hsb₁ ⊢
  have kp : ∀ b o, s.heap.get? b = some o → h₁.get? b = some o := fun b o e => hsb₁.extBut b o (Nat.ne_of_lt (Nat.lt_succ_of_lt (Heap.lt_size e))) (Heap.get?_push_of_some _ (hH2 ▸ Heap.get?_push_of_some _ e))
  have hacc : h₁.get? s.heap.objs.size = some { cls := .type "list", data := .seq #[] } := hsb₁.extBut _ _ (Nat.ne_of_lt (Nat.lt_succ_self _)) (Heap.get?_push_of_some _ (hH2 ▸ Heap.get?_push_size _ rfl))
  have hob : ∀ b ∈ fp, ∃ o, s.heap.get? b = some o := fun b hb => let ⟨o, e, _⟩ := T.obj 0 _ st0 b hb; ⟨o, e⟩
  have I0 := c.inv (fp := fp) (h1 := h₁) (tk := s.toks + ([] : List (Str × Value)).length) I hf hob (by simpa using hns₁) kp hacc
  have fr : H s.heap.objs.size = none := I.hok.fresh (Nat.le_refl _)
  obtain ⟨W, ⟨m0, w0⟩, turn⟩ := h _ fr
  have st1 : tn 0 h₁ := T.keep 0 _ _ st0 fun b _ o e => kp b o e
  generalize hX : Ft X scope t s H fp = Y at I0
  have hcY : Y.calm = true := by rw [← hX]; exact hc
  have stat : ∀ {H' : Hp}, (∀ b ∈ fp, H' b = none) → ∀ b ∈ fp, FpOk Y [] H' b := fun {H'} hn b hb => by
    obtain ⟨o, e⟩ := hob b hb
    refine ⟨hn b hb, ?_, ?_, .inl ?_, fun x a e' => ?_, fun p hp => ?_⟩
    · rw [← hX]; exact Nat.ne_of_lt (Nat.lt_succ_of_lt (Heap.lt_size e))
    · intro z
      exact I0.ok.exfs b (by rw [← hX]; exact hb) z
    · rw [← hX]; exact hb
    · exact (I0.ok.exf b (by rw [← hX]; exact hb)).2 x a e'
    · rw [← hX] at hp
      exact absurd (show p ∈ ([] : List (Addr × Obj)) from hp) (by simp)
  have fp0 : ∀ b ∈ fp, upd H s.heap.objs.size (.lst []) b = none := fun b hb => by
    obtain ⟨o, e⟩ := hob b hb
    rw [Af (Nat.ne_of_lt (Heap.lt_size e))]
    exact (hf b hb).1
  have envY : Y.env = compEnvC scope (clOf X.env.cells scope.names []) (s.heap.objs.size + 1) X.env := by rw [← hX]; rfl
  have pY : Y.prog = X.prog := by rw [← hX]; rfl
  have wY : Y.w = X.w := by rw [← hX]; rfl
  have aY : Y.A = X.A := by rw [← hX]; rfl
  have kY : Y.K = X.K := by rw [← hX]; rfl
  have xY : Y.xe = fun _ _ => False := by rw [← hX]; rfl
  have nY : Y.N = DG t X.N ++ [t] := by rw [← hX]; rfl
  have lenN : (DG t X.N).length = σ.length := by unfold DG; rw [List.length_map, I.len]
  have hIY : PTs Y ifs tc := by rw [← hX]; exact hI s H fp
  have hEY : PE Y elt te := by rw [← hX]; exact hE s H fp
  have setE : ∀ (o : Option V) (v : V), (σ ++ [o]).set (DG t X.N).length (some v) = σ ++ [some v] := fun o v => by
    rw [lenN, List.set_append_right _ _ (Nat.le_refl _), Nat.sub_self]
    rfl
  have loop : ∀ s₃ : Shared, s₃ = { s with heap := h₁, toks := s.toks + ([] : List (Str × Value)).length } →
      codeAny (model X.prog X.w) X.A (.compLoop (.ListComp elt [⟨.Name t px, iter, ifs, 0⟩] scope pos) 0 (.ref it) (.ref s.heap.objs.size) (compEnvC scope (clOf X.env.cells scope.names []) (s.heap.objs.size + 1) X.env)) (RR (.ref s.heap.objs.size) (s.heap.objs.size + 1)) s₃ := by
    rintro s₃ rfl
    rw [← envY]
    refine codeAny_compLoop_tests (fun n s' => ∃ i ys o H', Inv Y [] (σ ++ [o]) H' s' ∧ tn i s'.heap ∧ (∀ b ∈ fp, H' b = none) ∧ W i n ys H') ?_ m0 ⟨0, [], none, _, I0, st1, fp0, w0⟩
    rintro n s3 ⟨i, ys, o, H3, I3, st3, fr3, w3⟩
    rcases turn i n ys H3 w3 with ⟨stop, qn⟩ | ⟨go, step⟩
    · have d := T.done Y pY wY kY hcY i [] s3 _ H3 (fun _ _ => False) I3 (stat fr3) st3 stop
      rw [aY] at d
      refine wpAny_mono d (fun r s4 ⟨hr, I4⟩ => ?_) fun _ _ z => z.elim
      subst hr
      have cN := I4.free
      have cN' : H3 (s.heap.objs.size + 1) = none := by rw [envY] at cN; exact cN
      have un := I4.base
      obtain ⟨m, hm, _⟩ := I4.loc
      have hm' : s4.heap.Ns (s.heap.objs.size + 1) m := by rw [envY] at hm; exact hm
      have un' : Un (frs X.stack) fp H H3 s.heap s4.heap := by rw [← hX] at un; exact un
      have os' : s4.os = s.os := by have := I4.os; rw [← hX] at this; exact this
      have hok' : HOk X.prog X.w H3 s4.heap := by have := I4.hok; rw [← hX] at this; exact this
      have bare' := I4.bare
      have IX : Inv X pins σ H3 s4 := I.call' os' un' hok' bare' fun b hb => ⟨(hf b hb).2.2.2.1, (hf b hb).2.1, (hf b hb).2.2.2.2.1, (hf b hb).2.2.2.2.2⟩
      refine hRR _ _ _ _ m IX cN' (Nat.ne_of_gt (Nat.lt_succ_of_lt I.lt)) (Nat.le_trans I.sz (Nat.le_succ _)) (fun x a e z => ?_) (fun q hq z => ?_) hm' qn
      · obtain ⟨v, oc, e', _⟩ := I.cell x a e
        have q2 : a < s.heap.objs.size := Heap.lt_size e'
        have z' : a = s.heap.objs.size + 1 := z
        exact absurd (z' ▸ q2) (Nat.not_lt.mpr (Nat.le_succ _))
      · have q2 : q.1 < s.heap.objs.size := Heap.lt_size (I.pin q hq).1
        have z' : q.1 = s.heap.objs.size + 1 := z
        exact absurd (z' ▸ q2) (Nat.not_lt.mpr (Nat.le_succ _))
    · have d := T.item Y pY wY kY hcY i [] s3 _ H3 (fun _ _ => False) I3 (stat fr3) st3 go
      rw [aY] at d
      refine wpAny_mono d (fun r s4 ⟨u, hr, h4⟩ => ?_) fun _ _ z => z.elim
      subst hr
      intro Γ pp hΓ
      obtain ⟨x, H5, I5, r5, y5, st5, fr5⟩ := (show ∃ x H', Inv Y [] (σ ++ [o]) H' s4 ∧ RelV x u ∧ J.yld i H3 x H' ∧ tn (i + 1) s4.heap ∧ ∀ b ∈ fp, H' b = none from h4 Γ pp hΓ)
      revert Γ pp
      show wpAny (model X.prog X.w) X.A _ _ _ s4
      have I5' := I5.pinned (stat fr5) (T.obj _ _ st5)
      have hiY : Y.N[(DG t X.N).length]? = some t := by rw [nY, List.getElem?_append_right (Nat.le_refl _), Nat.sub_self]; rfl
      have htl : Y.env.scope.names.lookup t = some .local := by rw [envY]; exact lookup_relabel_local c.tl
      refine wpAny_assign_Name (Hg (i := (DG t X.N).length) (v := x) I5' (by rw [nY]; exact c.nd) hiY (.inl htl) r5 (fun s6 I6 => ?_) (.inr htl))
      rw [setE] at I6
      have q := step x H5 y5
      have tst := hIY _ s6 _ H5 _ I6 q
      rw [aY, pY, wY, xY] at tst
      refine wpAny_mono tst (fun b s7 ⟨H7, I7, q7⟩ => ?_) fun _ _ z => z.elim
      have back : ∀ {H8 : Hp} {s8 : Shared}, Inv Y ([] ++ J7 fp s4.heap) (σ ++ [some x]) H8 s8 → tn (i + 1) s8.heap ∧ ∀ b ∈ fp, H8 b = none := fun {H8 s8} I8 => by
        refine ⟨T.keep _ _ _ st5 fun b hb ob e => (I8.pin (b, ob) (List.mem_append_right _ (List.mem_append_right _ (Fo hb e)))).1, fun b hb => ?_⟩
        obtain ⟨ob, e, d⟩ := T.obj _ _ st5 b hb
        exact (I8.pin (b, ob) (List.mem_append_right _ (List.mem_append_right _ (Fo hb e)))).2.1
      cases b with
      | false =>
        rw [if_neg Bool.false_ne_true] at q7 ⊢
        obtain ⟨m', hm, w7⟩ := q7
        obtain ⟨t7, f7⟩ := back I7
        exact ⟨m', hm, i + 1, ys, some x, H7, I7.unpinned, t7, f7, w7⟩
      | true =>
        rw [if_pos rfl] at q7 ⊢
        have ev := hEY _ s7 _ H7 _ I7 q7
        rw [aY, pY, wY, xY] at ev
        refine wpAny_mono ev (fun y s8 ⟨yv, H8, I8, r8, hp8, hz8, m', hm, w8⟩ => ?_) fun _ _ z => z.elim
        have ap := Lk (X := Y) _ s8 _ H8 (.ref s.heap.objs.size) [yv] (.ref s.heap.objs.size) [y] (fun _ H9 => H9 = upd H8 s.heap.objs.size (.lst (ys ++ [yv]))) I8 rfl (.cons r8 .nil) ⟨_, ys, yv, rfl, rfl, hp8, hz8, rfl⟩
        rw [aY, pY, wY, xY] at ap
        refine wpAny_mono ap (fun _ s9 ⟨_, H9, I9, _, e9⟩ => ?_) fun _ _ z => z.elim
        subst e9
        obtain ⟨t9, f9⟩ := back I9
        exact ⟨m', hm, i + 1, _, some x, _, I9.unpinned, t9, f9, w8⟩
  exact codeAny_compStart_list (loop _ rfl) (T.self X.A 0 _ _ _ st1 (loop _ rfl))
theorem YD (c : CompOk X scope t) (hc : X.calm = true) (hi : PI X (.Name t px) iter wi) (hI : ∀ s2 H2 fp, PTs (Ft X scope t s2 H2 fp) ifs tc) (hE : ∀ s2 H2 fp, PE (Ft X scope t s2 H2 fp) elt te)
  (hs : ∀ x, foldedSetIterable iter X.env x = pure x := by intro _; rfl) : PE X (.ListComp elt [⟨.Name t px, iter, ifs, 0⟩] scope pos) (Z0 wi tc te) := by
 intro pins s σ H Q I h
 rw [eval_ListComp]
 refine wpAny_comprehension_free (use := none) rfl hs (K7 (c.cells I.ok)) c.kind c.names (thn (hi pins s σ H _ I h) fun v s1 h1 => thn h1 fun itv s2 h2 => ?_)
 obtain ⟨it, fp, tn, J, H2, e, I2, T, st2, f2, q⟩ := h2
 subst e
 refine QM (Q := Q) c hc I2 T st2 f2 hI hE q fun p C s' H' m I' n1 n2 n3 n4 n5 hm q' => ?_
 exact ⟨m, hm, fun h' sb => ⟨.ref p, H', I'.turned (t' := s'.toks) (fun b o hb e => (sb.2 b hb).trans e) n1 (Ne.symm (Ne.symm n2)) (.inr n3) n4 n5, rfl, q'⟩⟩
end
end L2
namespace PV
open PySem PySem.Spec L2
open PyProof.Rows hiding St
structure Gx where
 K : PySem.W.Frag
 cl : Str → Option Addr
 xcl : Str → Option Addr := fun _ => none
 lent : Option Addr := none
theorem Dy {K : PySem.W.Frag} {H H' : Hp} {a : Addr} {xs : List V} (e : Same H H') (h : SqT K H a xs) : SqT K H' a xs := by
 rcases h with (h | ⟨o, h⟩) | h
 ·exact .inl (.inl (e _ _ h))
 ·exact .inl (.inr ⟨o, e _ _ h⟩)
 ·exact .inr h
theorem Am {H : Hp} {p : Addr} (h : H p = none) (o : HO) : Same H (upd H p o) := fun b u q => by rw [Af (Aj q h)]; exact q
def FsV (fs : List (Str × V)) (gs : List (Str × D)) : Prop := fs.map (fun p => (p.1, some p.2)) = gs.map fun p => (p.1, flV p.2)
inductive Rep (G : Gx) (H : Hp) : V → D → Prop
 | non : Rep G H .non .non
 | bl (b : Bool) : Rep G H (.bl b) (.bl b)
 | int (i : Int) : Rep G H (.int i) (.int i)
 | str (x : Str) : Rep G H (.str x) (.str x)
 | tup {a : Addr} {xs : List V} {ds : List D} : SqT G.K H a xs → xs.length = ds.length → (∀ (i : Nat) x d, xs[i]? = some x → ds[i]? = some d → Rep G H x d) → Rep G H (.ref a) (.tup ds)
 | lst {a : Addr} {xs : List V} {ds : List D} : SqL G.K H a xs → xs.length = ds.length → (∀ (i : Nat) x d, xs[i]? = some x → ds[i]? = some d → Rep G H x d) → Rep G H (.ref a) (.lst ds)
 | dk {a : Addr} {o : Obj} {kvs : List (Key × V)} {kds : List (Key × D)} : H a = some (.frz o (.dK kvs)) → kvs.map (·.1) = kds.map (·.1) → (∀ (i : Nat) x d, (kvs.map (·.2))[i]? = some x → (kds.map (·.2))[i]? = some d → Rep G H x d) → Rep G H (.ref a) (.dk kds)
 | dt {a : Addr} {o : Obj} {kvs : List (List Key × V)} {kds : List (List Key × D)} : H a = some (.frz o (.dT kvs)) → kvs.map (·.1) = kds.map (·.1) → (∀ (i : Nat) x d, (kvs.map (·.2))[i]? = some x → (kds.map (·.2))[i]? = some d → Rep G H x d) → Rep G H (.ref a) (.dt kds)
 | adr (a : Addr) : Rep G H (.ref a) (.adr a)
 | ob {a C dx : Addr} {c : Str} {fs : List (Str × V)} {gs : List (Str × D)} : G.cl c = some C → H a = some (.ins C dx fs) → fs.map (·.1) = gs.map (·.1) → (∀ (i : Nat) x d, (fs.map (·.2))[i]? = some x → (gs.map (·.2))[i]? = some d → Rep G H x d) → Rep G H (.ref a) (.ob c gs)
 | err {a C dx : Addr} {tb : Option Addr} {c : Str} {fs : List (Str × V)} {gs : List (Str × D)} : G.xcl c = some C → H a = some (EX.excO a C (some dx) tb) → H dx = some (.xd fs) → FsV fs gs → Rep G H (.ref a) (.err c gs)
def RepL (G : Gx) (H : Hp) (xs : List V) (ds : List D) : Prop := xs.length = ds.length ∧ ∀ (i : Nat) x d, xs[i]? = some x → ds[i]? = some d → Rep G H x d
theorem Rep.mono {G : Gx} {H H' : Hp} {v : V} {d : D} (r : Rep G H v d) (s : Same H H') : Rep G H' v d := by
 induction r with
 | non => exact .non
 | bl b => exact .bl b
 | int i => exact .int i
 | str x => exact .str x
 | tup h l _ ih => exact .tup (Dy s h) l ih
 | lst h l _ ih => exact .lst (s.seq h) l ih
 | dk h l _ ih => exact .dk (s _ _ h) l ih
 | dt h l _ ih => exact .dt (s _ _ h) l ih
 | adr a => exact .adr a
 | ob c h l _ ih => exact .ob c (s _ _ h) l ih
 | err c h q f => exact .err c (s _ _ h) (s _ _ q) f
theorem RepL.mono {G : Gx} {H H' : Hp} {xs : List V} {ds : List D} (r : RepL G H xs ds) (s : Same H H') : RepL G H' xs ds := ⟨r.1, fun i x d a b => (r.2 i x d a b).mono s⟩
theorem RepL.nil {G : Gx} {H : Hp} : RepL G H [] [] := ⟨rfl, fun i x d h => by simp at h⟩
theorem RepL.cons {G : Gx} {H : Hp} {x : V} {d : D} {xs : List V} {ds : List D} (r : Rep G H x d) (rs : RepL G H xs ds) : RepL G H (x :: xs) (d :: ds) :=
 ⟨by simp [rs.1], fun i y e h1 h2 => by
  cases i with
  | zero => simp at h1 h2; subst h1; subst h2; exact r
  | succ i => simp at h1 h2; exact rs.2 i y e h1 h2⟩
theorem RepL.uncons {G : Gx} {H : Hp} {xs : List V} {d : D} {ds : List D} (r : RepL G H xs (d :: ds)) : ∃ x ys, xs = x :: ys ∧ Rep G H x d ∧ RepL G H ys ds := by
 obtain ⟨l, h⟩ := r
 cases xs with
 | nil => simp at l
 | cons x ys => exact ⟨x, ys, rfl, h 0 x d rfl rfl, by simpa using l, fun i y e h1 h2 => h (i + 1) y e (by simpa using h1) (by simpa using h2)⟩
theorem RepL.nil_inv {G : Gx} {H : Hp} {xs : List V} (r : RepL G H xs []) : xs = [] := by
 have := r.1
 cases xs with
 | nil => rfl
 | cons x ys => simp at this
theorem RepL.append {G : Gx} {H : Hp} {xs ys : List V} {ds es : List D} (a : RepL G H xs ds) (b : RepL G H ys es) : RepL G H (xs ++ ys) (ds ++ es) := by
 refine ⟨by rw [List.length_append, List.length_append, a.1, b.1], fun i x d h1 h2 => ?_⟩
 by_cases hi : i < xs.length
 ·rw [List.getElem?_append_left hi] at h1
  rw [List.getElem?_append_left (by rw [← a.1]; exact hi)] at h2
  exact a.2 i x d h1 h2
 ·rw [List.getElem?_append_right (Nat.not_lt.mp hi)] at h1
  rw [List.getElem?_append_right (by rw [← a.1]; exact Nat.not_lt.mp hi), ← a.1] at h2
  exact b.2 _ x d h1 h2
theorem RepL.drop {G : Gx} {H : Hp} {xs : List V} {ds : List D} (a : RepL G H xs ds) (n : Nat) : RepL G H (xs.drop n) (ds.drop n) :=
 ⟨by rw [List.length_drop, List.length_drop, a.1], fun i x d h1 h2 => by rw [List.getElem?_drop] at h1 h2; exact a.2 _ x d h1 h2⟩
theorem RepL.take {G : Gx} {H : Hp} {xs : List V} {ds : List D} (a : RepL G H xs ds) (n : Nat) : RepL G H (xs.take n) (ds.take n) :=
 ⟨by rw [List.length_take, List.length_take, a.1], fun i x d h1 h2 => by
  rw [List.getElem?_take] at h1 h2
  split at h1
  ·rename_i hlt
   rw [if_pos hlt] at h2
   exact a.2 _ x d h1 h2
  ·cases h1⟩
theorem RepL.get {G : Gx} {H : Hp} {xs : List V} {ds : List D} (a : RepL G H xs ds) {i : Nat} {d : D} (h : ds[i]? = some d) : ∃ x, xs[i]? = some x ∧ Rep G H x d := by
 have hi : i < ds.length := (List.getElem?_eq_some_iff.mp h).1
 have hi' : i < xs.length := by rw [a.1]; exact hi
 exact ⟨xs[i], by simp [hi'], a.2 i _ d (by simp [hi']) h⟩
theorem RepL.atI {G : Gx} {H : Hp} {xs : List V} {ds : List D} (a : RepL G H xs ds) {i : Int} {d : D} (h : L2.atI ds i = some d) : ∃ x, L2.atI xs i = some x ∧ Rep G H x d := by
 unfold L2.atI at h ⊢
 rw [← a.1] at h
 cases e : ixN xs.length i with
 | none => rw [e] at h; cases h
 | some j =>
  rw [e] at h
  obtain ⟨x, h1, h2⟩ := a.get (show ds[j]? = some d from h)
  exact ⟨x, h1, h2⟩
def hid (A : List Addr) (H : Hp) : Hp := fun b => if b ∈ A then none else H b
theorem Aq {A : List Addr} {H H' : Hp} (s : Same H H') : Same (hid A H) (hid A H') := fun b o h => by
 unfold hid at h ⊢
 split at h
 ·cases h
 ·rename_i hb; rw [if_neg hb]; exact s b o h
theorem Ai {A : List Addr} {H : Hp} : Same (hid A H) H := fun b o h => by
 unfold hid at h
 split at h
 ·cases h
 ·exact h
theorem Dd {A B : List Addr} {H : Hp} (h : ∀ a ∈ A, a ∈ B) : Same (hid B H) (hid A H) := fun b o q => by
 unfold hid at q ⊢
 split at q
 ·cases q
 ·rename_i hb; rw [if_neg (fun z => hb (h b z))]; exact q
theorem Bm {A : List Addr} {H : Hp} {p : Addr} (h : p ∉ A) : hid A H p = H p := by unfold hid; rw [if_neg h]
theorem DY {A : List Addr} {H : Hp} {p : Addr} {o : HO} (h : p ∈ A) : hid A (upd H p o) = hid A H := by
 funext b
 unfold hid
 by_cases hb : b ∈ A
 ·rw [if_pos hb, if_pos hb]
 ·rw [if_neg hb, if_neg hb, Af (fun e : b = p => hb (by rw [e]; exact h))]
def Top (G : Gx) (A : List Addr) (H : Hp) (a : Addr) : D → Prop
 | .lst ds => ∃ xs, H a = some (.lst xs) ∧ RepL G (hid A H) xs ds
 | .dk kds => ∃ kvs, H a = some (.dK kvs) ∧ kvs.map (·.1) = kds.map (·.1) ∧ RepL G (hid A H) (kvs.map (·.2)) (kds.map (·.2))
 | .dt kds => ∃ kvs, H a = some (.dT kvs) ∧ kvs.map (·.1) = kds.map (·.1) ∧ RepL G (hid A H) (kvs.map (·.2)) (kds.map (·.2))
 | .ob c gs => ∃ C dx fs, H a = some (.ins C dx fs) ∧ (G.cl c = some C ∧ fs.map (·.1) = gs.map (·.1)) ∧ RepL G (hid A H) (fs.map (·.2)) (gs.map (·.2))
 | _ => False
theorem Top.mono {G : Gx} {A : List Addr} {H H' : Hp} {a : Addr} {d : D} (t : Top G A H a d) (s : Same H H') : Top G A H' a d := by
 cases d with
 | lst ds => obtain ⟨xs, h, r⟩ := t; exact ⟨xs, s _ _ h, r.mono (Aq s)⟩
 | dk ds => obtain ⟨xs, h, k, r⟩ := t; exact ⟨xs, s _ _ h, k, r.mono (Aq s)⟩
 | dt ds => obtain ⟨xs, h, k, r⟩ := t; exact ⟨xs, s _ _ h, k, r.mono (Aq s)⟩
 | ob c gs => obtain ⟨C, dx, xs, h, k, r⟩ := t; exact ⟨C, dx, xs, s _ _ h, k, r.mono (Aq s)⟩
 | _ => exact t.elim
structure Nt (x : Option HO) : Prop where
 ne : x ≠ none
 tup : ∀ xs, x ≠ some (.tup xs)
theorem Nt.mono {x y : Option HO} (h : Nt x) (k : ∀ u, x = some u → y = some u) : Nt y := by
 cases x with
 | none => exact absurd rfl h.ne
 | some u => rw [k u rfl]; exact h
theorem Nt.lst {xs : List V} : Nt (some (.lst xs)) := ⟨fun z => (nomatch z), fun _ z => (nomatch z)⟩
theorem Nt.dK {xs : List (Key × V)} : Nt (some (.dK xs)) := ⟨fun z => (nomatch z), fun _ z => (nomatch z)⟩
theorem Nt.dT {xs : List (List Key × V)} : Nt (some (.dT xs)) := ⟨fun z => (nomatch z), fun _ z => (nomatch z)⟩
theorem Nt.ins {C dx : Addr} {xs : List (Str × V)} : Nt (some (.ins C dx xs)) := ⟨fun z => (nomatch z), fun _ z => (nomatch z)⟩
structure Okp (G : Gx) (A : List Addr) (σ : St) (H : Hp) (ρ : Rho) : Prop where
 len : σ.length = ρ.length
 live : ∀ a ∈ A, Nt (H a)
 fz : ∀ (i : Nat) (d : D), ρ[i]? = some (.fz d) → ∃ v, σ[i]? = some (some v) ∧ Rep G (hid A H) v d
 ow : ∀ (i : Nat) (d : D), ρ[i]? = some (.ow d) → ∃ a, σ[i]? = some (some (.ref a)) ∧ a ∈ A ∧ Top G A H a d
 inj : ∀ (i j : Nat) (d e : D) (a : Addr), ρ[i]? = some (.ow d) → ρ[j]? = some (.ow e) → σ[i]? = some (some (.ref a)) → σ[j]? = some (some (.ref a)) → i = j
theorem Okp.mono {G : Gx} {A : List Addr} {σ : St} {H H' : Hp} {ρ : Rho} (o : Okp G A σ H ρ) (s : Same H H') : Okp G A σ H' ρ :=
 ⟨o.len, fun a ha => (o.live a ha).mono fun u e => s _ _ e,
  fun i d h => let ⟨v, h1, h2⟩ := o.fz i d h; ⟨v, h1, h2.mono (Aq s)⟩, fun i d h => let ⟨a, h1, h2, h3⟩ := o.ow i d h; ⟨a, h1, h2, h3.mono s⟩, o.inj⟩
def RepT (G : Gx) (A : List Addr) (H : Hp) (v : V) (d : D) : Prop := Rep G (hid A H) v d ∨ ∃ a, v = .ref a ∧ Top G A H a d
theorem RepT.mono {G : Gx} {A : List Addr} {H H' : Hp} {v : V} {d : D} (r : RepT G A H v d) (s : Same H H') : RepT G A H' v d := by
 rcases r with r | ⟨a, e, r⟩
 ·exact .inl (r.mono (Aq s))
 ·exact .inr ⟨a, e, r.mono s⟩
theorem RepT.lst {G : Gx} {A : List Addr} {H : Hp} {v : V} {ds : List D} (r : RepT G A H v (.lst ds)) : ∃ a xs, v = .ref a ∧ SqL G.K H a xs ∧ RepL G (hid A H) xs ds := by
 rcases r with r | ⟨a, e, xs, h, r⟩
 ·cases r with
  | lst h l r => exact ⟨_, _, rfl, Ai.seq h, l, r⟩
 ·exact ⟨a, xs, e, .of h, r⟩
theorem RepT.tup {G : Gx} {A : List Addr} {H : Hp} {v : V} {ds : List D} (r : RepT G A H v (.tup ds)) : ∃ a xs, v = .ref a ∧ SqT G.K H a xs ∧ RepL G (hid A H) xs ds := by
 rcases r with r | ⟨a, e, r⟩
 ·cases r with
  | tup h l r => exact ⟨_, _, rfl, Dy Ai h, l, r⟩
 ·exact r.elim
theorem RepT.int {G : Gx} {A : List Addr} {H : Hp} {v : V} {i : Int} (r : RepT G A H v (.int i)) : v = .int i := by
 rcases r with r | ⟨a, e, r⟩
 ·cases r; rfl
 ·exact r.elim
theorem RepT.str {G : Gx} {A : List Addr} {H : Hp} {v : V} {i : Str} (r : RepT G A H v (.str i)) : v = .str i := by
 rcases r with r | ⟨a, e, r⟩
 ·cases r; rfl
 ·exact r.elim
theorem RepT.bl {G : Gx} {A : List Addr} {H : Hp} {v : V} {i : Bool} (r : RepT G A H v (.bl i)) : v = .bl i := by
 rcases r with r | ⟨a, e, r⟩
 ·cases r; rfl
 ·exact r.elim
theorem RepT.non {G : Gx} {A : List Addr} {H : Hp} {v : V} (r : RepT G A H v .non) : v = .non := by
 rcases r with r | ⟨a, e, r⟩
 ·cases r; rfl
 ·exact r.elim
theorem RepT.dk {G : Gx} {A : List Addr} {H : Hp} {v : V} {kds : List (Key × D)} (r : RepT G A H v (.dk kds)) : ∃ a kvs, v = .ref a ∧ Rd H a (.dK kvs) ∧ kvs.map (·.1) = kds.map (·.1) ∧ RepL G (hid A H) (kvs.map (·.2)) (kds.map (·.2)) := by
 rcases r with r | ⟨a, e, kvs, h, k, r⟩
 ·cases r with
  | dk h k r =>
   refine ⟨_, _, rfl, .inr ⟨_, Ai _ _ h⟩, k, ?_, r⟩
   have := congrArg List.length k
   rw [List.length_map, List.length_map] at this ⊢
   exact this
 ·exact ⟨a, kvs, e, .of h, k, r⟩
theorem Ls {A : List Addr} {H : Hp} {p : Addr} (live : ∀ a ∈ A, Nt (H a)) (hp : H p = none) (o : HO) : hid A (upd H p o) p = some o := by
 rw [Bm (fun z => (live p z).ne hp), Ah]
theorem Bt {G : Gx} {A : List Addr} {H : Hp} {p : Addr} {xs : List V} {ds : List D} (live : ∀ a ∈ A, Nt (H a)) (hp : H p = none) (r : RepL G (hid A H) xs ds) : Rep G (hid A (upd H p (.lst xs))) (.ref p) (.lst ds) :=
 let q := r.mono (Aq (Am hp (.lst xs))); .lst (.of (Ls live hp _)) q.1 q.2
theorem GX {G : Gx} {A : List Addr} {H : Hp} {p : Addr} {xs : List V} {ds : List D} (live : ∀ a ∈ A, Nt (H a)) (hp : H p = none) (r : RepL G (hid A H) xs ds) : Rep G (hid A (upd H p (.tup xs))) (.ref p) (.tup ds) :=
 let q := r.mono (Aq (Am hp (.tup xs))); .tup (.of (Ls live hp _)) q.1 q.2
def tF (G : Gx) (A : List Addr) (f : FE) : TE := fun σ H Q => ∃ ρ d, Okp G A σ H ρ ∧ f ρ = some d ∧ ∀ v H', Same H H' → Rep G (hid A H') v d → Q v H'
def tT (G : Gx) (A : List Addr) (f : FE) : TE := fun σ H Q => ∃ ρ d, Okp G A σ H ρ ∧ f ρ = some d ∧ ∀ v H', Same H H' → RepT G A H' v d → Q v H'
def PF (X : Cx) (G : Gx) (e : Expr) (f : FE) : Prop := ∀ A, PE X e (tF G A f)
def PU (X : Cx) (G : Gx) (e : Expr) (f : FE) : Prop := ∀ A, PE X e (tT G A f)
theorem Bu {X : Cx} {e : Expr} {t t' : TE} (h : PE X e t) (w : ∀ σ H Q, t' σ H Q → t σ H Q) : PE X e t' := fun pins s σ H Q I q => h pins s σ H Q I (w σ H Q q)
theorem PF.pu {X : Cx} {G : Gx} {e : Expr} {f : FE} (h : PF X G e f) : PU X G e f := fun A => Bu (h A) fun σ H Q ⟨ρ, d, o, e, k⟩ => ⟨ρ, d, o, e, fun v H' s r => k v H' s (.inl r)⟩
def tFA (G : Gx) (A : List Addr) (f : FA) : TA := fun σ H Q => ∃ ρ ds, Okp G A σ H ρ ∧ f ρ = some ds ∧ ∀ vs H', Same H H' → RepL G (hid A H') vs ds → Q vs H'
def PFA (X : Cx) (G : Gx) (es : List Expr) (f : FA) : Prop := ∀ A, PA X es (tFA G A f)
theorem Z1 {X : Cx} {e : List Expr} {t t' : TA} (h : PA X e t) (w : ∀ σ H Q, t' σ H Q → t σ H Q) : PA X e t' := fun pos pins s σ H Q I q => h pos pins s σ H Q I (w σ H Q q)
def tFT (G : Gx) (A : List Addr) (f : FT) : TT := fun σ H Q => ∃ ρ b, Okp G A σ H ρ ∧ f ρ = some b ∧ ∀ H', Same H H' → Q b H'
def PFT (X : Cx) (G : Gx) (e : Expr) (f : FT) : Prop := ∀ A, PT X e (tFT G A f)
def PFW (X : Cx) (G : Gx) (e : Expr) (f : FT) : Prop := ∀ A, PW X e (tFT G A f)
theorem Vu {X : Cx} {e : Expr} {t t' : TT} (h : PT X e t) (w : ∀ σ H Q, t' σ H Q → t σ H Q) : PT X e t' := fun pins s σ H Q I q => h pins s σ H Q I (w σ H Q q)
theorem Vv {X : Cx} {e : Expr} {t t' : TT} (h : PW X e t) (w : ∀ σ H Q, t' σ H Q → t σ H Q) : PW X e t' := fun wh pins s σ H Q I q => h wh pins s σ H Q I (w σ H Q q)
end PV
namespace PV
open PySem PySem.Spec L2
open PyProof.Rows hiding St
section
variable {X : Cx} {G : Gx} {a b c : Expr} {fa fb fc : FE} {pos : Pos}
theorem bH (i : Nat) {x : Str} (h : PE X (.Name x pos) (tVar i)) : PF X G (.Name x pos) (vF i) := fun A => Bu h fun σ H Q ⟨ρ, d, o, e, k⟩ => by
 unfold vF at e
 split at e
 ·rename_i d' h'
  cases e
  obtain ⟨v, h1, h2⟩ := o.fz i _ h'
  exact ⟨v, h1, k v H (Same.refl H) h2⟩
 ·cases e
theorem Ey {v : V} {d : D} (h : PE X a (tC v)) (r : Rep G (fun _ => none) v d) : PF X G a (kF d) := fun A => Bu h fun σ H Q ⟨ρ, d', o, e, k⟩ => by
 cases e
 exact k v H (Same.refl H) (r.mono fun b o z => nomatch z)
theorem JD {i j} : PF X G (.Constant (.int i) j pos) (kF (.int i)) := Ey aO (.int i)
theorem RJ {b j} : PF X G (.Constant (.bool b) j pos) (kF (.bl b)) := Ey dC (.bl b)
theorem bI {j} : PF X G (.Constant .none j pos) (kF .non) := Ey aP .non
theorem CJ {x j} : PF X G (.Constant (.str x) j pos) (kF (.str x)) := Ey aQ (.str x)
def Ci (G : Gx) (r : R2) (g : D → D → Option D) : Prop := ∀ (A : List Addr) (H : Hp) (x y : V) (dx dy d : D) (Q : VK), (∀ a ∈ A, Nt (H a)) → RepT G A H x dx → RepT G A H y dy → g dx dy = some d → (∀ v H', Same H H' → Rep G (hid A H') v d → Q v H') → r x y H Q
theorem YF {g : D → D → Option D} {ρ : Rho} {d : D} (h : bF g fa fb ρ = some d) : ∃ x y, fa ρ = some x ∧ fb ρ = some y ∧ g x y = some d := by
 unfold bF at h
 cases e1 : fa ρ with
 | none => rw [e1] at h; cases h
 | some x =>
  rw [e1] at h
  cases e2 : fb ρ with
  | none => simp [e2] at h
  | some y => simp [e2] at h; exact ⟨x, y, rfl, rfl, h⟩
theorem KY {r : R2} {g : D → D → Option D} (s : Ci G r g) {A : List Addr} {σ : St} {H : Hp} {Q : VK} (h : tF G A (bF g fa fb) σ H Q) : tOp r (tT G A fa) (tT G A fb) σ H Q := by
 obtain ⟨ρ, d, o, e, k⟩ := h
 obtain ⟨x, y, e1, e2, e3⟩ := YF e
 exact ⟨ρ, x, o, e1, fun v H1 s1 r1 => ⟨ρ, y, o.mono s1, e2, fun u H2 s2 r2 => s A H2 v u x y d Q ((o.mono s1).mono s2).live (r1.mono s2) r2 e3 fun w H3 s3 r3 => k w H3 (s1.trans (s2.trans s3)) r3⟩⟩
theorem GZ {op : Operator} {r : R2} {g : D → D → Option D} (ho : OpR X (binaryOp op) r) (s : Ci G r g) (ha : PU X G a fa) (hb : PU X G b fb) : PF X G (.BinOp a op b pos) (bF g fa fb) :=
 fun A => Bu (dJ ho (ha A) (hb A)) fun _ _ _ h => KY s h
theorem Vw {op : CmpOp} {r : R2} {g : D → D → Option D} (ho : OpR X (compareOp op) r) (s : Ci G r g) (ha : PU X G a fa) (hb : PU X G b fb) (hm : behindInMarks op b = false) : PF X G (.Compare a [op] [b] pos) (bF g fa fb) :=
 fun A => Bu (Qk ho (ha A) (hb A) hm) fun _ _ _ h => KY s h
theorem Vx {f : FE} {ρ : Rho} {b : Bool} (h : blF f ρ = some b) : f ρ = some (.bl b) := by
 unfold blF at h
 split at h
 ·rename_i e; cases h; exact e
 ·cases h
theorem Dz {op : CmpOp} {r : R2} {g : D → D → Option D} (ho : OpR X (compareOp op) r) (s : Ci G r g) (ha : PU X G a fa) (hb : PU X G b fb) (hm : behindInMarks op b = false) : PFT X G (.Compare a [op] [b] pos) (blF (bF g fa fb)) :=
 fun A => Vu (Ql ho (ha A) (hb A) hm) fun σ H Q ⟨ρ, d, o, e, k⟩ => KY s ⟨ρ, .bl d, o, Vx e, fun v H' s' r' => by cases r'; exact ⟨d, rfl, k H' s'⟩⟩
theorem Ol {g : Int → Int → Option D} {x y d : D} (h : iiD g x y = some d) : ∃ i j, x = .int i ∧ y = .int j ∧ g i j = some d := by
 unfold iiD at h
 split at h
 ·exact ⟨_, _, rfl, rfl, h⟩
 ·cases h
theorem Mw {g : Int → Int → V} {g' : Int → Int → D} (e : ∀ i j H, Rep G H (g i j) (g' i j)) : Ci G (rI0 g) (iiD fun i j => some (g' i j)) := by
 intro A H x y dx dy d Q lv rx ry h k
 obtain ⟨i, j, rfl, rfl, h⟩ := Ol h
 cases h
 exact ⟨i, j, rx.int, ry.int, k _ H (Same.refl H) (e i j _)⟩
theorem KZ {C : Int → Int → Prop} {g : Int → Int → V} {g' : Int → Int → D} [∀ i j, Decidable (C i j)] (e : ∀ i j H, Rep G H (g i j) (g' i j)) : Ci G (rI C g) (iiD fun i j => if C i j then some (g' i j) else none) := by
 intro A H x y dx dy d Q lv rx ry h k
 obtain ⟨i, j, rfl, rfl, h'⟩ := Ol h
 by_cases hc : C i j
 ·rw [if_pos hc] at h'
  cases h'
  exact ⟨i, j, rx.int, ry.int, hc, k _ H (Same.refl H) (e i j _)⟩
 ·rw [if_neg hc] at h'; cases h'
theorem YG : Ci G (rI0 fun i j => .int (i - j)) subD := Mw fun i j H => .int _
theorem Hr.ok {i j : Int} (h : Hr i j) : IntMulOk i j := by
 rcases h with h | h
 ·exact h.ok
 ·exact IntMulOk.of_le h.1 h.2 (by decide)
theorem YH : OpR X (binaryOp .Mult) (rI Hr fun i j => .int (i * j)) := opI fun _ _ _ _ _ _ _ hc q => mul_int q hc.ok
theorem YJ : OpR X (binaryOp .LShift) (rI CShl fun i j => .int (i * 2 ^ j.toNat)) := opI fun i j _ _ _ _ _ hc q => lshift_int hc.1 (by have h1 := hc.2.1; have h2 := hc.2.2; omega) q
theorem YK : Ci G (rI Hr fun i j => .int (i * j)) mulD := KZ fun i j H => .int _
theorem Vy : Ci G (rI CDiv fun i j => .int (i / j)) Cy := KZ fun i j H => .int _
theorem YL : Ci G (rI (fun _ j => 0 < j) fun i j => .int (i % j)) modD := KZ (C := fun _ j => 0 < j) fun i j H => .int _
theorem RK : Ci G (rI CPow fun i j => .int (i ^ j.toNat)) powD := KZ fun i j H => .int _
theorem YM : Ci G (rI CShl fun i j => .int (i * 2 ^ j.toNat)) shlD := KZ fun i j H => .int _
theorem bJ : Ci G (rI0 fun i j => .bl (decide (i < j))) ltD := Mw fun i j H => .bl _
theorem bK : Ci G (rI0 fun i j => .bl (decide (j < i))) gtD := Mw fun i j H => .bl _
theorem bL : Ci G (rI0 fun i j => .bl (decide (j ≤ i))) geD := Mw fun i j H => .bl _
def Z2 (K : PySem.W.Frag) : R2 := fun x y H Q => ∃ l b xs zs, x = .ref l ∧ y = .ref b ∧ SqL K H l xs ∧ SqL K H b zs ∧ xs.length + zs.length ≤ sizeLine ∧ ∀ p, H p = none → Q (.ref p) (upd H p (.lst (xs ++ zs)))
theorem YQ : OpR X (binaryOp .Add) (Z2 X.K) := by
 intro pins s σ H x y v u Q I rx ry h
 obtain ⟨l, b, xs, zs, rfl, rfl, hl, hb, hz, q⟩ := h
 cases rx
 cases ry
 obtain ⟨its, r, pl, z⟩ := I.list hl
 obtain ⟨its2, r2, pl2, z2⟩ := I.list hb
 have e1 := r.length
 have e2 := r2.length
 obtain ⟨⟨cls, dd, data, sl⟩, ho, hc, n, hd⟩ := pl.isList
 obtain ⟨⟨cls2, dd2, data2, sl2⟩, ho2, hc2, n2, hd2⟩ := pl2.isList
 simp only at hc hd hc2 hd2
 subst hc hd hc2 hd2
 refine concat_meets ⟨_, ho, rfl⟩ ⟨_, ho2, rfl⟩ noFill_list_add seq_list_add PySem.F.slot_list_add PySem.F.entry_list_add (PySem.F.args_list_add_2 _ _) (list_addW l b its.toArray its2.toArray n n2 dd dd2 sl sl2 (by rw [List.size_toArray, List.size_toArray]; omega)) ⟨ho, ho2, ?_⟩
 have ea : its.toArray ++ its2.toArray = (its ++ its2).toArray := by simp
 rw [ea]
 exact ⟨.ref _, _, I.lnew (t' := s.toks) (r.append r2) (by rw [List.length_append]; omega), rfl, q _ I.fresh⟩
def rAdd (K : PySem.W.Frag) : R2 := fun x y H Q => (rI0 fun i j => .int (i + j)) x y H Q ∨ ((fun x y H Q => ∃ i j, x = .str i ∧ y = .str j ∧ i.length + j.length ≤ sizeLine ∧ Q (.str (i ++ j)) H) x y H Q ∨ Z2 K x y H Q)
theorem YS : OpR X (binaryOp .Add) (rAdd X.K) := ak.or (P0.or YQ)
theorem YT : Ci G (rAdd G.K) addD := by
 intro A H x y dx dy d Q lv rx ry h k
 unfold addD at h
 split at h
 ·cases h; exact .inl ⟨_, _, rx.int, ry.int, k _ H (Same.refl H) (.int _)⟩
 ·split at h
  ·rename_i hz; cases h; exact .inr (.inl ⟨_, _, rx.str, ry.str, hz, k _ H (Same.refl H) (.str _)⟩)
  ·cases h
 ·split at h
  ·rename_i hz
   cases h
   obtain ⟨l, xs, rfl, h1, r1⟩ := rx.lst
   obtain ⟨m, zs, rfl, h2, r2⟩ := ry.lst
   exact .inr (.inr ⟨l, m, xs, zs, rfl, rfl, h1, h2, by rw [r1.1, r2.1]; exact hz, fun p hp => k _ _ (Am hp _) (Bt lv hp (r1.append r2))⟩)
  ·cases h
 ·cases h
theorem bM {op : BoolOp} (h : PF X G a fa) : PF X G (.BoolOp op [a] pos) fa := fun A => aV (h A)
theorem bN {rest : List Expr} (ha : PF X G a fa) (hb : PF X G (.BoolOp .And (b :: rest) pos) fb) : PF X G (.BoolOp .And (a :: b :: rest) pos) (andF fa fb) := fun A => Bu (aW (ha A) (hb A)) fun σ H Q ⟨ρ, d, o, e, k⟩ => by
 unfold andF at e
 split at e
 ·rename_i e1
  refine ⟨ρ, _, o, e1, fun v H1 s1 r1 => ?_⟩
  cases r1
  refine ⟨true, rfl, ?_⟩
  rw [if_pos rfl]
  exact ⟨ρ, d, o.mono s1, e, fun v H2 s2 r2 => k v H2 (s1.trans s2) r2⟩
 ·rename_i e1
  refine ⟨ρ, _, o, e1, fun v H1 s1 r1 => ?_⟩
  cases r1
  refine ⟨false, rfl, ?_⟩
  rw [if_neg Bool.false_ne_true]
  cases e
  exact k _ H1 s1 (.bl false)
 ·cases e
variable {ga gb : FT}
theorem PFW.pt (h : PFW X G a ga) : PFT X G a ga := fun A => (h A).pt
theorem Ka (h : PFT X G a ga) : PFW X G (.BoolOp .And [a] pos) ga := fun A => Xn (h A)
theorem FW (h : PFT X G a ga) : PFW X G (.BoolOp .Or [a] pos) ga := fun A => T_ (h A)
theorem RL {rest : List Expr} (ha : PFT X G a ga) (hb : PFW X G (.BoolOp .And (b :: rest) pos) gb) : PFW X G (.BoolOp .And (a :: b :: rest) pos) (andT ga gb) := fun A => Vv (aR (ha A) (hb A)) fun σ H Q ⟨ρ, d, o, e, k⟩ => by
 unfold andT at e
 split at e
 ·rename_i e1
  exact ⟨ρ, _, o, e1, fun H1 s1 => iteT ⟨ρ, d, o.mono s1, e, fun H2 s2 => k H2 (s1.trans s2)⟩⟩
 ·rename_i e1
  cases e
  exact ⟨ρ, _, o, e1, fun H1 s1 => iteF (k H1 s1)⟩
 ·cases e
theorem JF {rest : List Expr} (ha : PFT X G a ga) (hb : PFW X G (.BoolOp .Or (b :: rest) pos) gb) : PFW X G (.BoolOp .Or (a :: b :: rest) pos) (orT ga gb) := fun A => Vv (ZK (ha A) (hb A)) fun σ H Q ⟨ρ, d, o, e, k⟩ => by
 unfold orT at e
 split at e
 ·rename_i e1
  cases e
  exact ⟨ρ, _, o, e1, fun H1 s1 => iteT (k H1 s1)⟩
 ·rename_i e1
  exact ⟨ρ, _, o, e1, fun H1 s1 => iteF ⟨ρ, d, o.mono s1, e, fun H2 s2 => k H2 (s1.trans s2)⟩⟩
 ·cases e
theorem Ht (ha : PFT X G a ga) : PFT X G (.UnaryOp .Not a pos) (notT ga) := fun A => Vu (aU (ha A)) fun σ H Q ⟨ρ, d, o, e, k⟩ => by
 unfold notT at e
 cases e1 : ga ρ with
 | none => rw [e1] at e; cases e
 | some b => rw [e1] at e; cases e; exact ⟨ρ, b, o, e1, fun H1 s1 => k H1 s1⟩
theorem Jd {α β : Type} {xs : List α} {ys : List β} (h : xs.length = ys.length) : xs.isEmpty = ys.isEmpty := by
 cases xs <;> cases ys <;> simp at h ⊢
theorem DK (ha : PU X G a fa) (hG : G.K = X.K) (he : ∀ whole, isTrue a X.env whole = (do let v ← whole; standAt a.pos; holding [v] (truthy v)) := by intro _; rfl) : PFT X G a (fun ρ => (fa ρ).bind truD) := fun A => Vu (Ua (ha A) he) fun σ H Q ⟨ρ, b, o, e, k⟩ => by
 cases e1 : fa ρ with
 | none => simp [e1] at e
 | some d =>
  have e' : truD d = some b := by simpa [e1] using e
  refine ⟨ρ, d, o, e1, fun v H1 s1 r1 => ⟨b, ?_, k H1 s1⟩⟩
  rw [← hG]
  cases d with
  | non => rw [r1.non]; exact (Option.some.inj e').symm
  | bl b' => rw [r1.bl]; exact (Option.some.inj e').symm
  | int i => rw [r1.int]; exact (Option.some.inj e').symm
  | str y =>
   rw [r1.str]
   simp only [truD] at e'
   split at e'
   ·rename_i hz; exact ⟨hz, (Option.some.inj e').symm⟩
   ·cases e'
  | lst ds =>
   obtain ⟨p, xs, rfl, h1, h2⟩ := r1.lst
   refine .inl ⟨xs, h1, ?_⟩
   rw [Jd h2.1]
   exact (Option.some.inj e').symm
  | tup ds =>
   obtain ⟨p, xs, rfl, h1, h2⟩ := r1.tup
   refine .inr (.inl ⟨xs, h1, ?_⟩)
   rw [Jd h2.1]
   exact (Option.some.inj e').symm
  | _ => cases e'
variable {es : List Expr} {fs : FA}
theorem Ae : PFA X G [] nilA := fun A => Z1 Ex fun σ H Q ⟨ρ, ds, o, e, k⟩ => by cases e; exact k [] H (Same.refl H) RepL.nil
theorem Aa (ha : PF X G a fa) (hr : PFA X G es fs) (hs : starEach (a :: es) X.env = (false, eval a X.env) :: starEach es X.env := by rfl) : PFA X G (a :: es) (Ac fa fs) := fun A => Z1 (CV (ha A) (hr A) hs) fun σ H Q ⟨ρ, ds, o, e, k⟩ => by
 unfold Ac at e
 cases e1 : fa ρ with
 | none => simp [e1] at e
 | some d =>
  cases e2 : fs ρ with
  | none => simp [e1, e2] at e
  | some ds' =>
   simp [e1, e2] at e
   subst e
   exact ⟨ρ, d, o, e1, fun v H1 s1 r1 => ⟨ρ, ds', o.mono s1, e2, fun vs H2 s2 r2 => k _ H2 (s1.trans s2) (.cons (r1.mono (Aq s2)) r2)⟩⟩
theorem Vz {x1} (h : PFA X G es fs) : PF X G (.Tuple es x1 pos) (tupF fs) := fun A => Bu (Mp (h A)) fun σ H Q ⟨ρ, d, o, e, k⟩ => by
 unfold tupF at e
 cases e1 : fs ρ with
 | none => simp [e1] at e
 | some ds =>
  rw [e1] at e
  have e' : (if ds.length ≤ sizeLine then some (D.tup ds) else none) = some d := e
  split at e'
  ·rename_i hz
   cases e'
   exact ⟨ρ, ds, o, e1, fun vs H1 s1 r1 => ⟨by rw [r1.1]; exact hz, fun p hp => k _ _ (s1.trans (Am hp _)) (GX (o.mono s1).live hp r1)⟩⟩
  ·cases e'
theorem Cj (h : PFA X G es fs) : PF X G (.List es pos) (lstF fs) := fun A => Bu (Ug (h A)) fun σ H Q ⟨ρ, d, o, e, k⟩ => by
 unfold lstF at e
 cases e1 : fs ρ with
 | none => simp [e1] at e
 | some ds =>
  rw [e1] at e
  have e' : (if ds.length ≤ sizeLine then some (D.lst ds) else none) = some d := e
  split at e'
  ·rename_i hz
   cases e'
   exact ⟨ρ, ds, o, e1, fun vs H1 s1 r1 => ⟨by rw [r1.1]; exact hz, fun p hp => k _ _ (s1.trans (Am hp _)) (Bt (o.mono s1).live hp r1)⟩⟩
  ·cases e'
theorem V0 : Ci G (rIx G.K) ixD := by
 intro A H x y dx dy d Q lv rx ry h k
 unfold ixD at h
 split at h
 ·obtain ⟨p, xs, rfl, h1, r1⟩ := rx.lst
  obtain ⟨v, h2, r2⟩ := r1.atI h
  exact .inl ⟨p, xs, _, v, rfl, ry.int, h1, h2, k v H (Same.refl H) r2⟩
 ·obtain ⟨p, xs, rfl, h1, r1⟩ := rx.tup
  obtain ⟨v, h2, r2⟩ := r1.atI h
  exact .inr (.inl ⟨p, xs, _, v, rfl, ry.int, h1, h2, k v H (Same.refl H) r2⟩)
 ·split at h
  ·rename_i z i hz
   cases e : atI z.cps.toList i with
   | none => rw [e] at h; cases h
   | some c =>
    rw [e] at h
    cases h
    exact .inr (.inr ⟨z, i, c, rx.str, ry.int, hz, e, k _ H (Same.refl H) (.str _)⟩)
  ·cases h
 ·cases h
theorem dz (hG : G.K = X.K) (ha : PU X G a fa) (hb : PU X G b fb) (hs : Hk b) : PF X G (.Subscript a b pos) (bF ixD fa fb) :=
 fun A => Bu (ZM (r := rIx X.K) Um (ha A) (hb A) hs) fun _ _ _ h => KY (by rw [← hG]; exact V0) h
def tFO (G : Gx) (A : List Addr) (f : FO) : TO := fun σ H Q => ∃ ρ o, Okp G A σ H ρ ∧ f ρ = some o ∧ ∀ H', Same H H' → Q o H'
def PFO (X : Cx) (G : Gx) (e : Option Expr) (f : FO) : Prop := ∀ A, PO X e (tFO G A f)
theorem d7 {e : Option Expr} {t t' : TO} (h : PO X e t) (w : ∀ σ H Q, t' σ H Q → t σ H Q) : PO X e t' := fun pins s σ H Q I q => h pins s σ H Q I (w σ H Q q)
theorem Om (h : PU X G a fa) : PFO X G (some a) (someO fa) := fun A => d7 (Xz (h A)) fun σ H Q ⟨ρ, o, ok, e, k⟩ => by
 unfold someO at e
 split at e
 ·rename_i i e1
  cases e
  exact ⟨ρ, _, ok, e1, fun v H1 s1 r1 => ⟨i, r1.int, k H1 s1⟩⟩
 ·cases e
theorem RepL.cut {H : Hp} {xs : List V} {ds : List D} (r : RepL G H xs ds) (lo hi : Option Int) : RepL G H (cutV xs lo hi) (cutD ds lo hi) := by
 unfold cutV cutD
 rw [r.1]
 exact (r.drop _).take _
end
end PV
namespace PV
open PySem PySem.Spec L2
open PyProof.Rows hiding St
section
variable {X : Cx} {G : Gx} {a b c : Expr} {fa fb fc : FE} {pos p2 : Pos}
section
open Builtin.Str
theorem Oo (n : Nat) (v : Option Int) (d : Nat) (hd : d ≤ n) : (match v with | none => (d : Int) | some i => max 0 (min (if i < 0 then i + (n : Int) else i) (n : Int))) = (HT.sIx n d v : Int) := by
 cases v with
 | none => rfl
 | some i =>
  simp only [HT.sIx]
  split <;> omega
theorem YW (n d : Nat) (v : Option Int) (hd : d ≤ n) : HT.sIx n d v ≤ n := by
 cases v with
 | none => exact hd
 | some i => simp only [HT.sIx]; split <;> omega
theorem QQ (lo hi : Option Int) (n : Nat) : strSliceIndices lo hi 1 n = (List.range (HT.sIx n n hi - HT.sIx n 0 lo)).map (fun k => HT.sIx n 0 lo + k) := by
 have h1 := Oo n lo 0 (Nat.zero_le _)
 have h2 := Oo n hi n (Nat.le_refl _)
 have hp : ((1 : Int) > 0) := by decide
 have e : strSliceIndices lo hi 1 n = sliceRange (HT.sIx n 0 lo : Int) (HT.sIx n n hi : Int) 1 := by
  unfold strSliceIndices
  simp only [hp, if_true]
  exact congrFun (congr (congrArg sliceRange h1) h2) 1
 rw [e]
 unfold sliceRange
 simp only [hp, if_true]
 generalize HT.sIx n 0 lo = a
 generalize HT.sIx n n hi = b
 have hc : (if (a : Int) < (b : Int) then ((b : Int) - a + 1 - 1) / 1 else 0).toNat = b - a := by
  split
  ·rw [Int.ediv_one]; omega
  ·omega
 rw [hc]
 apply List.map_congr_left
 intro k _
 omega
theorem Tf (x : Str) (lo hi : Option Int) : Txt.slice x lo hi = cutS x lo hi := by
 have hb := YW x.length x.length hi (Nat.le_refl _)
 have hn : x.cps.toList.length = x.length := by simp [Str.length]
 unfold Txt.slice cutS cutD
 rw [QQ, hn]
 generalize HT.sIx x.length 0 lo = a at *
 generalize HT.sIx x.length x.length hi = b at *
 rw [List.length_map, List.length_range]
 split
 ·rename_i h
  simp only [Bool.and_eq_true, beq_iff_eq] at h
  have hab : b - a = x.length := h.2
  by_cases h0 : x.length = 0
  ·have : x.cps.toList = [] := List.length_eq_zero_iff.mp (by omega)
   cases x with
   | mk c =>
    simp at this
    subst this
    simp
  ·have ha : a = 0 := by omega
   subst ha
   have : b = x.length := by omega
   subst this
   rw [List.drop_zero, Nat.sub_zero, List.take_of_length_le (by omega)]
 ·congr 1
  apply congrArg
  apply List.ext_getElem?
  intro i
  rw [List.filterMap_map]
  have key : ∀ m, m ≤ b - a → (List.filterMap ((fun k => x.cps[k]?) ∘ fun k => a + k) (List.range m)) = ((x.cps.toList.drop a).take m) := by
   intro m
   induction m with
   | zero => intro _; simp
   | succ m ih =>
    intro hm
    rw [List.range_succ, List.filterMap_append, ih (by omega)]
    have hlt : a + m < x.cps.size := by have : x.length = x.cps.size := rfl; omega
    rw [List.take_succ_eq_append_getElem (by simp; omega)]
    simp [hlt]
  rw [key _ (Nat.le_refl _)]
end
def rSlS : V → Option Int → Option Int → Hp → VK → Prop := fun x lo hi H Q => ∃ z, x = .str z ∧ z.length ≤ sizeLine ∧ Q (.str (Txt.slice z lo hi)) H
theorem bO : SlR X rSlS := by
 intro pins s σ H x v vl vu lo hi sl Q I rx hs pl pu h
 obtain ⟨z, rfl, hz, q⟩ := h
 obtain ⟨t, rfl⟩ := rx
 obtain ⟨o, e1, e2, e3⟩ := hs
 have fin : ∀ t' k, EP X pins σ Q (.str (Txt.slice z lo hi) t') { s with toks := k } := fun t' k => ⟨.str _, H, I.tok _, ⟨t', rfl⟩, q⟩
 have hl := Nat.le_trans (Txt.slice_le z lo hi) hz
 refine ⟨"str", _, PySem.F.slot_str_getitem.lookup, typeIs_str _ _ _, ?_⟩
 cases pl with
 | none =>
  cases pu with
  | none => exact wpAny_getItem_str_slice (l := none) (u := none) (st := none) ⟨o, e1, e2, e3⟩ rfl (post_val_or_str ⟨hl, fin⟩)
  | int j uj => exact wpAny_getItem_str_slice (l := none) (u := some (j, uj)) (st := none) ⟨o, e1, e2, e3⟩ rfl (post_val_or_str ⟨hl, fin⟩)
 | int i ui =>
  cases pu with
  | none => exact wpAny_getItem_str_slice (l := some (i, ui)) (u := none) (st := none) ⟨o, e1, e2, e3⟩ rfl (post_val_or_str ⟨hl, fin⟩)
  | int j uj => exact wpAny_getItem_str_slice (l := some (i, ui)) (u := some (j, uj)) (st := none) ⟨o, e1, e2, e3⟩ rfl (post_val_or_str ⟨hl, fin⟩)
def rSl (K : PySem.W.Frag) : V → Option Int → Option Int → Hp → VK → Prop := fun x lo hi H Q => rSlL K x lo hi H Q ∨ (rSlT K x lo hi H Q ∨ rSlS x lo hi H Q)
theorem bQ : SlR X (rSl X.K) := X5.or (a_.or bO)
theorem V1 {lo hi : Option Expr} {gl gh : FO} (hG : G.K = X.K) (ha : PU X G a fa) (hl : PFO X G lo gl) (hh : PFO X G hi gh) : PF X G (.Subscript a (.Slice lo hi none p2) pos) (slF fa gl gh) := fun A => Bu (Ul (bQ (X := X)) (ha A) (hl A) (hh A)) fun σ H Q ⟨ρ, d, o, e, k⟩ => by
 unfold slF at e
 cases e1 : fa ρ with
 | none => simp [e1] at e
 | some x =>
  cases e2 : gl ρ with
  | none => simp [e1, e2] at e
  | some l =>
   cases e3 : gh ρ with
   | none => simp [e1, e2, e3] at e
   | some h =>
    have e' : slD x l h = some d := by simpa [e1, e2, e3] using e
    refine ⟨ρ, x, o, e1, fun v H1 s1 r1 => ⟨ρ, l, o.mono s1, e2, fun H2 s2 => ⟨ρ, h, (o.mono s1).mono s2, e3, fun H3 s3 => ?_⟩⟩⟩
    have r3 := (r1.mono s2).mono s3
    have o3 := ((o.mono s1).mono s2).mono s3
    have s0 := s1.trans (s2.trans s3)
    unfold slD at e'
    split at e'
    ·cases e'
     obtain ⟨p, xs, rfl, h1, r⟩ := r3.lst
     exact .inl ⟨p, xs, rfl, by rw [← hG]; exact h1, fun q hq => k _ _ (s0.trans (Am hq _)) (Bt o3.live hq (r.cut _ _))⟩
    ·split at e'
     ·cases e'
     ·rename_i hw
      cases e'
      obtain ⟨p, xs, rfl, h1, r⟩ := r3.tup
      exact .inr (.inl ⟨p, xs, rfl, by rw [← hG]; exact h1, by rw [r.1]; exact hw, fun q hq => k _ _ (s0.trans (Am hq _)) (GX o3.live hq (r.cut _ _))⟩)
    ·split at e'
     ·rename_i hz
      cases e'
      refine .inr (.inr ⟨_, r3.str, hz, ?_⟩)
      rw [Tf]
      exact k _ _ s0 (.str _)
     ·cases e'
    ·cases e'
theorem My {A : List Addr} {H : Hp} {v u : V} {d : D} (r : RepT G A H v d) (h : flV d = some u) : v = u ∧ GD v = true := by
 cases d with
 | non => cases h; rw [r.non]; exact ⟨rfl, rfl⟩
 | bl b => cases h; rw [r.bl]; exact ⟨rfl, rfl⟩
 | int b => cases h; rw [r.int]; exact ⟨rfl, rfl⟩
 | str b => cases h; rw [r.str]; exact ⟨rfl, rfl⟩
 | _ => cases h
theorem Oq {H : Hp} : ∀ {ds : List D} {xs us : List V}, RepL G H xs ds → flVs ds = some us → xs = us ∧ xs.all GD = true
 | [], xs, us, r, h => by cases h; rw [r.nil_inv]; exact ⟨rfl, rfl⟩
 | d :: ds, xs, us, r, h => by
  obtain ⟨x, ys, rfl, r1, r2⟩ := r.uncons
  unfold flVs at h
  cases e1 : flV d with
  | none => simp [e1] at h
  | some v =>
   cases e2 : flVs ds with
   | none => simp [e1, e2] at h
   | some vs =>
    simp [e1, e2] at h
    subst h
    have q : Rep G (hid [] H) x d := r1.mono fun b o z => z
    obtain ⟨z1, z2⟩ := My (A := []) (.inl q) e1
    obtain ⟨z3, z4⟩ := Oq r2 e2
    subst z1
    subst z3
    exact ⟨rfl, by rw [List.all_cons, z2, z4]; rfl⟩
def rInA (K : PySem.W.Frag) (neg : Bool) : R2 := fun x y H Q => rIn K neg x y H Q ∨ ∃ i j, x = .str i ∧ y = .str j ∧ Q (.bl (if neg then !(!(Builtin.Str.occurrences j i 0 j.length 1).isEmpty) else !(Builtin.Str.occurrences j i 0 j.length 1).isEmpty)) H
theorem V2 : OpR X (compareOp .In) (rInA X.K false) := TQ.or S_
theorem Tg : OpR X (compareOp .NotIn) (rInA X.K true) := Ms.or Ml
theorem bR (neg : Bool) : Ci G (rInA G.K neg) (inD neg) := by
 intro A H x y dx dy d Q lv rx ry h k
 have seq : ∀ {ds : List D} {p : Addr} {xs : List V}, y = .ref p → (SqL G.K H p xs ∨ SqT G.K H p xs) → RepL G (hid A H) xs ds → ((flV dx).bind fun v => (flVs ds).map fun vs => D.bl (if neg then !inV v vs else inV v vs)) = some d → rIn G.K neg x y H Q := fun {ds p xs} ey hq r h => by
  cases e1 : flV dx with
  | none => simp [e1] at h
  | some v =>
   cases e2 : flVs ds with
   | none => simp [e1, e2] at h
   | some vs =>
    rw [e1, e2] at h
    cases h
    obtain ⟨z1, z2⟩ := My rx e1
    obtain ⟨z3, z4⟩ := Oq r e2
    subst z1
    subst z3
    exact ⟨p, xs, ey, hq, z2, z4, k _ H (Same.refl H) (.bl _)⟩
 unfold inD at h
 split at h
 ·cases h; exact .inr ⟨_, _, rx.str, ry.str, k _ H (Same.refl H) (.bl _)⟩
 ·obtain ⟨p, xs, e, h1, r⟩ := ry.lst
  exact .inl (seq e (.inl h1) r h)
 ·obtain ⟨p, xs, e, h1, r⟩ := ry.tup
  exact .inl (seq e (.inr h1) r h)
 ·cases h
def eAt (f : D → D → Option Bool) (xs ys : List D) (j : Nat) : Bool := match xs[j]?, ys[j]? with | some x, some y => (f x y).getD false | _, _ => false
theorem JG {f : D → D → Option Bool} : ∀ {xs ys : List D} {b : Bool}, allO f xs ys = some b → xs.length = ys.length ∧ (∀ (j : Nat) x y, xs[j]? = some x → ys[j]? = some y → f x y = some (eAt f xs ys j)) ∧ b = (List.range xs.length).all (eAt f xs ys)
 | [], [], b, h => by cases h; exact ⟨rfl, fun j x y h => by simp at h, rfl⟩
 | [], _ :: _, b, h => by cases h
 | _ :: _, [], b, h => by cases h
 | x :: xs, y :: ys, b, h => by
  unfold allO at h
  split at h
  ·rename_i a c e1 e2
   cases h
   obtain ⟨h1, h2, h3⟩ := JG e2
   refine ⟨by simp [h1], fun j u v hu hv => ?_, ?_⟩
   ·cases j with
    | zero => simp at hu hv; subst hu; subst hv; rw [e1]; simp [eAt, e1]
    | succ j =>
     have := h2 j u v (by simpa using hu) (by simpa using hv)
     rw [this]
     simp [eAt]
   ·rw [List.length_cons, List.range_succ_eq_map, List.all_cons, List.all_map]
    have z : eAt f (x :: xs) (y :: ys) 0 = a := by simp [eAt, e1]
    rw [z, h3]
    rfl
  ·cases h
theorem V3 {u : V} (h : GD u = true) : eqV u u = true := by
 cases u <;> simp [eqV] <;> cases h
theorem Jz {H : Hp} {v : V} {d : D} {u : V} (r : Rep G H v d) (h : flV d = some u) : v = u ∧ GD v = true := My (A := []) (.inl (r.mono fun b o z => by rw [Bm List.not_mem_nil]; exact z)) h
section
variable {pins : List (Addr × Obj)} {σ : St} {H : Hp} {s : Shared}
theorem Ot (I : Inv X pins σ H s) (hG : G.K = X.K) : ∀ (n : Nat) {x y : D} {v : V} {b : Bool}, eqK n x y = some b → Rep G H v x → Rep G H v y → b = true := by
 have flat : ∀ {x y : D} {v : V} {b : Bool}, flD x y = some b → Rep G H v x → Rep G H v y → b = true := fun {x y v b} h rx ry => by
  unfold flD at h
  cases e1 : flV x with
  | none => simp [e1] at h
  | some u =>
   cases e2 : flV y with
   | none => simp [e1, e2] at h
   | some w =>
    simp [e1, e2] at h
    obtain ⟨z1, z2⟩ := Jz rx e1
    obtain ⟨z3, _⟩ := Jz ry e2
    rw [← h, ← z1, ← z3]
    exact V3 z2
 intro n
 induction n with
 | zero => intro x y v b h rx ry; exact flat h rx ry
 | succ n ih =>
  have items : ∀ {xs : List V} {ds es : List D} {b : Bool}, allO (eqK n) ds es = some b → RepL G H xs ds → RepL G H xs es → b = true := fun {xs ds es b} h r1 r2 => by
   obtain ⟨h1, h2, h3⟩ := JG h
   rw [h3, List.all_eq_true]
   intro j hj
   have hj' : j < ds.length := List.mem_range.mp hj
   have hx : xs[j]? = some (xs[j]'(by rw [r1.1]; exact hj')) := by simp [r1.1, hj']
   have hd : ds[j]? = some ds[j] := by simp [hj']
   have he : es[j]? = some (es[j]'(by omega)) := List.getElem?_eq_getElem (by omega)
   exact ih (h2 j _ _ hd he) (r1.2 j _ _ hx hd) (r2.2 j _ _ hx he)
  intro x y v b h rx ry
  unfold eqK eqS at h
  split at h
  ·split at h
   ·cases rx with
    | lst h1 l1 r1 =>
     cases ry with
     | lst h2 l2 r2 =>
      have e := I.list_inj (by rw [← hG]; exact h1) (by rw [← hG]; exact h2)
      subst e
      exact items h ⟨l1, r1⟩ ⟨l2, r2⟩
   ·rename_i hne
    cases rx with
    | lst h1 l1 r1 =>
     cases ry with
     | lst h2 l2 r2 =>
      have e := I.list_inj (by rw [← hG]; exact h1) (by rw [← hG]; exact h2)
      subst e
      exact absurd (l1.symm.trans l2) hne
  ·split at h
   ·cases rx with
    | tup h1 l1 r1 =>
     cases ry with
     | tup h2 l2 r2 =>
      have e := I.tuple_inj (by rw [← hG]; exact h1) (by rw [← hG]; exact h2)
      subst e
      exact items h ⟨l1, r1⟩ ⟨l2, r2⟩
   ·cases h
  ·exact flat h rx ry
theorem Fb {A : Around} {n : Nat} {ds es : List D} {b : Bool} {xs ys : List V} {its jts : List Value} (ih : ∀ {x y : D} {v w : V} {u1 u2 : Value} {b : Bool}, eqK n x y = some b → Rep G H v x → Rep G H w y → RelV v u1 → RelV w u2 → SeqAt.EqAt A s u1 u2 b)
  (h : allO (eqK n) ds es = some b) (r1 : RepL G H xs ds) (r2 : RepL G H ys es) (v1 : Vals xs its) (v2 : Vals ys jts) :
  its.toArray.size = jts.toArray.size ∧ b = (List.range its.toArray.size).all (eAt (eqK n) ds es) ∧ ∀ j (h1 : j < its.toArray.size) (h2 : j < jts.toArray.size), SeqAt.EqAt A s its.toArray[j] jts.toArray[j] (eAt (eqK n) ds es j) := by
 obtain ⟨h1, h2, h3⟩ := JG h
 have l1 := v1.length
 have l2 := v2.length
 have q1 := r1.1
 have q2 := r2.1
 have z1 : its.toArray.size = ds.length := by rw [List.size_toArray]; omega
 refine ⟨by rw [List.size_toArray, List.size_toArray]; omega, by rw [z1]; exact h3, fun j j1 j2 => ?_⟩
 rw [List.size_toArray] at j1 j2
 have jx : j < xs.length := by omega
 have jy : j < ys.length := by omega
 have hx : xs[j]? = some xs[j] := by simp [jx]
 have hy : ys[j]? = some ys[j] := by simp [jy]
 have hd : ds[j]? = some (ds[j]'(by omega)) := List.getElem?_eq_getElem (by omega)
 have he : es[j]? = some (es[j]'(by omega)) := List.getElem?_eq_getElem (by omega)
 obtain ⟨u, eu, ru⟩ := v1.get hx
 obtain ⟨w, ew, rw'⟩ := v2.get hy
 have a1 : its.toArray[j] = u := by simpa [List.getElem?_eq_getElem j1] using eu
 have a2 : jts.toArray[j] = w := by simpa [List.getElem?_eq_getElem j2] using ew
 rw [a1, a2]
 exact ih (h2 j _ _ hd he) (r1.2 j _ _ hx hd) (r2.2 j _ _ hy he) ru rw'
theorem Mz {ds es : List D} {xs ys : List V} {its jts : List Value} (h : ds.length ≠ es.length) (r1 : RepL G H xs ds) (r2 : RepL G H ys es) (v1 : Vals xs its) (v2 : Vals ys jts) : (its.toArray.size != jts.toArray.size) = true := by
 have l1 := v1.length
 have l2 := v2.length
 have q1 := r1.1
 have q2 := r2.1
 rw [List.size_toArray, List.size_toArray]
 exact bne_iff_ne.mpr (by omega)
theorem Kc (I : Inv X pins σ H s) (hG : G.K = X.K) : ∀ (n : Nat) (A : Around), A.units + n < cLine → ∀ {x y : D} {v w : V} {u1 u2 : Value} {b : Bool}, eqK n x y = some b → Rep G H v x → Rep G H w y → RelV v u1 → RelV w u2 → SeqAt.EqAt A s u1 u2 b := by
 have flat : ∀ {A : Around} {x y : D} {v w : V} {u1 u2 : Value} {b : Bool}, flD x y = some b → Rep G H v x → Rep G H w y → RelV v u1 → RelV w u2 → SeqAt.EqAt A s u1 u2 b := fun {A x y v w u1 u2 b} h rx ry q1 q2 => by
  unfold flD at h
  cases e1 : flV x with
  | none => simp [e1] at h
  | some u =>
   cases e2 : flV y with
   | none => simp [e1, e2] at h
   | some w =>
    simp [e1, e2] at h
    obtain ⟨z1, z2⟩ := Jz rx e1
    obtain ⟨z3, z4⟩ := Jz ry e2
    rw [← h, ← z1, ← z3]
    exact Uo q1 q2 z2 z4
 intro n
 induction n with
 | zero => intro A hu x y v w u1 u2 b h rx ry q1 q2; exact flat h rx ry q1 q2
 | succ n ih =>
  intro A hu x y v w u1 u2 b h rx ry q1 q2
  have h' := h
  have hu1 : A.in1.units + n < cLine := by show A.units + 1 + n < cLine; omega
  have hu0 : A.units < cLine := by omega
  unfold eqK eqS at h
  split at h
  ·cases rx with
   | @lst a _ _ h1 l1 r1 =>
    cases ry with
    | @lst c _ _ h2 l2 r2 =>
     obtain rfl : u1 = .ref a := q1
     obtain rfl : u2 = .ref c := q2
     obtain ⟨its, v1, p1, _⟩ := I.list (by rw [← hG]; exact h1)
     obtain ⟨jts, v2, p2, _⟩ := I.list (by rw [← hG]; exact h2)
     by_cases hac : a = c
     ·subst hac
      have := Ot I hG (n + 1) h' (.lst h1 l1 r1) (.lst h2 l2 r2)
      subst this
      exact SeqAt.EqAt.same _
     ·split at h
      ·obtain ⟨z1, z2, z3⟩ := Fb (fun q => ih A.in1 hu1 q) h ⟨l1, r1⟩ ⟨l2, r2⟩ v1 v2
       rw [z2]
       exact SeqAt.EqAt.of_refs hac (SeqAt.RcAt.lists p1.isList p2.isList z1 hu0 z3)
      ·rename_i hne
       cases h
       exact SeqAt.EqAt.of_refs hac (SeqAt.RcAt.lists_lengths p1.isList p2.isList (Mz hne ⟨l1, r1⟩ ⟨l2, r2⟩ v1 v2) hu0)
  ·cases rx with
   | @tup a _ _ h1 l1 r1 =>
    cases ry with
    | @tup c _ _ h2 l2 r2 =>
     obtain rfl : u1 = .ref a := q1
     obtain rfl : u2 = .ref c := q2
     obtain ⟨its, v1, p1, _⟩ := I.tuple (by rw [← hG]; exact h1)
     obtain ⟨jts, v2, p2, _⟩ := I.tuple (by rw [← hG]; exact h2)
     by_cases hac : a = c
     ·subst hac
      have := Ot I hG (n + 1) h' (.tup h1 l1 r1) (.tup h2 l2 r2)
      subst this
      exact SeqAt.EqAt.same _
     ·split at h
      ·obtain ⟨z1, z2, z3⟩ := Fb (fun q => ih A.in1 hu1 q) h ⟨l1, r1⟩ ⟨l2, r2⟩ v1 v2
       have q := SeqAt.RcAt.tuples (show s.heap.IsTuple a its.toArray from p1) (show s.heap.IsTuple c jts.toArray from p2) hu0 z3
       rw [z1, Nat.min_self, beq_self_eq_true, Bool.and_true, ← z1, ← z2] at q
       exact SeqAt.EqAt.of_refs hac q
      ·cases h
  ·exact flat h rx ry q1 q2
end
def rEqP (G : Gx) (neg : Bool) : R2 := fun x y H Q => ∃ (A : List Addr) (ds es : List D) (b : Bool), eqvD (.lst ds) (.lst es) = some b ∧ ((RepT G A H x (.lst ds) ∧ RepT G A H y (.lst es)) ∨ (ds.length = es.length ∧ RepT G A H x (.tup ds) ∧ RepT G A H y (.tup es))) ∧ Q (.bl (if neg then !b else b)) H
theorem bT (hG : G.K = X.K) (hu : X.A.units + 64 < cLine) : OpR X (compareOp .Eq) (rEqP G false) := by
 intro pins s σ H x y v u Q I rx ry h
 obtain ⟨A, ds, es, b, e, hr, k⟩ := h
 have fin : EP X pins σ Q (.bool b) s := ⟨.bl b, H, I, rfl, k⟩
 simp only [eqvD] at e
 rcases hr with ⟨r1, r2⟩ | ⟨hl, r1, r2⟩
 ·obtain ⟨a, xs, rfl, h1, q1⟩ := r1.lst
  obtain ⟨c, ys, rfl, h2, q2⟩ := r2.lst
  cases rx
  cases ry
  obtain ⟨its, v1, p1, _⟩ := I.list (by rw [← hG]; exact h1)
  obtain ⟨jts, v2, p2, _⟩ := I.list (by rw [← hG]; exact h2)
  split at e
  ·obtain ⟨z1, z2, z3⟩ := Fb (fun q => Kc I hG 62 X.A.in1 (by show X.A.units + 1 + 62 < cLine; omega) q) e (q1.mono Ai) (q2.mono Ai) v1 v2
   exact SeqAt.RcAt.lists p1.isList p2.isList z1 (by omega) z3 _ _ _ _ (by rw [← z2]; exact fin)
  ·rename_i hne
   cases e
   exact SeqAt.RcAt.lists_lengths p1.isList p2.isList (Mz hne q1 q2 v1 v2) (by omega) _ _ _ _ fin
 ·obtain ⟨a, xs, rfl, h1, q1⟩ := r1.tup
  obtain ⟨c, ys, rfl, h2, q2⟩ := r2.tup
  cases rx
  cases ry
  obtain ⟨its, v1, p1, _⟩ := I.tuple (by rw [← hG]; exact h1)
  obtain ⟨jts, v2, p2, _⟩ := I.tuple (by rw [← hG]; exact h2)
  rw [if_pos hl] at e
  obtain ⟨z1, z2, z3⟩ := Fb (fun q => Kc I hG 62 X.A.in1 (by show X.A.units + 1 + 62 < cLine; omega) q) e (q1.mono Ai) (q2.mono Ai) v1 v2
  have q := SeqAt.RcAt.tuples (show s.heap.IsTuple a its.toArray from p1) (show s.heap.IsTuple c jts.toArray from p2) (by omega) z3
  rw [z1, Nat.min_self, beq_self_eq_true, Bool.and_true, ← z1, ← z2] at q
  exact q _ _ _ _ fin
theorem bU (hG : G.K = X.K) (hu : X.A.units + 64 < cLine) : OpR X (compareOp .NotEq) (rEqP G true) := by
 intro pins s σ H x y v u Q I rx ry h
 obtain ⟨A, ds, es, b, e, hr, k⟩ := h
 have fin : EP X pins σ Q (.bool (!b)) s := ⟨.bl (!b), H, I, rfl, k⟩
 simp only [eqvD] at e
 rcases hr with ⟨r1, r2⟩ | ⟨hl, r1, r2⟩
 ·obtain ⟨a, xs, rfl, h1, q1⟩ := r1.lst
  obtain ⟨c, ys, rfl, h2, q2⟩ := r2.lst
  cases rx
  cases ry
  obtain ⟨its, v1, p1, _⟩ := I.list (by rw [← hG]; exact h1)
  obtain ⟨jts, v2, p2, _⟩ := I.list (by rw [← hG]; exact h2)
  split at e
  ·obtain ⟨z1, z2, z3⟩ := Fb (fun q => Kc I hG 62 X.A.in1 (by show X.A.units + 1 + 62 < cLine; omega) q) e (q1.mono Ai) (q2.mono Ai) v1 v2
   exact SeqAt.RcNeAt.lists p1.isList p2.isList z1 (by omega) z3 _ _ _ _ (by rw [← z2]; exact fin)
  ·rename_i hne
   cases e
   exact SeqAt.RcNeAt.lists_lengths p1.isList p2.isList (Mz hne q1 q2 v1 v2) (by omega) _ _ _ _ fin
 ·obtain ⟨a, xs, rfl, h1, q1⟩ := r1.tup
  obtain ⟨c, ys, rfl, h2, q2⟩ := r2.tup
  cases rx
  cases ry
  obtain ⟨its, v1, p1, _⟩ := I.tuple (by rw [← hG]; exact h1)
  obtain ⟨jts, v2, p2, _⟩ := I.tuple (by rw [← hG]; exact h2)
  rw [if_pos hl] at e
  obtain ⟨z1, z2, z3⟩ := Fb (fun q => Kc I hG 62 X.A.in1 (by show X.A.units + 1 + 62 < cLine; omega) q) e (q1.mono Ai) (q2.mono Ai) v1 v2
  have q := SeqAt.RcNeAt.tuples (show s.heap.IsTuple a its.toArray from p1) (show s.heap.IsTuple c jts.toArray from p2) (by omega) z3
  rw [z1, Nat.min_self, beq_self_eq_true, Bool.and_true, ← z1, ← z2] at q
  exact q _ _ _ _ fin
def rEqA (G : Gx) (neg : Bool) : R2 := fun x y H Q => (fun x y H Q => scal x y = true ∧ Q (.bl (if neg then !decide (x = y) else decide (x = y))) H) x y H Q ∨ rEqP G neg x y H Q
theorem V4 (hG : G.K = X.K) (hu : X.A.units + 64 < cLine) : OpR X (compareOp .Eq) (rEqA G false) := dM.or (bT hG hu)
theorem bV (hG : G.K = X.K) (hu : X.A.units + 64 < cLine) : OpR X (compareOp .NotEq) (rEqA G true) := dN.or (bU hG hu)
theorem M3 {α β : Type} [DecidableEq α] [DecidableEq β] {f : α → β} (h : ∀ a b, f a = f b → a = b) (a b : α) : decide (f a = f b) = decide (a = b) := by
 by_cases e : a = b
 ·subst e; simp
 ·rw [decide_eq_false e, decide_eq_false fun z => e (h a b z)]
theorem QR (neg : Bool) : Ci G (rEqA G neg) (eqD neg) := by
 intro A H x y dx dy d Q lv rx ry h k
 unfold eqD at h
 cases e : eqvD dx dy with
 | none => simp [e] at h
 | some b =>
  simp only [e, Option.map_some] at h
  cases h
  unfold eqvD at e
  split at e
  ·cases e
   rw [rx.int, ry.int]
   refine .inl ⟨rfl, ?_⟩
   rw [M3 (f := V.int) (fun a b z => by cases z; rfl)]
   exact k _ H (Same.refl H) (.bl _)
  ·cases e
   rw [rx.str, ry.str]
   refine .inl ⟨rfl, ?_⟩
   rw [M3 (f := V.str) (fun a b z => by cases z; rfl)]
   exact k _ H (Same.refl H) (.bl _)
  ·cases e
   rw [rx.bl, ry.bl]
   refine .inl ⟨rfl, ?_⟩
   rw [M3 (f := V.bl) (fun a b z => by cases z; rfl)]
   exact k _ H (Same.refl H) (.bl _)
  ·exact .inr ⟨A, _, _, b, e, .inl ⟨rx, ry⟩, k _ H (Same.refl H) (.bl _)⟩
  ·split at e
   ·rename_i hl
    exact .inr ⟨A, _, _, b, (by simp only [eqvD]; rw [if_pos hl]; exact e), .inr ⟨hl, rx, ry⟩, k _ H (Same.refl H) (.bl _)⟩
   ·cases e
  ·cases e
def SndC (G : Gx) (r : List V → Hp → VK → Prop) (g : D → Option D) : Prop := ∀ (A : List Addr) (H : Hp) (x : V) (dx d : D) (Q : VK), (∀ a ∈ A, Nt (H a)) → RepT G A H x dx → g dx = some d → (∀ v H', Same H H' → Rep G (hid A H') v d → Q v H') → r [x] H Q
theorem RM {g : D → Option D} {ρ : Rho} {d : D} (h : uF g fa ρ = some d) : ∃ x, fa ρ = some x ∧ g x = some d := by
 unfold uF at h
 cases e : fa ρ with
 | none => simp [e] at h
 | some x => exact ⟨x, rfl, by simpa [e] using h⟩
theorem V5 {r : List V → Hp → VK → Prop} {g : D → Option D} (s : SndC G r g) {A : List Addr} {σ : St} {H : Hp} {Q : VK} (h : tF G A (uF g fa) σ H Q) : tCB r (Qn (tT G A fa) tNil) σ H Q := by
 obtain ⟨ρ, d, o, e, k⟩ := h
 obtain ⟨x, e1, e2⟩ := RM e
 exact ⟨ρ, x, o, e1, fun v H1 s1 r1 => s A H1 v x d Q (o.mono s1).live r1 e2 fun w H2 s2 r2 => k w H2 (s1.trans s2) r2⟩
theorem Be {x : Str} {p : Pos} {id : String} {r : List V → Hp → VK → Prop} {g : D → Option D} (hc : DW X (.builtin id) r) (s : SndC G r g) (hg : Gl X x) (hm : X.mg x = none) (hv : bootBuiltins x = some (.builtin id)) (ha : PU X G a fa)
  (hn : x ≠ "__name__" := by decide) (hdb : (x == ("__debug__" : Str)) = false := by decide) (he : starEach [a] X.env = [(false, eval a X.env)] := by rfl) : PF X G (.Call (.Name x p) [a] [] pos) (uF g fa) :=
 fun A => Bu (OJ hc hg hm hv (CV (ha A) Ex he) hn hdb he rfl) fun _ _ _ h => V5 s h
theorem Gs {x : Str} {p : Pos} {T : String} {r : List V → Hp → VK → Prop} {g : D → Option D} (hc : DW X (.type T) r) (s : SndC G r g) (hg : Gl X x) (hm : X.mg x = none) (hv : bootBuiltins x = some (.type T)) (ha : PU X G a fa)
  (hn : x ≠ "__name__" := by decide) (hdb : (x == ("__debug__" : Str)) = false := by decide) (he : starEach [a] X.env = [(false, eval a X.env)] := by rfl) : PF X G (.Call (.Name x p) [a] [] pos) (uF g fa) :=
 fun A => Bu (TJ hc hg hm hv (CV (ha A) Ex he) hn hdb he rfl) fun _ _ _ h => V5 s h
theorem RN : SndC G (fun xs H Q => ∃ x n, xs = [x] ∧ LenV G.K x H n ∧ Q (.int n) H) lenD := by
 intro A H x dx d Q lv rx h k
 unfold lenD at h
 split at h
 ·split at h
  ·rename_i hz; cases h; rw [rx.str]; exact ⟨_, _, rfl, ⟨hz, rfl⟩, k _ H (Same.refl H) (.int _)⟩
  ·cases h
 ·cases h
  obtain ⟨p, xs, rfl, h1, r⟩ := rx.lst
  exact ⟨_, _, rfl, .inl ⟨xs, h1, rfl⟩, by rw [r.1]; exact k _ H (Same.refl H) (.int _)⟩
 ·cases h
  obtain ⟨p, xs, rfl, h1, r⟩ := rx.tup
  exact ⟨_, _, rfl, .inr ⟨xs, h1, rfl⟩, by rw [r.1]; exact k _ H (Same.refl H) (.int _)⟩
 ·cases h
theorem CW (hG : G.K = X.K) : DW X (.builtin "len") (fun xs H Q => ∃ x n, xs = [x] ∧ LenV G.K x H n ∧ Q (.int n) H) := by rw [hG]; exact Ub
theorem V6 : SndC G (fun xs H Q => ∃ p ys, xs = [.ref p] ∧ (SqL G.K H p ys ∨ SqT G.K H p ys) ∧ ∀ l, H l = none → Q (.ref l) (upd H l (.lst ys))) Uy := by
 intro A H x dx d Q lv rx h k
 unfold Uy at h
 split at h
 ·cases h
  obtain ⟨p, xs, rfl, h1, r⟩ := rx.lst
  exact ⟨p, xs, rfl, .inl h1, fun l hl => k _ _ (Am hl _) (Bt lv hl r)⟩
 ·cases h
  obtain ⟨p, xs, rfl, h1, r⟩ := rx.tup
  exact ⟨p, xs, rfl, .inr h1, fun l hl => k _ _ (Am hl _) (Bt lv hl r)⟩
 ·cases h
theorem RP : SndC G (fun xs H Q => (∃ i, xs = [.int i] ∧ Q (.int i) H) ∨ ∃ k, xs = [.bl k] ∧ Q (.int (if k then 1 else 0)) H) intD := by
 intro A H x dx d Q lv rx h k
 unfold intD at h
 split at h
 ·cases h; exact .inl ⟨_, by rw [rx.int], k _ H (Same.refl H) (.int _)⟩
 ·cases h; exact .inr ⟨_, by rw [rx.bl], k _ H (Same.refl H) (.int _)⟩
 ·cases h
end
end PV
namespace PV
open PySem PySem.Spec L2
open PyProof.Rows hiding St
def Z3 (G : Gx) (F2 H H' : Hp) (x : V) (d : D) : Prop := Same H H' ∧ ∀ B : List Addr, (∀ a ∈ B, Nt (H a)) → Same F2 (hid B H) → Rep G (hid B H') x d
theorem Kd {G : Gx} {F2 H H' : Hp} {x : V} {d : D} (h : H' = H ∧ Rep G F2 x d) : Z3 G F2 H H' x d := by
 obtain ⟨rfl, r⟩ := h
 exact ⟨Same.refl _, fun B _ sm => r.mono sm⟩
structure Src (G : Gx) (J : It) (ds : List D) (F1 F2 : Hp) : Prop where
 go : ∀ i H, Same F1 H → i < ds.length → J.go i H
 yld : ∀ i H x H' d, Same F1 H → ds[i]? = some d → J.yld i H x H' → Z3 G F2 H H' x d
 stop : ∀ i H, Same F1 H → ds.length ≤ i → J.stop i H
def tI (G : Gx) (A : List Addr) (top : Bool) (f : FI) : TI := fun σ H R => ∃ ρ ds, Okp G A σ H ρ ∧ f ρ = some ds ∧ ∀ J H1, Same H H1 → Src G J ds (if top then H1 else hid A H1) (hid A H1) → R J H1
def PFI (X : Cx) (G : Gx) (top : Bool) (tg e : Expr) (f : FI) : Prop := ∀ A, PI X tg e (tI G A top f)
theorem Lw {X : Cx} {tg e : Expr} {t t' : TI} (h : PI X tg e t) (w : ∀ σ H Q, t' σ H Q → t σ H Q) : PI X tg e t' := fun pins s σ H Q I q => h pins s σ H Q I (w σ H Q q)
theorem piOr {X : Cx} {tg e : Expr} {t t' : TI} (h : PI X tg e t) (h' : PI X tg e t') : PI X tg e (fun σ H R => t σ H R ∨ t' σ H R) := fun pins s σ H Q I q => by
 rcases q with q | q
 ·exact h pins s σ H Q I q
 ·exact h' pins s σ H Q I q
section
variable {X : Cx} {G : Gx} {a b c tg : Expr} {fa fb fc : FE} {pos p2 : Pos}
theorem YX {F1 F2 : Hp} {p : Addr} {xs : List V} {ds : List D} (h : SqT G.K F1 p xs) (r : RepL G F2 xs ds) : Src G (Itt G.K p) ds F1 F2 where
 go := fun i H s hi => ⟨xs, xs[i]'(by rw [r.1]; exact hi), Dy s h, by simp [r.1, hi]⟩
 yld := fun i H x H' d s hd y => Kd ⟨y.1, r.2 i x d (y.2 xs (Dy s h)) hd⟩
 stop := fun i H s hi => ⟨xs, Dy s h, by rw [r.1]; exact hi⟩
theorem YZ (hG : G.K = X.K) (h : PF X G a fa) : PFI X G false tg a (seqI fa) := fun A => Lw (piOr (Xq (h A)) (aj (h A))) fun σ H R ⟨ρ, ds, o, e, k⟩ => by
 unfold seqI at e
 split at e
 ·rename_i ds' e1
  cases e
  refine .inl ⟨ρ, _, o, e1, fun v H1 s1 r1 => ?_⟩
  cases r1 with
  | lst h l r => exact ⟨_, rfl, ⟨_, by rw [← hG]; exact Ai.seq h⟩, by rw [← hG]; exact k _ H1 s1 { go := fun i H s hi => ⟨_, _, s.seq h, by simp [l, hi]; rfl⟩, yld := fun i H x H' d s hd y => Kd ⟨y.1, r i x d (y.2 _ (s.seq h)) hd⟩, stop := fun i H s hi => ⟨_, s.seq h, by rw [l]; exact hi⟩ }⟩
 ·rename_i ds' e1
  cases e
  refine .inr ⟨ρ, _, o, e1, fun v H1 s1 r1 => ?_⟩
  cases r1 with
  | tup h l r => exact ⟨_, rfl, ⟨_, by rw [← hG]; exact Dy Ai h⟩, by rw [← hG]; exact k _ H1 s1 (YX h ⟨l, r⟩)⟩
 ·cases e
theorem V7 {n i : Nat} {d : D} (h : (rngD n)[i]? = some d) : d = .int i := by
 unfold rngD at h
 rw [List.getElem?_map] at h
 cases e : (List.range n)[i]? with
 | none => rw [e] at h; cases h
 | some j =>
  rw [e] at h
  have := (List.getElem?_eq_some_iff.mp e)
  obtain ⟨hi, ej⟩ := this
  rw [List.getElem_range] at ej
  subst ej
  exact (Option.some.inj h).symm
theorem Yb {n : Nat} {F1 F2 : Hp} : Src G (Itr 0 n) (rngD n) F1 F2 where
 go := fun i H s hi => by unfold rngD at hi; show i < n; simpa using hi
 yld := fun i H x H' d s hd y => by
  obtain ⟨y1, y2⟩ := y
  rw [V7 hd, y2, Int.zero_add]
  exact Kd ⟨y1, .int _⟩
 stop := fun i H s hi => by unfold rngD at hi; show n ≤ i; simpa using hi
theorem Gu {top : Bool} {p : Pos} (hg : Gl X "range") (hm : X.mg "range" = none) (h : PU X G a fa) (hs : starEach [a] X.env = [(false, eval a X.env)] := by rfl) : PFI X G top tg (.Call (.Name "range" p) [a] [] pos) (rngI fa) := fun A => Lw (S8 hg hm (CV (h A) Ex hs) hs) fun σ H R ⟨ρ, ds, o, e, k⟩ => by
 unfold rngI at e
 split at e
 ·rename_i j e1
  split at e
  ·rename_i hj
   cases e
   exact ⟨ρ, _, o, e1, fun v H1 s1 r1 => ⟨j, by rw [r1.int], hj.1, hj.2, k _ H1 s1 Yb⟩⟩
  ·cases e
 ·cases e
end
structure OkW (G : Gx) (A0 : List Addr) (He : Hp) (A : List Addr) (σ : St) (H : Hp) (ρ : Rho) : Prop where
 same : Same He H
 sub : ∀ a ∈ A0, a ∈ A
 fr : ∀ a ∈ A, a ∈ A0 ∨ He a = none
 l0 : ∀ a ∈ A0, He a ≠ none
 ok : Okp G A σ H ρ
 ow0 : ∀ (i : Nat) (d : D) (a : Addr), ρ[i]? = some (.ow d) → σ[i]? = some (some (.ref a)) → a ∉ A0
 lt : ∀ (x : Addr) (d : D), G.lent = some x → ρ[0]? = some (.ow d) → σ[0]? = some (some (.ref x))
def OkS (G : Gx) (A0 : List Addr) (He : Hp) (σ : St) (H : Hp) (ρ : Rho) : Prop := ∃ A, OkW G A0 He A σ H ρ
def Ke (G : Gx) (A0 : List Addr) (He : Hp) (D : Ends) : Out → Prop
 | .nx ρ => ∀ σ H, OkS G A0 He σ H ρ → D.nx σ H
 | .rt d ρ => ∀ v σ H A, OkW G A0 He A σ H ρ → Rep G (hid A H) v d → D.rt v H
 | .bk ρ => ∀ σ H, OkS G A0 He σ H ρ → D.bk σ H
 | .ct ρ => ∀ σ H, OkS G A0 He σ H ρ → D.ct σ H
def tS (G : Gx) (A0 : List Addr) (He : Hp) (g : FS) : TS := fun D σ H => ∃ ρ o, OkS G A0 He σ H ρ ∧ g ρ = some o ∧ Ke G A0 He D o
def PSD (X : Cx) (G : Gx) (st : Stmt) (g : FS) : Prop := ∀ A0 He, PS X st (tS G A0 He g)
def PSDs (X : Cx) (G : Gx) (st : List Stmt) (g : FS) : Prop := ∀ A0 He, PSs X st (tS G A0 He g)
theorem Okp.set {G : Gx} {A : List Addr} {σ : St} {H : Hp} {ρ : Rho} {v : V} {d : D} (o : Okp G A σ H ρ) (r : Rep G (hid A H) v d) (i : Nat) : Okp G A (σ.set i (some v)) H (ρ.set i (.fz d)) := by
 have key : ∀ (j : Nat) (z : Slot), (ρ.set i (.fz d))[j]? = some z → (j = i ∧ z = .fz d ∧ i < ρ.length) ∨ (j ≠ i ∧ ρ[j]? = some z) := fun j z h => by
  by_cases hj : j = i
  ·subst hj
   by_cases hl : j < ρ.length
   ·rw [List.getElem?_set_self hl] at h
    exact .inl ⟨rfl, (Option.some.inj h).symm, hl⟩
   ·rw [List.getElem?_eq_none (by simpa using Nat.not_lt.mp hl)] at h
    cases h
  ·rw [List.getElem?_set_ne (Ne.symm hj)] at h
   exact .inr ⟨hj, h⟩
 have keyS : ∀ (j : Nat), j ≠ i → (σ.set i (some v))[j]? = σ[j]? := fun j hj => List.getElem?_set_ne (Ne.symm hj)
 refine ⟨by rw [List.length_set, List.length_set]; exact o.len, o.live, fun j e h => ?_, fun j e h => ?_, fun j k e f p h1 h2 h3 h4 => ?_⟩
 ·rcases key j _ h with ⟨hj, hz, hl⟩ | ⟨hj, hz⟩
  ·cases hz
   subst hj
   exact ⟨v, by rw [List.getElem?_set_self (by rw [o.len]; exact hl)], r⟩
  ·obtain ⟨u, q1, q2⟩ := o.fz j e hz
   exact ⟨u, by rw [keyS j hj]; exact q1, q2⟩
 ·rcases key j _ h with ⟨hj, hz, hl⟩ | ⟨hj, hz⟩
  ·cases hz
  ·obtain ⟨u, q1, q2⟩ := o.ow j e hz
   exact ⟨u, by rw [keyS j hj]; exact q1, q2⟩
 ·rcases key j _ h1 with ⟨_, hz, _⟩ | ⟨hj, hz⟩
  ·cases hz
  ·rcases key k _ h2 with ⟨_, hz', _⟩ | ⟨hk, hz'⟩
   ·cases hz'
   ·rw [keyS j hj] at h3
    rw [keyS k hk] at h4
    exact o.inj j k e f p hz hz' h3 h4
theorem OkW.mono {G : Gx} {A0 : List Addr} {He : Hp} {A : List Addr} {σ : St} {H H' : Hp} {ρ : Rho} (o : OkW G A0 He A σ H ρ) (s : Same H H') : OkW G A0 He A σ H' ρ := ⟨o.same.trans s, o.sub, o.fr, o.l0, o.ok.mono s, o.ow0, o.lt⟩
theorem OkW.set {G : Gx} {A0 : List Addr} {He : Hp} {A : List Addr} {σ : St} {H : Hp} {ρ : Rho} {v : V} {d : D} (o : OkW G A0 He A σ H ρ) (r : Rep G (hid A H) v d) (i : Nat) : OkW G A0 He A (σ.set i (some v)) H (ρ.set i (.fz d)) := ⟨o.same, o.sub, o.fr, o.l0, o.ok.set r i, fun j e a h1 h2 => by
  have hj : j ≠ i := by
   intro z
   subst z
   by_cases hl : j < ρ.length
   ·rw [List.getElem?_set_self hl] at h1; cases h1
   ·rw [List.getElem?_eq_none (by simpa using Nat.not_lt.mp hl)] at h1; cases h1
  rw [List.getElem?_set_ne (Ne.symm hj)] at h1 h2
  exact o.ow0 j e a h1 h2, fun x e hx h0 => by
  by_cases hi : i = 0
  ·subst hi
   cases ρ with
   | nil => cases h0
   | cons a r => cases h0
  ·rw [List.getElem?_set_ne hi] at h0 ⊢
   exact o.lt x e hx h0⟩
theorem OkW.base {G : Gx} {A0 : List Addr} {He Hf : Hp} {A : List Addr} {σ : St} {H : Hp} {ρ : Rho} (o : OkW G A0 Hf A σ H ρ) (s : Same He Hf) (l0 : ∀ a ∈ A0, He a ≠ none) : OkW G A0 He A σ H ρ :=
 ⟨s.trans o.same, o.sub, fun a ha => (o.fr a ha).imp id fun z => s.free z, l0, o.ok, o.ow0, o.lt⟩
theorem OkW.here {G : Gx} {A0 : List Addr} {He : Hp} {A : List Addr} {σ : St} {H : Hp} {ρ : Rho} (o : OkW G A0 He A σ H ρ) : Same He (hid (A.filter fun a => decide (a ∉ A0)) H) ∧ OkW G A0 (hid (A.filter fun a => decide (a ∉ A0)) H) A σ H ρ := by
 have hb : ∀ b, b ∈ (A.filter fun a => decide (a ∉ A0)) ↔ b ∈ A ∧ b ∉ A0 := fun b => by simp [List.mem_filter]
 have s1 : Same He (hid (A.filter fun a => decide (a ∉ A0)) H) := fun b u h => by
  rw [Bm]
  ·exact o.same b u h
  ·intro z
   obtain ⟨z1, z2⟩ := (hb b).mp z
   rcases o.fr b z1 with q | q
   ·exact z2 q
   ·rw [q] at h; cases h
 refine ⟨s1, Ai, o.sub, fun a ha => ?_, fun a ha h => ?_, o.ok, o.ow0, o.lt⟩
 ·by_cases hz : a ∈ A0
  ·exact .inl hz
  ·right
   unfold hid
   rw [if_pos ((hb a).mpr ⟨ha, hz⟩)]
 ·rw [Bm (fun z => ((hb a).mp z).2 ha)] at h
  exact (o.ok.live a (o.sub a ha)).ne h
theorem OkW.plain {G : Gx} {A0 : List Addr} {A B : List Addr} {σ : St} {H1 H : Hp} {ρ : Rho} (sub : ∀ a ∈ A0, a ∈ B) (o : OkW G A0 (hid (B.filter fun a => decide (a ∉ A0)) H1) A σ H ρ) : Same (hid B H1) (hid A H) := fun b u h => by
 unfold hid at h
 split at h
 ·cases h
 ·rename_i hb
  have e : hid (B.filter fun a => decide (a ∉ A0)) H1 b = some u := by
   rw [Bm (fun z => hb (List.mem_filter.mp z).1)]; exact h
  rw [Bm]
  ·exact o.same b u e
  ·intro z
   rcases o.fr b z with q | q
   ·exact hb (sub b q)
   ·rw [q] at e; cases e
section
variable {X : Cx} {G : Gx} {a b c tg : Expr} {fa fb fc : FE} {ga : FT} {pos p2 : Pos} {st : Stmt} {rest body : List Stmt} {g gs gb : FS}
theorem Bq : PSDs X G [] nxF := fun A0 He pins s σ H D I ⟨ρ, o, ok, e, k⟩ => by
 cases e
 exact Mj pins s σ H D I (k σ H ok)
theorem Ad (h1 : PSD X G st g) (h2 : PSDs X G rest gs) : PSDs X G (st :: rest) (seqF g gs) := fun A0 He pins s σ H D I ⟨ρ, o, ok, e, k⟩ => by
 refine FP (h1 A0 He) (h2 A0 He) pins s σ H D I ?_
 unfold seqF at e
 split at e
 ·rename_i ρ' e1
  exact ⟨ρ, _, ok, e1, fun σ' H' ok' => ⟨ρ', o, ok', e, k⟩⟩
 ·rename_i hno
  refine ⟨ρ, o, ok, e, ?_⟩
  cases o with
  | nx ρ' => exact absurd e (hno ρ')
  | rt d ρ' => exact k
  | bk ρ' => exact k
  | ct ρ' => exact k
theorem Ag (h1 : PSD X G st g) : PSDs X G [st] g := fun A0 He => Hh (h1 A0 He)
theorem CK {s1 s2 : List Stmt} (ht : PFT X G c ga) (h1 : PSDs X G s1 g) (h2 : PSDs X G s2 gs) : PSD X G (.If c s1 s2 pos) (ifS ga g gs) := fun A0 He pins s σ H D I ⟨ρ, o, ⟨A, w⟩, e, k⟩ => by
 refine UG (ht A) (h1 A0 He) (h2 A0 He) pins s σ H D I ?_
 unfold ifS at e
 split at e
 ·rename_i e1
  exact ⟨ρ, _, w.ok, e1, fun H1 s1 => iteT ⟨ρ, o, ⟨A, w.mono s1⟩, e, k⟩⟩
 ·rename_i e1
  exact ⟨ρ, _, w.ok, e1, fun H1 s1 => iteF ⟨ρ, o, ⟨A, w.mono s1⟩, e, k⟩⟩
 ·cases e
theorem bW {A0 : List Addr} {He : Hp} {A : List Addr} {σ : St} {H : Hp} {ρ : Rho} {o : Out} {D : Ends} {i : Nat} (w : OkW G A0 He A σ H ρ) (e : setF i fa ρ = some o) (k : Ke G A0 He D o) : tAsg (tF G A fa) (G_ i) D σ H := by
 unfold setF at e
 cases e1 : fa ρ with
 | none => simp [e1] at e
 | some d =>
  simp only [e1, Option.map_some] at e
  cases e
  exact ⟨ρ, d, w.ok, e1, fun v H1 s1 r1 => k _ _ ⟨A, (w.mono s1).set r1 i⟩⟩
theorem Yc {i : Nat} {x : Str} {p : Pos} (h : ∀ te, PE X a te → PS X (.Assign [.Name x p] a pos) (tAsg te (G_ i))) (ha : PF X G a fa) : PSD X G (.Assign [.Name x p] a pos) (setF i fa) := fun A0 He pins s σ H D I ⟨ρ, o, ⟨A, w⟩, e, k⟩ =>
 h _ (ha A) pins s σ H D I (bW w e k)
theorem Ao (ha : PF X G a fa) : PSD X G (.Return (some a) pos) (retF fa) := fun A0 He pins s σ H D I ⟨ρ, o, ⟨A, w⟩, e, k⟩ => by
 refine aX (ha A) pins s σ H D I ?_
 unfold retF at e
 cases e1 : fa ρ with
 | none => simp [e1] at e
 | some d =>
  simp only [e1, Option.map_some] at e
  cases e
  exact ⟨ρ, d, w.ok, e1, fun v H1 s1 r1 => k v σ H1 A (w.mono s1) r1⟩
theorem Fd (ha : PF X G a fa) (hs : swapsWith a none pos.line X.env = pure false := by rfl) : PSD X G (.Expr a pos) (Em fa) := fun A0 He pins s σ H D I ⟨ρ, o, ⟨A, w⟩, e, k⟩ => by
 refine Hi (ha A) hs pins s σ H D I ?_
 unfold Em at e
 cases e1 : fa ρ with
 | none => simp [e1] at e
 | some d =>
  simp only [e1, Option.map_some] at e
  cases e
  exact ⟨ρ, d, w.ok, e1, fun v H1 s1 r1 => k _ _ ⟨A, w.mono s1⟩⟩
theorem Gv : PSD X G st badF := fun A0 He pins s σ H D I ⟨ρ, o, ok, e, k⟩ => by cases e
def tGD (G : Gx) (A0 : List Addr) (He : Hp) (g : FG) : TG := fun v σ H Q => ∃ A ρ d ρ', OkW G A0 He A σ H ρ ∧ Rep G (hid A H) v d ∧ g d ρ = some ρ' ∧ ∀ σ' H', OkS G A0 He σ' H' ρ' → Q σ' H'
def PGD (X : Cx) (G : Gx) (tg : Expr) (g : FG) : Prop := ∀ A0 He, PG X tg (tGD G A0 He g)
theorem D_ {i : Nat} (h : PG X tg (G_ i)) : PGD X G tg (Dh i) := fun A0 He pins s σ H v u Q I r ⟨A, ρ, d, ρ', w, rv, e, k⟩ => by
 cases e
 exact h pins s σ H v u Q I r (k _ _ ⟨A, w.set rv i⟩)
theorem Ke.base {A0 : List Addr} {He Hf : Hp} {D : Ends} {o : Out} (k : Ke G A0 He D o) (s : Same He Hf) (l0 : ∀ a ∈ A0, He a ≠ none) : Ke G A0 Hf D o := by
 cases o with
 | nx ρ => exact fun σ H ⟨A, w⟩ => k σ H ⟨A, w.base s l0⟩
 | rt d ρ => exact fun v σ H A w r => k v σ H A (w.base s l0) r
 | bk ρ => exact fun σ H ⟨A, w⟩ => k σ H ⟨A, w.base s l0⟩
 | ct ρ => exact fun σ H ⟨A, w⟩ => k σ H ⟨A, w.base s l0⟩
theorem En {it : Expr} {src : FI} {fg : FG} (hp : PassesOwn (model X.prog X.w) X.A X.env X.xe) (hc : X.calm = true) (hi : PFI X G false tg it src) (hg : PGD X G tg fg) (hb : PSDs X G body gb)
  (hs : ∀ x, foldedSetIterable it X.env x = pure x := by intro _; rfl) : PSD X G (.For tg it body [] pos) (forS src fg gb) := fun A0 He pins s σ H D I ⟨ρ, o, ⟨A, w⟩, e, k⟩ => by
 cases e1 : src ρ with
 | none => simp [forS, e1] at e
 | some ds =>
  have e' : forF (fun d ρ => (fg d ρ).bind gb) ds ρ = some o := by
   have e2 : forF (tgB fg gb) ds ρ = some o := by simpa [forS, e1] using e
   exact e2
  have hb' : PSs X body (fun D σ H => ∃ A0 He, tS G A0 He gb D σ H) := fun pins s σ H D I ⟨A0, He, q⟩ => hb A0 He pins s σ H D I q
  have hg' : PG X tg (fun v σ H Q => ∃ A0 He, tGD G A0 He fg v σ H Q) := fun pins s σ H v u Q I r ⟨A0, He, q⟩ => hg A0 He pins s σ H v u Q I r q
  refine UT hp hc (hi A) hg' hb' hs pins s σ H D I ⟨ρ, ds, w.ok, e1, fun J H1 s1 sr => ?_⟩
  obtain ⟨sHe, w2⟩ := (w.mono s1).here
  have k2 := k.base sHe w.l0
  generalize hHf : hid (A.filter fun a => decide (a ∉ A0)) H1 = Hf at sHe w2 k2
  refine ⟨fun i m σ' H' => m = ds.length - i ∧ i ≤ ds.length ∧ ∃ ρ', OkS G A0 Hf σ' H' ρ' ∧ forF (fun d ρ => (fg d ρ).bind gb) (ds.drop i) ρ' = some o, ⟨ds.length, by simp, Nat.zero_le _, ρ, ⟨A, w2⟩, by simpa using e'⟩, ?_⟩
  rintro i m σ3 H3 ⟨rfl, hil, ρ3, ⟨B, w3⟩, e3⟩
  have pl : Same (hid A H1) (hid B H3) := by rw [← hHf] at w3; exact OkW.plain w.sub w3
  by_cases hlt : i < ds.length
  ·right
   have hd : ds[i]? = some ds[i] := by simp [hlt]
   have ed : ds.drop i = ds[i] :: ds.drop (i + 1) := List.drop_eq_getElem_cons hlt
   rw [ed] at e3
   unfold forF at e3
   refine ⟨sr.go i H3 (pl.trans Ai) hlt, fun σ' H' => ∃ ρ', OkS G A0 Hf σ' H' ρ' ∧ forF (fun d ρ => (fg d ρ).bind gb) (ds.drop (i + 1)) ρ' = some o, fun σ' H' q => ⟨ds.length - (i + 1), by omega, rfl, hlt, q⟩, fun x H' y => ?_⟩
   obtain ⟨sy, rx⟩ := sr.yld i H3 x H' _ (pl.trans Ai) hd y
   refine ⟨A0, Hf, B, ρ3, ds[i], ?_⟩
   cases e4 : fg ds[i] ρ3 with
   | none => simp [e4] at e3
   | some ρ4 =>
    refine ⟨ρ4, w3.mono sy, rx B w3.ok.live pl, rfl, fun σ5 H5 ok5 => ⟨A0, Hf, ρ4, ?_⟩⟩
    cases e5 : gb ρ4 with
    | none => simp [e4, e5] at e3
    | some o5 =>
     refine ⟨o5, ok5, rfl, ?_⟩
     cases o5 with
     | nx ρ5 =>
      simp only [e4, e5, Option.bind_some] at e3
      exact fun σ' H' ok' => ⟨ρ5, ok', e3⟩
     | ct ρ5 =>
      simp only [e4, e5, Option.bind_some] at e3
      exact fun σ' H' ok' => ⟨ρ5, ok', e3⟩
     | bk ρ5 =>
      simp only [e4, e5, Option.bind_some] at e3
      cases e3
      exact fun σ' H' ok' => k2 σ' H' ok'
     | rt d5 ρ5 =>
      simp only [e4, e5, Option.bind_some] at e3
      cases e3
      exact k2
  ·left
   have ei : i = ds.length := by omega
   subst ei
   rw [List.drop_length] at e3
   cases e3
   exact ⟨sr.stop _ H3 (pl.trans Ai) (Nat.le_refl _), k2 σ3 H3 ⟨B, w3⟩⟩
end
def spD (G : Gx) (g : List D → Option D) : Sp := fun vs H Q _ => ∃ A ds d, (∀ a ∈ A, Nt (H a)) ∧ RepL G (hid A H) vs ds ∧ g ds = some d ∧ ∀ v H', Same H H' → Rep G (hid A H') v d → Q v H'
section
variable {X : Cx} {G : Gx} {a : Expr} {es : List Expr} {fs : FA} {pos p : Pos}
theorem d8 {k : Nat} {f : Addr} {fd : FuncData} {ps : List Str} {g : List D → Option D} {x : Str} (F : FnOk X.prog X.w X.K X.mg X.base CX0 k f fd ps (spD G g)) (hr : Room k X.A) (hg : Gl X x) (hm : X.mg x = some (.ref f)) (hk : PySem.W.keepIn X.K (.ref f) = true)
  (hb : Binds X.K fd ps []) (ha : PFA X G (a :: es) fs) (hdb : (x == ("__debug__" : Str)) = false := by decide) (he : starEach (a :: es) X.env = (false, eval a X.env) :: starEach es X.env := by rfl) (hpl : (backTo pos (starEach es X.env)).any (·.1) = false := by rfl) :
  PF X G (.Call (.Name x p) (a :: es) [] pos) (Al g fs) := fun A => Bu (Xw F hr hg hm hk hb .nil Ux (ha A) hdb he hpl) fun σ H Q ⟨ρ, d, o, e, k⟩ => by
 unfold Al at e
 cases e1 : fs ρ with
 | none => simp [e1] at e
 | some ds =>
  have e' : g ds = some d := by simpa [e1] using e
  refine ⟨ρ, ds, o, e1, fun vs H1 s1 r1 => ⟨A, ds, d, (o.mono s1).live, by rw [List.append_nil]; exact r1, e', fun v H2 s2 r2 => k v H2 (s1.trans s2) r2⟩⟩
end
theorem Ga {G : Gx} {A : List Addr} {H : Hp} {N : List Str} {vs : List V} {ds : List D} (live : ∀ a ∈ A, Nt (H a)) (r : RepL G (hid A H) vs ds) (hn : vs.length ≤ N.length) : OkS G A H (start N vs) H (Br N.length ds) := by
 have key : ∀ (i : Nat) (z : Slot), (Br N.length ds)[i]? = some z → (∃ d, z = .fz d ∧ ds[i]? = some d) ∨ z = .un := fun i z h => by
  unfold Br at h
  by_cases hi : i < ds.length
  ·rw [List.getElem?_append_left (by simpa using hi), List.getElem?_map] at h
   cases e : ds[i]? with
   | none => rw [e] at h; cases h
   | some d => rw [e] at h; exact .inl ⟨d, (Option.some.inj h).symm, rfl⟩
  ·rw [List.getElem?_append_right (by simpa using Nat.not_lt.mp hi), List.getElem?_replicate] at h
   split at h
   ·exact .inr (Option.some.inj h).symm
   ·cases h
 refine ⟨A, Same.refl H, fun _ h => h, fun a h => .inl h, fun a ha => (live a ha).ne, ⟨?_, live, fun i d h => ?_, fun i d h => ?_, fun i j d e a h _ _ _ => ?_⟩, fun i d a h _ => ?_, fun x d _ h => ?_⟩
 ·unfold L2.start Br
  rw [List.length_append, List.length_append, List.length_map, List.length_map, List.length_replicate, List.length_replicate, r.1]
 ·rcases key i _ h with ⟨d', e, hd⟩ | e
  ·cases e
   obtain ⟨v, h1, h2⟩ := r.get hd
   refine ⟨v, ?_, h2⟩
   unfold L2.start
   rw [List.getElem?_append_left (by rw [List.length_map]; exact (List.getElem?_eq_some_iff.mp h1).1), List.getElem?_map, h1]
   rfl
  ·cases e
 ·rcases key i _ h with ⟨d', e, hd⟩ | e
  ·cases e
  ·cases e
 ·rcases key i _ h with ⟨d', e, hd⟩ | e
  ·cases e
  ·cases e
 ·rcases key i _ h with ⟨d', e, hd⟩ | e
  ·cases e
  ·cases e
 ·rcases key 0 _ h with ⟨d', e, hd⟩ | e
  ·cases e
  ·cases e
theorem fn_D {P : Program} {w : World} {G : Gx} {mg : Str → Option Value} {base : Heap} {x qual : Str} {st : Stmt} {f : Addr} {fd : FuncData} {N ps : List Str} {k : Nat} {b : FS} (F : Fun G.K x qual st f fd) (S : FnScope N ps (Ab st)) (hl : ps.length ≤ N.length)
  (hb : ∀ (cdv : Value) (A : Around) (outer : List Env) (s : Shared) (H : Hp) (E : XK), Room k (A.deeper (envOfC qual (Ab st) s.heap.objs.size f cdv)) → PSDs (cxOf CX0 P w G.K mg base N qual (Ab st) f cdv A outer s H E).nox G (Aw st) b) :
  FnOk P w G.K mg base CX0 (k + 1) f fd ps (spD G (runF N.length ps.length b)) := by
 refine F.ok S (fun vs H Q E h => ?_) (fun cdv A outer s H vs Q E hr h => ?_)
 ·obtain ⟨A, ds, d, lv, r, e, _⟩ := h
  unfold runF at e
  split at e
  ·rename_i hz; rw [r.1]; exact hz
  ·cases e
 ·obtain ⟨A0, ds, d, lv, r, e, k⟩ := h
  unfold runF at e
  split at e
  ·rename_i hz
   refine ⟨_, hb cdv A outer s H E hr A0 H, Br N.length ds, ?_⟩
   cases e1 : b (Br N.length ds) with
   | none => simp [e1] at e
   | some o =>
    refine ⟨o, Ga lv r (by rw [r.1, hz]; exact hl), rfl, ?_⟩
    cases o with
    | nx ρ =>
     simp only [e1] at e
     cases e
     exact fun σ H' ⟨A, w⟩ => k _ H' w.same .non
    | rt d' ρ' =>
     simp only [e1] at e
     cases e
     exact fun v σ H' A w r' => k v H' w.same (r'.mono (Dd w.sub))
    | bk ρ => simp [e1] at e
    | ct ρ => simp [e1] at e
  ·cases e
end PV
namespace PV
open PySem PySem.Spec L2
open PyProof.Rows hiding St
section
variable {X : Cx} {G : Gx} {a b c : Expr} {fa fb fc : FE} {pos p2 px : Pos} {scope : Scope} {t : Str} {elt iter : Expr} {ifs : List Expr} {ga : FT} {fe : FE} {src : FI}
def PFTs (X : Cx) (G : Gx) (ifs : List Expr) (f : FT) : Prop := ∀ A, PTs X ifs (tFT G A f)
theorem V8 : PFTs X G [] allT := fun A pins s σ H Q I ⟨ρ, b, o, e, k⟩ => by
 cases e
 exact YB pins s σ H Q I (k H (Same.refl H))
theorem Ou (h : PFT X G a ga) : PFTs X G [a] ga := fun A => YC (h A)
theorem Okp.fill {A : List Addr} {σ : St} {H Hc : Hp} {ρ : Rho} {p : Addr} (o : Okp G A σ H ρ) (s : Same H Hc) (hp : H p = none) (hc : Nt (Hc p)) : Okp G (p :: A) σ Hc ρ := by
 have sm : Same (hid A H) (hid (p :: A) Hc) := fun b u h => by
  unfold hid at h
  split at h
  ·cases h
  ·rename_i hb
   rw [Bm]
   ·exact s b u h
   ·intro z
    rcases List.mem_cons.mp z with z | z
    ·rw [z, hp] at h; cases h
    ·exact hb z
 refine ⟨o.len, fun a ha => ?_, fun i d h => ?_, fun i d h => ?_, o.inj⟩
 ·rcases List.mem_cons.mp ha with z | z
  ·rw [z]; exact hc
  ·exact (o.mono s).live a z
 ·obtain ⟨v, h1, h2⟩ := o.fz i d h
  exact ⟨v, h1, h2.mono sm⟩
 ·obtain ⟨a, h1, h2, h3⟩ := o.ow i d h
  refine ⟨a, h1, List.mem_cons_of_mem _ h2, ?_⟩
  cases d with
  | lst ds => obtain ⟨xs, q1, q2⟩ := h3; exact ⟨xs, s _ _ q1, q2.mono sm⟩
  | dk ds => obtain ⟨xs, q1, q2, q3⟩ := h3; exact ⟨xs, s _ _ q1, q2, q3.mono sm⟩
  | dt ds => obtain ⟨xs, q1, q2, q3⟩ := h3; exact ⟨xs, s _ _ q1, q2, q3.mono sm⟩
  | ob c gs => obtain ⟨C, dx, xs, q1, q2, q3⟩ := h3; exact ⟨C, dx, xs, s _ _ q1, q2, q3.mono sm⟩
  | _ => exact h3.elim
theorem Okp.snoc {A : List Addr} {σ : St} {H : Hp} {ρ : Rho} {v : V} {d : D} (o : Okp G A σ H ρ) (r : Rep G (hid A H) v d) : Okp G A (σ ++ [some v]) H (ρ ++ [.fz d]) := by
 have key : ∀ (j : Nat) (z : Slot), (ρ ++ [.fz d])[j]? = some z → (j = ρ.length ∧ z = .fz d) ∨ (j < ρ.length ∧ ρ[j]? = some z) := fun j z h => by
  by_cases hj : j < ρ.length
  ·rw [List.getElem?_append_left hj] at h; exact .inr ⟨hj, h⟩
  ·rw [List.getElem?_append_right (Nat.not_lt.mp hj)] at h
   cases q : j - ρ.length with
   | zero => rw [q] at h; exact .inl ⟨by omega, (Option.some.inj h).symm⟩
   | succ n => rw [q] at h; cases h
 have keyS : ∀ (j : Nat), j < ρ.length → (σ ++ [some v])[j]? = σ[j]? := fun j hj => List.getElem?_append_left (by rw [o.len]; exact hj)
 refine ⟨by rw [List.length_append, List.length_append, o.len]; rfl, o.live, fun j e h => ?_, fun j e h => ?_, fun j k e f p h1 h2 h3 h4 => ?_⟩
 ·rcases key j _ h with ⟨hj, hz⟩ | ⟨hj, hz⟩
  ·cases hz
   subst hj
   exact ⟨v, by rw [List.getElem?_append_right (by rw [o.len]; exact Nat.le_refl _), o.len, Nat.sub_self]; rfl, r⟩
  ·obtain ⟨u, q1, q2⟩ := o.fz j e hz
   exact ⟨u, by rw [keyS j hj]; exact q1, q2⟩
 ·rcases key j _ h with ⟨hj, hz⟩ | ⟨hj, hz⟩
  ·cases hz
  ·obtain ⟨u, q1, q2⟩ := o.ow j e hz
   exact ⟨u, by rw [keyS j hj]; exact q1, q2⟩
 ·rcases key j _ h1 with ⟨_, hz⟩ | ⟨hj, hz⟩
  ·cases hz
  ·rcases key k _ h2 with ⟨_, hz'⟩ | ⟨hk, hz'⟩
   ·cases hz'
   ·rw [keyS j hj] at h3
    rw [keyS k hk] at h4
    exact o.inj j k e f p hz hz' h3 h4
theorem Yd {A : List Addr} {σ : St} {H : Hp} {Q : VK} (h : tF G A (GJ src ga fe) σ H Q) : Z0 (tI G A true src) (fun σ H Q => ∃ A, tFT G A ga σ H Q) (fun σ H Q => ∃ A, tF G A fe σ H Q) σ H Q := by
 obtain ⟨ρ, d, o, e, k⟩ := h
 unfold GJ at e
 cases e1 : src ρ with
 | none => simp [e1] at e
 | some ds =>
  rw [e1] at e
  have e' : (if ds.length ≤ sizeLine then (Dv ρ ga fe ds).map D.lst else none) = some d := e
  split at e'
  ·rename_i hz
   cases e2 : Dv ρ ga fe ds with
   | none => simp [e2] at e'
   | some out =>
    simp only [e2, Option.map_some] at e'
    cases e'
    refine ⟨ρ, ds, o, e1, fun J H1 s1 sr p hp => ?_⟩
    have o1 := o.mono s1
    have npA : p ∉ A := fun z => (o1.live p z).ne hp
    refine ⟨fun i m ys Hc => m = ds.length - i ∧ i ≤ ds.length ∧ Hc p = some (.lst ys) ∧ Same H1 Hc ∧ ys.length ≤ i ∧ ∃ es rest, RepL G (hid (p :: A) Hc) ys es ∧ Dv ρ ga fe (ds.drop i) = some rest ∧ es ++ rest = out,
     ⟨ds.length, by simp, Nat.zero_le _, Ah, Am hp _, Nat.le_refl _, [], out, RepL.nil, by simpa using e2, rfl⟩, ?_⟩
    rintro i m ys Hc ⟨rfl, hil, hpc, sc, hy, es, rest, rr, er, eo⟩
    by_cases hlt : i < ds.length
    ·right
     have hd : ds[i]? = some ds[i] := by simp [hlt]
     have ed : ds.drop i = ds[i] :: ds.drop (i + 1) := List.drop_eq_getElem_cons hlt
     rw [ed] at er
     unfold Dv at er
     refine ⟨sr.go i Hc sc hlt, fun x H' y => ?_⟩
     obtain ⟨sy, rx⟩ := sr.yld i Hc x H' _ sc hd y
     have okc : Okp G (p :: A) σ Hc ρ := o1.fill sc hp (by rw [hpc]; exact Nt.lst)
     have sm : Same (hid A H1) (hid (p :: A) Hc) := fun b u h => by
      unfold hid at h
      split at h
      ·cases h
      ·rename_i hb
       rw [Bm]
       ·exact sc b u h
       ·intro z
        rcases List.mem_cons.mp z with z | z
        ·rw [z, hp] at h; cases h
        ·exact hb z
     have ok2 := (okc.mono sy).snoc (rx _ okc.live sm)
     have hpc := sy _ _ hpc
     have rr := rr.mono (Aq sy)
     have sc := sc.trans sy
     cases eg : ga (ρ ++ [.fz ds[i]]) with
     | none => simp [eg] at er
     | some b =>
      refine ⟨p :: A, _, b, ok2, eg, fun H2 s2 => ?_⟩
      cases b with
      | false =>
       refine iteF ⟨ds.length - (i + 1), by omega, rfl, hlt, s2 _ _ hpc, sc.trans s2, Nat.le_succ_of_le hy, es, rest, rr.mono (Aq s2), by simpa [eg] using er, eo⟩
      | true =>
       simp only [eg] at er
       cases ee : fe (ρ ++ [.fz ds[i]]) with
       | none => simp [ee] at er
       | some yd =>
        cases ec : Dv ρ ga fe (ds.drop (i + 1)) with
        | none => simp [ee, ec] at er
        | some rest' =>
         simp only [ee, ec, Option.bind_some, Option.map_some] at er
         cases er
         refine iteT ⟨p :: A, _, yd, ok2.mono s2, ee, fun yv H3 s3 r3 => ?_⟩
         have hp3 := s3 _ _ (s2 _ _ hpc)
         refine ⟨hp3, by omega, ds.length - (i + 1), by omega, rfl, hlt, Ah, fun b u q => ?_, by rw [List.length_append]; simp; omega, es ++ [yd], rest', ?_, ec, by rw [List.append_assoc]; exact eo⟩
         ·have hb : b ≠ p := Aj q hp
          rw [Af hb]
          exact s3 _ _ (s2 _ _ (sc _ _ q))
         ·rw [DY List.mem_cons_self]
          exact (rr.mono (Aq (s2.trans s3))).append (.cons r3 .nil)
    ·left
     have ei : i = ds.length := by omega
     subst ei
     rw [List.drop_length] at er
     simp only [Dv] at er
     cases er
     rw [List.append_nil] at eo
     subst eo
     refine ⟨sr.stop _ Hc sc (Nat.le_refl _), k _ Hc (s1.trans sc) ?_⟩
     have q := rr.mono (Dd (A := A) fun a ha => List.mem_cons_of_mem _ ha)
     exact .lst (.of (by rw [Bm npA]; exact hpc)) q.1 q.2
  ·cases e'
theorem M4 (N' : List Str) (eN : DG t X.N ++ [t] = N') (c : CompOk X scope t) (hc : X.calm = true) (hi : PFI X G true (.Name t px) iter src) (hI : ∀ s2 H2 fp, PFTs { Ft X scope t s2 H2 fp with N := N' } G ifs ga) (hE : ∀ s2 H2 fp, PF { Ft X scope t s2 H2 fp with N := N' } G elt fe)
  (hs : ∀ x, foldedSetIterable iter X.env x = pure x := by intro _; rfl) : PF X G (.ListComp elt [⟨.Name t px, iter, ifs, 0⟩] scope pos) (GJ src ga fe) := by
 subst eN
 intro A
 refine Bu (YD (tc := fun σ H Q => ∃ A, tFT G A ga σ H Q) (te := fun σ H Q => ∃ A, tF G A fe σ H Q) c hc (hi A) (fun s2 H2 fp => ?_) (fun s2 H2 fp => ?_) hs) fun _ _ _ h => Yd h
 ·exact fun pins s σ H Q I ⟨A, q⟩ => hI s2 H2 fp A pins s σ H Q I q
 ·exact fun pins s σ H Q I ⟨A, q⟩ => hE s2 H2 fp A pins s σ H Q I q
end
end PV
namespace PV
open PySem PySem.Spec L2
open PyProof.Rows hiding St
section
variable {prog : Program} {w : World} {A : Around} {R : Result → Shared → Prop} {I : Addr} {fp wr : List Addr} {n : Nat} {P : Nat → Value → Prop} {Sx : Nat → Heap → Prop} {kw : List (Str × Value)}
end
section
variable {prog : Program} {w : World} {A : Around} {E : Value → Shared → Prop} {s : Shared} {l : Addr} {xs : Array (Int × Tok)}
end
section
variable {X : Cx} {G : Gx} {a b : Expr} {fa fb : FE} {pos p kpos : Pos}
theorem Ov {H : Hp} : ∀ {ds : List D} {xs : List V} {ns : List Str}, RepL G H xs ds → HB ds = some ns → xs = ns.map V.str
 | [], xs, ns, r, h => by cases h; rw [r.nil_inv]; rfl
 | d :: ds, xs, ns, r, h => by
  obtain ⟨x, ys, rfl, r1, r2⟩ := r.uncons
  cases d with
  | str i =>
   simp only [HB] at h
   cases e : HB ds with
   | none => simp [e] at h
   | some ms =>
    simp only [e, Option.map_some] at h
    cases h
    cases r1
    rw [Ov r2 e]
    rfl
  | _ => simp [HB] at h
end
end PV
namespace PV
open PySem PySem.Spec L2
open PyProof.Rows hiding St
theorem Fv : bootBuiltins "len" = some (.builtin "len") := by decide +kernel
theorem Bo : bootBuiltins "isinstance" = some (.builtin "isinstance") := by decide +kernel
theorem Gw : bootBuiltins "sorted" = some (.builtin "sorted") := by decide +kernel
theorem V9 : bootBuiltins "int" = some (.type "int") := by decide +kernel
theorem Ye : bootBuiltins "bool" = some (.type "bool") := by decide +kernel
theorem RQ : bootBuiltins "list" = some (.type "list") := by decide +kernel
def M5 (N : List Str) (sc scope : Scope) (t : Str) : Bool :=
 scope.names.all (fun y => y.2 != .cell) && scope.kind == .function && scope.names.all (fun y => y.2 != .local || scope.names.lookup y.1 == some .local) && scope.names.lookup t == some .local
  && scope.names.all (fun y => y.2 != .local || y.1 == t || !N.contains y.1) && scope.names.all (fun y => y.2 != .free || sc.names.lookup y.1 == some .cell || sc.names.lookup y.1 == some .free) && scope.names.all (fun y => y.1 != Str.empty) && decide (DG t N ++ [t]).Nodup
theorem Th {X : Cx} {N : List Str} {sc scope : Scope} {t : Str} (hN : X.N = N) (hs : X.env.scope = sc) (h : M5 N sc scope t = true) : CompOk X scope t := by
 unfold M5 at h
 simp only [Bool.and_eq_true, List.all_eq_true, decide_eq_true_eq, beq_iff_eq, bne_iff_ne, Bool.or_eq_true, ne_eq] at h
 obtain ⟨⟨⟨⟨⟨⟨⟨h1, h2⟩, h3⟩, h4⟩, h5⟩, h6⟩, h7⟩, h8⟩ := h
 refine ⟨h1, h2, fun y hy e => ?_, h4, fun y hy e => ?_, fun y hy e => ?_, h7, by rw [hN]; exact h8⟩
 ·rcases h3 y hy with z | z
  ·exact absurd e z
  ·exact z
 ·rcases h5 y hy with (z | z) | z
  ·exact absurd e z
  ·exact .inl z
  ·right
   rw [hN]
   simpa using z
 ·have hk : ∀ x, X.env.kindOf x = sc.names.lookup x := fun x => by rw [← hs]; rfl
  rw [hk]
  rcases h6 y hy with (z | z) | z
  ·exact absurd e z
  ·exact .inl z
  ·exact .inr z
theorem Lx {G : Gx} {a : Addr} {od : Option Addr} {n : Nat} {sl : Array (Option Value)} {its : Array Value} {xs : List Str} (h : G.K.lookup a = some ⟨.type "tuple", od, .seq its n, sl⟩) (hz : its.size ≤ sizeLine) (r : Vals (xs.map V.str) its.toList) : Rep G (fun _ => none) (.ref a) (.tup (xs.map .str)) := by
 refine .tup (xs := xs.map V.str) (.inr ⟨_, its, n, h, rfl, rfl, hz, r⟩) (by simp) fun i x d h1 h2 => ?_
 rw [List.getElem?_map] at h1 h2
 cases e : xs[i]? with
 | none => rw [e] at h1; cases h1
 | some z => rw [e] at h1 h2; cases h1; cases h2; exact .str z
end PV
namespace PySem
end PySem
namespace PV
open PySem PySem.Spec L2
open PyProof.Rows hiding St
section
variable {X : Cx} {G : Gx} {a b c : Expr} {fa fb fc : FE} {pos p2 px : Pos} {es : List Expr} {fs : FA}
def tN (G : Gx) (A : List Addr) (f : FE) : TE := fun σ H Q => ∃ ρ d, Okp G A σ H ρ ∧ f ρ = some d ∧ ∀ p H', Same H H' → H p = none → Top G (p :: A) H' p d → Q (.ref p) H'
def PN (X : Cx) (G : Gx) (e : Expr) (f : FE) : Prop := ∀ A, PE X e (tN G A f)
theorem Gy {A : List Addr} {H H' : Hp} {p : Addr} (s : Same H H') (hp : H p = none) : Same (hid A H) (hid (p :: A) H') := fun b u h => by
 unfold hid at h
 split at h
 ·cases h
 ·rename_i hb
  rw [Bm]
  ·exact s b u h
  ·intro z
   rcases List.mem_cons.mp z with z | z
   ·rw [z, hp] at h; cases h
   ·exact hb z
theorem V_ (h : PFA X G es fs) : PN X G (.List es pos) (lstF fs) := fun A => Bu (Ug (h A)) fun σ H Q ⟨ρ, d, o, e, k⟩ => by
 unfold lstF at e
 cases e1 : fs ρ with
 | none => simp [e1] at e
 | some ds =>
  rw [e1] at e
  have e' : (if ds.length ≤ sizeLine then some (D.lst ds) else none) = some d := e
  split at e'
  ·rename_i hz
   cases e'
   exact ⟨ρ, ds, o, e1, fun vs H1 s1 r1 => ⟨by rw [r1.1]; exact hz, fun p hp => k p _ (s1.trans (Am hp _)) (s1.free hp) ⟨vs, Ah, r1.mono (Gy (Am hp _) hp)⟩⟩⟩
  ·cases e'
theorem Top.fill {A : List Addr} {H H' : Hp} {p q : Addr} {d : D} (t : Top G A H q d) (s : Same H H') (hp : H p = none) : Top G (p :: A) H' q d := by
 have sm := Gy (A := A) s hp
 cases d with
 | lst ds => obtain ⟨xs, q1, q2⟩ := t; exact ⟨xs, s _ _ q1, q2.mono sm⟩
 | dk ds => obtain ⟨xs, q1, q2, q3⟩ := t; exact ⟨xs, s _ _ q1, q2, q3.mono sm⟩
 | dt ds => obtain ⟨xs, q1, q2, q3⟩ := t; exact ⟨xs, s _ _ q1, q2, q3.mono sm⟩
 | ob c gs => obtain ⟨C, dx, xs, q1, q2, q3⟩ := t; exact ⟨C, dx, xs, s _ _ q1, q2, q3.mono sm⟩
 | _ => exact t.elim
theorem Top.live {A : List Addr} {H : Hp} {q : Addr} {d : D} (t : Top G A H q d) : Nt (H q) := by
 cases d with
 | lst ds => obtain ⟨xs, q1, q2⟩ := t; rw [q1]; exact Nt.lst
 | dk ds => obtain ⟨xs, q1, q2, q3⟩ := t; rw [q1]; exact Nt.dK
 | dt ds => obtain ⟨xs, q1, q2, q3⟩ := t; rw [q1]; exact Nt.dT
 | ob c gs => obtain ⟨C, dx, xs, q1, q2, q3⟩ := t; rw [q1]; exact Nt.ins
 | _ => exact t.elim
theorem Bf {α : Type} {l : List α} {i j : Nat} {x z : α} (h : (l.set i x)[j]? = some z) : (j = i ∧ z = x ∧ i < l.length) ∨ (j ≠ i ∧ l[j]? = some z) := by
 by_cases hj : j = i
 ·subst hj
  by_cases hl : j < l.length
  ·rw [List.getElem?_set_self hl] at h
   exact .inl ⟨rfl, (Option.some.inj h).symm, hl⟩
  ·rw [List.getElem?_eq_none (by simpa using Nat.not_lt.mp hl)] at h
   cases h
 ·rw [List.getElem?_set_ne (Ne.symm hj)] at h
  exact .inr ⟨hj, h⟩
theorem OkW.setW {A0 : List Addr} {He : Hp} {A : List Addr} {σ : St} {H H' : Hp} {ρ : Rho} {p : Addr} {d : D} (w : OkW G A0 He A σ H ρ) (s : Same H H') (hp : H p = none) (t : Top G (p :: A) H' p d) (i : Nat) (hi0 : i ≠ 0) : OkW G A0 He (p :: A) (σ.set i (some (.ref p))) H' (ρ.set i (.ow d)) := by
 have hf := w.ok.fill (Hc := H') s hp t.live
 have hep : He p = none := w.same.free hp
 have npA : p ∉ A := fun z => (w.ok.live p z).ne hp
 refine ⟨w.same.trans s, fun a ha => List.mem_cons_of_mem _ (w.sub a ha), fun a ha => ?_, w.l0, ⟨by rw [List.length_set, List.length_set]; exact hf.len, hf.live, fun j e h => ?_, fun j e h => ?_, fun j k e f q h1 h2 h3 h4 => ?_⟩, fun j e q h1 h2 => ?_, fun x e hx h0 => by rw [List.getElem?_set_ne hi0] at h0 ⊢; exact w.lt x e hx h0⟩
 ·rcases List.mem_cons.mp ha with z | z
  ·rw [z]; exact .inr hep
  ·exact w.fr a z
 ·rcases Bf h with ⟨_, hz, _⟩ | ⟨hj, hz⟩
  ·cases hz
  ·obtain ⟨v, q1, q2⟩ := hf.fz j e hz
   exact ⟨v, by rw [List.getElem?_set_ne (Ne.symm hj)]; exact q1, q2⟩
 ·rcases Bf h with ⟨hj, hz, hl⟩ | ⟨hj, hz⟩
  ·cases hz
   subst hj
   exact ⟨p, by rw [List.getElem?_set_self (by rw [w.ok.len]; exact hl)], List.mem_cons_self, t⟩
  ·obtain ⟨v, q1, q2, q3⟩ := hf.ow j e hz
   exact ⟨v, by rw [List.getElem?_set_ne (Ne.symm hj)]; exact q1, q2, q3⟩
 ·have no : ∀ (m : Nat) (g : D), ρ[m]? = some (.ow g) → σ[m]? = some (some (.ref q)) → q ≠ p := fun m g a1 a2 z => by
   obtain ⟨v, b1, b2, _⟩ := w.ok.ow m g a1
   rw [a2] at b1
   cases b1
   exact npA (z ▸ b2)
  rcases Bf h1 with ⟨hj, _, hl⟩ | ⟨hj, hz⟩
  ·rcases Bf h2 with ⟨hk, _, _⟩ | ⟨hk, hz'⟩
   ·rw [hj, hk]
   ·exfalso
    subst hj
    rw [List.getElem?_set_self (by rw [w.ok.len]; exact hl)] at h3
    cases h3
    rw [List.getElem?_set_ne (Ne.symm hk)] at h4
    exact no k f hz' h4 rfl
  ·rcases Bf h2 with ⟨hk, _, hl⟩ | ⟨hk, hz'⟩
   ·exfalso
    subst hk
    rw [List.getElem?_set_self (by rw [w.ok.len]; exact hl)] at h4
    cases h4
    rw [List.getElem?_set_ne (Ne.symm hj)] at h3
    exact no j e hz h3 rfl
   ·rw [List.getElem?_set_ne (Ne.symm hj)] at h3
    rw [List.getElem?_set_ne (Ne.symm hk)] at h4
    exact w.ok.inj j k e f q hz hz' h3 h4
 ·rcases Bf h1 with ⟨hj, _, hl⟩ | ⟨hj, hz⟩
  ·subst hj
   rw [List.getElem?_set_self (by rw [w.ok.len]; exact hl)] at h2
   cases h2
   exact fun z => w.l0 p z hep
  ·rw [List.getElem?_set_ne (Ne.symm hj)] at h2
   exact w.ow0 j e q hz h2
theorem Yg {A0 : List Addr} {He : Hp} {A : List Addr} {σ : St} {H : Hp} {ρ : Rho} {o : Out} {D : Ends} {i : Nat} (hi0 : i ≠ 0) (w : OkW G A0 He A σ H ρ) (e : setW i fa ρ = some o) (k : Ke G A0 He D o) : tAsg (tN G A fa) (G_ i) D σ H := by
 unfold setW at e
 cases e1 : fa ρ with
 | none => simp [e1] at e
 | some d =>
  simp only [e1, Option.map_some] at e
  cases e
  exact ⟨ρ, d, w.ok, e1, fun p H1 s1 hp t => k _ _ ⟨p :: A, w.setW s1 hp t i hi0⟩⟩
theorem WD {i : Nat} {x : Str} {p : Pos} (h : ∀ te, PE X a te → PS X (.Assign [.Name x p] a pos) (tAsg te (G_ i))) (ha : PN X G a fa) (hi0 : i ≠ 0 := by decide) : PSD X G (.Assign [.Name x p] a pos) (setW i fa) := fun A0 He pins s σ H D I ⟨ρ, o, ⟨A, w⟩, e, k⟩ =>
 h _ (ha A) pins s σ H D I (Yg hi0 w e k)
theorem OkW.wr {A0 : List Addr} {He : Hp} {A : List Addr} {σ : St} {H : Hp} {ρ : Rho} {i : Nat} {d0 d : D} {p : Addr} {o : HO} (w : OkW G A0 He A σ H ρ) (hi : ρ[i]? = some (.ow d0)) (hs : σ[i]? = some (some (.ref p))) (t : Top G A (upd H p o) p d) : OkW G A0 He A σ (upd H p o) (ρ.set i (.ow d)) := by
 obtain ⟨q, h1, hA, _⟩ := w.ok.ow i d0 hi
 rw [hs] at h1
 cases h1
 have hep : He p = none := by
  rcases w.fr p hA with z | z
  ·exact absurd z (w.ow0 i d0 p hi hs)
  ·exact z
 have eh : hid A (upd H p o) = hid A H := DY hA
 refine ⟨fun b u h => by rw [Af (Aj h hep)]; exact w.same b u h, w.sub, w.fr, w.l0, ⟨by rw [List.length_set]; exact w.ok.len, fun b hb => ?_, fun j e h => ?_, fun j e h => ?_, fun j k e f q g1 g2 g3 g4 => ?_⟩, fun j e q g1 g2 => ?_, fun x e hx h0 => ?_⟩
 ·by_cases z : b = p
  ·rw [z]; exact t.live
  ·rw [Af z]; exact w.ok.live b hb
 ·rcases Bf h with ⟨_, hz, _⟩ | ⟨hj, hz⟩
  ·cases hz
  ·rw [eh]; exact w.ok.fz j e hz
 ·rcases Bf h with ⟨hj, hz, hl⟩ | ⟨hj, hz⟩
  ·cases hz
   subst hj
   exact ⟨p, hs, hA, t⟩
  ·obtain ⟨q, q1, q2, q3⟩ := w.ok.ow j e hz
   have nq : q ≠ p := fun z => hj (w.ok.inj j i e d0 p hz hi (z ▸ q1) hs)
   refine ⟨q, q1, q2, ?_⟩
   cases e with
   | lst ds => obtain ⟨xs, a1, a2⟩ := q3; exact ⟨xs, by rw [Af nq]; exact a1, by rw [eh]; exact a2⟩
   | dk ds => obtain ⟨xs, a1, a2, a3⟩ := q3; exact ⟨xs, by rw [Af nq]; exact a1, a2, by rw [eh]; exact a3⟩
   | dt ds => obtain ⟨xs, a1, a2, a3⟩ := q3; exact ⟨xs, by rw [Af nq]; exact a1, a2, by rw [eh]; exact a3⟩
   | ob c gs => obtain ⟨C, dx, xs, a1, a2, a3⟩ := q3; exact ⟨C, dx, xs, by rw [Af nq]; exact a1, a2, by rw [eh]; exact a3⟩
   | _ => exact q3.elim
 ·have up : ∀ (m : Nat) (g : D), (ρ.set i (.ow d))[m]? = some (.ow g) → ∃ g', ρ[m]? = some (.ow g') := fun m g z => by
   rcases Bf z with ⟨hm, _, _⟩ | ⟨_, hz⟩
   ·exact ⟨d0, by rw [hm]; exact hi⟩
   ·exact ⟨g, hz⟩
  obtain ⟨e', z1⟩ := up j e g1
  obtain ⟨f', z2⟩ := up k f g2
  exact w.ok.inj j k e' f' q z1 z2 g3 g4
 ·rcases Bf g1 with ⟨hj, _, _⟩ | ⟨hj, hz⟩
  ·subst hj
   exact w.ow0 j d0 q hi g2
  ·exact w.ow0 j e q hz g2
 ·rcases Bf h0 with ⟨hj, _, _⟩ | ⟨_, hz⟩
  ·exact w.lt x d0 hx (by rw [hj]; exact hi)
  ·exact w.lt x e hx hz
theorem JH {ρ : Rho} {i : Nat} {d : D} (h : ownO ρ i = some d) : ρ[i]? = some (.ow d) := by
 unfold ownO at h
 split at h
 ·rename_i e; cases h; exact e
 ·cases h
theorem Ti {g : D → D → Option D} {i : Nat} {ρ : Rho} {o : Out} (h : mutF g i fa ρ = some o) : ∃ v x y, fa ρ = some v ∧ ρ[i]? = some (.ow x) ∧ g x v = some y ∧ o = .nx (ρ.set i (.ow y)) := by
 unfold mutF at h
 cases e1 : fa ρ with
 | none => simp [e1] at h
 | some v =>
  cases e2 : ownO ρ i with
  | none => simp [e1, e2] at h
  | some x =>
   cases e3 : g x v with
   | none => simp [e1, e2, e3] at h
   | some y =>
    simp [e1, e2, e3] at h
    exact ⟨v, x, y, rfl, JH e2, e3, h.symm⟩
theorem M6 {i : Nat} {x : Str} {xpos apos : Pos} (hv : PE X (.Name x xpos) (tVar i)) (ha : PF X G a fa)
  (hbase : attributeBase (.Name x xpos) "append" X.env (eval (.Name x xpos) X.env) = eval (.Name x xpos) X.env := by rfl)
  (hfew : ((backTo pos (starEach [a] X.env)).all (fun x => !x.1) && (backToKw pos (keywordEach [] X.env)).all (fun x => x.1.isSome) && decide ([a].length + ([] : List Keyword).length + (if ([] : List Keyword).isEmpty then 0 else 1) < 30)) = true := by rfl)
  (hline : (apos.endLine == pos.line) = true := by rfl) (hs : starEach [a] X.env = [(false, eval a X.env)] := by rfl) (hsw : swapsWith (.Call (.Attribute (.Name x xpos) "append" apos) [a] [] pos) none p2.line X.env = pure false := by rfl) :
  PSD X G (.Expr (.Call (.Attribute (.Name x xpos) "append" apos) [a] [] pos) p2) (mutF appL i fa) := fun A0 He pins s σ H D I ⟨ρ, o, ⟨A, w⟩, e, k⟩ => by
 obtain ⟨v, x0, y, e1, hi, e2, rfl⟩ := Ti e
 refine Hi (dh PySem.F.plainAttrs_list PySem.F.slot_list_append PySem.F.type_list_append Lk hv (CV (ha A) Ex hs) hbase hfew hline hs rfl) hsw pins s σ H D I ?_
 unfold appL at e2
 split at e2
 ·rename_i ds
  split at e2
  ·rename_i hz
   cases e2
   obtain ⟨p, h1, hA, xs, h2, r⟩ := w.ok.ow i _ hi
   refine ⟨_, h1, .inl ⟨rfl, xs, .of h2⟩, ρ, v, w.ok, e1, fun u H1 s1 r1 => ⟨p, xs, u, rfl, rfl, s1 _ _ h2, by rw [r.1]; exact hz, ?_⟩⟩
   have w1 := w.mono s1
   refine k _ _ ⟨A, w1.wr hi h1 ⟨xs ++ [u], Ah, ?_⟩⟩
   rw [DY hA]
   exact (r.mono (Aq s1)).append (.cons r1 .nil)
  ·cases e2
 ·cases e2
theorem Inv.frzK {pins : List (Addr × Obj)} {σ : St} {H : Hp} {s : Shared} {p : Addr} {kvs : List (Key × V)} (I : Inv X pins σ H s) (e : H p = some (.dK kvs)) : ∃ o, Inv X pins σ (upd H p (.frz o (.dK kvs))) s := by
 obtain ⟨z, hd, vs, rel, dd⟩ := ZQ I.hok e
 obtain ⟨o, es, ep, ho, h2⟩ := id dd
 exact ⟨o, Jw (h' := s.heap) (t' := s.toks) I (by rw [e]; exact True.intro) ⟨rfl, fun _ _ => rfl⟩ ⟨o, ho⟩ ⟨ho, z, hd, vs, rel, dd⟩⟩
theorem Inv.frzT {pins : List (Addr × Obj)} {σ : St} {H : Hp} {s : Shared} {p : Addr} {kvs : List (List Key × V)} (I : Inv X pins σ H s) (e : H p = some (.dT kvs)) : ∃ o, Inv X pins σ (upd H p (.frz o (.dT kvs))) s := by
 obtain ⟨z, hd, vs, rel, o, es, ep, ho, h3, h4, h5, h6⟩ := I.hok p _ e
 refine ⟨o, Jw (h' := s.heap) (t' := s.toks) I (by rw [e]; exact True.intro) ⟨rfl, fun _ _ => rfl⟩ ⟨o, ho⟩ ⟨ho, z, hd, vs, KT.keeps rel fun c ys ec => ?_, o, es, ep, ho, h3, h4, h5, h6⟩⟩
 rw [Af (ZJ ec e (fun z => nomatch z))]
 exact ec
theorem OkW.frzC {A0 : List Addr} {He : Hp} {A : List Addr} {σ : St} {H H' : Hp} {ρ : Rho} {i : Nat} {d : D} {p : Addr} (w : OkW G A0 He A σ H ρ) (hi : ρ[i]? = some (.ow d)) (h1 : σ[i]? = some (some (.ref p))) (hA : p ∈ A) (hh : ∀ b, b ≠ p → H' b = H b)
  (rp : Same (hid A H) (hid (A.filter fun b => decide (b ≠ p)) H') → hid (A.filter fun b => decide (b ≠ p)) H' p = H' p → Rep G (hid (A.filter fun b => decide (b ≠ p)) H') (.ref p) d) : OkS G A0 He σ H' (ρ.set i (.fz d)) := by
 have hn := w.ow0 i d p hi h1
 have hmem : ∀ b, b ∈ A.filter (fun b => decide (b ≠ p)) ↔ b ∈ A ∧ b ≠ p := fun b => by simp [List.mem_filter]
 have sm : Same (hid A H) (hid (A.filter fun b => decide (b ≠ p)) H') := fun b o h => by
  unfold hid at h ⊢
  split at h
  ·cases h
  ·rename_i hb
   have hbp : b ≠ p := fun z => hb (z ▸ hA)
   rw [if_neg (fun z => hb ((hmem b).mp z).1), hh b hbp]
   exact h
 have rp := rp sm (Bm fun z => ((hmem p).mp z).2 rfl)
 have hep : He p = none := (w.fr p hA).resolve_left hn
 refine ⟨A.filter fun b => decide (b ≠ p), fun b o h => ?_, fun b hb => (hmem b).mpr ⟨w.sub b hb, fun z => hn (z ▸ hb)⟩, fun b hb => w.fr b ((hmem b).mp hb).1, w.l0, ⟨by rw [List.length_set]; exact w.ok.len, fun b hb => ?_, fun j e h => ?_, fun j e h => ?_, fun j k e f q g1 g2 g3 g4 => ?_⟩, fun j e q g1 g2 => ?_, fun x e hx h0 => ?_⟩
 ·have hbp : b ≠ p := fun z => by rw [z, hep] at h; cases h
  rw [hh b hbp]
  exact w.same b o h
 ·obtain ⟨z1, z2⟩ := (hmem b).mp hb
  rw [hh b z2]
  exact w.ok.live b z1
 ·rcases Bf h with ⟨hj, hz, _⟩ | ⟨hj, hz⟩
  ·cases hz; subst hj; exact ⟨_, h1, rp⟩
  ·obtain ⟨v, q1, q2⟩ := w.ok.fz j e hz
   exact ⟨v, q1, q2.mono sm⟩
 ·rcases Bf h with ⟨_, hz, _⟩ | ⟨hj, hz⟩
  ·cases hz
  ·obtain ⟨q, q1, q2, q3⟩ := w.ok.ow j e hz
   have nq : q ≠ p := fun z => hj (w.ok.inj j i e d p hz hi (z ▸ q1) h1)
   refine ⟨q, q1, (hmem q).mpr ⟨q2, nq⟩, ?_⟩
   cases e with
   | lst ds => obtain ⟨xs, a1, a2⟩ := q3; exact ⟨xs, by rw [hh q nq]; exact a1, a2.mono sm⟩
   | dk ds => obtain ⟨xs, a1, a2, a3⟩ := q3; exact ⟨xs, by rw [hh q nq]; exact a1, a2, a3.mono sm⟩
   | dt ds => obtain ⟨xs, a1, a2, a3⟩ := q3; exact ⟨xs, by rw [hh q nq]; exact a1, a2, a3.mono sm⟩
   | ob c gs => obtain ⟨C, dx, xs, a1, a2, a3⟩ := q3; exact ⟨C, dx, xs, by rw [hh q nq]; exact a1, a2, a3.mono sm⟩
   | _ => exact q3.elim
 ·rcases Bf g1 with ⟨_, hz, _⟩ | ⟨_, z1⟩
  ·cases hz
  ·rcases Bf g2 with ⟨_, hz, _⟩ | ⟨_, z2⟩
   ·cases hz
   ·exact w.ok.inj j k e f q z1 z2 g3 g4
 ·rcases Bf g1 with ⟨_, hz, _⟩ | ⟨_, z1⟩
  ·cases hz
  ·exact w.ow0 j e q z1 g2
 ·rcases Bf h0 with ⟨_, hz, _⟩ | ⟨_, z1⟩
  ·cases hz
  ·exact w.lt x e hx z1
theorem OkS.frz {pins : List (Addr × Obj)} {s : Shared} {A0 : List Addr} {He : Hp} {σ : St} {H : Hp} {ρ : Rho} (I : Inv X pins σ H s) (w : OkS G A0 He σ H ρ) (i : Nat) : ∃ H', Inv X pins σ H' s ∧ OkS G A0 He σ H' (frz1 ρ i) := by
 unfold frz1
 split
 ·rename_i d hi
  obtain ⟨A, w⟩ := w
  obtain ⟨p, h1, hA, t⟩ := w.ok.ow i d hi
  cases d with
  | lst ds =>
   obtain ⟨xs, a1, a2⟩ := t
   exact ⟨H, I, w.frzC hi h1 hA (fun _ _ => rfl) fun sm hp => .lst (.of (by rw [hp]; exact a1)) (a2.mono sm).1 (a2.mono sm).2⟩
  | dk ds =>
   obtain ⟨xs, a1, a2, a3⟩ := t
   obtain ⟨o, I'⟩ := Inv.frzK I a1
   exact ⟨_, I', w.frzC hi h1 hA (fun b hb => Af hb) fun sm hp => .dk (by rw [hp]; exact Ah) a2 (a3.mono sm).2⟩
  | dt ds =>
   obtain ⟨xs, a1, a2, a3⟩ := t
   obtain ⟨o, I'⟩ := Inv.frzT I a1
   exact ⟨_, I', w.frzC hi h1 hA (fun b hb => Af hb) fun sm hp => .dt (by rw [hp]; exact Ah) a2 (a3.mono sm).2⟩
  | ob c gs =>
   obtain ⟨C, dx, xs, a1, a2, a3⟩ := t
   exact ⟨H, I, w.frzC hi h1 hA (fun _ _ => rfl) fun sm hp => .ob a2.1 (by rw [hp]; exact a1) a2.2 (a3.mono sm).2⟩
  | _ => exact t.elim
 ·exact ⟨H, I, w⟩
theorem RT {pins : List (Addr × Obj)} {s : Shared} {A0 : List Addr} {He : Hp} {σ : St} : ∀ (is : List Nat) {H : Hp} {ρ : Rho}, Inv X pins σ H s → OkS G A0 He σ H ρ → ∃ H', Inv X pins σ H' s ∧ OkS G A0 He σ H' (is.foldl frz1 ρ)
 | [], H, _, I, w => ⟨H, I, w⟩
 | i :: r, _, _, I, w => let ⟨_, I1, w1⟩ := w.frz I i; RT r I1 w1
theorem Kf {st : Stmt} {g : FS} (is : List Nat) (h : PSD X G st g) : PSD X G st (fzS is g) := fun A0 He pins s σ H D I ⟨ρ, o, ok, e, k⟩ =>
 let ⟨H', I', ok'⟩ := RT is I ok
 h A0 He pins s σ H' D I' ⟨is.foldl frz1 ρ, o, ok', e, k⟩
end
section
variable {X : Cx} {G : Gx} {a b c : Expr} {fa fb fc : FE} {pos p2 px : Pos} {scope : Scope} {t : Str} {elt iter : Expr} {ifs : List Expr} {ga : FT} {fe : FE} {src : FI}
end
end PV
namespace PV
open PySem PySem.Spec
section
variable {prog : Program} {w : World} {A : Around} {E : Value → Shared → Prop} {s : Shared}
def btx (w : World) : Bool := w.params.followText "set-order"
def keyOf (e : Int × Value) : Str := match e.2 with | .str k _ => k | _ => Str.empty
def EntS (w : World) (e : Int × Value) (k : Str) : Prop := e.1 = hashStr w k ∧ ∃ t, e.2 = .str k t
structure FX (w : World) (es : Array (Int × Value)) (t : SetTable) (ks : List Str) : Prop where
 ent : ∀ e ∈ es.toList, EntS w e (keyOf e)
 perm : (es.toList.map keyOf).Perm ks
 nd : ks.Nodup
 sz : es.size < scanBound
 fits : t.fits es.size = true
 led : btx w = false → t.led = true
 plain : es.size ≠ 0 → t.plain = false
def ObX (h : Heap) (a : Addr) (es : Array (Int × Value)) (t : SetTable) : Prop := ∃ o ep, h.get? a = some o ∧ o.ExactSet ∧ o.data = .set es ep t
def SetX (w : World) (h : Heap) (a : Addr) (ks : List Str) : Prop := ∃ es t, ObX h a es t ∧ FX w es t ks
theorem SetX.keep {h h' : Heap} {a : Addr} {ks : List Str} (x : SetX w h a ks) (e : ∀ o, h.get? a = some o → h'.get? a = some o) : SetX w h' a ks := by
 obtain ⟨es, t, ⟨o, ep, g, q⟩, f⟩ := x
 exact ⟨es, t, ⟨o, ep, e o g, q⟩, f⟩
theorem SetX.typeIs {a : Addr} {ks : List Str} (x : SetX w s.heap a ks) : s.TypeIs (.ref a) "set" :=
 let ⟨_, _, ⟨o, _, g, q, _⟩, _⟩ := x; ⟨o, g, q.1⟩
theorem FX.len {es : Array (Int × Value)} {t : SetTable} {ks : List Str} (f : FX w es t ks) : es.size = ks.length := by simpa using f.perm.length_eq
def addK (ks : List Str) (k : Str) : List Str := if k ∈ ks then ks else ks ++ [k]
theorem FX.more {es es1 : Array (Int × Value)} {t t1 : SetTable} {ks : List Str} {k : Str} {u : Tok} (f : FX w es t ks) (nk : k ∉ ks) (p : es1.toList.Perm (es.toList ++ [(hashStr w k, .str k u)])) (r : ks.length + 1 < scanBound) (q1 : t1.fits es1.size = true) (q2 : t1.led = t.led) (q3 : t1.plain = false) : FX w es1 t1 (addK ks k) := by
 have l : es1.size = es.size + 1 := by simpa using p.length_eq
 unfold addK
 rw [if_neg nk]
 refine ⟨fun e m => (List.mem_append.mp (p.mem_iff.mp m)).elim (f.ent e) fun m => ?_, ?_, List.nodup_append.mpr ⟨f.nd, by simp, fun x hx y hy e => nk ?_⟩, by rw [l, f.len]; exact r, q1, fun b => q2.trans (f.led b), fun _ => q3⟩
 ·cases List.mem_singleton.mp m; exact ⟨rfl, u, rfl⟩
 ·have := p.map keyOf; rw [List.map_append] at this; exact this.trans (f.perm.append_right _)
 ·cases List.mem_singleton.mp hy; rw [← e]; exact hx
end
end PV
namespace PV
open PySem PySem.Spec
section
variable {prog : Program} {w : World} {A : Around} {R : Result → Shared → Prop} {I : Addr} {fp wr : List Addr} {n : Nat} {P : Nat → Value → Prop} {Sx : Nat → Heap → Prop}
end
end PV
namespace PV
open PySem PySem.Spec
section
variable {prog : Program} {w : World} {A : Around} {E : Value → Shared → Prop} {s : Shared}
end
end PV
namespace PV
open PySem PySem.Spec
section
variable {prog : Program} {w : World} {A : Around} {E : Value → Shared → Prop} {s : Shared} {I q T : Addr} {first : Value} {j n ep : Nat} {es : Array (Int × Value)} {t : SetTable}
def ItX (h : Heap) (I q : Addr) (first : Value) (j n ep : Nat) : Prop := ∃ o, h.get? I = some o ∧ o.cls = .type "set_iterator" ∧ o.data = .fields #[first, .int j 0, .ref q, .int n 0, .int ep 0]
def WF (h : Heap) (q : Addr) (es : Array (Int × Value)) (ep : Nat) (t : SetTable) : Prop := ∃ o, h.get? q = some o ∧ o.ExactSet ∧ o.data = .set es ep t
theorem ItX.ty (x : ItX s.heap I q first j n ep) : s.TypeIs (.ref I) "set_iterator" := let ⟨o, g, c, _⟩ := x; ⟨o, g, c⟩
end
end PV
namespace PV
open PySem PySem.Spec
section
variable {prog : Program} {w : World} {A : Around} {E : Value → Shared → Prop} {s : Shared} {I q T : Addr} {first : Value} {j n ep : Nat} {es : Array (Int × Value)} {t : SetTable}
theorem WF.keep {h h' : Heap} (y : WF h q es ep t) (e : ∀ o, h.get? q = some o → h'.get? q = some o) : WF h' q es ep t := let ⟨o, g, r⟩ := y; ⟨o, e o g, r⟩
theorem ItX.keep {h h' : Heap} (x : ItX h I q first j n ep) (e : ∀ o, h.get? I = some o → h'.get? I = some o) : ItX h' I q first j n ep := let ⟨o, g, r⟩ := x; ⟨o, e o g, r⟩
end
end PV
namespace PV
open PySem PySem.Spec
section
variable {prog : Program} {w : World} {A : Around} {E : Value → Shared → Prop} {s : Shared} {I q T : Addr} {first : Value} {j n ep : Nat} {es : Array (Int × Value)} {t : SetTable}
end
end PV
namespace PV
open PySem PySem.Spec
section
variable {prog : Program} {w : World} {A : Around} {E : Value → Shared → Prop} {s : Shared} {I q T : Addr}
end
end PV
namespace PV
open PySem PySem.Spec
theorem Hu : ∀ {r : List Str} {p : Str}, PyProof.Rows.risingS p r = true → (p :: r).Nodup → Up (p :: r)
 | [], p, _, _ => by simp [Up]
 | x :: r, p, h, nd => by
  unfold PyProof.Rows.risingS at h
  rw [Bool.and_eq_true] at h
  obtain ⟨h1, h2⟩ := h
  obtain ⟨n1, n2⟩ := List.nodup_cons.mp nd
  have u := Hu h2 n2
  have lt : ltS p x = true := RC (by unfold ltS; simpa [PyProof.Rows.ltCps_eq] using h1) (fun e => n1 (by rw [← e]; exact List.mem_cons_self))
  refine List.pairwise_cons.mpr ⟨fun y m => ?_, u⟩
  rcases List.mem_cons.mp m with e | m
  ·rw [e]; exact lt
  ·exact JB lt ((List.pairwise_cons.mp u).1 y m)
theorem M7 {l : List Str} (h : PyProof.Rows.sortedS l = true) (nd : l.Nodup) : Up l := by
 cases l with
 | nil => exact List.Pairwise.nil
 | cons p r => exact Hu h nd
section
variable {prog : Program} {w : World} {A : Around} {E : Value → Shared → Prop} {s : Shared} {q : Addr}
end
open L2
section
variable {X : Cx} {G : Gx} {a : Expr} {fa : FE} {pos : Pos}
theorem Ly : ∀ {xs : List Str} {us : List Value}, PyProof.Rows.StrsAre us xs → Vals (xs.map V.str) us
 | _, _, .nil => .nil
 | _, _, .cons _ u r => .cons ⟨u, rfl⟩ (Ly r)
theorem WK {H : Hp} {ds : List D} {xs : List V} {zs : List Str} (r : RepL G H xs ds) (h : HB ds = some zs) : xs = zs.map V.str := Ov r h
end
end PV
namespace PV
open PySem PySem.Spec L2
open PyProof.Rows hiding St
def getK {κ : Type} [DecidableEq κ] (k : κ) : List (κ × D) → Option D
 | [] => none
 | p :: r => if p.1 = k then some p.2 else getK k r
def repK {κ : Type} [DecidableEq κ] (k : κ) (v : D) : List (κ × D) → List (κ × D)
 | [] => []
 | p :: r => (p.1, if p.1 = k then v else p.2) :: repK k v r
def putL {κ : Type} [DecidableEq κ] (k : κ) (v : D) (kds : List (κ × D)) : List (κ × D) := if (getK k kds).isSome then repK k v kds else kds ++ [(k, v)]
def keyD : D → Option Key
 | .int i => some (.inl i)
 | .str x => some (.inr x)
 | _ => none
def Gb : List D → Option (List Key)
 | [] => some []
 | d :: r => (keyD d).bind fun k => (Gb r).map (k :: ·)
section
variable {κ : Type} [DecidableEq κ] {G : Gx} {H : Hp}
theorem Gz {k : κ} : ∀ {kds : List (κ × D)} {kvs : List (κ × V)}, kvs.map (·.1) = kds.map (·.1) → RepL G H (kvs.map (·.2)) (kds.map (·.2)) → (∀ d, getK k kds = some d → ∃ v, valV kvs k = some v ∧ Rep G H v d) ∧ (valV kvs k).isSome = (getK k kds).isSome
 | [], kvs, e, r => by
  cases kvs with
  | nil => exact ⟨fun d h => by simp [getK] at h, rfl⟩
  | cons p q => simp at e
 | p :: kds, kvs, e, r => by
  cases kvs with
  | nil => simp at e
  | cons q kvs =>
   rw [List.map_cons, List.map_cons] at e
   injection e with e1 e2
   rw [List.map_cons, List.map_cons] at r
   obtain ⟨x, ys, e3, r1, r2⟩ := r.uncons
   injection e3 with e4 e5
   subst e4 e5
   have ih := Gz (k := k) e2 r2
   by_cases h : p.1 = k
   ·have h' : q.1 = k := e1.trans h
    rw [Hn h']
    refine ⟨fun d hd => ?_, ?_⟩
    ·simp only [getK, if_pos h] at hd
     cases hd
     exact ⟨_, rfl, r1⟩
    ·simp [getK, if_pos h]
   ·have h' : ¬ q.1 = k := fun z => h (e1.symm.trans z)
    rw [Ho h']
    simp only [getK, if_neg h]
    exact ih
theorem RV {k : κ} {v : V} {d : D} (rv : Rep G H v d) : ∀ {kds : List (κ × D)} {kvs : List (κ × V)}, kvs.map (·.1) = kds.map (·.1) → RepL G H (kvs.map (·.2)) (kds.map (·.2)) →
  (kvs.map fun kv => if kv.1 = k then (kv.1, v) else kv).map (·.1) = (repK k d kds).map (·.1) ∧ RepL G H ((kvs.map fun kv => if kv.1 = k then (kv.1, v) else kv).map (·.2)) ((repK k d kds).map (·.2))
 | [], kvs, e, r => by
  cases kvs with
  | nil => exact ⟨rfl, RepL.nil⟩
  | cons p q => simp at e
 | p :: kds, kvs, e, r => by
  cases kvs with
  | nil => simp at e
  | cons q kvs =>
   rw [List.map_cons, List.map_cons] at e
   injection e with e1 e2
   rw [List.map_cons, List.map_cons] at r
   obtain ⟨x, ys, e3, r1, r2⟩ := r.uncons
   injection e3 with e4 e5
   subst e4 e5
   have ih := RV rv (k := k) e2 r2
   by_cases h : p.1 = k
   ·have h' : q.1 = k := e1.trans h
    refine ⟨?_, ?_⟩
    ·simp only [List.map_cons, if_pos h', repK]
     rw [ih.1, e1]
    ·simp only [List.map_cons, if_pos h', repK, if_pos h]
     exact .cons rv ih.2
   ·have h' : ¬ q.1 = k := fun z => h (e1.symm.trans z)
    refine ⟨?_, ?_⟩
    ·simp only [List.map_cons, if_neg h', repK]
     rw [ih.1, e1]
    ·simp only [List.map_cons, if_neg h', repK, if_neg h]
     exact .cons r1 ih.2
theorem M8 {k : κ} {v : V} {d : D} (rv : Rep G H v d) {kds : List (κ × D)} {kvs : List (κ × V)} (e : kvs.map (·.1) = kds.map (·.1)) (r : RepL G H (kvs.map (·.2)) (kds.map (·.2))) :
  (putK kvs k v).map (·.1) = (putL k d kds).map (·.1) ∧ RepL G H ((putK kvs k v).map (·.2)) ((putL k d kds).map (·.2)) := by
 unfold putK putL
 rw [KH, (Gz (k := k) e r).2]
 split
 ·exact RV rv e r
 ·rw [List.map_append, List.map_append, List.map_append, List.map_append, e]
  exact ⟨rfl, r.append (.cons rv .nil)⟩
end
theorem Ow {G : Gx} {A : List Addr} {H : Hp} {v : V} {d : D} {k : Key} (r : RepT G A H v d) (h : keyD d = some k) : v = kV k := by
 cases d with
 | int i => cases h; exact r.int
 | str x => cases h; exact r.str
 | _ => cases h
theorem G3 {G : Gx} {H : Hp} {v : V} {d : D} {k : Key} (r : Rep G H v d) (h : keyD d = some k) : v = kV k := by
 cases d with
 | int i => cases h; cases r; rfl
 | str x => cases h; cases r; rfl
 | _ => cases h
theorem JK {G : Gx} {H : Hp} : ∀ {ds : List D} {vs : List V} {ks : List Key}, RepL G H vs ds → Gb ds = some ks → vs = ks.map kV
 | [], vs, ks, r, h => by cases h; exact r.nil_inv
 | d :: ds, vs, ks, r, h => by
  obtain ⟨x, ys, rfl, r1, r2⟩ := r.uncons
  cases e1 : keyD d with
  | none => simp [Gb, e1] at h
  | some k =>
   cases e2 : Gb ds with
   | none => simp [Gb, e1, e2] at h
   | some ks' =>
    simp [Gb, e1, e2] at h
    subst h
    rw [G3 r1 e1, JK r2 e2]
    rfl
end PV
namespace PV
open PySem PySem.Spec L2
open PyProof.Rows hiding St
section
variable {X : Cx} {G : Gx} {a b c : Expr} {fa fb fc : FE} {pos p2 px : Pos} {es : List Expr} {fs : FA}
theorem Ox : PN X G (.Dict [] [] pos) (kF (.dk [])) := fun A => Bu Uu fun σ H Q ⟨ρ, d, o, e, k⟩ => by
 cases e
 exact fun p hp => k p _ (Am hp _) hp ⟨[], Ah, rfl, RepL.nil⟩
theorem d9 : PN X G (.Dict [] [] pos) (kF (.dt [])) := fun A => Bu Uv fun σ H Q ⟨ρ, d, o, e, k⟩ => by
 cases e
 exact fun p hp => k p _ (Am hp _) hp ⟨[], Ah, rfl, RepL.nil⟩
def rDIn (neg : Bool) : R2 := fun x y H Q => ∃ a kvs k, y = .ref a ∧ Rd H a (.dK kvs) ∧ x = kV k ∧ Q (.bl (if neg then !(valV kvs k).isSome else (valV kvs k).isSome)) H
theorem QS (hu : X.A.units + 1 < cLine) : OpR X (compareOp .In) (rDIn false) := by
 intro pins s σ H x y v u Q I rx ry h
 obtain ⟨a, kvs, k, rfl, e, rfl, q⟩ := h
 cases ry
 exact d_in hu I (.inl ⟨kvs, k, e, rfl, rfl⟩) rx fun s' I' => ⟨.bl _, H, I', rfl, q⟩
theorem Tj (hu : X.A.units + 1 < cLine) : OpR X (compareOp .NotIn) (rDIn true) := by
 intro pins s σ H x y v u Q I rx ry h
 obtain ⟨a, kvs, k, rfl, e, rfl, q⟩ := h
 cases ry
 exact X7 hu I (.inl ⟨kvs, k, e, rfl, rfl⟩) rx fun s' I' => ⟨.bl _, H, I', rfl, q⟩
def inE (neg : Bool) (x y : D) : Option D := match y with
 | .dk kds => (keyD x).map fun k => .bl (if neg then !(getK k kds).isSome else (getK k kds).isSome)
 | _ => inD neg x y
theorem Yh (neg : Bool) : Ci G (fun x y H Q => rInA G.K neg x y H Q ∨ rDIn neg x y H Q) (inE neg) := by
 intro A H x y dx dy d Q lv rx ry h k
 unfold inE at h
 split at h
 ·rename_i kds
  cases e : keyD dx with
  | none => simp [e] at h
  | some q =>
   obtain ⟨p, kvs, rfl, h1, h2, r⟩ := ry.dk
   have h3 := (Gz (k := q) h2 r).2
   rw [e] at h
   cases h
   refine .inr ⟨p, kvs, q, rfl, h1, Ow rx e, ?_⟩
   rw [h3]
   exact k _ H (Same.refl H) (.bl _)
 ·exact .inl (bR neg A H x y dx dy d Q lv rx ry h k)
def rDIx : R2 := fun x y H Q => ∃ a kvs k v, x = .ref a ∧ Rd H a (.dK kvs) ∧ y = kV k ∧ valV kvs k = some v ∧ Q v H
theorem d_ (hu : X.A.units + 1 < cLine) : IxR X rDIx := by
 intro value slice pins s σ H x y v u Q I rx ry h hs
 obtain ⟨a, kvs, k, z, rfl, e, rfl, l, q⟩ := h
 cases rx
 have g : DGet H a (kV k) (some z) := .inl ⟨kvs, k, e, rfl, l.symm⟩
 have hT := Oc I g
 unfold subscriptTail
 refine wpAny_bind ?_
 rw [getitemInPython_of_ne hT.not_modules]
 refine wpAny_bind (wpAny_specialOf hT PySem.F.slot_dict_getitem.lookup ?_)
 have fin : wpAny (model X.prog X.w) X.A (subscripted slice false (.ref a) u) (fun r s₃ => wpAny (model X.prog X.w) X.A (letTemporaryGo value (.ref a) r >>= fun _ => pure r) (EP X pins σ Q) X.xe s₃) X.xe s := by
  rw [hs]
  exact wpAny_operating (TV hu I g ry fun w' s3 I3 rw' => wpAny_bind (wpAny_letTemporaryGo (wpAny_pure ⟨z, H, I3, rw', q⟩)))
 first
  | exact wpAny_pure (wpAny_bind fin)
  | exact wpAny_bind (wpAny_pure (wpAny_bind fin))
  | exact wpAny_bind fin
def ixE (x y : D) : Option D := match x with
 | .dk kds => (keyD y).bind fun k => getK k kds
 | _ => ixD x y
theorem Yi : Ci G (fun x y H Q => rIx G.K x y H Q ∨ rDIx x y H Q) ixE := by
 intro A H x y dx dy d Q lv rx ry h k
 unfold ixE at h
 split at h
 ·rename_i kds
  cases e : keyD dy with
  | none => simp [e] at h
  | some q =>
   obtain ⟨p, kvs, rfl, h1, h2, r⟩ := rx.dk
   simp [e] at h
   obtain ⟨v, h3, r3⟩ := (Gz (k := q) h2 r).1 d h
   exact .inr ⟨p, kvs, q, v, rfl, h1, Ow ry e, h3, k v H (Same.refl H) r3⟩
 ·exact .inl (V0 A H x y dx dy d Q lv rx ry h k)
theorem bY (hu : X.A.units + 1 < cLine) (hG : G.K = X.K) (ha : PU X G a fa) (hb : PU X G b fb) (hs : Hk b) : PF X G (.Subscript a b pos) (bF ixE fa fb) :=
 fun A => Bu (ZM (r := fun x y H Q => rIx X.K x y H Q ∨ rDIx x y H Q) (Um.or (d_ hu)) (ha A) (hb A) hs) fun _ _ _ h => KY (by rw [← hG]; exact Yi) h
def Ck (x y v : D) : Option D := match x with
 | .dk kds => (keyD y).bind fun k => if kds.length < sizeLine then some (.dk (putL k v kds)) else none
 | _ => none
def putF (i : Nat) (fk fv : FE) : FS := fun ρ => (fv ρ).bind fun v => (fk ρ).bind fun y => (ownO ρ i).bind fun x => (Ck x y v).map fun z => .nx (ρ.set i (.ow z))
theorem Tn {i : Nat} {ρ : Rho} {o : Out} (h : putF i fa fb ρ = some o) : ∃ v y x z, fb ρ = some v ∧ fa ρ = some y ∧ ρ[i]? = some (.ow x) ∧ Ck x y v = some z ∧ o = .nx (ρ.set i (.ow z)) := by
 unfold putF at h
 cases e1 : fb ρ with
 | none => simp [e1] at h
 | some v =>
  cases e2 : fa ρ with
  | none => simp [e1, e2] at h
  | some y =>
   cases e3 : ownO ρ i with
   | none => simp [e1, e2, e3] at h
   | some x =>
    cases e4 : Ck x y v with
    | none => simp [e1, e2, e3, e4] at h
    | some z =>
     simp [e1, e2, e3, e4] at h
     exact ⟨v, y, x, z, rfl, rfl, JH e3, e4, h.symm⟩
theorem M9 {i : Nat} {x : Str} {xpos spos : Pos} (hu : X.A.units + 1 < cLine) (hv : PE X (.Name x xpos) (tVar i)) (ha : PF X G a fa) (hb : PF X G b fb)
  (hs : swapsWith b (some (.Subscript (.Name x xpos) a spos)) pos.line X.env = pure false := by rfl) : PSD X G (.Assign [.Subscript (.Name x xpos) a spos] b pos) (putF i fa fb) := fun A0 He pins s σ H D I ⟨ρ, o, ⟨A, w⟩, e, k⟩ => by
 obtain ⟨v, y, x0, z, e1, e2, hi, e3, rfl⟩ := Tn e
 refine Mt hu hv (ha A) (hb A) hs pins s σ H D I ?_
 unfold Ck at e3
 split at e3
 ·rename_i kds
  cases e4 : keyD y with
  | none => simp [e4] at e3
  | some q =>
   simp only [e4, Option.bind_some] at e3
   split at e3
   ·rename_i hz
    cases e3
    obtain ⟨p, h1, hA, kvs, h2, hk, r⟩ := w.ok.ow i _ hi
    refine ⟨ρ, v, w.ok, e1, fun u H1 s1 r1 => ⟨_, h1, ρ, y, (w.mono s1).ok, e2, fun yv H2 s2 r2 => ?_⟩⟩
    have ek := G3 r2 e4
    subst ek
    have hl : kvs.length < sizeLine := by
     have := congrArg List.length hk
     rw [List.length_map, List.length_map] at this
     omega
    refine ⟨p, _, rfl, DPut.k (s2 _ _ (s1 _ _ h2)) hl, ?_⟩
    have w2 := (w.mono s1).mono s2
    have pk := M8 (k := q) (r1.mono (Aq s2)) hk (r.mono (Aq (s1.trans s2)))
    refine k _ _ ⟨A, w2.wr hi h1 ⟨_, Ah, pk.1, ?_⟩⟩
    rw [DY hA]
    exact pk.2
   ·cases e3
 ·cases e3
end
end PV
namespace PV
open PySem PySem.Spec L2
open PyProof.Rows hiding St
theorem G4 {α β : Type} {R : α → β → Prop} : ∀ {xs : List α} {ys : List β} {i : Nat} {x : α} {y : β}, Paired R xs ys → xs[i]? = some x → ys[i]? = some y → R x y
 | _, _, i, x, y, .nil, h, _ => by simp at h
 | _, _, 0, x, y, .cons r _, h1, h2 => by
  simp at h1 h2
  rw [← h1, ← h2]
  exact r
 | _, _, i + 1, x, y, .cons _ t, h1, h2 => G4 t (by simpa using h1) (by simpa using h2)
def Itd (a : Addr) (o : Obj) (kvs : List (Key × V)) : It :=
 ⟨fun i H => H a = some (.frz o (.dK kvs)) ∧ i < kvs.length, fun i H x H' => H' = H ∧ ∃ p, kvs[i]? = some p ∧ x = kV p.1, fun i H => H a = some (.frz o (.dK kvs)) ∧ kvs.length ≤ i⟩
theorem relK {P : Program} {w : World} {k : Key} {u : Value} (h : (Av P w).is k u = true) : RelV (kV k) u := by
 rcases BR h with ⟨i, t, rfl, rfl⟩ | ⟨x, t, rfl, rfl⟩
 ·exact ⟨t, rfl⟩
 ·exact ⟨t, rfl⟩
theorem JL {X : Cx} {pins : List (Addr × Obj)} {σ : St} {H : Hp} {s : Shared} {a : Addr} {o : Obj} {kvs : List (Key × V)} {es : Array DictEntry} {ep : Nat} (I : Inv X pins σ H s) (e : H a = some (.frz o (.dK kvs))) (hd : o.data = .dict es ep) :
  (a == sysModules) = false ∧ ∃ vs, KV kvs vs ∧ s.heap.DictAt (Av X.prog X.w) a vs ep := by
 obtain ⟨ho, z, hm, vs, rel, o', es', ep', ho', h1, h2, h3⟩ := (show BK X.prog X.w H s.heap a (.frz o (.dK kvs)) from I.hok a _ e)
 rw [ho] at ho'
 cases ho'
 rw [hd] at h2
 cases h2
 exact ⟨hm, vs, rel, o, es, ho, h1, hd, h3⟩
theorem Tp {P : Program} {w : World} {K : PySem.W.Frag} {tg : Expr} (a it : Addr) {o : Obj} {es : Array DictEntry} {ep : Nat} (hd : o.data = .dict es ep) (kvs : List (Key × V)) : Turn P w K tg (Itd a o kvs) [it] it (fun i h => h.IsKeyIter it a i kvs.length ep) where
 mem := by simp
 obj := fun i h st b hb => by
  have e : b = it := by simpa using hb
  subst e
  obtain ⟨o, e, c, d⟩ := st
  exact ⟨o, e, fun v z => by rw [d] at z; cases z⟩
 keep := fun i h h' st k => let ⟨o, e, c, d⟩ := st; ⟨o, k it (by simp) o e, c, d⟩
 item := by
  intro X hP hw hK hc i pins s σ H E I hf st hg
  subst hP hw hK
  obtain ⟨he, hi⟩ := hg
  obtain ⟨hm, vs, rel, dd⟩ := JL I he hd
  have hl : kvs.length = vs.length := rel.length
  obtain ⟨f0, f1, f2, f3, f4, f5⟩ := hf it (by simp)
  have hv : vs[i]? = some (vs[i]'(by omega)) := by simp [show i < vs.length by omega]
  have hk : kvs[i]? = some (kvs[i]'hi) := by simp [hi]
  have hkk : (kvs[i]'hi).1 = (vs[i]'(by omega)).1 := (G4 rel hk hv).1
  refine wpAny_pyNext_dict_item (knd := Av X.prog X.w) (kvs := vs) (k := (vs[i]'(by omega)).1) (v := (vs[i]'(by omega)).2) (by rw [← hl]; exact st) dd hv fun key h' hkey st' sb => ?_
  rw [← hl] at st'
  have I1 : Inv X pins σ H { s with heap := h' } := I.turned (t' := s.toks) (fun b o hb e => (sb.2 b hb).trans e) f0 f1 f3 f4 f5
  obtain ⟨o1, e1, c1, d1⟩ := id st'
  exact ⟨key, rfl, N_ (s := { s with heap := h' }) e1 c1 d1 (by decide) ⟨kV (kvs[i]'hi).1, H, I1, by rw [hkk]; exact relK hkey, ⟨rfl, _, hk, rfl⟩, st', fun b hb => (hf b hb).1⟩⟩
 done := by
  intro X hP hw hK hc i pins s σ H E I hf st hg
  subst hP hw hK
  obtain ⟨he, hi⟩ := hg
  obtain ⟨hm, vs, rel, dd⟩ := JL I he hd
  have hl : kvs.length = vs.length := rel.length
  obtain ⟨f0, f1, f2, f3, f4, f5⟩ := hf it (by simp)
  exact wpAny_pyNext_dict_end (I.ok.hd hc) (by rw [← hl]; exact st) dd (by rw [List.getElem?_eq_none]; omega) fun h' eb => ⟨rfl, I.turned (t' := s.toks) (fun b o hb e => eb b o hb e) f0 f1 f3 f4 f5⟩
 self := fun _ _ _ _ _ st h => wpAny_pyIter_keyiter st h
section
variable {X : Cx} {G : Gx} {a b c tg : Expr} {fa fb fc : FE} {pos p2 : Pos} {tl : TE}
def eE (tl : TE) : TI := fun σ H R => tl σ H fun x H1 => ∃ a o kvs, x = .ref a ∧ H1 a = some (.frz o (.dK kvs)) ∧ R (Itd a o kvs) H1
theorem Yj {l : Expr} (hl : PE X l tl) : PI X tg l (eE tl) := by
 intro pins s σ H R I h
 refine thn (hl pins s σ H _ I h) fun v s1 ⟨x, H1, I1, r1, q1⟩ => ?_
 obtain ⟨a, o, kvs, e, hq, q⟩ := q1
 subst e
 cases r1
 obtain ⟨_, _, _, _, _, o', es, ep, ho', h1, h2, _⟩ := (show BK X.prog X.w H1 s1.heap a (.frz o (.dK kvs)) from I1.hok a _ hq)
 obtain ⟨ho, _⟩ := (show BK X.prog X.w H1 s1.heap a (.frz o (.dK kvs)) from I1.hok a _ hq)
 rw [ho] at ho'
 cases ho'
 obtain ⟨hm, vs, rel, dd⟩ := JL I1 hq h2
 have hl' : kvs.length = vs.length := rel.length
 refine wpAny_pyIter_dict hm dd ?_
 refine ⟨s1.heap.objs.size, [s1.heap.objs.size], _, _, H1, rfl, I1.kept (t' := s1.toks) fun b o e => Heap.get?_push_of_some _ e, Tp a _ h2 kvs, ⟨_, Heap.get?_push_size _ rfl, rfl, by rw [hl']; rfl⟩, fun b hb => ?_, q⟩
 have e : b = s1.heap.objs.size := by simpa using hb
 subst e
 exact I1.fpOk (Nat.le_refl _) (I1.hok.fresh (Nat.le_refl _))
def kDt : Key → D
 | .inl i => .int i
 | .inr x => .str x
theorem J0 {H : Hp} (k : Key) : Rep G H (kV k) (kDt k) := by
 cases k with
 | inl i => exact .int i
 | inr x => exact .str x
def seqE (f : FE) : FI := fun ρ => match f ρ with | some (.lst ds) => some ds | some (.tup ds) => some ds | some (.dk kds) => some (kds.map fun p => kDt p.1) | _ => none
theorem WL {F1 F2 : Hp} {p : Addr} {o : Obj} {kvs : List (Key × V)} {kds : List (Key × D)} (h : F1 p = some (.frz o (.dK kvs))) (e : kvs.map (·.1) = kds.map (·.1)) : Src G (Itd p o kvs) (kds.map fun p => kDt p.1) F1 F2 := by
 have hl : kvs.length = kds.length := by have := congrArg List.length e; rwa [List.length_map, List.length_map] at this
 refine ⟨fun i H s hi => ⟨s _ _ h, by rw [hl]; rwa [List.length_map] at hi⟩, fun i H x H' d s hd y => ?_, fun i H s hi => ⟨s _ _ h, by rw [hl]; rwa [List.length_map] at hi⟩⟩
 obtain ⟨y1, q, y2, y3⟩ := y
 refine Kd ⟨y1, ?_⟩
 have e1 : (kvs.map (·.1))[i]? = some q.1 := by rw [List.getElem?_map, y2]; rfl
 rw [e, List.getElem?_map] at e1
 rw [List.getElem?_map] at hd
 cases e2 : kds[i]? with
 | none => rw [e2] at hd; cases hd
 | some z =>
  rw [e2] at e1 hd
  cases hd
  injection e1 with e1
  rw [y3, ← e1]
  exact J0 _
theorem WM (hG : G.K = X.K) (h : PF X G a fa) : PFI X G false tg a (seqE fa) := fun A => Lw (piOr (YZ hG h A) (Yj (h A))) fun σ H R ⟨ρ, ds, o, e, k⟩ => by
 unfold seqE at e
 split at e
 ·rename_i ds' e1
  cases e
  exact .inl ⟨ρ, _, o, by unfold seqI; rw [e1], k⟩
 ·rename_i ds' e1
  cases e
  exact .inl ⟨ρ, _, o, by unfold seqI; rw [e1], k⟩
 ·rename_i kds e1
  cases e
  refine .inr ⟨ρ, _, o, e1, fun v H1 s1 r1 => ?_⟩
  cases r1 with
  | dk h l r => exact ⟨_, _, _, rfl, Ai _ _ h, k _ H1 s1 (WL h l)⟩
 ·cases e
end
end PV
namespace PV
open PySem PySem.Spec L2
open PyProof.Rows hiding St
section
variable {prog : Program} {w : World} {A : Around} {E : Value → Shared → Prop}
theorem eF {it l : Addr} {its : Array Value} (ne : l ≠ it) : ∀ (m i : Nat) (s : Shared) (Q : List Value → Shared → Prop), s.heap.IsListIter it l i → s.heap.IsList l its → i + m = its.size →
  (∀ h', h'.IsListIter it l its.size → Heap.SameBut it s.heap h' → Q (its.toList.drop i) { s with heap := h' }) → wpAny (model prog w) A (draw (.ref it) m) Q E s := by
 intro m
 induction m with
 | zero =>
  intro i s Q hi hl hm k
  refine wpAny_pure ?_
  have hz : i = its.size := by omega
  have e : its.toList.drop i = [] := by rw [List.drop_eq_nil_iff]; simp [hz]
  rw [← e]
  exact k s.heap (hz ▸ hi) (Heap.SameBut.refl ..)
 | succ m ih =>
  intro i s Q hi hl hm k
  have lt : i < its.size := by omega
  refine wpAny_bind (m := pyNext (.ref it)) (wpAny_pyNext_list_item hi hl (x := its[i]) (by simp [lt]) fun h1 hi1 sb1 => ?_)
  have hl1 : h1.IsList l its := let ⟨o, e, r⟩ := hl; ⟨o, (sb1.2 l ne).trans e, r⟩
  refine wpAny_bind (wpAny_holding (ih (i + 1) _ _ hi1 hl1 (by omega) fun h2 hi2 sb2 => wpAny_pure ?_))
  have e : its.toList.drop i = its[i] :: its.toList.drop (i + 1) := by simp [List.drop_eq_getElem_cons, lt]
  rw [← e]
  exact k h2 hi2 (sb1.trans sb2)
theorem Yk {l : Addr} {its : Array Value} {s : Shared} {Q : List Value → Shared → Prop} (hh : A.handled = none) (hl : s.heap.IsList l its)
  (k : ∀ h', Heap.ExtBut s.heap.objs.size s.heap h' → Q its.toList { s with heap := h' }) : wpAny (model prog w) A (unpackItems (.ref l) its.size none) Q E s := by
 have ne : l ≠ s.heap.objs.size := by obtain ⟨o, ho, _⟩ := hl; exact Nat.ne_of_lt (Heap.lt_size ho)
 have ty : s.TypeIs (.ref l) "list" := let ⟨o, e, c, _⟩ := hl; ⟨o, e, c⟩
 unfold unpackItems notIterableAtAll
 refine wpAny_bind (wpAny_bind (wpAny_specialOf ty PySem.F.slot_list_iter.lookup (wpAny_pure ?_)))
 simp only [Bool.false_eq_true, if_false]
 refine wpAny_bind (wpAny_holding (wpAny_pyIter_list hl ?_))
 have hl0 : (s.heap.push { cls := .type "list_iterator", data := .fields #[.ref l, .int 0 0] }).IsList l its := let ⟨o, e, r⟩ := hl; ⟨o, Heap.get?_push_of_some _ e, r⟩
 refine wpAny_bind (wpAny_holding (eF ne its.size 0 _ _ ⟨_, Heap.get?_push_size _ rfl, rfl, rfl⟩ hl0 (by omega) fun h1 hi1 sb1 => ?_))
 rw [List.drop_zero, if_neg (by simp)]
 have hl1 : h1.IsList l its := let ⟨o, e, r⟩ := hl0; ⟨o, (sb1.2 l ne).trans e, r⟩
 refine wpAny_bind (wpAny_holding (wpAny_pyNext_list_end hh hi1 hl1 (by simp) fun h2 eb => ?_))
 simp only [Option.isSome_none, Bool.false_eq_true, if_false]
 exact wpAny_pure (k h2 fun b o hb e => eb b o hb ((sb1.2 b hb).trans (Heap.get?_push_of_some _ e)))
end
end PV
namespace PV
open PySem PySem.Spec L2
open PyProof.Rows hiding St
section
variable {X : Cx} {G : Gx} {a b c tg : Expr} {fa fb fc : FE} {pos p2 : Pos} {es : List Expr}
def gLst (K : PySem.W.Frag) (n : Nat) (t : TGs) : TG := fun v σ H Q => ∃ a xs, v = .ref a ∧ SqL K H a xs ∧ xs.length = n ∧ t xs σ H Q
theorem bZ {k : Nat} {t : TGs} {n : Nat} (hc : X.calm = true) (h : PGs X es t)
  (hn : (assignEach es X.env).length = n := by rfl) (hst : (assignEach es X.env).findIdx? (·.1) = none := by rfl) : PG X (.Tuple es k pos) (gLst X.K n t) := by
 intro pins s σ H v u Q I r hw
 obtain ⟨a, xs, rfl, hq, hl, hw⟩ := hw
 cases r
 obtain ⟨its, rv, ht, hz⟩ := I.list hq
 rw [assign_Tuple]
 refine wpAny_bind (wpAny_standAt ?_)
 unfold unpack
 have e : (assignEach es X.env).length = its.toArray.size := by simp [hn, ← hl, rv.length]
 rw [e, hst]
 refine wpAny_bind (wpAny_holding (Yk (I.ok.hd hc) ht.isList fun h' hx => ?_))
 have I1 : Inv X pins σ H { s with heap := h' } := I.kept (t' := s.toks) fun b o e => hx b o (Nat.ne_of_lt (Heap.lt_size e)) e
 exact h pins _ σ H xs _ Q I1 (by simpa using rv) hw
theorem PG.or {t t' : TG} (h : PG X tg t) (h' : PG X tg t') : PG X tg (fun v σ H Q => t v σ H Q ∨ t' v σ H Q) := fun pins s σ H v u Q I r q => by
 rcases q with q | q
 ·exact h pins s σ H v u Q I r q
 ·exact h' pins s σ H v u Q I r q
abbrev FGs := List D → Rho → Option Rho
def nilG : FGs := fun ds ρ => match ds with | [] => some ρ | _ => none
def Bv (i : Nat) (g : FGs) : FGs := fun ds ρ => match ds with | d :: r => g r (ρ.set i (.fz d)) | [] => none
def tupG (n : Nat) (g : FGs) : FG := fun d ρ => match d with
 | .tup ds => if ds.length = n then g ds ρ else none
 | .lst ds => if ds.length = n then g ds ρ else none
 | _ => none
def tGDs (G : Gx) (A0 : List Addr) (He : Hp) (g : FGs) : TGs := fun vs σ H Q => ∃ A ρ ds ρ', OkW G A0 He A σ H ρ ∧ RepL G (hid A H) vs ds ∧ g ds ρ = some ρ' ∧ ∀ σ' H', OkS G A0 He σ' H' ρ' → Q σ' H'
def PGDs (X : Cx) (G : Gx) (es : List Expr) (g : FGs) : Prop := ∀ A0 He, PGs X es (tGDs G A0 He g)
theorem Hv : PGDs X G [] nilG := fun A0 He pins s σ H vs us Q I r ⟨A, ρ, ds, ρ', w, rv, e, k⟩ => by
 unfold nilG at e
 split at e
 ·cases e
  exact Xp pins s σ H vs us Q I r ⟨rv.nil_inv, k _ _ ⟨A, w⟩⟩
 ·cases e
theorem CZ {i : Nat} {e : Expr} {g : FGs} (h1 : PG X e (G_ i)) (h2 : PGDs X G es g)
  (hs : (assignEach (e :: es) X.env).map (·.2) = assign e X.env :: (assignEach es X.env).map (·.2) := by rfl) : PGDs X G (e :: es) (Bv i g) := fun A0 He pins s σ H vs us Q I r ⟨A, ρ, ds, ρ', w, rv, e, k⟩ => by
 unfold Bv at e
 split at e
 ·rename_i d ds'
  obtain ⟨x, ys, rfl, r1, r2⟩ := rv.uncons
  exact UJ h1 (h2 A0 He) hs pins s σ H _ us Q I r ⟨x, ys, rfl, A, _, ds', ρ', w.set r1 i, r2, e, k⟩
 ·cases e
theorem J1 {k n : Nat} {g : FGs} (hG : G.K = X.K) (hc : X.calm = true) (h : PGDs X G es g)
  (hn : (assignEach es X.env).length = n := by rfl) (hst : (assignEach es X.env).findIdx? (·.1) = none := by rfl) : PGD X G (.Tuple es k pos) (tupG n g) := fun A0 He pins s σ H v u Q I r ⟨A, ρ, d, ρ', w, rv, e, k⟩ => by
 refine PG.or (aZ hc (h A0 He) hn hst) (bZ hc (h A0 He) hn hst) pins s σ H v u Q I r ?_
 unfold tupG at e
 split at e
 ·rename_i ds
  split at e
  ·rename_i hl
   cases rv with
   | tup h1 l1 r1 => exact .inl ⟨_, _, rfl, by rw [← hG]; exact Dy Ai h1, by rw [l1]; exact hl, A, ρ, ds, ρ', w, ⟨l1, r1⟩, e, k⟩
  ·cases e
 ·rename_i ds
  split at e
  ·rename_i hl
   cases rv with
   | lst h1 l1 r1 => exact .inr ⟨_, _, rfl, by rw [← hG]; exact Ai.seq h1, by rw [l1]; exact hl, A, ρ, ds, ρ', w, ⟨l1, r1⟩, e, k⟩
  ·cases e
 ·cases e
def asgF (f : FE) (g : FG) : FS := fun ρ => (f ρ).bind fun d => (g d ρ).map .nx
theorem Yl {g : FG} (hg : PGD X G tg g) (ha : PF X G a fa) (hs : swapsWithSole [tg] a pos.line X.env = pure false := by rfl) (hw : swappedStores [tg] a X.env = pure none := by rfl)
  (h1 : (assignEach [tg] X.env).map (·.2) = [assign tg X.env] := by rfl) : PSD X G (.Assign [tg] a pos) (asgF fa g) := fun A0 He pins s σ H D I ⟨ρ, o, ⟨A, w⟩, e, k⟩ => by
 unfold asgF at e
 cases e1 : fa ρ with
 | none => simp [e1] at e
 | some d =>
  cases e2 : g d ρ with
  | none => simp [e1, e2] at e
  | some ρ' =>
   simp [e1, e2] at e
   subst e
   exact aa (ha A) (hg A0 He) hs hw h1 pins s σ H D I ⟨ρ, d, w.ok, e1, fun v H1 s1 r1 => ⟨A, ρ, d, ρ', w.mono s1, r1, e2, fun σ' H' ok => k σ' H' ok⟩⟩
theorem CN : DW X (.builtin "len") (fun xs H Q => ∃ a kvs, xs = [V.ref a] ∧ Rd H a (.dK kvs) ∧ Q (.int kvs.length) H) := by
 intro pins s σ H xs us Q I rs h
 obtain ⟨a, kvs, rfl, e, q⟩ := h
 obtain ⟨u, rfl, ru⟩ := rs.one
 cases ru
 exact dj I e fun t s' I' => ⟨.int kvs.length, H, I', ⟨t, rfl⟩, q⟩
def lenE : D → Option D
 | .dk kds => some (.int kds.length)
 | d => lenD d
theorem Dj : SndC G (fun xs H Q => (∃ x n, xs = [x] ∧ LenV G.K x H n ∧ Q (.int n) H) ∨ ∃ a kvs, xs = [V.ref a] ∧ Rd H a (.dK kvs) ∧ Q (.int kvs.length) H) lenE := by
 intro A H x dx d Q lv rx h k
 unfold lenE at h
 split at h
 ·cases h
  obtain ⟨p, kvs, rfl, h1, h2, r⟩ := rx.dk
  have hl := congrArg List.length h2
  rw [List.length_map, List.length_map] at hl
  refine .inr ⟨p, kvs, rfl, h1, ?_⟩
  rw [hl]
  exact k _ H (Same.refl H) (.int _)
 ·exact .inl (RN A H x dx d Q lv rx h k)
end
end PV
namespace PV
open PySem PySem.Spec L2
open PyProof.Rows hiding St
def Iti (a : Addr) (o : Obj) (kvs : List (Key × V)) : It :=
 ⟨fun i H => H a = some (.frz o (.dK kvs)) ∧ i < kvs.length, fun i H x H' => ∃ T p, H T = none ∧ kvs[i]? = some p ∧ x = .ref T ∧ H' = upd H T (.tup [kV p.1, p.2]), fun i H => H a = some (.frz o (.dK kvs)) ∧ kvs.length ≤ i⟩
theorem QT {P : Program} {w : World} {K : PySem.W.Frag} {elts : List Expr} {x1 : Nat} {tp : Pos} (a it : Addr) {o : Obj} {es : Array DictEntry} {ep : Nat} (hd : o.data = .dict es ep) (kvs : List (Key × V)) :
  Turn P w K (.Tuple elts x1 tp) (Iti a o kvs) [it] it (fun i h => ∃ ok ov, IsItemIter h it a i kvs.length ep ok ov) where
 mem := by simp
 obj := fun i h st b hb => by
  have e : b = it := by simpa using hb
  subst e
  obtain ⟨ok, ov, e⟩ := st
  exact ⟨_, e, fun v z => by
   have z' : Data.fields _ = Data.cell v := z
   cases z'⟩
 keep := fun i h h' st k => let ⟨ok, ov, e⟩ := st; ⟨ok, ov, k it (by simp) _ e⟩
 item := by
  intro X hP hw hK hc i pins s σ H E I hf st hg
  subst hP hw hK
  obtain ⟨he, hi⟩ := hg
  obtain ⟨ok, ov, st⟩ := st
  obtain ⟨hm, vs, rel, dd⟩ := JL I he hd
  have hl : kvs.length = vs.length := rel.length
  obtain ⟨f0, f1, f2, f3, f4, f5⟩ := hf it (by simp)
  have hv : vs[i]? = some (vs[i]'(by omega)) := by simp [show i < vs.length by omega]
  have hk : kvs[i]? = some (kvs[i]'hi) := by simp [hi]
  obtain ⟨hkk, hvv⟩ := G4 rel hk hv
  have hlt : it < s.heap.objs.size := Heap.lt_size st
  refine wpAny_pyNext_items_item (knd := Av X.prog X.w) (kvs := vs) (k := (vs[i]'(by omega)).1) (v := (vs[i]'(by omega)).2) (by rw [← hl]; exact st) dd hv fun key h1 hkey out ht hz kk => ?_
  refine ⟨_, rfl, wpAny_letOwnedTupleGo_items (s := { s with heap := h1 }) out fun h2 st2 sb => ?_⟩
  have hT : H s.heap.objs.size = none := I.hok.fresh (Nat.le_refl _)
  have rk : RelV (kV (kvs[i]'hi).1) key := by rw [hkk]; exact relK hkey
  have I1 : Inv X pins σ (upd H s.heap.objs.size (.tup [kV (kvs[i]'hi).1, (kvs[i]'hi).2])) { s with heap := s.heap.push { cls := .type "tuple", data := .seq #[key, (vs[i]'(by omega)).2] } } :=
   I.laid (a := s.heap.objs.size) (t' := s.toks) (fun b u e => Heap.get?_push_of_some _ e) (Nat.le_refl _) ⟨by show 2 ≤ sizeLine; decide, [key, (vs[i]'(by omega)).2], .cons rk (.cons hvv .nil), _, Heap.get?_push_size _ rfl, rfl, _, rfl⟩
  have kp : ∀ b u, b ≠ it → (s.heap.push { cls := .type "tuple", data := .seq #[key, (vs[i]'(by omega)).2] }).get? b = some u → h2.get? b = some u := fun b u hb e => by
   refine (sb.2 b hb).trans ?_
   rcases Heap.get?_push_cases e with ⟨rfl, rfl⟩ | e'
   ·exact ht
   ·exact kk b u hb e'
  have I2 := L2.Inv.turned (t' := s.toks) (it := it) (h' := h2) I1 kp (by rw [Af (Nat.ne_of_lt hlt)]; exact f0) f1 f3 f4 f5
  refine ⟨.ref s.heap.objs.size, _, I2, rfl, ⟨_, _, hT, hk, rfl, rfl⟩, ⟨key, (vs[i]'(by omega)).2, by rw [hl]; exact st2⟩, fun b hb => ?_⟩
  have e : b = it := by simpa using hb
  subst e
  rw [Af (Nat.ne_of_lt hlt)]
  exact f0
 done := by
  intro X hP hw hK hc i pins s σ H E I hf st hg
  subst hP hw hK
  obtain ⟨he, hi⟩ := hg
  obtain ⟨ok, ov, st⟩ := st
  obtain ⟨hm, vs, rel, dd⟩ := JL I he hd
  have hl : kvs.length = vs.length := rel.length
  obtain ⟨f0, f1, f2, f3, f4, f5⟩ := hf it (by simp)
  exact wpAny_pyNext_items_end (I.ok.hd hc) (by rw [← hl]; exact st) dd (by rw [List.getElem?_eq_none]; omega) fun h' eb => ⟨rfl, I.turned (t' := s.toks) (fun b o hb e => eb b o hb e) f0 f1 f3 f4 f5⟩
 self := fun _ _ _ _ _ ⟨ok, ov, st⟩ h => PySem.W.kcp_self st h
section
variable {X : Cx} {G : Gx} {a b c tg : Expr} {fa fb fc : FE} {pos p2 : Pos} {tl : TE}
def bc (tl : TE) : TI := fun σ H R => tl σ H fun x H1 => ∃ a o kvs, x = .ref a ∧ H1 a = some (.frz o (.dK kvs)) ∧ R (Iti a o kvs) H1
theorem WN {l : Expr} {elts : List Expr} {x1 : Nat} {tp apos cpos : Pos} (hl : PE X l tl) (hbase : attributeBase l "items" X.env (eval l X.env) = eval l X.env := by rfl) (hline : (apos.endLine == cpos.line) = true := by rfl) :
  PI X (.Tuple elts x1 tp) (.Call (.Attribute l "items" apos) [] [] cpos) (bc tl) := by
 intro pins s σ H R I h
 refine wpAny_Call_method (T := "dict") (id := "dict.items") hbase rfl hline F.plainAttrs_dict F.slot_dict_items F.type_dict_items (thn (hl pins s σ H _ I h) fun v s1 ⟨x, H1, I1, r1, q1⟩ => ?_)
 obtain ⟨a, o, kvs, e, hq, q⟩ := q1
 subst e
 cases r1
 obtain ⟨_, _, _, _, _, o', es, ep, ho', h1, h2, _⟩ := (show BK X.prog X.w H1 s1.heap a (.frz o (.dK kvs)) from I1.hok a _ hq)
 obtain ⟨ho, _⟩ := (show BK X.prog X.w H1 s1.heap a (.frz o (.dK kvs)) from I1.hok a _ hq)
 rw [ho] at ho'
 cases ho'
 obtain ⟨hm, vs, rel, dd⟩ := JL I1 hq h2
 have hl' : kvs.length = vs.length := rel.length
 have hm1 := dd.dictOf
 refine ⟨hm1.typeIs, hm1.mapOf.noDict, ?_⟩
 show wpAny _ _ (callWith cpos (.builtin "dict.items") [.ref a] [] []) _ _ s1
 refine method_meetsIn F.slot_dict_items F.entry_dict_items rfl (PySem.evalArgs_none ⟨rfl, hm1.typeIs, F.args_dict_items_1 _, _, meets_dict_items (Av X.prog X.w) a hm, ⟨vs, hm1⟩, ?_⟩)
 have I2 : Inv X pins σ H1 { s1 with heap := s1.heap.push { cls := .type "dict_items", data := .fields #[.ref a] } } := I1.kept (t' := s1.toks) fun b o e => Heap.get?_push_of_some _ e
 refine wpAny_pyIter_items (knd := Av X.prog X.w) (kvs := vs) (s := { s1 with heap := s1.heap.push { cls := .type "dict_items", data := .fields #[.ref a] } }) ⟨_, Heap.get?_push_size _ rfl, rfl, rfl⟩ (dd.push _) ?_
 refine ⟨(s1.heap.push { cls := .type "dict_items", data := .fields #[.ref a] }).objs.size, [(s1.heap.push { cls := .type "dict_items", data := .fields #[.ref a] }).objs.size], _, _, H1, rfl, I2.kept (t' := s1.toks) fun b o e => Heap.get?_push_of_some _ e, QT a _ h2 kvs, ⟨.none, .none, ?_⟩, fun b hb => ?_, q⟩
 ·rw [hl']
  exact Heap.get?_push_size _ rfl
 ·have e : b = (s1.heap.push { cls := .type "dict_items", data := .fields #[.ref a] }).objs.size := by simpa using hb
  subst e
  exact I2.fpOk (Nat.le_refl _) (I2.hok.fresh (Nat.le_refl _))
def HR (f : FE) : FI := fun ρ => match f ρ with | some (.dk kds) => some (kds.map fun p => .tup [kDt p.1, p.2]) | _ => none
theorem WP {α β : Type} {f : α → β} {l : List α} {i : Nat} {y : β} (h : (l.map f)[i]? = some y) : ∃ x, l[i]? = some x ∧ f x = y := by
 rw [List.getElem?_map] at h
 exact Option.map_eq_some_iff.mp h
theorem Tq {F1 F2 : Hp} {p : Addr} {o : Obj} {kvs : List (Key × V)} {kds : List (Key × D)} (h : F1 p = some (.frz o (.dK kvs))) (e : kvs.map (·.1) = kds.map (·.1)) (r : RepL G F2 (kvs.map (·.2)) (kds.map (·.2))) :
  Src G (Iti p o kvs) (kds.map fun p => .tup [kDt p.1, p.2]) F1 F2 := by
 have hl : kvs.length = kds.length := by have := congrArg List.length e; rwa [List.length_map, List.length_map] at this
 refine ⟨fun i H s hi => ⟨s _ _ h, by rw [hl]; rwa [List.length_map] at hi⟩, fun i H x H' d s hd y => ?_, fun i H s hi => ⟨s _ _ h, by rw [hl]; rwa [List.length_map] at hi⟩⟩
 obtain ⟨T, q, hT, y2, rfl, rfl⟩ := y
 obtain ⟨z, hz, rfl⟩ := WP hd
 have e1 : (kvs.map (·.1))[i]? = some q.1 := by rw [List.getElem?_map, y2]; rfl
 rw [e, List.getElem?_map, hz] at e1
 injection e1 with e1
 have rz : Rep G F2 q.2 z.2 := r.2 i q.2 z.2 (by rw [List.getElem?_map, y2]; rfl) (by rw [List.getElem?_map, hz]; rfl)
 refine ⟨Am hT _, fun B lv sm => ?_⟩
 have rr : RepL G (hid B H) [kV q.1, q.2] [kDt z.1, z.2] := .cons (by rw [← e1]; exact J0 _) (.cons (rz.mono sm) .nil)
 exact GX lv hT rr
theorem Lz {top : Bool} {elts : List Expr} {x1 : Nat} {tp apos cpos : Pos} (h : PF X G a fa) (hbase : attributeBase a "items" X.env (eval a X.env) = eval a X.env := by rfl) (hline : (apos.endLine == cpos.line) = true := by rfl) :
  PFI X G false (.Tuple elts x1 tp) (.Call (.Attribute a "items" apos) [] [] cpos) (HR fa) := fun A => Lw (WN (h A) hbase hline) fun σ H R ⟨ρ, ds, o, e, k⟩ => by
 unfold HR at e
 split at e
 ·rename_i kds e1
  cases e
  refine ⟨ρ, _, o, e1, fun v H1 s1 r1 => ?_⟩
  cases r1 with
  | dk h l r => exact ⟨_, _, _, rfl, Ai _ _ h, k _ H1 s1 (Tq h l ⟨by have := congrArg List.length l; rwa [List.length_map, List.length_map] at this ⊢, r⟩)⟩
 ·cases e
end
end PV
namespace PV
open PySem PySem.Spec L2
open PyProof.Rows hiding St
section
variable {X : Cx} {G : Gx} {a b c tg : Expr} {fa fb fc : FE} {pos p2 : Pos} {es : List Expr} {fs : FA}
theorem M_ {P : Program} {w : World} : ∀ {kvs : List (Key × V)} {us : List Value}, us.length = kvs.length → (∀ (j : Nat) u, us[j]? = some u → ∃ p, kvs[j]? = some p ∧ (Av P w).is p.1 u = true) → Vals (kvs.map fun p => kV p.1) us
 | [], us, hl, _ => by
  have : us = [] := List.eq_nil_of_length_eq_zero hl
  subst this
  exact .nil
 | p :: kvs, [], hl, _ => by simp at hl
 | p :: kvs, u :: us, hl, h => by
  obtain ⟨q, h1, h2⟩ := h 0 u rfl
  simp at h1
  subst h1
  exact .cons (relK h2) (M_ (P := P) (w := w) (by simpa using hl) fun j v hv => by simpa using h (j + 1) v (by simpa using hv))
theorem Hw (hc : X.calm = true) : DW X (.type "list") (fun xs H Q => ∃ p kvs, xs = [.ref p] ∧ Rd H p (.dK kvs) ∧ ∀ l, H l = none → Q (.ref l) (upd H l (.lst (kvs.map fun q => kV q.1)))) := by
 intro pins s σ H xs us Q I r h
 obtain ⟨p, kvs, rfl, e, q⟩ := h
 obtain ⟨u, rfl, ru⟩ := r.one
 cases ru
 obtain ⟨z, hd, vs, rel, dd⟩ := Jc I.hok e
 obtain ⟨ep, dd⟩ := dd.dictAt
 have hl : kvs.length = vs.length := rel.length
 refine PySem.W.kdl_call (PySem.W.kdl_dict (knd := Av X.prog X.w) (kvs := vs) (ep := ep) hd) (I.ok.hd hc) dd (by omega) fun h' tk acc c' kp hn hi => ?_
 have va : Vals (kvs.map fun q => kV q.1) acc.toList := by
  refine M_ (P := X.prog) (w := X.w) (by simp [hi.1, hl]) fun j u hu => ?_
  obtain ⟨k, x, h1, h2⟩ := hi.2 j u (by simpa using hu)
  have hj : j < kvs.length := by rw [hl]; exact (List.getElem?_eq_some_iff.mp h1).1
  refine ⟨kvs[j], by simp [hj], ?_⟩
  rw [(G4 rel (by simp [hj]) h1).1]
  exact h2
 exact ⟨.ref s.heap.objs.size, _, I.laid (t' := tk) kp (Nat.le_refl _) (show BK X.prog X.w _ h' _ (.lst (kvs.map fun q => kV q.1)) from ⟨by rw [List.length_map]; exact z, acc.toList, c', va, by simpa using hn⟩), rfl, q _ (I.hok.fresh (Nat.le_refl _))⟩
def listE : D → Option D
 | .dk kds => some (.lst (kds.map fun p => kDt p.1))
 | d => Uy d
theorem WQ {H : Hp} : ∀ {kvs : List (Key × V)} {kds : List (Key × D)}, kvs.map (·.1) = kds.map (·.1) → RepL G H (kvs.map fun q => kV q.1) (kds.map fun p => kDt p.1)
 | [], [], _ => RepL.nil
 | [], _ :: _, h => by simp at h
 | _ :: _, [], h => by simp at h
 | p :: kvs, q :: kds, h => by
  rw [List.map_cons, List.map_cons] at h
  injection h with h1 h2
  exact .cons (by show Rep G H (kV p.1) (kDt q.1); rw [h1]; exact J0 _) (WQ h2)
theorem Tr : SndC G (fun xs H Q => (∃ p ys, xs = [.ref p] ∧ (SqL G.K H p ys ∨ SqT G.K H p ys) ∧ ∀ l, H l = none → Q (.ref l) (upd H l (.lst ys))) ∨ ∃ p kvs, xs = [.ref p] ∧ Rd H p (.dK kvs) ∧ ∀ l, H l = none → Q (.ref l) (upd H l (.lst (kvs.map fun q => kV q.1)))) listE := by
 intro A H x dx d Q lv rx h k
 unfold listE at h
 split at h
 ·cases h
  obtain ⟨p, kvs, rfl, h1, h2, r⟩ := rx.dk
  exact .inr ⟨p, kvs, rfl, h1, fun l hl => k _ _ (Am hl _) (Bt lv hl (WQ h2))⟩
 ·exact .inl (V6 A H x dx d Q lv rx h k)
def Hx (x : D) (ds : List D) (v : D) : Option D := match x with
 | .dt kds => (Gb ds).bind fun k => if kds.length < sizeLine ∧ ds.length ≤ sizeLine then some (.dt (putL k v kds)) else none
 | _ => none
def Oz (i : Nat) (fk : FA) (fv : FE) : FS := fun ρ => (fv ρ).bind fun v => (fk ρ).bind fun y => (ownO ρ i).bind fun x => (Hx x y v).map fun z => .nx (ρ.set i (.ow z))
theorem QV {i : Nat} {ρ : Rho} {o : Out} (h : Oz i fs fb ρ = some o) : ∃ v y x z, fb ρ = some v ∧ fs ρ = some y ∧ ρ[i]? = some (.ow x) ∧ Hx x y v = some z ∧ o = .nx (ρ.set i (.ow z)) := by
 unfold Oz at h
 cases e1 : fb ρ with
 | none => simp [e1] at h
 | some v =>
  cases e2 : fs ρ with
  | none => simp [e1, e2] at h
  | some y =>
   cases e3 : ownO ρ i with
   | none => simp [e1, e2, e3] at h
   | some x =>
    cases e4 : Hx x y v with
    | none => simp [e1, e2, e3, e4] at h
    | some z =>
     simp [e1, e2, e3, e4] at h
     exact ⟨v, y, x, z, rfl, rfl, JH e3, e4, h.symm⟩
theorem WR {i : Nat} {x : Str} {xpos spos tp : Pos} {x1 : Nat} (hu : X.A.units + 1 < cLine) (hv : PE X (.Name x xpos) (tVar i)) (ha : PFA X G es fs) (hb : PF X G b fb)
  (hs : swapsWith b (some (.Subscript (.Name x xpos) (.Tuple es x1 tp) spos)) pos.line X.env = pure false := by rfl) : PSD X G (.Assign [.Subscript (.Name x xpos) (.Tuple es x1 tp) spos] b pos) (Oz i fs fb) := fun A0 He pins s σ H D I ⟨ρ, o, ⟨A, w⟩, e, k⟩ => by
 obtain ⟨v, y, x0, z, e1, e2, hi, e3, rfl⟩ := QV e
 refine Mt hu hv (Mp (ha A)) (hb A) hs pins s σ H D I ?_
 unfold Hx at e3
 split at e3
 ·rename_i kds
  cases e4 : Gb y with
  | none => simp [e4] at e3
  | some q =>
   simp only [e4, Option.bind_some] at e3
   split at e3
   ·rename_i hz
    cases e3
    obtain ⟨p, h1, hA, kvs, h2, hk, r⟩ := w.ok.ow i _ hi
    refine ⟨ρ, v, w.ok, e1, fun u H1 s1 r1 => ⟨_, h1, ρ, y, (w.mono s1).ok, e2, fun vs H2 s2 r2 => ⟨by rw [r2.1]; exact hz.2, fun T hT => ?_⟩⟩⟩
    have ek := JK r2 e4
    subst ek
    have hl : kvs.length < sizeLine := by
     have := congrArg List.length hk
     rw [List.length_map, List.length_map] at this
     omega
    have s3 : Same H2 (upd H2 T (.tup (q.map kV))) := Am hT _
    refine ⟨p, _, rfl, DPut.t (s3 _ _ (s2 _ _ (s1 _ _ h2))) Ah hl, ?_⟩
    have w2 := ((w.mono s1).mono s2).mono s3
    have pk := M8 (k := q) (r1.mono (Aq (s2.trans s3))) hk (r.mono (Aq (s1.trans (s2.trans s3))))
    refine k _ _ ⟨A, w2.wr hi h1 ⟨_, Ah, pk.1, ?_⟩⟩
    rw [DY hA]
    exact pk.2
   ·cases e3
 ·cases e3
end
end PV
namespace PV
open PySem PySem.Spec L2
open PyProof.Rows hiding St
section
variable {X : Cx} {G : Gx} {a b c tg : Expr} {fa fb fc : FE} {pos p2 : Pos} {es : List Expr} {fs : FA} {src : FI}
theorem PFI.top (h : PFI X G false tg a src) : PFI X G true tg a src := fun A => Lw (h A) fun σ H R ⟨ρ, ds, o, e, k⟩ =>
 ⟨ρ, ds, o, e, fun J H1 s1 sr => k J H1 s1 ⟨fun i H s hi => sr.go i H (Ai.trans s) hi, fun i H x H' d s hd y => sr.yld i H x H' d (Ai.trans s) hd y, fun i H s hi => sr.stop i H (Ai.trans s) hi⟩⟩
theorem RepT.ob {A : List Addr} {H : Hp} {v : V} {c : Str} {gs : List (Str × D)} (r : RepT G A H v (.ob c gs)) : ∃ a C dx fs, v = .ref a ∧ G.cl c = some C ∧ H a = some (.ins C dx fs) ∧ fs.map (·.1) = gs.map (·.1) ∧ RepL G (hid A H) (fs.map (·.2)) (gs.map (·.2)) := by
 rcases r with r | ⟨a, e, C, dx, fs, h, k, r⟩
 ·cases r with
  | ob hc h l r =>
   have hl := congrArg List.length l
   rw [List.length_map, List.length_map] at hl
   exact ⟨_, _, _, _, rfl, hc, Ai _ _ h, l, by rw [List.length_map, List.length_map]; exact hl, r⟩
 ·exact ⟨a, C, dx, fs, e, k.1, h, k.2, r⟩
def fldD (f : Str) : D → Option D
 | .ob _ gs => gs.lookup f
 | _ => none
theorem L_ {H : Hp} {f : Str} {d : D} : ∀ {gs : List (Str × D)} {fs : List (Str × V)}, fs.map (·.1) = gs.map (·.1) → RepL G H (fs.map (·.2)) (gs.map (·.2)) → gs.lookup f = some d → ∃ v, fs.lookup f = some v ∧ Rep G H v d
 | [], fs, e, r, h => by simp at h
 | p :: gs, [], e, r, h => by simp at e
 | p :: gs, q :: fs, e, r, h => by
  rw [List.map_cons, List.map_cons] at e r
  injection e with e1 e2
  obtain ⟨x, ys, e3, r1, r2⟩ := r.uncons
  injection e3 with e4 e5
  subst e4 e5
  obtain ⟨p1, p2⟩ := p
  obtain ⟨q1, q2⟩ := q
  simp only at e1 r1
  subst e1
  by_cases hf : f = q1
  ·subst hf
   simp only [List.lookup_cons, beq_self_eq_true, Option.some.injEq] at h ⊢
   subst h
   exact ⟨q2, rfl, r1⟩
  ·have hb : (f == q1) = false := beq_eq_false_iff_ne.mpr hf
   simp only [List.lookup_cons, hb] at h ⊢
   exact L_ e2 r2 h
theorem Fw {f : Str} (hcl : ∀ c C, G.cl c = some C → Cls X.K C ∧ BJ X.K C f) (he : PU X G a fa) (hb : attributeBase a f X.env (eval a X.env) = eval a X.env := by rfl) : PF X G (.Attribute a f pos) (uF (fldD f) fa) :=
 fun A => Bu (QC (he A) hb) fun σ H Q ⟨ρ, d, o, e, k⟩ => by
  obtain ⟨x0, e1, e2⟩ := RM e
  unfold fldD at e2
  split at e2
  ·rename_i cn gs
   refine ⟨ρ, _, o, e1, fun v H1 s1 r1 => ?_⟩
   obtain ⟨p, C, dx, fs, rfl, hc, h, l, r⟩ := r1.ob
   obtain ⟨v, h1, h2⟩ := L_ (f := f) (d := d) l r e2
   exact ⟨_, _, _, _, v, rfl, h, (hcl _ _ hc).1, (hcl _ _ hc).2, h1, k v H1 s1 h2⟩
  ·cases e2
end
end PV
namespace PV
open PySem PySem.Spec L2
open PyProof.Rows hiding St
def Its (x : Str) : It := ⟨fun i _ => i < x.cps.size, fun i H y H' => H' = H ∧ ∃ c, x.cps[i]? = some c ∧ y = .str ⟨#[c]⟩, fun i _ => x.cps.size ≤ i⟩
theorem O1 {P : Program} {w : World} {K : PySem.W.Frag} {tg : Expr} (it : Addr) (x : Str) (t : Tok) (ty : String) (W : ∀ A : Around, A.handled = none → Walks P w A it [it] [it] x.cps.size (SignAt x) (fun i h => h.IsStrIter it ty x t i))
  (hn : ["enumerate", "zip", "dict_itemiterator", "dict_reverseitemiterator", "odict_iterator", "itertools.zip_longest", "itertools.pairwise"].contains ty = false)
  (fin : ∀ (A : Around), A.handled = none → ∀ (i : Nat) (s : Shared) (Q : Option Value → Shared → Prop) (E : Value → Shared → Prop), s.heap.IsStrIter it ty x t i → x.cps[i]? = none → (∀ h', Heap.ExtBut it s.heap h' → Q none { s with heap := h' }) → wpAny (model P w) A (pyNext (.ref it)) Q E s)
  (self : ∀ (A : Around) (i : Nat) (s : Shared) (Q : Value → Shared → Prop) (E : Value → Shared → Prop), s.heap.IsStrIter it ty x t i → Q (.ref it) s → wpAny (model P w) A (pyIter (.ref it)) Q E s) :
  Turn P w K tg (Its x) [it] it (fun i h => h.IsStrIter it ty x t i) where
 mem := by simp
 obj := fun i h st b hb => by
  have e : b = it := by simpa using hb
  subst e
  obtain ⟨o, e, c, d⟩ := st
  exact ⟨o, e, fun v z => by rw [d] at z; cases z⟩
 keep := fun i h h' st k => let ⟨o, e, c, d⟩ := st; ⟨o, k it (by simp) o e, c, d⟩
 item := by
  intro X hP hw hK hc i pins s σ H E I hf st hg
  subst hP hw hK
  obtain ⟨f0, f1, f2, f3, f4, f5⟩ := hf it (by simp)
  refine (W X.A (I.ok.hd hc)).item i s _ _ hg st fun v h' tk hv st' kk => ?_
  obtain ⟨c, u, e1, rfl⟩ := hv
  have I1 : Inv X pins σ H { s with heap := h', toks := tk } := I.turned (fun b o hb e => kk b o (by simpa using hb) e) f0 f1 f3 f4 f5
  obtain ⟨o1, e2, c1, d1⟩ := id st'
  exact ⟨_, rfl, N_ (s := { s with heap := h', toks := tk }) e2 c1 d1 hn ⟨.str ⟨#[c]⟩, H, I1, ⟨u, rfl⟩, ⟨rfl, c, e1, rfl⟩, st', fun b hb => (hf b hb).1⟩⟩
 done := by
  intro X hP hw hK hc i pins s σ H E I hf st hg
  subst hP hw hK
  obtain ⟨f0, f1, f2, f3, f4, f5⟩ := hf it (by simp)
  exact fin X.A (I.ok.hd hc) i s _ _ st (by rw [Array.getElem?_eq_none_iff]; exact hg) fun h' eb => ⟨rfl, I.turned (t' := s.toks) (fun b o hb e => eb b o hb e) f0 f1 f3 f4 f5⟩
 self := fun A i s Q E st h => self A i s Q E st h
section
variable {X : Cx} {G : Gx} {a b c tg : Expr} {fa fb fc : FE} {pos p2 : Pos} {tl : TE}
def iStr (tl : TE) : TI := fun σ H R => tl σ H fun x H1 => ∃ y, x = .str y ∧ R (Its y) H1
theorem bf {l : Expr} (hl : PE X l tl) : PI X tg l (iStr tl) := by
 intro pins s σ H R I h
 refine thn (hl pins s σ H _ I h) fun v s1 ⟨x, H1, I1, r1, q1⟩ => ?_
 obtain ⟨y, e, q⟩ := q1
 subst e
 obtain ⟨t, e⟩ := (show ∃ t, v = Value.str y t from r1)
 subst e
 have fp : ∀ b ∈ [s1.heap.objs.size], FpOk X pins H1 b := fun b hb => by
  have e : b = s1.heap.objs.size := by simpa using hb
  subst e
  exact I1.fpOk (Nat.le_refl _) (I1.hok.fresh (Nat.le_refl _))
 cases ha : y.cps.all (· < 128)
 ·exact wpAny_pyIter_wide ha ⟨s1.heap.objs.size, [s1.heap.objs.size], _, _, H1, rfl, I1.kept (t' := s1.toks) fun b o e => Heap.get?_push_of_some _ e,
   O1 _ y t "str_iterator" (fun A hA => Walks.strWide hA _ y t) (by decide) (fun _ hh _ _ _ _ st hx k => wpAny_pyNext_wide_end hh st hx k) (fun _ _ _ _ _ st h => wpAny_pyIter_striter_wide st h), ⟨_, Heap.get?_push_size _ rfl, rfl, rfl⟩, fp, q⟩
 ·exact wpAny_pyIter_ascii ha ⟨s1.heap.objs.size, [s1.heap.objs.size], _, _, H1, rfl, I1.kept (t' := s1.toks) fun b o e => Heap.get?_push_of_some _ e,
   O1 _ y t "str_ascii_iterator" (fun A hA => Walks.strAscii hA _ y t) (by decide) (fun _ hh _ _ _ _ st hx k => wpAny_pyNext_ascii_end hh st hx k) (fun _ _ _ _ _ st h => wpAny_pyIter_striter_ascii st h), ⟨_, Heap.get?_push_size _ rfl, rfl, rfl⟩, fp, q⟩
def O2 (x : Str) : List D := x.cps.toList.map fun c => .str ⟨#[c]⟩
theorem Ym {F1 F2 : Hp} {x : Str} : Src G (Its x) (O2 x) F1 F2 := by
 have hl : (O2 x).length = x.cps.size := by unfold O2; simp
 refine ⟨fun i H s hi => by rw [hl] at hi; exact hi, fun i H y H' d s hd q => ?_, fun i H s hi => by rw [hl] at hi; exact hi⟩
 obtain ⟨q1, c, q2, q3⟩ := q
 refine Kd ⟨q1, ?_⟩
 obtain ⟨z, hz, rfl⟩ := WP hd
 have e : x.cps[i]? = some z := by simpa using hz
 rw [e] at q2
 cases q2
 rw [q3]
 exact .str _
def seqA (f : FE) : FI := fun ρ => match f ρ with | some (.str x) => some (O2 x) | _ => seqE f ρ
theorem Gd (hG : G.K = X.K) (h : PF X G a fa) : PFI X G false tg a (seqA fa) := fun A => Lw (piOr (WM hG h A) (bf (h A))) fun σ H R ⟨ρ, ds, o, e, k⟩ => by
 unfold seqA at e
 split at e
 ·rename_i x e1
  cases e
  refine .inr ⟨ρ, _, o, e1, fun v H1 s1 r1 => ?_⟩
  cases r1
  exact ⟨_, rfl, k _ H1 s1 Ym⟩
 ·exact .inl ⟨ρ, _, o, e, k⟩
def blsD : List D → Option (List Bool)
 | [] => some []
 | .bl i :: r => (blsD r).map (i :: ·)
 | _ :: _ => none
theorem RW {H : Hp} : ∀ {ds : List D} {xs : List V} {bs : List Bool}, RepL G H xs ds → blsD ds = some bs → xs = bs.map V.bl
 | [], xs, bs, r, h => by cases h; exact r.nil_inv
 | d :: ds, xs, bs, r, h => by
  obtain ⟨x, ys, rfl, r1, r2⟩ := r.uncons
  cases d with
  | bl i =>
   cases e : blsD ds with
   | none => simp [blsD, e] at h
   | some bs' =>
    simp [blsD, e] at h
    subst h
    cases r1
    rw [RW r2 e]
    rfl
  | _ => simp [blsD] at h
theorem Tt (hc : X.calm = true) : DW X (.builtin "all") (fun xs H Q => ∃ (p : Addr) (bs : List Bool), xs = [.ref p] ∧ SqL X.K H p (bs.map V.bl) ∧ Q (.bl (bs.all id)) H) := by
 intro pins s σ H xs us Q I r h
 obtain ⟨p, bs, rfl, hs, k⟩ := h
 obtain ⟨u, rfl, ru⟩ := r.one
 cases ru
 obtain ⟨its, rv, pl, hz⟩ := I.list hs
 have hl := pl.isList
 have hlt : p ≠ s.heap.objs.size := by obtain ⟨o, ho, _⟩ := hl; exact Nat.ne_of_lt (Heap.lt_size ho)
 have hlen : bs.length = its.length := by have := rv.length; rwa [List.length_map] at this
 refine call_all_walk (wpAny_pyIter_list hl ?_)
 refine ⟨_, _, _, _, _, _, fun i => bs.getD i true, rfl, Walks.list (A := X.A.in1) (I.ok.hd hc) s.heap.objs.size p hlt its.toArray, ⟨⟨_, Heap.get?_push_size _ rfl, rfl, rfl⟩, hl.push _⟩, ?_, fun h' tk kk => ?_⟩
 ·intro i v s' Q' E' hv hq
  have hi : its[i]? = some v := by simpa using hv
  have hlt' : i < bs.length := by rw [hlen]; exact (List.getElem?_eq_some_iff.mp hi).1
  obtain ⟨u', hu, ru⟩ := rv.get (i := i) (x := .bl (bs[i]'hlt')) (by rw [List.getElem?_map]; simp [hlt'])
  rw [hi] at hu
  cases hu
  cases (show v = Value.bool (bs[i]'hlt') from ru)
  have e : bs.getD i true = bs[i]'hlt' := by simp [List.getD, hlt']
  have hq' : Q' (bs.getD i true) s' := hq
  rw [e] at hq'
  exact wpAny_truthy_bool hq'
 ·refine ⟨.bl (bs.all id), H, I.kept (fun b o e => kk b o ?_ (Heap.get?_push_of_some _ e)), ?_, k⟩
  ·intro hb
   have : b = s.heap.objs.size := by simpa using hb
   exact absurd (Heap.lt_size e) (by rw [this]; exact Nat.lt_irrefl _)
  ·show Value.bool _ = Value.bool _
   congr 1
   rw [List.size_toArray, ← hlen]
   rw [Bool.eq_iff_iff, List.all_eq_true, List.all_eq_true]
   constructor
   ·intro q b hb
    obtain ⟨i, hi, rfl⟩ := List.getElem_of_mem hb
    have := q i (List.mem_range.mpr hi)
    simpa [List.getD, hi] using this
   ·intro q i hi
    have hi' := List.mem_range.mp hi
    have := q (bs[i]'hi') (List.getElem_mem hi')
    simpa [List.getD, hi'] using this
def allD : D → Option D
 | .lst ds => (blsD ds).map fun bs => .bl (bs.all id)
 | _ => none
theorem Yn : SndC G (fun xs H Q => ∃ (p : Addr) (bs : List Bool), xs = [.ref p] ∧ SqL G.K H p (bs.map V.bl) ∧ Q (.bl (bs.all id)) H) allD := by
 intro A H x dx d Q lv rx h k
 unfold allD at h
 split at h
 ·rename_i ds
  cases e : blsD ds with
  | none => simp [e] at h
  | some bs =>
   rw [e] at h
   cases h
   obtain ⟨p, xs, rfl, h1, r⟩ := rx.lst
   have e2 := RW r e
   subst e2
   exact ⟨p, bs, rfl, h1, k _ H (Same.refl H) (.bl _)⟩
 ·cases h
theorem bh : bootBuiltins "all" = some (.builtin "all") := by decide +kernel
end
end PV
namespace PV
open PySem PySem.Spec L2
open PyProof.Rows hiding St
section
variable {X : Cx} {G : Gx} {a b c tg : Expr} {fa fb fc : FE} {pos p2 : Pos}
end
end PV
namespace PV
open PySem PySem.Spec L2
open PyProof.Rows hiding St
section
variable {X : Cx} {G : Gx} {a b c tg : Expr} {fa fb fc : FE} {pos p2 : Pos}
def eqTo (x d : D) : Bool := match eqK 62 d x with | some b => b | none => false
def knows (x d : D) : Bool := (eqK 62 d x).isSome
def rInP (G : Gx) (neg : Bool) : R2 := fun x y H Q => ∃ (A : List Addr) (as ds : List D), RepT G A H x (.tup as) ∧ RepT G A H y (.lst ds) ∧ ds.all (knows (.tup as)) = true ∧ Q (.bl (if neg then !ds.any (eqTo (.tup as)) else ds.any (eqTo (.tup as)))) H
open Classical in
theorem RX (hG : G.K = X.K) (hu : X.A.units + 64 < cLine) {pins : List (Addr × Obj)} {s : Shared} {σ : St} {H : Hp} {A : List Addr} {x : V} {u : Value} {as ds : List D} {xs : List V} {its : List Value} (I : Inv X pins σ H s) (rx : RepT G A H x (.tup as)) (ru : RelV x u)
  (r : RepL G (hid A H) xs ds) (v : Vals xs its) (hk : ds.all (knows (.tup as)) = true) :
  ∃ e : Value → Bool, (∀ y, y ∈ its.toArray → SeqAt.EqAt X.A.in1 s y u (e y)) ∧ its.toArray.any e = ds.any (eqTo (.tup as)) := by
 have rx' : Rep G H x (.tup as) := by
  rcases rx with q | ⟨p, _, q⟩
  ·exact q.mono Ai
  ·exact q.elim
 have one : ∀ (i : Nat) y, its[i]? = some y → ∃ d, ds[i]? = some d ∧ SeqAt.EqAt X.A.in1 s y u (eqTo (.tup as) d) := fun i y hy => by
  have hi : i < its.length := (List.getElem?_eq_some_iff.mp hy).1
  have hx : i < xs.length := by rw [v.length]; exact hi
  have hd : i < ds.length := by rw [← r.1]; exact hx
  obtain ⟨y', h1, h2⟩ := v.get (i := i) (x := xs[i]) (by simp [hx])
  rw [hy] at h1
  cases h1
  refine ⟨ds[i], by simp [hd], ?_⟩
  have kn : knows (.tup as) ds[i] = true := List.all_eq_true.mp hk _ (List.getElem_mem hd)
  unfold knows at kn
  obtain ⟨b, hb⟩ := Option.isSome_iff_exists.mp kn
  have eb : eqTo (.tup as) ds[i] = b := by unfold eqTo; rw [hb]
  rw [eb]
  exact Kc I hG 62 X.A.in1 (by show X.A.units + 1 + 62 < cLine; omega) hb ((r.2 i _ _ (by simp [hx]) (by simp [hd])).mono Ai) rx' h2 ru
 refine ⟨fun y => decide (∃ (i : Nat) (d : D), its[i]? = some y ∧ ds[i]? = some d ∧ eqTo (.tup as) d = true), fun y hy => ?_, ?_⟩
 ·by_cases h : ∃ (i : Nat) (d : D), its[i]? = some y ∧ ds[i]? = some d ∧ eqTo (.tup as) d = true
  ·obtain ⟨i, d, h1, h2, h3⟩ := id h
   obtain ⟨d', h4, h5⟩ := one i y h1
   rw [h2] at h4
   cases h4
   rw [h3] at h5
   show SeqAt.EqAt X.A.in1 s y u (decide (∃ (i : Nat) (d : D), its[i]? = some y ∧ ds[i]? = some d ∧ eqTo (.tup as) d = true))
   rw [decide_eq_true h]
   exact h5
  ·obtain ⟨i, hi, rfl⟩ := List.getElem_of_mem (show y ∈ its by simpa using hy)
   have hii : its[i]? = some its[i] := List.getElem?_eq_getElem hi
   obtain ⟨d, h4, h5⟩ := one i _ hii
   have h6 : eqTo (.tup as) d = false := by
    cases q : eqTo (.tup as) d with
    | false => rfl
    | true => exact absurd ⟨i, d, hii, h4, q⟩ h
   rw [h6] at h5
   show SeqAt.EqAt X.A.in1 s its[i] u (decide (∃ (j : Nat) (d : D), its[j]? = some its[i] ∧ ds[j]? = some d ∧ eqTo (.tup as) d = true))
   rw [decide_eq_false h]
   exact h5
 ·rw [Bool.eq_iff_iff, List.any_eq_true]
  rw [show its.toArray.any (fun y => decide (∃ (i : Nat) (d : D), its[i]? = some y ∧ ds[i]? = some d ∧ eqTo (.tup as) d = true)) = its.any (fun y => decide (∃ (i : Nat) (d : D), its[i]? = some y ∧ ds[i]? = some d ∧ eqTo (.tup as) d = true)) by simp, List.any_eq_true]
  constructor
  ·rintro ⟨y, hy, h⟩
   obtain ⟨i, d, h1, h2, h3⟩ := of_decide_eq_true h
   exact ⟨d, List.mem_of_getElem? h2, h3⟩
  ·rintro ⟨d, hd, h⟩
   obtain ⟨i, hi, rfl⟩ := List.getElem_of_mem hd
   have hx : i < its.length := by rw [← v.length, r.1]; exact hi
   exact ⟨its[i], List.getElem_mem hx, decide_eq_true ⟨i, _, List.getElem?_eq_getElem hx, List.getElem?_eq_getElem hi, h⟩⟩
theorem WT (hG : G.K = X.K) (hu : X.A.units + 64 < cLine) : OpR X (compareOp .In) (rInP G false) := by
 intro pins s σ H x y v u Q I rx ry h
 obtain ⟨A, as, ds, r1, r2, hk, k⟩ := h
 obtain ⟨c, ys, rfl, h2, q2⟩ := r2.lst
 cases ry
 obtain ⟨jts, v2, p2, _⟩ := I.list (by rw [← hG]; exact h2)
 obtain ⟨e, he, ea⟩ := RX hG hu I r1 rx q2 v2 hk
 exact SeqAt.in_listAt e p2.isList he ⟨.bl _, H, I, rfl, by rw [ea]; exact k⟩
theorem Tu (hG : G.K = X.K) (hu : X.A.units + 64 < cLine) : OpR X (compareOp .NotIn) (rInP G true) := by
 intro pins s σ H x y v u Q I rx ry h
 obtain ⟨A, as, ds, r1, r2, hk, k⟩ := h
 obtain ⟨c, ys, rfl, h2, q2⟩ := r2.lst
 cases ry
 obtain ⟨jts, v2, p2, _⟩ := I.list (by rw [← hG]; exact h2)
 obtain ⟨e, he, ea⟩ := RX hG hu I r1 rx q2 v2 hk
 exact SeqAt.notIn_listAt e p2.isList he ⟨.bl _, H, I, rfl, by rw [ea]; exact k⟩
def inF (neg : Bool) (x y : D) : Option D := match x, y with
 | .tup as, .lst ds => if ds.all (knows (.tup as)) = true then some (.bl (if neg then !ds.any (eqTo (.tup as)) else ds.any (eqTo (.tup as)))) else none
 | x, y => inE neg x y
theorem NB (neg : Bool) : Ci G (fun x y H Q => (rInA G.K neg x y H Q ∨ rDIn neg x y H Q) ∨ rInP G neg x y H Q) (inF neg) := by
 intro A H x y dx dy d Q lv rx ry h k
 unfold inF at h
 split at h
 ·split at h
  ·rename_i hk
   cases h
   exact .inr ⟨A, _, _, rx, ry, hk, k _ H (Same.refl H) (.bl _)⟩
  ·cases h
 ·exact .inl (Yh neg A H x y _ _ d Q lv rx ry h k)
end
end PV
namespace PySem
open PySem.Spec
theorem WW {prog : Program} {w : World} {A : Around} {E : Value → Shared → Prop} {s : Shared} {Q : Value → Shared → Prop}
  (h : ∀ h' e, (∀ b o, s.heap.get? b = some o → h'.get? b = some o) → Shared.TypeIs { s with heap := h' } (.ref e) "StopIteration" → Q (.ref e) { s with heap := h' }) : wpAny (model prog w) A (newExc (.type "StopIteration") []) Q E s := by
 unfold newExc newTuple
 wp_walk
 exact h _ _ (fun b o e => Heap.get?_push_of_some _ (Heap.get?_push_of_some _ e)) ⟨_, Heap.get?_push_size _ rfl, rfl⟩
theorem WX (it d : Addr) (i ep : Nat) (es : Array DictEntry) (od : Obj) (hod : od.data = .dict es ep) (hi : i < es.size) :
  Meets (Builtin.«dict_keyiterator.__next__» ⟨[.ref it], []⟩) (fun _ R s => s.heap.get? it = some { cls := .type "dict_keyiterator", data := .fields #[.ref d, .int i 0, .int es.size 0, .int ep 0] } ∧ s.heap.get? d = some od ∧ R (.ok (.ret (es[i]'hi).key)) { s with heap := s.heap.update it (Obj.mapFields (·.setIfInBounds 1 (rawInt ((i : Int) + 1)))), toks := s.toks }) :=
 .of_wp fun prog w A R s h => by
  obtain ⟨hp, g, dr, tk, os⟩ := s
  obtain ⟨h1, h2, h⟩ := h
  wp_walk using wpAny_dictEntries h2 hod, wpAny_dictEpoch h2 hod, wpAny_fieldsOf h1 rfl, wpAny_setField h1 rfl
  have e0 : (if (i : Int) < 0 then none else es[(i : Int).toNat]?) = some (es[i]'hi) := by rw [if_neg (by omega), Int.toNat_natCast, Array.getElem?_eq_getElem hi]
  rw [e0]
  dsimp only
  wp_walk using wpAny_setField h1 rfl
  ·rw [if_neg (show ¬ Builtin.Dict_items.ownsTuple ((Manifest.find? "dict_keyiterator").elim "dict_keyiterator" fun x => x.tpName) = true by decide +kernel)]
   show 1 < 4
   decide
  ·rw [if_neg (show ¬ Builtin.Dict_items.ownsTuple ((Manifest.find? "dict_keyiterator").elim "dict_keyiterator" fun x => x.tpName) = true by decide +kernel)]
   rw [if_neg]
   case hnc => decide +kernel
   rw [Nat.zero_add]
   have ti : Shared.TypeIs { heap := hp.update it (Obj.mapFields fun x => x.setIfInBounds 1 (rawInt ((i : Int) + 1))), gens := g, drawn := dr, toks := tk, os := os } (.ref it) "dict_keyiterator" :=
    ⟨_, Heap.get?_update_self _ h1 (Obj.isFreed_of_fields (Obj.data_mapFields rfl _)), Obj.cls_mapFields ..⟩
   wp_walk using wpAny_isOneOf_keyiter ti
   exact ⟨_, rfl, h⟩
theorem QW {prog : Program} {w : World} {A : Around} {E : Value → Shared → Prop} {s : Shared} {it d : Addr} {i ep : Nat} {es : Array DictEntry} {od : Obj} {Q : Option Value → Shared → Prop} (hod : od.data = .dict es ep) (hi : i < es.size)
  (h1 : s.heap.get? it = some { cls := .type "dict_keyiterator", data := .fields #[.ref d, .int i 0, .int es.size 0, .int ep 0] }) (h2 : s.heap.get? d = some od)
  (h : Q (some (es[i]'hi).key) { s with heap := s.heap.update it (Obj.mapFields (·.setIfInBounds 1 (rawInt ((i : Int) + 1)))) }) : wpAny (model prog w) A (pyNext (.ref it)) Q E s := by
 have ti : s.TypeIs (.ref it) "dict_keyiterator" := ⟨_, h1, rfl⟩
 unfold pyNext
 refine wpAny_bind (wpAny_attempt (wpAny_callSpecial?_slot (name := Str.ofString "__next__") ti F.slot_dict_keyiterator_next ?_))
 refine call_meets F.slot_dict_keyiterator_next ti F.entry_dict_keyiterator_next (F.args_dict_keyiterator_next_1 _) (WX it d i ep es od hod hi) ⟨h1, h2, ?_⟩
 exact wpAny_pure h
theorem K8 {prog : Program} {w : World} {A : Around} {E : Value → Shared → Prop} {s : Shared} {it d : Addr} {i ep : Nat} {es : Array DictEntry} {od : Obj} {Q : Option Value → Shared → Prop} (hh : A.handled = none) (hod : od.data = .dict es ep) (hi : es.size ≤ i)
  (h1 : s.heap.get? it = some { cls := .type "dict_keyiterator", data := .fields #[.ref d, .int i 0, .int es.size 0, .int ep 0] }) (h2 : s.heap.get? d = some od)
  (h : ∀ h', Heap.ExtBut it s.heap h' → Q none { s with heap := h' }) : wpAny (model prog w) A (pyNext (.ref it)) Q E s := by
 have ti : s.TypeIs (.ref it) "dict_keyiterator" := ⟨_, h1, rfl⟩
 unfold pyNext
 refine wpAny_bind (wpAny_attempt (wpAny_callSpecial?_slot (name := Str.ofString "__next__") ti F.slot_dict_keyiterator_next
  (wpAny_call_entry F.slot_dict_keyiterator_next ti F.entry_dict_keyiterator_next ?_ (F.args_dict_keyiterator_next_1 _))))
 have hh1 : A.in1.handled = none := hh
 wp_walk using wpAny_dictEntries h2 hod, wpAny_dictEpoch h2 hod, wpAny_fieldsOf h1 rfl, wpAny_setField h1 rfl
 have e0 : (if (i : Int) < 0 then none else es[(i : Int).toNat]?) = none := by rw [if_neg (by omega), Int.toNat_natCast, Array.getElem?_eq_none hi]
 rw [e0]
 dsimp only
 wp_walk using wpAny_setField h1 rfl
 ·rw [if_neg (show ¬ Builtin.Dict_items.ownsTuple ((Manifest.find? "dict_keyiterator").elim "dict_keyiterator" fun x => x.tpName) = true by decide +kernel)]
  show 0 < 4
  decide
 ·refine wpAny_bind ?_
  refine WW fun h' e kp ty => wpAny_raiseNew_none hh1 ?_
  refine wpAny_bind (wpAny_isInstance ty isSubtype_stop (wpAny_pure (h h' fun b o hb z => kp b o ?_)))
  exact ((Heap.SameBut.update ..).2 b hb).trans z
end PySem
namespace PySem
open PySem.Spec
theorem QX {prog : Program} {w : World} {A : Around} {E : Value → Shared → Prop} {s : Shared} {d : Addr} {ep : Nat} {es : Array DictEntry} {od : Obj} {Q : Value → Shared → Prop} (hd : (d == sysModules) = false) (hx : od.ExactDict) (hod : od.data = .dict es ep) (h2 : s.heap.get? d = some od)
  (h : Q (.ref s.heap.objs.size) { s with heap := s.heap.push { cls := .type "dict_keyiterator", data := .fields #[.ref d, .int 0 0, .int es.size 0, .int ep 0] } }) : wpAny (model prog w) A (pyIter (.ref d)) Q E s := by
 have ti : s.TypeIs (.ref d) "dict" := ⟨_, h2, hx.1⟩
 refine wpAny_pyIter_slot ti F.slot_dict_iter (wpAny_call_entry F.slot_dict_iter ti F.entry_dict_iter ?_ (F.args_dict_iter_1 _))
 unfold Builtin.«dict.__iter__»
 wp_walk using wpAny_dictEntries h2 hod, wpAny_dictEpoch h2 hod, wpAny_notOrdered_dict ti
 exact ⟨_, rfl, "dict_keyiterator", _, ⟨_, Heap.get?_push_size _ rfl, rfl⟩, F.slot_dict_keyiterator_next.lookup, h⟩
end PySem
namespace PV
open PySem PySem.Spec L2
open PyProof.Rows hiding St
section
variable {G : Gx} {x : Addr} {H : Hp}
theorem Top.sub {A B : List Addr} {a : Addr} {d : D} (t : Top G B H a d) (h : ∀ a ∈ A, a ∈ B) : Top G A H a d := by
 cases d with
 | lst ds => obtain ⟨xs, q1, q2⟩ := t; exact ⟨xs, q1, q2.mono (Dd h)⟩
 | dk ds => obtain ⟨xs, q1, q2, q3⟩ := t; exact ⟨xs, q1, q2, q3.mono (Dd h)⟩
 | dt ds => obtain ⟨xs, q1, q2, q3⟩ := t; exact ⟨xs, q1, q2, q3.mono (Dd h)⟩
 | ob c gs => obtain ⟨C, dx, xs, q1, q2, q3⟩ := t; exact ⟨C, dx, xs, q1, q2, q3.mono (Dd h)⟩
 | _ => exact t.elim
def Je (x : Addr) (H H' : Hp) : Prop := ∀ b o, b ≠ x → H b = some o → H' b = some o
theorem Fe {A : List Addr} {H' : Hp} (hx : x ∈ A) (s : Je x H H') : Same (hid A H) (hid A H') := fun b o h => by
 unfold hid at h ⊢
 split at h
 ·cases h
 ·rename_i hb; rw [if_neg hb]; exact s b o (fun z => hb (z ▸ hx)) h
theorem Top.other {A : List Addr} {H' : Hp} {q : Addr} {d : D} (t : Top G A H q d) (nq : q ≠ x) (hx : x ∈ A) (s : Je x H H') : Top G A H' q d := by
 have sm := Fe hx s
 cases d with
 | lst ds => obtain ⟨xs, q1, q2⟩ := t; exact ⟨xs, s _ _ nq q1, q2.mono sm⟩
 | dk ds => obtain ⟨xs, q1, q2, q3⟩ := t; exact ⟨xs, s _ _ nq q1, q2, q3.mono sm⟩
 | dt ds => obtain ⟨xs, q1, q2, q3⟩ := t; exact ⟨xs, s _ _ nq q1, q2, q3.mono sm⟩
 | ob c gs => obtain ⟨C, dx, xs, q1, q2, q3⟩ := t; exact ⟨C, dx, xs, s _ _ nq q1, q2, q3.mono sm⟩
 | _ => exact t.elim
end
section
variable {X : Cx} {G : Gx} {a b c : Expr} {fa fb fc : FE} {pos p2 px rp p apos : Pos} {es : List Expr} {fs : FA} {h : FZ} {hs : FZA}
end
end PV
namespace PV
open PySem L2
abbrev Ef := List (Str × Bool × D)
abbrev FEs := Rho → Ef → Option (Rho × Ef)
abbrev FTE := Rho → Ef → Option Bool
def noOw (ρ : Rho) : Bool := ρ.all fun z => match z with | .ow _ => false | _ => true
def pureE (g : FS) : FEs := fun ρ ε => match g ρ with | some (.nx ρ') => if noOw ρ' = true then some (ρ', ε) else none | _ => none
def RZ (f : Str) (fe : FE) : FEs := fun ρ ε => (fe ρ).bind fun d => if (ε.lookup f).isNone = true ∧ ε.length < 1000 then some (ρ, ε ++ [(f, false, d)]) else none
def Jf (f : Str) (fe : FE) : FEs := fun ρ ε => (fe ρ).bind fun d => if (ε.lookup f).isNone = true ∧ ε.length < 1000 then some (ρ, ε ++ [(f, true, d)]) else none
def repE (f : Str) (d : D) : Ef → Ef
 | [] => []
 | (g, b, x) :: r => if g = f then (g, b, d) :: r else (g, b, x) :: repE f d r
def Jg (f : Str) (fk fv : FE) : FEs := fun ρ ε => (fv ρ).bind fun v => (fk ρ).bind fun k => match ε.lookup f with | some (true, d) => (Ck d k v).map fun d' => (ρ, repE f d' ε) | _ => none
def Kg (t : FT) : FTE := fun ρ _ => t ρ
def inTE (f : Str) (fk : FE) : FTE := fun ρ ε => (fk ρ).bind fun k => match ε.lookup f with | some (true, .dk kds) => (keyD k).map fun q => (getK q kds).isSome | _ => none
def orTE (a b : FTE) : FTE := fun ρ ε => match a ρ ε with | some true => some true | some false => b ρ ε | none => none
def ifE (t : FTE) : FEs := fun ρ ε => match t ρ ε with | some false => some (ρ, ε) | _ => none
def nilE : FEs := fun ρ ε => some (ρ, ε)
def EY (g gs : FEs) : FEs := fun ρ ε => (g ρ ε).bind fun r => gs r.1 r.2
def Eo (tg : FG) (b : FEs) : List D → FEs
 | [], ρ, ε => some (ρ, ε)
 | d :: r, ρ, ε => (tg d ρ).bind fun ρ1 => if noOw ρ1 = true then (b ρ1 ε).bind fun q => Eo tg b r q.1 q.2 else none
def forE (src : FI) (tg : FG) (b : FEs) : FEs := fun ρ ε => (src ρ).bind fun ds => Eo tg b ds ρ ε
def NK (n : Nat) (x : Addr) (ds : List D) : Rho := Br n (.adr x :: ds)
def runI (n np : Nat) (b : FEs) (x : Addr) (ds : List D) : Option Ef := if ds.length + 1 = np then (b (NK n x ds) []).map (·.2) else none
def finE (c : Str) (ε : Ef) : D := .ob c (ε.map fun p => (p.1, p.2.2))
open Classical in
noncomputable def mkI (c : Str) (g : Addr → List D → Option Ef) (fs : FA) : FE := fun ρ => (fs ρ).bind fun ds => (g 0 ds).bind fun ε => if ∀ x, g x ds = some ε then some (finE c ε) else none
end PV
namespace PV
open PySem PySem.Spec L2
open PyProof.Rows hiding St
theorem Bg {ρ : Rho} (h : noOw ρ = true) (i : Nat) (d : D) : ρ[i]? ≠ some (.ow d) := fun e => by
 unfold noOw at h
 rw [List.all_eq_true] at h
 have := h _ (List.mem_of_getElem? e)
 cases this
inductive FsOk (G : Gx) (A0 A : List Addr) (H : Hp) (x : Addr) : List (Str × V) → Ef → List Addr → Prop
 | nil : FsOk G A0 A H x [] [] []
 | pl {f : Str} {v : V} {d : D} {fs : List (Str × V)} {ε : Ef} {as : List Addr} : Rep G (hid A H) v d → FsOk G A0 A H x fs ε as → FsOk G A0 A H x ((f, v) :: fs) ((f, false, d) :: ε) as
 | ow {f : Str} {a : Addr} {d : D} {fs : List (Str × V)} {ε : Ef} {as : List Addr} : a ∈ A → a ∉ A0 → a ≠ x → a ∉ as → Top G A H a d → FsOk G A0 A H x fs ε as → FsOk G A0 A H x ((f, .ref a) :: fs) ((f, true, d) :: ε) (a :: as)
section
variable {G : Gx} {A0 A A' : List Addr} {H H' : Hp} {x : Addr} {fs : List (Str × V)} {ε : Ef} {as : List Addr}
theorem FsOk.mp (h : FsOk G A0 A H x fs ε as) (r : ∀ v d, Rep G (hid A H) v d → Rep G (hid A' H') v d) (t : ∀ a ∈ as, ∀ d, Top G A H a d → Top G A' H' a d) (s : ∀ a ∈ as, a ∈ A → a ∈ A') : FsOk G A0 A' H' x fs ε as := by
 induction h with
 | nil => exact .nil
 | pl rv _ ih => exact .pl (r _ _ rv) (ih t s)
 | ow h1 h2 h3 h4 h5 _ ih => exact .ow (s _ List.mem_cons_self h1) h2 h3 h4 (t _ List.mem_cons_self _ h5) (ih (fun a ha => t a (List.mem_cons_of_mem _ ha)) (fun a ha => s a (List.mem_cons_of_mem _ ha)))
theorem FsOk.names (h : FsOk G A0 A H x fs ε as) : fs.map (·.1) = ε.map (·.1) := by
 induction h with
 | nil => rfl
 | pl _ _ ih => simp [ih]
 | ow _ _ _ _ _ _ ih => simp [ih]
theorem FsOk.len (h : FsOk G A0 A H x fs ε as) : fs.length = ε.length := by
 have := congrArg List.length h.names
 simpa using this
theorem FsOk.ne (h : FsOk G A0 A H x fs ε as) : ∀ a ∈ as, a ∈ A ∧ a ∉ A0 ∧ a ≠ x := by
 induction h with
 | nil => intro a ha; cases ha
 | pl _ _ ih => exact ih
 | ow h1 h2 h3 _ _ _ ih =>
  intro a ha
  rcases List.mem_cons.mp ha with z | z
  ·subst z; exact ⟨h1, h2, h3⟩
  ·exact ih a z
theorem JM {f : Str} {v : V} : ∀ {fs : List (Str × V)}, fs.lookup f = none → L2.putF f v fs = fs ++ [(f, v)]
 | [], _ => rfl
 | (g, y) :: r, h => by
  by_cases hf : f = g
  ·subst hf; simp [List.lookup_cons] at h
  ·have hb : (f == g) = false := beq_eq_false_iff_ne.mpr hf
   simp only [List.lookup_cons, hb] at h
   show (if g = f then (g, v) :: r else (g, y) :: L2.putF f v r) = _
   rw [if_neg (fun z => hf z.symm), JM h]
   rfl
theorem FsOk.none {f : Str} (h : FsOk G A0 A H x fs ε as) (e : ε.lookup f = none) : fs.lookup f = none := by
 induction h with
 | nil => rfl
 | @pl g v d fs ε as _ _ ih =>
  by_cases hf : f = g
  ·subst hf; simp [List.lookup_cons] at e
  ·have hb : (f == g) = false := beq_eq_false_iff_ne.mpr hf
   simp only [List.lookup_cons, hb] at e ⊢
   exact ih e
 | @ow g a d fs ε as _ _ _ _ _ _ ih =>
  by_cases hf : f = g
  ·subst hf; simp [List.lookup_cons] at e
  ·have hb : (f == g) = false := beq_eq_false_iff_ne.mpr hf
   simp only [List.lookup_cons, hb] at e ⊢
   exact ih e
theorem FsOk.snocP {f : Str} {v : V} {d : D} (h : FsOk G A0 A H x fs ε as) (r : Rep G (hid A H) v d) : FsOk G A0 A H x (fs ++ [(f, v)]) (ε ++ [(f, false, d)]) as := by
 induction h with
 | nil => exact .pl r .nil
 | pl rv _ ih => exact .pl rv ih
 | ow h1 h2 h3 h4 h5 _ ih => exact .ow h1 h2 h3 h4 h5 ih
theorem FsOk.snocO {f : Str} {a : Addr} {d : D} (h : FsOk G A0 A H x fs ε as) (h1 : a ∈ A) (h2 : a ∉ A0) (h3 : a ≠ x) (h4 : a ∉ as) (t : Top G A H a d) : FsOk G A0 A H x (fs ++ [(f, .ref a)]) (ε ++ [(f, true, d)]) (as ++ [a]) := by
 induction h with
 | nil => exact .ow h1 h2 h3 (fun z => nomatch z) t .nil
 | pl rv _ ih => exact .pl rv (ih h4)
 | @ow g b e fs ε as q1 q2 q3 q4 q5 _ ih =>
  have hb : a ≠ b := fun z => h4 (by simp [z])
  refine .ow q1 q2 q3 (fun z => ?_) q5 (ih fun z => h4 (List.mem_cons_of_mem _ z))
  rcases List.mem_append.mp z with z | z
  ·exact q4 z
  ·simp at z; exact hb z.symm
theorem FsOk.get {f : Str} {d : D} (h : FsOk G A0 A H x fs ε as) (e : ε.lookup f = some (true, d)) : ∃ a, fs.lookup f = some (.ref a) ∧ a ∈ as ∧ a ∈ A ∧ a ∉ A0 ∧ a ≠ x ∧ Top G A H a d := by
 induction h with
 | nil => cases e
 | @pl g v d' fs ε as _ _ ih =>
  by_cases hf : f = g
  ·subst hf; simp [List.lookup_cons] at e
  ·have hb : (f == g) = false := beq_eq_false_iff_ne.mpr hf
   simp only [List.lookup_cons, hb] at e ⊢
   exact ih e
 | @ow g a d' fs ε as h1 h2 h3 _ h5 _ ih =>
  by_cases hf : f = g
  ·subst hf
   simp only [List.lookup_cons, beq_self_eq_true, Option.some.injEq, Prod.mk.injEq, true_and] at e ⊢
   subst e
   exact ⟨a, rfl, List.mem_cons_self, h1, h2, h3, h5⟩
  ·have hb : (f == g) = false := beq_eq_false_iff_ne.mpr hf
   simp only [List.lookup_cons, hb] at e ⊢
   obtain ⟨a', q1, q2, q3⟩ := ih e
   exact ⟨a', q1, List.mem_cons_of_mem _ q2, q3⟩
theorem FsOk.wr {f : Str} {d d' : D} {a : Addr} (h : FsOk G A0 A H x fs ε as) (e : ε.lookup f = some (true, d)) (ea : fs.lookup f = some (.ref a)) (sx : Je a H H') (hA : a ∈ A) (t : Top G A H' a d') : FsOk G A0 A H' x fs (repE f d' ε) as := by
 have sm := Fe hA sx
 induction h with
 | nil => cases e
 | @pl g v d2 fs ε as rv hr ih =>
  by_cases hf : f = g
  ·subst hf; simp [List.lookup_cons] at e
  ·have hb : (f == g) = false := beq_eq_false_iff_ne.mpr hf
   simp only [List.lookup_cons, hb] at e ea
   unfold repE
   rw [if_neg (fun z => hf z.symm)]
   exact .pl (rv.mono sm) (ih e ea)
 | @ow g b d2 fs ε as h1 h2 h3 h4 h5 hr ih =>
  by_cases hf : f = g
  ·subst hf
   simp only [List.lookup_cons, beq_self_eq_true, Option.some.injEq, V.ref.injEq] at ea
   subst ea
   unfold repE
   rw [if_pos rfl]
   refine .ow h1 h2 h3 h4 t (hr.mp (fun v d r => r.mono sm) (fun c hc d t' => t'.other (fun z => h4 (by rw [← z]; exact hc)) hA sx) fun _ _ z => z)
  ·have hb : (f == g) = false := beq_eq_false_iff_ne.mpr hf
   simp only [List.lookup_cons, hb] at e ea
   obtain ⟨a', q1, q2, _⟩ := hr.get e
   rw [ea] at q1
   cases q1
   unfold repE
   rw [if_neg (fun z => hf z.symm)]
   exact .ow h1 h2 h3 h4 (h5.other (fun z => h4 (z ▸ q2)) hA sx) (ih e ea)
end
structure EOk (G : Gx) (c : Str) (A0 : List Addr) (He : Hp) (x : Addr) (A : List Addr) (σ : St) (H : Hp) (ρ : Rho) (ε : Ef) : Prop where
 w : OkW G A0 He A σ H ρ
 no : noOw ρ = true
 xA : x ∈ A
 x0 : x ∉ A0
 s0 : ρ[0]? = some (.fz (.adr x))
 ob : ∃ C dx fs as, H x = some (.ins C dx fs) ∧ G.cl c = some C ∧ FsOk G A0 A H x fs ε as
def EOkS (G : Gx) (c : Str) (A0 : List Addr) (He : Hp) (x : Addr) (σ : St) (H : Hp) (ρ : Rho) (ε : Ef) : Prop := ∃ A, EOk G c A0 He x A σ H ρ ε
section
variable {G : Gx} {c : Str} {A0 : List Addr} {He : Hp} {x : Addr} {A : List Addr} {σ : St} {H H' : Hp} {ρ : Rho} {ε : Ef}
theorem EOk.at0 (o : EOk G c A0 He x A σ H ρ ε) : σ[0]? = some (some (.ref x)) := by
 obtain ⟨v, h1, h2⟩ := o.w.ok.fz 0 _ o.s0
 cases h2
 exact h1
theorem EOk.mono (o : EOk G c A0 He x A σ H ρ ε) (s : Same H H') : EOk G c A0 He x A σ H' ρ ε := by
 obtain ⟨C, dx, fs, as, h1, h2, h3⟩ := o.ob
 exact ⟨o.w.mono s, o.no, o.xA, o.x0, o.s0, C, dx, fs, as, s _ _ h1, h2, h3.mp (fun v d r => r.mono (Aq s)) (fun a ha d t => t.mono s) fun _ _ z => z⟩
theorem WY {B : List Addr} (s : Same H H') (fr : ∀ a ∈ B, a ∈ A ∨ H a = none) : Same (hid A H) (hid B H') := fun b u h => by
 unfold hid at h
 split at h
 ·cases h
 ·rename_i hb
  rw [Bm]
  ·exact s b u h
  ·intro z
   rcases fr b z with q | q
   ·exact hb q
   ·rw [q] at h; cases h
theorem Top.plain {B : List Addr} {a : Addr} {d : D} (t : Top G A H a d) (s : Same H H') (p : Same (hid A H) (hid B H')) : Top G B H' a d := by
 cases d with
 | lst ds => obtain ⟨xs, q1, q2⟩ := t; exact ⟨xs, s _ _ q1, q2.mono p⟩
 | dk ds => obtain ⟨xs, q1, q2, q3⟩ := t; exact ⟨xs, s _ _ q1, q2, q3.mono p⟩
 | dt ds => obtain ⟨xs, q1, q2, q3⟩ := t; exact ⟨xs, s _ _ q1, q2, q3.mono p⟩
 | ob c gs => obtain ⟨C, dx, xs, q1, q2, q3⟩ := t; exact ⟨C, dx, xs, s _ _ q1, q2, q3.mono p⟩
 | _ => exact t.elim
theorem EOk.frame (o : EOk G c A0 He x A σ H ρ ε) : OkS G A H σ H ρ := ⟨A, Same.refl H, fun _ h => h, fun a h => .inl h, fun a ha => (o.w.ok.live a ha).ne, o.w.ok, fun i d a h _ => absurd h (Bg o.no i d), fun y d _ h => absurd h (Bg o.no 0 d)⟩
theorem EOk.unframe {σ' : St} {ρ' : Rho} (o : EOk G c A0 He x A σ H ρ ε) (w : OkS G A H σ' H' ρ') (no : noOw ρ' = true) (s0 : ρ'[0]? = some (.fz (.adr x))) : EOkS G c A0 He x σ' H' ρ' ε := by
 obtain ⟨B, w⟩ := w
 have pl : Same (hid A H) (hid B H') := WY w.same w.fr
 obtain ⟨C, dx, fs, as, h1, h2, h3⟩ := o.ob
 refine ⟨B, ⟨o.w.same.trans w.same, fun a ha => w.sub a (o.w.sub a ha), fun a ha => ?_, o.w.l0, w.ok, fun i d a h _ => absurd h (Bg no i d), fun y d _ h => absurd h (Bg no 0 d)⟩, no, w.sub x o.xA, o.x0, s0, C, dx, fs, as, w.same _ _ h1, h2, h3.mp (fun v d r => r.mono pl) (fun a ha d t => t.plain w.same pl) fun a _ ha => w.sub a ha⟩
 rcases w.fr a ha with q | q
 ·exact o.w.fr a q
 ·exact .inr (o.w.same.free q)
theorem EOk.wr {p : Addr} {ε' : Ef} (o : EOk G c A0 He x A σ H ρ ε) (hp : p ∈ A) (h0 : p ∉ A0) (sx : Je p H H') (lv : Nt (H' p)) (ob : ∃ C dx fs as, H' x = some (.ins C dx fs) ∧ G.cl c = some C ∧ FsOk G A0 A H' x fs ε' as) : EOk G c A0 He x A σ H' ρ ε' := by
 have hep : He p = none := (o.w.fr p hp).resolve_left h0
 have sm := Fe hp sx
 refine ⟨⟨fun b u h => sx b u (Aj h hep) (o.w.same b u h), o.w.sub, o.w.fr, o.w.l0, ⟨o.w.ok.len, fun b hb => ?_, fun j e h => ?_, fun j e h => absurd h (Bg o.no j e), fun i j d e a h _ _ _ => absurd h (Bg o.no i d)⟩, fun i d a h _ => absurd h (Bg o.no i d), fun y d _ h => absurd h (Bg o.no 0 d)⟩, o.no, o.xA, o.x0, o.s0, ob⟩
 ·by_cases z : b = p
  ·rw [z]; exact lv
  ·exact (o.w.ok.live b hb).mono fun u e => sx b u z e
 ·obtain ⟨v, q1, q2⟩ := o.w.ok.fz j e h
  exact ⟨v, q1, q2.mono sm⟩
end
def tE (G : Gx) (c : Str) (A0 : List Addr) (He : Hp) (x : Addr) (g : FEs) : TS := fun D σ H => ∃ ρ ε r, EOkS G c A0 He x σ H ρ ε ∧ g ρ ε = some r ∧ ∀ σ' H', EOkS G c A0 He x σ' H' r.1 r.2 → D.nx σ' H'
def PSE (X : Cx) (G : Gx) (c : Str) (st : Stmt) (g : FEs) : Prop := ∀ A0 He x, PS X st (tE G c A0 He x g)
def PSEs (X : Cx) (G : Gx) (c : Str) (st : List Stmt) (g : FEs) : Prop := ∀ A0 He x, PSs X st (tE G c A0 He x g)
def tTE (G : Gx) (c : Str) (A0 : List Addr) (He : Hp) (x : Addr) (t : FTE) : TT := fun σ H Q => ∃ A ρ ε b, EOk G c A0 He x A σ H ρ ε ∧ t ρ ε = some b ∧ ∀ H', Same H H' → Q b H'
def PTE (X : Cx) (G : Gx) (c : Str) (e : Expr) (t : FTE) : Prop := ∀ A0 He x, PT X e (tTE G c A0 He x t)
def PWE (X : Cx) (G : Gx) (c : Str) (e : Expr) (t : FTE) : Prop := ∀ A0 He x, PW X e (tTE G c A0 He x t)
section
variable {X : Cx} {G : Gx} {c : Str} {a b e k it tg : Expr} {fa fb fk : FE} {pos p2 p px : Pos} {st : Stmt} {rest body : List Stmt} {g gs : FEs} {gp : FS} {ta tb : FTE} {tp : FT}
theorem O3 (h1 : PSE X G c st g) (h2 : PSEs X G c rest gs) : PSEs X G c (st :: rest) (EY g gs) := fun A0 He x pins s σ H D I ⟨ρ, ε, r, o, e, k⟩ => by
 refine FP (h1 A0 He x) (h2 A0 He x) pins s σ H D I ?_
 unfold EY at e
 cases e1 : g ρ ε with
 | none => simp [e1] at e
 | some q =>
  simp only [e1, Option.bind_some] at e
  exact ⟨ρ, ε, q, o, e1, fun σ' H' o' => ⟨q.1, q.2, r, o', e, k⟩⟩
theorem Ra (h1 : PSE X G c st g) : PSEs X G c [st] g := fun A0 He x => Hh (h1 A0 He x)
theorem Kh (h : PSD X G st gp) (hk : ∀ ρ ρ', gp ρ = some (.nx ρ') → ρ'[0]? = ρ[0]?) : PSE X G c st (pureE gp) := fun A0 He x pins s σ H D I ⟨ρ, ε, r, ⟨A, o⟩, e, k⟩ => by
 unfold pureE at e
 split at e
 ·rename_i ρ' e1
  split at e
  ·rename_i no
   cases e
   refine h A H pins s σ H D I ⟨ρ, _, o.frame, e1, fun σ' H' w => k σ' H' (o.unframe w no (by rw [hk ρ ρ' e1]; exact o.s0))⟩
  ·cases e
 ·cases e
theorem O4 (h : PFT X G e tp) : PTE X G c e (Kg tp) := fun A0 He x => fun pins s σ H Q I ⟨A, ρ, ε, b, o, e, k⟩ => h A pins s σ H Q I ⟨ρ, b, o.w.ok, e, k⟩
theorem Yo (h : PTE X G c a ta) : PWE X G c (.BoolOp .Or [a] pos) ta := fun A0 He x => T_ (h A0 He x)
theorem bj {rest : List Expr} (ha : PTE X G c a ta) (hb : PWE X G c (.BoolOp .Or (b :: rest) pos) tb) : PWE X G c (.BoolOp .Or (a :: b :: rest) pos) (orTE ta tb) := fun A0 He x => Vv (ZK (ha A0 He x) (hb A0 He x)) fun σ H Q ⟨A, ρ, ε, d, o, e, k⟩ => by
 unfold orTE at e
 split at e
 ·rename_i e1
  cases e
  exact ⟨A, ρ, ε, _, o, e1, fun H1 s1 => iteT (k H1 s1)⟩
 ·rename_i e1
  exact ⟨A, ρ, ε, _, o, e1, fun H1 s1 => iteF ⟨A, ρ, ε, d, o.mono s1, e, fun H2 s2 => k H2 (s1.trans s2)⟩⟩
 ·cases e
theorem PWE.pt (h : PWE X G c a ta) : PTE X G c a ta := fun A0 He x => (h A0 He x).pt
theorem bu {x f : Str} {ap : Pos} (hu : X.A.units + 1 < cLine) (hcl : ∀ c C, G.cl c = some C → Cls X.K C ∧ BJ X.K C f) (hv : PE X (.Name x px) (tVar 0)) (ha : PF X G a fa) (hb : attributeBase (.Name x px) f X.env (eval (.Name x px) X.env) = eval (.Name x px) X.env := by rfl)
  (hm : behindInMarks .In (.Attribute (.Name x px) f ap) = false := by rfl) : PTE X G c (.Compare a [.In] [.Attribute (.Name x px) f ap] pos) (inTE f fa) := fun A0 He y pins s σ H Q I ⟨A, ρ, ε, d, o, e, k⟩ => by
 refine Ql (QS hu) (ha A) (QC hv hb) hm pins s σ H Q I ?_
 unfold inTE at e
 cases e1 : fa ρ with
 | none => simp [e1] at e
 | some kd =>
  simp only [e1, Option.bind_some] at e
  split at e
  ·rename_i kds e2
   cases e3 : keyD kd with
   | none => simp [e3] at e
   | some q =>
    simp only [e3, Option.map_some] at e
    cases e
    refine ⟨ρ, kd, o.w.ok, e1, fun v H1 s1 r1 => ?_⟩
    obtain ⟨C, dx, fs, as, h1, h2, h3⟩ := (o.mono s1).ob
    obtain ⟨p, q1, q2, q3, q4, q5, kvs, t1, t2, t3⟩ := h3.get e2
    refine ⟨_, o.at0, y, C, dx, fs, _, rfl, h1, (hcl _ _ h2).1, (hcl _ _ h2).2, q1, p, kvs, q, rfl, .of t1, G3 r1 e3, ?_⟩
    rw [(Gz (k := q) t2 t3).2]
    exact ⟨_, rfl, k H1 s1⟩
  ·cases e
theorem Wa {s1 : List Stmt} (ht : PTE X G c e ta) (h1 : PSDs X G s1 badF) : PSE X G c (.If e s1 [] pos) (ifE ta) := fun A0 He x pins s σ H D I ⟨ρ, ε, r, ⟨A, o⟩, e, k⟩ => by
 refine UG (ht A0 He x) (h1 A0 He) Mj pins s σ H D I ?_
 unfold ifE at e
 split at e
 ·rename_i e1
  cases e
  exact ⟨A, ρ, ε, _, o, e1, fun H1 s1 => iteF (k σ H1 ⟨A, o.mono s1⟩)⟩
 ·cases e
theorem Wb {x f : Str} {pos' : Pos} (hcl : ∀ c C, G.cl c = some C → Cls X.K C ∧ BJ X.K C f) (hv : PE X (.Name x px) (tVar 0)) (ha : PF X G a fa) (hsw : swapsWith a (some (.Attribute (.Name x px) f pos')) pos.line X.env = pure false := by rfl) :
  PSE X G c (.Assign [.Attribute (.Name x px) f pos'] a pos) (RZ f fa) := fun A0 He y pins s σ H D I ⟨ρ, ε, r, ⟨A, o⟩, e, k⟩ => by
 refine Ue hv (ha A) hsw pins s σ H D I ?_
 unfold RZ at e
 cases e1 : fa ρ with
 | none => simp [e1] at e
 | some d =>
  simp only [e1, Option.bind_some] at e
  split at e
  ·rename_i hz
   cases e
   refine ⟨ρ, d, o.w.ok, e1, fun u H1 s1 r1 => ?_⟩
   have o1 := o.mono s1
   obtain ⟨C, dx, fs, as, h1, h2, h3⟩ := o1.ob
   have hn := h3.none (Option.isNone_iff_eq_none.mp hz.1)
   refine ⟨_, o.at0, y, C, dx, fs, rfl, h1, (hcl _ _ h2).1, (hcl _ _ h2).2, by rw [h3.len]; exact hz.2, ?_⟩
   rw [JM hn]
   have sx : Je y H1 (upd H1 y (.ins C dx (fs ++ [(f, u)]))) := fun b w hb hw => by rw [Af hb]; exact hw
   have sm := Fe o1.xA sx
   refine k _ _ ⟨A, o1.wr o1.xA o1.x0 sx (by rw [Ah]; exact Nt.ins) ⟨C, dx, _, as, Ah, h2, ?_⟩⟩
   exact (h3.mp (fun v d r => r.mono sm) (fun p hp d t => t.other (h3.ne p hp).2.2 o1.xA sx) fun _ _ z => z).snocP (r1.mono sm)
  ·cases e
theorem O5 {x f : Str} {pos' : Pos} (hcl : ∀ c C, G.cl c = some C → Cls X.K C ∧ BJ X.K C f) (hv : PE X (.Name x px) (tVar 0)) (ha : PN X G a fa) (hsw : swapsWith a (some (.Attribute (.Name x px) f pos')) pos.line X.env = pure false := by rfl) :
    PSE X G c (.Assign [.Attribute (.Name x px) f pos'] a pos) (Jf f fa) := fun A0 He y pins s σ H D I ⟨ρ, ε, r, ⟨A, o⟩, e, k⟩ => by
  refine Ue hv (ha A) hsw pins s σ H D I ?_
  unfold Jf at e
  cases e1 : fa ρ with
  | none => simp [e1] at e
  | some d =>
    simp only [e1, Option.bind_some] at e
    split at e
    · rename_i hz
      cases e
      refine ⟨ρ, d, o.w.ok, e1, fun q H1 s1 hq t => ?_⟩
      obtain ⟨C, dx, fs, as, h1, h2, h3⟩ := o.ob
      have nqA : q ∉ A := fun z => (o.w.ok.live q z).ne hq
      have pl : Same (hid A H) (hid (q :: A) H1) := Gy s1 hq
      have hn := h3.none (Option.isNone_iff_eq_none.mp hz.1)
      have nq0 : q ∉ A0 := fun z => nqA (o.w.sub q z)
      have nqy : q ≠ y := fun z => nqA (z ▸ o.xA)
      have nqs : q ∉ as := fun z => nqA (h3.ne q z).1
      have o1 : EOk G c A0 He y (q :: A) σ H1 ρ ε := ⟨⟨o.w.same.trans s1, fun a ha => List.mem_cons_of_mem _ (o.w.sub a ha), fun a ha => by
          rcases List.mem_cons.mp ha with z | z
          · rw [z]; exact .inr (o.w.same.free hq)
          · exact o.w.fr a z, o.w.l0, o.w.ok.fill s1 hq t.live, fun i d a h _ => absurd h (Bg o.no i d), fun y d _ h => absurd h (Bg o.no 0 d)⟩, o.no, List.mem_cons_of_mem _ o.xA, o.x0, o.s0, C, dx, fs, as, s1 _ _ h1, h2,
          h3.mp (fun v d r => r.mono pl) (fun p hp d t => t.plain s1 pl) fun p _ hp => List.mem_cons_of_mem _ hp⟩
      have g1 := s1 _ _ h1
      have g2 := h2
      have g3 : FsOk G A0 (q :: A) H1 y fs ε as := h3.mp (fun v d r => r.mono pl) (fun p hp d t => t.plain s1 pl) fun p _ hp => List.mem_cons_of_mem _ hp
      have hn' := g3.none (Option.isNone_iff_eq_none.mp hz.1)
      refine ⟨_, o.at0, y, C, dx, fs, rfl, g1, (hcl _ _ g2).1, (hcl _ _ g2).2, by rw [g3.len]; exact hz.2, ?_⟩
      rw [JM hn']
      have sx : Je y H1 (upd H1 y (.ins C dx (fs ++ [(f, .ref q)]))) := fun b w hb hw => by rw [Af hb]; exact hw
      have sm := Fe o1.xA sx
      refine k _ _ ⟨q :: A, o1.wr o1.xA o1.x0 sx (by rw [Ah]; exact Nt.ins) ⟨C, dx, _, as ++ [q], Ah, g2, ?_⟩⟩
      exact (g3.mp (fun v d r => r.mono sm) (fun p hp d t => t.other (g3.ne p hp).2.2 o1.xA sx) fun _ _ z => z).snocO List.mem_cons_self nq0 nqy nqs (t.other nqy o1.xA sx)
    · cases e
theorem O6 {x f : Str} {ap spos : Pos} (hu : X.A.units + 1 < cLine) (hcl : ∀ c C, G.cl c = some C → Cls X.K C ∧ BJ X.K C f) (hv : PE X (.Name x px) (tVar 0)) (ha : PF X G a fa) (hb : PF X G b fb) (hbase : attributeBase (.Name x px) f X.env (eval (.Name x px) X.env) = eval (.Name x px) X.env := by rfl)
  (hs : swapsWith b (some (.Subscript (.Attribute (.Name x px) f ap) a spos)) pos.line X.env = pure false := by rfl) : PSE X G c (.Assign [.Subscript (.Attribute (.Name x px) f ap) a spos] b pos) (Jg f fa fb) := fun A0 He y pins s σ H D I ⟨ρ, ε, r, ⟨A, o⟩, e, k⟩ => by
 refine Mt hu (QC hv hbase) (ha A) (hb A) hs pins s σ H D I ?_
 unfold Jg at e
 cases e1 : fb ρ with
 | none => simp [e1] at e
 | some v =>
  cases e2 : fa ρ with
  | none => simp [e1, e2] at e
  | some kd =>
   simp only [e1, e2, Option.bind_some] at e
   split at e
   ·rename_i d e3
    cases e4 : Ck d kd v with
    | none => simp [e4] at e
    | some d' =>
     simp only [e4, Option.map_some] at e
     cases e
     unfold Ck at e4
     split at e4
     ·rename_i kds
      cases e5 : keyD kd with
      | none => simp [e5] at e4
      | some q =>
       simp only [e5, Option.bind_some] at e4
       split at e4
       ·rename_i hz
        cases e4
        refine ⟨ρ, v, o.w.ok, e1, fun u H1 s1 r1 => ?_⟩
        have o1 := o.mono s1
        obtain ⟨C, dx, fs, as, h1, h2, h3⟩ := o1.ob
        obtain ⟨p, q1, q2, q3, q4, q5, kvs, t1, t2, t3⟩ := h3.get e3
        refine ⟨_, o.at0, y, C, dx, fs, _, rfl, h1, (hcl _ _ h2).1, (hcl _ _ h2).2, q1, ρ, kd, o1.w.ok, e2, fun yv H2 s2 r2 => ?_⟩
        have ek := G3 r2 e5
        subst ek
        have o2 := o1.mono s2
        obtain ⟨C', dx', fs', as', g1, g2, g3⟩ := o2.ob
        rw [s2 _ _ h1] at g1
        cases g1
        have hl : kvs.length < sizeLine := by
         have := congrArg List.length t2
         rw [List.length_map, List.length_map] at this
         omega
        refine ⟨p, _, rfl, DPut.k (s2 _ _ t1) hl, ?_⟩
        have pk := M8 (k := q) (r1.mono (Aq s2)) t2 (t3.mono (Aq s2))
        have sx : Je p H2 (upd H2 p (.dK (putK kvs q u))) := fun b w hb hw => by rw [Af hb]; exact hw
        refine k _ _ ⟨A, o2.wr q3 q4 sx (by rw [Ah]; exact Nt.dK) ⟨C, dx, fs, as', by rw [Af (Ne.symm q5)]; exact s2 _ _ h1, g2, ?_⟩⟩
        refine g3.wr e3 q1 sx q3 ⟨_, Ah, pk.1, ?_⟩
        rw [DY q3]
        exact pk.2
       ·cases e4
     ·cases e4
   ·cases e
theorem EOk.frameW {A0 : List Addr} {He : Hp} {x : Addr} {A : List Addr} {σ : St} {H : Hp} {ρ : Rho} {ε : Ef} (o : EOk G c A0 He x A σ H ρ ε) : OkW G A H A σ H ρ := ⟨Same.refl H, fun _ h => h, fun a h => .inl h, fun a ha => (o.w.ok.live a ha).ne, o.w.ok, fun i d a h _ => absurd h (Bg o.no i d), fun y d _ h => absurd h (Bg o.no 0 d)⟩
theorem Rb {src : FI} {fg : FG} {gb : FEs} (hp : PassesOwn (model X.prog X.w) X.A X.env X.xe) (hc : X.calm = true) (hi : PFI X G false tg it src) (hg : PGD X G tg fg) (hk : ∀ d ρ ρ', fg d ρ = some ρ' → ρ'[0]? = ρ[0]?) (hb : PSEs X G c body gb)
  (hs : ∀ x, foldedSetIterable it X.env x = pure x := by intro _; rfl) : PSE X G c (.For tg it body [] pos) (forE src fg gb) := fun A0 He x pins s σ H D I ⟨ρ, ε, r, ⟨A, o⟩, e, k⟩ => by
 cases e1 : src ρ with
 | none => simp [forE, e1] at e
 | some ds =>
  have e' : Eo fg gb ds ρ ε = some r := by simpa [forE, e1] using e
  have hb' : PSs X body (fun D σ H => ∃ A0 He x, tE G c A0 He x gb D σ H) := fun pins s σ H D I ⟨A0, He, x, q⟩ => hb A0 He x pins s σ H D I q
  have hg' : PG X tg (fun v σ H Q => ∃ A0 He, tGD G A0 He fg v σ H Q) := fun pins s σ H v u Q I r ⟨A0, He, q⟩ => hg A0 He pins s σ H v u Q I r q
  refine UT hp hc (hi A) hg' hb' hs pins s σ H D I ⟨ρ, ds, o.w.ok, e1, fun J H1 s1 sr => ?_⟩
  have o1 := o.mono s1
  obtain ⟨sHe, w2⟩ := o1.w.here
  generalize hHf : hid (A.filter fun a => decide (a ∉ A0)) H1 = Hf at sHe w2
  have k2 : ∀ σ' H', EOkS G c A0 Hf x σ' H' r.1 r.2 → D.nx σ' H' := fun σ' H' ⟨B, q⟩ => k σ' H' ⟨B, q.w.base sHe o.w.l0, q.no, q.xA, q.x0, q.s0, q.ob⟩
  refine ⟨fun i m σ' H' => m = ds.length - i ∧ i ≤ ds.length ∧ ∃ ρ' ε', EOkS G c A0 Hf x σ' H' ρ' ε' ∧ Eo fg gb (ds.drop i) ρ' ε' = some r, ⟨ds.length, by simp, Nat.zero_le _, ρ, ε, ⟨A, w2, o1.no, o1.xA, o1.x0, o1.s0, o1.ob⟩, by simpa using e'⟩, ?_⟩
  rintro i m σ3 H3 ⟨rfl, hil, ρ3, ε3, ⟨B, o3⟩, e3⟩
  have pl : Same (hid A H1) (hid B H3) := by rw [← hHf] at o3; exact OkW.plain o.w.sub o3.w
  by_cases hlt : i < ds.length
  ·right
   have hd : ds[i]? = some ds[i] := by simp [hlt]
   have ed : ds.drop i = ds[i] :: ds.drop (i + 1) := List.drop_eq_getElem_cons hlt
   rw [ed] at e3
   unfold Eo at e3
   refine ⟨sr.go i H3 (pl.trans Ai) hlt, fun σ' H' => ∃ ρ' ε', EOkS G c A0 Hf x σ' H' ρ' ε' ∧ Eo fg gb (ds.drop (i + 1)) ρ' ε' = some r, fun σ' H' q => ⟨ds.length - (i + 1), by omega, rfl, hlt, q⟩, fun y H' yy => ?_⟩
   obtain ⟨sy, rx⟩ := sr.yld i H3 y H' _ (pl.trans Ai) hd yy
   have o4 := o3.mono sy
   cases e4 : fg ds[i] ρ3 with
   | none => simp [e4] at e3
   | some ρ4 =>
    simp only [e4, Option.bind_some] at e3
    split at e3
    ·rename_i no
     refine ⟨B, H', B, ρ3, ds[i], ρ4, o4.frameW, rx B o3.w.ok.live pl, e4, fun σ5 H5 ok5 => ?_⟩
     cases e5 : gb ρ4 ε3 with
     | none => simp [e5] at e3
     | some q =>
      simp only [e5, Option.bind_some] at e3
      exact ⟨A0, Hf, x, ρ4, ε3, q, o4.unframe ok5 no (by rw [hk _ _ _ e4]; exact o4.s0), e5, fun σ' H' o' => ⟨q.1, q.2, o', e3⟩⟩
    ·cases e3
  ·left
   have ei : i = ds.length := by omega
   subst ei
   rw [List.drop_length] at e3
   cases e3
   exact ⟨sr.stop _ H3 (pl.trans Ai) (Nat.le_refl _), k2 σ3 H3 ⟨B, o3⟩⟩
end
end PV
namespace PV
open PySem PySem.Spec L2
open PyProof.Rows hiding St
theorem Kl {A : List Addr} {p b : Addr} : b ∈ A.filter (fun b => decide (b ≠ p)) ↔ b ∈ A ∧ b ≠ p := by simp [List.mem_filter]
theorem Yp {X : Cx} {G : Gx} {A : List Addr} {pins : List (Addr × Obj)} {s : Shared} {σ : St} {H : Hp} {a : Addr} {d : D} (I : Inv X pins σ H s) (hA : a ∈ A) (t : Top G A H a d) :
  ∃ H', Inv X pins σ H' s ∧ (∀ b, b ≠ a → H' b = H b) ∧ Same (hid A H) (hid (A.filter fun b => decide (b ≠ a)) H') ∧ Rep G (hid (A.filter fun b => decide (b ≠ a)) H') (.ref a) d := by
 have key : ∀ H' : Hp, (∀ b, b ≠ a → H' b = H b) → Same (hid A H) (hid (A.filter fun b => decide (b ≠ a)) H') := fun H' hh b u h => by
  unfold hid at h
  split at h
  ·cases h
  ·rename_i hb
   rw [Bm (fun z => hb (Kl.mp z).1), hh b (fun z => hb (z ▸ hA))]
   exact h
 have at0 : ∀ H' : Hp, hid (A.filter fun b => decide (b ≠ a)) H' a = H' a := fun H' => Bm (fun z => (Kl.mp z).2 rfl)
 cases d with
 | lst ds =>
  obtain ⟨xs, a1, a2⟩ := t
  have sm := key H fun _ _ => rfl
  exact ⟨H, I, fun _ _ => rfl, sm, .lst (.of (by rw [at0]; exact a1)) (a2.mono sm).1 (a2.mono sm).2⟩
 | dk ds =>
  obtain ⟨xs, a1, a2, a3⟩ := t
  obtain ⟨o, I'⟩ := Inv.frzK I a1
  have sm := key _ fun b hb => Af (o := .frz o (.dK xs)) hb
  exact ⟨_, I', fun b hb => Af hb, sm, .dk (by rw [at0]; exact Ah) a2 (a3.mono sm).2⟩
 | dt ds =>
  obtain ⟨xs, a1, a2, a3⟩ := t
  obtain ⟨o, I'⟩ := Inv.frzT I a1
  have sm := key _ fun b hb => Af (o := .frz o (.dT xs)) hb
  exact ⟨_, I', fun b hb => Af hb, sm, .dt (by rw [at0]; exact Ah) a2 (a3.mono sm).2⟩
 | ob c gs =>
  obtain ⟨C, dx, xs, a1, a2, a3⟩ := t
  have sm := key H fun _ _ => rfl
  exact ⟨H, I, fun _ _ => rfl, sm, .ob a2.1 (by rw [at0]; exact a1) a2.2 (a3.mono sm).2⟩
 | _ => exact t.elim
theorem FsOk.frz {X : Cx} {G : Gx} {A0 A : List Addr} {pins : List (Addr × Obj)} {s : Shared} {σ : St} {H : Hp} {x : Addr} {fs : List (Str × V)} {ε : Ef} {as : List Addr} (h : FsOk G A0 A H x fs ε as) (I : Inv X pins σ H s) :
  ∃ H' A', Inv X pins σ H' s ∧ (∀ b, b ∉ as → H' b = H b) ∧ (∀ b, b ∈ A' ↔ b ∈ A ∧ b ∉ as) ∧ Same (hid A H) (hid A' H') ∧ RepL G (hid A' H') (fs.map (·.2)) (ε.map fun p => p.2.2) := by
 induction h with
 | nil => exact ⟨H, A, I, fun _ _ => rfl, fun b => by simp, Same.refl _, .nil⟩
 | pl rv _ ih =>
  obtain ⟨H', A', i1, i2, i3, i4, i5⟩ := ih
  exact ⟨H', A', i1, i2, i3, i4, .cons (rv.mono i4) i5⟩
 | @ow f a d fs ε as h1 h2 h3 h4 t _ ih =>
  obtain ⟨H1, A1, i1, i2, i3, i4, i5⟩ := ih
  have ha : a ∈ A1 := (i3 a).mpr ⟨h1, h4⟩
  have e1 : H1 a = H a := i2 a h4
  have t1 : Top G A1 H1 a d := by
   cases d with
   | lst ds => obtain ⟨xs, q1, q2⟩ := t; exact ⟨xs, by rw [e1]; exact q1, q2.mono i4⟩
   | dk ds => obtain ⟨xs, q1, q2, q3⟩ := t; exact ⟨xs, by rw [e1]; exact q1, q2, q3.mono i4⟩
   | dt ds => obtain ⟨xs, q1, q2, q3⟩ := t; exact ⟨xs, by rw [e1]; exact q1, q2, q3.mono i4⟩
   | ob c gs => obtain ⟨C, dx, xs, q1, q2, q3⟩ := t; exact ⟨C, dx, xs, by rw [e1]; exact q1, q2, q3.mono i4⟩
   | _ => exact t.elim
  obtain ⟨H2, j1, j2, j3, j4⟩ := Yp i1 ha t1
  refine ⟨H2, A1.filter fun b => decide (b ≠ a), j1, fun b hb => ?_, fun b => ?_, i4.trans j3, .cons j4 (i5.mono j3)⟩
  ·rw [j2 b (fun z => hb (by simp [z])), i2 b (fun z => hb (List.mem_cons_of_mem _ z))]
  ·rw [Kl, i3 b]
   simp only [List.mem_cons, not_or]
   exact ⟨fun ⟨⟨p1, p2⟩, p3⟩ => ⟨p1, p3, p2⟩, fun ⟨p1, p3, p2⟩ => ⟨⟨p1, p2⟩, p3⟩⟩
theorem EOk.whole {X : Cx} {G : Gx} {c : Str} {A0 : List Addr} {He : Hp} {x : Addr} {A : List Addr} {pins : List (Addr × Obj)} {s : Shared} {σ : St} {H : Hp} {ρ : Rho} {ε : Ef} (o : EOk G c A0 He x A σ H ρ ε) (I : Inv X pins σ H s) :
  ∃ H', Inv X pins σ H' s ∧ Same He H' ∧ Rep G (hid A0 H') (.ref x) (finE c ε) := by
 obtain ⟨C, dx, fs, as, h1, h2, h3⟩ := o.ob
 obtain ⟨H', A', i1, i2, i3, i4, i5⟩ := h3.frz I
 have nx : x ∉ as := fun z => (h3.ne x z).2.2 rfl
 refine ⟨H', i1, fun b u hb => ?_, ?_⟩
 ·rw [i2 b (fun z => ?_)]
  ·exact o.w.same b u hb
  ·obtain ⟨q1, q2, _⟩ := h3.ne b z
   rw [(o.w.fr b q1).resolve_left q2] at hb
   cases hb
 ·have sb : ∀ a ∈ A0, a ∈ A' := fun a ha => (i3 a).mpr ⟨o.w.sub a ha, fun z => (h3.ne a z).2.1 ha⟩
  have en : fs.map (·.1) = (ε.map fun p => (p.1, p.2.2)).map (·.1) := by
   rw [h3.names, List.map_map]
   rfl
  have es : (ε.map fun p => (p.1, p.2.2)).map (·.2) = ε.map fun p => p.2.2 := by rw [List.map_map]; rfl
  refine .ob h2 (by rw [Bm o.x0, i2 x nx]; exact h1) en ?_
  rw [es]
  exact (i5.mono (Dd sb)).2
def tEI (G : Gx) (c : Str) (A0 : List Addr) (He : Hp) (x : Addr) (g : FEs) : TS := fun D σ H => ∃ ρ ε r, EOkS G c A0 He x σ H ρ ε ∧ g ρ ε = some r ∧ ∀ σ' H', Same He H' → Rep G (hid A0 H') (.ref x) (finE c r.2) → D.nx σ' H'
def PSI (X : Cx) (G : Gx) (c : Str) (st : List Stmt) (g : FEs) : Prop := ∀ A0 He x, PSs X st (tEI G c A0 He x g)
theorem Yq {X : Cx} {G : Gx} {c : Str} : PSI X G c [] nilE := fun A0 He x pins s σ H D I ⟨ρ, ε, r, ⟨A, o⟩, e, k⟩ => by
 cases e
 obtain ⟨H', I', q1, q2⟩ := o.whole I
 exact Mj pins s σ H' D I' (k σ H' q1 q2)
theorem Dk {X : Cx} {G : Gx} {c : Str} {st : Stmt} {rest : List Stmt} {g gs : FEs} (h1 : PSE X G c st g) (h2 : PSI X G c rest gs) : PSI X G c (st :: rest) (EY g gs) := fun A0 He x pins s σ H D I ⟨ρ, ε, r, o, e, k⟩ => by
 refine FP (h1 A0 He x) (h2 A0 He x) pins s σ H D I ?_
 unfold EY at e
 cases e1 : g ρ ε with
 | none => simp [e1] at e
 | some q =>
  simp only [e1, Option.bind_some] at e
  exact ⟨ρ, ε, q, o, e1, fun σ' H' o' => ⟨q.1, q.2, r, o', e, k⟩⟩
def spI (G : Gx) (c : Str) (g : Addr → List D → Option Ef) : Sp := fun vs H Q _ => ∃ A x vs' ds ε C dx, vs = .ref x :: vs' ∧ (∀ a ∈ A, Nt (H a)) ∧ x ∉ A ∧ H x = some (.ins C dx []) ∧ G.cl c = some C ∧ RepL G (hid (x :: A) H) vs' ds ∧ g x ds = some ε ∧
 ∀ H', Je x H H' → Rep G (hid A H') (.ref x) (finE c ε) → Q .non H'
theorem HS (n : Nat) (ds : List D) : noOw (Br n ds) = true := by
 unfold noOw Br
 rw [List.all_eq_true]
 intro z hz
 rcases List.mem_append.mp hz with q | q
 ·obtain ⟨d, _, rfl⟩ := List.mem_map.mp q; rfl
 ·rw [(List.mem_replicate.mp q).2]
theorem fn_I {P : Program} {w : World} {G : Gx} {mg : Str → Option Value} {base : Heap} {x qual c : Str} {st : Stmt} {f : Addr} {fd : FuncData} {N ps : List Str} {k : Nat} {b : FEs} (F : Fun G.K x qual st f fd) (S : FnScope N ps (Ab st)) (hl : ps.length ≤ N.length)
  (hb : ∀ (cdv : Value) (A : Around) (outer : List Env) (s : Shared) (H : Hp) (E : XK), Room k (A.deeper (envOfC qual (Ab st) s.heap.objs.size f cdv)) → PSI (cxOf CX0 P w G.K mg base N qual (Ab st) f cdv A outer s H E).nox G c (Aw st) b) :
  FnOk P w G.K mg base CX0 (k + 1) f fd ps (spI G c (runI N.length ps.length b)) := by
 refine F.ok S (fun vs H Q E h => ?_) (fun cdv A outer s H vs Q E hr h => ?_)
 ·obtain ⟨A, x, vs', ds, ε, C, dx, rfl, lv, hx, hH, hc, r, e, _⟩ := h
  unfold runI at e
  split at e
  ·rename_i hz; rw [List.length_cons, r.1]; exact hz
  ·cases e
 ·obtain ⟨A1, x, vs', ds, ε, C, dx, rfl, lv, hx, hH, hc, r, e, k⟩ := h
  unfold runI at e
  split at e
  ·rename_i hz
   have lv' : ∀ a ∈ x :: A1, Nt (H a) := fun a ha => by
    rcases List.mem_cons.mp ha with z | z
    ·rw [z, hH]; exact Nt.ins
    ·exact lv a z
   have r' : RepL G (hid (x :: A1) H) (.ref x :: vs') (.adr x :: ds) := .cons (.adr x) r
   obtain ⟨B, w⟩ := Ga (N := N) lv' r' (by rw [List.length_cons, r.1]; omega)
   cases e1 : b (NK N.length x ds) [] with
   | none => simp [e1] at e
   | some q =>
    simp only [e1, Option.map_some] at e
    cases e
    refine ⟨_, hb cdv A outer s H E hr A1 (hid [x] H) x, NK N.length x ds, [], q, ?_, e1, fun σ' H' s' rv => k H' (fun b o hb ho => s' b o (by rw [Bm (by simpa using hb)]; exact ho)) rv⟩
    refine ⟨B, ⟨Ai, fun a ha => w.sub a (List.mem_cons_of_mem _ ha), fun a ha => ?_, fun a ha => ?_, w.ok, fun i d a h _ => absurd h (Bg (HS _ _) i d), fun y d _ h => absurd h (Bg (HS _ _) 0 d)⟩, HS _ _, w.sub x List.mem_cons_self, hx, rfl, C, dx, [], [], hH, hc, .nil⟩
    ·rcases w.fr a ha with z | z
     ·rcases List.mem_cons.mp z with z | z
      ·right; unfold hid; rw [if_pos (by simp [z])]
      ·exact .inl z
     ·right; unfold hid; split
      ·rfl
      ·exact z
    ·rw [Bm (fun z => hx (by simp at z; rw [← z]; exact ha))]
     exact (lv a ha).ne
  ·cases e
section
variable {X : Cx} {G : Gx} {a b : Expr} {fa fb : FE} {pos p2 p : Pos} {es : List Expr} {fs : FA}
theorem bw {k : Nat} {f C : Addr} {fd : FuncData} {ps : List Str} {g : Addr → List D → Option Ef} {cn x : Str} (hcl : G.cl cn = some C) (M : Mk X.K C f) (F : FnOk X.prog X.w X.K X.mg X.base CX0 k f fd ps (spI G cn g)) (hr : Room (k + 1) X.A) (hg : Gl X x) (hm : X.mg x = some (.ref C)) (hb : Binds X.K fd ps [])
  (ha : PFA X G (a :: es) fs) (hdb : (x == ("__debug__" : Str)) = false := by decide) (he : starEach (a :: es) X.env = (false, eval a X.env) :: starEach es X.env := by rfl) (hpl : (backTo pos (starEach es X.env)).any (·.1) = false := by rfl) :
  PF X G (.Call (.Name x p) (a :: es) [] pos) (mkI cn g fs) := fun A => Bu (Xy M F hr hg hm hb .nil Ux (ha A) hdb he hpl) fun σ H Q ⟨ρ, d, o, e, k⟩ => by
 unfold mkI at e
 cases e1 : fs ρ with
 | none => simp [e1] at e
 | some ds =>
  cases e3 : g 0 ds with
  | none => simp [e1, e3] at e
  | some ε =>
   simp only [e1, e3, Option.bind_some] at e
   split at e
   ·rename_i hall
    cases e
    refine ⟨ρ, ds, o, e1, fun vs H1 s1 rv => fun y dx hy hdx hne => ?_⟩
    have sm : Same H1 (upd (upd H1 dx (.own y)) y (.ins C dx [])) := (Am hdx _).trans (Am (by rw [Af (Ne.symm hne)]; exact hy) _)
    have lv1 := (o.mono s1).live
    refine ⟨A, y, vs, ds, ε, C, dx, by rw [List.append_nil], fun b hb => ?_, fun z => (lv1 y z).ne hy, Ah, hcl, rv.mono (Gy sm hy), hall y, fun H' sx rv' => ?_⟩
    ·exact (lv1 b hb).mono fun u e => sm _ _ e
    ·refine ⟨rfl, k _ H' (fun b u hb => sx b u (fun z => ?_) (sm _ _ (s1 _ _ hb))) rv'⟩
     have := s1 _ _ hb
     rw [z, hy] at this
     cases this
   ·cases e
end
theorem NP {f : FE} (ρ ρ' : Rho) (h : Em f ρ = some (.nx ρ')) : ρ'[0]? = ρ[0]? := by
 unfold Em at h
 cases e : f ρ with
 | none => simp [e] at h
 | some d => simp [e] at h; rw [h]
def K0s (g : FGs) : Prop := ∀ ds ρ ρ', g ds ρ = some ρ' → ρ'[0]? = ρ[0]?
theorem Wc : K0s nilG := fun ds ρ ρ' h => by
 unfold nilG at h
 split at h
 ·cases h; rfl
 ·cases h
theorem J2 {i : Nat} {g : FGs} (hi : i ≠ 0) (hg : K0s g) : K0s (Bv i g) := fun ds ρ ρ' h => by
 unfold Bv at h
 split at h
 ·rw [hg _ _ _ h, List.getElem?_set_ne hi]
 ·cases h
theorem We {n : Nat} {g : FGs} (hg : K0s g) (d : D) (ρ ρ' : Rho) (h : tupG n g d ρ = some ρ') : ρ'[0]? = ρ[0]? := by
 unfold tupG at h
 split at h
 ·split at h
  ·exact hg _ _ _ h
  ·cases h
 ·split at h
  ·exact hg _ _ _ h
  ·cases h
 ·cases h
end PV
namespace PV
open PySem PySem.W PySem.Calls PyProof.Rows L2
theorem QZ : ∀ (ns : List Int) (i : Int), i ∈ ns → Builtin.Int.intBits i ≤ WData.weightAll (ns.map WData.int) := by
 intro ns
 induction ns with
 | nil => intro i h; cases h
 | cons n r ih =>
  intro i h
  rw [List.map_cons]
  show Builtin.Int.intBits i ≤ WData.weight (.int n) + 1 + WData.weightAll (r.map WData.int)
  rcases List.mem_cons.mp h with q | q
  ·subst q
   have : WData.weight (.int i) = Builtin.Int.intBits i := by unfold WData.weight Builtin.Int.intBits; rfl
   omega
  ·have := ih i q
   omega
theorem Yr {l : OpenLaw} {n : Nat} {q : Program} {loose : List Str} {XP : (Str → Option Value) → Heap → Prop} {YP : World → Heap → Prop} {d : DefRec}
  (hn : l.most = some n) (hdf : d.params.defaults = [])
  (call : ∀ (w : World) (s₀ s₁ : Shared) (mg mb : Str → Option Value) (fa : Addr) (o : Obj) (pm cd doc : Value) (a : Addr) (vs : List Value) (ns : List Int),
   Ground q loose [] XP w s₀ mg mb s₁.heap → YP w s₁.heap →
   s₁.heap.get? fa = some o → o.data = .func (docDef d.name d.params d.body d.scope pm cd doc) → s₁.heap.CodeRec cd d.name → mg d.name = some (.ref fa) →
   s₁.heap.get? a = some { cls := .type "list", data := .seq vs.toArray } → IntsAre vs ns → ns.length ≤ n → (∀ i ∈ ns, Builtin.Int.intBits i ≤ 1048576) → s₁.gens = #[] →
   codeAny (model l.prog w) callerA (.call (.ref fa) ⟨[.ref a], []⟩) (fun r s' => r = .ok (.ret (.bool true)) ∧ OldK s₁.heap s'.heap ∧ s'.os = s₁.os ∧ AllBare s'.gens) s₁) :
  WalkO q loose XP YP l.row.toRowW d [] (fun f vs => PySem.call f vs) := by
 intro w s₀ s₁ mg mb G Y fa o pm cd doc dV kV ho hd hcd hD hmg hg args vals as hpre hlay hrd hwl hlo
 obtain rfl : dV = .none := Dflts.none hD hdf
 obtain rfl : kV = .none := Dflts.noKw hD
 obtain ⟨a, vs, ns, rfl, rfl, hobj, hints, hlen⟩ := Att.TY hn hpre hwl
 have hb : ∀ i ∈ ns, Builtin.Int.intBits i ≤ 1048576 := fun i hi => by
  have h1 := QZ ns i hi
  have h2 : WData.weightAll (ns.map WData.int) ≤ 1048576 := by
   have h3 : WData.layable (.list (ns.map WData.int)) = true := List.all_eq_true.mp hlay _ (List.mem_cons_self ..)
   unfold WData.layable at h3
   rw [Bool.and_eq_true] at h3
   exact of_decide_eq_true h3.2
  omega
 refine enter_call (codeAny_mono (call w s₀ s₁ mg mb fa o pm cd doc a vs ns G Y ho (fd_plain hd) hcd hmg hobj hints hlen hb hg) fun r s' hq => ?_)
 obtain ⟨rfl, h2, h3, h4⟩ := hq
 exact ⟨.inl ⟨.bool true, .bool true, [], rfl, fun _ => rfl, .bool true, Att.Tc l _, fun _ => ⟨List.Pairwise.nil, fun _ hm => (nomatch hm)⟩⟩, h2, h3, h4⟩
theorem Wf {l : PySem.W.OpenLaw} {n k : Nat} {q : Program} {loose : List Str} {XP : (Str → Option Value) → Heap → Prop} {YP : World → Heap → Prop} {d : DefRec} {K : Params → PySem.W.Frag} {CX : World → CXT} {sp : World → Sp} {x : Str}
  (hn : l.most = some n) (hn2 : n ≤ sizeLine) (hdf : d.params.defaults = []) (hr : Room k callerA)
  (hY : ∀ (w : World) (h : Heap), YP w h → (K w.params).In h)
  (F : ∀ (w : World) (mg : Str → Option Value) (fa : Addr) (h : Heap), (K w.params).In h → h.Ns mainGlobals mg → mg d.name = some (.ref fa) →
   ∃ fd : FuncData, (∀ (s : Shared) (u : Value), BindsTo s fd ⟨[u], []⟩ [(x, u)]) ∧
    ∀ base : Heap, (K w.params).In base → base.Ns mainGlobals mg → FnOk l.prog w (K w.params) mg base (CX w) k fa fd [x] (sp w))
  (hsp : ∀ (w : World) (H : Hp) (a : Addr) (ns : List Int), ns.length ≤ n → (∀ i ∈ ns, Builtin.Int.intBits i ≤ 1048576) → Only H → SqL (K w.params) H a (ns.map V.int) → sp w [.ref a] H (fun v _ => v = .bl true) fun _ _ _ => False)
  (hCX : ∀ (w : World) (H : Hp) (s : Shared) (e : Value) (s' : Shared), CX w [] H s (fun _ _ _ => False) e s' → False) :
  PySem.W.WalkO q loose XP YP l.row.toRowW d [] (fun f vs => PySem.call f vs) := by
 refine Yr hn hdf fun w s₀ s₁ mg mb fa o pm cd doc a vs ns G Y ho hd hcd hmg hobj hints hlen hbits hg => ?_
 have KX := hY w _ Y
 obtain ⟨fd, hb, hF⟩ := F w mg fa _ KX G.T.g hmg
 exact Uw KX G.T.g G.T.b G.T.builtins G.T.nolimit hg hobj hints (Nat.le_trans hlen hn2) hr hF hb (fun H hO hS => hsp w H a ns hlen hbits hO hS) fun H e s' => hCX w H s₁ e s'
end PV
namespace PySem
open PySem.Spec
section
variable {prog : Program} {w : World} {A : Around} {I d : Addr} {ep : Nat} {es : Array DictEntry} {od : Obj}
def eG (h : Heap) (I d : Addr) (i n ep : Nat) (od : Obj) : Prop := h.get? I = some { cls := .type "dict_keyiterator", data := .fields #[.ref d, .int i 0, .int n 0, .int ep 0] } ∧ h.get? d = some od
theorem Walks.raw (hh : A.handled = none) (hne : d ≠ I) (hod : od.data = .dict es ep) : Walks prog w A I [I, d] [I] es.size (fun i v => ∃ hi : i < es.size, v = (es[i]'hi).key) (fun i h => eG h I d i es.size ep od) where
 sub := fun b hb => by simp at hb; simp [hb]
 frame := fun _ _ _ st hk => ⟨hk I (by simp) _ st.1, hk d (by simp) _ st.2⟩
 item := fun i s Q E hi st hQ => by
  refine QW hod hi st.1 st.2 ?_
  have e1 : (s.heap.update I (Obj.mapFields (·.setIfInBounds 1 (rawInt ((i : Int) + 1))))).get? I = some { cls := .type "dict_keyiterator", data := .fields #[.ref d, .int ((i + 1 : Nat) : Int) 0, .int es.size 0, .int ep 0] } := Heap.get?_update_self _ st.1 rfl
  exact hQ _ _ s.toks ⟨hi, rfl⟩ ⟨e1, (Heap.get?_update_other _ _ (Ne.symm hne)).trans st.2⟩ fun b o hb e => (Heap.get?_update_other _ _ (fun z => hb (by simp [← z]))).trans e
 done := fun s Q E st hQ => K8 hh hod (Nat.le_refl _) st.1 st.2 fun h' he => hQ h' s.toks fun b o hb e => he b o (fun z => hb (by simp [z])) e
 self := fun _ _ _ _ st hQ => wpAny_pyIter_keyiter ⟨_, st.1, rfl, rfl⟩ hQ
theorem Ys (hd : (d == sysModules) = false) (hx : od.ExactDict) (hod : od.data = .dict es ep) : PySem.W.KdlSrc prog w "dict" d d es.size (fun i v => ∃ hi : i < es.size, v = (es[i]'hi).key) (fun h => h.get? d = some od) where
 type := fun _ hm => ⟨_, hm, hx.1⟩
 there := fun _ hm => ⟨Heap.lt_size hm, Heap.lt_size hm⟩
 keep := fun _ _ hm hk => hk d (.inl rfl) _ hm
 notList := by decide
 notTuple := by decide
 hint := fun _ _ _ _ hm hq => PySem.W.kdl_hint_dict ⟨_, hm, hx.1⟩ hq
 iter := fun A s hh hm => ⟨_, _, fun E Q hq => QX hd hx hod hm hq, Walks.raw hh (Nat.ne_of_lt (Heap.lt_size hm)) hod, Heap.get?_push_size _ rfl, Heap.get?_push_of_some _ hm⟩
end
end PySem
namespace PV
open PySem PySem.Spec L2
open PyProof.Rows hiding St
section
variable {X : Cx} {G : Gx}
theorem Hy (hc : X.calm = true) : DW X (.type "list") (fun xs H Q => ∃ p kvs, xs = [.ref p] ∧ Rd H p (.dT kvs) ∧ ∀ l (cs : List Addr), H l = none → cs.length = kvs.length → (∀ (i : Nat) (c : Addr) (q : List Key × V), cs[i]? = some c → kvs[i]? = some q → H c = some (.tup (q.1.map kV))) → Q (.ref l) (upd H l (.lst (cs.map V.ref)))) := by
 intro pins s σ H xs us Q I r h
 obtain ⟨p, kvs, rfl, e, q⟩ := h
 obtain ⟨u, rfl, ru⟩ := r.one
 cases ru
 obtain ⟨z, hd, ys, rel, o, es, ep, ho, hx, hod, hes, nd⟩ := (show BK X.prog X.w H s.heap p (.dT kvs) from Ur I.hok e)
 have hl : kvs.length = ys.length := rel.length
 have hn : es.size = ys.length := by rw [← Array.length_toList, hes, List.length_map]
 refine PySem.W.kdl_call (PySem.Ys hd hx hod) (I.ok.hd hc) ho (by omega) fun h' tk acc c' kp hnew hi => ?_
 have va : Vals ((ys.map (·.2.1)).map V.ref) acc.toList := by
  have hla : acc.toList.length = ys.length := by rw [Array.length_toList, hi.1, hn]
  have g : ∀ (j : Nat) u, acc.toList[j]? = some u → ∃ y, ys[j]? = some y ∧ u = .ref y.2.1 := fun j u hu => by
   obtain ⟨h1, h2⟩ := hi.2 j u (by simpa using hu)
   have hj : j < ys.length := by omega
   refine ⟨ys[j], by simp [hj], ?_⟩
   have e1 : es[j] = entryOfKey (tupleKind (Av X.prog X.w)) ys[j] := by
    have : es.toList[j]? = some (entryOfKey (tupleKind (Av X.prog X.w)) ys[j]) := by rw [hes]; simp [hj]
    have h3 : es.toList[j]? = some es[j] := by simp [h1]
    rw [h3] at this
    exact Option.some.inj this
   rw [h2, e1]
   rfl
  have build : ∀ {ys : List (List Key × Addr × Value)} {us : List Value}, us.length = ys.length → (∀ (j : Nat) u, us[j]? = some u → ∃ y, ys[j]? = some y ∧ u = .ref y.2.1) → Vals ((ys.map (·.2.1)).map V.ref) us := by
   intro ys
   induction ys with
   | nil => intro us h1 _; rw [List.eq_nil_of_length_eq_zero h1]; exact .nil
   | cons y r ih =>
    intro us h1 h2
    cases us with
    | nil => simp at h1
    | cons u us =>
     obtain ⟨y', a1, a2⟩ := h2 0 u rfl
     simp at a1
     subst a1
     exact .cons a2 (ih (by simpa using h1) fun j v hv => by simpa using h2 (j + 1) v (by simpa using hv))
  exact build hla g
 refine ⟨.ref s.heap.objs.size, _, I.laid (t' := tk) kp (Nat.le_refl _) (show BK X.prog X.w _ h' _ (.lst ((ys.map (·.2.1)).map V.ref)) from ⟨by rw [List.length_map, List.length_map]; omega, acc.toList, c', va, by simpa using hnew⟩), rfl, q _ _ (I.hok.fresh (Nat.le_refl _)) (by rw [List.length_map]; exact hl.symm) fun i c qq h1 h2 => ?_⟩
 rw [List.getElem?_map] at h1
 cases e3 : ys[i]? with
 | none => rw [e3] at h1; cases h1
 | some y =>
  rw [e3] at h1
  cases h1
  exact (G4 rel h2 e3).2.1
def O7 : D → Option D
 | .dt kds => some (.lst (kds.map fun p => .tup (p.1.map kDt)))
 | d => listE d
theorem O8 {H : Hp} : ∀ (k : List Key), RepL G H (k.map kV) (k.map kDt)
 | [] => .nil
 | k :: r => .cons (J0 k) (O8 r)
theorem RepT.dt {A : List Addr} {H : Hp} {v : V} {kds : List (List Key × D)} (r : RepT G A H v (.dt kds)) : ∃ a kvs, v = .ref a ∧ Rd H a (.dT kvs) ∧ kvs.map (·.1) = kds.map (·.1) ∧ RepL G (hid A H) (kvs.map (·.2)) (kds.map (·.2)) := by
 rcases r with r | ⟨a, e, kvs, h, k, r⟩
 ·cases r with
  | dt h k r =>
   refine ⟨_, _, rfl, .inr ⟨_, Ai _ _ h⟩, k, ?_, r⟩
   have := congrArg List.length k
   rw [List.length_map, List.length_map] at this ⊢
   exact this
 ·exact ⟨a, kvs, e, .of h, k, r⟩
theorem MF : SndC G (fun xs H Q => ((∃ p ys, xs = [.ref p] ∧ (SqL G.K H p ys ∨ SqT G.K H p ys) ∧ ∀ l, H l = none → Q (.ref l) (upd H l (.lst ys))) ∨ ∃ p kvs, xs = [.ref p] ∧ Rd H p (.dK kvs) ∧ ∀ l, H l = none → Q (.ref l) (upd H l (.lst (kvs.map fun q => kV q.1)))) ∨
  ∃ p kvs, xs = [.ref p] ∧ Rd H p (.dT kvs) ∧ ∀ l (cs : List Addr), H l = none → cs.length = kvs.length → (∀ (i : Nat) (c : Addr) (q : List Key × V), cs[i]? = some c → kvs[i]? = some q → H c = some (.tup (q.1.map kV))) → Q (.ref l) (upd H l (.lst (cs.map V.ref)))) O7 := by
 intro A H x dx d Q lv rx h k
 unfold O7 at h
 split at h
 ·rename_i kds
  cases h
  obtain ⟨p, kvs, rfl, h1, h2, r⟩ := rx.dt
  have hl : kvs.length = kds.length := by have := congrArg List.length h2; rwa [List.length_map, List.length_map] at this
  refine .inr ⟨p, kvs, rfl, h1, fun l cs hfree hcs hc => k _ _ (Am hfree _) (Bt lv hfree ⟨by rw [List.length_map, List.length_map]; omega, fun i v dd e1 e2 => ?_⟩)⟩
  rw [List.getElem?_map] at e1 e2
  cases g1 : cs[i]? with
  | none => rw [g1] at e1; cases e1
  | some c =>
   cases g2 : kds[i]? with
   | none => rw [g2] at e2; cases e2
   | some qd =>
    rw [g1] at e1
    rw [g2] at e2
    cases e1
    cases e2
    have hi : i < kvs.length := by rw [hl]; exact (List.getElem?_eq_some_iff.mp g2).1
    have g3 : kvs[i]? = some kvs[i] := by simp [hi]
    have ek : (kvs[i]).1 = qd.1 := by
     have a1 : (kvs.map (·.1))[i]? = some (kvs[i]).1 := by rw [List.getElem?_map, g3]; rfl
     rw [h2, List.getElem?_map, g2] at a1
     exact (Option.some.inj a1).symm
    have ht := hc i c _ g1 g3
    rw [ek] at ht
    have nA : c ∉ A := fun z => (lv c z).tup _ ht
    have kr := O8 (G := G) (H := hid A H) qd.1
    exact .tup (.of (by rw [Bm nA]; exact ht)) kr.1 kr.2
 ·exact .inl (Tr A H x dx d Q lv rx h k)
end
end PV
namespace PV
open PySem PySem.Spec L2
open PyProof.Rows hiding St
section
variable {X : Cx} {G : Gx}
end
end PV
namespace PV
open PySem PySem.Spec L2
open PyProof.Rows hiding St
structure FunD (K : PySem.W.Frag) (x qual : Str) (st : Stmt) (f : Addr) (fd : FuncData) : Prop where
 ex : ∃ (oc : Value) (od : Option Addr) (dV kV doc pm : Value) (an : Option Addr) (cdv ct : Value) (osl : Array (Option Value)),
  fd = PySem.W.fnOf x qual (Bp st) (Aw st) (Ab st) dV kV doc pm an cdv ct ∧ K.lookup f = some ⟨oc, od, .func fd, osl⟩ ∧ PySem.W.codeIn K cdv qual = true
 kp : PySem.W.keepIn K (.ref f) = true
theorem Yt {K : PySem.W.Frag} {x qual : Str} {st : Stmt} {f : Addr} {oc : Value} {od an : Option Addr} {osl : Array (Option Value)} {dV kV doc pm cdv ct : Value} (l : K.lookup f = some ⟨oc, od, .func (PySem.W.fnOf x qual (Bp st) (Aw st) (Ab st) dV kV doc pm an cdv ct), osl⟩)
  (c : PySem.W.codeIn K cdv qual = true) (k : PySem.W.keepIn K (.ref f) = true) : FunD K x qual st f (PySem.W.fnOf x qual (Bp st) (Aw st) (Ab st) dV kV doc pm an cdv ct) := ⟨⟨oc, od, dV, kV, doc, pm, an, cdv, ct, osl, rfl, l, c⟩, k⟩
theorem FunD.binds {K : PySem.W.Frag} {x qual : Str} {st : Stmt} {f : Addr} {fd : FuncData} {ps : List Str} (F : FunD K x qual st f fd)
  (h : ∀ (dV kV doc pm : Value) (an : Option Addr) (cdv ct : Value) (us : List Value), us.length = ps.length → bindArgs (PySem.W.fnOf x qual (Bp st) (Aw st) (Ab st) dV kV doc pm an cdv ct) ⟨us, []⟩ = pure (ps.zip us)) : Binds K fd ps [] := by
 obtain ⟨oc, od, dV, kV, doc, pm, an, cdv, ct, osl, rfl, lk, hcd⟩ := F.ex
 exact .all (h dV kV doc pm an cdv ct)
theorem eO {P : Program} {w : World} {G : Gx} {mg : Str → Option Value} {base : Heap} {x qual : Str} {st : Stmt} {f : Addr} {fd : FuncData} {N ps : List Str} {k : Nat} {b : FS} (F : FunD G.K x qual st f fd) (S : FnScope N ps (Ab st)) (hl : ps.length ≤ N.length)
  (hb : ∀ (cdv : Value) (A : Around) (outer : List Env) (s : Shared) (H : Hp) (E : XK), Room k (A.deeper (envOfC qual (Ab st) s.heap.objs.size f cdv)) → PSDs (cxOf CX0 P w G.K mg base N qual (Ab st) f cdv A outer s H E).nox G (Aw st) b) :
  FnOk P w G.K mg base CX0 (k + 1) f fd ps (spD G (runF N.length ps.length b)) := by
 obtain ⟨oc, od, dV, kV, doc, pm, an, cdv, ct, osl, rfl, lk, hcd⟩ := F.ex
 refine Qo lk hcd S (fun vs H Q E h => ?_) (fun A outer s H vs Q E hr h => ?_)
 ·obtain ⟨A, ds, d, lv, r, e, _⟩ := h
  unfold runF at e
  split at e
  ·rename_i hz; rw [r.1]; exact hz
  ·cases e
 ·obtain ⟨A0, ds, d, lv, r, e, k⟩ := h
  unfold runF at e
  split at e
  ·rename_i hz
   refine ⟨_, (hb cdv A outer s H E hr A0 H).nox, Br N.length ds, ?_⟩
   cases e1 : b (Br N.length ds) with
   | none => simp [e1] at e
   | some o =>
    refine ⟨o, Ga lv r (by rw [r.1, hz]; exact hl), rfl, ?_⟩
    cases o with
    | nx ρ =>
     simp only [e1] at e
     cases e
     exact fun σ H' ⟨A, w⟩ => k _ H' w.same .non
    | rt d' ρ' =>
     simp only [e1] at e
     cases e
     exact fun v σ H' A w r' => k v H' w.same (r'.mono (Dd w.sub))
    | bk ρ => simp [e1] at e
    | ct ρ => simp [e1] at e
  ·cases e
end PV
namespace PV
open PySem L2
theorem Wg (l : List D) (y : D) : ixE (.lst l) y = ixD (.lst l) y := of_eq_true (eq_self _)
theorem Wh (l : List D) (y : D) : ixE (.tup l) y = ixD (.tup l) y := of_eq_true (eq_self _)
theorem Wi (l : Str) (y : D) : ixE (.str l) y = ixD (.str l) y := of_eq_true (eq_self _)
theorem Rc (k : List (Key × D)) (x : Str) : ixE (.dk k) (.str x) = getK (.inr x) k := of_eq_true (eq_self _)
theorem Rf (k : List (Key × D)) (x : Int) : ixE (.dk k) (.int x) = getK (.inl x) k := of_eq_true (eq_self _)
theorem Rg (l : List D) : lenE (.lst l) = some (.int l.length) := of_eq_true (eq_self _)
theorem Rh (l : List (Key × D)) : lenE (.dk l) = some (.int l.length) := of_eq_true (eq_self _)
theorem NQ (neg : Bool) (x : Str) (k : List (Key × D)) : inF neg (.str x) (.dk k) = some (.bl (if neg then !(getK (.inr x) k).isSome else (getK (.inr x) k).isSome)) := of_eq_true (eq_self _)
theorem NT (neg : Bool) (x : Int) (k : List (Key × D)) : inF neg (.int x) (.dk k) = some (.bl (if neg then !(getK (.inl x) k).isSome else (getK (.inl x) k).isSome)) := of_eq_true (eq_self _)
theorem Ri (neg : Bool) (x : Str) (l : List D) : inF neg (.str x) (.tup l) = inD neg (.str x) (.tup l) := of_eq_true (eq_self _)
theorem Rj (neg : Bool) (x : Str) (l : List D) : inF neg (.str x) (.lst l) = inD neg (.str x) (.lst l) := of_eq_true (eq_self _)
theorem Rk (neg : Bool) (x : Int) (l : List D) : inF neg (.int x) (.lst l) = inD neg (.int x) (.lst l) := of_eq_true (eq_self _)
def Jh (o : Option D) : Option (List D) := match o with | some (.str x) => some (O2 x) | some (.lst ds) => some ds | some (.tup ds) => some ds | some (.dk kds) => some (kds.map fun p => kDt p.1) | _ => none
theorem Ge (f : FE) (ρ : Rho) : seqA f ρ = Jh (f ρ) := by
 unfold seqA seqE Jh
 cases f ρ with
 | none => rfl
 | some d => cases d <;> rfl
theorem Rm (l : List D) : Jh (some (.lst l)) = some l := of_eq_true (eq_self _)
theorem Rn (l : List D) : Jh (some (.tup l)) = some l := of_eq_true (eq_self _)
theorem Ro (l : List (Key × D)) : Jh (some (.dk l)) = some (l.map fun p => kDt p.1) := of_eq_true (eq_self _)
def putO (i : Nat) (ρ : Rho) (x y v : Option D) : Option Out := v.bind fun v => y.bind fun y => x.bind fun x => (Ck x y v).map fun z => .nx (ρ.set i (.ow z))
theorem Rp (i : Nat) (fk fv : FE) (ρ : Rho) : putF i fk fv ρ = putO i ρ (getW ρ[i]?) (fk ρ) (fv ρ) := of_eq_true (eq_self _)
theorem NZ (i : Nat) (ρ : Rho) (x y v : D) : putO i ρ (some x) (some y) (some v) = (Ck x y v).map fun z => .nx (ρ.set i (.ow z)) := of_eq_true (eq_self _)
def Z4 (i : Nat) (ρ : Rho) (x : Option D) (y : Option (List D)) (v : Option D) : Option Out := v.bind fun v => y.bind fun y => x.bind fun x => (Hx x y v).map fun z => .nx (ρ.set i (.ow z))
theorem Wj (i : Nat) (fk : FA) (fv : FE) (ρ : Rho) : Oz i fk fv ρ = Z4 i ρ (getW ρ[i]?) (fk ρ) (fv ρ) := of_eq_true (eq_self _)
theorem Rq (i : Nat) (ρ : Rho) (x : D) (y : List D) (v : D) : Z4 i ρ (some x) (some y) (some v) = (Hx x y v).map fun z => .nx (ρ.set i (.ow z)) := of_eq_true (eq_self _)
def frzO (ρ : Rho) (i : Nat) (o : Option Slot) : Rho := match o with | some (.ow d) => ρ.set i (.fz d) | _ => ρ
theorem Z5 (g : FS) (ρ : Rho) : fzS [] g ρ = g ρ := of_eq_true (eq_self _)
theorem Z6 (i : Nat) (is : List Nat) (g : FS) (ρ : Rho) : fzS (i :: is) g ρ = fzS is g (frzO ρ i ρ[i]?) := of_eq_true (eq_self _)
theorem Wk (ρ : Rho) (i : Nat) (d : D) : frzO ρ i (some (.ow d)) = ρ.set i (.fz d) := of_eq_true (eq_self _)
theorem Wm (ρ : Rho) (i : Nat) (d : D) : frzO ρ i (some (.fz d)) = ρ := of_eq_true (eq_self _)
def itO (o : Option D) : Option (List D) := match o with | some (.dk kds) => some (kds.map fun p => .tup [kDt p.1, p.2]) | _ => none
theorem Rr (f : FE) (ρ : Rho) : HR f ρ = itO (f ρ) := of_eq_true (eq_self _)
theorem O9 (kds : List (Key × D)) : itO (some (.dk kds)) = some (kds.map fun p => .tup [kDt p.1, p.2]) := of_eq_true (eq_self _)
theorem Hz (i j : Nat) (a b : D) (ρ : Rho) : tupG 2 (Bv i (Bv j nilG)) (.tup [a, b]) ρ = some ((ρ.set i (.fz a)).set j (.fz b)) := of_eq_true (eq_self _)
theorem Ji (x : Str) : kDt (.inr x) = .str x := of_eq_true (eq_self _)
theorem Z7 (x : Int) : kDt (.inl x) = .int x := of_eq_true (eq_self _)
theorem JN {κ : Type} [DecidableEq κ] {k : κ} : ∀ {l : List (κ × D)}, k ∉ l.map (·.1) → getK k l = none
 | [], _ => rfl
 | p :: r, h => by
  unfold getK
  rw [List.map_cons, List.mem_cons, not_or] at h
  rw [if_neg (fun z => h.1 z.symm)]
  exact JN h.2
theorem putL_new {κ : Type} [DecidableEq κ] {k : κ} {v : D} {l : List (κ × D)} (h : k ∉ l.map (·.1)) : putL k v l = l ++ [(k, v)] := by
 unfold putL
 rw [JN h]
 rfl
theorem Nb (k : List (Key × D)) (x : Str) (v : D) (hl : k.length ≤ 1000000) : Ck (.dk k) (.str x) v = some (.dk (putL (.inr x) v k)) := by
 show (if k.length < sizeLine then some (D.dk (putL (.inr x) v k)) else none) = _
 rw [if_pos (Nat.lt_of_le_of_lt hl (by decide))]
theorem bx (k : List (Key × D)) (x : Int) (v : D) (hl : k.length ≤ 1000000) : Ck (.dk k) (.int x) v = some (.dk (putL (.inl x) v k)) := by
 show (if k.length < sizeLine then some (D.dk (putL (.inl x) v k)) else none) = _
 rw [if_pos (Nat.lt_of_le_of_lt hl (by decide))]
theorem bz (k : List (List Key × D)) (x y : Int) (v : D) (hl : k.length ≤ 1000000) : Hx (.dt k) [.int x, .int y] v = some (.dt (putL [.inl x, .inl y] v k)) := by
 show (if k.length < sizeLine ∧ 2 ≤ sizeLine then some (D.dt (putL [.inl x, .inl y] v k)) else none) = _
 rw [if_pos ⟨Nat.lt_of_le_of_lt hl (by decide), by decide⟩]
theorem Nf {g : FS} {ρ ρ' : Rho} {ε : Ef} (h : g ρ = some (.nx ρ')) (hn : noOw ρ' = true) : pureE g ρ ε = some (ρ', ε) := by
 unfold pureE
 rw [h]
 show (if noOw ρ' = true then some (ρ', ε) else none) = _
 rw [if_pos hn]
def Z8 (r : Option (Rho × Ef)) (gs : FEs) : Option (Rho × Ef) := r.bind fun r => gs r.1 r.2
theorem Ez (g gs : FEs) (ρ : Rho) (ε : Ef) : EY g gs ρ ε = Z8 (g ρ ε) gs := of_eq_true (eq_self _)
theorem De (gs : FEs) (ρ : Rho) (ε : Ef) : Z8 (some (ρ, ε)) gs = gs ρ ε := of_eq_true (eq_self _)
theorem b_ (ρ : Rho) (ε : Ef) : nilE ρ ε = some (ρ, ε) := of_eq_true (eq_self _)
theorem Wn {src : FI} {tg : FG} {b : FEs} {ρ : Rho} {ε : Ef} {ds : List D} (h : src ρ = some ds) : forE src tg b ρ ε = Eo tg b ds ρ ε := by
 unfold forE; rw [h]; rfl
end PV
namespace PV
open PySem L2
end PV
namespace PV
open PySem PySem.Spec L2
open PyProof.Rows hiding St
section
variable {X : Cx} {G : Gx} {a b c : Expr} {fa fb fc : FE} {pos p2 px : Pos}
theorem RepL.set {G : Gx} {H : Hp} {xs : List V} {ds : List D} (r : RepL G H xs ds) {v : V} {d : D} (q : Rep G H v d) (j : Nat) : RepL G H (xs.set j v) (ds.set j d) := by
 refine ⟨by rw [List.length_set, List.length_set]; exact r.1, fun i x e h1 h2 => ?_⟩
 by_cases h : j = i
 ·subst h
  rw [List.getElem?_set] at h1 h2
  simp only [if_true] at h1 h2
  split at h1
  ·split at h2
   ·cases h1; cases h2; exact q
   ·cases h2
  ·cases h1
 ·rw [List.getElem?_set_ne h] at h1 h2
  exact r.2 i x e h1 h2
end
end PV
namespace PV
open PySem PySem.Spec L2
open PyProof.Rows hiding St
section
variable {X : Cx} {G : Gx} {a b c : Expr} {fa fb fc : FE} {pos p2 : Pos} {es : List Expr} {fs : FA}
theorem vr (i : Nat) {x : Str} (hN : X.N[i]? = some x := by rfl) (hv : Vis X.env.scope x := by first | exact Or.inl rfl | exact Or.inr (Or.inl rfl) | exact Or.inr (Or.inr rfl)) (hd : (x == ("__debug__" : Str)) = false := by decide) (hcd : (x == ("__classdict__" : Str)) = false := by decide) : PF X G (.Name x pos) (vF i) := bH i (pv i hN hv hd hcd)
theorem vp (i : Nat) {x : Str} (hN : X.N[i]? = some x := by rfl) (hv : Vis X.env.scope x := by first | exact Or.inl rfl | exact Or.inr (Or.inl rfl) | exact Or.inr (Or.inr rfl)) (hd : (x == ("__debug__" : Str)) = false := by decide) (hcd : (x == ("__classdict__" : Str)) = false := by decide) : PU X G (.Name x pos) (vF i) := PF.pu (vr i hN hv hd hcd)
theorem pU {e : Expr} {f : FE} (h : PF X G e f) : PU X G e f := PF.pu h
theorem iP {i j} : PU X G (.Constant (.int i) j pos) (kF (.int i)) := PF.pu JD
theorem sP {x j} : PU X G (.Constant (.str x) j pos) (kF (.str x)) := PF.pu CJ
theorem iX {k : Nat} (hr : Room k X.A) (ha : PU X G a fa) (hb : PU X G b fb) (hG : G.K = X.K := by rfl) (hs : Hk b := by exact fun _ _ => rfl) : PF X G (.Subscript a b pos) (bF ixE fa fb) := bY (GF hr) hG ha hb hs
theorem iD (ha : PU X G a fa) (hb : PU X G b fb) (hG : G.K = X.K := by rfl) (hs : Hk b := by exact fun _ _ => rfl) : PF X G (.Subscript a b pos) (bF ixD fa fb) := dz hG ha hb hs
theorem bAdd (ha : PU X G a fa) (hb : PU X G b fb) (hG : G.K = X.K := by rfl) : PF X G (.BinOp a .Add b pos) (bF addD fa fb) := GZ YS (by rw [← hG]; exact YT) ha hb
theorem bSub (ha : PU X G a fa) (hb : PU X G b fb) : PF X G (.BinOp a .Sub b pos) (bF subD fa fb) := GZ ao YG ha hb
theorem bMul (ha : PU X G a fa) (hb : PU X G b fb) : PF X G (.BinOp a .Mult b pos) (bF mulD fa fb) := GZ YH YK ha hb
theorem bDiv (ha : PU X G a fa) (hb : PU X G b fb) : PF X G (.BinOp a .FloorDiv b pos) (bF Cy fa fb) := GZ Xr Vy ha hb
theorem bMod (ha : PU X G a fa) (hb : PU X G b fb) : PF X G (.BinOp a .Mod b pos) (bF modD fa fb) := GZ aq YL ha hb
theorem cEq {k : Nat} (hr : Room k X.A) (ha : PU X G a fa) (hb : PU X G b fb) (hG : G.K = X.K := by rfl) : PF X G (.Compare a [.Eq] [b] pos) (bF (eqD false) fa fb) := Vw (V4 hG hr.units) (QR false) ha hb (Ir _)
theorem tEq {k : Nat} (hr : Room k X.A) (ha : PU X G a fa) (hb : PU X G b fb) (hG : G.K = X.K := by rfl) : PFT X G (.Compare a [.Eq] [b] pos) (blF (bF (eqD false) fa fb)) := Dz (V4 hG hr.units) (QR false) ha hb (Ir _)
theorem tNe {k : Nat} (hr : Room k X.A) (ha : PU X G a fa) (hb : PU X G b fb) (hG : G.K = X.K := by rfl) : PFT X G (.Compare a [.NotEq] [b] pos) (blF (bF (eqD true) fa fb)) := Dz (bV hG hr.units) (QR true) ha hb (Ir _)
theorem cIn {k : Nat} (hr : Room k X.A) (ha : PU X G a fa) (hb : PU X G b fb) (hG : G.K = X.K := by rfl) (hm : behindInMarks .In b = false := by with_unfolding_all rfl) : PF X G (.Compare a [.In] [b] pos) (bF (inF false) fa fb) := Vw ((V2.or (QS (GF hr))).or (WT hG hr.units)) (by rw [← hG]; exact NB false) ha hb hm
theorem tIn {k : Nat} (hr : Room k X.A) (ha : PU X G a fa) (hb : PU X G b fb) (hG : G.K = X.K := by rfl) (hm : behindInMarks .In b = false := by with_unfolding_all rfl) : PFT X G (.Compare a [.In] [b] pos) (blF (bF (inF false) fa fb)) := Dz ((V2.or (QS (GF hr))).or (WT hG hr.units)) (by rw [← hG]; exact NB false) ha hb hm
theorem tNi {k : Nat} (hr : Room k X.A) (ha : PU X G a fa) (hb : PU X G b fb) (hG : G.K = X.K := by rfl) (hm : behindInMarks .NotIn b = false := by with_unfolding_all rfl) : PFT X G (.Compare a [.NotIn] [b] pos) (blF (bF (inF true) fa fb)) := Dz ((Tg.or (Tj (GF hr))).or (Tu hG hr.units)) (by rw [← hG]; exact NB true) ha hb hm
theorem tLt (ha : PU X G a fa) (hb : PU X G b fb) : PFT X G (.Compare a [.Lt] [b] pos) (blF (bF ltD fa fb)) := Dz dO bJ ha hb (Ir _)
theorem tGt (ha : PU X G a fa) (hb : PU X G b fb) : PFT X G (.Compare a [.Gt] [b] pos) (blF (bF gtD fa fb)) := Dz dR bK ha hb (Ir _)
theorem tGe (ha : PU X G a fa) (hb : PU X G b fb) : PFT X G (.Compare a [.GtE] [b] pos) (blF (bF geD fa fb)) := Dz dU bL ha hb (Ir _)
theorem sF (hN : X.N.Nodup) (i : Nat) {x : Str} {p : Pos} (ha : PF X G a fa) (hi : X.N[i]? = some x := by rfl) (hx : Loc X.env.scope x := by first | exact Or.inl rfl | exact Or.inr rfl) (hs : swapsWith a (some (.Name x p)) pos.line X.env = pure false := by rfl)
  (hf : X.fn x = true ∨ X.env.scope.names.lookup x = some .local := by first | exact .inl rfl | exact .inr rfl | assumption) : PSD X G (.Assign [.Name x p] a pos) (setF i fa) := Yc (fun _ h => Pu hN hi hx h hs hf) ha
theorem sW (hN : X.N.Nodup) (i : Nat) {x : Str} {p : Pos} (ha : PN X G a fa) (hi : X.N[i]? = some x := by rfl) (hx : Loc X.env.scope x := by first | exact Or.inl rfl | exact Or.inr rfl) (hs : swapsWith a (some (.Name x p)) pos.line X.env = pure false := by rfl)
  (hf : X.fn x = true ∨ X.env.scope.names.lookup x = some .local := by first | exact .inl rfl | exact .inr rfl | assumption) (hi0 : i ≠ 0 := by decide) : PSD X G (.Assign [.Name x p] a pos) (setW i fa) := WD (fun _ h => Pu hN hi hx h hs hf) ha hi0
theorem gN (hN : X.N.Nodup) (i : Nat) {x : Str} (hi : X.N[i]? = some x := by rfl) (hx : Loc X.env.scope x := by first | exact Or.inl rfl | exact Or.inr rfl) (hf : X.fn x = true ∨ X.env.scope.names.lookup x = some .local := by first | exact .inl rfl | exact .inr rfl | assumption) : PG X (.Name x pos) (G_ i) := Xo hN hi hx hf
theorem cO {N : List Str} {sc scope : Scope} {t : Str} (hN : X.N = N) (hs : X.env.scope = sc) (h : M5 N sc scope t = true := by decide +kernel) : CompOk X scope t := Th hN hs h
abbrev nT (N : List Str) (t : Str) : List Str := N ++ [t]
structure Dx (K : PySem.W.Frag) (mg : Str → Option Value) (x : Str) (st : Stmt) (ps : List Str) where
 f : Addr
 fd : FuncData
 F : FunD K x x st f fd
 B : Binds K fd ps []
 m : mg x = some (.ref f)
abbrev DOk (P : Program) (w : World) (base : Heap) {K : PySem.W.Frag} {mg : Str → Option Value} {x : Str} {st : Stmt} {ps : List Str} (d : Dx K mg x st ps) (k : Nat) (sp : Sp) : Prop := FnOk P w K mg base CX0 k d.f d.fd ps sp
theorem fX {k k' : Nat} {x : Str} {st : Stmt} {ps : List Str} {p : Pos} {d : Dx X.K X.mg x st ps} {g : List D → Option D} (F : FnOk X.prog X.w X.K X.mg X.base CX0 k d.f d.fd ps (spD G g)) (hr : Room k' X.A) (ha : PFA X G (a :: es) fs) (hle : k ≤ k' := by omega) (hg : Gl X x := by rfl) (hdb : (x == ("__debug__" : Str)) = false := by decide)
  (he : starEach (a :: es) X.env = (false, eval a X.env) :: starEach es X.env := by rfl) (hpl : (backTo pos (starEach es X.env)).any (·.1) = false := by rfl) : PF X G (.Call (.Name x p) (a :: es) [] pos) (Al g fs) := d8 F (hr.mono hle) hg d.m d.F.kp d.B ha hdb he hpl
end
section
variable {K : PySem.W.Frag} {h : Heap} {mg : Str → Option Value} {x qual : Str} {st : Stmt} {ps : List Str} {f C : Addr} {oc : Value} {od an : Option Addr} {osl : Array (Option Value)} {dV kV doc pm cdv ct : Value}
theorem fnX {P : Program} {w : World} {G : Gx} {base : Heap} {N : List Str} {k : Nat} {b : FS} (d : Dx G.K mg x st ps) (S : FnScope N ps (Ab st))
  (hb : ∀ (cdv : Value) (A : Around) (outer : List Env) (s : Shared) (H : Hp) (E : XK), Room k (A.deeper (envOfC x (Ab st) s.heap.objs.size d.f cdv)) → PSDs (cxOf CX0 P w G.K mg base N x (Ab st) d.f cdv A outer s H E).nox G (Aw st) b) (hl : ps.length ≤ N.length := by decide) :
  FnOk P w G.K mg base CX0 (k + 1) d.f d.fd ps (spD G (runF N.length ps.length b)) := eO d.F S hl hb
def dx (X : K.In h) (N : h.Ns mainGlobals mg) (a : PySem.W.nsIn K mainGlobals x = some (some (.ref f))) (l : K.lookup f = some ⟨oc, od, .func (PySem.W.fnOf x x (Bp st) (Aw st) (Ab st) .none kV doc pm an cdv ct), osl⟩) (c : PySem.W.codeIn K cdv x = true) (k : PySem.W.keepIn K (.ref f) = true)
  (b : ∀ (kV doc pm : Value) (an : Option Addr) (cdv ct : Value) (us : List Value), us.length = ps.length → bindArgs (PySem.W.fnOf x x (Bp st) (Aw st) (Ab st) .none kV doc pm an cdv ct) ⟨us, []⟩ = pure (ps.zip us)) : Dx K mg x st ps := ⟨f, _, Yt l c k, (HQ l c k).binds b, PySem.W.mg_of X N a⟩
structure Ix (K : PySem.W.Frag) (C : Addr) (qual : Str) (st : Stmt) (ps : List Str) where
 f : Addr
 fd : FuncData
 F : Fun K "__init__" qual st f fd
 B : Binds K fd ps []
 mM : Mk K C f
def ix (X : K.In h) (m : PySem.W.makesIn K C = true) (kc : PySem.W.keepIn K (.ref C) = true) (a : PySem.W.findIn K (.ref C) "__init__" = some (some (.ref f))) (i : PySem.W.isFn K (.ref f) = true) (l : K.lookup f = some ⟨oc, od, .func (PySem.W.fnOf "__init__" qual (Bp st) (Aw st) (Ab st) .none kV doc pm an cdv ct), osl⟩) (c : PySem.W.codeIn K cdv qual = true) (k : PySem.W.keepIn K (.ref f) = true)
  (b : ∀ (kV doc pm : Value) (an : Option Addr) (cdv ct : Value) (us : List Value), us.length = ps.length → bindArgs (PySem.W.fnOf "__init__" qual (Bp st) (Aw st) (Ab st) .none kV doc pm an cdv ct) ⟨us, []⟩ = pure (ps.zip us)) : Ix K C qual st ps := ⟨f, _, HQ l c k, (HQ l c k).binds b, m, a, i, kc⟩
structure Sx (mg : Str → Option Value) (x : Str) (f : Tok → Value) where
 t : Tok
 m : mg x = some (f t)
structure Kx (G : Gx) (mg : Str → Option Value) (x : Str) (c : D) where
 a : Addr
 m : mg x = some (.ref a)
 r : Rep G (fun _ => none) (.ref a) c
def sx {t : Tok} {f : Tok → Value} (X : K.In h) (N : h.Ns mainGlobals mg) (a : PySem.W.nsIn K mainGlobals x = some (some (f t))) : Sx mg x f := ⟨t, PySem.W.mg_of X N a⟩
def gx1 (K : PySem.W.Frag) (cn : Str) (C : Addr) : Gx := { K := K, cl := fun c => if c = cn then some C else none }
theorem cls (X : K.In h) (pg : PySem.W.plainGet K C Str.empty = true) (hd : PySem.W.hasDictIn K C = true) (po : PySem.W.plainOver K C = true) (sa : PySem.W.findIn K (.ref C) "__setattr__" = some (some (.builtin "object.__setattr__"))) : Cls K C := ⟨pg, hd, po, sa⟩
theorem rtx {cn : Str} {g : Addr} {n : Nat} {its : Array Value} {xs : List Str} (X : K.In h) (l : K.lookup g = some ⟨.type "tuple", od, .seq its n, osl⟩) (hz : its.size ≤ sizeLine) (r : Vals (xs.map V.str) its.toList) : Rep (gx1 K cn C) (fun _ => none) (.ref g) (.tup (xs.map .str)) := Lx l hz r
def kx {cn : Str} {g : Addr} {n : Nat} {its : Array Value} {xs : List Str} (X : K.In h) (N : h.Ns mainGlobals mg) (a : PySem.W.nsIn K mainGlobals x = some (some (.ref g))) (l : K.lookup g = some ⟨.type "tuple", od, .seq its n, osl⟩) (hz : its.size ≤ sizeLine) (r : Vals (xs.map V.str) its.toList) : Kx (gx1 K cn C) mg x (.tup (xs.map .str)) := ⟨g, PySem.W.mg_of X N a, rtx X l hz r⟩
end
end PV
namespace PV
open PySem L2
end PV
namespace PV
open PySem PySem.Spec L2
open PyProof.Rows hiding St
section
variable {X : Cx} {G : Gx} {a : Expr} {fa : FE} {pos : Pos} {es : List Expr} {fs : FA}
end
end PV
namespace PV
open PySem L2
end PV
namespace PV
open PySem PySem.Spec L2
open PyProof.Rows hiding St
section
variable {X : Cx} {G : Gx} {a b c : Expr} {fa fb fc : FE} {pos p2 : Pos}
end
end PV
namespace PV
open PySem PySem.Spec L2 EX
open PyProof.Rows hiding St
def CX1 (P : Program) (w : World) : CXT := fun outer H s E v s' => ∃ (e : Addr) (H' : Hp), v = .ref e ∧ s'.os = s.os ∧ AllBare s'.gens ∧ Un (frs outer) [] H H' s.heap s'.heap ∧ HOk P w H' s'.heap ∧ E v none H'
structure Exc (G : Gx) (He H : Hp) (e : Addr) (tb : Option Addr) (c : Str) (gs : List (Str × D)) : Prop where
 ex : ∃ C dx fs, G.xcl c = some C ∧ H e = some (excO e C (some dx) tb) ∧ H dx = some (.xd fs) ∧ FsV fs gs ∧ He dx = none
 same : Same He H
 new : He e = none
 tbk : ∀ T, tb = some T → H T = some (tbO T .none) ∧ He T = none
theorem Exc.base {G : Gx} {He Hf H : Hp} {e : Addr} {tb : Option Addr} {c : Str} {gs : List (Str × D)} (x : Exc G Hf H e tb c gs) (s : Same He Hf) : Exc G He H e tb c gs :=
 ⟨let ⟨C, dx, fs, q1, q2, q3, q4, q5⟩ := x.ex; ⟨C, dx, fs, q1, q2, q3, q4, s.free q5⟩, s.trans x.same, s.free x.new, fun T h => ⟨(x.tbk T h).1, s.free (x.tbk T h).2⟩⟩
section
variable {X : Cx} {pins : List (Addr × Obj)} {σ : St} {G : Gx} {He H : Hp} {s : Shared} {e : Addr} {tb : Option Addr} {c : Str} {gs : List (Str × D)}
theorem O_ {E : Value → Shared → Prop} {Q : Unit → Shared → Prop} {M : Model} {L : Addr} (hst : X.stack = X.env :: X.outer) (hf : X.env.frame = some L) (I : Inv X pins σ H s) (x : Exc G He H e tb c gs)
  (k : ∀ T H' s', Inv X pins σ H' s' → Exc G He H' e (some T) c gs → Q () s') :
  wpAny M X.A (noteFrame (.ref e) X.env) (fun _ s₂ => wpAny M X.A (setFlight (.ref e) none) Q E s₂) E s := by
 obtain ⟨C, dx, fs, q1, q2, q3, q4, q5⟩ := x.ex
 refine X_ hst hf I q2 (fun T h => (x.tbk T h).1) fun T H' s' n => k T H' s' n.inv ?_
 have ncb : ∀ b u, H b = some u → (∀ φ, u ≠ .ext φ) → b ≠ e ∧ tb ≠ some b := fun b u q z => ⟨fun w => by subst w; rw [q2] at q; cases q; exact z _ rfl, fun w => by
  have := (x.tbk b w).1; rw [this] at q; cases q; exact z _ rfl⟩
 refine ⟨⟨C, dx, fs, q1, n.exc, n.rest dx _ (ncb dx _ q3 fun _ z => nomatch z).1 (ncb dx _ q3 fun _ z => nomatch z).2 q3, q4, q5⟩, fun b u h => n.rest b u (fun z => by rw [z, x.new] at h; cases h) (fun z => by rw [(x.tbk b z).2] at h; cases h) (x.same b u h), x.new, fun T' h => ?_⟩
 cases h
 exact ⟨n.tbk, x.same.free n.new⟩
end
def Rz (X : Cx) (G : Gx) (A0 : List Addr) (He : Hp) (c : Str) (gs : List (Str × D)) (ρ : Rho) : Prop := ∀ pins σ H1 H s e tb, Inv X pins σ H s → OkS G A0 He σ H1 ρ → Exc G H1 H e tb c gs → X.xe (.ref e) s
def excOf : D → Option (Str × List (Str × D))
 | .exc c gs => some (c, gs)
 | _ => none
def RzO (X : Cx) (G : Gx) (A0 : List Addr) (He : Hp) (d : D) (ρ : Rho) : Prop := ∀ c gs, excOf d = some (c, gs) → Rz X G A0 He c gs ρ
def OutX (X : Cx) (G : Gx) (A0 : List Addr) (He : Hp) : Out → Prop
 | .rt d ρ => RzO X G A0 He d ρ
 | _ => True
def tSZ (X : Cx) (G : Gx) (A0 : List Addr) (He : Hp) (g : FS) : TS := fun D σ H => ∃ ρ o, OkS G A0 He σ H ρ ∧ g ρ = some o ∧ Ke G A0 He D o ∧ OutX X G A0 He o
def PSZ (X : Cx) (G : Gx) (st : Stmt) (g : FS) : Prop := ∀ A0 He, PS X st (tSZ X G A0 He g)
def PSZs (X : Cx) (G : Gx) (st : List Stmt) (g : FS) : Prop := ∀ A0 He, PSs X st (tSZ X G A0 He g)
def tFZ (X : Cx) (G : Gx) (A0 : List Addr) (He : Hp) (f : FE) : TE := fun σ H Q => ∃ ρ d A, OkW G A0 He A σ H ρ ∧ f ρ = some d ∧ (∀ v H', Same H H' → Rep G (hid A H') v d → Q v H') ∧ RzO X G A0 He d ρ
def PFZ (X : Cx) (G : Gx) (e : Expr) (f : FE) : Prop := ∀ A0 He, PE X e (tFZ X G A0 He f)
def MJ (f : FE) : FS := fun ρ => (f ρ).map fun d => match excOf d with | some _ => .rt d ρ | none => .nx ρ
def setZ (i : Nat) (f : FE) : FS := fun ρ => (f ρ).map fun d => match excOf d with | some _ => .rt d ρ | none => .nx (ρ.set i (.fz d))
section
variable {X : Cx} {G : Gx} {a b c tg : Expr} {fa fb fc : FE} {ga : FT} {pos p2 : Pos} {st : Stmt} {rest body : List Stmt} {g gs gb : FS}
theorem PSD.x (h : PSD X G st g) : PSZ X G st g := fun A0 He pins s σ H D I ⟨ρ, o, ok, e, k, _⟩ => h A0 He pins s σ H D I ⟨ρ, o, ok, e, k⟩
theorem PF.x (h : PF X G a fa) : PFZ X G a fa := fun A0 He pins s σ H Q I ⟨ρ, d, A, w, e, k, _⟩ => h A pins s σ H Q I ⟨ρ, d, w.ok, e, k⟩
theorem Ng : PSZs X G [] nxF := fun A0 He pins s σ H D I ⟨ρ, o, ok, e, k, _⟩ => Bq A0 He pins s σ H D I ⟨ρ, o, ok, e, k⟩
theorem Dq (h1 : PSZ X G st g) : PSZs X G [st] g := fun A0 He => Hh (h1 A0 He)
theorem Gf (h1 : PSZ X G st g) (h2 : PSZs X G rest gs) : PSZs X G (st :: rest) (seqF g gs) := fun A0 He pins s σ H D I ⟨ρ, o, ok, e, k, kx⟩ => by
 refine FP (h1 A0 He) (h2 A0 He) pins s σ H D I ?_
 unfold seqF at e
 split at e
 ·rename_i ρ' e1
  exact ⟨ρ, _, ok, e1, fun σ' H' ok' => ⟨ρ', o, ok', e, k, kx⟩, trivial⟩
 ·rename_i hno
  refine ⟨ρ, o, ok, e, ?_, kx⟩
  cases o with
  | nx ρ' => exact absurd e (hno ρ')
  | rt d ρ' => exact k
  | bk ρ' => exact k
  | ct ρ' => exact k
theorem Nh {s1 s2 : List Stmt} (ht : PFT X G c ga) (h1 : PSZs X G s1 g) (h2 : PSZs X G s2 gs) : PSZ X G (.If c s1 s2 pos) (ifS ga g gs) := fun A0 He pins s σ H D I ⟨ρ, o, ⟨A, w⟩, e, k, kx⟩ => by
 refine UG (ht A) (h1 A0 He) (h2 A0 He) pins s σ H D I ?_
 unfold ifS at e
 split at e
 ·rename_i e1
  exact ⟨ρ, _, w.ok, e1, fun H1 s1 => iteT ⟨ρ, o, ⟨A, w.mono s1⟩, e, k, kx⟩⟩
 ·rename_i e1
  exact ⟨ρ, _, w.ok, e1, fun H1 s1 => iteF ⟨ρ, o, ⟨A, w.mono s1⟩, e, k, kx⟩⟩
 ·cases e
theorem Qa {H : Hp} {v : V} {d : D} (r : Rep G H v d) : excOf d = none := by cases r <;> rfl
theorem Km (ha : PFZ X G a fa) (hs : swapsWith a none pos.line X.env = pure false := by rfl) : PSZ X G (.Expr a pos) (MJ fa) := fun A0 He pins s σ H D I ⟨ρ, o, ⟨A, w⟩, e, k, kx⟩ => by
 refine Hi (ha A0 He) hs pins s σ H D I ?_
 unfold MJ at e
 cases e1 : fa ρ with
 | none => simp [e1] at e
 | some d =>
  simp only [e1, Option.map_some] at e
  cases e2 : excOf d with
  | none =>
   simp only [e2] at e
   cases e
   exact ⟨ρ, d, A, w, e1, fun v H1 s1 r1 => k _ _ ⟨A, w.mono s1⟩, fun c gs z => by rw [e2] at z; cases z⟩
  | some q =>
   simp only [e2] at e
   cases e
   exact ⟨ρ, d, A, w, e1, fun v H1 s1 r1 => absurd e2 (by rw [Qa r1]; simp), kx⟩
theorem Yu {i : Nat} {x : Str} {p : Pos} (h : ∀ te, PE X a te → PS X (.Assign [.Name x p] a pos) (tAsg te (G_ i))) (ha : PFZ X G a fa) : PSZ X G (.Assign [.Name x p] a pos) (setZ i fa) := fun A0 He pins s σ H D I ⟨ρ, o, ⟨A, w⟩, e, k, kx⟩ => by
 refine h _ (ha A0 He) pins s σ H D I ?_
 unfold setZ at e
 cases e1 : fa ρ with
 | none => simp [e1] at e
 | some d =>
  simp only [e1, Option.map_some] at e
  cases e2 : excOf d with
  | none =>
   simp only [e2] at e
   cases e
   exact ⟨ρ, d, A, w, e1, fun v H1 s1 r1 => k _ _ ⟨A, (w.mono s1).set r1 i⟩, fun c gs z => by rw [e2] at z; cases z⟩
  | some q =>
   simp only [e2] at e
   cases e
   exact ⟨ρ, d, A, w, e1, fun v H1 s1 r1 => absurd e2 (by rw [Qa r1]; simp), kx⟩
end
def Rt (X : Cx) (σ : St) : XK := fun v _ H' => ∀ pins s', Inv X pins σ H' s' → X.xe v s'
def XW (G : Gx) (He : Hp) (d : D) (E : XK) : Prop := ∀ c gs, excOf d = some (c, gs) → ∀ e T H', Exc G He H' e (some T) c gs → E (.ref e) none H'
def spZ (G : Gx) (g : List D → Option D) : Sp := fun vs H Q E => ∃ A ds d, (∀ a ∈ A, Nt (H a)) ∧ RepL G (hid A H) vs ds ∧ g ds = some d ∧ (∀ v H', Same H H' → Rep G (hid A H') v d → Q v H') ∧ XW G H d E
section
variable {X : Cx} {k : Nat} {f C : Addr} {fd : FuncData} {ps : List Str} {sp : Sp} {x m : Str} {p pos apos : Pos} {e o : Expr} {es : List Expr} {ta : TE} {t : TA}
theorem Ru {pins : List (Addr × Obj)} {σ : St} {H : Hp} {s : Shared} {Q : VK} {us : List Value} {vs : List V} (F : FnOk X.prog X.w X.K X.mg X.base (CX1 X.prog X.w) k f fd ps sp) (hr : Room k X.A) (hb : Binds X.K fd ps [])
  (I : Inv X pins σ H s) (r : Vals vs us) (h : sp vs H Q (Rt X σ)) : wpAny (model X.prog X.w) X.A (call (.ref f) us) (EP X pins σ Q) X.xe s := by
 have hl : us.length = ps.length := by rw [← r.length]; exact F.len _ _ _ _ h
 have hb' := hb s us I.kIn (by rw [List.append_nil]; exact hl)
 rw [List.append_nil] at hb'
 refine wpAny_call (codeAny_mono (F.run X.A X.stack s H ⟨us, []⟩ us vs Q _ hr I.env0 hb' r h) fun r s' hq => ?_)
 cases r with
 | error v =>
  obtain ⟨e, H', rfl, q1, q2, q3, q4, q5⟩ := hq
  exact q5 pins s' (I.call' q1 q3 q4 q2 fun _ z => nomatch z)
 | ok fl =>
  cases fl with
  | ret u => exact I.after hq
  | next => exact False.elim hq
  | brk => exact False.elim hq
  | cont => exact False.elim hq
def cA (X : Cx) (sp : Sp) (t : TA) : TE := fun σ H Q => t σ H fun vs H1 => sp vs H1 Q (Rt X σ)
theorem Wo (F : FnOk X.prog X.w X.K X.mg X.base (CX1 X.prog X.w) k f fd ps sp) (hr : Room k X.A) (hg : Gl X x) (hm : X.mg x = some (.ref f)) (hk : PySem.W.keepIn X.K (.ref f) = true) (hb : Binds X.K fd ps [])
  (ha : PA X (e :: es) t) (hdb : (x == ("__debug__" : Str)) = false := by decide) (he : starEach (e :: es) X.env = (false, eval e X.env) :: starEach es X.env := by rfl) (hpl : (backTo pos (starEach es X.env)).any (·.1) = false := by rfl) :
  PE X (.Call (.Name x p) (e :: es) [] pos) (cA X sp t) := by
 intro pins s σ H Q I h
 refine wpAny_Call_Name_kw (Fl I hg hm ?_ hdb)
 refine PySem.W.callWith_K (h₀ := X.base) I.ok.mod.kin hk (thn (ha pos pins s σ H _ I h) fun us s1 ⟨vs, H1, I1, r, q⟩ => ⟨I1.kIn, ?_⟩) he hpl
 exact Ru F hr hb I1 r q
def cB (X : Cx) (C : Addr) (m : Str) (sp : Sp) (ta : TE) (t : TA) : TE := fun σ H Q => ta σ H fun x H1 => ∃ a dx fs, x = .ref a ∧ H1 a = some (.ins C dx fs) ∧ fs.lookup m = none ∧ t σ H1 fun vs H2 => sp (x :: vs) H2 Q (Rt X σ)
theorem Wq {pl : Sem Bool} (he : PE X o ta) (c : Cls X.K C) (hm : Meth X.K C m f) (F : FnOk X.prog X.w X.K X.mg X.base (CX1 X.prog X.w) k f fd ps sp) (hr : Room k X.A) (hb : Binds X.K fd ps []) (ha : PA X (e :: es) t)
  (hst : starEach (e :: es) X.env = (false, eval e X.env) :: starEach es X.env := by rfl) (hpl : (backTo pos (starEach es X.env)).any (·.1) = false := by rfl)
  (ht : eval (.Call (.Attribute o m apos) (e :: es) [] pos) X.env = (do
   let ov ← eval o X.env
   standAt apos.atName
   let (f, first) ← holding [ov] (getMethod ov m pl)
   callWith pos f first (backTo pos (starEach (e :: es) X.env)) (backToKw pos (keywordEach [] X.env))) := by rfl) :
  PE X (.Call (.Attribute o m apos) (e :: es) [] pos) (cB X C m sp ta t) := by
 intro pins s σ H Q I h
 refine PySem.W.methodCall_KW (pl := pl) (thn (he pins s σ H _ I h) fun u s1 ⟨x, H1, I1, rx, a, dx, fs, ex, ea, l, q⟩ => ?_) ht
 subst ex
 obtain rfl : u = Value.ref a := rx
 refine J_ I1 ea c hm l ?_
 refine PySem.W.callWith_K (first := [.ref a]) (h₀ := X.base) I.ok.mod.kin hm.kp (thn (ha pos pins s1 σ H1 _ I1 q) fun us s2 ⟨vs, H2, I2, r, q2⟩ => ⟨I2.kIn, ?_⟩) hst hpl
 exact Ru (us := .ref a :: us) (vs := .ref a :: vs) F hr hb I2 (.cons rfl r) q2
end
section
variable {X : Cx} {G : Gx} {a ob : Expr} {es : List Expr} {fs : FA} {fo : FE} {pos p apos : Pos} {A0 : List Addr} {He : Hp}
theorem Z9 {σ : St} {H1 : Hp} {A : List Addr} {ρ : Rho} {d : D} (w : OkW G A0 He A σ H1 ρ) (kx : RzO X G A0 He d ρ) : XW G H1 d (Rt X σ) := fun c gs z e T H' x pins s' I => kx c gs z pins σ H1 H' s' e (some T) I ⟨A, w⟩ x
theorem cC {k : Nat} {f : Addr} {fd : FuncData} {ps : List Str} {g : List D → Option D} {x : Str} (F : FnOk X.prog X.w X.K X.mg X.base (CX1 X.prog X.w) k f fd ps (spZ G g)) (hr : Room k X.A) (hg : Gl X x) (hm : X.mg x = some (.ref f)) (hk : PySem.W.keepIn X.K (.ref f) = true)
  (hb : Binds X.K fd ps []) (ha : PFA X G (a :: es) fs) (hdb : (x == ("__debug__" : Str)) = false := by decide) (he : starEach (a :: es) X.env = (false, eval a X.env) :: starEach es X.env := by rfl) (hpl : (backTo pos (starEach es X.env)).any (·.1) = false := by rfl) :
  PFZ X G (.Call (.Name x p) (a :: es) [] pos) (Al g fs) := fun A0 He pins s σ H Q I ⟨ρ, d, A, w, e, k, kx⟩ => by
 refine Wo F hr hg hm hk hb (ha A) hdb he hpl pins s σ H Q I ?_
 unfold Al at e
 cases e1 : fs ρ with
 | none => simp [e1] at e
 | some ds =>
  have e' : g ds = some d := by simpa [e1] using e
  exact ⟨ρ, ds, w.ok, e1, fun vs H1 s1 r1 => ⟨A, ds, d, (w.mono s1).ok.live, r1, e', fun v H2 s2 r2 => k v H2 (s1.trans s2) r2, Z9 (w.mono s1) kx⟩⟩
def Ep (c m : Str) : D → Bool
 | .ob c' gs => c' == c && (gs.lookup m).isNone
 | _ => false
def HD (c m : Str) (g : List D → Option D) (fo : FE) (fs : FA) : FE := fun ρ => (fo ρ).bind fun o => if Ep c m o = true then (fs ρ).bind fun ds => g (o :: ds) else none
theorem MK {fs : List (Str × V)} {gs : List (Str × D)} {m : Str} (h : fs.map (·.1) = gs.map (·.1)) (n : gs.lookup m = none) : fs.lookup m = none := by
 induction fs generalizing gs with
 | nil => rfl
 | cons p r ih =>
  cases gs with
  | nil => cases h
  | cons q t =>
   obtain ⟨a, b⟩ := p; obtain ⟨a', b'⟩ := q
   simp only [List.map_cons, List.cons.injEq] at h
   obtain ⟨rfl, h2⟩ := h
   simp only [List.lookup] at n ⊢
   split at n
   ·cases n
   ·exact ih h2 n
theorem Wr {k : Nat} {f C : Addr} {fd : FuncData} {ps : List Str} {g : List D → Option D} {c m : Str} {pl : Sem Bool} (ho : PF X G ob fo) (hc : G.cl c = some C) (cl : Cls X.K C) (hm : Meth X.K C m f) (F : FnOk X.prog X.w X.K X.mg X.base (CX1 X.prog X.w) k f fd ps (spZ G g)) (hr : Room k X.A) (hb : Binds X.K fd ps []) (ha : PFA X G (a :: es) fs)
  (hst : starEach (a :: es) X.env = (false, eval a X.env) :: starEach es X.env := by rfl) (hpl : (backTo pos (starEach es X.env)).any (·.1) = false := by rfl)
  (ht : eval (.Call (.Attribute ob m apos) (a :: es) [] pos) X.env = (do
   let ov ← eval ob X.env
   standAt apos.atName
   let (f, first) ← holding [ov] (getMethod ov m pl)
   callWith pos f first (backTo pos (starEach (a :: es) X.env)) (backToKw pos (keywordEach [] X.env))) := by rfl) :
  PFZ X G (.Call (.Attribute ob m apos) (a :: es) [] pos) (HD c m g fo fs) := fun A0 He pins s σ H Q I ⟨ρ, d, A, w, e, k, kx⟩ => by
 refine Wq (ho A) cl hm F hr hb (ha A) hst hpl ht pins s σ H Q I ?_
 unfold HD at e
 cases e0 : fo ρ with
 | none => simp [e0] at e
 | some o =>
  rw [e0] at e
  have e' : (if Ep c m o = true then (fs ρ).bind fun ds => g (o :: ds) else none) = some d := e
  split at e'
  ·rename_i hob
   cases e1 : fs ρ with
   | none => simp [e1] at e'
   | some ds =>
    have e2 : g (o :: ds) = some d := by simpa [e1] using e'
    refine ⟨ρ, o, w.ok, e0, fun v H1 s1 r1 => ?_⟩
    cases o with
    | ob c' gs =>
     simp only [Ep, Bool.and_eq_true, beq_iff_eq, Option.isNone_iff_eq_none] at hob
     obtain ⟨rfl, hn⟩ := hob
     cases r1 with
     | ob hC h1 l1 r2 =>
      rw [hc] at hC
      cases hC
      refine ⟨_, _, _, rfl, Ai _ _ h1, MK l1 hn, ρ, ds, (w.mono s1).ok, e1, fun vs H2 s2 r3 => ?_⟩
      refine ⟨A, .ob c' gs :: ds, d, ((w.mono s1).mono s2).ok.live, .cons (Rep.mono (.ob hc h1 l1 r2) (Aq s2)) r3, e2, fun v H3 s3 r4 => k v H3 ((s1.trans s2).trans s3) r4, Z9 ((w.mono s1).mono s2) kx⟩
    | _ => simp [Ep] at hob
  ·cases e'
end
theorem Ws {P : Program} {w : World} {G : Gx} {mg : Str → Option Value} {base : Heap} {N : List Str} {qual : Str} {scope : Scope} {f : Addr} {cd : Value} {A : Around} {outer : List Env} {s : Shared} {H : Hp} {E : XK} {A0 : List Addr} {d : D} {ρ : Rho} (h : XW G H d E) :
  RzO (cxOf (CX1 P w) P w G.K mg base N qual scope f cd A outer s H E) G A0 H d ρ := fun c gs z pins σ H1 H2 s2 e tb I ⟨A1, ok⟩ x => by
 show wpAny _ _ (leaving _ _) _ _ _
 unfold leaving
 refine wpAny_bind (O_ (X := cxOf (CX1 P w) P w G.K mg base N qual scope f cd A outer s H E) rfl rfl I (x.base ok.same) fun T H' s' I' x' => ?_)
 exact ⟨e, H', rfl, I'.os, I'.bare, I'.base, I'.hok, h c gs z e T H' x'⟩
theorem fn_Z {P : Program} {w : World} {G : Gx} {mg : Str → Option Value} {base : Heap} {x qual : Str} {st : Stmt} {f : Addr} {fd : FuncData} {N ps : List Str} {k : Nat} {b : FS} (F : Fun G.K x qual st f fd) (S : FnScope N ps (Ab st)) (hl : ps.length ≤ N.length)
  (hb : ∀ (cdv : Value) (A : Around) (outer : List Env) (s : Shared) (H : Hp) (E : XK), Room k (A.deeper (envOfC qual (Ab st) s.heap.objs.size f cdv)) → PSZs (cxOf (CX1 P w) P w G.K mg base N qual (Ab st) f cdv A outer s H E) G (Aw st) b) :
  FnOk P w G.K mg base (CX1 P w) (k + 1) f fd ps (spZ G (runF N.length ps.length b)) := by
 obtain ⟨oc, od, kV, doc, pm, an, cdv, ct, osl, rfl, lk, hcd⟩ := F.ex
 refine Qo lk hcd S (fun vs H Q E h => ?_) (fun A outer s H vs Q E hr h => ?_)
 ·obtain ⟨A, ds, d, lv, r, e, _⟩ := h
  unfold runF at e
  split at e
  ·rename_i hz; rw [r.1]; exact hz
  ·cases e
 ·obtain ⟨A0, ds, d, lv, r, e, k, kx⟩ := h
  unfold runF at e
  split at e
  ·rename_i hz
   refine ⟨_, hb cdv A outer s H E hr A0 H, Br N.length ds, ?_⟩
   cases e1 : b (Br N.length ds) with
   | none => simp [e1] at e
   | some o =>
    refine ⟨o, Ga lv r (by rw [r.1, hz]; exact hl), rfl, ?_⟩
    cases o with
    | nx ρ =>
     simp only [e1] at e
     cases e
     exact ⟨fun σ H' ⟨A, w⟩ => k _ H' w.same .non, trivial⟩
    | rt d' ρ' =>
     simp only [e1] at e
     cases e
     exact ⟨fun v σ H' A w r' => k v H' w.same (r'.mono (Dd w.sub)), Ws kx⟩
    | bk ρ => simp [e1] at e
    | ct ρ => simp [e1] at e
  ·cases e
end PV
namespace EX
open PySem PySem.W PyProof.Rows PySem.Calls
section
variable {prog : Program} {w : World} {A : Around} {E : Value → Shared → Prop} {h : Heap} {g : Array GenState} {d : Drawn} {t : Nat} {os : OsState} {R : Result → Shared → Prop}
variable {nm q : Str} {C N : Addr} {bs bm bmB : List Value} {hdct : Bool} {sn : List Str} {sub : List Value} {ab : Bool} {col : Option Bool} {dd : Option Addr} {k0 k1 k2 k3 k5 : Option Value} {B newId initId : String}
abbrev Fx (C a : Addr) : Obj := { cls := .ref C, data := .fields #[.ref a, .none, .none, .none, .bool false, .none] }
abbrev E_ (rest : List Value) : Obj := { cls := .type "tuple", data := .seq rest.toArray }
theorem Ko (F : ExcBaseFacts B newId initId bmB) (T : OwnTail h bmB bm) {rest : List Value} {init : Value} {Q : Fin → Shared → Prop}
  (hC : h.get? C = some (excClassObj nm q C N bs bm hdct sn sub ab col dd k0 k1 k2 k3 k5 newId)) (hi : Looks (model prog w) h (typeLookup (.ref C) "__init__") (some init)) (hb : ∀ self, Looks (model prog w) h (bindSpecial init self) (init, [self]))
  (hq : codeAny (model prog w) A (.call init ⟨.ref (h.objs.size + 1) :: rest, []⟩) (fun r s' => match r with
   | .ok (.ret v) => v = .none ∧ Q (.done (.ret (.ref (h.objs.size + 1)))) s'
   | .ok _ => False
   | .error e => E e s') ⟨(h.push (E_ rest)).push (Fx C h.objs.size), g, d, t, os⟩) (hrest : rest.length ≤ sizeLine := by size_fits) :
  wpAny (model prog w) A (Builtin.«type.__call__» ⟨.ref C :: rest, []⟩) Q E ⟨h, g, d, t, os⟩ := by
 repeat (first | with_reducible refine wpAny_loadPart_at hC ?_ | with_reducible refine wpAny_madeBy_exc hC ?_ | wp_step)
 refine codeAny_call_builtin_code (Code.quiet_builtin _ F.quiet) (wpAny_check_new_subT F T hC ?_)
 refine codeAny_exc_new_subT F T hC ?_ hrest
 show wpAny _ _ _ _ _ _
 have k : ∀ b o, h.get? b = some o → ((h.push (E_ rest)).push (Fx C h.objs.size)).get? b = some o := fun b o e => Heap.get?_push_of_some _ (Heap.get?_push_of_some _ e)
 have hC₁ := k _ _ hC
 have hget : ((h.push (E_ rest)).push (Fx C h.objs.size)).get? (h.objs.size + 1) = some (Fx C h.objs.size) := by heap_get
 have hcC : (Value.ref C :: bm).contains (.ref C) = true := by simp
 have i1 := hi.keeps k
 have b1 := (hb (.ref (h.objs.size + 1))).keeps k
 unfold isInstance
 repeat (first | with_reducible refine wpAny_loadPart_at hget ?_ | (with_reducible refine wpAny_isSubtype_exc hC₁ ?_; rw [hcC]) | wp_step)
 show wpAny _ _ (typeLookup (.ref C) _) _ _ _
 refine i1.at ?_
 dsimp only
 refine wpAny_holding (wpAny_bind (b1.at ?_))
 dsimp only
 refine wpAny_bind (wpAny_call (codeAny_mono hq fun r s' z => ?_))
 rcases r with e | (v | _ | _ | _) <;> first | exact z | exact z.elim | skip
 obtain ⟨rfl, z⟩ := z
 exact wpAny_pure (wpAny_pure z)
theorem Wt (F : ExcBaseFacts B newId initId bmB) (T : OwnTail h bmB bm) {rest : List Value} {init : Value}
  (hC : h.get? C = some (excClassObj nm q C N bs bm hdct sn sub ab col dd k0 k1 k2 k3 k5 newId)) (hi : Looks (model prog w) h (typeLookup (.ref C) "__init__") (some init)) (hb : ∀ self, Looks (model prog w) h (bindSpecial init self) (init, [self]))
  (hq : codeAny (model prog w) (A.under (.builtin "type.__call__" ⟨.ref C :: rest, []⟩)) (.call init ⟨.ref (h.objs.size + 1) :: rest, []⟩) (InitBack (h.objs.size + 1) R) ⟨(h.push (E_ rest)).push (Fx C h.objs.size), g, d, t, os⟩) (hrest : rest.length ≤ sizeLine) :
  codeAny (model prog w) A (.call (.ref C) ⟨rest, []⟩) R ⟨h, g, d, t, os⟩ := by
 have f1 := tc_lookup
 have f2 := tc_bind (.ref C)
 have hT : (⟨h, g, d, t, os⟩ : Shared).TypeIs (.ref C) "type" := ⟨_, hC, rfl⟩
 refine codeAny_of_tree ?_
 show wpAny _ _ (callAny (.ref C) _) _ _ _
 repeat (any_goals (first | assumption | with_reducible refine wpAny_loadPart_at hC ?_ | wp_step))
 refine ⟨rfl, ?_⟩
 refine codeAny_call_builtin_at (Code.quiet_builtin _ (by decide +kernel)) entry_typeCall (wpAny_check_type_call_sub hC (Ko F T hC hi hb (codeAny_mono hq fun r s' z => ?_) hrest))
 rcases r with e | (v | _ | _ | _) <;> first | exact z | exact z.elim
end
end EX
namespace EX
open PySem PySem.W PySem.Spec PyProof.Rows PySem.Calls
section
variable {prog : Program} {w : World} {A : Around} {E : Value → Shared → Prop} {s : Shared} {K : Frag} {x C : Addr} {ox : Obj} {od : Option Obj} {name : Str} {v : Value}
theorem Yv {expr : Bool} {Q : Value → Shared → Prop} (X : K.In s.heap) (I : InstAt s.heap x ox C od) (hga : findIn K (.ref C) "__getattribute__" = some (some (.builtin "BaseException.__getattribute__"))) (hgt : findIn K (.ref C) "__getattr__" = some none)
  (hsub : subIn K (.ref C) (.type "BaseException") = some true) (hf : findObj K C od name = some (.value v)) (hh : handedIn v = true) (h : Q v { s with toks := s.toks + 1 }) : wpAny (model prog w) A (getAttr (.ref x) name expr) Q E s := by
 obtain ⟨hp, g, d, t, os⟩ := s
 have L0 := I.type (M := model prog w)
 have L1 := looks_findIn (M := model prog w) X hga
 have L2 := looks_findIn (M := model prog w) X hgt
 have L3 := looks_find (M := model prog w) X I hf
 have L4 := looks_subIn (M := model prog w) X hsub
 have f3 := F.attr_ValueError.ga.bind (.ref x)
 have hk : builtinKind "BaseException.__getattribute__" = some .slot := by decide +kernel
 have hsplit : splitId "BaseException.__getattribute__" = some ("BaseException", "__getattribute__") := by decide +kernel
 have hx2 : (Value.builtin "BaseException.__getattribute__" == Value.builtin "object.__getattribute__") = false := by decide +kernel
 have hx1 : (onTheHeap (Value.ref C) && Value.builtin "BaseException.__getattribute__" == Value.builtin "object.__getattribute__") = false := by rw [hx2]; rfl
 have hx0 : (expr && onTheHeap (Value.builtin "BaseException.__getattribute__")) = false := by cases expr <;> rfl
 unfold getAttr getAttrBy
 refine wpAny_bind (wpAny_mkText (wpAny_holding (wpAny_bind (L0.at (wpAny_bind (L1.at ?_))))))
 dsimp only
 rw [hx1, if_neg (by decide)]
 have ck : ∀ (Q : Unit → Shared → Prop) (B : Around) (E' : Value → Shared → Prop), Q () ⟨hp, g, d, t + 1, os⟩ → wpAny (model prog w) B (checkBuiltinCall "BaseException.__getattribute__" ⟨[.ref x, .str name t], []⟩) Q E' ⟨hp, g, d, t + 1, os⟩ := fun Q B E' hq => by
  have ha := F.args_bexc_ga (.ref x) (.str name t)
  simp only [checkBuiltinCall, hk, hsplit]
  refine wpAny_bind ?_
  unfold isInstance
  refine wpAny_bind (L0.at (L4.at ?_))
  repeat (any_goals (first | assumption | wp_step))
 have run : ∀ (B : Around) (R : Result → Shared → Prop), R (.ok (.ret v)) ⟨hp, g, d, t + 1, os⟩ → codeAny (model prog w) B (.call (.builtin "BaseException.__getattribute__") ⟨[.ref x, .str name t], []⟩) R ⟨hp, g, d, t + 1, os⟩ := fun B R hq =>
  codeAny_call_builtin F.attr_ValueError.ga.plain F.entry_bexc_ga (ck _ _ _ (by
   unfold Builtin.«object.__getattribute__»
   repeat (any_goals (first | assumption | with_reducible refine L0.at ?_ | with_reducible refine L3.at ?_ | wp_step))))
 repeat (any_goals (first | assumption | with_reducible refine L2.at ?_ | wp_step))
 refine run _ _ ?_
 show wpAny _ _ (handedOut v) _ _ _
 rw [handedOut_of hh]
 exact wpAny_pure h
open Builtin Builtin.ObjectAttr in
theorem Yw {R : Addr} {cd : ClassData} {vs : Array Value} {Q : Unit → Shared → Prop} (X : K.In s.heap) (I : InstAt s.heap x ox C none) (hfl : ox.data = .fields vs) (hs : findIn K (.ref C) "__setattr__" = some (some (.builtin "object.__setattr__"))) (hc : clsIn K C = some cd)
  (hm : cd.mro = [.ref C, .ref R, .type "ValueError", .type "Exception", .type "BaseException", .type "object"]) (hd : cd.hasDict = true) (ht : findIn K (.ref C) name = some none)
  (h : ∀ h' : Heap, h'.get? x = some { ox with dict := some s.heap.objs.size } → h'.Ns1 s.heap.objs.size (fun y => if y = name then some v else none) → (∀ b o, b ≠ x → s.heap.get? b = some o → h'.get? b = some o) → Q () { s with heap := h', toks := s.toks + 2 }) :
  wpAny (model prog w) A (setAttr (.ref x) name v) Q E s := by
 obtain ⟨hp, g, d, t, os⟩ := s
 have SF := F.store_object
 have VF := F.store_ValueError
 have hpass : refuseLoop (.ref x) "__setattr__" cd.mro = pure () := by rw [hm, refuseLoop_ref, refuseLoop_ref]; exact VF.passes _
 have sub : Looks (model prog w) hp (isInstance (.ref x) (.type "object")) true := I.type.andThen (looks_mroIn X (by unfold mroIn; rw [hc, Option.bind_some, hm]; rfl))
 have lm : Looks (model prog w) hp (mroOf (.ref C)) cd.mro := (looks_clsIn X hc).andThen .now
 have la := looks_findIn (M := model prog w) X ht
 have lt := I.type (M := model prog w)
 have lc := looks_clsIn (M := model prog w) X hc
 refine set_plain X I hs (codeAny_call_builtin SF.slot.plain SF.entry ?_)
 refine @check_slot (model prog w) _ _ ⟨hp, g, d, t + 1, os⟩ "object.__setattr__" "object" "__setattr__" (.ref x) [.str name t, v] [] _ SF.kind SF.split sub (SF.args (.ref x) (.str name t) v) ?_
 rw [osa_eq, refuse_eq]
 refine wpAny_bind (wpAny_bind (lt.at (wpAny_bind (lm.at ?_))))
 rw [hpass]
 refine wpAny_pure (wpAny_bind (lt.at (wpAny_bind (la.at (wpAny_bind (wpAny_pure ?_))))))
 dsimp only
 obtain ⟨hx, hcl, hn, hdi⟩ := I
 obtain ⟨oc, odi, oda, osl⟩ := ox
 dsimp only at hcl hdi hfl
 subst hcl hfl
 have hdn : odi = none := by
  cases odi with
  | none => rfl
  | some z => exact hdi.elim
 subst hdn
 have hxs : x ≠ hp.objs.size := Nat.ne_of_lt (Heap.lt_size hx)
 have hx1 : (hp.push { cls := .type "dict", data := .dict #[] }).get? x = some ⟨.ref C, none, .fields vs, osl⟩ := Heap.get?_push_of_some _ hx
 unfold storeInOwnDict
 refine wpAny_bind (wpAny_pure (wpAny_bind (wpAny_bind (wpAny_loadPart hx (wpAny_bind (lc.at ?_))))))
 rw [hd]
 refine wpAny_bind (wpAny_alloc' (wpAny_bind (wpAny_update' hx1 (wpAny_pure ?_))))
 have hgd : ((hp.push { cls := .type "dict", data := .dict #[] }).update x fun o => { cls := o.cls, dict := some hp.objs.size, data := o.data, slots := o.slots }).get? hp.objs.size = some { cls := .type "dict", data := .dict #[] } := (Heap.get?_update_other _ _ hxs).trans (Heap.get?_push_size _ rfl)
 have hgx : ((hp.push { cls := .type "dict", data := .dict #[] }).update x fun o => { cls := o.cls, dict := some hp.objs.size, data := o.data, slots := o.slots }).get? x = some ⟨.ref C, some hp.objs.size, .fields vs, osl⟩ := Heap.get?_update_self _ hx1 rfl
 have ho : ∀ b o, b ≠ x → hp.get? b = some o → ((hp.push { cls := .type "dict", data := .dict #[] }).update x fun o => { cls := o.cls, dict := some hp.objs.size, data := o.data, slots := o.slots }).get? b = some o := fun b o nb z => (Heap.get?_update_other _ _ (Ne.symm nb)).trans (Heap.get?_push_of_some _ z)
 generalize (hp.push { cls := .type "dict", data := .dict #[] }).update x (fun o => { cls := o.cls, dict := some hp.objs.size, data := o.data, slots := o.slots }) = h2 at hgd hgx ho ⊢
 have hnd : h2.Ns hp.objs.size (fun _ => none) := ⟨_, #[], _, hgd, rfl, fun e he => absurd he (by simp), fun _ => rfl⟩
 show wpAny _ _ (storeInDict hp.objs.size (.str name t) name v) _ _ _
 unfold storeInDict newKeyGuard
 refine wpAny_bind (wpAny_pure (wpAny_bind (wpAny_nsSet1 (Heap.Ns1.of_empty hnd) fun h' hn' hs' => ?_)))
 obtain ⟨oD, esD, epD, hoD, hdD, hcD⟩ := hn'.count (Within.cons name v Within.nil)
 refine wpAny_bind (wpAny_lookBehind hoD (by rw [hdD]; exact pastItsLine_dict (Nat.le_trans hcD (by rw [List.length_cons, List.length_nil, sizeLine_eq]; omega))) ?_)
 exact wpAny_pure (h h' ((hs'.2 x hxs).trans hgx) hn' fun b o nb z => (hs'.2 b (Nat.ne_of_lt (Heap.lt_size z))).trans (ho b o nb z))
end
end EX
namespace EX
open PySem PySem.Spec L2
open PyProof.Rows hiding St
abbrev bmV : List Value := [.type "ValueError", .type "Exception", .type "BaseException", .type "object"]
def excX (K : PySem.W.Frag) (C : Addr) : Bool := match K.lookup C with
 | some ⟨.type "type", _, .cls cd, sl⟩ => (match cd.mro, sl.toList with
  | .ref C' :: bm, [_, _, _, _, some (.builtin n), _] => C' == C && n == "ValueError.__new__" && !cd.hasDel && PySem.W.tailIn K bmV bm
  | _, _ => false)
 | _ => false
theorem H_ {K : PySem.W.Frag} {h : Heap} {C : Addr} (X : K.In h) (q : excX K C = true) : ∃ nm qn N bs bm hdct sn sub ab col dd k0 k1 k2 k3 k5, h.get? C = some (excClassObj nm qn C N bs bm hdct sn sub ab col dd k0 k1 k2 k3 k5 "ValueError.__new__") ∧ OwnTail h bmV bm := by
 unfold excX at q
 split at q
 ·rename_i dd cd sl ho
  split at q
  ·rename_i C' bm k0 k1 k2 k3 n k5 hm hs
   simp only [Bool.and_eq_true, beq_iff_eq, Bool.not_eq_true'] at q
   obtain ⟨⟨⟨e1, e2⟩, e3⟩, e4⟩ := q
   subst e1 e2
   obtain ⟨nm, bs, mro, ns, qn, hd, sn, sub, ab, col, del⟩ := cd
   obtain ⟨l⟩ := sl
   simp only at hm hs e3
   subst hm e3 hs
   exact ⟨nm, qn, ns, bs, bm, hd, sn, sub, ab, col, dd, k0, k1, k2, k3, k5, X _ _ ho, PySem.W.tail_of_in X e4⟩
  ·cases q
 ·cases q
structure XC (K : PySem.W.Frag) (C R : Addr) : Prop where
 obj : excX K C = true
 sa : PySem.W.findIn K (.ref C) "__setattr__" = some (some (.builtin "object.__setattr__"))
 ga : PySem.W.findIn K (.ref C) "__getattribute__" = some (some (.builtin "BaseException.__getattribute__"))
 gt : PySem.W.findIn K (.ref C) "__getattr__" = some none
 cd : (PySem.W.clsIn K C).any (fun cd => cd.mro == [.ref C, .ref R, .type "ValueError", .type "Exception", .type "BaseException", .type "object"] && cd.hasDict) = true
theorem XC.cls {K : PySem.W.Frag} {C R : Addr} (x : XC K C R) : ∃ cd, PySem.W.clsIn K C = some cd ∧ cd.mro = [.ref C, .ref R, .type "ValueError", .type "Exception", .type "BaseException", .type "object"] ∧ cd.hasDict = true := by
 obtain ⟨cd, h1, h2⟩ := PySem.W.any_some x.cd
 simp only [Bool.and_eq_true, beq_iff_eq] at h2
 exact ⟨cd, h1, h2.1, h2.2⟩
theorem PB {H : Hp} {a : Addr} {o : HO} (h : H a = some o) : upd H a o = H := by
 funext b
 unfold upd
 split
 ·rename_i e; rw [e, h]
 ·rfl
section
variable {X : Cx} {pins : List (Addr × Obj)} {σ : St} {H : Hp} {s : Shared} {e C R dx : Addr} {od tb : Option Addr} {A : Around} {E : Value → Shared → Prop} {f : Str}
theorem Wu {u : Value} {Q : Value → Shared → Prop} (I : Inv X pins σ H s) (he : H e = some (excO e C od tb)) (x : XC X.K C R) (hQ : ∀ s', Inv X pins σ H s' → Q .none s') :
  wpAny (model X.prog X.w) A (call (.builtin "ValueError.__init__") [.ref e, u]) Q E s := by
 have F := PySem.F.excBase_ValueError
 obtain ⟨⟨o, vs, q1, q2, q3, q4, q5, q6⟩, _⟩ := I.hok e _ he
 obtain ⟨nm, qn, N, bs, bm, hdct, sn, sub, ab, col, dd, k0, k1, k2, k3, k5, hC, T⟩ := H_ I.kIn x.obj
 have I1 := I.kept (h' := s.heap.push { cls := .type "tuple", data := .seq [u].toArray }) (t' := s.toks) fun b v z => Heap.get?_push_of_some _ z
 have g1 := Heap.get?_push_of_some (h := s.heap) { cls := .type "tuple", data := .seq [u].toArray } q1
 have I2 := Hq (u' := excO e C od tb) (i := 0) (v := .ref s.heap.objs.size) I1 he trivial g1 q4 fun h' o' r1 r2 r3 r4 => ExcP.ok ⟨o', _, r1, r2.trans q2, r3.trans q3, r4, by simpa using q5, by rw [Array.getElem?_setIfInBounds_ne (by decide)]; exact q6⟩
 rw [PB he] at I2
 obtain ⟨hp, g, d, t, os⟩ := s
 have h0 : ∃ v0, vs[0]? = some v0 := ⟨vs[0]'(by omega), by simp⟩
 obtain ⟨v0, h0⟩ := h0
 refine wpAny_call (codeAny_call_builtin F.init.plain F.initEntry (wpAny_check_init_subT F T hC q1 q2 ?_))
 unfold Builtin.«BaseException.__init__»
 dsimp only
 rw [if_neg (by simp)]
 unfold newTuple Builtin.BaseException.bexcPut
 refine wpAny_bind (wpAny_newObj_type (wpAny_bind (wpAny_bind (wpAny_field g1 q4 h0 (wpAny_bind (wpAny_setField g1 q4 (by omega) ?_))))) (by show 1 ≤ sizeLine; decide))
 have z := hQ _ I2
 cases v0 <;> first | exact wpAny_letGo (wpAny_pure z) | exact wpAny_pure (wpAny_pure z)
theorem Yx {y : V} {u : Value} {Q : Unit → Shared → Prop} (I : Inv X pins σ H s) (he : H e = some (excO e C none tb)) (x : XC X.K C R) (n : BJ X.K C f) (ry : RelV y u)
  (h : ∀ dx s', H dx = none → Inv X pins σ (upd (upd H dx (.xd [(f, y)])) e (excO e C (some dx) tb)) s' → Q () s') : wpAny (model X.prog X.w) A (setAttr (.ref e) f u) Q E s := by
 obtain ⟨⟨o, vs, q1, q2, q3, q4, q5, q6⟩, _⟩ := I.hok e _ he
 obtain ⟨cd, c1, c2, c3⟩ := x.cls
 have ia : PySem.W.InstAt s.heap e o C none := ⟨q1, q2, by unfold PySem.W.notCls; rw [q4], by rw [q3]; trivial⟩
 refine Yw I.kIn ia q4 x.sa c1 c2 c3 n fun h' r1 r2 r3 => h s.heap.objs.size _ I.fresh ?_
 have hf := I.fresh
 have ne : e ≠ s.heap.objs.size := Aj he hf
 have hs : ∃ o', h'.get? s.heap.objs.size = some o' := let ⟨o', _, _, z, _⟩ := r2; ⟨o', z⟩
 have nx : ∀ b v, H b = some v → (∀ φ, v ≠ .ext φ) → b ≠ e ∧ b ≠ s.heap.objs.size := fun b v q z => ⟨fun w => by rw [w, he] at q; cases q; exact z _ rfl, Aj q hf⟩
 have ot : ∀ b v, H b = some v → (∀ φ, v ≠ .ext φ) → upd (upd H s.heap.objs.size (.xd [(f, y)])) e (excO e C (some s.heap.objs.size) tb) b = some v := fun b v q z => by rw [Af (nx b v q z).1, Af (nx b v q z).2]; exact q
 refine I.un ⟨fun b ob z nb _ _ => r3 b ob (Ne.symm (Aj he nb)) z, fun b ob z nb _ _ => ⟨ob.slots, r3 b ob (Ne.symm (Aj he nb)) z⟩, fun b ob z nb _ => ?_, fun b ob z _ => ?_, fun b xs z => ot b _ z (fun _ z => nomatch z), fun b o' u' z => ot b _ z (fun _ z => nomatch z), fun b ps z => ⟨#[], by rw [ot b _ z (fun _ z => nomatch z)]; simp⟩⟩ fun b v z => ?_
 ·rw [Af (Ne.symm (Aj he nb)), Af (Nat.ne_of_lt (Heap.lt_size z))]; exact nb
 ·by_cases hb : b = e
  ·rw [hb]; exact ⟨_, r1⟩
  ·exact ⟨ob, r3 b ob hb z⟩
 ·by_cases hb : b = e
  ·subst hb
   rw [Ah] at z
   cases z
   exact ExcP.ok ⟨_, vs, r1, q2, rfl, q4, q5, q6⟩
  ·rw [Af hb] at z
   by_cases hb2 : b = s.heap.objs.size
   ·subst hb2
    rw [Ah] at z
    cases z
    refine ⟨_, r2, fun g => ?_⟩
    by_cases hg : g = f
    ·subst hg; simp [List.lookup]; exact ry
    ·have : (g == f) = false := beq_eq_false_iff_ne.mpr hg
     simp [List.lookup, this, hg]; trivial
   ·rw [Af hb2] at z
    refine (I.hok b v z).stay (fun c w hc k => r3 c w ?_ k) (fun c q => ot c _ q (fun _ z => nomatch z)) (fun c xs q => ot c _ q (fun _ z => nomatch z))
    rcases hc with hc | hc
    ·rw [hc]; exact hb
    ·exact (nx c _ hc (fun _ z => nomatch z)).1
theorem Yy {b : Bool} {fs : List (Str × V)} {v : V} {Q : Value → Shared → Prop} (I : Inv X pins σ H s) (he : H e = some (excO e C (some dx) tb)) (hd : H dx = some (.xd fs)) (x : XC X.K C R) (n : BJ X.K C f) (l : fs.lookup f = some v)
  (h : ∀ u s', Inv X pins σ H s' → RelV v u → Q u s') : wpAny (model X.prog X.w) A (getAttr (.ref e) f b) Q E s := by
 obtain ⟨⟨o, vs, q1, q2, q3, q4, q5, q6⟩, _⟩ := I.hok e _ he
 obtain ⟨mA, ns, r⟩ := I.hok dx _ hd
 obtain ⟨u, hu, ru⟩ := RelO.some_of (v := v) (o := mA f) (by rw [← l]; exact r f)
 obtain ⟨oD, g1, g2⟩ := Iu ns
 obtain ⟨cd, c1, c2, c3⟩ := x.cls
 have ia : PySem.W.InstAt s.heap e o C (some oD) := ⟨q1, q2, by unfold PySem.W.notCls; rw [q4], by rw [q3]; exact g1⟩
 have hh : PySem.W.hasDictIn X.K C = true := by unfold PySem.W.hasDictIn; rw [c1]; exact c3
 refine Yv I.kIn ia x.ga x.gt ?_ (PySem.W.findObj_own hh n rfl (by rw [g2, hu])) (Lf ru) (h u _ (I.tok _) ru)
 show PySem.W.mroIn X.K C _ = _
 unfold PySem.W.mroIn
 rw [c1, Option.bind_some, c2]
 rfl
end
end EX
namespace EX
open PySem PySem.Spec L2
open PyProof.Rows hiding St
section
variable {X : Cx} {a b : Expr} {es : List Expr} {t : TA} {p pos apos : Pos} {x : Str} {R : Addr}
def PP (X : Cx) (c : St → Prop) (e : Expr) : Prop := ∀ (pins : List (Addr × Obj)) (s : Shared) (σ : St) (H : Hp), Inv X pins σ H s → c σ →
 wpAny (model X.prog X.w) X.A (eval e X.env) (fun v s' => ∃ y t, v = .str y t ∧ y.length ≤ 2000000 ∧ Inv X pins σ H s') X.xe s
theorem Wv {c : St → Prop} {z : Str} {j} (h : z.length ≤ 2000000 := by decide) : PP X c (.Constant (.str z) j pos) := fun pins s σ H I _ => Calls.Constant_str ⟨z, _, rfl, h, I.tok _⟩
def Ww (i : Nat) (σ : St) : Prop := ∃ n : Int, σ[i]? = some (some (.int n)) ∧ n.natAbs.log2 < 1920
def Wx (i : Nat) (σ : St) : Prop := ∃ z : Str, σ[i]? = some (some (.str z)) ∧ z.length ≤ 100000 ∧ ∀ c ∈ z.cps.toList, c < 16 ^ 8
theorem cD {i : Nat} {e : Expr} (h : PE X e (tVar i)) : PP X (Ww i) (.FormattedValue e (-1) none pos) := fun pins s σ H I ⟨n, h1, h2⟩ => by
 refine wpAny_FormattedValue_plain (thn (h pins s σ H (fun v H' => v = .int n ∧ H' = H) I ⟨_, h1, rfl, rfl⟩) fun u s1 ⟨v, H1, I1, r1, q1, q2⟩ => ?_)
 subst q1 q2
 obtain ⟨t, rfl⟩ := (show ∃ t, u = Value.int n t from r1)
 refine wpAny_formatField_int h2 ⟨_, _, rfl, ?_, I1.tok _⟩
 have := int_text_length_le (k := 1920) (by decide) h2
 rw [PySem.ofString_length]
 omega
theorem Yz {i : Nat} {e : Expr} (h : PE X e (tVar i)) : PP X (Wx i) (.FormattedValue e 114 none pos) := fun pins s σ H I ⟨z, h1, h2, h3⟩ => by
 refine wpAny_FormattedValue_repr (thn (h pins s σ H (fun v H' => v = .str z ∧ H' = H) I ⟨_, h1, rfl, rfl⟩) fun u s1 ⟨v, H1, I1, r1, q1, q2⟩ => ?_)
 subst q1 q2
 obtain ⟨t, rfl⟩ := (show ∃ t, u = Value.str z t from r1)
 have hl : (reprText z).length ≤ 2000000 := by have := PySem.StrLaws.reprText_len z h3; omega
 refine wpAny_pyReprObj_str ?_ (PV.Cq (by omega))
 exact wpAny_formatField_str ⟨_, _, rfl, hl, I1.tok _⟩ ⟨_, _, rfl, hl, (I1.tok _).tok _⟩ (PV.Cq (by omega))
theorem Rv (y : Str) : (Str.empty ++ y).length = y.length := by rw [PV.Dw]; simp [Str.length, Str.empty]
def tTxt (c : St → Prop) : TE := fun σ H Q => c σ ∧ ∀ y, Q (.str y) H
theorem PJ {c : St → Prop} {e1 e2 : Expr} (h1 : PP X c e1) (h2 : PP X c e2) : PE X (.JoinedStr [e1, e2] pos) (tTxt c) := fun pins s σ H Q I ⟨hc, q⟩ => by
 refine wpAny_JoinedStr ?_
 refine thn (h1 pins s σ H I hc) fun v s1 ⟨y, t, e, l, I1⟩ => ⟨y, t, e, PV.Cq (by rw [Rv]; omega), ?_⟩
 have b2 : ∀ y2 : Str, y2.length ≤ 2000000 → (Str.empty ++ y ++ y2).length ≤ sizeLine := fun y2 l2 => PV.Cq (by rw [PV.Dw, Rv]; omega)
 exact thn (h2 pins s1 σ H I1 hc) fun v s2 ⟨y2, t2, e2, l2, I2⟩ => ⟨y2, t2, e2, b2 y2 l2, b2 y2 l2, ⟨.str _, H, I2.tok _, ⟨_, rfl⟩, q _⟩⟩
def tSup (K : PySem.W.Frag) (t : TA) : TE := fun σ H Q => t σ H fun vs H1 => ∃ e y C R od tb, vs = [.ref e, .str y] ∧ H1 e = some (excO e C od tb) ∧ XC K C R ∧ Q .non H1
theorem PK {pl : Sem Bool} (hg : Gl X x) (hm : X.mg x = some (.ref R)) (h1 : PySem.W.specialIn X.K (.ref R) "__getattribute__" = some (some (.builtin "type.__getattribute__"))) (h2 : PySem.W.readsIn X.K R (.type "type") = true)
  (h3 : PySem.W.findCls X.K (.ref R) (.type "type") "__init__" = some (.val (.builtin "ValueError.__init__"))) (ha : PA X (a :: es) t) (hdb : (x == ("__debug__" : Str)) = false := by decide)
  (hst : starEach (a :: es) X.env = (false, eval a X.env) :: starEach es X.env := by rfl) (hpl : (backTo pos (starEach es X.env)).any (·.1) = false := by rfl)
  (ht : eval (.Call (.Attribute (.Name x p) "__init__" apos) (a :: es) [] pos) X.env = (do
   let ov ← eval (.Name x p) X.env
   standAt apos.atName
   let (f, first) ← holding [ov] (getMethod ov "__init__" pl)
   callWith pos f first (backTo pos (starEach (a :: es) X.env)) (backToKw pos (keywordEach [] X.env))) := by rfl) :
  PE X (.Call (.Attribute (.Name x p) "__init__" apos) (a :: es) [] pos) (tSup X.K t) := by
 intro pins s σ H Q I h
 refine PySem.W.methodCall_KW (pl := pl) (Fl I hg hm ?_ hdb) ht
 refine PySem.W.method_cls I.kIn h1 (PySem.W.cls_value I.kIn h2 h3 rfl ?_)
 refine callWith_builtin1 (thn (ha pos pins _ σ H _ (I.tok _) h) fun us s1 ⟨vs, H1, I1, r, e, y, C, R', od, tb, ev, he, xc, q⟩ => ?_) hst hpl
 subst ev
 cases r with
 | cons r1 r =>
  cases r with
  | cons r2 r =>
   cases r
   obtain rfl := (show _ = Value.ref e from r1)
   exact Wu I1 he xc fun s' I' => ⟨.non, H1, I', rfl, q⟩
end
end EX
namespace EX
open PySem PySem.Spec L2
open PyProof.Rows hiding St
section
variable {X : Cx} {o value : Expr} {ta tv : TE} {pos pos' : Pos} {f : Str}
def sXf (K : PySem.W.Frag) (ta tv : TE) (f : Str) : TS := fun D σ H => tv σ H fun y H1 => ta σ H1 fun x H2 => ∃ e C R tb, x = .ref e ∧ H2 e = some (excO e C none tb) ∧ XC K C R ∧ BJ K C f ∧
 ∀ dx, H2 dx = none → D.nx σ (upd (upd H2 dx (.xd [(f, y)])) e (excO e C (some dx) tb))
theorem Rw (ha : PE X o ta) (hv : PE X value tv) (hs : swapsWith value (some (.Attribute o f pos')) pos.line X.env = pure false) : PS X (.Assign [.Attribute o f pos'] value pos) (sXf X.K ta tv f) := by
 intro pins s σ H D I h
 refine plainObj_wpAny_Assign_Attribute (thn (hv pins s σ H _ I h) fun u s1 ⟨y, H1, I1, ry, q⟩ => thn (ha pins s1 σ H1 _ I1 q) fun ov s2 ⟨x, H2, I2, rx, e, C, R, tb, ex, ea, c, n, q2⟩ => ?_) hs
 subst ex
 obtain rfl : ov = Value.ref e := rx
 exact Yx I2 ea c n ry fun dx s3 hd I3 => ⟨σ, _, I3, q2 dx hd⟩
end
def spE (K : PySem.W.Frag) (f : Str) (c : V → Prop) : Sp := fun vs H Q _ => ∃ e y C R, vs = [.ref e, y] ∧ H e = some (excO e C none none) ∧ XC K C R ∧ BJ K C f ∧ c y ∧ ∀ dx, H dx = none → Q .non (upd (upd H dx (.xd [(f, y)])) e (excO e C (some dx) none))
theorem MN {K : PySem.W.Frag} {f : Str} {c : V → Prop} {cs : St → Prop} {vs : List V} {H : Hp} {Q : VK} {E : XK} {N : List Str} (h : spE K f c vs H Q E) (hN : N.length = 2) (hc : ∀ e y, c y → cs [some (.ref e), some y]) :
  tSeq (ZL (tSup K (Qn (tVar 0) (Qn (tTxt cs) tNil)))) (sXf K (tVar 0) (tVar 1) f) { nx := fun _ H' => Q .non H', rt := Q } (start N vs) H := by
 obtain ⟨e, y, C, R, rfl, he, xc, n, cy, q⟩ := h
 have st : start N [.ref e, y] = [some (.ref e), some y] := by unfold L2.start; rw [hN]; rfl
 rw [st]
 exact ⟨_, rfl, hc e y cy, fun z => ⟨e, z, C, R, none, none, rfl, he, xc, _, rfl, _, rfl, e, C, R, none, rfl, he, xc, n, q⟩⟩
theorem Ry {K : PySem.W.Frag} {f : Str} {c : V → Prop} {vs : List V} {H : Hp} {Q : VK} {E : XK} (h : spE K f c vs H Q E) : vs.length = 2 := by
 obtain ⟨e, y, C, R, rfl, _⟩ := h
 rfl
def okI (y : V) : Prop := ∃ n : Int, y = .int n ∧ n.natAbs.log2 < 1920
def okS (y : V) : Prop := ∃ z : Str, y = .str z ∧ z.length ≤ 100000 ∧ ∀ c ∈ z.cps.toList, c < 16 ^ 8
theorem cF (e : Addr) (y : V) (h : okI y) : Ww 1 [some (.ref e), some y] := by obtain ⟨n, rfl, h⟩ := h; exact ⟨n, rfl, h⟩
theorem cG (e : Addr) (y : V) (h : okS y) : Wx 1 [some (.ref e), some y] := by obtain ⟨n, rfl, h⟩ := h; exact ⟨n, rfl, h⟩
section
variable {X : Cx} {pins : List (Addr × Obj)} {σ : St} {H : Hp} {s : Shared} {C R fi : Addr} {k : Nat} {fd : FuncData} {ps : List Str} {f : Str} {c : V → Prop}
theorem Inv.exc {us : List Value} (I : Inv X pins σ H s) : Inv X pins σ (upd H (s.heap.objs.size + 1) (excO (s.heap.objs.size + 1) C none none)) { s with heap := (s.heap.push (E_ us)).push (Fx C s.heap.objs.size) } := by
 have I1 := I.kept (h' := s.heap.push (E_ us)) (t' := s.toks) fun b v z => Heap.get?_push_of_some _ z
 have hs : (s.heap.push (E_ us)).objs.size = s.heap.objs.size + 1 := by simp [Heap.size_push]
 refine I1.laid (a := s.heap.objs.size + 1) (h' := (s.heap.push (E_ us)).push (Fx C s.heap.objs.size)) (t' := s.toks) (fun b v z => Heap.get?_push_of_some _ z) (Nat.le_of_eq hs) ?_
 have g := Heap.get?_push_size (s.heap.push (E_ us)) (o := Fx C s.heap.objs.size) rfl
 rw [hs] at g
 exact ExcP.ok ⟨_, _, g, rfl, rfl, rfl, rfl, rfl⟩
theorem Y0 {Q : VK} {us : List Value} {y : V} (x : XC X.K C R) (hi : PySem.W.findIn X.K (.ref C) "__init__" = some (some (.ref fi))) (hf : PySem.W.isFn X.K (.ref fi) = true) (n : BJ X.K C f)
  (F : FnOk X.prog X.w X.K X.mg X.base CX0 k fi fd ps (spE X.K f c)) (hr : Room (k + 1) X.A) (hb : Binds X.K fd ps []) (I : Inv X pins σ H s) (r : Vals [y] us) (cy : c y)
  (h : ∀ e dx, H e = none → H dx = none → dx ≠ e → Q (.ref e) (upd (upd H dx (.xd [(f, y)])) e (excO e C (some dx) none))) : wpAny (model X.prog X.w) X.A (call (.ref C) us) (EP X pins σ Q) X.xe s := by
 have I2 := Inv.exc (C := C) (us := us) I
 have hfe : H (s.heap.objs.size + 1) = none := I.hok.fresh (Nat.le_succ _)
 have sp : spE X.K f c [.ref (s.heap.objs.size + 1), y] (upd H (s.heap.objs.size + 1) (excO (s.heap.objs.size + 1) C none none)) (fun v H2 => v = .non ∧ Q (.ref (s.heap.objs.size + 1)) H2) E0 := by
  refine ⟨_, y, C, R, rfl, Ah, x, n, cy, fun dx hd => ⟨rfl, ?_⟩⟩
  have ne : dx ≠ s.heap.objs.size + 1 := fun z => by rw [z, Ah] at hd; cases hd
  rw [Af ne] at hd
  have := h _ dx hfe hd ne
  have e : upd (upd (upd H (s.heap.objs.size + 1) (excO (s.heap.objs.size + 1) C none none)) dx (.xd [(f, y)])) (s.heap.objs.size + 1) (excO (s.heap.objs.size + 1) C (some dx) none) = upd (upd H dx (.xd [(f, y)])) (s.heap.objs.size + 1) (excO (s.heap.objs.size + 1) C (some dx) none) := by
   funext b
   unfold upd
   split <;> rfl
  rw [e]
  exact this
 have r2 : Vals [V.ref (s.heap.objs.size + 1), y] (Value.ref (s.heap.objs.size + 1) :: us) := .cons rfl r
 have hl : (Value.ref (s.heap.objs.size + 1) :: us).length = ps.length := by rw [← r2.length]; exact F.len _ _ _ _ sp
 have hb' := hb { s with heap := (s.heap.push (E_ us)).push (Fx C s.heap.objs.size) } (Value.ref (s.heap.objs.size + 1) :: us) I2.kIn (by rw [List.append_nil]; exact hl)
 rw [List.append_nil] at hb'
 have hus : us.length ≤ sizeLine := by rw [← r.length]; exact PV.Cq (by show 1 ≤ _; decide)
 obtain ⟨nm, qn, N, bs, bm, hdct, sn, sub, ab, col, dd, k0, k1, k2, k3, k5, hC, T⟩ := H_ I.kIn x.obj
 have KI := I.kIn
 have run := F.run _ X.stack _ _ ⟨Value.ref (s.heap.objs.size + 1) :: us, []⟩ (Value.ref (s.heap.objs.size + 1) :: us) _ _ E0 (hr.make C us []) (I2.env0.make C us []) hb' r2 sp
 obtain ⟨hp, g, d, t, os⟩ := s
 refine wpAny_call (Wt PySem.F.excBase_ValueError T hC (PySem.W.looks_findIn KI hi) (fun self => PySem.W.bind_fn KI self (beq_iff_eq.mp hf)) (codeAny_mono run fun r s' hq' => ?_) hus)
 cases r with
 | error e => exact hq'.elim
 | ok fl =>
  cases fl with
  | ret u =>
   obtain ⟨v, H', I3, rv, ev, q3⟩ := I2.after hq'
   subst ev
   exact ⟨rv, ⟨V.ref (hp.objs.size + 1), H', I3, rfl, q3⟩⟩
  | next => exact False.elim hq'
  | brk => exact False.elim hq'
  | cont => exact False.elim hq'
end
end EX
namespace EX
open PySem PySem.Spec L2
open PyProof.Rows hiding St
section
variable {M : Model} {A : Around} {E : Value → Shared → Prop} {env : Env} {K : PySem.W.Frag}
theorem Wy {s : Shared} {x : Sem Value} {Q : Flow → Shared → Prop} (hh : A.handled = none)
  (h : wpAny M A x (fun v s₁ => ∃ e C od, v = .ref e ∧ ExcP e C od none s₁.heap ∧ K.In s₁.heap ∧ excX K C = true ∧ E (.ref e) s₁) E s) : wpAny M A (raiseStmt env (some x) none) Q E s := by
 unfold raiseStmt
 refine wpAny_bind (wpAny_mono h (fun v s₁ h₁ => ?_) fun _ _ x => x)
 obtain ⟨e, C, od, rfl, ⟨o, vs, q1, q2, q3, q4, q5, q6⟩, KI, hx, hE⟩ := h₁
 obtain ⟨nm, qn, N, bs, bm, hdct, sn, sub, ab, col, dd, k0, k1, k2, k3, k5, hC, T⟩ := H_ KI hx
 have hcB : (Value.ref C :: bm).contains (.type "BaseException") = true := by rw [List.contains_cons, T.hasType (by decide +kernel : bmV.contains (.type "BaseException") = true), Bool.or_true]
 obtain ⟨hp, g, d, tk, os⟩ := s₁
 obtain ⟨oc, odi, oda, osl⟩ := o
 dsimp only at q2 q3 q4
 subst q2 q4
 have h6 : vs[1]? = some Value.none := q6
 repeat (first | with_reducible refine wpAny_loadPart_at q1 ?_ | with_reducible refine wpAny_loadPart_at hC ?_ | (with_reducible refine wpAny_isSubtype_exc hC ?_; rw [hcB]) | with_reducible refine wpAny_field q1 rfl h6 ?_ | wp_step)
 exact wpAny_raiseNew_none hh hE
end
end EX
namespace PV
open PySem PySem.Spec L2 EX
open PyProof.Rows hiding St
def excF (c f : Str) (ok : D → Bool) (fa : FE) : FE := fun ρ => (fa ρ).bind fun d => if ok d = true then some (.exc c [(f, d)]) else none
section
variable {X : Cx} {G : Gx} {a : Expr} {fa : FE} {np cpos pos : Pos} {C R fi : Addr} {k : Nat} {fd : FuncData} {ps : List Str} {f cx cn : Str} {c : V → Prop} {ok : D → Bool}
theorem Wz {H : Hp} {v y : V} {d : D} (r : Rep G H v d) (h : flV d = some y) : v = y := by
 cases r <;> first | (cases h; rfl) | (cases h)
theorem Tv (x : XC X.K C R) (hi : PySem.W.findIn X.K (.ref C) "__init__" = some (some (.ref fi))) (hf : PySem.W.isFn X.K (.ref fi) = true) (kp : PySem.W.keepIn X.K (.ref C) = true) (n : BJ X.K C f)
  (F : FnOk X.prog X.w X.K X.mg X.base CX0 k fi fd ps (spE X.K f c)) (hr : Room (k + 1) X.A) (hb : Binds X.K fd ps []) (hg : Gl X cx) (hm : X.mg cx = some (.ref C)) (hcl : G.xcl cn = some C) (hc : X.calm = true) (hok : ∀ d, ok d = true → ∃ y, flV d = some y ∧ c y)
  (ha : PF X G a fa) (hdb : (cx == ("__debug__" : Str)) = false := by decide) (he : starEach [a] X.env = [(false, eval a X.env)] := by rfl) (hpl : (backTo cpos (starEach [] X.env)).any (·.1) = false := by rfl) :
  PSZ X G (.Raise (some (.Call (.Name cx np) [a] [] cpos)) none pos) (retF (excF cn f ok fa)) := fun A0 He pins s σ H D I ⟨ρ, o, ⟨A, w⟩, e, k, kx⟩ => by
 unfold retF excF at e
 cases e1 : fa ρ with
 | none => simp [e1] at e
 | some d =>
  rw [e1] at e
  by_cases hd : ok d = true
  ·simp only [Option.bind_some, hd, if_true, Option.map_some] at e
   cases e
   obtain ⟨y, hy, cy⟩ := hok d hd
   have kx : Rz X G A0 He cn [(f, d)] ρ := kx cn [(f, d)] rfl
   have call : wpAny (model X.prog X.w) X.A (eval (.Call (.Name cx np) [a] [] cpos) X.env) (fun v s₁ => ∃ e C od, v = .ref e ∧ ExcP e C od none s₁.heap ∧ X.K.In s₁.heap ∧ excX X.K C = true ∧ X.xe (.ref e) s₁) X.xe s := by
    refine wpAny_Call_Name_kw (Fl I hg hm ?_ hdb)
    have pa := CV (ha A) Ex he cpos pins s σ H (fun vs H1 => vs = [y] ∧ OkW G A0 He A σ H1 ρ) I ⟨ρ, d, w.ok, e1, fun v H1 s1 r1 => ⟨by rw [Wz r1 hy], w.mono s1⟩⟩
    refine PySem.W.callWith_K (h₀ := X.base) I.ok.mod.kin kp (thn pa fun us s1 ⟨vs, H1, I1, r, ev, w1⟩ => ⟨I1.kIn, ?_⟩) he hpl
    ·subst ev
     refine thn (Y0 (Q := fun v H2 => ∃ e dx, v = .ref e ∧ H1 e = none ∧ H1 dx = none ∧ dx ≠ e ∧ H2 = upd (upd H1 dx (.xd [(f, y)])) e (excO e C (some dx) none)) x hi hf n F hr hb I1 r cy fun e dx h1 h2 h3 => ⟨e, dx, rfl, h1, h2, h3, rfl⟩) fun u s2 ⟨v2, H2, I2, r2, e, dx, ev, h1, h2, h3, eH⟩ => ?_
     subst ev eH
     obtain rfl : u = Value.ref e := r2
     refine ⟨e, C, some dx, rfl, (I2.hok e _ Ah).1, I2.kIn, x.obj, ?_⟩
     refine kx pins σ H1 _ s2 e none I2 ⟨A, w1⟩ ⟨⟨C, dx, [(f, y)], hcl, Ah, by rw [Af h3]; exact Ah, ?_, h2⟩, fun b u q => ?_, h1, fun T z => nomatch z⟩
     ·simp [FsV, hy]
     ·rw [Af (Aj q h1), Af (Aj q h2)]; exact q
   show wpAny _ _ (exec (.Raise (some (.Call (.Name cx np) [a] [] cpos)) none pos) X.env) _ _ _
   rw [arm_exec_Raise]
   refine wpAny_bind (wpAny_standAt (Wy (K := X.K) (I.ok.hd hc) ?_))
   exact wpAny_bind (thn call fun v s1 q => wpAny_bind (wpAny_standAt (wpAny_pure q)))
  ·simp [hd] at e
end
end PV
namespace EX
open PySem PySem.Spec L2
open PyProof.Rows hiding St
abbrev Cx.mk2 (X : Cx) (e : Addr) : Cx := { X with A := X.A.mark (some (.ref e)), calm := false, xe := fun _ _ => False }
section
variable {X : Cx} {pins : List (Addr × Obj)} {σ : St} {H : Hp} {s : Shared} {e C R : Addr} {K : PySem.W.Frag}
theorem PL (I : Inv X pins σ H s) : Inv (Cx.mk2 X e) pins σ H s :=
 ⟨⟨I.ok.mod, I.ok.kind, I.ok.glob, I.ok.blt, I.ok.above, I.ok.inj, I.ok.has, I.ok.cab, (fun z => nomatch z), I.ok.frames, I.ok.stk, I.ok.exf, I.ok.bs, I.ok.bsz, I.ok.noex, I.ok.exfs, I.ok.funs, I.ok.frf⟩, I.os, I.bare, I.base, I.loc, I.cell, I.free, I.freeC, I.pin, I.hok, I.len⟩
theorem Kp (ok : X.Ok) (I : Inv (Cx.mk2 X e) pins σ H s) : Inv X pins σ H s := ⟨ok, I.os, I.bare, I.base, I.loc, I.cell, I.free, I.freeC, I.pin, I.hok, I.len⟩
abbrev Cx.tr (X : Cx) (E : Value → Shared → Prop) (pn : List (Addr × Obj)) : Cx := { X with xe := E, pn := pn }
theorem eQ {E : Value → Shared → Prop} {pn : List (Addr × Obj)} (ok : X.Ok) : (Cx.tr X E pn).Ok := ⟨ok.mod, ok.kind, ok.glob, ok.blt, ok.above, ok.inj, ok.has, ok.cab, ok.hd, ok.frames, ok.stk, ok.exf, ok.bs, ok.bsz, ok.noex, ok.exfs, ok.funs, ok.frf⟩
theorem cH {E : Value → Shared → Prop} (I : Inv X pins σ H s) : Inv (Cx.tr X E (X.pn ++ pins)) [] σ H s := ⟨eQ I.ok, I.os, I.bare, I.base, I.loc, I.cell, I.free, I.freeC, fun p hp => I.pin p (by simpa using hp), I.hok, I.len⟩
theorem Gg {E : Value → Shared → Prop} {pins' : List (Addr × Obj)} (ok : X.Ok) (I : Inv (Cx.tr X E (X.pn ++ pins)) pins' σ H s) : Inv X pins σ H s := ⟨ok, I.os, I.bare, I.base, I.loc, I.cell, I.free, I.freeC, fun p hp => I.pin p (List.mem_append_left _ hp), I.hok, I.len⟩
theorem J3 {E : Value → Shared → Prop} {pins' : List (Addr × Obj)} {D : Ends} {f : Flow} {s' : Shared} (ok : X.Ok) (h : SP (Cx.tr X E (X.pn ++ pins)) pins' D f s') : SP X pins D f s' := by
 cases f with
 | next => obtain ⟨σ', H', I, q⟩ := h; exact ⟨σ', H', Gg ok I, q⟩
 | brk => obtain ⟨σ', H', I, q⟩ := h; exact ⟨σ', H', Gg ok I, q⟩
 | cont => obtain ⟨σ', H', I, q⟩ := h; exact ⟨σ', H', Gg ok I, q⟩
 | ret u => obtain ⟨v, σ', H', I, r, q⟩ := h; exact ⟨v, σ', H', Gg ok I, r, q⟩
theorem W0 {M : Model} {A : Around} {E : Value → Shared → Prop} {Q : Unit → Shared → Prop} {od : Option Addr} {T : Addr} (I : Inv X pins σ H s) (he : H e = some (excO e C od (some T))) (ht : H T = some (tbO T .none)) (k : ∀ s', Inv X pins σ H s' → Q () s') : wpAny M A (setFlight (.ref e) none) Q E s := by
 obtain ⟨⟨o, vs, q1, q2, q3, q4, q5, q6⟩, _⟩ := I.hok e _ he
 obtain ⟨⟨oT, ts, r1, r2, r3, r4⟩, _⟩ := I.hok T _ ht
 have z3 : 3 < ts.size := (Array.getElem?_eq_some_iff.mp r3).1
 unfold setFlight
 refine wpAny_bind (wpAny_field q1 q4 q6 ?_)
 rw [if_pos (show (tbV (some T) != Value.none) = true from by simp [tbV])]
 refine wpAny_setField r1 r2 z3 (k _ ?_)
 have I1 := Hq (u' := tbO T .none) (i := 3) (v := (none : Option Addr).elim Value.none fun f => rawInt f) I ht trivial r1 r2 fun h' o' y1 y2 y3 y4 => TbP.ok ⟨o', _, y1, y4, by simp [z3], y2.trans r4⟩
 rwa [PB ht] at I1
theorem R0 {M : Model} {A : Around} {E : Value → Shared → Prop} {Q : Unit → Shared → Prop} {i : Nat} {n : Str} {pos : Pos} (I : Inv X pins σ H s) (hN : X.N.Nodup) (hi : X.N[i]? = some n) (hk : X.env.kindOf n = some .local)
  (h : ∀ s', Inv X pins (σ.set i none) H s' → Q () s') : wpAny M A (do bindName X.env n .none; unbindBehindTheSuite X.env n pos) Q E s := by
 obtain ⟨m, hn, hl⟩ := I.loc
 have hcls : (X.env.scope.kind == .class || (X.env.scope.kind == .module && X.env.locals != X.env.globals)) = false := by rw [I.ok.kind]; rfl
 have cne := I.cne
 obtain ⟨oL, _, _, hoL, _⟩ := id hn
 refine wpAny_nameGoes_keeps hk hn hcls fun h' v hn' hs => h _ ?_
 have ne : ∀ b o, X.s₀.heap.get? b = some o → b ≠ X.env.locals := fun b o z => Nat.ne_of_lt (Nat.lt_of_lt_of_le (Heap.lt_size z) I.ok.above)
 refine ⟨I.ok, I.os, I.bare, ⟨fun b o z n hb hx => (hs.2 b (ne b o z)).trans (I.base.keep b o z n hb hx), fun b o z n hb hx => ?_, I.base.free, fun b o z hx => ?_, I.base.tups, I.base.frzs, I.base.tbls⟩, ⟨_, hn', fun j y v' e1 e2 e3 => ?_⟩, fun y c z => ?_, I.free, I.freeC, fun p hp => ?_, fun b ob z => ?_, by simpa using I.len⟩
 ·obtain ⟨sl, e1⟩ := I.base.slot b o z n hb hx
  exact ⟨sl, (hs.2 b (ne b o z)).trans e1⟩
 ·obtain ⟨o', e1⟩ := I.base.there b o z hx
  exact ⟨o', (hs.2 b (ne b o z)).trans e1⟩
 ·by_cases hj : j = i
  ·subst hj
   rw [List.getElem?_set] at e2
   split at e2
   ·split at e2 <;> cases e2
   ·rename_i z; exact absurd rfl z
  ·rw [List.getElem?_set_ne (Ne.symm hj)] at e2
   obtain ⟨u', r', q⟩ := hl j y v' e1 e2 e3
   refine ⟨u', r', ?_⟩
   rcases q with ⟨k, z⟩ | ⟨k, c, z, z'⟩
   ·refine .inl ⟨k, ?_⟩
    have : y ≠ n := fun w => hj (J6 hN e1 (w ▸ hi))
    simp [this, z]
   ·exact .inr ⟨k, c, z, z'.sameBut hs (cne y c z)⟩
 ·obtain ⟨w', z'⟩ := I.cell y c z
  exact ⟨w', z'.sameBut hs (cne y c z)⟩
 ·obtain ⟨z, n, ne, nf, d⟩ := I.pin p hp
  exact ⟨(hs.2 p.1 ne).trans z, n, ne, nf, d⟩
 ·refine (I.hok b ob z).stay (fun c w' hc q => (hs.2 c ?_).trans q) (fun _ q => q) fun _ _ q => q
  rintro rfl
  rcases hc with hc | hc
  ·rw [← hc, I.free] at z; cases z
  ·rw [I.free] at hc; cases hc
theorem Ni {M : Model} {A : Around} {E : Value → Shared → Prop} {Q : Bool → Shared → Prop} {oe : Obj} (KI : K.In s.heap) (hR : excX K R = true) (xc : XC K C R) (he : s.heap.get? e = some oe) (hcls : oe.cls = .ref C) (hq : Q true s) :
  wpAny M A (excMatches (.ref e) (.ref R)) Q E s := by
 obtain ⟨nm, qn, N, bs, bm, hdct, sn, sub, ab, col, dd, k0, k1, k2, k3, k5, hC, T⟩ := H_ KI hR
 obtain ⟨cd, c1, c2, c3⟩ := xc.cls
 have L : PySem.W.Looks M s.heap (isSubtype (.ref C) (.ref R)) true := PySem.W.looks_subIn KI (by show PySem.W.mroIn K C _ = _; unfold PySem.W.mroIn; rw [c1, Option.bind_some, c2]; simp)
 have hcB : (Value.ref R :: bm).contains (.type "BaseException") = true := by rw [List.contains_cons, T.hasType (by decide +kernel : bmV.contains (.type "BaseException") = true), Bool.or_true]
 have f := tc_notTuple
 obtain ⟨hp, g, d, t, os⟩ := s
 unfold excMatches
 repeat (first | (with_reducible refine wpAny_loadPart_at he ?_; rw [hcls]) | with_reducible refine wpAny_loadPart_at hC ?_ | (with_reducible refine wpAny_isSubtype_exc hC ?_; rw [hcB]) | with_reducible refine L.at ?_ | wp_step)
 exact hq
end
end EX
namespace PV
open PySem PySem.Spec L2 EX
open PyProof.Rows hiding St
def offO (i : Nat) (o : Option Out) : Option Out := match o with
 | some (.nx ρ) => some (.nx (ρ.set i .un))
 | some (.rt d ρ) => some (.rt d (ρ.set i .un))
 | _ => none
def tryO (cs : List Str) (i : Nat) (h : FS) (o : Option Out) : Option Out := match o with
 | some (.rt d ρ) => (match excOf d with
  | some (c, gs) => if cs.contains c = true then offO i (h (ρ.set i (.fz (.err c gs)))) else none
  | none => some (.rt d ρ))
 | o => o
def tryF (cs : List Str) (i : Nat) (g h : FS) : FS := fun ρ => tryO cs i h (g ρ)
section
variable {X : Cx} {G : Gx} {A0 A : List Addr} {He H : Hp} {σ : St} {ρ : Rho}
theorem OkW.unset (w : OkW G A0 He A σ H ρ) (i : Nat) : OkW G A0 He A (σ.set i none) H (ρ.set i .un) := by
 have key : ∀ (j : Nat) (z : Slot), z ≠ .un → (ρ.set i .un)[j]? = some z → j ≠ i ∧ ρ[j]? = some z := fun j z nz h => by
  by_cases hj : j = i
  ·subst hj
   rw [List.getElem?_set] at h
   split at h
   ·split at h
    ·cases h; exact absurd rfl nz
    ·cases h
   ·rename_i q; exact absurd rfl q
  ·rw [List.getElem?_set_ne (Ne.symm hj)] at h; exact ⟨hj, h⟩
 have ks : ∀ (j : Nat), j ≠ i → (σ.set i none)[j]? = σ[j]? := fun j hj => List.getElem?_set_ne (Ne.symm hj)
 refine ⟨w.same, w.sub, w.fr, w.l0, ⟨by rw [List.length_set, List.length_set]; exact w.ok.len, w.ok.live, fun j d h => ?_, fun j d h => ?_, fun j k d e a h1 h2 h3 h4 => ?_⟩, fun j d a h1 h2 => ?_, fun x d hx h0 => ?_⟩
 ·obtain ⟨hj, h⟩ := key j _ (by simp) h; rw [ks j hj]; exact w.ok.fz j d h
 ·obtain ⟨hj, h⟩ := key j _ (by simp) h; rw [ks j hj]; exact w.ok.ow j d h
 ·obtain ⟨hj, h1⟩ := key j _ (by simp) h1
  obtain ⟨hk, h2⟩ := key k _ (by simp) h2
  rw [ks j hj] at h3
  rw [ks k hk] at h4
  exact w.ok.inj j k d e a h1 h2 h3 h4
 ·obtain ⟨hj, h1⟩ := key j _ (by simp) h1
  rw [ks j hj] at h2
  exact w.ow0 j d a h1 h2
 ·obtain ⟨hj, h0⟩ := key 0 _ (by simp) h0
  rw [ks 0 hj]
  exact w.lt x d hx h0
theorem Y4 {cs : List Str} {i : Nat} {n rx : Str} {R : Addr} {body suite : List Stmt} {b0 : Stmt} {np hpos pos : Pos} {g h : FS} (hst : X.stack = X.env :: X.outer) (hf : X.env.frame = some X.env.locals) (hN : X.N.Nodup) (hi : X.N[i]? = some n) (hk : X.env.kindOf n = some .local) (hg : Gl X rx) (hm : X.mg rx = some (.ref R)) (hR : excX X.K R = true)
  (hcl : ∀ c C, cs.contains c = true → G.xcl c = some C → XC X.K C R) (hb : ∀ E pn, PSZs (Cx.tr X E pn) G body g) (hs : ∀ e, PSDs (Cx.mk2 X e) G (b0 :: suite) h) (hdb : (rx == ("__debug__" : Str)) = false := by decide) :
  PSD X G (.Try body [.ExceptHandler (some (.Name rx np)) (some n) (b0 :: suite) hpos] [] [] pos) (tryF cs i g h) := fun A0 He pins s σ H D I ⟨ρ, o, ok, e, k⟩ => by
 refine wpAny_Try_except ?_
 unfold tryF at e
 cases e1 : g ρ with
 | none => rw [e1] at e; cases e
 | some o1 =>
  rw [e1] at e
  have fin : ∀ {E' : Value → Shared → Prop} (f : Flow) (s1 : Shared), SP (Cx.tr X E' (X.pn ++ pins)) [] D f s1 → (match f with | .next => wpAny (model X.prog X.w) X.A (execs [] X.env) (SP X pins D) X.xe s1 | f => SP X pins D f s1) := fun f s1 q => by
   cases f with
   | next => exact wpAny_execs_nil (J3 I.ok q)
   | brk => exact J3 I.ok q
   | cont => exact J3 I.ok q
   | ret u => exact J3 I.ok q
  refine wpAny_mono (hb (fun e s1 => wpAny (model X.prog X.w) X.A (noteFrame e X.env) (fun _ s2 => wpAny (model X.prog X.w) X.A (setFlight e none) (fun _ s3 => wpAny (model X.prog X.w) X.A (handleBy e X.env [.ExceptHandler (some (.Name rx np)) (some n) (b0 :: suite) hpos]) (SP X pins D) X.xe s3) X.xe s2) X.xe s1) (X.pn ++ pins) A0 He [] s σ H D (cH I) ⟨ρ, o1, ok, e1, ?_, ?_⟩) (fun f s1 q => fin f s1 q) fun e s1 q => q
  ·cases o1 with
   | nx ρ' => cases e; exact k
   | bk ρ' => cases e; exact k
   | ct ρ' => cases e; exact k
   | rt d ρ' =>
    cases e2 : excOf d with
    | none => simp only [tryO, e2] at e; cases e; exact k
    | some q => exact fun v σ' H' A w r => absurd e2 (by rw [Qa r]; simp)
  ·cases o1 with
   | nx ρ' => trivial
   | bk ρ' => trivial
   | ct ρ' => trivial
   | rt d ρ' =>
    intro c gs e2 pins' σ1 H1 H2 s2 ea tb I2 ⟨A1, w1⟩ x
    simp only [tryO, e2] at e
    by_cases hc : cs.contains c = true
    ·rw [if_pos hc] at e
     have I2 := Gg I.ok I2
     refine O_ hst hf I2 x fun T H3 s3 I3 x3 => ?_
     obtain ⟨C, dx, fs, y1, y2, y3, y4, y5⟩ := x3.ex
     have xc := hcl c C hc y1
     have w3 := w1.mono x3.same
     obtain ⟨⟨oe, vs, q1, q2, q3, q4, q5, q6⟩, _⟩ := I3.hok ea _ y2
     refine wpAny_handleBy_cons (codeAny_handlers_test ?_) (by intro q; cases q)
     refine Fl (X := Cx.mk2 X ea) (PL I3) hg hm ?_ hdb
     refine Ni I3.kIn hR xc q1 q2 ?_
     refine codeAny_handlers_suite_as (W0 I3 y2 (x3.tbk T rfl).1 fun s4 I4 => ?_)
     have noA : ∀ b, H1 b = none → b ∉ A1 := fun b z q => (w1.ok.live b q).ne z
     have rp : Rep G (hid A1 H3) (.ref ea) (.err c gs) := .err y1 (by rw [Bm (noA ea x3.new)]; exact y2) (by rw [Bm (noA dx y5)]; exact y3) y4
     refine Hg (X := Cx.mk2 X ea) (PL I4) hN hi (Or.inl hk) (show RelV (.ref ea) (.ref ea) from rfl) (fun s5 I5 => ?_) (.inr hk)
     cases e5 : h (ρ'.set i (.fz (.err c gs))) with
     | none => rw [e5] at e; cases e
     | some o5 =>
      rw [e5] at e
      refine wpAny_mono (hs ea A0 He pins s5 _ H3 { nx := fun σ' H' => D.nx (σ'.set i none) H', rt := D.rt } I5 ⟨_, o5, ⟨A1, w3.set rp i⟩, e5, ?_⟩) (fun f s6 q => ?_) fun _ _ z => z.elim
      ·cases o5 with
       | nx ρ5 => cases e; exact fun σ6 H6 ⟨A6, w6⟩ => k _ _ ⟨A6, w6.unset i⟩
       | rt d5 ρ5 => cases e; exact fun v σ6 H6 A6 w6 r6 => k v _ H6 A6 (w6.unset i) r6
       | bk ρ5 => cases e
       | ct ρ5 => cases e
      ·cases f with
       | next =>
        obtain ⟨σ6, H6, I6, q⟩ := q
        exact R0 (Kp I.ok I6) hN hi hk fun s7 I7 => ⟨_, H6, I7, q⟩
       | ret u =>
        obtain ⟨v, σ6, H6, I6, r, q⟩ := q
        exact R0 (Kp I.ok I6) hN hi hk fun s7 I7 => ⟨v, _, H6, I7, r, q⟩
       | brk => obtain ⟨_, _, _, q⟩ := q; exact q.elim
       | cont => obtain ⟨_, _, _, q⟩ := q; exact q.elim
    ·rw [if_neg hc] at e; cases e
end
end PV
namespace EX
open PySem PySem.W PySem.Spec PyProof.Rows PySem.Calls
section
variable {prog : Program} {w : World} {A : Around} {E : Value → Shared → Prop} {s : Shared} {K : Frag} {x C : Addr} {ox : Obj} {od : Obj}
theorem Tw {Q : Option Value → Shared → Prop} (X : K.In s.heap) (I : InstAt s.heap x ox C (some od)) (hga : findIn K (.ref C) "__getattribute__" = some (some (.builtin "BaseException.__getattribute__"))) (hgt : findIn K (.ref C) "__getattr__" = some none)
  (hsub : subIn K (.ref C) (.type "BaseException") = some true) (hcl : (clsIn K C).isSome = true) (ha : findIn K (.ref C) "__class__" = some (some (.builtin "object.__class__")))
  (hn : specialIn K (.builtin "object.__class__") "__get__" = some (some (.builtin "getset_descriptor.__get__"))) (htk : takesIn K (.builtin "object.__class__") = some true) (hm : mroIn K C (.type "object") = some true) (h : Q (some (.ref C)) { s with toks := s.toks + 1 }) : wpAny (model prog w) A (getAttr? (.ref x) "__class__") Q E s := by
 have hf : findObj K C (some od) "__class__" = some (.bind (.builtin "getset_descriptor.__get__") (.builtin "object.__class__")) := findObj_data hcl ha hn htk
 obtain ⟨hp, g, d, t, os⟩ := s
 have L0 := I.type (M := model prog w)
 have L1 := looks_findIn (M := model prog w) X hga
 have L2 := looks_findIn (M := model prog w) X hgt
 have L3 := looks_find (M := model prog w) X I hf
 have L4 := looks_subIn (M := model prog w) X hsub
 have f3 := F.attr_ValueError.ga.bind (.ref x)
 have hk : builtinKind "BaseException.__getattribute__" = some .slot := by decide +kernel
 have hsplit : splitId "BaseException.__getattribute__" = some ("BaseException", "__getattribute__") := by decide +kernel
 have hx2 : (Value.builtin "BaseException.__getattribute__" == Value.builtin "object.__getattribute__") = false := by decide +kernel
 have hx1 : (onTheHeap (Value.ref C) && Value.builtin "BaseException.__getattribute__" == Value.builtin "object.__getattribute__") = false := by rw [hx2]; rfl
 unfold getAttr? getAttrBy? getAttrBy
 refine wpAny_bind (wpAny_mkText (wpAny_bind (wpAny_attempt (wpAny_holding (wpAny_bind (L0.at (wpAny_bind (L1.at ?_))))))))
 dsimp only
 rw [hx1, if_neg (by decide)]
 have ck : ∀ (Q : Unit → Shared → Prop) (B : Around) (E' : Value → Shared → Prop), Q () ⟨hp, g, d, t + 1, os⟩ → wpAny (model prog w) B (checkBuiltinCall "BaseException.__getattribute__" ⟨[.ref x, .str "__class__" t], []⟩) Q E' ⟨hp, g, d, t + 1, os⟩ := fun Q B E' hq => by
  have ha := F.args_bexc_ga (.ref x) (.str "__class__" t)
  simp only [checkBuiltinCall, hk, hsplit]
  refine wpAny_bind ?_
  unfold isInstance
  refine wpAny_bind (L0.at (L4.at ?_))
  repeat (any_goals (first | assumption | wp_step))
 have run : ∀ (B : Around) (R : Result → Shared → Prop), R (.ok (.ret (.ref C))) ⟨hp, g, d, t + 1, os⟩ → codeAny (model prog w) B (.call (.builtin "BaseException.__getattribute__") ⟨[.ref x, .str "__class__" t], []⟩) R ⟨hp, g, d, t + 1, os⟩ := fun B R hq =>
  codeAny_call_builtin F.attr_ValueError.ga.plain F.entry_bexc_ga (ck _ _ _ (by
   unfold Builtin.«object.__getattribute__»
   repeat (any_goals (first | assumption | with_reducible refine L0.at ?_ | with_reducible refine L3.at ?_ | wp_step))
   exact class_get (s := ⟨hp, g, d, t + 1, os⟩) (ox := ox) (od := some od) X I hm (wpAny_pure hq)))
 repeat (any_goals (first | assumption | with_reducible refine L2.at ?_ | wp_step))
 refine run _ _ ?_
 show wpAny _ _ (handedOut (.ref C)) _ _ _
 rw [handedOut_of rfl]
 exact wpAny_pure (wpAny_pure h)
structure XK2 (K : Frag) (C : Addr) : Prop where
 ha : findIn K (.ref C) "__class__" = some (some (.builtin "object.__class__"))
 hn : specialIn K (.builtin "object.__class__") "__get__" = some (some (.builtin "getset_descriptor.__get__"))
 htk : takesIn K (.builtin "object.__class__") = some true
theorem W2 {R : Addr} (xc : XC K C R) (k : XK2 K C) : KitX K (.ref x) (.ref C) (fun h => ∃ ox od, InstAt h x ox C (some od)) := by
 obtain ⟨cd, c1, c2, c3⟩ := xc.cls
 have mi : ∀ v, (cd.mro.contains v) = true → mroIn K C v = some true := fun v hv => by unfold mroIn; rw [c1, Option.bind_some, hv, c2]; rfl
 refine ⟨fun M h _ ⟨ox, od, I⟩ => I.type, fun M h X _ => ?_, fun h tp dd its n sl X htp => ?_, fun {prog w A E Q s} X ⟨ox, od, I⟩ h => Tw X I xc.ga xc.gt (mi _ (by rw [c2]; rfl)) (by rw [c1]; rfl) k.ha k.hn k.htk (mi _ (by rw [c2]; rfl)) h⟩
 ·have hcD := c1
  unfold clsIn at hcD
  split at hcD
  ·rename_i c' d' cd' sl' ho
   intro A' Q' E' s' k q
   unfold isType loadHead
   exact wpAny_bind (wpAny_loadPart (k _ _ (X _ _ ho)) (wpAny_pure q))
  ·cases hcD
 ·have hcD := c1
  refine Bool.eq_false_iff.mpr fun q => ?_
  have e : C = tp := Value.ref.inj (beq_iff_eq.mp q)
  subst e
  unfold clsIn at hcD
  split at hcD
  ·rename_i c' d' cd' sl' ho
   have z := (X _ _ ho).symm.trans htp
   cases z
  ·cases hcD
end
end EX
namespace PV
open PySem PySem.Spec L2 EX
open PyProof.Rows hiding St
structure XT (G : Gx) (cs : List Str) (R : Addr) : Prop where
 xc : ∀ c C, cs.contains c = true → G.xcl c = some C → XC G.K C R
 xk : ∀ c C, cs.contains c = true → G.xcl c = some C → XK2 G.K C
def isxD (cs ns : List Str) : D → Option D
 | .non => some (.bl (ns.contains "NoneType"))
 | .bl _ => some (.bl (ns.contains "bool"))
 | .int _ => some (.bl (ns.contains "int"))
 | .str _ => some (.bl (ns.contains "str"))
 | .err c _ => if cs.contains c = true then some (.bl (ns.contains c)) else none
 | _ => none
structure Kit (G : Gx) (cs : List Str) (cv : List Value) (ns : List Str) : Prop where
 non : PySem.W.kitAny G.K (.type "NoneType") cv = some (ns.contains "NoneType")
 bl : PySem.W.kitAny G.K (.type "bool") cv = some (ns.contains "bool")
 int : PySem.W.kitAny G.K (.type "int") cv = some (ns.contains "int")
 str : PySem.W.kitAny G.K (.type "str") cv = some (ns.contains "str")
 err : ∀ c C, cs.contains c = true → G.xcl c = some C → PySem.W.kitAny G.K (.ref C) cv = some (ns.contains c)
inductive SpecV (H : Hp) : V → List Value → Prop
 | cls (C : Addr) : SpecV H (.ref C) [.ref C]
 | ty (T : String) : SpecV H (.ty T) [.type T]
 | tup {p : Addr} {Cs : List Addr} : H p = some (.tup (Cs.map V.ref)) → SpecV H (.ref p) (Cs.map Value.ref)
theorem MP : ∀ {Cs : List Addr} {ws : List Value}, Vals (Cs.map V.ref) ws → ws = Cs.map Value.ref
 | [], _, .nil => rfl
 | _ :: _, _, .cons r t => by rw [MP t, (show _ = Value.ref _ from r)]; rfl
def R1 (cv : List Value) : TE := fun _ H Q => ∀ v H', Same H H' → SpecV H' v cv → Q v H'
def R3 (Cs : List Addr) : TA := fun _ H Q => Q (Cs.map V.ref) H
section
variable {X : Cx} {G : Gx} {a sp : Expr} {es : List Expr} {fa : FE} {pos p : Pos} {cs ns : List Str} {cv : List Value} {R : Addr} {Cs : List Addr}
theorem G5 {x : Str} {C : Addr} (hg : Gl X x) (hm : X.mg x = some (.ref C)) (hd : (x == ("__debug__" : Str)) = false := by decide) : PE X (.Name x pos) (R1 [.ref C]) := Bu (El (v := .ref C) hg hm rfl hd) fun σ H Q h => h _ H (Same.refl H) (.cls C)
theorem PQ {x : Str} {T : String} (hg : Gl X x) (hm : X.mg x = none) (hv : bootBuiltins x = some (.type T)) (hn : x ≠ "__name__" := by decide) (hd : (x == ("__debug__" : Str)) = false := by decide) : PE X (.Name x pos) (R1 [.type T]) := Bu (Xm (v := .ty T) hg hm hv rfl hn hd) fun σ H Q h => h _ H (Same.refl H) (.ty T)
theorem Tz : PA X [] (R3 []) := Ex
theorem Ea {x : Str} {C : Addr} (hm : X.mg x = some (.ref C)) (hr : PA X es (R3 Cs)) (hg : Gl X x := by rfl) (hd : (x == ("__debug__" : Str)) = false := by decide) (hs : starEach (.Name x pos :: es) X.env = (false, eval (.Name x pos) X.env) :: starEach es X.env := by rfl) : PA X (.Name x pos :: es) (R3 (C :: Cs)) := CV (El (v := .ref C) hg hm rfl hd) hr hs
theorem T3 {x1} (h : PA X es (R3 Cs)) (hz : Nat.ble Cs.length 1000 = true := by rfl) : PE X (.Tuple es x1 pos) (R1 (Cs.map Value.ref)) := Bu (Mp h) fun σ H Q h => ⟨by rw [List.length_map]; exact Cq (Nat.le_trans (Nat.le_of_ble_eq_true hz) (by decide)), fun p hp => h _ _ (Am hp _) (.tup Ah)⟩
theorem R4 {K : PySem.W.Frag} {t c : Value} {b : Bool} (h : PySem.W.kitAny K t [c] = some b) : PySem.W.kitOne K t c = some b := by
 unfold PySem.W.kitAny at h
 split at h
 ·rename_i e; rw [e]; exact h
 ·rename_i e; rw [e]; exact h
 ·cases h
theorem IK {pins : List (Addr × Obj)} {σ : St} {H : Hp} {s : Shared} {x t : Value} {v : V} {u : Value} {b : Bool} {HH : Heap → Prop} {A : Around} {E : Value → Shared → Prop} {Q : Value → Shared → Prop} (I : Inv X pins σ H s) (Z : PySem.W.KitX X.K x t HH) (hh : HH s.heap) (e : PySem.W.kitAny X.K t cv = some b)
  (hx : x ≠ .builtin "__main__.__loader__#opaque") (sv : SpecV H v cv) (ru : RelV v u) (h : ∀ tk, Q (.bool b) { s with toks := tk }) : wpAny (model X.prog X.w) A (call (.builtin "isinstance") [x, u]) Q E s := by
 cases sv with
 | cls C => obtain rfl := (show u = Value.ref C from ru); exact PySem.W.kia_one Z I.kIn hh (R4 e) hx h
 | ty T => obtain rfl := (show u = Value.type T from ru); exact PySem.W.kia_one Z I.kIn hh (R4 e) hx h
 | tup hp =>
  obtain rfl := (show u = Value.ref _ from ru)
  obtain ⟨_, its, r, o, g1, g2, n, g3⟩ := I.hok _ _ hp
  have := MP r
  subst this
  obtain ⟨oc, od, oda, osl⟩ := o
  dsimp only at g2 g3
  subst g2 g3
  exact PySem.W.kia_tup Z I.kIn hh g1 e hx h
theorem W3 {pins : List (Addr × Obj)} {σ : St} {H : Hp} {s : Shared} {e C dx : Addr} {tb : Option Addr} {fs : List (Str × V)} (I : Inv X pins σ H s) (he : H e = some (excO e C (some dx) tb)) (hd : H dx = some (.xd fs)) : ∃ ox od, PySem.W.InstAt s.heap e ox C (some od) := by
 obtain ⟨⟨o, vs, q1, q2, q3, q4, q5, q6⟩, _⟩ := I.hok e _ he
 obtain ⟨mA, ns, r⟩ := I.hok dx _ hd
 obtain ⟨oD, g1, g2⟩ := Iu ns
 exact ⟨o, oD, q1, q2, by unfold PySem.W.notCls; rw [q4], by rw [q3]; exact g1⟩
theorem W4 (hG : G.K = X.K) (t : XT G cs R) (kt : Kit G cs cv ns) : DW X (.builtin "isinstance") (fun xs H Q => ∃ x v A d b, xs = [x, v] ∧ Rep G (hid A H) x d ∧ isxD cs ns d = some (.bl b) ∧ SpecV H v cv ∧ Q (.bl b) H) := by
 rintro pins s σ H xs us Q I r ⟨x, v, A, d, b, rfl, rp, e, sv, q⟩
 cases r with
 | cons rx r =>
  cases r with
  | cons rv r =>
   cases r
   have fin : ∀ tk, EP X pins σ Q (.bool b) { s with toks := tk } := fun tk => ⟨.bl b, H, I.tok _, rfl, q⟩
   cases rp with
   | non => obtain rfl := (show _ = Value.none from rx); cases e; exact IK I PySem.W.kitx_none True.intro (hG ▸ kt.non) (fun z => nomatch z) sv rv fin
   | bl y => obtain rfl := (show _ = Value.bool y from rx); cases e; exact IK I PySem.W.kitx_bool True.intro (hG ▸ kt.bl) (fun z => nomatch z) sv rv fin
   | int i => obtain ⟨t', rfl⟩ := (show ∃ t, _ = Value.int i t from rx); cases e; exact IK I PySem.W.kitx_int True.intro (hG ▸ kt.int) (fun z => nomatch z) sv rv fin
   | str i => obtain ⟨t', rfl⟩ := (show ∃ t, _ = Value.str i t from rx); cases e; exact IK I PySem.W.kitx_str True.intro (hG ▸ kt.str) (fun z => nomatch z) sv rv fin
   | @err a C dx tb c fs gs hC h1 h2 h3 =>
    obtain rfl := (show _ = Value.ref a from rx)
    have e' : (if cs.contains c = true then some (D.bl (ns.contains c)) else none) = some (.bl b) := e
    split at e'
    ·rename_i hc
     cases e'
     exact IK I (W2 (hG ▸ t.xc c C hc hC) (hG ▸ t.xk c C hc hC)) (W3 I (Ai _ _ h1) (Ai _ _ h2)) (hG ▸ kt.err c C hc hC) (fun z => nomatch z) sv rv fin
    ·cases e'
   | tup => cases e
   | lst => cases e
   | dk => cases e
   | dt => cases e
   | adr => cases e
   | ob => cases e
theorem cI {d d' : D} (h : isxD cs ns d = some d') : ∃ b, d' = .bl b := by
 unfold isxD at h
 split at h
 ·cases h; exact ⟨_, rfl⟩
 ·cases h; exact ⟨_, rfl⟩
 ·cases h; exact ⟨_, rfl⟩
 ·cases h; exact ⟨_, rfl⟩
 ·split at h
  ·cases h; exact ⟨_, rfl⟩
  ·cases h
 ·cases h
theorem HW {x : Str} (hG : G.K = X.K) (t : XT G cs R) (kt : Kit G cs cv ns) (hg : Gl X x) (hm : X.mg x = none) (hv : bootBuiltins x = some (.builtin "isinstance")) (ha : PF X G a fa) (hsp : PE X sp (R1 cv))
  (hn : x ≠ "__name__" := by decide) (hdb : (x == ("__debug__" : Str)) = false := by decide) (he : starEach [a, sp] X.env = (false, eval a X.env) :: starEach [sp] X.env := by rfl) (he2 : starEach [sp] X.env = (false, eval sp X.env) :: starEach [] X.env := by rfl) :
  PF X G (.Call (.Name x p) [a, sp] [] pos) (uF (isxD cs ns) fa) := fun A => Bu (OJ (W4 hG t kt) hg hm hv (CV (ha A) (CV hsp Ex he2) he) hn hdb he (by rw [he2]; rfl)) fun σ H Q ⟨ρ, d, o, e, k⟩ => by
 unfold uF at e
 cases e1 : fa ρ with
 | none => simp [e1] at e
 | some dx =>
  rw [e1] at e
  have e2 : isxD cs ns dx = some d := e
  obtain ⟨b, rfl⟩ := cI e2
  exact ⟨ρ, dx, o, e1, fun v H1 s1 r1 => fun w H2 s2 sv => ⟨v, w, A, dx, b, rfl, r1.mono (Aq s2), e2, sv, k _ H2 (s1.trans s2) (.bl b)⟩⟩
def fldE (cs : List Str) (f : Str) : D → Option D
 | .err c gs => if cs.contains c = true then gs.lookup f else none
 | _ => none
theorem Y5 {fs : List (Str × V)} {gs : List (Str × D)} {f : Str} {d : D} (h : FsV fs gs) (l : gs.lookup f = some d) : ∃ y, fs.lookup f = some y ∧ flV d = some y := by
 unfold FsV at h
 induction fs generalizing gs with
 | nil => cases gs with
  | nil => cases l
  | cons q t => cases h
 | cons q t ih =>
  cases gs with
  | nil => cases l
  | cons q' t' =>
   obtain ⟨k, v⟩ := q; obtain ⟨k', v'⟩ := q'
   simp only [List.map_cons, List.cons.injEq, Prod.mk.injEq] at h
   obtain ⟨⟨rfl, h1⟩, h2⟩ := h
   simp only [List.lookup] at l ⊢
   split at l
   ·cases l; exact ⟨v, rfl, h1.symm⟩
   ·exact ih h2 l
theorem W5 {H : Hp} {d : D} {y : V} (h : flV d = some y) : Rep G H y d := by
 cases d <;> first | (cases h; constructor) | cases h
theorem R5 {f : Str} (hG : G.K = X.K) (t : XT G cs R) (ha : PF X G a fa) (n : ∀ c C, cs.contains c = true → G.xcl c = some C → BJ G.K C f)
  (hb : attributeBase a f X.env (eval a X.env) = eval a X.env := by rfl) :
  PF X G (.Attribute a f pos) (uF (fldE cs f) fa) := fun A pins s σ H Q I ⟨ρ, d, o, e, k⟩ => by
 unfold uF at e
 cases e1 : fa ρ with
 | none => simp [e1] at e
 | some d0 =>
  rw [e1] at e
  have e2 : fldE cs f d0 = some d := e
  refine Qm hb (thn (ha A pins s σ H (fun v H1 => Same H H1 ∧ Rep G (hid A H1) v d0) I ⟨ρ, d0, o, e1, fun v H1 s1 r1 => ⟨s1, r1⟩⟩) fun u s1 ⟨v, H1, I1, rv, s1', rp⟩ => ?_)
  cases rp with
  | @err ae C dx tb c fs gs hC h1 h2 h3 =>
   obtain rfl := (show u = Value.ref ae from rv)
   have e' : (if cs.contains c = true then gs.lookup f else none) = some d := e2
   split at e'
   ·rename_i hc
    obtain ⟨y, l1, l2⟩ := Y5 h3 e'
    exact Yy I1 (Ai _ _ h1) (Ai _ _ h2) (hG ▸ t.xc c C hc hC) (hG ▸ n c C hc hC) l1 fun u' s2 I2 ru => ⟨y, H1, I2, ru, k y H1 s1' (W5 l2)⟩
   ·cases e'
  | _ => cases e2
end
end PV
namespace PV
open PySem PySem.Spec
section
variable {prog : Program} {w : World} {A : Around} {E : Value → Shared → Prop} {s : Shared} {T : String} {r d : Addr} {n : Nat} {P : Nat → Value → Prop} {OK : Heap → Prop}
theorem PX {R : List Value → Shared → Prop} (K : PySem.W.KdlSrc prog w T r d n P OK) (hh : A.handled = none) (hok : OK s.heap) (hn : n ≤ sizeLine)
  (h : ∀ (h' : Heap) (tk : Nat) (acc : Array Value), (∀ b o, s.heap.get? b = some o → h'.get? b = some o) → s.heap.objs.size ≤ h'.objs.size → ItemsOf P acc n → R acc.toList { s with heap := h', toks := tk }) :
  wpAny (model prog w) A (collect (.ref r)) R E s := by
 obtain ⟨hr, hd⟩ := K.there _ hok
 have gS : (s.heap.push { cls := .type "list", data := .seq ([] : List Value).toArray }).get? s.heap.objs.size = some { cls := .type "list", data := .seq #[] } := Heap.get?_push_size _ rfl
 unfold collect
 refine wpAny_bind (wpAny_runValue (codeAny_builtin PyProof.Rows.entry_proto_collect' ?_))
 rw [Around.under_plainId PySem.F.plain_proto_collect _]
 show wpAny _ A.in1 (newList [] >>= fun l => again (.builtin "list.__iadd__" ⟨[l, .ref r], []⟩)) _ _ s
 refine wpAny_bind (wpAny_newObj_type (wpAny_pure ⟨plainId_quiet PySem.F.plain_list_iadd _, codeAny_builtin PyProof.Rows.entry_list_iadd' ?_⟩))
 rw [Around.under_plainId PySem.F.plain_list_iadd _]
 show wpAny _ A.in1 (Builtin.List.listExtendWith (.ref s.heap.objs.size) (.ref r) (.ref s.heap.objs.size)) _ _ _
 have key := PySem.W.kdl_extend (A := A) (s := { s with heap := s.heap.push { cls := .type "list", data := .seq ([] : List Value).toArray } }) K
  (R := fun q s' => ∃ (h' : Heap) (tk : Nat) (acc' : Array Value) (c' : Nat), q = .ok (.ret (.ref s.heap.objs.size)) ∧ s' = { s with heap := h', toks := tk } ∧ (∀ b o, s.heap.get? b = some o → h'.get? b = some o) ∧ h'.get? s.heap.objs.size = some { cls := .type "list", dict := none, data := .seq acc' c', slots := #[] } ∧ ItemsOf P acc' n)
  hh (K.keep _ _ hok fun b _ o e => Heap.get?_push_of_some _ e) s.heap.objs.size (Nat.ne_of_gt hr) (Nat.ne_of_gt hd) (.ref s.heap.objs.size) 0 gS
  (fun h' tk acc' c' hk hS' hi => ⟨h', tk, acc', c', rfl, rfl, fun b o e => hk b o (Nat.ne_of_lt (Heap.lt_size e)) (Heap.get?_push_of_some _ e), hS', hi⟩) hn
 refine wpAny_mono key (fun fin s' x => ?_) fun e s' x => ?_
 ·cases fin with
  | done f =>
   obtain ⟨h', tk, acc', c', e, rfl, hk, hS', hi⟩ := x
   cases e
   show wpAny _ A (load s.heap.objs.size >>= _) _ _ _
   exact wpAny_bind (wpAny_load hS' (wpAny_pure (h h' tk acc' hk (Nat.le_of_lt (Heap.lt_size hS')) hi)))
  | again c =>
   refine ⟨x.1, codeAny_mono x.2 fun r2 s2 y => ?_⟩
   obtain ⟨h', tk, acc', c', e, rfl, hk, hS', hi⟩ := y
   cases e
   show wpAny _ A (load s.heap.objs.size >>= _) _ _ _
   exact wpAny_bind (wpAny_load hS' (wpAny_pure (h h' tk acc' hk (Nat.le_of_lt (Heap.lt_size hS')) hi)))
 ·obtain ⟨h', tk, acc', c', e, _⟩ := x
  cases e
end
section
variable {prog : Program} {w : World} {A : Around} {E : Value → Shared → Prop} {s : Shared} {q : Addr}
theorem T4 {ks : List Str} {v : Value} {Q : Value → Shared → Prop} (nd : ks.Nodup) (h60 : ks.length ≤ 60)
  (hc : ∀ (R : List Value → Shared → Prop) (E' : Value → Shared → Prop), (∀ (vs : List Value) (h' : Heap) (tk : Nat), PyProof.Rows.StrsAre vs ks → s.heap.objs.size ≤ h'.objs.size → (∀ b o, s.heap.get? b = some o → h'.get? b = some o) → R vs { s with heap := h', toks := tk }) → wpAny (model prog w) A.in1 (collect v) R E' s)
  (k : ∀ (its : List Value) (e : Nat) (l : Addr) (h' : Heap) (tk : Nat), PyProof.Rows.StrsAre its (Di ks) → h'.get? l = some (PyProof.Rows.seqObj "list" its.toArray e) → s.heap.objs.size ≤ l → (∀ b o, s.heap.get? b = some o → h'.get? b = some o) → Q (.ref l) { s with heap := h', toks := tk }) :
  wpAny (model prog w) A (call (.builtin "sorted") [v]) Q E s := by
 refine Calls.call_function_entry PyProof.Rows.kind_sorted PyProof.Rows.plain_sorted PyProof.Rows.entry_sorted (PyProof.Rows.args_sorted1 _) ?_
 unfold Builtin.«sorted»
 refine wpAny_bind (m := checkCount "sorted" 1 1 _) (wpAny_pure (wpAny_bind (hc _ _ fun vs h1 tk hS le kp => ?_)))
 have hlen : vs.length ≤ 60 := by rw [hS.length]; exact h60
 refine wpAny_bind (wpAny_newList ?_ (Nat.le_trans hlen (by decide)))
 have gl : (h1.push { cls := .type "list", data := .seq vs.toArray }).get? h1.objs.size = some (PyProof.Rows.seqObj "list" vs.toArray 0) := Heap.get?_push_size _ rfl
 refine wpAny_bind (wpAny_holding (wpAny_call_entry PyProof.Rows.slot_list_sort ⟨_, gl, rfl⟩ PyProof.Rows.entry_list_sort (PyProof.Rows.list_sort_treeK PyProof.Rows.strKind_oneLt gl hS.keysOf (fun a b r e => PyProof.Rows.keyKind_strs (by rw [← e]; exact hS)) (by omega) fun st a1 a2 => ⟨_, rfl, ?_⟩) (PyProof.Rows.args_list_sort _)))
 obtain ⟨ss, o1, o2, o3⟩ := PyProof.Rows.sorted_out_str hS a1 a2
 have e : ss = Di ks := Vt (M7 o3 (o2.nodup_iff.mpr nd)) (Oj ks) fun y => by rw [Lr, o2.mem_iff]
 subst e
 obtain ⟨c, hc⟩ : ∃ c, (PyProof.Rows.sortedHeap (h1.push { cls := .type "list", data := .seq vs.toArray }) h1.objs.size vs ((PyProof.Rows.arrOf st).map (·.2))).get? h1.objs.size = some (PyProof.Rows.seqObj "list" ((PyProof.Rows.arrOf st).map (·.2)).toList.toArray c) := by
  obtain ⟨c, hc⟩ := PyProof.Rows.sortedHeap_at (out := (PyProof.Rows.arrOf st).map (·.2)) gl
  exact ⟨c, by rw [hc, Array.toArray_toList]⟩
 refine wpAny_pure ⟨_, rfl, k _ c _ _ tk o1 hc le fun b o g => ?_⟩
 have lb := Heap.lt_size (kp b o g)
 rw [PyProof.Rows.sortedHeap_old (Nat.ne_of_lt lb) (by rw [Heap.size_push]; exact Nat.lt_succ_of_lt lb)]
 exact Heap.get?_push_of_some _ (kp b o g)
end
open L2
section
variable {X : Cx} {G : Gx} {a : Expr} {fa : FE} {pos p : Pos}
theorem IV : ∀ {zs : List Str} {us : List Value}, Vals (zs.map V.str) us → PyProof.Rows.StrsAre us zs
 | [], _, .nil => .nil
 | _ :: _, _, .cons r t => by obtain ⟨u, rfl⟩ := r; exact .cons _ _ (IV t)
theorem Df (hc : X.calm = true) : DW X (.builtin "sorted") (fun xs H Q => ∃ p kvs zs, xs = [.ref p] ∧ Rd H p (.dK kvs) ∧ kvs.map (fun q => kV q.1) = zs.map V.str ∧ zs.Nodup ∧ zs.length ≤ 60 ∧ ∀ l, H l = none → Q (.ref l) (upd H l (.lst ((Di zs).map V.str)))) := by
 intro pins s σ H xs us Q I r h
 obtain ⟨p, kvs, zs, rfl, e, ez, nd, hz, k⟩ := h
 obtain ⟨u, rfl, ru⟩ := r.one
 cases ru
 obtain ⟨z, hd, vs, rel, dd⟩ := Jc I.hok e
 obtain ⟨ep, dd⟩ := dd.dictAt
 have hl : kvs.length = vs.length := rel.length
 refine T4 (ks := zs) nd hz (fun R E' hR => PX (PySem.W.kdl_dict (knd := Av X.prog X.w) (kvs := vs) (ep := ep) hd) (I.ok.hd hc) dd (by omega) fun h' tk acc kp le hi => hR _ h' tk ?_ le kp) fun its e2 l h' tk hS g le kp => ?_
 ·have va : Vals (kvs.map fun q => kV q.1) acc.toList := by
   refine M_ (P := X.prog) (w := X.w) (by simp [hi.1, hl]) fun j u hu => ?_
   obtain ⟨k, x, h1, h2⟩ := hi.2 j u (by simpa using hu)
   have hj : j < kvs.length := by rw [hl]; exact (List.getElem?_eq_some_iff.mp h1).1
   refine ⟨kvs[j], by simp [hj], ?_⟩
   rw [(G4 rel (by simp [hj]) h1).1]
   exact h2
  rw [ez] at va
  exact IV va
 ·have hv := Ly hS
  refine ⟨.ref l, _, I.laid (a := l) (o := .lst ((Di zs).map V.str)) (t' := tk) kp le ⟨?_, its, e2, hv, g⟩, rfl, k l (I.hok.fresh le)⟩
  rw [List.length_map]
  have := sub_len (Vs (Oj zs)) (m := zs) fun y m => (Lr y zs).mp m
  exact Nat.le_trans this (Nat.le_trans hz (by decide))
def sdkL (kds : List (Key × D)) : Option D := (HB (kds.map fun p => kDt p.1)).bind fun zs => if zs.Nodup ∧ zs.length ≤ 60 then some (.lst ((Di zs).map .str)) else none
def sdkD : D → Option D
 | .dk kds => sdkL kds
 | _ => none
theorem J4 : SndC G (fun xs H Q => ∃ p kvs zs, xs = [.ref p] ∧ Rd H p (.dK kvs) ∧ kvs.map (fun q => kV q.1) = zs.map V.str ∧ zs.Nodup ∧ zs.length ≤ 60 ∧ ∀ l, H l = none → Q (.ref l) (upd H l (.lst ((Di zs).map V.str)))) sdkD := by
 intro A H x dx d Q lv r e k
 cases dx with
 | dk kds =>
  have e : sdkL kds = some d := e
  obtain ⟨p, kvs, rfl, h1, h2, h3⟩ := r.dk
  unfold sdkL at e
  cases ez : HB (kds.map fun p => kDt p.1) with
  | none => rw [ez] at e; cases e
  | some zs =>
   rw [ez] at e
   have e' : (if zs.Nodup ∧ zs.length ≤ 60 then some (D.lst ((Di zs).map .str)) else none) = some d := e
   split at e'
   ·rename_i hz
    cases e'
    refine ⟨p, kvs, zs, rfl, h1, WK (G := G) (H := hid A H) (WQ h2) ez, hz.1, hz.2, fun l hl => k _ _ (Am hl _) (Bt lv hl ⟨by simp, fun i v d h1 h2 => ?_⟩)⟩
    rw [List.getElem?_map] at h1 h2
    cases q : (Di zs)[i]? with
    | none => rw [q] at h1; cases h1
    | some z => rw [q] at h1 h2; cases h1; cases h2; exact .str z
   ·cases e'
 | _ => cases e
end
end PV
namespace PV
open PySem PySem.Spec L2 EX
open PyProof.Rows hiding St
theorem eU {P : Program} {w : World} {G : Gx} {mg : Str → Option Value} {base : Heap} {x qual : Str} {st : Stmt} {f : Addr} {fd : FuncData} {N ps : List Str} {k : Nat} {b : FS} (F : FunD G.K x qual st f fd) (S : FnScope N ps (Ab st)) (hl : ps.length ≤ N.length)
  (hb : ∀ (cdv : Value) (A : Around) (outer : List Env) (s : Shared) (H : Hp) (E : XK), Room k (A.deeper (envOfC qual (Ab st) s.heap.objs.size f cdv)) → PSZs (cxOf (CX1 P w) P w G.K mg base N qual (Ab st) f cdv A outer s H E) G (Aw st) b) :
  FnOk P w G.K mg base (CX1 P w) (k + 1) f fd ps (spZ G (runF N.length ps.length b)) := by
 obtain ⟨oc, od, dV, kV, doc, pm, an, cdv, ct, osl, rfl, lk, hcd⟩ := F.ex
 refine Qo lk hcd S (fun vs H Q E h => ?_) (fun A outer s H vs Q E hr h => ?_)
 ·obtain ⟨A, ds, d, lv, r, e, _⟩ := h
  unfold runF at e
  split at e
  ·rename_i hz; rw [r.1]; exact hz
  ·cases e
 ·obtain ⟨A0, ds, d, lv, r, e, k, kx⟩ := h
  unfold runF at e
  split at e
  ·rename_i hz
   refine ⟨_, hb cdv A outer s H E hr A0 H, Br N.length ds, ?_⟩
   cases e1 : b (Br N.length ds) with
   | none => simp [e1] at e
   | some o =>
    refine ⟨o, Ga lv r (by rw [r.1, hz]; exact hl), rfl, ?_⟩
    cases o with
    | nx ρ =>
     simp only [e1] at e
     cases e
     exact ⟨fun σ H' ⟨A, w⟩ => k _ H' w.same .non, trivial⟩
    | rt d' ρ' =>
     simp only [e1] at e
     cases e
     exact ⟨fun v σ H' A w r' => k v H' w.same (r'.mono (Dd w.sub)), Ws kx⟩
    | bk ρ => simp [e1] at e
    | ct ρ => simp [e1] at e
  ·cases e
def okID : D → Bool
 | .int n => decide (n.natAbs.log2 < 1920)
 | _ => false
def okSD : D → Bool
 | .str z => decide (z.length ≤ 100000) && z.cps.toList.all fun c => decide (c < 4294967296)
 | _ => false
theorem Y6 (d : D) (h : okID d = true) : ∃ y, flV d = some y ∧ okI y := by
 cases d with
 | int n => exact ⟨_, rfl, n, rfl, of_decide_eq_true h⟩
 | _ => cases h
theorem R6 (d : D) (h : okSD d = true) : ∃ y, flV d = some y ∧ okS y := by
 cases d with
 | str z =>
  simp only [okSD, Bool.and_eq_true, decide_eq_true_eq, List.all_eq_true] at h
  exact ⟨_, rfl, z, rfl, h.1, h.2⟩
 | _ => cases h
structure Mx (K : PySem.W.Frag) (C : Addr) (m qual : Str) (st : Stmt) (ps : List Str) where
 f : Addr
 fd : FuncData
 F : Fun K m qual st f fd
 B : Binds K fd ps []
 me : Meth K C m f
structure Rx (K : PySem.W.Frag) (mg : Str → Option Value) (rn : Str) where
 R : Addr
 m : mg rn = some (.ref R)
 x : excX K R = true
 h1 : PySem.W.specialIn K (.ref R) "__getattribute__" = some (some (.builtin "type.__getattribute__"))
 h2 : PySem.W.readsIn K R (.type "type") = true
 h3 : PySem.W.findCls K (.ref R) (.type "type") "__init__" = some (.val (.builtin "ValueError.__init__"))
structure Xx (G : Gx) (mg : Str → Option Value) (R : Addr) (cn f qual : Str) (st : Stmt) (ps : List Str) where
 C : Addr
 fi : Addr
 fd : FuncData
 g : G.xcl cn = some C
 xc : XC G.K C R
 hi : PySem.W.findIn G.K (.ref C) "__init__" = some (some (.ref fi))
 hf : PySem.W.isFn G.K (.ref fi) = true
 kp : PySem.W.keepIn G.K (.ref C) = true
 na : BJ G.K C f
 m : mg cn = some (.ref C)
 F : Fun G.K "__init__" qual st fi fd
 B : Binds G.K fd ps []
section
variable {X : Cx} {G : Gx} {a ob : Expr} {es : List Expr} {fs : FA} {fa fo : FE} {pos p np cpos apos : Pos}
theorem fZ {k k' : Nat} {x : Str} {st : Stmt} {ps : List Str} {d : Dx X.K X.mg x st ps} {g : List D → Option D} (F : FnOk X.prog X.w X.K X.mg X.base (CX1 X.prog X.w) k d.f d.fd ps (spZ G g)) (hr : Room k' X.A) (ha : PFA X G (a :: es) fs) (hle : k ≤ k' := by omega) (hg : Gl X x := by rfl) (hdb : (x == ("__debug__" : Str)) = false := by decide)
  (he : starEach (a :: es) X.env = (false, eval a X.env) :: starEach es X.env := by rfl) (hpl : (backTo pos (starEach es X.env)).any (·.1) = false := by rfl) : PFZ X G (.Call (.Name x p) (a :: es) [] pos) (Al g fs) := cC F (hr.mono hle) hg d.m d.F.kp d.B ha hdb he hpl
theorem mZ {k k' : Nat} {C : Addr} {c m qual : Str} {st : Stmt} {ps : List Str} {d : Mx X.K C m qual st ps} {g : List D → Option D} {pl : Sem Bool} (hc : G.cl c = some C) (cl : Cls X.K C) (F : FnOk X.prog X.w X.K X.mg X.base (CX1 X.prog X.w) k d.f d.fd ps (spZ G g)) (hr : Room k' X.A) (ho : PF X G ob fo) (ha : PFA X G (a :: es) fs) (hle : k ≤ k' := by omega)
  (hst : starEach (a :: es) X.env = (false, eval a X.env) :: starEach es X.env := by rfl) (hpl : (backTo pos (starEach es X.env)).any (·.1) = false := by rfl)
  (ht : eval (.Call (.Attribute ob m apos) (a :: es) [] pos) X.env = (do
   let ov ← eval ob X.env
   standAt apos.atName
   let (f, first) ← holding [ov] (getMethod ov m pl)
   callWith pos f first (backTo pos (starEach (a :: es) X.env)) (backToKw pos (keywordEach [] X.env))) := by rfl) :
  PFZ X G (.Call (.Attribute ob m apos) (a :: es) [] pos) (HD c m g fo fs) := Wr ho hc cl d.me F (hr.mono hle) d.B ha hst hpl ht
theorem mO {k k' : Nat} {C : Addr} {c m qual : Str} {st : Stmt} {ps : List Str} {d : Mx X.K C m qual st ps} {g : List D → Option D} {pl : Sem Bool} (hc : G.cl c = some C) (cl : Cls X.K C) (F : FnOk X.prog X.w X.K X.mg X.base CX0 k d.f d.fd ps (spD G g)) (hr : Room k' X.A) (ho : PF X G ob fo) (hle : k ≤ k' := by omega)
  (ht : eval (.Call (.Attribute ob m apos) [] [] pos) X.env = (do
   let ov ← eval ob X.env
   standAt apos.atName
   let (f, first) ← holding [ov] (getMethod ov m pl)
   callWith pos f first (backTo pos (starEach [] X.env)) (backToKw pos (keywordEach [] X.env))) := by rfl) :
  PF X G (.Call (.Attribute ob m apos) [] [] pos) (HD c m g fo nilA) := fun A => Bu (Ui (ho A) cl d.me F (hr.mono hle) d.B .nil Ux ht) fun σ H Q ⟨ρ, dd, o, e, k⟩ => by
 unfold HD at e
 cases e0 : fo ρ with
 | none => simp [e0] at e
 | some oo =>
  rw [e0] at e
  have e' : (if Ep c m oo = true then (nilA ρ).bind fun ds => g (oo :: ds) else none) = some dd := e
  split at e'
  ·rename_i hob
   have e2 : g [oo] = some dd := e'
   refine ⟨ρ, oo, o, e0, fun v H1 s1 r1 => ?_⟩
   cases oo with
   | ob c' gs =>
    simp only [Ep, Bool.and_eq_true, beq_iff_eq, Option.isNone_iff_eq_none] at hob
    obtain ⟨rfl, hn⟩ := hob
    cases r1 with
    | ob hC h1 l1 r2 =>
     rw [hc] at hC
     cases hC
     exact ⟨_, _, _, rfl, Ai _ _ h1, MK l1 hn, A, [.ob c' gs], dd, (o.mono s1).live, .cons (.ob hc h1 l1 r2) .nil, e2, fun v H3 s3 r4 => k v H3 (s1.trans s3) r4⟩
   | _ => simp [Ep] at hob
  ·cases e'
theorem rZ {R : Addr} {cn f qual : Str} {st : Stmt} {ps : List Str} {x : Xx G X.mg R cn f qual st ps} {k k' : Nat} {c : V → Prop} {ok : D → Bool} (F : FnOk X.prog X.w X.K X.mg X.base CX0 k x.fi x.fd ps (spE X.K f c)) (hr : Room k' X.A) (hok : ∀ d, ok d = true → ∃ y, flV d = some y ∧ c y) (ha : PF X G a fa) (hle : k + 1 ≤ k' := by omega) (hG : G.K = X.K := by rfl) (hg : Gl X cn := by rfl) (hc : X.calm = true := by rfl)
  (hdb : (cn == ("__debug__" : Str)) = false := by decide) (he : starEach [a] X.env = [(false, eval a X.env)] := by rfl) (hpl : (backTo cpos (starEach [] X.env)).any (·.1) = false := by rfl) : PSZ X G (.Raise (some (.Call (.Name cn np) [a] [] cpos)) none pos) (retF (excF cn f ok fa)) :=
 Tv (hG ▸ x.xc) (hG ▸ x.hi) (hG ▸ x.hf) (hG ▸ x.kp) (hG ▸ x.na) F (hr.mono hle) (hG ▸ x.B) hg x.m x.g hc hok ha hdb he hpl
theorem sZ (hN : X.N.Nodup) (i : Nat) {x : Str} (ha : PFZ X G a fa) (hi : X.N[i]? = some x := by rfl) (hx : Loc X.env.scope x := by first | exact Or.inl rfl | exact Or.inr rfl) (hs : swapsWith a (some (.Name x p)) pos.line X.env = pure false := by rfl)
  (hf : X.fn x = true ∨ X.env.scope.names.lookup x = some .local := by first | exact .inl rfl | exact .inr rfl | assumption) : PSZ X G (.Assign [.Name x p] a pos) (setZ i fa) := Yu (fun _ h => Pu hN hi hx h hs hf) ha
end
section
variable {mg : Str → Option Value} {x : Str} {st : Stmt} {ps : List Str} {P : Program} {w : World} {G : Gx} {base : Heap} {N : List Str} {k : Nat} {b : FS}
theorem fnZ (d : Dx G.K mg x st ps) (S : FnScope N ps (Ab st))
  (hb : ∀ (cdv : Value) (A : Around) (outer : List Env) (s : Shared) (H : Hp) (E : XK), Room k (A.deeper (envOfC x (Ab st) s.heap.objs.size d.f cdv)) → PSZs (cxOf (CX1 P w) P w G.K mg base N x (Ab st) d.f cdv A outer s H E) G (Aw st) b) (hl : ps.length ≤ N.length := by decide) :
  FnOk P w G.K mg base (CX1 P w) (k + 1) d.f d.fd ps (spZ G (runF N.length ps.length b)) := eU d.F S hl hb
end
end PV
namespace PV
open PySem PySem.Spec L2 EX
open PyProof.Rows hiding St
def gx2 (K : PySem.W.Frag) (cn : Str) (C : Addr) (l : List (Str × Addr)) : Gx := { K := K, cl := fun c => if c = cn then some C else none, xcl := fun c => l.lookup c }
section
variable {K : PySem.W.Frag} {h : Heap} {mg : Str → Option Value} {x qual cn m : Str} {st : Stmt} {ps : List Str} {f C R : Addr} {oc : Value} {od an : Option Addr} {osl : Array (Option Value)} {dV kV doc pm cdv ct : Value} {l : List (Str × Addr)}
theorem cJ : (gx2 K cn C l).cl cn = some C := if_pos rfl
theorem Qc (X : K.In h) (cl : Cls K C) (n : PySem.W.findIn K (.ref C) x = some none) : ∀ c C', (gx2 K cn C l).cl c = some C' → Cls K C' ∧ BJ K C' x := fun c C' h => by
 unfold gx2 at h
 simp only at h
 split at h
 ·cases h; exact ⟨cl, n⟩
 ·cases h
theorem Nj {P : Addr → Prop} : ∀ {l : List (Str × Addr)}, (∀ p ∈ l, P p.2) → ∀ {c : Str} {C : Addr}, l.lookup c = some C → P C
 | [], _, _, _, h => nomatch h
 | (k, v) :: r, hp, c, C, h => by
  simp only [List.lookup] at h
  split at h
  ·cases h; exact hp (k, v) List.mem_cons_self
  ·exact Nj (fun p hm => hp p (List.mem_cons_of_mem _ hm)) h
theorem cL {cs : List Str} (X : K.In h) (hp : ∀ p ∈ l, XC K p.2 R ∧ XK2 K p.2) : XT (gx2 K cn C l) cs R := ⟨fun c C' _ g => (Nj (P := fun C => XC K C R ∧ XK2 K C) hp g).1, fun c C' _ g => (Nj (P := fun C => XC K C R ∧ XK2 K C) hp g).2⟩
theorem W6 {cs : List Str} (X : K.In h) (hp : ∀ p ∈ l, PySem.W.findIn K (.ref p.2) x = some none) : ∀ c C', cs.contains c = true → (gx2 K cn C l).xcl c = some C' → BJ (gx2 K cn C l).K C' x := fun c C' _ g => Nj (P := fun C => PySem.W.findIn K (.ref C) x = some none) hp g
theorem W7 {cv : List Value} {ns : List Str} : ∀ {l : List (Str × Addr)}, (∀ p ∈ l, PySem.W.kitAny K (.ref p.2) cv = some (ns.contains p.1)) → ∀ {c : Str} {C : Addr}, l.lookup c = some C → PySem.W.kitAny K (.ref C) cv = some (ns.contains c)
 | [], _, _, _, h => nomatch h
 | (k, v) :: r, hp, c, C, h => by
  simp only [List.lookup] at h
  split at h
  ·rename_i e
   have : c = k := by simpa using e
   cases h; subst this; exact hp (c, v) List.mem_cons_self
  ·exact W7 (fun p hm => hp p (List.mem_cons_of_mem _ hm)) h
theorem IW {cs ns : List Str} {cv : List Value} (X : K.In h) (h1 : PySem.W.kitAny K (.type "NoneType") cv = some (ns.contains "NoneType")) (h2 : PySem.W.kitAny K (.type "bool") cv = some (ns.contains "bool")) (h3 : PySem.W.kitAny K (.type "int") cv = some (ns.contains "int")) (h4 : PySem.W.kitAny K (.type "str") cv = some (ns.contains "str"))
  (hp : ∀ p ∈ l, PySem.W.kitAny K (.ref p.2) cv = some (ns.contains p.1)) : Kit (gx2 K cn C l) cs cv ns := ⟨h1, h2, h3, h4, fun c C' _ g => W7 hp g⟩
def kx2 {g : Addr} {n : Nat} {its : Array Value} {xs : List Str} (X : K.In h) (N : h.Ns mainGlobals mg) (a : PySem.W.nsIn K mainGlobals x = some (some (.ref g))) (lk : K.lookup g = some ⟨.type "tuple", od, .seq its n, osl⟩) (hz : its.size ≤ sizeLine) (r : Vals (xs.map V.str) its.toList) : Kx (gx2 K cn C l) mg x (.tup (xs.map .str)) := ⟨g, PySem.W.mg_of X N a, Lx lk hz r⟩
def mx (X : K.In h) (a : PySem.W.findIn K (.ref C) m = some (some (.ref f))) (i : PySem.W.isFn K (.ref f) = true) (lk : K.lookup f = some ⟨oc, od, .func (PySem.W.fnOf m qual (Bp st) (Aw st) (Ab st) .none kV doc pm an cdv ct), osl⟩) (c : PySem.W.codeIn K cdv qual = true) (k : PySem.W.keepIn K (.ref f) = true)
  (b : ∀ (kV doc pm : Value) (an : Option Addr) (cdv ct : Value) (us : List Value), us.length = ps.length → bindArgs (PySem.W.fnOf m qual (Bp st) (Aw st) (Ab st) .none kV doc pm an cdv ct) ⟨us, []⟩ = pure (ps.zip us)) : Mx K C m qual st ps := ⟨f, _, HQ lk c k, (HQ lk c k).binds b, a, i, k⟩
def rx (X : K.In h) (N : h.Ns mainGlobals mg) (a : PySem.W.nsIn K mainGlobals x = some (some (.ref R))) (e : excX K R = true) (h1 : PySem.W.specialIn K (.ref R) "__getattribute__" = some (some (.builtin "type.__getattribute__"))) (h2 : PySem.W.readsIn K R (.type "type") = true)
  (h3 : PySem.W.findCls K (.ref R) (.type "type") "__init__" = some (.val (.builtin "ValueError.__init__"))) : Rx K mg x := ⟨R, PySem.W.mg_of X N a, e, h1, h2, h3⟩
def xx {fn : Str} {fi : Addr} (X : K.In h) (N : h.Ns mainGlobals mg) (a : PySem.W.nsIn K mainGlobals x = some (some (.ref f))) (g : l.lookup x = some f) (xc : XC K f R) (hi : PySem.W.findIn K (.ref f) "__init__" = some (some (.ref fi))) (i : PySem.W.isFn K (.ref fi) = true) (kp : PySem.W.keepIn K (.ref f) = true) (na : PySem.W.findIn K (.ref f) fn = some none)
  (lk : K.lookup fi = some ⟨oc, od, .func (PySem.W.fnOf "__init__" qual (Bp st) (Aw st) (Ab st) .none kV doc pm an cdv ct), osl⟩) (c : PySem.W.codeIn K cdv qual = true) (k : PySem.W.keepIn K (.ref fi) = true)
  (b : ∀ (kV doc pm : Value) (an : Option Addr) (cdv ct : Value) (us : List Value), us.length = ps.length → bindArgs (PySem.W.fnOf "__init__" qual (Bp st) (Aw st) (Ab st) .none kV doc pm an cdv ct) ⟨us, []⟩ = pure (ps.zip us)) : Xx (gx2 K cn C l) mg R x fn qual st ps := ⟨f, fi, _, g, xc, hi, i, kp, na, PySem.W.mg_of X N a, HQ lk c k, (HQ lk c k).binds b⟩
theorem K9 : bootBuiltins "ValueError" = some (.type "ValueError") := by decide +kernel
end
end PV
namespace PV
open PySem PySem.Spec L2
open PyProof.Rows hiding St
def eV : R2 := fun x y H Q => ∃ a kvs k b, y = .ref a ∧ Rd H a (.dT kvs) ∧ x = .ref b ∧ H b = some (.tup (k.map kV)) ∧ Q (.bl (valV kvs k).isSome) H
def inTO (ds : Option (List D)) (y : Option D) : Option D := ds.bind fun ds => y.bind fun y => match y with
 | .dt kds => if ds.length ≤ sizeLine then (Gb ds).map fun k => .bl (getK k kds).isSome else none
 | _ => none
def inTF (fs : FA) (fb : FE) : FE := fun ρ => inTO (fs ρ) (fb ρ)
section
variable {X : Cx} {G : Gx} {b : Expr} {fb : FE} {pos p1 : Pos} {es : List Expr} {fs : FA}
theorem Y7 (hu : X.A.units + 1 < cLine) : OpR X (compareOp .In) eV := by
 intro pins s σ H x y v u Q I rx ry h
 obtain ⟨a, kvs, k, b, rfl, e, rfl, eb, q⟩ := h
 cases ry
 exact d_in hu I (.inr ⟨kvs, k, b, e, rfl, eb, rfl⟩) rx fun s' I' => ⟨.bl _, H, I', rfl, q⟩
theorem cM {x1} {k : Nat} (hr : Room k X.A) (ha : PFA X G es fs) (hb : PU X G b fb) (hm : behindInMarks .In b = false := by with_unfolding_all rfl) : PF X G (.Compare (.Tuple es x1 p1) [.In] [b] pos) (inTF fs fb) := fun A => Bu (Qk (Y7 (GF hr)) (Mp (ha A)) (hb A) hm) fun σ H Q ⟨ρ, d, o, e, k⟩ => by
 unfold inTF inTO at e
 cases e1 : fs ρ with
 | none => simp [e1] at e
 | some ds =>
  cases e2 : fb ρ with
  | none => simp [e1, e2] at e
  | some y =>
   rw [e1, e2] at e
   cases y with
   | dt kds =>
    have e' : (if ds.length ≤ sizeLine then (Gb ds).map fun k => D.bl (getK k kds).isSome else none) = some d := e
    split at e'
    ·rename_i hz
     cases e3 : Gb ds with
     | none => simp [e3] at e'
     | some ks =>
      rw [e3] at e'
      cases e'
      refine ⟨ρ, ds, o, e1, fun xs H1 s1 r1 => ⟨by rw [r1.1]; exact hz, fun p hp => ?_⟩⟩
      have ex := JK r1 e3
      have s2 : Same H1 (upd H1 p (.tup xs)) := Am hp _
      refine ⟨ρ, .dt kds, o.mono (s1.trans s2), e2, fun v H3 s3 r3 => ?_⟩
      obtain ⟨a, kvs, rfl, h1, h2, r⟩ := r3.dt
      have h3 := (Gz (k := ks) h2 r).2
      refine ⟨a, kvs, ks, p, rfl, h1, rfl, by rw [s3 _ _ Ah, ex], ?_⟩
      rw [h3]
      exact k _ H3 ((s1.trans s2).trans s3) (.bl _)
    ·cases e'
   | _ => cases e
end
structure Ax (mg : Str → Option Value) (x : Str) where
 a : Addr
 m : mg x = some (.ref a)
def ax {K : PySem.W.Frag} {h : Heap} {mg : Str → Option Value} {x : Str} {C : Addr} (X : K.In h) (N : h.Ns mainGlobals mg) (a : PySem.W.nsIn K mainGlobals x = some (some (.ref C))) : Ax mg x := ⟨C, PySem.W.mg_of X N a⟩
end PV
namespace K04
open PySem PySem.Spec L2 PV EX
open PyProof.Rows hiding St
noncomputable section
def c_KEPT_TEXTS : D := (.tup ((["not", "and", "or", "some", "all"] : List Str).map .str))
def Er : FS := seqF (ifS (blF (bF ltD (vF 1) (uF lenD (vF 0)))) (retF (bF ixD (vF 0) (vF 1))) (nxF)) (retF (kF (.int 0)))
def BV : List D → Option D := runF 2 2 Er
def CP : FS := seqF (setF 10 (bF addD (bF addD (bF Cy (vF 3) (bF addD (vF 9) (kF (.int 3)))) (bF mulD (vF 9) (vF 9))) (bF mulD (uF intD (bF (eqD false) (vF 9) (vF 5))) (vF 7)))) (setF 8 (bF addD (vF 8) (bF ixE (vF 2) (bF modD (vF 10) (kF (.int 26))))))
def CQ : FS := seqF (setF 8 (kF (.str ""))) (seqF (forS (rngI (vF 4)) (Dh 9) (CP)) (seqF (ifS (blF (bF (inF false) (vF 8) (lstF (Ac (kF (.str "not")) (Ac (kF (.str "and")) (Ac (kF (.str "or")) (Ac (kF (.str "some")) (Ac (kF (.str "all")) (nilA))))))))) (setF 8 (bF addD (vF 8) (kF (.str "x")))) (nxF)) (mutF appL 6 (vF 8))))
def Fy : FS := seqF (setF 2 (kF (.str "abcdefghijklmnopqrstuvwxyz"))) (seqF (setF 3 (bF modD (vF 0) (kF (.int 2147483629)))) (seqF (setF 4 (bF addD (kF (.int 1)) (bF modD (vF 3) (kF (.int 8))))) (seqF (setF 5 (bF modD (bF Cy (vF 3) (kF (.int 8))) (vF 4))) (seqF (setW 6 (lstF (nilA))) (seqF (forS (rngI (vF 1)) (Dh 7) (CQ)) (fzS [6] (retF (vF 6))))))))
def Dr : List D → Option D := runF 11 2 Fy
def By : FS := ifS (blF (bF (eqD false) (bF modD (vF 0) (kF (.int 3))) (kF (.int 0)))) (mutF appL 2 (bF (eqD false) (bF modD (bF Cy (bF Cy (vF 0) (kF (.int 3))) (bF shlD (kF (.int 1)) (vF 4))) (kF (.int 2))) (kF (.int 1)))) (seqF (setF 3 (bF modD (bF addD (bF addD (bF addD (bF mulD (vF 3) (vF 3)) (bF mulD (kF (.int 48271)) (vF 3))) (vF 4)) (kF (.int 1))) (kF (.int 2147483629)))) (mutF appL 2 (bF (eqD false) (bF modD (bF Cy (vF 3) (kF (.int 7))) (bF mulD (kF (.int 2)) (bF modD (vF 0) (kF (.int 3))))) (kF (.int 0)))))
def Gh : FS := seqF (setW 2 (lstF (nilA))) (seqF (setF 3 (bF modD (bF Cy (vF 0) (kF (.int 3))) (kF (.int 2147483629)))) (seqF (forS (rngI (vF 1)) (Dh 4) (By)) (fzS [2] (retF (vF 2)))))
def Dl : List D → Option D := runF 5 2 Gh
def Eb : FT := trF (bF ixE (vF 9) (vF 10))
def Gi : FE := vF 10
def Ec : FT := trF (bF ixE (vF 9) (vF 10))
def Ed : FE := tupF (Ac (bF Cy (vF 10) (vF 3)) (Ac (bF modD (vF 10) (vF 3)) (nilA)))
def BX : FS := ifS (blF (bF ltD (vF 8) (vF 4))) (seqF (setF 9 (Al (Dl) (Ac (Al (BV) (Ac (vF 0) (Ac (bF addD (bF addD (vF 1) (kF (.int 2))) (vF 8)) (nilA)))) (Ac (vF 3) (nilA))))) (putF 6 (bF ixE (vF 5) (vF 8)) (GJ (rngI (vF 3)) (Eb) (Gi)))) (seqF (setF 9 (Al (Dl) (Ac (Al (BV) (Ac (vF 0) (Ac (bF subD (bF addD (bF addD (vF 1) (kF (.int 5))) (vF 8)) (vF 4)) (nilA)))) (Ac (bF mulD (vF 3) (vF 3)) (nilA))))) (putF 7 (bF ixE (vF 5) (vF 8)) (GJ (rngI (bF mulD (vF 3) (vF 3))) (Ec) (Ed))))
def Fz : FS := seqF (setF 2 (Al (BV) (Ac (vF 0) (Ac (vF 1) (nilA))))) (seqF (setF 3 (bF ixE (lstF (Ac (bF modD (bF Cy (vF 2) (kF (.int 9))) (kF (.int 5))) (Ac (kF (.int 5)) (nilA)))) (uF intD (bF (eqD false) (bF modD (bF Cy (vF 2) (kF (.int 45))) (kF (.int 12))) (kF (.int 11)))))) (seqF (setF 4 (bF modD (vF 2) (kF (.int 4)))) (seqF (setF 5 (Al (Dr) (Ac (Al (BV) (Ac (vF 0) (Ac (bF addD (vF 1) (kF (.int 1))) (nilA)))) (Ac (bF addD (vF 4) (bF modD (bF Cy (vF 2) (kF (.int 4))) (kF (.int 4)))) (nilA))))) (seqF (setW 6 (kF (.dk []))) (seqF (setW 7 (kF (.dk []))) (seqF (forS (rngI (uF lenE (vF 5))) (Dh 8) (BX)) (fzS [6, 7] (retF (lstF (Ac (vF 3) (Ac (vF 6) (Ac (vF 7) (nilA)))))))))))))
def Ca : List D → Option D := runF 10 2 Fz
def Eg : FS := ifS (blF (bF gtD (vF 0) (vF 1))) (badF) (nxF)
def Az : List D → Option D := runF 2 2 Eg
def DN : FS := ifS (orT (blF (bF ltD (vF 1) (kF (.int 0)))) (blF (bF geD (vF 1) (vF 0)))) (badF) (nxF)
def BL : List D → Option D := runF 2 2 DN
def Cr : FS := seqF (Em (Al (BL) (Ac (vF 0) (Ac (vF 3) (nilA))))) (putF 2 (vF 3) (kF (.bl true)))
def FJ : FS := seqF (setW 2 (kF (.dk []))) (seqF (forS (seqA (vF 1)) (Dh 3) (Cr)) (fzS [2] (retF (vF 2))))
def B_ : List D → Option D := runF 4 2 FJ
def DP : FS := seqF (Em (Al (BL) (Ac (vF 0) (Ac (vF 3) (nilA))))) (seqF (Em (Al (BL) (Ac (vF 0) (Ac (vF 4) (nilA))))) (Oz 2 (Ac (vF 3) (Ac (vF 4) (nilA))) (kF (.bl true))))
def F_ : FS := seqF (setW 2 (kF (.dt []))) (seqF (forS (seqA (vF 1)) (tupG 2 (Bv 3 (Bv 4 (nilG)))) (DP)) (fzS [2] (retF (vF 2))))
def Cd : List D → Option D := runF 5 2 F_
def Dm : FE := bF (inF false) (vF 1) (kF (.str "abcdefghijklmnopqrstuvwxyz"))
def JP : FS := seqF (ifS (orT (blF (bF (inF false) (vF 0) (kF c_KEPT_TEXTS))) (orT (blF (bF (eqD false) (uF lenE (vF 0)) (kF (.int 0)))) (blF (bF gtD (uF lenE (vF 0)) (kF (.int 8)))))) (retF (kF (.bl false))) (nxF)) (retF (uF allD (GJ (seqA (vF 0)) (allT) (Dm))))
def Ce : List D → Option D := runF 1 1 JP
def BZ : FEs := EY (ifE (Kg (notT (trF (Al (Ce) (Ac (vF 4) (nilA))))))) (Jg "marked" (vF 4) (Al (B_) (Ac (vF 1) (Ac (vF 5) (nilA)))))
def Ba : FEs := EY (ifE (orTE (Kg (notT (trF (Al (Ce) (Ac (vF 4) (nilA)))))) (inTE "marked" (vF 4)))) (Jg "tied" (vF 4) (Al (Cd) (Ac (vF 1) (Ac (vF 6) (nilA)))))
def Dc : FEs := EY (pureE (Em (Al (Az) (Ac (vF 1) (Ac (kF (.int 5)) (nilA)))))) (EY (pureE (Em (Al (Az) (Ac (uF lenE (vF 2)) (Ac (kF (.int 3)) (nilA)))))) (EY (pureE (Em (Al (Az) (Ac (uF lenE (vF 3)) (Ac (kF (.int 3)) (nilA)))))) (EY (RZ "size" (vF 1)) (EY (Jf "marked" (kF (.dk []))) (EY (Jf "tied" (kF (.dk []))) (EY (forE (HR (vF 2)) (tupG 2 (Bv 4 (Bv 5 (nilG)))) (BZ)) (EY (forE (HR (vF 3)) (tupG 2 (Bv 4 (Bv 6 (nilG)))) (Ba)) (nilE))))))))
def Bs : Addr → List D → Option Ef := runI 7 4 Dc
def Ds : FS := seqF (ifS (blF (bF (eqD false) (bF modD (vF 0) (kF (.int 4))) (kF (.int 0)))) (retF (bF subD (bF modD (bF Cy (vF 0) (kF (.int 4))) (bF addD (bF mulD (kF (.int 2)) (bF powD (kF (.int 10)) (kF (.int 59)))) (kF (.int 1)))) (bF powD (kF (.int 10)) (kF (.int 59))))) (nxF)) (retF (bF subD (bF modD (bF Cy (vF 0) (kF (.int 4))) (kF (.int 9))) (kF (.int 2))))
def Bw : List D → Option D := runF 1 1 Ds
def Jj : FS := seqF (ifS (trF (uF (isxD ["NoWord", "NoThing"] ["bool"]) (vF 0))) (retF (lstF (Ac (kF (.str "so")) (Ac (vF 0) (nilA))))) (nxF)) (seqF (ifS (orT (trF (uF (isxD ["NoWord", "NoThing"] ["NoName", "NoPointing", "NoSaying", "TooGreat", "Unlike"]) (vF 0))) (notT (trF (uF (isxD ["NoWord", "NoThing"] ["NoWord", "NoThing"]) (vF 0))))) (retF (lstF (Ac (kF (.str "other")) (nilA)))) (nxF)) (seqF (ifS (andT (trF (uF (isxD ["NoWord", "NoThing"] ["NoWord"]) (vF 0))) (notT (trF (uF (isxD ["NoWord", "NoThing"] ["NoThing"]) (vF 0))))) (retF (lstF (Ac (kF (.str "word")) (Ac (uF (fldE ["NoWord", "NoThing"] "word") (vF 0)) (nilA))))) (nxF)) (seqF (ifS (andT (trF (uF (isxD ["NoWord", "NoThing"] ["NoThing"]) (vF 0))) (notT (trF (uF (isxD ["NoWord", "NoThing"] ["NoWord"]) (vF 0))))) (retF (lstF (Ac (kF (.str "thing")) (Ac (uF (fldE ["NoWord", "NoThing"] "thing") (vF 0)) (nilA))))) (nxF)) (retF (lstF (Ac (kF (.str "other")) (nilA)))))))
def Gj : List D → Option D := runF 1 1 Jj
def Cg : FS := ifS (orT (blF (bF ltD (vF 4) (kF (.int 0)))) (blF (bF geD (vF 4) (vF 3)))) (retF (lstF (Ac (kF (.str "thing")) (Ac (vF 4) (nilA))))) (nxF)
def Bx : FS := seqF (ifS (blF (bF (inF true) (vF 1) (vF 0))) (retF (lstF (Ac (kF (.str "word")) (Ac (vF 1) (nilA))))) (nxF)) (seqF (forS (seqA (vF 2)) (Dh 4) (Cg)) (seqF (ifS (blF (bF (eqD false) (uF lenE (vF 2)) (kF (.int 1)))) (retF (lstF (Ac (kF (.str "so")) (Ac (bF (inF false) (bF ixE (vF 2) (kF (.int 0))) (bF ixE (vF 0) (vF 1))) (nilA))))) (nxF)) (retF (lstF (Ac (kF (.str "so")) (Ac (bF (inF false) (tupF (Ac (bF ixE (vF 2) (kF (.int 0))) (Ac (bF ixE (vF 2) (kF (.int 1))) (nilA)))) (bF ixE (vF 0) (vF 1))) (nilA)))))))
def Bb : List D → Option D := runF 5 4 Bx
def Cu : FS := retF (uF sdkD (uF (fldD "marked") (vF 0)))
def Bc : List D → Option D := runF 1 1 Cu
def DQ : FS := retF (uF sdkD (uF (fldD "tied") (vF 0)))
def Bh : List D → Option D := runF 1 1 DQ
def BP : FS := ifS (orT (blF (bF ltD (vF 1) (kF (.int 0)))) (blF (bF geD (vF 1) (vF 0)))) (retF (excF "NoThing" "thing" okID (vF 1))) (nxF)
def Ak : List D → Option D := runF 2 2 BP
def Cm : FS := seqF (ifS (blF (bF (inF true) (vF 1) (uF (fldD "marked") (vF 0)))) (retF (excF "NoWord" "word" okSD (vF 1))) (nxF)) (seqF (MJ (Al Ak (Ac (uF (fldD "size") (vF 0)) (Ac (vF 2) (nilA))))) (retF (bF (inF false) (vF 2) (bF ixE (uF (fldD "marked") (vF 0)) (vF 1)))))
def CT : List D → Option D := runF 3 3 Cm
def Bd : FS := seqF (ifS (blF (bF (inF true) (vF 1) (uF (fldD "tied") (vF 0)))) (retF (excF "NoWord" "word" okSD (vF 1))) (nxF)) (seqF (MJ (Al Ak (Ac (uF (fldD "size") (vF 0)) (Ac (vF 2) (nilA))))) (seqF (MJ (Al Ak (Ac (uF (fldD "size") (vF 0)) (Ac (vF 3) (nilA))))) (retF (inTF (Ac (vF 2) (Ac (vF 3) (nilA))) (bF ixE (uF (fldD "tied") (vF 0)) (vF 1))))))
def BW : List D → Option D := runF 4 4 Bd
def Bj : FS := seqF (setF 3 (kF .non)) (seqF (tryF ["NoWord", "NoThing"] 4 (ifS (blF (bF (eqD false) (uF lenE (vF 2)) (kF (.int 1)))) (setZ 3 (HD "World" "has" CT (vF 0) (Ac (vF 1) (Ac (bF ixE (vF 2) (kF (.int 0))) (nilA))))) (setZ 3 (HD "World" "leads" BW (vF 0) (Ac (vF 1) (Ac (bF ixE (vF 2) (kF (.int 0))) (Ac (bF ixE (vF 2) (kF (.int 1))) (nilA))))))) (setF 3 (vF 4))) (retF (vF 3)))
def A_ : List D → Option D := runF 5 3 Bj
def Ia : FS := seqF (setF 7 (bF ixE (vF 5) (bF modD (bF Cy (vF 6) (kF (.int 2))) (uF lenE (vF 5))))) (seqF (setF 8 (lstF (Ac (Al (Bw) (Ac (bF Cy (vF 6) (kF (.int 14))) (nilA))) (nilA)))) (seqF (setF 9 (vF 2)) (seqF (ifS (blF (bF (eqD false) (bF modD (vF 6) (kF (.int 2))) (kF (.int 1)))) (seqF (setF 8 (lstF (Ac (Al (Bw) (Ac (bF Cy (vF 6) (kF (.int 14))) (nilA))) (Ac (Al (Bw) (Ac (bF Cy (vF 6) (kF (.int 504))) (nilA))) (nilA))))) (setF 9 (vF 3))) (nxF)) (ifS (blF (bF (eqD true) (Al (Gj) (Ac (Al (A_) (Ac (vF 4) (Ac (vF 7) (Ac (vF 8) (nilA))))) (nilA))) (Al (Bb) (Ac (vF 9) (Ac (vF 7) (Ac (vF 8) (Ac (vF 1) (nilA)))))))) (retF (kF (.bl false))) (nxF)))))
def W8 : FS := seqF (asgF (Al (Ca) (Ac (vF 0) (Ac (kF (.int 0)) (nilA)))) (tupG 3 (Bv 1 (Bv 2 (Bv 3 (nilG)))))) (seqF (setF 4 (mkI "World" (Bs) (Ac (vF 1) (Ac (vF 2) (Ac (vF 3) (nilA)))))) (seqF (setF 5 (bF addD (bF addD (uF O7 (vF 2)) (uF O7 (vF 3))) (lstF (Ac (kF (.str "ninesigns")) (nilA))))) (seqF (forS (seqA (bF addD (lstF (Ac (kF (.int 0)) (Ac (kF (.int 1)) (nilA)))) (slF (vF 0) (someO (kF (.int 8))) (someO (kF (.int 40)))))) (Dh 6) (Ia)) (retF (andF (bF (eqD false) (HD "World" "mark_words" Bc (vF 4) nilA) (uF sdkD (vF 2))) (bF (eqD false) (HD "World" "tie_words" Bh (vF 4) nilA) (uF sdkD (vF 3))))))))
def Pa : List D → Option D := runF 10 1 W8
end
end K04
namespace K04
open PySem PySem.Spec L2 PV EX
open PyProof.Rows hiding St
def top (i : Nat) : Stmt := PySem.Challenge.pw_twinrounds_k04_no_thing_asked.main.body.getD i (.Pass ⟨0, 0, 0, 0⟩)
abbrev Jk : Stmt := top 22
abbrev Ib : Stmt := top 24
abbrev Jl : Stmt := top 23
abbrev Dt : Stmt := top 25
abbrev Gk : Stmt := top 16
abbrev Es : Stmt := top 17
abbrev HF : Stmt := top 18
abbrev Ie : Stmt := top 19
abbrev JQ : Stmt := top 15
abbrev Ff : Stmt := inClass (top 20) 0
abbrev Ig : Stmt := top 26
abbrev Jm : Stmt := top 29
abbrev Kq : Stmt := top 28
abbrev Eh : Stmt := inClass (top 20) 3
abbrev Et : Stmt := inClass (top 20) 4
abbrev Kr : Stmt := inClass (top 3) 0
abbrev Jo : Stmt := inClass (top 4) 0
abbrev G7 : Stmt := top 17
abbrev K_ : Stmt := inClass (top 20) 1
abbrev Pb : Stmt := inClass (top 20) 1
abbrev Ju : Stmt := inClass (top 20) 2
abbrev LC : Stmt := inClass (top 20) 2
abbrev Ih : Stmt := top 27
abbrev Z_ : Stmt := top 30
structure Tx (G : Gx) (mg : Str → Option Value) where
 C_World : Addr
 gc_World : G.cl "World" = some C_World
 cl_World : Cls G.K C_World
 mC_World : mg "World" = some (.ref C_World)
 x__law_cell : Dx G.K mg "_law_cell" Jk ["_law_script", "_law_k"]
 x__law_words : Dx G.K mg "_law_words" Ib ["_law_cell_here", "_law_many"]
 x__law_bits : Dx G.K mg "_law_bits" Jl ["_law_cell_here", "_law_many"]
 x__law_world : Dx G.K mg "_law_world" Dt ["_law_script", "_law_start"]
 x_refuse_above : Dx G.K mg "refuse_above" Gk ["number", "most"]
 x_refuse_no_thing : Dx G.K mg "refuse_no_thing" Es ["size", "thing"]
 x_kept_things : Dx G.K mg "kept_things" HF ["size", "things"]
 x_kept_pairs : Dx G.K mg "kept_pairs" Ie ["size", "pairs"]
 x_is_word : Dx G.K mg "is_word" JQ ["text"]
 x_World___init__ : Ix G.K C_World "World.__init__" Ff ["self", "size", "marks", "ties"]
 x__law_thing : Dx G.K mg "_law_thing" Ig ["_law_cell_here"]
 x__law_kind : Dx G.K mg "_law_kind" Jm ["_law_told"]
 x__law_due : Dx G.K mg "_law_due" Kq ["_law_rows", "_law_word", "_law_things", "_law_size"]
 x_World_mark_words : Mx G.K C_World "mark_words" "World.mark_words" Eh ["self"]
 x_World_tie_words : Mx G.K C_World "tie_words" "World.tie_words" Et ["self"]
 x_World_has : Mx G.K C_World "has" "World.has" Pb ["self", "word", "thing"]
 x_World_leads : Mx G.K C_World "leads" "World.leads" LC ["self", "word", "one", "other"]
 x__law_asked : Dx G.K mg "_law_asked" Ih ["_law_world_here", "_law_word", "_law_things"]
 x_law : Dx G.K mg "law" Z_ ["_law_script"]
 r : Rx G.K mg "RoundError"
 xt : XT G ["NoWord", "NoThing"] r.R
 e_NoWord : Xx G mg r.R "NoWord" "word" "NoWord.__init__" Kr ["self", "word"]
 e_NoThing : Xx G mg r.R "NoThing" "thing" "NoThing.__init__" Jo ["self", "thing"]
 a_NoName : Ax mg "NoName"
 a_NoPointing : Ax mg "NoPointing"
 a_NoSaying : Ax mg "NoSaying"
 a_TooGreat : Ax mg "TooGreat"
 a_Unlike : Ax mg "Unlike"
 k_0 : Kit G ["NoWord", "NoThing"] [.type "bool"] ["bool"]
 k_1 : Kit G ["NoWord", "NoThing"] [.ref a_NoName.a, .ref a_NoPointing.a, .ref a_NoSaying.a, .ref a_TooGreat.a, .ref a_Unlike.a] ["NoName", "NoPointing", "NoSaying", "TooGreat", "Unlike"]
 k_2 : Kit G ["NoWord", "NoThing"] [.type "ValueError"] ["NoWord", "NoThing"]
 k_3 : Kit G ["NoWord", "NoThing"] [.ref e_NoWord.C] ["NoWord"]
 k_4 : Kit G ["NoWord", "NoThing"] [.ref e_NoThing.C] ["NoThing"]
 nf_word : ∀ c C, (["NoWord", "NoThing"] : List Str).contains c = true → G.xcl c = some C → BJ G.K C "word"
 nf_thing : ∀ c C, (["NoWord", "NoThing"] : List Str).contains c = true → G.xcl c = some C → BJ G.K C "thing"
 z_ValueError : mg "ValueError" = none
 z_all : mg "all" = none
 z_bool : mg "bool" = none
 z_int : mg "int" = none
 z_isinstance : mg "isinstance" = none
 z_len : mg "len" = none
 z_list : mg "list" = none
 z_range : mg "range" = none
 z_sorted : mg "sorted" = none
 s_MOST_LETTERS : Sx mg "MOST_LETTERS" (.int 8)
 s_LETTERS : Sx mg "LETTERS" (.str "abcdefghijklmnopqrstuvwxyz")
 s_MOST_THINGS : Sx mg "MOST_THINGS" (.int 5)
 s_MOST_WORDS : Sx mg "MOST_WORDS" (.int 3)
 fl_size : ∀ c C, G.cl c = some C → Cls G.K C ∧ BJ G.K C "size"
 fl_marked : ∀ c C, G.cl c = some C → Cls G.K C ∧ BJ G.K C "marked"
 fl_tied : ∀ c C, G.cl c = some C → Cls G.K C ∧ BJ G.K C "tied"
 c_KEPT_TEXTS : Kx G mg "KEPT_TEXTS" K04.c_KEPT_TEXTS
section
variable {P : Program} {w : World} {G : Gx} {mg : Str → Option Value} {base : Heap}
abbrev Jp : List Str := ["_law_script", "_law_k"]
theorem Nk : FnScope Jp ["_law_script", "_law_k"] (Ab Jk) := ⟨rfl, rfl, rfl, by decide +kernel, rfl, by decide +kernel, by decide +kernel⟩
theorem Du (T : Tx G mg) : DOk P w base T.x__law_cell 1 (spD G BV) :=
 fnX (k := 0) (N := Jp) (b := Er) T.x__law_cell Nk fun _ _ _ _ _ _ hr => Ad (CK (tLt (vp 1) (pU (Be (CW rfl) RN rfl T.z_len Fv (vp 0)))) (Ag (Ao (iD (vp 0) (vp 1)))) (Bq)) (Ag (Ao (JD)))
abbrev Ii : List Str := ["_law_cell_here", "_law_many", "_law_letters", "_law_number", "_law_long", "_law_at", "_law_found", "_law_k", "_law_word", "_law_j", "_law_place"]
theorem An : FnScope Ii ["_law_cell_here", "_law_many"] (Ab Ib) := ⟨rfl, rfl, rfl, by decide +kernel, rfl, by decide +kernel, by decide +kernel⟩
theorem LK (T : Tx G mg) : DOk P w base T.x__law_words 1 (spD G Dr) :=
 fnX (k := 0) (N := Ii) (b := Fy) T.x__law_words An fun _ _ _ _ _ _ hr => Ad (sF An.nd 2 (CJ)) (Ad (sF An.nd 3 (bMod (vp 0) (iP))) (Ad (sF An.nd 4 (bAdd (iP) (pU (bMod (vp 3) (iP))))) (Ad (sF An.nd 5 (bMod (pU (bDiv (vp 3) (iP))) (vp 4))) (Ad (sW An.nd 6 (V_ (Ae))) (Ad (En PassesOwn.never rfl (Gu rfl T.z_range (vp 1)) (D_ (gN An.nd 7)) (Ad (sF An.nd 8 (CJ)) (Ad (En PassesOwn.never rfl (Gu rfl T.z_range (vp 4)) (D_ (gN An.nd 9)) (Ad (sF An.nd 10 (bAdd (pU (bAdd (pU (bDiv (vp 3) (pU (bAdd (vp 9) (iP))))) (pU (bMul (vp 9) (vp 9))))) (pU (bMul (pU (Gs Le RP rfl T.z_int V9 (pU (cEq hr (vp 9) (vp 5))))) (vp 7))))) (Ag (sF An.nd 8 (bAdd (vp 8) (pU (iX hr (vp 2) (pU (bMod (vp 10) (iP)))))))))) (Ad (CK (tIn hr (vp 8) (pU (Cj (Aa (CJ) (Aa (CJ) (Aa (CJ) (Aa (CJ) (Aa (CJ) (Ae))))))))) (Ag (sF An.nd 8 (bAdd (vp 8) (sP)))) (Bq)) (Ag (M6 (pv 6) (vr 8))))))) (Ag (Kf [6] (Ao (vr 6)))))))))
abbrev Jq : List Str := ["_law_cell_here", "_law_many", "_law_found", "_law_number", "_law_k"]
theorem DR : FnScope Jq ["_law_cell_here", "_law_many"] (Ab Jl) := ⟨rfl, rfl, rfl, by decide +kernel, rfl, by decide +kernel, by decide +kernel⟩
theorem Ij (T : Tx G mg) : DOk P w base T.x__law_bits 1 (spD G Dl) :=
 fnX (k := 0) (N := Jq) (b := Gh) T.x__law_bits DR fun _ _ _ _ _ _ hr => Ad (sW DR.nd 2 (V_ (Ae))) (Ad (sF DR.nd 3 (bMod (pU (bDiv (vp 0) (iP))) (iP))) (Ad (En PassesOwn.never rfl (Gu rfl T.z_range (vp 1)) (D_ (gN DR.nd 4)) (Ag (CK (tEq hr (pU (bMod (vp 0) (iP))) (iP)) (Ag (M6 (pv 2) (cEq hr (pU (bMod (pU (bDiv (pU (bDiv (vp 0) (iP))) (pU (GZ YJ YM (iP) (vp 4))))) (iP))) (iP)))) (Ad (sF DR.nd 3 (bMod (pU (bAdd (pU (bAdd (pU (bAdd (pU (bMul (vp 3) (vp 3))) (pU (bMul (iP) (vp 3))))) (vp 4))) (iP))) (iP))) (Ag (M6 (pv 2) (cEq hr (pU (bMod (pU (bDiv (vp 3) (iP))) (pU (bMul (iP) (pU (bMod (vp 0) (iP))))))) (iP)))))))) (Ag (Kf [2] (Ao (vr 2))))))
abbrev Bk : List Str := ["_law_script", "_law_start", "_law_cell_here", "_law_size", "_law_many", "_law_words_here", "_law_marks", "_law_ties", "_law_k", "_law_bits_here"]
theorem Ay : FnScope Bk ["_law_script", "_law_start"] (Ab Dt) := ⟨rfl, rfl, rfl, by decide +kernel, rfl, by decide +kernel, by decide +kernel⟩
theorem LQ (T : Tx G mg) : DOk P w base T.x__law_world 2 (spD G Ca) :=
 fnX (k := 1) (N := Bk) (b := Fz) T.x__law_world Ay fun _ _ _ _ _ _ hr => Ad (sF Ay.nd 2 (fX (Du T) hr (Aa (vr 0) (Aa (vr 1) (Ae))))) (Ad (sF Ay.nd 3 (iX hr (pU (Cj (Aa (bMod (pU (bDiv (vp 2) (iP))) (iP)) (Aa (JD) (Ae))))) (pU (Gs Le RP rfl T.z_int V9 (pU (cEq hr (pU (bMod (pU (bDiv (vp 2) (iP))) (iP))) (iP))))))) (Ad (sF Ay.nd 4 (bMod (vp 2) (iP))) (Ad (sF Ay.nd 5 (fX (LK T) hr (Aa (fX (Du T) hr (Aa (vr 0) (Aa (bAdd (vp 1) (iP)) (Ae)))) (Aa (bAdd (vp 4) (pU (bMod (pU (bDiv (vp 2) (iP))) (iP)))) (Ae))))) (Ad (sW Ay.nd 6 (Ox)) (Ad (sW Ay.nd 7 (Ox)) (Ad (En PassesOwn.never rfl (Gu rfl T.z_range (pU (Be ((CW rfl).or CN) Dj rfl T.z_len Fv (vp 5)))) (D_ (gN Ay.nd 8)) (Ag (CK (tLt (vp 8) (vp 4)) (Ad (sF Ay.nd 9 (fX (Ij T) hr (Aa (fX (Du T) hr (Aa (vr 0) (Aa (bAdd (pU (bAdd (vp 1) (iP))) (vp 8)) (Ae)))) (Aa (vr 3) (Ae))))) (Ag (M9 (GF hr) (pv 6) (iX hr (vp 5) (vp 8)) (M4 (nT Bk "_law_thing_here") (by show DG "_law_thing_here" Bk ++ (["_law_thing_here"] : List Str) = _; decide +kernel) (cO (N := Bk) (sc := Ab Dt) rfl rfl) rfl (Gu rfl T.z_range (vp 3)) (fun _ _ _ => Ou (DK (pU (iX hr (vp 9) (vp 10))) rfl)) (fun _ _ _ => vr 10))))) (Ad (sF Ay.nd 9 (fX (Ij T) hr (Aa (fX (Du T) hr (Aa (vr 0) (Aa (bSub (pU (bAdd (pU (bAdd (vp 1) (iP))) (vp 8))) (vp 4)) (Ae)))) (Aa (bMul (vp 3) (vp 3)) (Ae))))) (Ag (M9 (GF hr) (pv 7) (iX hr (vp 5) (vp 8)) (M4 (nT Bk "_law_at") (by show DG "_law_at" Bk ++ (["_law_at"] : List Str) = _; decide +kernel) (cO (N := Bk) (sc := Ab Dt) rfl rfl) rfl (Gu rfl T.z_range (pU (bMul (vp 3) (vp 3)))) (fun _ _ _ => Ou (DK (pU (iX hr (vp 9) (vp 10))) rfl)) (fun _ _ _ => Vz (Aa (bDiv (vp 10) (vp 3)) (Aa (bMod (vp 10) (vp 3)) (Ae))))))))))) (Ag (Kf [6, 7] (Ao (Cj (Aa (vr 3) (Aa (vr 6) (Aa (vr 7) (Ae))))))))))))))
abbrev Gm : List Str := ["number", "most"]
theorem Jv : FnScope Gm ["number", "most"] (Ab Gk) := ⟨rfl, rfl, rfl, by decide +kernel, rfl, by decide +kernel, by decide +kernel⟩
theorem Dn (T : Tx G mg) : DOk P w base T.x_refuse_above 1 (spD G Az) :=
 fnX (k := 0) (N := Gm) (b := Eg) T.x_refuse_above Jv fun _ _ _ _ _ _ hr => Ag (CK (tGt (vp 0) (vp 1)) (Ag (Gv)) (Bq))
abbrev Eu : List Str := ["size", "thing"]
theorem HX : FnScope Eu ["size", "thing"] (Ab Es) := ⟨rfl, rfl, rfl, by decide +kernel, rfl, by decide +kernel, by decide +kernel⟩
theorem Cv (T : Tx G mg) : DOk P w base T.x_refuse_no_thing 1 (spD G BL) :=
 fnX (k := 0) (N := Eu) (b := DN) T.x_refuse_no_thing HX fun _ _ _ _ _ _ hr => Ag (CK (PFW.pt (JF (tLt (vp 1) (iP)) (FW (tGe (vp 1) (vp 0))))) (Ag (Gv)) (Bq))
abbrev HJ : List Str := ["size", "things", "kept", "thing"]
theorem Ei : FnScope HJ ["size", "things"] (Ab HF) := ⟨rfl, rfl, rfl, by decide +kernel, rfl, by decide +kernel, by decide +kernel⟩
theorem Ks (T : Tx G mg) : DOk P w base T.x_kept_things 2 (spD G B_) :=
 fnX (k := 1) (N := HJ) (b := FJ) T.x_kept_things Ei fun _ _ _ _ _ _ hr => Ad (sW Ei.nd 2 (Ox)) (Ad (En PassesOwn.never rfl (Gd rfl (vr 1)) (D_ (gN Ei.nd 3)) (Ad (Fd (fX (Cv T) hr (Aa (vr 0) (Aa (vr 3) (Ae))))) (Ag (M9 (GF hr) (pv 2) (vr 3) (RJ))))) (Ag (Kf [2] (Ao (vr 2)))))
abbrev Ik : List Str := ["size", "pairs", "kept", "one", "other"]
theorem Dg : FnScope Ik ["size", "pairs"] (Ab Ie) := ⟨rfl, rfl, rfl, by decide +kernel, rfl, by decide +kernel, by decide +kernel⟩
theorem LR (T : Tx G mg) : DOk P w base T.x_kept_pairs 2 (spD G Cd) :=
 fnX (k := 1) (N := Ik) (b := F_) T.x_kept_pairs Dg fun _ _ _ _ _ _ hr => Ad (sW Dg.nd 2 (d9)) (Ad (En PassesOwn.never rfl (Gd rfl (vr 1)) (J1 rfl rfl (CZ (gN Dg.nd 3) (CZ (gN Dg.nd 4) (Hv)))) (Ad (Fd (fX (Cv T) hr (Aa (vr 0) (Aa (vr 3) (Ae))))) (Ad (Fd (fX (Cv T) hr (Aa (vr 0) (Aa (vr 4) (Ae))))) (Ag (WR (GF hr) (pv 2) (Aa (vr 3) (Aa (vr 4) (Ae))) (RJ)))))) (Ag (Kf [2] (Ao (vr 2)))))
abbrev Fg : List Str := ["text"]
theorem Qd : FnScope Fg ["text"] (Ab JQ) := ⟨rfl, rfl, rfl, by decide +kernel, rfl, by decide +kernel, by decide +kernel⟩
theorem Ku (T : Tx G mg) : DOk P w base T.x_is_word 1 (spD G Ce) :=
 fnX (k := 0) (N := Fg) (b := JP) T.x_is_word Qd fun _ _ _ _ _ _ hr => Ad (CK (PFW.pt (JF (tIn hr (vp 0) (pU (Ey (El (v := .ref T.c_KEPT_TEXTS.a) rfl T.c_KEPT_TEXTS.m rfl) T.c_KEPT_TEXTS.r))) (JF (tEq hr (pU (Be ((CW rfl).or CN) Dj rfl T.z_len Fv (vp 0))) (iP)) (FW (tGt (pU (Be ((CW rfl).or CN) Dj rfl T.z_len Fv (vp 0))) (pU (Ey (El (v := (.int 8)) rfl T.s_MOST_LETTERS.m ⟨_, rfl⟩) (.int _)))))))) (Ag (Ao (RJ))) (Bq)) (Ag (Ao (Be (Tt rfl) Yn rfl T.z_all bh (pU (M4 (nT Fg "letter") (by show DG "letter" Fg ++ (["letter"] : List Str) = _; decide +kernel) (cO (N := Fg) (sc := Ab JQ) rfl rfl) rfl (PFI.top (Gd rfl (vr 0))) (fun _ _ _ => V8) (fun _ _ _ => cIn hr (vp 1) (pU (Ey (El (v := (.str "abcdefghijklmnopqrstuvwxyz")) rfl T.s_LETTERS.m ⟨_, rfl⟩) (.str _)))))))))
abbrev Fi : List Str := ["self", "size", "marks", "ties", "word", "things", "pairs"]
theorem Bl : FnScope Fi ["self", "size", "marks", "ties"] (Ab Ff) := ⟨rfl, rfl, rfl, by decide +kernel, rfl, by decide +kernel, by decide +kernel⟩
theorem Il (T : Tx G mg) : FnOk P w G.K mg base CX0 3 T.x_World___init__.f T.x_World___init__.fd ["self", "size", "marks", "ties"] (spI G "World" Bs) :=
 fn_I (c := "World") (k := 2) (N := Fi) (b := Dc) T.x_World___init__.F Bl (by decide) fun cdv A outer s H E hr => Dk (Kh (Fd (fX (Dn T) hr (Aa (vr 1) (Aa (Ey (El (v := (.int 5)) rfl T.s_MOST_THINGS.m ⟨_, rfl⟩) (.int _)) (Ae))))) NP) (Dk (Kh (Fd (fX (Dn T) hr (Aa (Be ((CW rfl).or CN) Dj rfl T.z_len Fv (vp 2)) (Aa (Ey (El (v := (.int 3)) rfl T.s_MOST_WORDS.m ⟨_, rfl⟩) (.int _)) (Ae))))) NP) (Dk (Kh (Fd (fX (Dn T) hr (Aa (Be ((CW rfl).or CN) Dj rfl T.z_len Fv (vp 3)) (Aa (Ey (El (v := (.int 3)) rfl T.s_MOST_WORDS.m ⟨_, rfl⟩) (.int _)) (Ae))))) NP) (Dk (Wb T.fl_size (pv 0) (vr 1)) (Dk (O5 T.fl_marked (pv 0) Ox) (Dk (O5 T.fl_tied (pv 0) Ox) (Dk (Rb PassesOwn.never rfl (Lz (top := false) (vr 2)) (J1 rfl rfl (CZ (gN Bl.nd 4) (CZ (gN Bl.nd 5) (Hv)))) (We (J2 (by decide) (J2 (by decide) (Wc)))) (O3 (Wa (O4 (Ht (DK (pU (fX (Ku T) hr (Aa (vr 4) (Ae)))) rfl))) (Ag Gv)) (Ra (O6 (GF hr) T.fl_marked (pv 0) (vr 4) (fX (Ks T) hr (Aa (vr 1) (Aa (vr 5) (Ae)))))))) (Dk (Rb PassesOwn.never rfl (Lz (top := false) (vr 3)) (J1 rfl rfl (CZ (gN Bl.nd 4) (CZ (gN Bl.nd 6) (Hv)))) (We (J2 (by decide) (J2 (by decide) (Wc)))) (O3 (Wa (PWE.pt (bj (O4 (Ht (DK (pU (fX (Ku T) hr (Aa (vr 4) (Ae)))) rfl))) (Yo (bu (GF hr) T.fl_marked (pv 0) (vr 4))))) (Ag Gv)) (Ra (O6 (GF hr) T.fl_tied (pv 0) (vr 4) (fX (LR T) hr (Aa (vr 1) (Aa (vr 6) (Ae)))))))) (Yq))))))))
abbrev Im : List Str := ["_law_cell_here"]
theorem La : FnScope Im ["_law_cell_here"] (Ab Ig) := ⟨rfl, rfl, rfl, by decide +kernel, rfl, by decide +kernel, by decide +kernel⟩
theorem FN (T : Tx G mg) : DOk P w base T.x__law_thing 1 (spD G Bw) :=
 fnX (k := 0) (N := Im) (b := Ds) T.x__law_thing La fun _ _ _ _ _ _ hr => Ad (CK (tEq hr (pU (bMod (vp 0) (iP))) (iP)) (Ag (Ao (bSub (pU (bMod (pU (bDiv (vp 0) (iP))) (pU (bAdd (pU (bMul (iP) (pU (GZ UV RK (iP) (iP))))) (iP))))) (pU (GZ UV RK (iP) (iP)))))) (Bq)) (Ag (Ao (bSub (pU (bMod (pU (bDiv (vp 0) (iP))) (iP))) (iP))))
abbrev Jr : List Str := ["_law_told"]
theorem Np : FnScope Jr ["_law_told"] (Ab Jm) := ⟨rfl, rfl, rfl, by decide +kernel, rfl, by decide +kernel, by decide +kernel⟩
theorem Nq (T : Tx G mg) : DOk P w base T.x__law_kind 1 (spD G Gj) :=
 fnX (k := 0) (N := Jr) (b := Jj) T.x__law_kind Np fun _ _ _ _ _ _ hr => Ad (CK (DK (pU (HW rfl T.xt T.k_0 rfl T.z_isinstance Bo (vr 0) (PQ rfl T.z_bool Ye))) rfl) (Ag (Ao (Cj (Aa (CJ) (Aa (vr 0) (Ae)))))) (Bq)) (Ad (CK (PFW.pt (JF (DK (pU (HW rfl T.xt T.k_1 rfl T.z_isinstance Bo (vr 0) (T3 (Ea T.a_NoName.m (Ea T.a_NoPointing.m (Ea T.a_NoSaying.m (Ea T.a_TooGreat.m (Ea T.a_Unlike.m (Tz))))))))) rfl) (FW (Ht (DK (pU (HW rfl T.xt T.k_2 rfl T.z_isinstance Bo (vr 0) (PQ rfl T.z_ValueError K9))) rfl))))) (Ag (Ao (Cj (Aa (CJ) (Ae))))) (Bq)) (Ad (CK (PFW.pt (RL (DK (pU (HW rfl T.xt T.k_3 rfl T.z_isinstance Bo (vr 0) (G5 rfl T.e_NoWord.m))) rfl) (Ka (Ht (DK (pU (HW rfl T.xt T.k_4 rfl T.z_isinstance Bo (vr 0) (G5 rfl T.e_NoThing.m))) rfl))))) (Ag (Ao (Cj (Aa (CJ) (Aa (R5 rfl T.xt (vr 0) T.nf_word) (Ae)))))) (Bq)) (Ad (CK (PFW.pt (RL (DK (pU (HW rfl T.xt T.k_4 rfl T.z_isinstance Bo (vr 0) (G5 rfl T.e_NoThing.m))) rfl) (Ka (Ht (DK (pU (HW rfl T.xt T.k_3 rfl T.z_isinstance Bo (vr 0) (G5 rfl T.e_NoWord.m))) rfl))))) (Ag (Ao (Cj (Aa (CJ) (Aa (R5 rfl T.xt (vr 0) T.nf_thing) (Ae)))))) (Bq)) (Ag (Ao (Cj (Aa (CJ) (Ae))))))))
abbrev Kv : List Str := ["_law_rows", "_law_word", "_law_things", "_law_size", "_law_thing_here"]
theorem Js : FnScope Kv ["_law_rows", "_law_word", "_law_things", "_law_size"] (Ab Kq) := ⟨rfl, rfl, rfl, by decide +kernel, rfl, by decide +kernel, by decide +kernel⟩
theorem Pg (T : Tx G mg) : DOk P w base T.x__law_due 1 (spD G Bb) :=
 fnX (k := 0) (N := Kv) (b := Bx) T.x__law_due Js fun _ _ _ _ _ _ hr => Ad (CK (tNi hr (vp 1) (vp 0)) (Ag (Ao (Cj (Aa (CJ) (Aa (vr 1) (Ae)))))) (Bq)) (Ad (En PassesOwn.never rfl (Gd rfl (vr 2)) (D_ (gN Js.nd 4)) (Ag (CK (PFW.pt (JF (tLt (vp 4) (iP)) (FW (tGe (vp 4) (vp 3))))) (Ag (Ao (Cj (Aa (CJ) (Aa (vr 4) (Ae)))))) (Bq)))) (Ad (CK (tEq hr (pU (Be ((CW rfl).or CN) Dj rfl T.z_len Fv (vp 2))) (iP)) (Ag (Ao (Cj (Aa (CJ) (Aa (cIn hr (pU (iX hr (vp 2) (iP))) (pU (iX hr (vp 0) (vp 1)))) (Ae)))))) (Bq)) (Ag (Ao (Cj (Aa (CJ) (Aa (cIn hr (pU (Vz (Aa (iX hr (vp 2) (iP)) (Aa (iX hr (vp 2) (iP)) (Ae))))) (pU (iX hr (vp 0) (vp 1)))) (Ae))))))))
abbrev Ej : List Str := ["self"]
theorem G8 : FnScope Ej ["self"] (Ab Eh) := ⟨rfl, rfl, rfl, by decide +kernel, rfl, by decide +kernel, by decide +kernel⟩
theorem G9 (T : Tx G mg) : FnOk P w G.K mg base CX0 1 T.x_World_mark_words.f T.x_World_mark_words.fd ["self"] (spD G Bc) :=
 fn_D (k := 0) (N := Ej) (b := Cu) T.x_World_mark_words.F G8 (by decide) fun _ _ _ _ _ _ hr => Ag (Ao (Be (Df rfl) J4 rfl T.z_sorted Gw (pU (Fw T.fl_marked (vp 0)))))
abbrev Ew : List Str := ["self"]
theorem HY : FnScope Ew ["self"] (Ab Et) := ⟨rfl, rfl, rfl, by decide +kernel, rfl, by decide +kernel, by decide +kernel⟩
theorem Ha (T : Tx G mg) : FnOk P w G.K mg base CX0 1 T.x_World_tie_words.f T.x_World_tie_words.fd ["self"] (spD G Bh) :=
 fn_D (k := 0) (N := Ew) (b := DQ) T.x_World_tie_words.F HY (by decide) fun _ _ _ _ _ _ hr => Ag (Ao (Be (Df rfl) J4 rfl T.z_sorted Gw (pU (Fw T.fl_tied (vp 0)))))
abbrev Qe : List Str := ["self", "word"]
theorem Ph : FnScope Qe ["self", "word"] (Ab Kr) := ⟨rfl, rfl, rfl, by decide +kernel, rfl, by decide +kernel, by decide +kernel⟩
theorem MT (T : Tx G mg) : FnOk P w G.K mg base CX0 1 T.e_NoWord.fi T.e_NoWord.fd ["self", "word"] (spE G.K "word" okS) :=
 T.e_NoWord.F.ok Ph (fun vs H Q E h => Ry h) fun cdv A outer s H vs Q E hr h => ⟨_, FP (Hi (PK rfl T.r.m T.r.h1 T.r.h2 T.r.h3 (CV (pv 0) (CV (PJ (Yz (pv 1)) Wv) Ex)))) (Hh (Rw (pv 0) (pv 1) rfl)), MN h rfl cG⟩
abbrev Pj : List Str := ["self", "thing"]
theorem Nr : FnScope Pj ["self", "thing"] (Ab Jo) := ⟨rfl, rfl, rfl, by decide +kernel, rfl, by decide +kernel, by decide +kernel⟩
theorem Qf (T : Tx G mg) : FnOk P w G.K mg base CX0 1 T.e_NoThing.fi T.e_NoThing.fd ["self", "thing"] (spE G.K "thing" okI) :=
 T.e_NoThing.F.ok Nr (fun vs H Q E h => Ry h) fun cdv A outer s H vs Q E hr h => ⟨_, FP (Hi (PK rfl T.r.m T.r.h1 T.r.h2 T.r.h3 (CV (pv 0) (CV (PJ (cD (pv 1)) Wv) Ex)))) (Hh (Rw (pv 0) (pv 1) rfl)), MN h rfl cF⟩
abbrev Dp : List Str := ["size", "thing"]
theorem Gn : FnScope Dp ["size", "thing"] (Ab G7) := ⟨rfl, rfl, rfl, by decide +kernel, rfl, by decide +kernel, by decide +kernel⟩
theorem Cw (T : Tx G mg) : FnOk P w G.K mg base (CX1 P w) 3 T.x_refuse_no_thing.f T.x_refuse_no_thing.fd ["size", "thing"] (spZ G Ak) :=
 fnZ (k := 2) (N := Dp) (b := BP) T.x_refuse_no_thing Gn fun _ _ _ _ _ _ hr => Dq (Nh (PFW.pt (JF (tLt (vp 1) (iP)) (FW (tGe (vp 1) (vp 0))))) (Dq (rZ (x := T.e_NoThing) (Qf T) hr Y6 (vr 1))) (Ng))
abbrev HN : List Str := ["self", "word", "thing"]
theorem Kw : FnScope HN ["self", "word", "thing"] (Ab K_) := ⟨rfl, rfl, rfl, by decide +kernel, rfl, by decide +kernel, by decide +kernel⟩
theorem Nu (T : Tx G mg) : FnOk P w G.K mg base (CX1 P w) 4 T.x_World_has.f T.x_World_has.fd ["self", "word", "thing"] (spZ G CT) :=
 fn_Z (k := 3) (N := HN) (b := Cm) T.x_World_has.F Kw (by decide) fun _ _ _ _ _ _ hr => Gf (Nh (tNi hr (vp 1) (pU (Fw T.fl_marked (vp 0)))) (Dq (rZ (x := T.e_NoWord) (MT T) hr R6 (vr 1))) (Ng)) (Gf (Km (fZ (Cw T) hr (Aa (Fw T.fl_size (vp 0)) (Aa (vr 2) (Ae))))) (Dq (PSD.x (Ao (cIn hr (vp 2) (pU (iX hr (pU (Fw T.fl_marked (vp 0))) (vp 1))))))))
abbrev GK : List Str := ["self", "word", "one", "other"]
theorem JR : FnScope GK ["self", "word", "one", "other"] (Ab Ju) := ⟨rfl, rfl, rfl, by decide +kernel, rfl, by decide +kernel, by decide +kernel⟩
theorem Ky (T : Tx G mg) : FnOk P w G.K mg base (CX1 P w) 4 T.x_World_leads.f T.x_World_leads.fd ["self", "word", "one", "other"] (spZ G BW) :=
 fn_Z (k := 3) (N := GK) (b := Bd) T.x_World_leads.F JR (by decide) fun _ _ _ _ _ _ hr => Gf (Nh (tNi hr (vp 1) (pU (Fw T.fl_tied (vp 0)))) (Dq (rZ (x := T.e_NoWord) (MT T) hr R6 (vr 1))) (Ng)) (Gf (Km (fZ (Cw T) hr (Aa (Fw T.fl_size (vp 0)) (Aa (vr 2) (Ae))))) (Gf (Km (fZ (Cw T) hr (Aa (Fw T.fl_size (vp 0)) (Aa (vr 3) (Ae))))) (Dq (PSD.x (Ao (cM hr (Aa (vr 2) (Aa (vr 3) (Ae))) (pU (iX hr (pU (Fw T.fl_tied (vp 0))) (vp 1)))))))))
abbrev Io : List Str := ["_law_world_here", "_law_word", "_law_things", "_law_told", "e"]
theorem CG : FnScope Io ["_law_world_here", "_law_word", "_law_things"] (Ab Ih) := ⟨rfl, rfl, rfl, by decide +kernel, rfl, by decide +kernel, by decide +kernel⟩
theorem Lb (T : Tx G mg) : DOk P w base T.x__law_asked 5 (spD G A_) :=
 fnX (k := 4) (N := Io) (b := Bj) T.x__law_asked CG fun _ _ _ _ _ _ hr => Ad (sF CG.nd 3 (bI)) (Ad (Y4 (cs := ["NoWord", "NoThing"]) (i := 4) rfl rfl CG.nd rfl rfl rfl T.r.m T.r.x T.xt.xc (fun _ _ => Dq (Nh (tEq hr (pU (Be ((CW rfl).or CN) Dj rfl T.z_len Fv (vp 2))) (iP)) (Dq (sZ CG.nd 3 (mZ T.gc_World T.cl_World (Nu T) hr (vr 0) (Aa (vr 1) (Aa (iX hr (vp 2) (iP)) (Ae)))))) (Dq (sZ CG.nd 3 (mZ T.gc_World T.cl_World (Ky T) hr (vr 0) (Aa (vr 1) (Aa (iX hr (vp 2) (iP)) (Aa (iX hr (vp 2) (iP)) (Ae))))))))) (fun _ => Ag (sF CG.nd 3 (vr 4)))) (Ag (Ao (vr 3))))
abbrev aA : List Str := ["_law_script", "_law_size", "_law_marks", "_law_ties", "_law_world_here", "_law_words_here", "_law_cell_here", "_law_word", "_law_things", "_law_rows"]
theorem Do : FnScope aA ["_law_script"] (Ab Z_) := ⟨rfl, rfl, rfl, by decide +kernel, rfl, by decide +kernel, by decide +kernel⟩
theorem cP (T : Tx G mg) : DOk P w base T.x_law 6 (spD G Pa) :=
 fnX (k := 5) (N := aA) (b := W8) T.x_law Do fun _ _ _ _ _ _ hr => Ad (Yl (J1 rfl rfl (CZ (gN Do.nd 1) (CZ (gN Do.nd 2) (CZ (gN Do.nd 3) (Hv))))) (fX (LQ T) hr (Aa (vr 0) (Aa (JD) (Ae))))) (Ad (sF Do.nd 4 (bw T.gc_World T.x_World___init__.mM (Il T) (hr.mono (by omega)) rfl T.mC_World T.x_World___init__.B (Aa (vr 1) (Aa (vr 2) (Aa (vr 3) (Ae)))))) (Ad (sF Do.nd 5 (bAdd (pU (bAdd (pU (Gs ((Hm.or (Hw rfl)).or (Hy rfl)) MF rfl T.z_list RQ (vp 2))) (pU (Gs ((Hm.or (Hw rfl)).or (Hy rfl)) MF rfl T.z_list RQ (vp 3))))) (pU (Cj (Aa (CJ) (Ae)))))) (Ad (En PassesOwn.never rfl (Gd rfl (bAdd (pU (Cj (Aa (JD) (Aa (JD) (Ae))))) (pU (V1 rfl (vp 0) (Om (iP)) (Om (iP)))))) (D_ (gN Do.nd 6)) (Ad (sF Do.nd 7 (iX hr (vp 5) (pU (bMod (pU (bDiv (vp 6) (iP))) (pU (Be ((CW rfl).or CN) Dj rfl T.z_len Fv (vp 5))))))) (Ad (sF Do.nd 8 (Cj (Aa (fX (FN T) hr (Aa (bDiv (vp 6) (iP)) (Ae))) (Ae)))) (Ad (sF Do.nd 9 (vr 2)) (Ad (CK (tEq hr (pU (bMod (vp 6) (iP))) (iP)) (Ad (sF Do.nd 8 (Cj (Aa (fX (FN T) hr (Aa (bDiv (vp 6) (iP)) (Ae))) (Aa (fX (FN T) hr (Aa (bDiv (vp 6) (iP)) (Ae))) (Ae))))) (Ag (sF Do.nd 9 (vr 3)))) (Bq)) (Ag (CK (tNe hr (pU (fX (Nq T) hr (Aa (fX (Lb T) hr (Aa (vr 4) (Aa (vr 7) (Aa (vr 8) (Ae))))) (Ae)))) (pU (fX (Pg T) hr (Aa (vr 9) (Aa (vr 7) (Aa (vr 8) (Aa (vr 1) (Ae)))))))) (Ag (Ao (RJ))) (Bq)))))))) (Ag (Ao (bN (cEq hr (pU (mO T.gc_World T.cl_World (G9 T) hr (vr 4))) (pU (Be (Df rfl) J4 rfl T.z_sorted Gw (vp 2)))) (bM (cEq hr (pU (mO T.gc_World T.cl_World (Ha T) hr (vr 4))) (pU (Be (Df rfl) J4 rfl T.z_sorted Gw (vp 3)))))))))))
end
abbrev gx (K : PySem.W.Frag) (C_World : Addr) (l : List (Str × Addr)) : Gx := gx2 K "World" C_World l
def aB (K : PySem.W.Frag) : Sp := fun vs H Q _ => ∃ (a : Addr) (ns : List Int), vs = [.ref a] ∧ SqL K H a (ns.map V.int) ∧ ns.length ≤ 63 ∧ (∀ i ∈ ns, Builtin.Int.intBits i ≤ 1048576) ∧ ∀ H', Q (.bl true) H'
theorem cQ (ht : ∀ ns : List Int, ns.length ≤ 63 → (∀ i ∈ ns, Builtin.Int.intBits i ≤ 1048576) → Pa [.lst (ns.map .int)] = some (.bl true)) {K : PySem.W.Frag} {C_World : Addr} {l : List (Str × Addr)} (vs : List V) (H : Hp) (Q : VK) (E : XK) (h : aB K vs H Q E) : spD (gx K C_World l) Pa vs H Q E := by
 obtain ⟨a, ns, rfl, hs, hl, hbt, k⟩ := h
 refine ⟨[], [.lst (ns.map .int)], .bl true, (fun _ z => nomatch z), RepL.cons ?_ RepL.nil, ht ns hl hbt, fun v H2 _ r => ?_⟩
 ·have e : hid [] H = H := by funext b; exact Bm (fun z => nomatch z)
  rw [e]
  refine .lst hs (by simp) fun i x d h1 h2 => ?_
  rw [List.getElem?_map] at h1 h2
  cases e2 : ns[i]? with
  | none => rw [e2] at h1; cases h1
  | some z => rw [e2] at h1 h2; cases h1; cases h2; exact .int z
 ·cases r; exact k H2
end K04
namespace K04
open PySem L2 PV
theorem J5 (ns : List Int) (k : Nat) : ∃ i, BV [.lst (ns.map .int), .int k] = some (.int i) := by
 by_cases h : k < ns.length
 ·refine ⟨ns[k], ?_⟩
  have e : atI (ns.map D.int) (k : Int) = some (.int ns[k]) := by
   rw [Uz (by omega) (by simpa using h)]
   simp [h]
  simp [BV, runF, Er, seqF, ifS, blF, bF, vF, uF, Br, lenD, Qs, h, retF, ixD, e]
 ·refine ⟨0, ?_⟩
  simp [BV, runF, Er, seqF, ifS, blF, bF, vF, uF, Br, lenD, Qs, h, retF, nxF, kF]
abbrev cs (x : Str) : List Nat := x.cps.toList
theorem Nv (x y : Str) : cs (x ++ y) = cs x ++ cs y := by show (x.cps ++ y.cps).toList = _; simp [cs]
theorem Qg (x : Str) : (cs x).length = x.length := by simp [cs, Str.length]
theorem W9 {x y : Str} (h : cs x = cs y) : x = y := by
 cases x with | mk a => cases y with | mk b => simp [cs] at h; rw [h]
def LET : Str := "abcdefghijklmnopqrstuvwxyz"
theorem Nx : LET.length = 26 := by decide +kernel
def IsL (x : Str) : Prop := ∀ c ∈ cs x, c ∈ cs LET
theorem R7 {x y : Str} (h : IsL x) (k : IsL y) : IsL (x ++ y) := fun c hc => by
 rw [Nv] at hc
 rcases List.mem_append.mp hc with q | q
 ·exact h c q
 ·exact k c q
theorem T5 : IsL "" := by
 have e : cs ("" : Str) = [] := by decide +kernel
 intro c hc
 rw [e] at hc
 cases hc
def Nm (x : Str) : Prop := ∃ c, c ∈ cs LET ∧ x = ⟨#[c]⟩
theorem Nm.isL {x : Str} (h : Nm x) : IsL x := by obtain ⟨c, hc, rfl⟩ := h; intro d hd; simp [cs] at hd; subst hd; exact hc
theorem Nm.len {x : Str} (h : Nm x) : x.length = 1 := by obtain ⟨c, hc, rfl⟩ := h; rfl
theorem eX (i : Int) (h0 : 0 ≤ i) (h1 : i < 26) : ∃ c, (cs LET)[i.toNat]? = some c ∧ c ∈ cs LET ∧ ixD (.str LET) (.int i) = some (.str ⟨#[c]⟩) := by
 have hl : (cs LET).length = 26 := by rw [Qg]; exact Nx
 have hi : i.toNat < (cs LET).length := by omega
 refine ⟨(cs LET)[i.toNat], by simp [hi], List.getElem_mem hi, ?_⟩
 show (if LET.length ≤ sizeLine then (atI (cs LET) i).map (fun c => D.str ⟨#[c]⟩) else none) = _
 rw [if_pos (Cq (by rw [Nx]; decide)), Uz h0 (by rw [hl]; omega)]
 simp [hi]
def KEPT : List Str := ["not", "and", "or", "some", "all"]
structure Wd (x : Str) : Prop where
 lo : 1 ≤ x.length
 hi : x.length ≤ 8
 isL : IsL x
 kept : x ∉ KEPT
def plc (n at_ : Int) (k j : Nat) : Int := n / ((j : Int) + 3) + (j : Int) * j + (if (j : Int) = at_ then 1 else 0) * (k : Int)
def chr (n at_ : Int) (k j : Nat) : Nat := (cs LET).getD (plc n at_ k j % 26).toNat 0
def wrd (n at_ : Int) (k : Nat) (m : Nat) : Str := ⟨((List.range m).map (chr n at_ k)).toArray⟩
theorem Pk (n at_ : Int) (k m : Nat) : wrd n at_ k (m + 1) = wrd n at_ k m ++ ⟨#[chr n at_ k m]⟩ := by
 apply W9
 rw [Nv]
 simp [wrd, cs, List.range_succ]
theorem G6 (n at_ : Int) (k m : Nat) : (wrd n at_ k m).length = m := by simp [wrd, Str.length]
theorem Pn (n at_ : Int) (k j : Nat) : chr n at_ k j ∈ cs LET ∧ ixD (.str LET) (.int (plc n at_ k j % 26)) = some (.str ⟨#[chr n at_ k j]⟩) := by
 obtain ⟨c, h1, h2, h3⟩ := eX (plc n at_ k j % 26) (Int.emod_nonneg _ (by decide)) (Int.emod_lt_of_pos _ (by decide))
 have e : chr n at_ k j = c := by unfold chr; rw [List.getD_eq_getElem?_getD, h1]; rfl
 rw [e]
 exact ⟨h2, h3⟩
theorem R8 (n at_ : Int) (k : Nat) : ∀ m, IsL (wrd n at_ k m)
 | 0 => T5
 | m + 1 => by
  rw [Pk]
  refine R7 (R8 n at_ k m) fun c hc => ?_
  simp [cs] at hc
  subst hc
  exact (Pn n at_ k m).1
theorem cR : (cs LET).Nodup := by decide +kernel
theorem cT (n : Int) (at_ : Nat) {k k' : Nat} (hk : k < 7) (hk' : k' < 7) (h : k ≠ k') : chr n at_ k at_ ≠ chr n at_ k' at_ := by
 have hl : (cs LET).length = 26 := by rw [Qg]; exact Nx
 intro e
 have b : ∀ k : Nat, (plc n at_ k at_ % 26).toNat < (cs LET).length := fun k => by
  have h0 : 0 ≤ plc n at_ k at_ % 26 := Int.emod_nonneg _ (by decide)
  have h1 : plc n at_ k at_ % 26 < 26 := Int.emod_lt_of_pos _ (by decide)
  rw [hl]; omega
 have e2 : ∀ k : Nat, chr n at_ k at_ = (cs LET)[(plc n at_ k at_ % 26).toNat]'(b k) := fun k => by
  unfold chr
  rw [List.getD_eq_getElem?_getD, List.getElem?_eq_getElem (b k)]
  rfl
 rw [e2, e2] at e
 have e3 := (List.getElem_inj cR).mp e
 have p : ∀ k : Nat, plc n at_ k at_ = n / ((at_ : Int) + 3) + (at_ : Int) * at_ + k := fun k => by unfold plc; rw [if_pos rfl, Int.one_mul]
 rw [p, p] at e3
 generalize n / ((at_ : Int) + 3) + (at_ : Int) * at_ = z at e3
 have h0 : 0 ≤ (z + (k : Int)) % 26 := Int.emod_nonneg _ (by decide)
 have h0' : 0 ≤ (z + (k' : Int)) % 26 := Int.emod_nonneg _ (by decide)
 omega
theorem cU (n : Int) (at_ m : Nat) (ha : at_ < m) {k k' : Nat} (hk : k < 7) (hk' : k' < 7) (h : k ≠ k') : wrd n at_ k m ≠ wrd n at_ k' m := by
 intro e
 have e1 : cs (wrd n at_ k m) = cs (wrd n at_ k' m) := by rw [e]
 simp only [wrd, cs] at e1
 have e2 := congrArg (fun l => l[at_]?) e1
 simp [ha] at e2
 exact cT n at_ hk hk' h e2
def fix (x : Str) : Str := if x ∈ KEPT then x ++ "x" else x
def fin (n at_ : Int) (m : Nat) (k : Nat) : Str := fix (wrd n at_ k m)
theorem cV : ∀ y ∈ KEPT, (y ++ ("x" : Str)).length ≤ 5 ∧ (y ++ ("x" : Str)) ∉ KEPT ∧ y.length ≤ 4 := by decide +kernel
theorem cW {x : Str} (h1 : 1 ≤ x.length) (h8 : x.length ≤ 8) (hL : IsL x) : Wd (fix x) := by
 unfold fix
 split
 ·rename_i h
  obtain ⟨k1, k2, _⟩ := cV x h
  refine ⟨by rw [Dw]; omega, by omega, R7 hL ?_, k2⟩
  intro c hc
  have e : cs ("x" : Str) = [120] := by decide +kernel
  rw [e] at hc
  simp at hc
  subst hc
  decide +kernel
 ·rename_i h
  exact ⟨h1, h8, hL, h⟩
theorem Y8 {x y : Str} (hl : x.length = y.length) (h : fix x = fix y) : x = y := by
 have x1 : Str.length "x" = 1 := by decide +kernel
 unfold fix at h
 split at h <;> split at h
 ·have := congrArg cs h
  rw [Nv, Nv] at this
  exact W9 (List.append_cancel_right this)
 ·have := congrArg Str.length h
  rw [Dw] at this
  omega
 ·have := congrArg Str.length h
  rw [Dw] at this
  omega
 ·exact h
theorem Y9 (x : Str) : inF false (.str x) (.lst [.str "not", .str "and", .str "or", .str "some", .str "all"]) = some (.bl (decide (x ∈ KEPT))) := by
 have e := Q7 x KEPT
 have : (KEPT.any fun y => y == x) = decide (x ∈ KEPT) := by
  rw [Bool.eq_iff_iff]
  simp only [List.any_eq_true, beq_iff_eq, decide_eq_true_eq]
  exact ⟨fun ⟨y, h1, h2⟩ => h2 ▸ h1, fun h => ⟨x, h, rfl⟩⟩
 rw [this] at e
 exact e
end K04
section
open PySem L2 PV
local macro_rules | `(tactic| simp only [cK, $ls,*] $[$l:location]?) => `(tactic| simp only [ZZ, e_nx, e_rt, e_bk, e_ct, Za, e_if, Zb, Zc, Zd, U3, Ze, U4, U5, U6, Qu, e_b, e_bs, e_u, e_us, U7, Qv, U8, Qw, Zh, Zi, Zj, U9, U_, VB, VD, VG, VH, VJ, VL, VM, VN, VP, VR, VV, e_bl, Zk, Va, Qx, Qy, Zm, Vb, Vc, Vd, Ve, Qz, Q0, Zn, Vf, Vg, Vh, Q3, Zo, Vi, Vj, e_sl, Zq, Zr, Q4, Og, e_v, e_vs, e_vU, Zt, Zu, e_k, Vk, Q5, Q6, QL, Zv, Vl, Vm, Vn, Vo, Zx, Vp, Oh, Zw, e_tr, Vq, Q8, Zz, Vr, Mv, Oi, Gr, Jy, Q9, Q_, RB, GQ, e_tg, Hs, List.length_cons, List.length_nil, List.map_cons, List.map_nil, List.cons_append, List.nil_append, List.replicate_succ, List.replicate_zero, List.getElem?_cons_zero, List.getElem?_cons_succ, List.set_cons_zero, List.set_cons_succ, Nat.reduceAdd, Nat.reduceSub, Nat.reduceEqDiff, Nat.zero_add, truB, Bool.not_true, Bool.not_false, decide_true, decide_false, List.append_nil, Int.reduceLT, Int.reduceLE, Int.reduceNeg, Int.reduceEq, Int.reduceToNat, Nat.reduceLeDiff, ix0, ix1, ix2, ixt0, ixt1, ixt2, ixt3, $ls,*] $[$l:location]?)
local macro_rules | `(tactic| simp only [cK]) => `(tactic| simp only [ZZ, e_nx, e_rt, e_bk, e_ct, Za, e_if, Zb, Zc, Zd, U3, Ze, U4, U5, U6, Qu, e_b, e_bs, e_u, e_us, U7, Qv, U8, Qw, Zh, Zi, Zj, U9, U_, VB, VD, VG, VH, VJ, VL, VM, VN, VP, VR, VV, e_bl, Zk, Va, Qx, Qy, Zm, Vb, Vc, Vd, Ve, Qz, Q0, Zn, Vf, Vg, Vh, Q3, Zo, Vi, Vj, e_sl, Zq, Zr, Q4, Og, e_v, e_vs, e_vU, Zt, Zu, e_k, Vk, Q5, Q6, QL, Zv, Vl, Vm, Vn, Vo, Zx, Vp, Oh, Zw, e_tr, Vq, Q8, Zz, Vr, Mv, Oi, Gr, Jy, Q9, Q_, RB, GQ, e_tg, Hs, List.length_cons, List.length_nil, List.map_cons, List.map_nil, List.cons_append, List.nil_append, List.replicate_succ, List.replicate_zero, List.getElem?_cons_zero, List.getElem?_cons_succ, List.set_cons_zero, List.set_cons_succ, Nat.reduceAdd, Nat.reduceSub, Nat.reduceEqDiff, Nat.zero_add, truB, Bool.not_true, Bool.not_false, decide_true, decide_false, List.append_nil, Int.reduceLT, Int.reduceLE, Int.reduceNeg, Int.reduceEq, Int.reduceToNat, Nat.reduceLeDiff, ix0, ix1, ix2, ixt0, ixt1, ixt2, ixt3])
local macro_rules | `(tactic| simp only [dK, $ls,*] $[$l:location]?) => `(tactic| simp only [cK, Wg, Wh, Wi, Rc, Rf, Rg, Rh, NQ, NT, Ri, Rj, Rk, Ge, Rm, Rn, Ro, Rp, NZ, Wj, Rq, Z5, Z6, Wk, Wm, Rr, O9, Hz, Ji, Z7, $ls,*] $[$l:location]?)
local macro_rules | `(tactic| simp only [ciK, $ls,*] $[$l:location]?) => `(tactic| simp only [cK, DX, Cp, QJ, Mu, Qs, ZR, ZS, ZV, Lq, ZW, ZX, $ls,*] $[$l:location]?)
local macro_rules | `(tactic| simp only [diK, $ls,*] $[$l:location]?) => `(tactic| simp only [cK, Wg, Wh, Wi, Rc, Rf, Rg, Rh, NQ, NT, Ri, Rj, Rk, Ge, Rm, Rn, Ro, Rp, NZ, Wj, Rq, Z5, Z6, Wk, Wm, Rr, O9, Hz, Ji, Z7, DX, Cp, QJ, Mu, Qs, ZR, ZS, ZV, Lq, ZW, ZX, $ls,*] $[$l:location]?)
namespace K04
open PySem L2 PV
theorem aC (b : Bool) : intD (.bl b) = some (.int (if b then 1 else 0)) := of_eq_true (eq_self _)
theorem sml {j : Nat} (h : j < 8) : (j : Int) < 8 ∧ 0 ≤ (j : Int) := by omega
theorem Y_ (i mm n l at_ : Int) (w6 : Slot) (k m : Nat) (hk : k < 7) (hm : m ≤ 8) (y9 y10 : Slot) : ∃ z9 z10 : Slot,
  forF (tgB (Dh 9) CP) (rngD m) [.fz (.int i), .fz (.int mm), .fz (.str LET), .fz (.int n), .fz (.int l), .fz (.int at_), w6, .fz (.int (k : Int)), .fz (.str ""), y9, y10]
   = some (.nx [.fz (.int i), .fz (.int mm), .fz (.str LET), .fz (.int n), .fz (.int l), .fz (.int at_), w6, .fz (.int (k : Int)), .fz (.str (wrd n at_ k m)), z9, z10]) := by
 obtain ⟨ρ', e, z9, z10, rfl⟩ := FQ (b := tgB (Dh 9) CP) (ds := rngD m) (ρ := [.fz (.int i), .fz (.int mm), .fz (.str LET), .fz (.int n), .fz (.int l), .fz (.int at_), w6, .fz (.int (k : Int)), .fz (.str ""), y9, y10])
  (P := fun j ρ => ∃ z9 z10 : Slot, ρ = [.fz (.int i), .fz (.int mm), .fz (.str LET), .fz (.int n), .fz (.int l), .fz (.int at_), w6, .fz (.int (k : Int)), .fz (.str (wrd n at_ k j)), z9, z10]) 0 ⟨y9, y10, rfl⟩ (by
   rintro j d ρ hd ⟨z9, z10, rfl⟩
   have hj : j < m := by
    have := (List.getElem?_eq_some_iff.mp hd).1
    rw [Cz] at this
    exact this
   have ed : d = .int (j : Int) := by
    have := hd
    simp [rngD, hj] at this
    exact this.symm
   subst ed
   have hj8 := sml (show j < 8 by omega)
   have e1 := Cp n ((j : Int) + 3) (by omega) (by omega)
   have e2 := Jx (j : Int) (j : Int) (by omega)
   have e3 := Jx (if decide ((j : Int) = at_) then (1 : Int) else 0) (k : Int) (by omega)
   have pe : n / ((j : Int) + 3) + (j : Int) * j + (if decide ((j : Int) = at_) = true then (1 : Int) else 0) * (k : Int) = plc n at_ k j := by unfold plc; simp
   have ex := (Pn n at_ k j).2
   have ea := U0 (i := wrd n at_ k j) (j := ⟨#[chr n at_ k j]⟩) (by rw [G6]; show j + 1 ≤ _; omega)
   rw [← Pk] at ea
   refine ⟨_, ?_, .fz (.int (j : Int)), .fz (.int (plc n at_ k j)), by rw [Nat.zero_add]⟩
   rw [Nat.zero_add]
   show CP [.fz (.int i), .fz (.int mm), .fz (.str LET), .fz (.int n), .fz (.int l), .fz (.int at_), w6, .fz (.int (k : Int)), .fz (.str (wrd n at_ k j)), .fz (.int (j : Int)), z10] = _
   simp only [diK, CP, aC, e1, e2, e3, pe, ex, ea])
 rw [Cz, Nat.zero_add] at *
 exact ⟨z9, z10, e⟩
theorem eY : Str.length "x" = 1 := by decide +kernel
theorem R9 (L : List D) (x : D) (h : L.length ≤ 1000) : appL (.lst L) x = some (.lst (L ++ [x])) := by
 unfold appL
 show (if L.length < sizeLine then some (D.lst (L ++ [x])) else none) = _
 rw [if_pos (Nat.lt_of_le_of_lt h (by decide))]
theorem W_ (i mm n : Int) (l at_ k : Nat) (hk : k < 7) (hl8 : l ≤ 8) (fs : List D) (hf : fs.length ≤ 1000) (z8 z9 z10 : Slot) : ∃ y9 y10 : Slot, CQ [.fz (.int i), .fz (.int mm), .fz (.str LET), .fz (.int n), .fz (.int (l : Int)), .fz (.int (at_ : Int)), .ow (.lst fs), .fz (.int (k : Int)), z8, z9, z10]
  = some (.nx [.fz (.int i), .fz (.int mm), .fz (.str LET), .fz (.int n), .fz (.int (l : Int)), .fz (.int (at_ : Int)), .ow (.lst (fs ++ [.str (fin n at_ l k)])), .fz (.int (k : Int)), .fz (.str (fin n at_ l k)), y9, y10]) := by
 obtain ⟨y9, y10, e1⟩ := Y_ i mm n l at_ (.ow (.lst fs)) k l hk hl8 z9 z10
 have e2 := I_ (l : Int) (by omega)
 have e3 := Y9 (wrd n at_ k l)
 have e4 := U0 (i := wrd n at_ k l) (j := "x") (by rw [G6, eY]; omega)
 have e5 := R9 fs (.str (fin n at_ l k)) hf
 refine ⟨y9, y10, ?_⟩
 by_cases hq : wrd n at_ k l ∈ KEPT
 ·have ef : wrd n at_ k l ++ "x" = fin n at_ l k := by unfold fin fix; rw [if_pos hq]
  rw [decide_eq_true hq] at e3
  rw [ef] at e4
  simp only [diK, CQ, e2, Int.toNat_natCast, e1, e3, e4, e5]
 ·have ef : wrd n at_ k l = fin n at_ l k := by unfold fin fix; rw [if_neg hq]
  rw [decide_eq_false hq] at e3
  rw [ef] at e1 e3
  simp only [diK, CQ, e2, Int.toNat_natCast, e1, e3, e5]
theorem XD (i : Int) (mm : Nat) (hm : mm ≤ 6) : ∃ ws : List Str, Dr [.int i, .int (mm : Int)] = some (.lst (ws.map .str)) ∧ ws.length = mm ∧ (∀ x ∈ ws, Wd x) ∧ ws.Nodup := by
 have n0 : 0 ≤ i % 2147483629 := Int.emod_nonneg _ (by decide)
 generalize en : i % 2147483629 = n at n0
 have l0 : 0 ≤ n % 8 := Int.emod_nonneg _ (by decide)
 have l8 : n % 8 < 8 := Int.emod_lt_of_pos _ (by decide)
 obtain ⟨l, el⟩ : ∃ l : Nat, (l : Int) = 1 + n % 8 := ⟨(1 + n % 8).toNat, by omega⟩
 have hl1 : 1 ≤ l := by omega
 have hl8 : l ≤ 8 := by omega
 have a0 : 0 ≤ n / 8 % (l : Int) := Int.emod_nonneg _ (by omega)
 have al : n / 8 % (l : Int) < l := Int.emod_lt_of_pos _ (by omega)
 obtain ⟨at_, ea⟩ : ∃ a : Nat, (a : Int) = n / 8 % (l : Int) := ⟨(n / 8 % (l : Int)).toNat, by omega⟩
 have hat : at_ < l := by omega
 refine ⟨(List.range mm).map (fin n at_ l), ?_, by simp, fun x hx => ?_, ?_⟩
 ·have hL : (Str.ofString "abcdefghijklmnopqrstuvwxyz") = LET := rfl
  obtain ⟨ρ', e, z7, z8, z9, z10, rfl⟩ := FQ (b := tgB (Dh 7) CQ) (ds := rngD mm) (ρ := [.fz (.int i), .fz (.int (mm : Int)), .fz (.str LET), .fz (.int n), .fz (.int (l : Int)), .fz (.int (at_ : Int)), .ow (.lst []), .un, .un, .un, .un])
   (P := fun k ρ => ∃ z7 z8 z9 z10 : Slot, ρ = [.fz (.int i), .fz (.int (mm : Int)), .fz (.str LET), .fz (.int n), .fz (.int (l : Int)), .fz (.int (at_ : Int)), .ow (.lst (((List.range k).map (fin n at_ l)).map .str)), z7, z8, z9, z10]) 0 ⟨.un, .un, .un, .un, rfl⟩ (by
    rintro k d ρ hd ⟨z7, z8, z9, z10, rfl⟩
    have hk : k < mm := by
     have := (List.getElem?_eq_some_iff.mp hd).1
     rw [Cz] at this
     exact this
    have ed : d = .int (k : Int) := by
     have := hd
     simp [rngD, hk] at this
     exact this.symm
    subst ed
    obtain ⟨y9, y10, st⟩ := W_ i mm n l at_ k (by omega) hl8 (((List.range k).map (fin n at_ l)).map .str) (by simp; omega) z8 z9 z10
    rw [Nat.zero_add]
    have er : ((List.range k).map (fin n at_ l)).map D.str ++ [.str (fin n at_ l k)] = ((List.range (k + 1)).map (fin n at_ l)).map .str := by simp [List.range_succ]
    rw [er] at st
    refine ⟨_, ?_, .fz (.int (k : Int)), .fz (.str (fin n at_ l k)), y9, y10, rfl⟩
    rw [e_tg, GQ, Hs]
    exact st)
  rw [Cz, Nat.zero_add] at *
  have e6 := I_ (mm : Int) (by omega)
  have e7 : (1 : Int) + n % 8 = (l : Int) := el.symm
  have e8 := Cp n 8 (by decide) (by decide)
  have e9 := DX (n / 8) (l : Int) (by omega)
  rw [← ea] at e9
  simp only [diK, Dr, Fy, hL, en, e7, e8, e9, e6, Int.toNat_natCast, e, Int.reduceLT, Int.reduceMod]
 ·obtain ⟨k, hk, rfl⟩ := List.mem_map.mp hx
  exact cW (by rw [G6]; exact hl1) (by rw [G6]; exact hl8) (R8 _ _ _ _)
 ·rw [List.nodup_iff_pairwise_ne, List.pairwise_map]
  refine List.Pairwise.imp_of_mem (R := fun a b => a ≠ b) (fun {a b} ha hb h => ?_) List.nodup_range
  have ha := List.mem_range.mp ha
  have hb := List.mem_range.mp hb
  intro z
  exact cU n at_ l hat (by omega) (by omega) h (Y8 (by rw [G6, G6]) z)
end K04
namespace K04
open PySem L2 PV
structure Wl where
 n : Nat
 ms : List (Str × List Nat)
 ts : List (Str × List (Nat × Nat))
abbrev iN (t : Nat) : D := .int (t : Int)
abbrev pN (q : Nat × Nat) : D := .tup [.int (q.1 : Int), .int (q.2 : Int)]
def lM (l : List Nat) : D := .lst (l.map iN)
def lT (l : List (Nat × Nat)) : D := .lst (l.map pN)
def eM (ms : List (Str × List Nat)) : List (Key × D) := ms.map fun p => (.inr p.1, lM p.2)
def eT (ts : List (Str × List (Nat × Nat))) : List (Key × D) := ts.map fun p => (.inr p.1, lT p.2)
def kM (l : List Nat) : D := .dk (l.map fun (t : Nat) => ((.inl (t : Int) : Key), .bl true))
def kT (l : List (Nat × Nat)) : D := .dt (l.map fun q => ([(.inl (q.1 : Int) : Key), .inl (q.2 : Int)], .bl true))
def oM (ms : List (Str × List Nat)) : List (Key × D) := ms.map fun p => (.inr p.1, kM p.2)
def oT (ts : List (Str × List (Nat × Nat))) : List (Key × D) := ts.map fun p => (.inr p.1, kT p.2)
def wob (W : Wl) : D := .ob "World" [("size", .int W.n), ("marked", .dk (oM W.ms)), ("tied", .dk (oT W.ts))]
structure WOk (W : Wl) : Prop where
 n5 : W.n ≤ 5
 m3 : W.ms.length ≤ 3
 t3 : W.ts.length ≤ 3
 mw : ∀ p ∈ W.ms, Wd p.1
 tw : ∀ p ∈ W.ts, Wd p.1
 nd : (W.ms.map (·.1) ++ W.ts.map (·.1)).Nodup
 ml : ∀ p ∈ W.ms, p.2.Nodup ∧ p.2.length ≤ 100 ∧ ∀ t ∈ p.2, t < W.n
 tl : ∀ p ∈ W.ts, p.2.Nodup ∧ p.2.length ≤ 100 ∧ ∀ q ∈ p.2, q.1 < W.n ∧ q.2 < W.n
theorem Kz (n : Nat) (t : Nat) (h : t < n) : BL [.int (n : Int), .int (t : Int)] = some .non := by
 have c1 : ¬ ((t : Int) < 0) := by omega
 have c2 : ¬ ((n : Int) ≤ t) := by omega
 simp only [ciK, BL, DN, c1, c2]
theorem XF {t : Nat} {l : List Nat} (h : t ∉ l) : (.inl (t : Int) : Key) ∉ (l.map fun (t : Nat) => ((.inl (t : Int) : Key), D.bl true)).map (·.1) := by
 intro z
 rw [List.map_map] at z
 obtain ⟨u, hu, e⟩ := List.mem_map.mp z
 simp at e
 have e' : u = t := by omega
 exact h (e' ▸ hu)
theorem Ma (n : Nat) (x z0 : Slot) : ∀ (r p : List Nat) (z : Slot), (p ++ r).Nodup → (∀ t ∈ r, t < n) → (p ++ r).length ≤ 100 →
  ∃ z', forF (tgB (Dh 3) Cr) (r.map iN) [.fz (.int (n : Int)), x, .ow (kM p), z] = some (.nx [.fz (.int (n : Int)), x, .ow (kM (p ++ r)), z'])
 | [], p, z, _, _, _ => ⟨z, by rw [List.append_nil]; rfl⟩
 | t :: r, p, z, nd, hl, hlen => by
  have nt : t ∉ p := by
   intro q
   rw [List.nodup_append] at nd
   exact nd.2.2 t q t (by simp) rfl
  have e1 := Kz n t (hl t (by simp))
  have e2 : Ck (kM p) (.int (t : Int)) (.bl true) = some (kM (p ++ [t])) := by
   show Ck (.dk _) _ _ = _
   rw [bx _ _ _ (by simp at hlen ⊢; omega), putL_new (XF nt)]
   simp [kM]
  have b : Cr [.fz (.int (n : Int)), x, .ow (kM p), .fz (iN t)] = some (.nx [.fz (.int (n : Int)), x, .ow (kM (p ++ [t])), .fz (iN t)]) := by
   simp only [dK, Cr, e1, e2]
  obtain ⟨z', ih⟩ := Ma n x z0 r (p ++ [t]) (.fz (iN t)) (by simpa using nd) (fun u hu => hl u (by simp [hu])) (by simpa using hlen)
  refine ⟨z', ?_⟩
  rw [List.map_cons, Gr, e_tg, GQ, Hs]
  simp only [List.set_cons_zero, List.set_cons_succ]
  rw [b, Jy, ih]
  simp
theorem ZC (n : Nat) (l : List Nat) (nd : l.Nodup) (hl : ∀ t ∈ l, t < n) (hlen : l.length ≤ 100) : B_ [.int (n : Int), lM l] = some (kM l) := by
 obtain ⟨z', e⟩ := Ma n (.fz (lM l)) .un l [] .un (by simpa using nd) hl (by simpa using hlen)
 rw [List.nil_append] at e
 have e0 : (D.dk []) = kM [] := rfl
 simp only [dK, B_, FJ, e0, lM, e] at e ⊢
theorem XH {t : Nat × Nat} {l : List (Nat × Nat)} (h : t ∉ l) : [(.inl (t.1 : Int) : Key), .inl (t.2 : Int)] ∉ (l.map fun (q : Nat × Nat) => ([(.inl (q.1 : Int) : Key), .inl (q.2 : Int)], D.bl true)).map (·.1) := by
 intro z
 rw [List.map_map] at z
 obtain ⟨u, hu, e⟩ := List.mem_map.mp z
 simp at e
 have e' : u = t := by
  obtain ⟨a, b⟩ := u
  obtain ⟨c, d⟩ := t
  simp at e ⊢
  omega
 exact h (e' ▸ hu)
theorem K1 (n : Nat) (x : Slot) : ∀ (r p : List (Nat × Nat)) (z z2 : Slot), (p ++ r).Nodup → (∀ t ∈ r, t.1 < n ∧ t.2 < n) → (p ++ r).length ≤ 100 →
  ∃ z' z2', forF (tgB (tupG 2 (Bv 3 (Bv 4 nilG))) DP) (r.map pN) [.fz (.int (n : Int)), x, .ow (kT p), z, z2] = some (.nx [.fz (.int (n : Int)), x, .ow (kT (p ++ r)), z', z2'])
 | [], p, z, z2, _, _, _ => ⟨z, z2, by rw [List.append_nil]; rfl⟩
 | t :: r, p, z, z2, nd, hl, hlen => by
  have nt : t ∉ p := by
   intro q
   rw [List.nodup_append] at nd
   exact nd.2.2 t q t (by simp) rfl
  have e1 := Kz n t.1 (hl t (by simp)).1
  have e1' := Kz n t.2 (hl t (by simp)).2
  have e2 : Hx (kT p) [.int (t.1 : Int), .int (t.2 : Int)] (.bl true) = some (kT (p ++ [t])) := by
   show Hx (.dt _) _ _ = _
   rw [bz _ _ _ _ (by simp at hlen ⊢; omega), putL_new (XH nt)]
   simp [kT]
  have b : DP [.fz (.int (n : Int)), x, .ow (kT p), .fz (.int (t.1 : Int)), .fz (.int (t.2 : Int))] = some (.nx [.fz (.int (n : Int)), x, .ow (kT (p ++ [t])), .fz (.int (t.1 : Int)), .fz (.int (t.2 : Int))]) := by
   simp only [dK, DP, e1, e1', e2]
  obtain ⟨z', z2', ih⟩ := K1 n x r (p ++ [t]) (.fz (.int (t.1 : Int))) (.fz (.int (t.2 : Int))) (by simpa using nd) (fun u hu => hl u (by simp [hu])) (by simpa using hlen)
  refine ⟨z', z2', ?_⟩
  rw [List.map_cons, Gr, e_tg, Hz, Hs]
  simp only [List.set_cons_zero, List.set_cons_succ]
  rw [b, Jy, ih]
  simp
theorem XJ (n : Nat) (l : List (Nat × Nat)) (nd : l.Nodup) (hl : ∀ t ∈ l, t.1 < n ∧ t.2 < n) (hlen : l.length ≤ 100) : Cd [.int (n : Int), lT l] = some (kT l) := by
 obtain ⟨z', z2', e⟩ := K1 n (.fz (lT l)) l [] .un .un (by simpa using nd) hl (by simpa using hlen)
 rw [List.nil_append] at e
 have e0 : (D.dt []) = kT [] := rfl
 simp only [dK, Cd, F_, e0, lT, e] at e ⊢
theorem cX (c : Nat) : inD false (.str ⟨#[c]⟩) (.str LET) = some (.bl (!(Builtin.Str.occurrences LET ⟨#[c]⟩ 0 LET.length 1).isEmpty)) := of_eq_true (eq_self _)
theorem cY : ∀ c ∈ cs LET, (!(Builtin.Str.occurrences LET ⟨#[c]⟩ 0 LET.length 1).isEmpty) = true := by decide +kernel
theorem ZD {x : Str} (h : x ∉ KEPT) : inF false (.str x) c_KEPT_TEXTS = some (.bl false) := by
 have e : inF false (.str x) c_KEPT_TEXTS = inD false (.str x) (.lst (KEPT.map .str)) := rfl
 rw [e, Q7]
 have : (KEPT.any fun y => y == x) = false := by
  rw [List.any_eq_false]
  intro y hy hz
  have := beq_iff_eq.mp hz
  exact h (this ▸ hy)
 rw [this]
theorem cZ (x : Str) (h : x.length ≤ 10000000) : lenE (.str x) = some (.int x.length) := dq x h
theorem R_ {x : Str} (h : Wd x) : Ce [.str x] = some (.bl true) := by
 have k := ZD h.kept
 have h1 := h.lo
 have h2 := h.hi
 have l := cZ x (by omega)
 have c0 : ¬ ((x.length : Int) = 0) := by omega
 have c8 : ¬ ((8 : Int) < x.length) := by omega
 have cc : ∀ l : List Nat, (∀ c ∈ l, c ∈ cs LET) → Dv [.fz (.str x)] allT Dm (l.map fun c => .str ⟨#[c]⟩) = some (l.map fun _ => .bl true) := by
  intro l
  induction l with
  | nil => intro _; rfl
  | cons c r ih =>
   intro hl
   have v : Dm ([.fz (.str x)] ++ [.fz (.str ⟨#[c]⟩)]) = some (.bl true) := by
    have e : inF false (.str ⟨#[c]⟩) (.str LET) = some (.bl true) := by
     show inD false (.str ⟨#[c]⟩) (.str LET) = _
     rw [cX, cY c (hl c (by simp))]
    have hL : (Str.ofString "abcdefghijklmnopqrstuvwxyz") = LET := rfl
    simp only [cK, Dm, hL, e]
   rw [List.map_cons, KN, Vm, v, ih fun d hd => hl d (by simp [hd])]
   rfl
 have c1 : GJ (seqA (vF 0)) allT Dm [.fz (.str x)] = some (.lst ((cs x).map fun _ => .bl true)) := by
  refine Qt (ds := (cs x).map fun c => .str ⟨#[c]⟩) (by rfl) (by rw [List.length_map, Qg]; omega) (cc (cs x) h.isL)
 have al : ∀ l : List Nat, allD (.lst (l.map fun _ => .bl true)) = some (.bl true) := by
  intro l
  have q : ∀ l : List Nat, blsD (l.map fun _ => D.bl true) = some (l.map fun _ => true) := by
   intro l
   induction l with
   | nil => rfl
   | cons c r ih => simp [blsD, ih]
  show (blsD (l.map fun _ => D.bl true)).map _ = _
  rw [q]
  simp
 simp only [ciK, Ce, JP, k, l, c0, c8, c1, al]
theorem K3 (i j : Int) (h : i ≤ j) : Az [.int i, .int j] = some .non := by
 have c : ¬ (j < i) := by omega
 simp only [ciK, Az, Eg, c]
abbrev fS (n : Nat) : Str × Bool × D := ("size", false, .int (n : Int))
abbrev fM (ms : List (Str × List Nat)) : Str × Bool × D := ("marked", true, .dk (oM ms))
abbrev fT (ts : List (Str × List (Nat × Nat))) : Str × Bool × D := ("tied", true, .dk (oT ts))
theorem q1 : (("marked" : Str) == "size") = false := by decide +kernel
theorem q2 : (("tied" : Str) == "size") = false := by decide +kernel
theorem q3 : (("tied" : Str) == "marked") = false := by decide +kernel
theorem n1 : ¬ (("size" : Str) = "marked") := by decide +kernel
theorem n2 : ¬ (("size" : Str) = "tied") := by decide +kernel
theorem n3 : ¬ (("marked" : Str) = "tied") := by decide +kernel
theorem lkM (n : Nat) (d e : D) : List.lookup ("marked" : Str) [fS n, ("marked", true, d), ("tied", true, e)] = some (true, d) := by
 rw [List.lookup_cons, q1]
 show List.lookup ("marked" : Str) [("marked", true, d), ("tied", true, e)] = _
 rw [List.lookup_cons, show (("marked" : Str) == "marked") = true by decide +kernel]
theorem lkT (n : Nat) (d e : D) : List.lookup ("tied" : Str) [fS n, ("marked", true, d), ("tied", true, e)] = some (true, e) := by
 rw [List.lookup_cons, q2]
 show List.lookup ("tied" : Str) [("marked", true, d), ("tied", true, e)] = _
 rw [List.lookup_cons, q3]
 show List.lookup ("tied" : Str) [("tied", true, e)] = _
 rw [List.lookup_cons, show (("tied" : Str) == "tied") = true by decide +kernel]
theorem rpM (n : Nat) (d e d' : D) : repE "marked" d' [fS n, ("marked", true, d), ("tied", true, e)] = [fS n, ("marked", true, d'), ("tied", true, e)] := by
 unfold repE repE
 rw [if_neg n1, if_pos rfl]
theorem rpT (n : Nat) (d e e' : D) : repE "tied" e' [fS n, ("marked", true, d), ("tied", true, e)] = [fS n, ("marked", true, d), ("tied", true, e')] := by
 unfold repE repE repE
 rw [if_neg n2, if_neg n3, if_pos rfl]
theorem Gp {α : Type} {w : Str} (f : α → D) {l : List (Str × α)} (h : w ∉ l.map (·.1)) : (.inr w : Key) ∉ (l.map fun p => ((.inr p.1 : Key), f p.2)).map (·.1) := by
 intro z
 rw [List.map_map] at z
 obtain ⟨u, hu, e⟩ := List.mem_map.mp z
 simp at e
 exact h (List.mem_map.mpr ⟨u, hu, e⟩)
theorem K4 (n : Nat) (hn : n ≤ 5) (x : Addr) (a b : D) (e : D) (z6 : Slot) : ∀ (r p : List (Str × List Nat)) (z4 z5 : Slot), ((p ++ r).map (·.1)).Nodup → (∀ q ∈ r, Wd q.1 ∧ q.2.Nodup ∧ q.2.length ≤ 100 ∧ ∀ t ∈ q.2, t < n) → (p ++ r).length ≤ 3 → (∀ d, z4 ≠ .ow d) → (∀ d, z5 ≠ .ow d) → (∀ d, z6 ≠ .ow d) →
  ∃ z4' z5', (∀ d, z4' ≠ .ow d) ∧ (∀ d, z5' ≠ .ow d) ∧ Eo (tupG 2 (Bv 4 (Bv 5 nilG))) BZ (r.map fun q => .tup [.str q.1, lM q.2]) [.fz (.adr x), .fz (.int (n : Int)), .fz a, .fz b, z4, z5, z6] [fS n, fM p, ("tied", true, e)] = some ([.fz (.adr x), .fz (.int (n : Int)), .fz a, .fz b, z4', z5', z6], [fS n, fM (p ++ r), ("tied", true, e)])
 | [], p, z4, z5, _, _, _, h4, h5, _ => ⟨z4, z5, h4, h5, by rw [List.append_nil]; rfl⟩
 | t :: r, p, z4, z5, nd, hl, hlen, h4, h5, h6 => by
  obtain ⟨w, l⟩ := t
  obtain ⟨hw, l1, l2, l3⟩ := hl (w, l) (by simp)
  have nt : w ∉ p.map (·.1) := by
   intro q
   rw [List.map_append, List.nodup_append] at nd
   exact nd.2.2 w q w (by simp) rfl
  have e1 := R_ hw
  have e2 := ZC n l l1 l3 l2
  have e3 : Ck (.dk (oM p)) (.str w) (kM l) = some (.dk (oM (p ++ [(w, l)]))) := by
   rw [Nb _ _ _ (by simp [oM] at hlen ⊢; omega)]
   have : (.inr w : Key) ∉ (oM p).map (·.1) := Gp kM nt
   rw [putL_new this]
   simp [oM]
  have b0 : BZ [.fz (.adr x), .fz (.int (n : Int)), .fz a, .fz b, .fz (.str w), .fz (lM l), z6] [fS n, fM p, ("tied", true, e)] = some ([.fz (.adr x), .fz (.int (n : Int)), .fz a, .fz b, .fz (.str w), .fz (lM l), z6], [fS n, fM (p ++ [(w, l)]), ("tied", true, e)]) := by
   have t0 : ifE (Kg (notT (trF (Al (Ce) (Ac (vF 4) (nilA)))))) [.fz (.adr x), .fz (.int (n : Int)), .fz a, .fz b, .fz (.str w), .fz (lM l), z6] [fS n, fM p, ("tied", true, e)] = some ([.fz (.adr x), .fz (.int (n : Int)), .fz a, .fz b, .fz (.str w), .fz (lM l), z6], [fS n, fM p, ("tied", true, e)]) := by
    have : notT (trF (Al (Ce) (Ac (vF 4) (nilA)))) [.fz (.adr x), .fz (.int (n : Int)), .fz a, .fz b, .fz (.str w), .fz (lM l), z6] = some false := by simp only [cK, e1]
    unfold ifE Kg
    rw [this]
   have t1 : Jg "marked" (vF 4) (Al (B_) (Ac (vF 1) (Ac (vF 5) (nilA)))) [.fz (.adr x), .fz (.int (n : Int)), .fz a, .fz b, .fz (.str w), .fz (lM l), z6] [fS n, fM p, ("tied", true, e)] = some ([.fz (.adr x), .fz (.int (n : Int)), .fz a, .fz b, .fz (.str w), .fz (lM l), z6], [fS n, fM (p ++ [(w, l)]), ("tied", true, e)]) := by
    have v1 : Al (B_) (Ac (vF 1) (Ac (vF 5) (nilA))) [.fz (.adr x), .fz (.int (n : Int)), .fz a, .fz b, .fz (.str w), .fz (lM l), z6] = some (kM l) := by simp only [cK, e2]
    have v2 : vF 4 [.fz (.adr x), .fz (.int (n : Int)), .fz a, .fz b, .fz (.str w), .fz (lM l), z6] = some (.str w) := rfl
    unfold Jg
    rw [v1, v2]
    show (match List.lookup ("marked" : Str) [fS n, fM p, ("tied", true, e)] with | some (true, d) => (Ck d (.str w) (kM l)).map fun d' => (_, repE "marked" d' [fS n, fM p, ("tied", true, e)]) | _ => none) = _
    rw [lkM]
    show (Ck (.dk (oM p)) (.str w) (kM l)).map _ = _
    rw [e3]
    show some (_, repE "marked" _ [fS n, fM p, ("tied", true, e)]) = _
    rw [rpM]
   unfold BZ
   rw [Ez, t0, De, t1]
  obtain ⟨z4', z5', g4, g5, ih⟩ := K4 n hn x a b e z6 r (p ++ [(w, l)]) (.fz (.str w)) (.fz (lM l)) (by simpa using nd) (fun u hu => hl u (by simp [hu])) (by simpa using hlen) (fun d => by simp) (fun d => by simp) h6
  refine ⟨z4', z5', g4, g5, ?_⟩
  rw [List.map_cons]
  unfold Eo
  rw [Hz]
  have no : noOw [.fz (.adr x), .fz (.int (n : Int)), .fz a, .fz b, .fz (.str w), .fz (lM l), z6] = true := by
   unfold noOw
   cases z6 with
   | ow d => exact absurd rfl (h6 d)
   | un => rfl
   | fz d => rfl
  show (if noOw [.fz (.adr x), .fz (.int (n : Int)), .fz a, .fz b, .fz (.str w), .fz (lM l), z6] = true then (BZ [.fz (.adr x), .fz (.int (n : Int)), .fz a, .fz b, .fz (.str w), .fz (lM l), z6] _).bind _ else none) = _
  rw [if_pos no, b0]
  show Eo _ _ _ _ _ = _
  rw [ih]
  simp
end K04
namespace K04
open PySem L2 PV
theorem Mf (n : Nat) (hn : n ≤ 5) (x : Addr) (a b : D) (ms : List (Str × List Nat)) (z5 : Slot) (h5 : ∀ d, z5 ≠ .ow d) : ∀ (r p : List (Str × List (Nat × Nat))) (z4 z6 : Slot), ((p ++ r).map (·.1)).Nodup → (∀ q ∈ r, Wd q.1 ∧ q.1 ∉ ms.map (·.1) ∧ q.2.Nodup ∧ q.2.length ≤ 100 ∧ ∀ t ∈ q.2, t.1 < n ∧ t.2 < n) → (p ++ r).length ≤ 3 → (∀ d, z4 ≠ .ow d) → (∀ d, z6 ≠ .ow d) →
  ∃ z4' z6', Eo (tupG 2 (Bv 4 (Bv 6 nilG))) Ba (r.map fun q => .tup [.str q.1, lT q.2]) [.fz (.adr x), .fz (.int (n : Int)), .fz a, .fz b, z4, z5, z6] [fS n, fM ms, fT p] = some ([.fz (.adr x), .fz (.int (n : Int)), .fz a, .fz b, z4', z5, z6'], [fS n, fM ms, fT (p ++ r)])
 | [], p, z4, z6, _, _, _, h4, h6 => ⟨z4, z6, by rw [List.append_nil]; rfl⟩
 | t :: r, p, z4, z6, nd, hl, hlen, h4, h6 => by
  obtain ⟨w, l⟩ := t
  obtain ⟨hw, nm, l1, l2, l3⟩ := hl (w, l) (by simp)
  have nt : w ∉ p.map (·.1) := by
   intro q
   rw [List.map_append, List.nodup_append] at nd
   exact nd.2.2 w q w (by simp) rfl
  have e1 := R_ hw
  have e2 := XJ n l l1 l3 l2
  have e3 : Ck (.dk (oT p)) (.str w) (kT l) = some (.dk (oT (p ++ [(w, l)]))) := by
   rw [Nb _ _ _ (by simp [oT] at hlen ⊢; omega)]
   have : (.inr w : Key) ∉ (oT p).map (·.1) := Gp kT nt
   rw [putL_new this]
   simp [oT]
  have e4 : getK (.inr w : Key) (oM ms) = none := JN (Gp kM nm)
  have b0 : Ba [.fz (.adr x), .fz (.int (n : Int)), .fz a, .fz b, .fz (.str w), z5, .fz (lT l)] [fS n, fM ms, fT p] = some ([.fz (.adr x), .fz (.int (n : Int)), .fz a, .fz b, .fz (.str w), z5, .fz (lT l)], [fS n, fM ms, fT (p ++ [(w, l)])]) := by
   have t0 : ifE (orTE (Kg (notT (trF (Al (Ce) (Ac (vF 4) (nilA)))))) (inTE "marked" (vF 4))) [.fz (.adr x), .fz (.int (n : Int)), .fz a, .fz b, .fz (.str w), z5, .fz (lT l)] [fS n, fM ms, fT p] = some ([.fz (.adr x), .fz (.int (n : Int)), .fz a, .fz b, .fz (.str w), z5, .fz (lT l)], [fS n, fM ms, fT p]) := by
    have u1 : notT (trF (Al (Ce) (Ac (vF 4) (nilA)))) [.fz (.adr x), .fz (.int (n : Int)), .fz a, .fz b, .fz (.str w), z5, .fz (lT l)] = some false := by simp only [cK, e1]
    have v2 : vF 4 [.fz (.adr x), .fz (.int (n : Int)), .fz a, .fz b, .fz (.str w), z5, .fz (lT l)] = some (.str w) := rfl
    have u2 : inTE "marked" (vF 4) [.fz (.adr x), .fz (.int (n : Int)), .fz a, .fz b, .fz (.str w), z5, .fz (lT l)] [fS n, fM ms, fT p] = some false := by
     unfold inTE
     rw [v2]
     show (match List.lookup ("marked" : Str) [fS n, fM ms, fT p] with | some (true, .dk kds) => (keyD (.str w)).map fun q => (getK q kds).isSome | _ => none) = _
     rw [lkM]
     show some ((getK (.inr w : Key) (oM ms)).isSome) = _
     rw [e4]
     rfl
    unfold ifE orTE Kg
    rw [u1]
    show (match inTE "marked" (vF 4) _ _ with | some false => some _ | _ => none) = _
    rw [u2]
   have t1 : Jg "tied" (vF 4) (Al (Cd) (Ac (vF 1) (Ac (vF 6) (nilA)))) [.fz (.adr x), .fz (.int (n : Int)), .fz a, .fz b, .fz (.str w), z5, .fz (lT l)] [fS n, fM ms, fT p] = some ([.fz (.adr x), .fz (.int (n : Int)), .fz a, .fz b, .fz (.str w), z5, .fz (lT l)], [fS n, fM ms, fT (p ++ [(w, l)])]) := by
    have v1 : Al (Cd) (Ac (vF 1) (Ac (vF 6) (nilA))) [.fz (.adr x), .fz (.int (n : Int)), .fz a, .fz b, .fz (.str w), z5, .fz (lT l)] = some (kT l) := by simp only [cK, e2]
    have v2 : vF 4 [.fz (.adr x), .fz (.int (n : Int)), .fz a, .fz b, .fz (.str w), z5, .fz (lT l)] = some (.str w) := rfl
    unfold Jg
    rw [v1, v2]
    show (match List.lookup ("tied" : Str) [fS n, fM ms, fT p] with | some (true, d) => (Ck d (.str w) (kT l)).map fun d' => (_, repE "tied" d' [fS n, fM ms, fT p]) | _ => none) = _
    rw [lkT]
    show (Ck (.dk (oT p)) (.str w) (kT l)).map _ = _
    rw [e3]
    show some (_, repE "tied" _ [fS n, fM ms, fT p]) = _
    rw [rpT]
   unfold Ba
   rw [Ez, t0, De, t1]
  obtain ⟨z4', z6', ih⟩ := Mf n hn x a b ms z5 h5 r (p ++ [(w, l)]) (.fz (.str w)) (.fz (lT l)) (by simpa using nd) (fun u hu => hl u (by simp [hu])) (by simpa using hlen) (fun d => by simp) (fun d => by simp)
  refine ⟨z4', z6', ?_⟩
  rw [List.map_cons]
  unfold Eo
  have tg : tupG 2 (Bv 4 (Bv 6 nilG)) (.tup [.str w, lT l]) [.fz (.adr x), .fz (.int (n : Int)), .fz a, .fz b, z4, z5, z6] = some [.fz (.adr x), .fz (.int (n : Int)), .fz a, .fz b, .fz (.str w), z5, .fz (lT l)] := by rw [Hz]; rfl
  rw [tg]
  have no : noOw [.fz (.adr x), .fz (.int (n : Int)), .fz a, .fz b, .fz (.str w), z5, .fz (lT l)] = true := by
   unfold noOw
   cases z5 with
   | ow d => exact absurd rfl (h5 d)
   | un => rfl
   | fz d => rfl
  show (if noOw [.fz (.adr x), .fz (.int (n : Int)), .fz a, .fz b, .fz (.str w), z5, .fz (lT l)] = true then (Ba [.fz (.adr x), .fz (.int (n : Int)), .fz a, .fz b, .fz (.str w), z5, .fz (lT l)] _).bind _ else none) = _
  rw [if_pos no, b0]
  show Eo _ _ _ _ _ = _
  rw [ih]
  simp
theorem SJ (W : Wl) (h : WOk W) (x : Addr) : Bs x [.int (W.n : Int), .dk (eM W.ms), .dk (eT W.ts)] = some [fS W.n, fM W.ms, fT W.ts] := by
 have ndm : (W.ms.map (·.1)).Nodup := (List.nodup_append.mp h.nd).1
 have ndt : (W.ts.map (·.1)).Nodup := (List.nodup_append.mp h.nd).2.1
 obtain ⟨z4, z5, g4, g5, m⟩ := K4 W.n h.n5 x (.dk (eM W.ms)) (.dk (eT W.ts)) (.dk []) .un W.ms [] .un .un (by simpa using ndm) (fun q hq => ⟨h.mw q hq, h.ml q hq⟩) (by simpa using h.m3) (fun d => by simp) (fun d => by simp) (fun d => by simp)
 obtain ⟨z4', z6', t⟩ := Mf W.n h.n5 x (.dk (eM W.ms)) (.dk (eT W.ts)) W.ms z5 g5 W.ts [] z4 .un (by simpa using ndt) (fun q hq => ⟨h.tw q hq, fun z => (List.nodup_append.mp h.nd).2.2 q.1 z q.1 (List.mem_map.mpr ⟨q, hq, rfl⟩) rfl, h.tl q hq⟩) (by simpa using h.t3) g4 (fun d => by simp)
 rw [List.nil_append] at m t
 change Eo _ _ _ _ [fS W.n, fM [], fT []] = some (_, [fS W.n, fM W.ms, fT []]) at m
 have r1 := K3 (W.n : Int) 5 (by have := h.n5; omega)
 have r2 := K3 ((eM W.ms).length : Int) 3 (by have := h.m3; simp [eM]; omega)
 have r3 := K3 ((eT W.ts).length : Int) 3 (by have := h.t3; simp [eT]; omega)
 have no : noOw [.fz (.adr x), .fz (.int (W.n : Int)), .fz (.dk (eM W.ms)), .fz (.dk (eT W.ts)), .un, .un, .un] = true := rfl
 have p1 : pureE (Em (Al (Az) (Ac (vF 1) (Ac (kF (.int 5)) (nilA))))) [.fz (.adr x), .fz (.int (W.n : Int)), .fz (.dk (eM W.ms)), .fz (.dk (eT W.ts)), .un, .un, .un] [] = some ([.fz (.adr x), .fz (.int (W.n : Int)), .fz (.dk (eM W.ms)), .fz (.dk (eT W.ts)), .un, .un, .un], []) := Nf (by simp only [cK, r1]) no
 have p2 : pureE (Em (Al (Az) (Ac (uF lenE (vF 2)) (Ac (kF (.int 3)) (nilA))))) [.fz (.adr x), .fz (.int (W.n : Int)), .fz (.dk (eM W.ms)), .fz (.dk (eT W.ts)), .un, .un, .un] [] = some ([.fz (.adr x), .fz (.int (W.n : Int)), .fz (.dk (eM W.ms)), .fz (.dk (eT W.ts)), .un, .un, .un], []) := Nf (by simp only [dK, r2]) no
 have p3 : pureE (Em (Al (Az) (Ac (uF lenE (vF 3)) (Ac (kF (.int 3)) (nilA))))) [.fz (.adr x), .fz (.int (W.n : Int)), .fz (.dk (eM W.ms)), .fz (.dk (eT W.ts)), .un, .un, .un] [] = some ([.fz (.adr x), .fz (.int (W.n : Int)), .fz (.dk (eM W.ms)), .fz (.dk (eT W.ts)), .un, .un, .un], []) := Nf (by simp only [dK, r3]) no
 have s1 : RZ "size" (vF 1) [.fz (.adr x), .fz (.int (W.n : Int)), .fz (.dk (eM W.ms)), .fz (.dk (eT W.ts)), .un, .un, .un] [] = some ([.fz (.adr x), .fz (.int (W.n : Int)), .fz (.dk (eM W.ms)), .fz (.dk (eT W.ts)), .un, .un, .un], [fS W.n]) := rfl
 have s2 : Jf "marked" (kF (.dk [])) [.fz (.adr x), .fz (.int (W.n : Int)), .fz (.dk (eM W.ms)), .fz (.dk (eT W.ts)), .un, .un, .un] [fS W.n] = some ([.fz (.adr x), .fz (.int (W.n : Int)), .fz (.dk (eM W.ms)), .fz (.dk (eT W.ts)), .un, .un, .un], [fS W.n, fM []]) := by
  have l : List.lookup ("marked" : Str) [fS W.n] = none := by
   rw [List.lookup_cons, q1]
   rfl
  unfold Jf
  show (if (List.lookup ("marked" : Str) [fS W.n]).isNone = true ∧ [fS W.n].length < 1000 then some (_, [fS W.n] ++ [(("marked" : Str), true, D.dk [])]) else none) = _
  rw [l, if_pos ⟨rfl, (by show 1 < 1000; decide)⟩]
  rfl
 have s3 : Jf "tied" (kF (.dk [])) [.fz (.adr x), .fz (.int (W.n : Int)), .fz (.dk (eM W.ms)), .fz (.dk (eT W.ts)), .un, .un, .un] [fS W.n, fM []] = some ([.fz (.adr x), .fz (.int (W.n : Int)), .fz (.dk (eM W.ms)), .fz (.dk (eT W.ts)), .un, .un, .un], [fS W.n, fM [], fT []]) := by
  have l : List.lookup ("tied" : Str) [fS W.n, fM []] = none := by
   rw [List.lookup_cons, q2]
   show List.lookup ("tied" : Str) [fM []] = none
   rw [List.lookup_cons, q3]
   rfl
  unfold Jf
  show (if (List.lookup ("tied" : Str) [fS W.n, fM []]).isNone = true ∧ [fS W.n, fM []].length < 1000 then some (_, [fS W.n, fM []] ++ [(("tied" : Str), true, D.dk [])]) else none) = _
  rw [l, if_pos ⟨rfl, (by show 2 < 1000; decide)⟩]
  rfl
 have i1 : HR (vF 2) [.fz (.adr x), .fz (.int (W.n : Int)), .fz (.dk (eM W.ms)), .fz (.dk (eT W.ts)), .un, .un, .un] = some (W.ms.map fun q => .tup [.str q.1, lM q.2]) := by
  show some ((eM W.ms).map fun p => D.tup [kDt p.1, p.2]) = _
  simp only [eM, List.map_map, Function.comp_def, Ji]
 have i2 : HR (vF 3) [.fz (.adr x), .fz (.int (W.n : Int)), .fz (.dk (eM W.ms)), .fz (.dk (eT W.ts)), z4, z5, .un] = some (W.ts.map fun q => .tup [.str q.1, lT q.2]) := by
  show some ((eT W.ts).map fun p => D.tup [kDt p.1, p.2]) = _
  simp only [eT, List.map_map, Function.comp_def, Ji]
 have st : NK 7 x [.int (W.n : Int), .dk (eM W.ms), .dk (eT W.ts)] = [.fz (.adr x), .fz (.int (W.n : Int)), .fz (.dk (eM W.ms)), .fz (.dk (eT W.ts)), .un, .un, .un] := rfl
 unfold Bs runI
 rw [if_pos (show [D.int (W.n : Int), .dk (eM W.ms), .dk (eT W.ts)].length + 1 = 4 from rfl), st]
 unfold Dc
 rw [Ez, p1, De, Ez, p2, De, Ez, p3, De, Ez, s1, De, Ez, s2, De, Ez, s3, De, Ez, Wn i1, m, De, Ez, Wn i2, t, De, b_]
 rfl
theorem eZ (W : Wl) (h : WOk W) (fs : FA) (ρ : Rho) (hf : fs ρ = some [.int (W.n : Int), .dk (eM W.ms), .dk (eT W.ts)]) : mkI "World" Bs fs ρ = some (wob W) := by
 unfold mkI
 rw [hf]
 simp only [Option.bind_some, SJ W h 0]
 rw [if_pos (fun x => SJ W h x)]
 rfl
end K04
namespace K04
open PySem L2 PV
theorem Mg {n : Nat} {ga : FT} {fe : FE} {ρ : Rho} (f : Nat → Bool) (h : Nat → D) (src : FI) (hs : src ρ = some (rngD n)) (hn : n ≤ 1000) (h1 : ∀ k, k < n → ga (ρ ++ [.fz (.int k)]) = some (f k)) (h2 : ∀ k, k < n → fe (ρ ++ [.fz (.int k)]) = some (h k)) : GJ src ga fe ρ = some (.lst (((List.range n).filter f).map h)) := by
 have c : ∀ l : List Nat, (∀ k ∈ l, k < n) → Dv ρ ga fe (l.map fun (k : Nat) => D.int k) = some ((l.filter f).map h) := by
  intro l
  induction l with
  | nil => intro _; rfl
  | cons k r ih =>
   intro hl
   rw [List.map_cons, KN, h1 k (hl k (by simp)), h2 k (hl k (by simp)), ih fun d hd => hl d (by simp [hd]), List.filter_cons]
   cases f k <;> rfl
 exact Qt hs (by rw [Cz]; omega) (c (List.range n) fun k hk => List.mem_range.mp hk)
theorem Mh {l : List Str} (nd : l.Nodup) {i j : Nat} (hi : i < l.length) (hj : j < l.length) (e : l[i] = l[j]) : i = j := by
 have h := List.pairwise_iff_getElem.mp nd
 rcases Nat.lt_trichotomy i j with z | z | z
 ·exact absurd e (h i j hi hj z)
 ·exact z
 ·exact absurd e.symm (h j i hj hi z)
theorem Ek (n : Nat) (f : Nat → Bool) : ((List.range n).filter f).Nodup := List.Nodup.sublist List.filter_sublist List.nodup_range
theorem cg (n : Nat) (hn : n ≤ 100) (ρ : Rho) (i : Nat) (h : ρ[i]? = some (.fz (.int (n : Int)))) : rngI (vF i) ρ = some (rngD n) := by
 have rg := I_ (n : Int) (by omega)
 simp only [QL, e_v, h, e_vs, rg, Int.toNat_natCast]
theorem shl1 (k : Nat) (hk : k < 30) : shlD (.int 1) (.int (k : Int)) = some (.int (2 ^ k)) := by
 show (if CShl 1 (k : Int) then some (D.int (1 * 2 ^ (k : Int).toNat)) else none) = _
 rw [if_pos ⟨by omega, by omega, by decide +kernel⟩]
 simp
theorem T6 (k : Nat) (hk : k < 26) : (0 : Int) < 2 ^ k ∧ (2 : Int) ^ k < 1073741824 := by
 have : ∀ k < 26, (0 : Int) < 2 ^ k ∧ (2 : Int) ^ k < 1073741824 := by decide +kernel
 exact this k hk
theorem three (i : Int) : i % 3 = 0 ∨ i % 3 = 1 ∨ i % 3 = 2 := by omega
theorem XM (i mm : Int) (k : Nat) (hk : k < 26) (fs : List D) (hf : fs.length ≤ 1000) (n : Int) (hn : 0 ≤ n ∧ n < 2147483629) : ∃ (b : Bool) (n' : Int), 0 ≤ n' ∧ n' < 2147483629 ∧
  By [.fz (.int i), .fz (.int mm), .ow (.lst fs), .fz (.int n), .fz (.int (k : Int))] = some (.nx [.fz (.int i), .fz (.int mm), .ow (.lst (fs ++ [.bl b])), .fz (.int n'), .fz (.int (k : Int))]) := by
 obtain ⟨p0, p1⟩ := T6 k hk
 have s1 := shl1 k (by omega)
 rcases three i with h | h | h
 ·have d1 := Cp i 3 (by decide) (by decide)
  have d2 := Cp (i / 3) (2 ^ k) p0 p1
  refine ⟨decide (i / 3 / 2 ^ k % 2 = 1), n, hn.1, hn.2, ?_⟩
  have a := R9 fs (.bl (decide (i / 3 / 2 ^ k % 2 = 1))) hf
  have m3 := DX i 3 (by decide)
  rw [h] at m3
  simp only [ciK, By, m3, s1, d1, d2, a, Int.reduceLT]
 all_goals
  have m3 := DX i 3 (by decide)
  rw [h] at m3
  have e1 := Jx n n (by omega)
  have e2 := Qq 48271 n (by decide)
  have e4 := DX (n * n + 48271 * n + (k : Int) + 1) 2147483629 (by decide)
  have b0 : 0 ≤ (n * n + 48271 * n + (k : Int) + 1) % 2147483629 := Int.emod_nonneg _ (by decide)
  have b1 : (n * n + 48271 * n + (k : Int) + 1) % 2147483629 < 2147483629 := Int.emod_lt_of_pos _ (by decide)
  generalize (n * n + 48271 * n + (k : Int) + 1) % 2147483629 = n' at e4 b0 b1
 ·have e3 : mulD (.int 2) (.int 1) = some (.int 2) := by rfl
  have a := R9 fs (.bl (decide (n' / 7 % 2 = 0))) hf
  refine ⟨decide (n' / 7 % 2 = 0), n', b0, b1, ?_⟩
  simp only [ciK, By, m3, e1, e2, e3, e4, a, Int.reduceLT]
 ·have e3 : mulD (.int 2) (.int 2) = some (.int 4) := by rfl
  have a := R9 fs (.bl (decide (n' / 7 % 4 = 0))) hf
  refine ⟨decide (n' / 7 % 4 = 0), n', b0, b1, ?_⟩
  simp only [ciK, By, m3, e1, e2, e3, e4, a, Int.reduceLT]
theorem SM (i : Int) (mm : Nat) (hm : mm ≤ 25) : ∃ bs : List Bool, Dl [.int i, .int (mm : Int)] = some (.lst (bs.map .bl)) ∧ bs.length = mm := by
 have n0 : 0 ≤ i / 3 % 2147483629 := Int.emod_nonneg _ (by decide)
 have n1 : i / 3 % 2147483629 < 2147483629 := Int.emod_lt_of_pos _ (by decide)
 obtain ⟨ρ', e, bs, n', z4, rfl, hl, _⟩ := FQ (b := tgB (Dh 4) By) (ds := rngD mm) (ρ := [.fz (.int i), .fz (.int (mm : Int)), .ow (.lst []), .fz (.int (i / 3 % 2147483629)), .un])
  (P := fun k ρ => ∃ (bs : List Bool) (n' : Int) (z : Slot), ρ = [.fz (.int i), .fz (.int (mm : Int)), .ow (.lst (bs.map .bl)), .fz (.int n'), z] ∧ bs.length = k ∧ 0 ≤ n' ∧ n' < 2147483629) 0 ⟨[], _, .un, rfl, rfl, n0, n1⟩ (by
   rintro k d ρ hd ⟨bs, n', z, rfl, hl, hn0, hn1⟩
   have hk : k < mm := by
    have := (List.getElem?_eq_some_iff.mp hd).1
    rwa [Cz] at this
   have ed : d = .int (k : Int) := by
    have := hd
    simp [rngD, hk] at this
    exact this.symm
   subst ed
   obtain ⟨b, n2, h1, h2, st⟩ := XM i mm k (by omega) (bs.map .bl) (by simp; omega) n' ⟨hn0, hn1⟩
   refine ⟨_, ?_, bs ++ [b], n2, .fz (.int (k : Int)), rfl, by simp; omega, h1, h2⟩
   rw [e_tg, GQ, Hs]
   rw [List.map_append]
   exact st)
 rw [Cz, Nat.zero_add] at hl
 refine ⟨bs, ?_, hl⟩
 have e6 := I_ (mm : Int) (by omega)
 simp only [diK, Dl, Gh, e6, Int.toNat_natCast, e, Int.reduceLT]
end K04
namespace K04
open PySem L2 PV
theorem KD {ws : List Str} {k : Nat} (h : k < ws.length) : ixE (.lst (ws.map .str)) (.int (k : Int)) = some (.str ws[k]) := by
 show atI (ws.map D.str) (k : Int) = _
 rw [Fp, List.getElem?_map]
 simp [h]
theorem aD {bs : List Bool} {k : Nat} (h : k < bs.length) : ixE (.lst (bs.map .bl)) (.int (k : Int)) = some (.bl bs[k]) := by
 show atI (bs.map D.bl) (k : Int) = _
 rw [Fp, List.getElem?_map]
 simp [h]
structure Mk (n : Nat) (ms : List (Str × List Nat)) : Prop where
 ok : ∀ p ∈ ms, p.2.Nodup ∧ p.2.length ≤ 100 ∧ ∀ t ∈ p.2, t < n
structure Tk (n : Nat) (ts : List (Str × List (Nat × Nat))) : Prop where
 ok : ∀ p ∈ ts, p.2.Nodup ∧ p.2.length ≤ 100 ∧ ∀ q ∈ p.2, q.1 < n ∧ q.2 < n
theorem T7 (ns : List Int) (c : D) (n m : Nat) (hn : n ≤ 5) (ws : List Str) (k : Nat) (hk : k < m) (hkw : k < ws.length) (ms : List (Str × List Nat)) (hl : ms.length ≤ 50) (nt : ws[k] ∉ ms.map (·.1)) (hm : Mk n ms) (w7 z9 : Slot) :
  ∃ l z, BX [.fz (.lst (ns.map .int)), .fz (.int 0), .fz c, .fz (.int (n : Int)), .fz (.int (m : Int)), .fz (.lst (ws.map .str)), .ow (.dk (eM ms)), w7, .fz (.int (k : Int)), z9]
   = some (.nx [.fz (.lst (ns.map .int)), .fz (.int 0), .fz c, .fz (.int (n : Int)), .fz (.int (m : Int)), .fz (.lst (ws.map .str)), .ow (.dk (eM (ms ++ [(ws[k], l)]))), w7, .fz (.int (k : Int)), z]) ∧ Mk n (ms ++ [(ws[k], l)]) := by
 obtain ⟨i, ci⟩ := J5 ns (2 + k)
 obtain ⟨bs, hb, hbl⟩ := SM i n (by omega)
 have ce : (0 : Int) + 2 + (k : Int) = ((2 + k : Nat) : Int) := by omega
 have lt : decide ((k : Int) < (m : Int)) = true := by simp; omega
 have cm : GJ (rngI (vF 3)) Eb Gi [.fz (.lst (ns.map .int)), .fz (.int 0), .fz c, .fz (.int (n : Int)), .fz (.int (m : Int)), .fz (.lst (ws.map .str)), .ow (.dk (eM ms)), w7, .fz (.int (k : Int)), .fz (.lst (bs.map .bl))] = some (lM ((List.range n).filter fun t => bs.getD t false)) :=
  Mg (fun t => bs.getD t false) iN _ (cg n (by omega) _ 3 rfl) (by omega) (fun t ht => by
   have ix := aD (bs := bs) (k := t) (by omega)
   have eg : bs.getD t false = bs[t]'(by omega) := by rw [List.getD_eq_getElem?_getD, List.getElem?_eq_getElem (by omega)]; rfl
   simp only [cK, Eb, ix, eg]) fun t ht => rfl
 have pk : Ck (.dk (eM ms)) (.str ws[k]) (lM ((List.range n).filter fun t => bs.getD t false)) = some (.dk (eM (ms ++ [(ws[k], (List.range n).filter fun t => bs.getD t false)]))) := by
  rw [Nb _ _ _ (by simp [eM]; omega)]
  have : (.inr ws[k] : Key) ∉ (eM ms).map (·.1) := Gp lM nt
  rw [putL_new this]
  simp [eM]
 have ix := KD hkw
 refine ⟨(List.range n).filter fun t => bs.getD t false, .fz (.lst (bs.map .bl)), ?_, ⟨fun p hp => ?_⟩⟩
 ·simp only [ciK, BX, lt, ce, ci, hb, Rp, Mv, ix, cm, NZ, pk]
 ·rcases List.mem_append.mp hp with q | q
  ·exact hm.ok p q
  ·obtain rfl := List.mem_singleton.mp q
   refine ⟨Ek n _, ?_, fun t ht => List.mem_range.mp (List.mem_filter.mp ht).1⟩
   have := List.length_filter_le (fun t => bs.getD t false) (List.range n)
   rw [List.length_range] at this
   show ((List.range n).filter _).length ≤ 100
   omega
theorem XN (ns : List Int) (c : D) (n m : Nat) (hn : n ≤ 5) (ws : List Str) (k : Nat) (hk : m ≤ k) (hkw : k < ws.length) (ts : List (Str × List (Nat × Nat))) (hl : ts.length ≤ 50) (nt : ws[k] ∉ ts.map (·.1)) (hm : Tk n ts) (w6 z9 : Slot) :
  ∃ l z, BX [.fz (.lst (ns.map .int)), .fz (.int 0), .fz c, .fz (.int (n : Int)), .fz (.int (m : Int)), .fz (.lst (ws.map .str)), w6, .ow (.dk (eT ts)), .fz (.int (k : Int)), z9]
   = some (.nx [.fz (.lst (ns.map .int)), .fz (.int 0), .fz c, .fz (.int (n : Int)), .fz (.int (m : Int)), .fz (.lst (ws.map .str)), w6, .ow (.dk (eT (ts ++ [(ws[k], l)]))), .fz (.int (k : Int)), z]) ∧ Tk n (ts ++ [(ws[k], l)]) := by
 have hnn : n * n ≤ 25 := Nat.mul_le_mul hn hn
 obtain ⟨i, ci⟩ := J5 ns (5 + k - m)
 obtain ⟨bs, hb, hbl⟩ := SM i (n * n) hnn
 have ce : (0 : Int) + 5 + (k : Int) - (m : Int) = ((5 + k - m : Nat) : Int) := by omega
 have lt : decide ((k : Int) < (m : Int)) = false := by simp; omega
 have mu := Jx (n : Int) (n : Int) (by omega)
 have mc : (n : Int) * (n : Int) = ((n * n : Nat) : Int) := by simp
 rw [mc] at mu
 have rg : rngI (bF mulD (vF 3) (vF 3)) [.fz (.lst (ns.map .int)), .fz (.int 0), .fz c, .fz (.int (n : Int)), .fz (.int (m : Int)), .fz (.lst (ws.map .str)), w6, .ow (.dk (eT ts)), .fz (.int (k : Int)), .fz (.lst (bs.map .bl))] = some (rngD (n * n)) := by
  have e6 := I_ ((n * n : Nat) : Int) (by omega)
  rw [Int.toNat_natCast] at e6
  simp only [cK, mu, e6]
 have cm : GJ (rngI (bF mulD (vF 3) (vF 3))) Ec Ed [.fz (.lst (ns.map .int)), .fz (.int 0), .fz c, .fz (.int (n : Int)), .fz (.int (m : Int)), .fz (.lst (ws.map .str)), w6, .ow (.dk (eT ts)), .fz (.int (k : Int)), .fz (.lst (bs.map .bl))] = some (.lst (((List.range (n * n)).filter fun t => bs.getD t false).map fun t => pN (t / n, t % n))) :=
  Mg (fun t => bs.getD t false) (fun t => pN (t / n, t % n)) _ rg (by omega) (fun t ht => by
   have ix := aD (bs := bs) (k := t) (by omega)
   have eg : bs.getD t false = bs[t]'(by omega) := by rw [List.getD_eq_getElem?_getD, List.getElem?_eq_getElem (by omega)]; rfl
   simp only [cK, Ec, ix, eg]) fun t ht => by
   have n0 : 0 < n := by
    rcases Nat.eq_zero_or_pos n with z | z
    ·subst z; simp at ht
    ·exact z
   have d1 := Cp (t : Int) (n : Int) (by omega) (by omega)
   have d2 := DX (t : Int) (n : Int) (by omega)
   have q1 : (t : Int) / (n : Int) = ((t / n : Nat) : Int) := by simp
   have q2 : (t : Int) % (n : Int) = ((t % n : Nat) : Int) := by simp
   rw [q1] at d1
   rw [q2] at d2
   simp only [cK, Ed, d1, d2]
 have el : (.lst (((List.range (n * n)).filter fun t => bs.getD t false).map fun t => pN (t / n, t % n)) : D) = lT (((List.range (n * n)).filter fun t => bs.getD t false).map fun t => (t / n, t % n)) := by simp [lT]
 rw [el] at cm
 have pk : Ck (.dk (eT ts)) (.str ws[k]) (lT (((List.range (n * n)).filter fun t => bs.getD t false).map fun t => (t / n, t % n))) = some (.dk (eT (ts ++ [(ws[k], ((List.range (n * n)).filter fun t => bs.getD t false).map fun t => (t / n, t % n))]))) := by
  rw [Nb _ _ _ (by simp [eT]; omega)]
  have : (.inr ws[k] : Key) ∉ (eT ts).map (·.1) := Gp lT nt
  rw [putL_new this]
  simp [eT]
 have ix := KD hkw
 refine ⟨((List.range (n * n)).filter fun t => bs.getD t false).map fun t => (t / n, t % n), .fz (.lst (bs.map .bl)), ?_, ⟨fun p hp => ?_⟩⟩
 ·simp only [ciK, BX, lt, ce, ci, mu, hb, Rp, Mv, ix, cm, NZ, pk]
 ·rcases List.mem_append.mp hp with q | q
  ·exact hm.ok p q
  ·obtain rfl := List.mem_singleton.mp q
   refine ⟨?_, ?_, fun q hq => ?_⟩
   ·rw [List.Nodup, List.pairwise_map]
    refine List.Pairwise.imp (fun {a b} hab e => hab ?_) (Ek (n * n) _)
    simp only [Prod.mk.injEq] at e
    have h1 := Nat.div_add_mod a n
    have h2 := Nat.div_add_mod b n
    rw [e.1, e.2] at h1
    exact h1.symm.trans h2
   ·have := List.length_filter_le (fun t => bs.getD t false) (List.range (n * n))
    rw [List.length_range] at this
    show (((List.range (n * n)).filter _).map _).length ≤ 100
    rw [List.length_map]
    omega
   ·obtain ⟨t, ht, rfl⟩ := List.mem_map.mp hq
    have ht := List.mem_range.mp (List.mem_filter.mp ht).1
    have n0 : 0 < n := by
     rcases Nat.eq_zero_or_pos n with z | z
     ·subst z; simp at ht
     ·exact z
    exact ⟨Nat.div_lt_of_lt_mul ht, Nat.mod_lt _ n0⟩
end K04
namespace K04
open PySem L2 PV
theorem T8 (a : Int) (b : Bool) : ixE (.lst [.int a, .int 5]) (.int (if b then 1 else 0)) = some (.int (if b then 5 else a)) := by cases b <;> rfl
theorem XQ (l : List D) : lenE (.lst l) = some (.int l.length) := dw l
theorem XR (ns : List Int) : ∃ W : Wl, WOk W ∧ Ca [.lst (ns.map .int), .int 0] = some (.lst [.int (W.n : Int), .dk (eM W.ms), .dk (eT W.ts)]) := by
 obtain ⟨c, hc⟩ := J5 ns 0
 obtain ⟨c1, hc1⟩ := J5 ns 1
 have s0 : 0 ≤ c / 9 % 5 := Int.emod_nonneg _ (by decide)
 have s1 : c / 9 % 5 < 5 := Int.emod_lt_of_pos _ (by decide)
 obtain ⟨n, en⟩ : ∃ n : Nat, (n : Int) = (if decide (c / 45 % 12 = 11) then 5 else c / 9 % 5) := ⟨(if decide (c / 45 % 12 = 11) then 5 else c / 9 % 5).toNat, by split <;> omega⟩
 have hn : n ≤ 5 := by
  have : (n : Int) ≤ 5 := by rw [en]; split <;> omega
  omega
 have m0 : 0 ≤ c % 4 := Int.emod_nonneg _ (by decide)
 have m1 : c % 4 < 4 := Int.emod_lt_of_pos _ (by decide)
 obtain ⟨m, em⟩ : ∃ m : Nat, (m : Int) = c % 4 := ⟨(c % 4).toNat, by omega⟩
 have t0 : 0 ≤ c / 4 % 4 := Int.emod_nonneg _ (by decide)
 have t1 : c / 4 % 4 < 4 := Int.emod_lt_of_pos _ (by decide)
 obtain ⟨t, et⟩ : ∃ t : Nat, (t : Int) = c / 4 % 4 := ⟨(c / 4 % 4).toNat, by omega⟩
 have hm3 : m ≤ 3 := by omega
 have ht3 : t ≤ 3 := by omega
 obtain ⟨ws, hws, hwl, hwd, hnd⟩ := XD c1 (m + t) (by omega)
 obtain ⟨ρ', e, ms, ts, z8, z9, rfl, a1, a2, a3, a4⟩ := FQ (b := tgB (Dh 8) BX) (ds := rngD (m + t)) (ρ := [.fz (.lst (ns.map .int)), .fz (.int 0), .fz (.int c), .fz (.int (n : Int)), .fz (.int (m : Int)), .fz (.lst (ws.map .str)), .ow (.dk (eM [])), .ow (.dk (eT [])), .un, .un])
  (P := fun k ρ => ∃ (ms : List (Str × List Nat)) (ts : List (Str × List (Nat × Nat))) (z8 z9 : Slot), ρ = [.fz (.lst (ns.map .int)), .fz (.int 0), .fz (.int c), .fz (.int (n : Int)), .fz (.int (m : Int)), .fz (.lst (ws.map .str)), .ow (.dk (eM ms)), .ow (.dk (eT ts)), z8, z9] ∧ ms.map (·.1) = (ws.take m).take k ∧ ts.map (·.1) = (ws.drop m).take (k - m) ∧ Mk n ms ∧ Tk n ts) 0 ⟨[], [], .un, .un, rfl, by simp, by simp, ⟨by simp⟩, ⟨by simp⟩⟩ (by
   rintro k d ρ hd ⟨ms, ts, z8, z9, rfl, a1, a2, a3, a4⟩
   have hk : k < m + t := by
    have := (List.getElem?_eq_some_iff.mp hd).1
    rwa [Cz] at this
   have ed : d = .int (k : Int) := by
    have := hd
    simp [rngD, hk] at this
    exact this.symm
   subst ed
   rw [Nat.zero_add] at *
   have hkw : k < ws.length := by omega
   by_cases hkm : k < m
   ·have nt : ws[k] ∉ ms.map (·.1) := by
     rw [a1, List.take_take]
     intro q
     obtain ⟨j, hj, ej⟩ := List.getElem_of_mem q
     rw [List.length_take] at hj
     rw [List.getElem_take] at ej
     have := Mh hnd (by omega) hkw ej
     omega
    have l1 := congrArg List.length a1
    simp at l1
    obtain ⟨l, z, st, hm'⟩ := T7 ns (.int c) n m hn ws k hkm hkw ms (by omega) nt a3 (.ow (.dk (eT ts))) z9
    refine ⟨_, ?_, ms ++ [(ws[k], l)], ts, .fz (.int (k : Int)), z, rfl, ?_, ?_, hm', a4⟩
    ·rw [e_tg, GQ, Hs]
     exact st
    ·rw [List.map_append, a1, List.take_take, List.take_take, show min k m = k by omega, show min (k + 1) m = k + 1 by omega, List.take_succ, List.getElem?_eq_getElem hkw]
     rfl
    ·rw [a2, show k - m = 0 by omega, show k + 1 - m = 0 by omega]
   ·have nt : ws[k] ∉ ts.map (·.1) := by
     rw [a2]
     intro q
     obtain ⟨j, hj, ej⟩ := List.getElem_of_mem q
     rw [List.length_take, List.length_drop] at hj
     rw [List.getElem_take, List.getElem_drop] at ej
     have := Mh hnd (by omega) hkw ej
     omega
    have l1 := congrArg List.length a2
    simp at l1
    obtain ⟨l, z, st, hm'⟩ := XN ns (.int c) n m hn ws k (by omega) hkw ts (by omega) nt a4 (.ow (.dk (eM ms))) z9
    refine ⟨_, ?_, ms, ts ++ [(ws[k], l)], .fz (.int (k : Int)), z, rfl, ?_, ?_, a3, hm'⟩
    ·rw [e_tg, GQ, Hs]
     exact st
    ·rw [a1, List.take_take, List.take_take, show min k m = m by omega, show min (k + 1) m = m by omega]
    ·rw [List.map_append, a2, show k + 1 - m = (k - m) + 1 by omega, List.take_succ, List.getElem?_drop, show m + (k - m) = k by omega, List.getElem?_eq_getElem hkw]
     rfl)
 rw [Cz, Nat.zero_add] at *
 have b1 : ms.map (·.1) = ws.take m := by rw [a1, List.take_take, show min (m + t) m = m by omega]
 have b2 : ts.map (·.1) = ws.drop m := by rw [a2, List.take_of_length_le (by rw [List.length_drop]; omega)]
 refine ⟨⟨n, ms, ts⟩, ⟨hn, ?_, ?_, fun p hp => ?_, fun p hp => ?_, ?_, a3.ok, a4.ok⟩, ?_⟩
 ·have := congrArg List.length b1
  simp at this
  show ms.length ≤ 3
  omega
 ·have := congrArg List.length b2
  simp at this
  show ts.length ≤ 3
  omega
 ·refine hwd _ (List.mem_of_mem_take (i := m) ?_)
  rw [← b1]
  exact List.mem_map.mpr ⟨p, hp, rfl⟩
 ·refine hwd _ (List.mem_of_mem_drop (i := m) ?_)
  rw [← b2]
  exact List.mem_map.mpr ⟨p, hp, rfl⟩
 ·show (ms.map (·.1) ++ ts.map (·.1)).Nodup
  rw [b1, b2, List.take_append_drop]
  exact hnd
 ·have e6 := I_ ((m + t : Nat) : Int) (by omega)
  rw [Int.toNat_natCast] at e6
  have i1 : (0 : Int) + 1 = ((1 : Nat) : Int) := rfl
  have i0 : (0 : Int) = ((0 : Nat) : Int) := rfl
  have hc' : BV [.lst (ns.map .int), .int 0] = some (.int c) := hc
  have hc1' : BV [.lst (ns.map .int), .int 1] = some (.int c1) := hc1
  have sp := T8 (c / 9 % 5) (decide (c / 45 % 12 = 11))
  rw [← en] at sp
  have mt : (m : Int) + (t : Int) = ((m + t : Nat) : Int) := by simp
  have lw : lenE (.lst (ws.map .str)) = some (.int ((m + t : Nat) : Int)) := by rw [XQ, List.length_map, hwl]
  have w0 : (.dk [] : D) = .dk (eM []) := rfl
  have w1 : (.dk [] : D) = .dk (eT []) := rfl
  have e' : forF (tgB (Dh 8) BX) (rngD (m + t)) [.fz (.lst (ns.map .int)), .fz (.int 0), .fz (.int c), .fz (.int (n : Int)), .fz (.int (m : Int)), .fz (.lst (ws.map .str)), .ow (.dk []), .ow (.dk []), .un, .un] = _ := e
  simp only [diK, Ca, Fz, aC, hc', Int.reduceLT, Int.reduceAdd, hc1', sp, ← em, ← et, mt, hws, lw, e6, e']
end K04
namespace K04
open PySem L2 PV EX
theorem K5 {α : Type} (f : α → D) (w : Str) : ∀ (l : List (Str × α)), getK (.inr w : Key) (l.map fun p => ((.inr p.1 : Key), f p.2)) = (l.find? (fun p => p.1 = w)).map fun p => f p.2
 | [] => rfl
 | p :: r => by
  rw [List.map_cons, List.find?_cons]
  show (if (.inr p.1 : Key) = .inr w then some (f p.2) else getK (.inr w : Key) (r.map fun p => ((.inr p.1 : Key), f p.2))) = _
  by_cases h : p.1 = w
  ·simp [h]
  ·have : ¬ ((.inr p.1 : Key) = .inr w) := fun z => h (Sum.inr.inj z)
   rw [if_neg this, K5 f w r]
   simp [h]
theorem XS (W : Wl) : fldD "size" (wob W) = some (.int (W.n : Int)) := by
 show List.lookup ("size" : Str) _ = _
 rfl
theorem Pq (W : Wl) : fldD "marked" (wob W) = some (.dk (oM W.ms)) := by
 show List.lookup ("marked" : Str) [(("size" : Str), D.int (W.n : Int)), ("marked", .dk (oM W.ms)), ("tied", .dk (oT W.ts))] = _
 simp only [List.lookup, q1]
 rfl
theorem XX (W : Wl) : fldD "tied" (wob W) = some (.dk (oT W.ts)) := by
 show List.lookup ("tied" : Str) [(("size" : Str), D.int (W.n : Int)), ("marked", .dk (oM W.ms)), ("tied", .dk (oT W.ts))] = _
 simp only [List.lookup, q2, q3]
 rfl
theorem ZF (x : Nat) (l : List Nat) : inF false (.int (x : Int)) (lM l) = some (.bl (l.any fun t => decide (t = x))) := by
 have h : ∀ ys : List Nat, flVs (ys.map iN) = some (ys.map fun (t : Nat) => V.int t) := fun ys => by
  induction ys with
  | nil => rfl
  | cons y r ih => simp [flVs, flV, ih]
 show ((flV (.int (x : Int))).bind fun v => (flVs (l.map iN)).map fun vs => D.bl (inV v vs)) = _
 rw [h]
 show some (D.bl (inV (.int (x : Int)) (l.map fun (t : Nat) => V.int t))) = _
 have e : ∀ t : Nat, eqV (.int (t : Int)) (.int (x : Int)) = decide (t = x) := fun t => by
  by_cases z : t = x
  ·subst z; simp [eqV]
  ·have : ¬ ((t : Int) = (x : Int)) := by omega
   simp [eqV, z, this]
 simp only [inV, List.any_map, Function.comp_def, e]
theorem Xa (x y : Nat) (l : List (Nat × Nat)) : inF false (.tup [.int (x : Int), .int (y : Int)]) (lT l) = some (.bl (l.any fun q => decide (q.1 = x) && decide (q.2 = y))) := by
 have k : ∀ q : Nat × Nat, eqK 62 (pN q) (.tup [.int (x : Int), .int (y : Int)]) = some (decide (q.1 = x) && decide (q.2 = y)) := fun q => by
  have e : ∀ a b : Nat, eqK 61 (.int (a : Int)) (.int (b : Int)) = some (decide (a = b)) := fun a b => by
   show some (eqV (.int (a : Int)) (.int (b : Int))) = _
   by_cases z : a = b
   ·subst z; simp [eqV]
   ·have : ¬ ((a : Int) = (b : Int)) := by omega
    simp [eqV, z, this]
  show (if 2 = 2 then allO (eqK 61) [.int (q.1 : Int), .int (q.2 : Int)] [.int (x : Int), .int (y : Int)] else none) = _
  rw [if_pos rfl]
  simp only [allO, e]
  cases decide (q.1 = x) <;> cases decide (q.2 = y) <;> rfl
 have h1 : (l.map pN).all (knows (.tup [.int (x : Int), .int (y : Int)])) = true := by
  rw [List.all_eq_true]
  intro d hd
  obtain ⟨q, _, rfl⟩ := List.mem_map.mp hd
  unfold knows
  rw [k q]
  rfl
 have h2 : (l.map pN).any (eqTo (.tup [.int (x : Int), .int (y : Int)])) = l.any fun q => decide (q.1 = x) && decide (q.2 = y) := by
  rw [List.any_map]
  congr 1
  funext q
  show eqTo _ (pN q) = _
  unfold eqTo
  rw [k q]
 show (if (l.map pN).all (knows (.tup [.int (x : Int), .int (y : Int)])) = true then some (D.bl ((l.map pN).any (eqTo (.tup [.int (x : Int), .int (y : Int)])))) else none) = _
 rw [if_pos h1, h2]
theorem e_ (x : Nat) (l : List Nat) : inF false (.int (x : Int)) (kM l) = some (.bl (l.any fun t => decide (t = x))) := by
 have h : ∀ l : List Nat, (getK (.inl (x : Int) : Key) (l.map fun (t : Nat) => ((.inl (t : Int) : Key), D.bl true))).isSome = l.any fun t => decide (t = x) := fun l => by
  induction l with
  | nil => rfl
  | cons t r ih =>
   rw [List.map_cons, List.any_cons, ← ih]
   show (if (.inl (t : Int) : Key) = .inl (x : Int) then _ else _ : Option D).isSome = _
   by_cases z : t = x
   ·subst z; simp
   ·have : ¬ ((.inl (t : Int) : Key) = .inl (x : Int)) := fun q => z (by have := Sum.inl.inj q; omega)
    rw [if_neg this]
    simp [z]
 show inF false (.int (x : Int)) (.dk _) = _
 rw [NT]
 simp only [Bool.false_eq_true, if_false, h]
end K04
namespace K04
open PySem L2 PV EX
theorem fB (x y : Nat) (l : List (Nat × Nat)) : inTO (some [.int (x : Int), .int (y : Int)]) (some (kT l)) = some (.bl (l.any fun q => decide (q.1 = x) && decide (q.2 = y))) := by
 have h : ∀ l : List (Nat × Nat), (getK [(.inl (x : Int) : Key), .inl (y : Int)] (l.map fun (q : Nat × Nat) => ([(.inl (q.1 : Int) : Key), .inl (q.2 : Int)], D.bl true))).isSome = l.any fun q => decide (q.1 = x) && decide (q.2 = y) := fun l => by
  induction l with
  | nil => rfl
  | cons t r ih =>
   rw [List.map_cons, List.any_cons, ← ih]
   show (if [(.inl (t.1 : Int) : Key), .inl (t.2 : Int)] = [.inl (x : Int), .inl (y : Int)] then _ else _ : Option D).isSome = _
   by_cases z : t.1 = x ∧ t.2 = y
   ·obtain ⟨z1, z2⟩ := z
    subst z1 z2
    simp
   ·have : ¬ ([(.inl (t.1 : Int) : Key), .inl (t.2 : Int)] = [.inl (x : Int), .inl (y : Int)]) := fun q => by
     simp only [List.cons.injEq, Sum.inl.injEq, and_true] at q
     exact z ⟨by omega, by omega⟩
    rw [if_neg this]
    have : (decide (t.1 = x) && decide (t.2 = y)) = false := by
     rw [Bool.and_eq_false_iff]
     by_cases z1 : t.1 = x
     ·right; exact decide_eq_false fun z2 => z ⟨z1, z2⟩
     ·left; exact decide_eq_false z1
    rw [this, Bool.false_or]
 have e : inTO (some [.int (x : Int), .int (y : Int)]) (some (kT l)) = some (.bl ((getK [(.inl (x : Int) : Key), .inl (y : Int)] (l.map fun (q : Nat × Nat) => ([(.inl (q.1 : Int) : Key), .inl (q.2 : Int)], D.bl true))).isSome)) := by
  unfold kT inTO
  simp only [Option.bind_some]
  rw [if_pos (Cq (by show 2 ≤ 10000000; decide))]
  rfl
 rw [e, h]
theorem fC (fs : FA) (fb : FE) (ρ : Rho) : inTF fs fb ρ = inTO (fs ρ) (fb ρ) := of_eq_true (eq_self _)
def dzO (ρ : Rho) (o : Option D) : Option Out := o.map fun d => match excOf d with | some _ => .rt d ρ | none => .nx ρ
theorem Ip (f : FE) (ρ : Rho) : MJ f ρ = dzO ρ (f ρ) := of_eq_true (eq_self _)
theorem Xb (ρ : Rho) : dzO ρ (some .non) = some (.nx ρ) := of_eq_true (eq_self _)
theorem Xc (ρ : Rho) (c : Str) (gs : List (Str × D)) : dzO ρ (some (.exc c gs)) = some (.rt (.exc c gs) ρ) := of_eq_true (eq_self _)
def szO (i : Nat) (ρ : Rho) (o : Option D) : Option Out := o.map fun d => match excOf d with | some _ => .rt d ρ | none => .nx (ρ.set i (.fz d))
theorem JS (i : Nat) (f : FE) (ρ : Rho) : setZ i f ρ = szO i ρ (f ρ) := of_eq_true (eq_self _)
theorem aF (i : Nat) (ρ : Rho) (b : Bool) : szO i ρ (some (.bl b)) = some (.nx (ρ.set i (.fz (.bl b)))) := of_eq_true (eq_self _)
theorem SN (i : Nat) (ρ : Rho) (c : Str) (gs : List (Str × D)) : szO i ρ (some (.exc c gs)) = some (.rt (.exc c gs) ρ) := of_eq_true (eq_self _)
def exO (c f : Str) (ok : D → Bool) (o : Option D) : Option D := o.bind fun d => if ok d = true then some (.exc c [(f, d)]) else none
theorem Ny (c f : Str) (ok : D → Bool) (fa : FE) (ρ : Rho) : excF c f ok fa ρ = exO c f ok (fa ρ) := of_eq_true (eq_self _)
theorem Xd {c f : Str} {ok : D → Bool} {d : D} (h : ok d = true) : exO c f ok (some d) = some (.exc c [(f, d)]) := by
 show (if ok d = true then _ else _) = _
 rw [if_pos h]
def mzO (c m : Str) (g : List D → Option D) (o : Option D) (ds : Option (List D)) : Option D := o.bind fun o => if Ep c m o = true then ds.bind fun ds => g (o :: ds) else none
theorem GC (c m : Str) (g : List D → Option D) (fo : FE) (fs : FA) (ρ : Rho) : HD c m g fo fs ρ = mzO c m g (fo ρ) (fs ρ) := of_eq_true (eq_self _)
theorem SQ {c m : Str} {g : List D → Option D} {o : D} {ds : List D} (h : Ep c m o = true) : mzO c m g (some o) (some ds) = g (o :: ds) := by
 show (if Ep c m o = true then _ else _) = _
 rw [if_pos h]
 rfl
theorem JT (cs : List Str) (i : Nat) (g h : FS) (ρ : Rho) : tryF cs i g h ρ = tryO cs i h (g ρ) := of_eq_true (eq_self _)
theorem Xe (cs : List Str) (i : Nat) (h : FS) (ρ : Rho) : tryO cs i h (some (.nx ρ)) = some (.nx ρ) := of_eq_true (eq_self _)
theorem Nz {cs : List Str} {i : Nat} {h : FS} {c : Str} {gs : List (Str × D)} {ρ : Rho} (hc : cs.contains c = true) : tryO cs i h (some (.rt (.exc c gs) ρ)) = offO i (h (ρ.set i (.fz (.err c gs)))) := by
 show (if cs.contains c = true then _ else _) = _
 rw [if_pos hc]
theorem N5 (i : Nat) (ρ : Rho) : offO i (some (.nx ρ)) = some (.nx (ρ.set i .un)) := of_eq_true (eq_self _)
theorem cj (W : Wl) : Ep "World" "has" (wob W) = true := rfl
theorem Xf (W : Wl) : Ep "World" "leads" (wob W) = true := rfl
theorem fD (W : Wl) : Ep "World" "mark_words" (wob W) = true := rfl
theorem fG (W : Wl) : Ep "World" "tie_words" (wob W) = true := rfl
inductive Rs where
 | word (w : Str) | thing (t : Int) | so (b : Bool)
def vZ : Rs → D
 | .word w => .exc "NoWord" [("word", .str w)]
 | .thing t => .exc "NoThing" [("thing", .int t)]
 | .so b => .bl b
def vE : Rs → D
 | .word w => .err "NoWord" [("word", .str w)]
 | .thing t => .err "NoThing" [("thing", .int t)]
 | .so b => .bl b
def vK : Rs → D
 | .word w => .lst [.str "word", .str w]
 | .thing t => .lst [.str "thing", .int t]
 | .so b => .lst [.str "so", .bl b]
def Sm (t : Int) : Prop := okID (.int t) = true
def bad (n : Nat) (t : Int) : Prop := t < 0 ∨ (n : Int) ≤ t
instance (n : Nat) (t : Int) : Decidable (bad n t) := by unfold bad; infer_instance
theorem JV (n : Nat) (t : Int) (h : ¬ bad n t) : Ak [.int (n : Int), .int t] = some .non := by
 have c1 : ¬ (t < 0) := fun z => h (.inl z)
 have c2 : ¬ ((n : Int) ≤ t) := fun z => h (.inr z)
 simp only [ciK, Ak, BP, c1, c2]
theorem Hb (n : Nat) (t : Int) (hs : Sm t) (h : bad n t) : Ak [.int (n : Int), .int t] = some (.exc "NoThing" [("thing", .int t)]) := by
 have ex := Xd (c := "NoThing") (f := "thing") (ok := okID) (d := .int t) hs
 by_cases c1 : t < 0
 ·simp only [ciK, Ak, BP, c1, Ny, ex]
 ·have c2 : (n : Int) ≤ t := h.resolve_left c1
  simp only [ciK, Ak, BP, c1, c2, Ny, ex]
def hasR (W : Wl) (w : Str) (t : Int) : Rs := match W.ms.find? (fun p => p.1 = w) with
 | none => .word w
 | some q => if bad W.n t then .thing t else .so (q.2.any fun u => decide (u = t.toNat))
def Gq (W : Wl) (w : Str) (t u : Int) : Rs := match W.ts.find? (fun p => p.1 = w) with
 | none => .word w
 | some q => if bad W.n t then .thing t else if bad W.n u then .thing u else .so (q.2.any fun p => decide (p.1 = t.toNat) && decide (p.2 = u.toNat))
theorem Fj {n : Nat} {t : Int} (h : ¬ bad n t) : t = (t.toNat : Int) := by
 have : ¬ t < 0 := fun z => h (.inl z)
 omega
theorem inn (k : List (Key × D)) (w : Str) (o : Option D) (h : getK (.inr w) k = o) : inF true (.str w) (.dk k) = some (.bl (!o.isSome)) := by rw [NQ, h]; rfl
theorem ixk (k : List (Key × D)) (w : Str) (d : D) (h : getK (.inr w) k = some d) : ixE (.dk k) (.str w) = some d := h
theorem cu (W : Wl) (w : Str) (hw : okSD (.str w) = true) (t : Int) (hs : Sm t) : CT [wob W, .str w, .int t] = some (vZ (hasR W w t)) := by
 have g : getK (.inr w : Key) (oM W.ms) = _ := K5 kM w W.ms
 have fm := Pq W
 have fs := XS W
 have ex := Xd (c := "NoWord") (f := "word") (ok := okSD) (d := .str w) hw
 unfold hasR
 cases e : W.ms.find? (fun p => p.1 = w) with
 | none =>
  rw [e] at g
  have i := inn (oM W.ms) w _ g
  simp only [Option.map_none, Option.isSome_none] at i
  simp only [cK, CT, Cm, fm, i, Ny, ex, vZ]
 | some q =>
  rw [e] at g
  have i := inn (oM W.ms) w _ g
  simp only [Option.map_some, Option.isSome_some] at i
  by_cases hb : bad W.n t
  ·have r := Hb W.n t hs hb
   simp only [cK, CT, Cm, fm, fs, i, Ip, r, Xc, if_pos hb, vZ]
  ·have r := JV W.n t hb
   have ik := ixk (oM W.ms) w _ g
   have et := Fj hb
   have im := e_ t.toNat q.2
   rw [← et] at im
   simp only [cK, CT, Cm, fm, fs, i, Ip, r, Xb, ik, im, if_neg hb, vZ]
theorem Xg (W : Wl) (w : Str) (hw : okSD (.str w) = true) (t u : Int) (hs : Sm t) (hu : Sm u) : BW [wob W, .str w, .int t, .int u] = some (vZ (Gq W w t u)) := by
 have g : getK (.inr w : Key) (oT W.ts) = _ := K5 kT w W.ts
 have fm := XX W
 have fs := XS W
 have ex := Xd (c := "NoWord") (f := "word") (ok := okSD) (d := .str w) hw
 unfold Gq
 cases e : W.ts.find? (fun p => p.1 = w) with
 | none =>
  rw [e] at g
  have i := inn (oT W.ts) w _ g
  simp only [Option.map_none, Option.isSome_none] at i
  simp only [cK, BW, Bd, fm, i, Ny, ex, vZ]
 | some q =>
  rw [e] at g
  have i := inn (oT W.ts) w _ g
  simp only [Option.map_some, Option.isSome_some] at i
  by_cases hb : bad W.n t
  ·have r := Hb W.n t hs hb
   simp only [cK, BW, Bd, fm, fs, i, Ip, r, Xc, if_pos hb, vZ]
  ·have r := JV W.n t hb
   by_cases hc : bad W.n u
   ·have r2 := Hb W.n u hu hc
    simp only [cK, BW, Bd, fm, fs, i, Ip, r, r2, Xb, Xc, if_neg hb, if_pos hc, vZ]
   ·have r2 := JV W.n u hc
    have ik := ixk (oT W.ts) w _ g
    have im := fB t.toNat u.toNat q.2
    rw [← Fj hb, ← Fj hc] at im
    simp only [cK, BW, Bd, fm, fs, i, Ip, r, r2, Xb, fC, ik, im, if_neg hb, if_neg hc, vZ]
end K04
namespace K04
open PySem L2 PV EX
theorem c_w : (["NoWord", "NoThing"] : List Str).contains "NoWord" = true := by decide +kernel
theorem c_t : (["NoWord", "NoThing"] : List Str).contains "NoThing" = true := by decide +kernel
theorem ix_1 (a : D) : ixE (.lst [a]) (.int 0) = some a := of_eq_true (eq_self _)
theorem SX (a b : D) : ixE (.lst [a, b]) (.int 0) = some a := of_eq_true (eq_self _)
theorem Sd (a b : D) : ixE (.lst [a, b]) (.int 1) = some b := of_eq_true (eq_self _)
theorem cz (W : Wl) (w : Str) (hw : okSD (.str w) = true) (t : Int) (hs : Sm t) : A_ [wob W, .str w, .lst [.int t]] = some (vE (hasR W w t)) := by
 have h := cu W w hw t hs
 have ob := SQ (g := CT) (ds := [.str w, .int t]) (cj W)
 have ln : lenE (.lst [.int t]) = some (.int 1) := of_eq_true (eq_self _)
 rw [h] at ob
 cases e : hasR W w t with
 | word x =>
  rw [e] at ob
  simp only [vZ] at ob
  have tx := fun (g : FS) (gs : List (Str × D)) (ρ : Rho) => Nz (i := 4) (h := g) (gs := gs) (ρ := ρ) c_w
  simp only [ciK, A_, Bj, ln, JT, JS, GC, ix_1, ob, SN, tx, N5, vE]
 | thing x =>
  rw [e] at ob
  simp only [vZ] at ob
  have tx := fun (g : FS) (gs : List (Str × D)) (ρ : Rho) => Nz (i := 4) (h := g) (gs := gs) (ρ := ρ) c_t
  simp only [ciK, A_, Bj, ln, JT, JS, GC, ix_1, ob, SN, tx, N5, vE]
 | so b =>
  rw [e] at ob
  simp only [vZ] at ob
  simp only [ciK, A_, Bj, ln, JT, JS, GC, ix_1, ob, aF, Xe, vE]
theorem dB (W : Wl) (w : Str) (hw : okSD (.str w) = true) (t u : Int) (hs : Sm t) (hu : Sm u) : A_ [wob W, .str w, .lst [.int t, .int u]] = some (vE (Gq W w t u)) := by
 have h := Xg W w hw t u hs hu
 have ob := SQ (g := BW) (ds := [.str w, .int t, .int u]) (Xf W)
 have ln : lenE (.lst [.int t, .int u]) = some (.int 2) := of_eq_true (eq_self _)
 rw [h] at ob
 cases e : Gq W w t u with
 | word x =>
  rw [e] at ob
  simp only [vZ] at ob
  have tx := fun (g : FS) (gs : List (Str × D)) (ρ : Rho) => Nz (i := 4) (h := g) (gs := gs) (ρ := ρ) c_w
  simp only [ciK, A_, Bj, ln, JT, JS, GC, SX, Sd, ob, SN, tx, N5, vE]
 | thing x =>
  rw [e] at ob
  simp only [vZ] at ob
  have tx := fun (g : FS) (gs : List (Str × D)) (ρ : Rho) => Nz (i := 4) (h := g) (gs := gs) (ρ := ρ) c_t
  simp only [ciK, A_, Bj, ln, JT, JS, GC, SX, Sd, ob, SN, tx, N5, vE]
 | so b =>
  rw [e] at ob
  simp only [vZ] at ob
  simp only [ciK, A_, Bj, ln, JT, JS, GC, SX, Sd, ob, aF, Xe, vE]
theorem Sg (r : Rs) : Gj [vE r] = some (vK r) := by
 cases r with
 | word w => rfl
 | thing t => rfl
 | so b => rfl
end K04
namespace K04
open PySem L2 PV EX
theorem seq1 (a : D) : Jh (some (.lst [a])) = some [a] := of_eq_true (eq_self _)
theorem seq2 (a b : D) : Jh (some (.lst [a, b])) = some [a, b] := of_eq_true (eq_self _)
theorem JW (a b c : Slot) (n : Nat) (t : Int) (h : bad n t) : Cg [a, b, c, .fz (.int (n : Int)), .fz (.int t)] = some (.rt (.lst [.str "thing", .int t]) [a, b, c, .fz (.int (n : Int)), .fz (.int t)]) := by
 by_cases c1 : t < 0
 ·simp only [ciK, Cg, c1]
 ·have c2 : (n : Int) ≤ t := h.resolve_left c1
  simp only [ciK, Cg, c1, c2]
theorem Hd (a b c : Slot) (n : Nat) (t : Int) (h : ¬ bad n t) : Cg [a, b, c, .fz (.int (n : Int)), .fz (.int t)] = some (.nx [a, b, c, .fz (.int (n : Int)), .fz (.int t)]) := by
 have c1 : ¬ (t < 0) := fun z => h (.inl z)
 have c2 : ¬ ((n : Int) ≤ t) := fun z => h (.inr z)
 simp only [ciK, Cg, c1, c2]
theorem due1 (W : Wl) (w : Str) (t : Int) : Bb [.dk (eM W.ms), .str w, .lst [.int t], .int (W.n : Int)] = some (vK (hasR W w t)) := by
 have g : getK (.inr w : Key) (eM W.ms) = _ := K5 lM w W.ms
 have ln : lenE (.lst [.int t]) = some (.int 1) := of_eq_true (eq_self _)
 unfold hasR
 cases e : W.ms.find? (fun p => p.1 = w) with
 | none =>
  rw [e] at g
  have i := inn (eM W.ms) w _ g
  simp only [Option.map_none, Option.isSome_none] at i
  simp only [ciK, Bb, Bx, i, vK]
 | some q =>
  rw [e] at g
  have i := inn (eM W.ms) w _ g
  simp only [Option.map_some, Option.isSome_some] at i
  by_cases hb : bad W.n t
  ·have r := fun a b c => JW a b c W.n t hb
   simp only [ciK, Bb, Bx, i, Ge, seq1, r, if_pos hb, vK]
  ·have r := fun a b c => Hd a b c W.n t hb
   have ik := ixk (eM W.ms) w _ g
   have im := ZF t.toNat q.2
   rw [← Fj hb] at im
   simp only [ciK, Bb, Bx, i, Ge, seq1, r, ln, ix_1, ik, im, if_neg hb, vK]
theorem due2 (W : Wl) (w : Str) (t u : Int) : Bb [.dk (eT W.ts), .str w, .lst [.int t, .int u], .int (W.n : Int)] = some (vK (Gq W w t u)) := by
 have g : getK (.inr w : Key) (eT W.ts) = _ := K5 lT w W.ts
 have ln : lenE (.lst [.int t, .int u]) = some (.int 2) := of_eq_true (eq_self _)
 unfold Gq
 cases e : W.ts.find? (fun p => p.1 = w) with
 | none =>
  rw [e] at g
  have i := inn (eT W.ts) w _ g
  simp only [Option.map_none, Option.isSome_none] at i
  simp only [ciK, Bb, Bx, i, vK]
 | some q =>
  rw [e] at g
  have i := inn (eT W.ts) w _ g
  simp only [Option.map_some, Option.isSome_some] at i
  by_cases hb : bad W.n t
  ·have r := fun a b c => JW a b c W.n t hb
   simp only [ciK, Bb, Bx, i, Ge, seq2, r, if_pos hb, vK]
  ·have r := fun a b c => Hd a b c W.n t hb
   by_cases hc : bad W.n u
   ·have r2 := fun a b c => JW a b c W.n u hc
    simp only [ciK, Bb, Bx, i, Ge, seq2, r, r2, if_neg hb, if_pos hc, vK]
   ·have r2 := fun a b c => Hd a b c W.n u hc
    have ik := ixk (eT W.ts) w _ g
    have im := Xa t.toNat u.toNat q.2
    rw [← Fj hb, ← Fj hc] at im
    simp only [ciK, Bb, Bx, i, Ge, seq2, r, r2, ln, SX, Sd, ik, im, if_neg hb, if_neg hc, vK]
theorem Sh (r : Rs) : eqD true (vK r) (vK r) = some (.bl false) := by
 cases r with
 | word w =>
  show (eqvD (.lst [.str "word", .str w]) (.lst [.str "word", .str w])).map _ = _
  simp [eqvD, allO, eqK, eqS, flD, flV, eqV]
 | thing t =>
  show (eqvD (.lst [.str "thing", .int t]) (.lst [.str "thing", .int t])).map _ = _
  simp [eqvD, allO, eqK, eqS, flD, flV, eqV]
 | so b =>
  show (eqvD (.lst [.str "so", .bl b]) (.lst [.str "so", .bl b])).map _ = _
  simp [eqvD, allO, eqK, eqS, flD, flV, eqV]
end K04
namespace K04
open PySem L2 PV EX
theorem fH : powD (.int 10) (.int 59) = some (.int (10 ^ 59)) := by rfl
theorem fJ : mulD (.int 2) (.int (10 ^ 59)) = some (.int (2 * 10 ^ 59)) := Qq 2 _ (by decide)
theorem aG (t : Int) (h : -(10 ^ 59) ≤ t ∧ t ≤ 10 ^ 59) : Sm t := by
 have hn : t.natAbs < 2 ^ 1920 := by
  have : t.natAbs ≤ 10 ^ 59 := by omega
  exact Nat.lt_of_le_of_lt this (by decide)
 show decide (t.natAbs.log2 < 1920) = true
 refine decide_eq_true ?_
 by_cases z : t.natAbs = 0
 ·rw [z]; decide
 ·exact (Nat.log2_lt z).mpr hn
theorem Pr (i : Int) : ∃ t, Bw [.int i] = some (.int t) ∧ Sm t := by
 by_cases h : i % 4 = 0
 ·have m := DX (i / 4) (2 * 10 ^ 59 + 1) (by decide)
  have b0 : 0 ≤ i / 4 % (2 * 10 ^ 59 + 1) := Int.emod_nonneg _ (by decide)
  have b1 : i / 4 % (2 * 10 ^ 59 + 1) < 2 * 10 ^ 59 + 1 := Int.emod_lt_of_pos _ (by decide)
  refine ⟨i / 4 % (2 * 10 ^ 59 + 1) - 10 ^ 59, ?_, aG _ (by omega)⟩
  have m4 := DX i 4 (by decide)
  rw [h] at m4
  have f4 := Cp i 4 (by decide) (by decide)
  simp only [cK, Bw, Ds, m4, f4, fH, fJ, QJ, Mu, Lq, m]
 ·have b0 : 0 ≤ i / 4 % 9 := Int.emod_nonneg _ (by decide)
  have b1 : i / 4 % 9 < 9 := Int.emod_lt_of_pos _ (by decide)
  refine ⟨i / 4 % 9 - 2, ?_, aG _ (by omega)⟩
  have m4 := DX i 4 (by decide)
  have f4 := Cp i 4 (by decide) (by decide)
  have m9 := DX (i / 4) 9 (by decide)
  have e : eqD false (.int (i % 4)) (.int 0) = some (.bl false) := by rw [Lq, decide_eq_false h]
  simp only [cK, Bw, Ds, m4, f4, m9, Mu, e]
theorem ask (W : Wl) (s : D) (ws : List Str) (hws : ws ≠ []) (hl : ws.length ≤ 100) (hw : ∀ w ∈ ws, okSD (.str w) = true) (i : Int) (z7 z8 z9 : Slot) : ∃ y7 y8 y9,
  Ia [.fz s, .fz (.int (W.n : Int)), .fz (.dk (eM W.ms)), .fz (.dk (eT W.ts)), .fz (wob W), .fz (.lst (ws.map .str)), .fz (.int i), z7, z8, z9] = some (.nx [.fz s, .fz (.int (W.n : Int)), .fz (.dk (eM W.ms)), .fz (.dk (eT W.ts)), .fz (wob W), .fz (.lst (ws.map .str)), .fz (.int i), y7, y8, y9]) := by
 have hpos : 0 < ws.length := List.length_pos_iff.mpr hws
 have d2 := Cp i 2 (by decide) (by decide)
 have ln : lenE (.lst (ws.map .str)) = some (.int (ws.length : Int)) := by rw [XQ, List.length_map]
 have md := DX (i / 2) (ws.length : Int) (by omega)
 obtain ⟨w, hm, ew⟩ : ∃ w, w ∈ ws ∧ ixE (.lst (ws.map .str)) (.int (i / 2 % (ws.length : Int))) = some (.str w) := by
  have b0 : 0 ≤ i / 2 % (ws.length : Int) := Int.emod_nonneg _ (by omega)
  have b1 : i / 2 % (ws.length : Int) < ws.length := Int.emod_lt_of_pos _ (by omega)
  obtain ⟨k, ek⟩ : ∃ k : Nat, (k : Int) = i / 2 % (ws.length : Int) := ⟨(i / 2 % (ws.length : Int)).toNat, by omega⟩
  rw [← ek]
  have hk : k < ws.length := by omega
  exact ⟨ws[k], List.getElem_mem hk, KD hk⟩
 have hwk := hw w hm
 have d14 := Cp i 14 (by decide) (by decide)
 have d504 := Cp i 504 (by decide) (by decide)
 obtain ⟨t, et, st⟩ := Pr (i / 14)
 obtain ⟨u, eu, su⟩ := Pr (i / 504)
 have m2 := DX i 2 (by decide)
 by_cases h : i % 2 = 1
 ·have a := dB W w hwk t u st su
  have kd := Sg (Gq W w t u)
  have du := due2 W w t u
  have eq := Sh (Gq W w t u)
  rw [h] at m2
  exact ⟨.fz (.str w), .fz (.lst [.int t, .int u]), .fz (.dk (eT W.ts)), by simp only [cK, Ia, d2, d14, d504, ln, md, ew, et, eu, m2, Lq, a, kd, du, eq]⟩
 ·have a := cz W w hwk t st
  have kd := Sg (hasR W w t)
  have du := due1 W w t
  have eq := Sh (hasR W w t)
  have e : eqD false (.int (i % 2)) (.int 1) = some (.bl false) := by rw [Lq, decide_eq_false h]
  exact ⟨.fz (.str w), .fz (.lst [.int t]), .fz (.dk (eM W.ms)), by simp only [cK, Ia, d2, d14, ln, md, ew, et, m2, e, a, kd, du, eq]⟩
theorem Sq (k : List (Key × D)) : O7 (.dk k) = some (.lst (k.map fun p => kDt p.1)) := of_eq_true (eq_self _)
theorem Ss (ms : List (Str × List Nat)) : (eM ms).map (fun p => kDt p.1) = (ms.map (·.1)).map .str := by simp [eM, Ji]
theorem Su (ts : List (Str × List (Nat × Nat))) : (eT ts).map (fun p => kDt p.1) = (ts.map (·.1)).map .str := by simp [eT, Ji]
theorem Xh (ms : List (Str × List Nat)) : (oM ms).map (fun p => kDt p.1) = (ms.map (·.1)).map .str := by simp [oM, Ji]
theorem Xi (ts : List (Str × List (Nat × Nat))) : (oT ts).map (fun p => kDt p.1) = (ts.map (·.1)).map .str := by simp [oT, Ji]
theorem N6 {k : List (Key × D)} {zs : List Str} (h : k.map (fun p => kDt p.1) = zs.map .str) (nd : zs.Nodup) (hl : zs.length ≤ 60) : sdkD (.dk k) = some (.lst ((Di zs).map .str)) := by
 show sdkL k = _
 unfold sdkL
 rw [h, Te, Option.bind_some, if_pos ⟨nd, hl⟩]
theorem Sv (zs : List Str) : eqD false (.lst (zs.map .str)) (.lst (zs.map .str)) = some (.bl true) := by
 have h : ∀ zs : List Str, allO (eqK 62) (zs.map .str) (zs.map .str) = some true := fun zs => by
  induction zs with
  | nil => rfl
  | cons z r ih =>
   show (match eqK 62 (.str z) (.str z), allO (eqK 62) (r.map .str) (r.map .str) with | some a, some b => some (a && b) | _, _ => none) = _
   rw [ih]
   have : eqK 62 (.str z) (.str z) = some true := by show some (eqV (.str z) (.str z)) = _; simp [eqV]
   rw [this]
   rfl
 show (eqvD (.lst (zs.map .str)) (.lst (zs.map .str))).map _ = _
 show ((if (zs.map D.str).length = (zs.map D.str).length then allO (eqK 62) (zs.map .str) (zs.map .str) else some false).map fun b => D.bl (if false then !b else b)) = _
 rw [if_pos rfl, h]
 rfl
theorem aH {x : Str} (h : Wd x) : okSD (.str x) = true := by
 have l26 : ∀ c ∈ cs LET, c < 4294967296 := by decide +kernel
 show (decide (x.length ≤ 100000) && x.cps.toList.all fun c => decide (c < 4294967296)) = true
 rw [Bool.and_eq_true, decide_eq_true_eq, List.all_eq_true]
 exact ⟨by have := h.hi; omega, fun c hc => decide_eq_true (l26 c (h.isL c hc))⟩
theorem ZG : okSD (.str "ninesigns") = true := by decide +kernel
theorem Xj : ∀ ns : List Int, ns.length ≤ 63 → (∀ i ∈ ns, Builtin.Int.intBits i ≤ 1048576) → Pa [.lst (ns.map .int)] = some (.bl true) := by
 intro ns hn _
 obtain ⟨W, hW, ew⟩ := XR ns
 have nm : (W.ms.map (·.1)).Nodup := (List.nodup_append.mp hW.nd).1
 have nt : (W.ts.map (·.1)).Nodup := (List.nodup_append.mp hW.nd).2.1
 have l3 := hW.m3
 have l3' := hW.t3
 have mk := eZ W hW
 have s1 := N6 (Ss W.ms) nm (by rw [List.length_map]; omega)
 have s2 := N6 (Su W.ts) nt (by rw [List.length_map]; omega)
 have s3 := N6 (Xh W.ms) nm (by rw [List.length_map]; omega)
 have s4 := N6 (Xi W.ts) nt (by rw [List.length_map]; omega)
 have mw : Bc [wob W] = some (.lst ((Di (W.ms.map (·.1))).map .str)) := by simp only [cK, Bc, Cu, Pq, s3]
 have tw : Bh [wob W] = some (.lst ((Di (W.ts.map (·.1))).map .str)) := by simp only [cK, Bh, DQ, XX, s4]
 have m1 := SQ (g := Bc) (ds := []) (fD W)
 have m2 := SQ (g := Bh) (ds := []) (fG W)
 rw [mw] at m1
 rw [tw] at m2
 have q1 := Sv (Di (W.ms.map (·.1)))
 have q2 := Sv (Di (W.ts.map (·.1)))
 have a1 := QK (i := (W.ms.map (·.1)).map D.str) (j := (W.ts.map (·.1)).map D.str) (by simp only [List.length_map]; omega)
 have a2 := QK (i := (W.ms.map (·.1)).map D.str ++ (W.ts.map (·.1)).map D.str) (j := [D.str "ninesigns"]) (by simp only [List.length_append, List.length_map, List.length_cons, List.length_nil]; omega)
 have ea : (W.ms.map (·.1)).map D.str ++ (W.ts.map (·.1)).map D.str ++ [D.str "ninesigns"] = (W.ms.map (·.1) ++ W.ts.map (·.1) ++ [("ninesigns" : Str)]).map D.str := by simp
 rw [ea] at a2
 generalize hws : (W.ms.map (·.1) ++ W.ts.map (·.1) ++ [("ninesigns" : Str)]) = ws at a2
 have w0 : ws ≠ [] := by rw [← hws]; simp
 have wl : ws.length ≤ 100 := by rw [← hws]; simp only [List.length_append, List.length_map, List.length_cons, List.length_nil]; omega
 have wk : ∀ w ∈ ws, okSD (.str w) = true := by
  rw [← hws]
  intro w hw
  rcases List.mem_append.mp hw with h | h
  ·rcases List.mem_append.mp h with h | h
   ·obtain ⟨p, hp, rfl⟩ := List.mem_map.mp h; exact aH (hW.mw p hp)
   ·obtain ⟨p, hp, rfl⟩ := List.mem_map.mp h; exact aH (hW.tw p hp)
  ·rw [List.mem_singleton.mp h]; exact ZG
 obtain ⟨xs, ex⟩ : ∃ xs : List Int, slD (.lst (ns.map .int)) (some 8) (some 40) = some (.lst (xs.map .int)) := by
  refine ⟨cutD ns (some 8) (some 40), ?_⟩
  show some (D.lst (cutD (ns.map D.int) (some 8) (some 40))) = _
  unfold cutD
  rw [List.length_map, List.map_take, List.map_drop]
 have xl : xs.length ≤ 63 := by
  have : slD (.lst (ns.map .int)) (some 8) (some 40) = some (.lst (cutD (ns.map D.int) (some 8) (some 40))) := rfl
  rw [this] at ex
  have e2 := congrArg (fun o : Option D => match o with | some (.lst l) => l.length | _ => 0) ex
  simp only [cutD, List.length_take, List.length_drop, List.length_map] at e2
  omega
 have a3 := QK (i := [D.int 0, .int 1]) (j := xs.map .int) (by simp only [List.length_cons, List.length_nil, List.length_map]; omega)
 obtain ⟨ys, hys⟩ : ∃ ys : List Int, ys = 0 :: 1 :: xs := ⟨_, rfl⟩
 have e3 : [D.int 0, .int 1] ++ xs.map .int = ys.map .int := by rw [hys]; rfl
 rw [e3] at a3
 obtain ⟨ρ', ef, y6, y7, y8, y9, rfl⟩ := FQ (b := tgB (Dh 6) Ia) (ds := ys.map D.int) (ρ := [.fz (.lst (ns.map .int)), .fz (.int (W.n : Int)), .fz (.dk (eM W.ms)), .fz (.dk (eT W.ts)), .fz (wob W), .fz (.lst (ws.map .str)), .un, .un, .un, .un])
  (P := fun _ ρ => ∃ y6 y7 y8 y9 : Slot, ρ = [.fz (.lst (ns.map .int)), .fz (.int (W.n : Int)), .fz (.dk (eM W.ms)), .fz (.dk (eT W.ts)), .fz (wob W), .fz (.lst (ws.map .str)), y6, y7, y8, y9]) 0 ⟨.un, .un, .un, .un, rfl⟩ (by
   rintro k d ρ hd ⟨y6, y7, y8, y9, rfl⟩
   obtain ⟨i, _, rfl⟩ := List.mem_map.mp (List.mem_of_getElem? hd)
   obtain ⟨z7, z8, z9, st⟩ := ask W (.lst (ns.map .int)) ws w0 wl wk i y7 y8 y9
   refine ⟨_, ?_, .fz (.int i), z7, z8, z9, rfl⟩
   rw [e_tg, GQ, Hs]
   exact st)
 have sq : ∀ l : List D, Jh (some (.lst l)) = some l := fun l => of_eq_true (eq_self _)
 have mk1 := mk (Ac (vF 1) (Ac (vF 2) (Ac (vF 3) nilA))) [.fz (.lst (ns.map .int)), .fz (.int (W.n : Int)), .fz (.dk (eM W.ms)), .fz (.dk (eT W.ts)), .un, .un, .un, .un, .un, .un] rfl
 have lm := Sq (eM W.ms)
 have lt := Sq (eT W.ts)
 rw [Ss] at lm
 rw [Su] at lt
 have as3 : asgF (Al Ca (Ac (vF 0) (Ac (kF (.int 0)) nilA))) (tupG 3 (Bv 1 (Bv 2 (Bv 3 nilG)))) [.fz (.lst (ns.map .int)), .un, .un, .un, .un, .un, .un, .un, .un, .un] = some (.nx [.fz (.lst (ns.map .int)), .fz (.int (W.n : Int)), .fz (.dk (eM W.ms)), .fz (.dk (eT W.ts)), .un, .un, .un, .un, .un, .un]) := by
  have e0 : Al Ca (Ac (vF 0) (Ac (kF (.int 0)) nilA)) [.fz (.lst (ns.map .int)), .un, .un, .un, .un, .un, .un, .un, .un, .un] = some (.lst [.int (W.n : Int), .dk (eM W.ms), .dk (eT W.ts)]) := ew
  unfold asgF
  rw [e0]
  rfl
 simp only [cK, Pa, W8, as3, mk1, lm, lt, a1, a2, Ge, ex, a3, sq, ef, GC, m1, m2, s1, s2, q1, q2]
end K04
end
open PySem PySem.W PyProof.Rows
theorem L2.both_map {α β γ : Type} {o : Option α} {f : α → β} {g : α → γ} {a : β} {b : γ} (h1 : o.map f = some a) (h2 : o.map g = some b) : o.map (fun s => (f s, g s)) = some (a, b) := by
 cases o with
 | none => cases h1
 | some x => cases h1; cases h2; rfl
theorem L2.head_at {r : OpenRow} {q : Program} {loose : List Str} {d : DefRec} {kwd : List (Str × Expr)} {N : Nat} (H : Hook)
  (l1 : ∀ w : World, (openEnds treeTable r.prog w N).map (fun s => openSeen q loose (importedModules r.prog.main.body) (fun s => xlAt q [] s && recOk r.records s) true s) = some (openGood q loose))
  (l2 : ∀ w : World, (openEnds treeTable r.prog w N).map H.obs = some (H.val w))
  (e1 : defOf q r.name = some (d, kwd)) (e2 : r.prog.theDef r.name = some (d.params, d.body, d.scope)) (e3 : kwWritten? d.params.kwonlyargs d.params.kw_defaults = some kwd)
  (e4 : (!r.writes || r.records.isEmpty) = true) (e5 : r.wellSaid = true) (e6 : (chainsOk q && opensWell r.prog && (frees r.toRowW && r.within.isEmpty)) = true) (e7 : r.prog.bare) (e8 : r.toRowW.promised)
  (e9 : WalkO q loose (XL q []) H.says r.toRowW d kwd fun f vs => PySem.call f vs) : r.Holds :=
 holds_open (XP := XL q []) (fun w => L2.both_map (l1 w) (l2 w)) H.of H.keeps (fun s e => xl_of s (Bool.and_eq_true_iff.mp e).1) XL.keeps e1 e2 e3 (fun _ e => recFacts_of (Bool.and_eq_true_iff.mp e).2) e4 e5 e6 e7 e8 e9
set_option maxRecDepth 100000 in
set_option maxHeartbeats 0 in
theorem PySem.Challenge.cw_twinrounds_k04_no_thing_asked_holds : PySem.Challenge.rw_twinrounds_k04_no_thing_asked.Holds := by
 w_on; o_law; refine L2.head_at (q := K04.vw) (loose := []) (N := 6000) K04.hook K04.look1 K04.look2 (by rfl) (by rfl) (by rfl) (by rfl) (by assumption) (by decide +kernel) ⟨rfl, rfl, rfl, rfl, rfl, by decide +kernel⟩ ?_ ?_
 ·w_witness2
 unfold K04.hook
 k_fill
 refine PV.Wf (l := PySem.Challenge.rw_twinrounds_k04_no_thing_asked) (n := 63) (k := 6) (x := "_law_script") (CX := fun _ => L2.CX0) (sp := fun w => K04.aB _) rfl (by decide) rfl ⟨rfl, by decide, by decide⟩ (fun w h Y => PySem.W.kIn_of Y) ?F (fun _ _ a ns hl hbt _ hS => ⟨a, ns, rfl, hS, hl, hbt, fun _ => rfl⟩) fun _ _ _ _ _ z => z
 case F =>
  intro w mg fa h KX G hmg
  have TT : ∃ C_World : Addr, ∃ l : List (Str × Addr), ∃ T : K04.Tx (K04.gx (L2.KOf KX) C_World l) mg, ∀ (s : Shared) (u : Value), BindsTo s T.x_law.fd ⟨[u], []⟩ [("_law_script", u)] := by
   dsimp only [L2.KOf]
   refine' ⟨_, [("NoWord", _), ("NoThing", _)], { C_World := _, gc_World := PV.cJ, cl_World := (PV.cls KX ?pg_World ?hd_World ?po_World ?sa_World :), mC_World := PySem.W.mg_of KX G ?aC_World, x__law_cell := (PV.dx KX G ?a0 ?l0 ?c0 ?k0 ?b0 :), x__law_words := (PV.dx KX G ?a1 ?l1 ?c1 ?k1 ?b1 :), x__law_bits := (PV.dx KX G ?a2 ?l2 ?c2 ?k2 ?b2 :), x__law_world := (PV.dx KX G ?a3 ?l3 ?c3 ?k3 ?b3 :), x_refuse_above := (PV.dx KX G ?a4 ?l4 ?c4 ?k4 ?b4 :), x_refuse_no_thing := (PV.dx KX G ?a5 ?l5 ?c5 ?k5 ?b5 :), x_kept_things := (PV.dx KX G ?a6 ?l6 ?c6 ?k6 ?b6 :), x_kept_pairs := (PV.dx KX G ?a7 ?l7 ?c7 ?k7 ?b7 :), x_is_word := (PV.dx KX G ?a8 ?l8 ?c8 ?k8 ?b8 :), x_World___init__ := (PV.ix KX ?mk_World ?kc_World ?a9 ?i9 ?l9 ?c9 ?k9 ?b9 :), x__law_thing := (PV.dx KX G ?a10 ?l10 ?c10 ?k10 ?b10 :), x__law_kind := (PV.dx KX G ?a11 ?l11 ?c11 ?k11 ?b11 :), x__law_due := (PV.dx KX G ?a12 ?l12 ?c12 ?k12 ?b12 :), x_World_mark_words := (PV.mx KX ?a13 ?i13 ?l13 ?c13 ?k13 ?b13 :), x_World_tie_words := (PV.mx KX ?a14 ?i14 ?l14 ?c14 ?k14 ?b14 :), x_World_has := (PV.mx KX ?a15 ?i15 ?l15 ?c15 ?k15 ?b15 :), x_World_leads := (PV.mx KX ?a16 ?i16 ?l16 ?c16 ?k16 ?b16 :), x__law_asked := (PV.dx KX G ?a17 ?l17 ?c17 ?k17 ?b17 :), x_law := (PV.dx KX G ?a18 ?l18 ?c18 ?k18 ?b18 :), fl_size := (PV.Qc KX (PV.cls KX ?pg_World ?hd_World ?po_World ?sa_World) ?n_World_size :), fl_marked := (PV.Qc KX (PV.cls KX ?pg_World ?hd_World ?po_World ?sa_World) ?n_World_marked :), fl_tied := (PV.Qc KX (PV.cls KX ?pg_World ?hd_World ?po_World ?sa_World) ?n_World_tied :), z_ValueError := PySem.W.mg_none_of KX G ?z_ValueError, z_all := PySem.W.mg_none_of KX G ?z_all, z_bool := PySem.W.mg_none_of KX G ?z_bool, z_int := PySem.W.mg_none_of KX G ?z_int, z_isinstance := PySem.W.mg_none_of KX G ?z_isinstance, z_len := PySem.W.mg_none_of KX G ?z_len, z_list := PySem.W.mg_none_of KX G ?z_list, z_range := PySem.W.mg_none_of KX G ?z_range, z_sorted := PySem.W.mg_none_of KX G ?z_sorted, s_MOST_LETTERS := (PV.sx (f := (.int 8)) KX G ?a_MOST_LETTERS :), s_LETTERS := (PV.sx (f := (.str "abcdefghijklmnopqrstuvwxyz")) KX G ?a_LETTERS :), s_MOST_THINGS := (PV.sx (f := (.int 5)) KX G ?a_MOST_THINGS :), s_MOST_WORDS := (PV.sx (f := (.int 3)) KX G ?a_MOST_WORDS :), c_KEPT_TEXTS := (PV.kx2 (xs := ["not", "and", "or", "some", "all"]) KX G ?a_KEPT_TEXTS ?l_KEPT_TEXTS ?h_KEPT_TEXTS ?v_KEPT_TEXTS :), r := (PV.rx KX G ?rA ?rE ?r1 ?r2 ?r3 :), xt := (PV.cL KX ?xt :), e_NoWord := (PV.xx KX G ?eA_NoWord ?eg_NoWord ⟨?x1_NoWord, ?x2_NoWord, ?x3_NoWord, ?x4_NoWord, ?x5_NoWord⟩ ?hi_NoWord ?ii_NoWord ?kp_NoWord ?na_NoWord ?el_NoWord ?ec_NoWord ?ek_NoWord ?eb_NoWord :), e_NoThing := (PV.xx KX G ?eA_NoThing ?eg_NoThing ⟨?x1_NoThing, ?x2_NoThing, ?x3_NoThing, ?x4_NoThing, ?x5_NoThing⟩ ?hi_NoThing ?ii_NoThing ?kp_NoThing ?na_NoThing ?el_NoThing ?ec_NoThing ?ek_NoThing ?eb_NoThing :), a_NoName := (PV.ax KX G ?sA_NoName :), a_NoPointing := (PV.ax KX G ?sA_NoPointing :), a_NoSaying := (PV.ax KX G ?sA_NoSaying :), a_TooGreat := (PV.ax KX G ?sA_TooGreat :), a_Unlike := (PV.ax KX G ?sA_Unlike :), k_0 := (PV.IW KX ?k0a ?k0b ?k0c ?k0d ?k0e :), k_1 := (PV.IW KX ?k1a ?k1b ?k1c ?k1d ?k1e :), k_2 := (PV.IW KX ?k2a ?k2b ?k2c ?k2d ?k2e :), k_3 := (PV.IW KX ?k3a ?k3b ?k3c ?k3d ?k3e :), k_4 := (PV.IW KX ?k4a ?k4b ?k4c ?k4d ?k4e :), nf_word := (PV.W6 KX ?nf_word :), nf_thing := (PV.W6 KX ?nf_thing :) }, ?bt⟩
   case aC_World | pg_World | hd_World | po_World | sa_World | mk_World | kc_World | n_World_size | n_World_marked | n_World_tied | a0 | l0 | c0 | k0 | a1 | l1 | c1 | k1 | a2 | l2 | c2 | k2 | a3 | l3 | c3 | k3 | a4 | l4 | c4 | k4 | a5 | l5 | c5 | k5 | a6 | l6 | c6 | k6 | a7 | l7 | c7 | k7 | a8 | l8 | c8 | k8 | a9 | i9 | l9 | c9 | k9 | a10 | l10 | c10 | k10 | a11 | l11 | c11 | k11 | a12 | l12 | c12 | k12 | a13 | i13 | l13 | c13 | k13 | a14 | i14 | l14 | c14 | k14 | a15 | i15 | l15 | c15 | k15 | a16 | i16 | l16 | c16 | k16 | a17 | l17 | c17 | k17 | a18 | l18 | c18 | k18 | z_ValueError | z_all | z_bool | z_int | z_isinstance | z_len | z_list | z_range | z_sorted | a_MOST_LETTERS | a_LETTERS | a_MOST_THINGS | a_MOST_WORDS | a_KEPT_TEXTS | l_KEPT_TEXTS | rA | eA_NoWord | hi_NoWord | ii_NoWord | kp_NoWord | el_NoWord | ec_NoWord | ek_NoWord | eA_NoThing | hi_NoThing | ii_NoThing | kp_NoThing | el_NoThing | ec_NoThing | ek_NoThing | sA_NoName | sA_NoPointing | sA_NoSaying | sA_TooGreat | sA_Unlike => k_is
   case b8 | b10 | b11 | b13 | b14 | b18 => exact fun _ _ _ _ _ _ us hl => match us, hl with | [_], _ => rfl
   case b0 | b1 | b2 | b3 | b4 | b5 | b6 | b7 | eb_NoWord | eb_NoThing => exact fun _ _ _ _ _ _ us hl => match us, hl with | [_, _], _ => rfl
   case b15 | b17 => exact fun _ _ _ _ _ _ us hl => match us, hl with | [_, _, _], _ => rfl
   case b9 | b12 | b16 => exact fun _ _ _ _ _ _ us hl => match us, hl with | [_, _, _, _], _ => rfl
   case h_KEPT_TEXTS => decide
   case v_KEPT_TEXTS => exact .cons ⟨_, rfl⟩ (.cons ⟨_, rfl⟩ (.cons ⟨_, rfl⟩ (.cons ⟨_, rfl⟩ (.cons ⟨_, rfl⟩ (.nil)))))
   case eg_NoWord => rfl
   case eg_NoThing => rfl
   case rE | r1 | r2 | r3 | x1_NoWord | x2_NoWord | x3_NoWord | x4_NoWord | x5_NoWord | na_NoWord | x1_NoThing | x2_NoThing | x3_NoThing | x4_NoThing | x5_NoThing | na_NoThing | k0a | k0b | k0c | k0d | k1a | k1b | k1c | k1d | k2a | k2b | k2c | k2d | k3a | k3b | k3c | k3d | k4a | k4b | k4c | k4d => kernel_rfl
   case xt => exact fun p hp => by (rcases List.mem_cons.mp hp with rfl | hp; (exact ⟨⟨by kernel_rfl, by kernel_rfl, by kernel_rfl, by kernel_rfl, by kernel_rfl⟩, ⟨by kernel_rfl, by kernel_rfl, by kernel_rfl⟩⟩); rcases List.mem_cons.mp hp with rfl | hp; (exact ⟨⟨by kernel_rfl, by kernel_rfl, by kernel_rfl, by kernel_rfl, by kernel_rfl⟩, ⟨by kernel_rfl, by kernel_rfl, by kernel_rfl⟩⟩); cases hp)
   case k0e => exact fun p hp => by (rcases List.mem_cons.mp hp with rfl | hp; (exact by kernel_rfl); rcases List.mem_cons.mp hp with rfl | hp; (exact by kernel_rfl); cases hp)
   case k1e => exact fun p hp => by (rcases List.mem_cons.mp hp with rfl | hp; (exact by kernel_rfl); rcases List.mem_cons.mp hp with rfl | hp; (exact by kernel_rfl); cases hp)
   case k2e => exact fun p hp => by (rcases List.mem_cons.mp hp with rfl | hp; (exact by kernel_rfl); rcases List.mem_cons.mp hp with rfl | hp; (exact by kernel_rfl); cases hp)
   case k3e => exact fun p hp => by (rcases List.mem_cons.mp hp with rfl | hp; (exact by kernel_rfl); rcases List.mem_cons.mp hp with rfl | hp; (exact by kernel_rfl); cases hp)
   case k4e => exact fun p hp => by (rcases List.mem_cons.mp hp with rfl | hp; (exact by kernel_rfl); rcases List.mem_cons.mp hp with rfl | hp; (exact by kernel_rfl); cases hp)
   case nf_word => exact fun p hp => by (rcases List.mem_cons.mp hp with rfl | hp; (exact by kernel_rfl); rcases List.mem_cons.mp hp with rfl | hp; (exact by kernel_rfl); cases hp)
   case nf_thing => exact fun p hp => by (rcases List.mem_cons.mp hp with rfl | hp; (exact by kernel_rfl); rcases List.mem_cons.mp hp with rfl | hp; (exact by kernel_rfl); cases hp)
   case bt => exact fun s u => .of_eq rfl
  obtain ⟨C_World, l, T, e1⟩ := TT
  have e0 : fa = T.x_law.f := by
   have q := hmg.symm.trans T.x_law.m
   cases q
   rfl
  subst e0
  exact ⟨T.x_law.fd, e1, fun base kb nb => (K04.cP (w := w) (base := base) T).imp (K04.cQ K04.Xj)⟩
