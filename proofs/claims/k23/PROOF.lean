import PyProof.Rows.All
import Wide.All
import OpenK.AllK
import Wide.FinOn
import Lean
import PyProof.EqAt
import PyProof.EqKinds
import PyProof.TupleCall
import PyProof.StationsW
import PyProof.DictWalks
import PyProof.DictItemsLoops
import KE.KPairComp
import KE.KDictList
import PyProof.StrWalks
import PyProof.ConsumeWalk
import PyProof.DictUpdate
import PyProof.ExcClass2
import PyProof.ExcClass3
import PyProof.ExcArgsOwn
import PyProof.ExcAttrAll.ValueError
import PyProof.InstStoreFacts
import PyProof.StrLawsRepr
import PyProof.ReprStr
import PyProof.NsDelKeeps
import PyProof.RulesAs
import KE.KIsAll
import PySem.Challenge.RW_twinrounds_k23_whole_spoiled
set_option Elab.async false
set_option linter.all false
set_option maxRecDepth 100000
set_option maxHeartbeats 4000000
section
open PySem PySem.W PyProof.Rows
def L2.viewAt (p : Program) (ks : List Nat) : Program := { p with main := { p.main with body := ks.filterMap fun i => p.main.body[i]? } }
def K23.vw : Program := L2.viewAt PySem.Challenge.pw_twinrounds_k23_whole_spoiled [1, 2, 4, 5, 6, 7, 8, 10, 11, 12, 13, 14, 15, 16, 17, 18, 20, 21, 22, 23, 24, 25, 26, 27, 28, 29, 30, 31, 32, 33, 34, 35]
set_option maxRecDepth 100000 in
set_option maxHeartbeats 0 in
theorem K23.look1 : ∀ w : World, (openEnds treeTable (PySem.Challenge.rw_twinrounds_k23_whole_spoiled.row).prog w 6000).map (fun s => openSeen K23.vw [] (importedModules (PySem.Challenge.rw_twinrounds_k23_whole_spoiled.row).prog.main.body) (fun s => xlAt K23.vw [] s && recOk (PySem.Challenge.rw_twinrounds_k23_whole_spoiled.row).records s) true s) = some (openGood K23.vw []) := by
 intro w; kernel_rfl
section
local macro_rules | `(tactic| o_head $H) => `(tactic| exact ‹∀ P : Prop, P› _)
set_option maxRecDepth 100000 in
set_option maxHeartbeats 0 in
theorem K23.side (hole : ∀ P : Prop, P) : (PySem.Challenge.rw_twinrounds_k23_whole_spoiled.row).Holds := by
 k_head
end
def K23.as : List Addr := [2, 3, 15, 22, 23, 24, 25, 28, 35, 37, 38, 40, 41, 42, 43, 44, 47, 48, 51, 52, 53, 61, 63, 64, 66, 67, 68, 70, 71, 73, 74, 75, 77, 78, 80, 81, 82, 84, 85, 87, 88, 89, 91, 92, 94, 95, 96, 98, 99, 101, 102, 103, 104, 105, 106, 107, 110, 112, 113, 115, 116, 117, 119, 120, 122, 123, 124, 126, 127, 129, 130, 131, 133, 134, 136, 137, 138, 140, 141, 143, 144, 145, 147, 148, 150, 151, 152, 154, 155, 157, 158, 159, 162, 163, 164, 167, 168, 169, 171, 172, 174, 175, 176, 178, 179, 181, 182, 183, 186, 187, 188, 190, 191, 193, 194, 195, 197, 198, 200, 201, 202, 204, 205, 207, 208, 209, 211, 212, 214, 215, 216, 218, 219, 221, 222, 223, 225, 226, 228, 229, 230, 232, 233, 235, 236, 237, 239, 240, 242, 243, 244, 246, 247, 249, 250, 251, 253, 254, 256, 257]
set_option maxRecDepth 100000 in
set_option maxHeartbeats 0 in
theorem K23.as_ok : ∀ P, K23.as = (K23.side.heap_1 P).map (·.1) := fun _ => by kernel_rfl
noncomputable def K23.hook : Hook := kHook K23.side.heap_1 K23.as K23.as_ok
set_option maxRecDepth 100000 in
set_option maxHeartbeats 0 in
theorem K23.look2 : ∀ w : World, (openEnds treeTable (PySem.Challenge.rw_twinrounds_k23_whole_spoiled.row).prog w 6000).map K23.hook.obs = some (K23.hook.val w) := by
 intro w; kernel_rfl
end
namespace L2
open PySem PySem.Spec PyProof.Rows
abbrev Key := Sum Int Str
def Px : Key → Value → Bool
 | .inl k, v => Value.isInt k v
 | .inr x, v => Value.isStrOf x v
def keyH (w : World) : Key → Int
 | .inl k => hashInt k
 | .inr x => hashStr w x
theorem Dj : ∀ {k : Key} {v : Value}, Px k v = true → (∃ i t, k = Sum.inl i ∧ v = Value.int i t) ∨ (∃ x t, k = Sum.inr x ∧ v = Value.str x t)
 | .inl i, v, h => by
  obtain ⟨t, e⟩ := Value.isInt_shape (k := i) (v := v) h
  exact .inl ⟨i, t, rfl, e⟩
 | .inr x, v, h => by
  obtain ⟨t, e⟩ := Value.isStrOf_shape (x := x) (v := v) h
  exact .inr ⟨x, t, rfl, e⟩
theorem V6 (i : Int) (t : Tok) : Px (.inl i) (.int i t) = true := by simp [Px, Value.isInt]
theorem V7 (x : Str) (t : Tok) : Px (.inr x) (.str x t) = true := by simp [Px, Value.isStrOf]
theorem bj (a b : Int) : decide ((Sum.inl a : Key) = Sum.inl b) = (a == b) := by
 by_cases e : a = b
 ·subst e; simp
 ·have h : ¬ (Sum.inl a : Key) = Sum.inl b := fun q => e (Sum.inl.inj q)
  rw [decide_eq_false h]
  exact (beq_eq_false_iff_ne.mpr e).symm
theorem bu (a b : Str) : decide ((Sum.inr a : Key) = Sum.inr b) = decide (a = b) := by
 by_cases e : a = b
 ·subst e; simp
 ·have h : ¬ (Sum.inr a : Key) = Sum.inr b := fun q => e (Sum.inr.inj q)
  rw [decide_eq_false h, decide_eq_false e]
theorem bw (a : Int) (b : Str) : decide ((Sum.inl a : Key) = Sum.inr b) = false := decide_eq_false (fun q => nomatch q)
theorem bx (a : Str) (b : Int) : decide ((Sum.inr a : Key) = Sum.inl b) = false := decide_eq_false (fun q => nomatch q)
def Ej (prog : Program) (w : World) : PySem.KeyKind prog w Key where
 is := Px
 hash := keyH w
 inj := fun v a b ha hb => by
  rcases Dj ha with ⟨i, t, rfl, rfl⟩ | ⟨x, t, rfl, rfl⟩
  ·rcases Dj hb with ⟨j, u, rfl, e⟩ | ⟨y, u, rfl, e⟩
   ·injection e with e1 _; rw [e1]
   ·exact nomatch e
  ·rcases Dj hb with ⟨j, u, rfl, e⟩ | ⟨y, u, rfl, e⟩
   ·exact nomatch e
   ·injection e with e1 _; rw [e1]
 byValue := fun k v h => by
  rcases Dj h with ⟨i, t, rfl, rfl⟩ | ⟨x, t, rfl, rfl⟩ <;> rfl
 pyHash := fun hv h => by
  rcases Dj hv with ⟨i, t, rfl, rfl⟩ | ⟨x, t, rfl, rfl⟩
  ·exact wpAny_pyHash_int h
  ·exact wpAny_pyHash_str h
 eqBool := fun hu hv h => by
  rcases Dj hu with ⟨i, t, rfl, rfl⟩ | ⟨x, t, rfl, rfl⟩
  ·rcases Dj hv with ⟨j, u, rfl, rfl⟩ | ⟨y, u, rfl, rfl⟩
   ·rw [bj] at h; exact wpAny_eqBool_int h
   ·rw [bw] at h; exact SeqAt.EqAt.int_str i t y u _ _ _ _ h
  ·rcases Dj hv with ⟨j, u, rfl, rfl⟩ | ⟨y, u, rfl, rfl⟩
   ·rw [bx] at h; exact SeqAt.EqAt.str_int x t j u _ _ _ _ h
   ·rw [bu] at h; exact wpAny_eqBool_str h
 «strs» := fun k x t v h => by
  rcases Dj h with ⟨i, u, rfl, e⟩ | ⟨y, u, rfl, e⟩
  ·exact nomatch e
  ·injection e with e1 _
   subst e1
   cases v <;> rfl
theorem Sw (prog : Program) (w : World) (i : Int) (t : Tok) : (Ej prog w).is (.inl i) (.int i t) = true := V6 i t
theorem Sy (prog : Program) (w : World) (x : Str) (t : Tok) : (Ej prog w).is (.inr x) (.str x t) = true := V7 x t
end L2
namespace L2
open PySem PySem.Spec PyProof.Rows
inductive V where
 | non | bl (b : Bool) | int (i : Int) | str (x : Str) | byt (b : Array UInt8) | flt (b : UInt64) | ref (a : Addr) | ty (n : String)
 deriving DecidableEq
def RelV : V → Value → Prop
 | .non, u => u = Value.none
 | .bl b, u => u = Value.bool b
 | .int i, u => ∃ t, u = Value.int i t
 | .str x, u => ∃ t, u = Value.str x t
 | .byt b, u => ∃ t, u = Value.bytes b t
 | .flt b, u => ∃ t, u = Value.float b t
 | .ref a, u => u = Value.ref a
 | .ty n, u => u = Value.type n
abbrev Vals : List V → List Value → Prop := Paired RelV
theorem Vals.length {xs : List V} {us : List Value} (r : Vals xs us) : xs.length = us.length := Paired.length r
theorem Vals.get : ∀ {xs : List V} {us : List Value} {i : Nat} {x : V}, Vals xs us → xs[i]? = some x → ∃ u, us[i]? = some u ∧ RelV x u
 | _, _, _, _, .nil, e => by simp at e
 | _, _, 0, _, .cons r _, e => by simp at e; subst e; exact ⟨_, rfl, r⟩
 | _, _, i + 1, x, .cons _ t, e => by
  obtain ⟨u, h1, h2⟩ := Vals.get (i := i) (x := x) t (by simpa using e)
  exact ⟨u, by simpa using h1, h2⟩
theorem Vals.set {x : V} {u : Value} (r : RelV x u) : ∀ {xs : List V} {us : List Value} (i : Nat), Vals xs us → Vals (xs.set i x) (us.set i u)
 | _, _, _, .nil => .nil
 | _, _, 0, .cons _ t => .cons r t
 | _, _, i + 1, .cons q t => .cons q (Vals.set r i t)
theorem Vals.append : ∀ {xs ys : List V} {us ws : List Value}, Vals xs us → Vals ys ws → Vals (xs ++ ys) (us ++ ws)
 | _, _, _, _, .nil, s => s
 | _, _, _, _, .cons r t, s => .cons r (Vals.append t s)
theorem Vals.take : ∀ {xs : List V} {us : List Value} (n : Nat), Vals xs us → Vals (xs.take n) (us.take n)
 | _, _, 0, _ => .nil
 | _, _, _ + 1, .nil => .nil
 | _, _, n + 1, .cons r t => .cons r (Vals.take n t)
theorem Vals.drop : ∀ {xs : List V} {us : List Value} (n : Nat), Vals xs us → Vals (xs.drop n) (us.drop n)
 | _, _, 0, r => r
 | _, _, _ + 1, .nil => .nil
 | _, _, n + 1, .cons _ t => Vals.drop n t
theorem Vals.none_of : ∀ {xs : List V} {us : List Value} {i : Nat}, Vals xs us → xs[i]? = none → us[i]? = none := fun {xs us i} r e => by
 have h1 := r.length
 have h2 : xs.length ≤ i := List.getElem?_eq_none_iff.mp e
 exact List.getElem?_eq_none_iff.mpr (by omega)
def RelO : Option V → Option Value → Prop
 | some v, some u => RelV v u
 | none, none => True
 | _, _ => False
def KV {κ : Type} : List (κ × V) → List (κ × Value) → Prop := Paired fun (p : κ × V) (q : κ × Value) => p.1 = q.1 ∧ RelV p.2 q.2
def kV : Key → V
 | .inl i => .int i
 | .inr x => .str x
inductive HO where
 | lst (xs : List V)
 | tup (xs : List V)
 | dK (kvs : List (Key × V)) | dT (kvs : List (List Key × V))
 | set (S : Int → Bool) (n : Nat)
 | ins (C dx : Addr) (fs : List (Str × V))
 | own (x : Addr)
 | xd (fs : List (Str × V))
 | met (f x : Addr)
 | rng (lo hi : Int)
 | frz (o : Obj) (u : HO)
 | tbl (ps : Array Value)
 | ext (φ : Heap → Prop)
abbrev Hp := Addr → Option HO
def upd (H : Hp) (a : Addr) (o : HO) : Hp := fun b => if b = a then some o else H b
theorem Cj {H : Hp} {a : Addr} {o : HO} : upd H a o a = some o := by unfold upd; rw [if_pos rfl]
theorem Bg {H : Hp} {a b : Addr} {o : HO} (h : b ≠ a) : upd H a o b = H b := by unfold upd; rw [if_neg h]
theorem fU {H : Hp} {a b : Addr} {o u : HO} (h : H a = some o) (h' : H b = some u) (d : o ≠ u) : a ≠ b := by
 intro e; subst e; rw [h] at h'; exact d (Option.some.inj h')
theorem CT {H : Hp} {a b : Addr} {o : HO} (h : H a = some o) (h' : H b = none) : a ≠ b := by
 intro e; subst e; rw [h] at h'; cases h'
section
variable (P : Program) (w : World)
def Ds (H : Hp) (h : Heap) (a : Addr) : HO → Prop
  | .lst xs => xs.length ≤ sizeLine ∧ ∃ (its : List Value) (n : Nat), Vals xs its ∧ h.get? a = some { cls := .type "list", data := .seq its.toArray n }
  | .tup xs => xs.length ≤ sizeLine ∧ ∃ its : List Value, Vals xs its ∧ IsTup h a its.toArray
  | .dK kvs => kvs.length ≤ sizeLine ∧ (a == sysModules) = false ∧ ∃ vs, KV kvs vs ∧ h.DictOf (Ej P w) a vs
  | .dT kvs => kvs.length ≤ sizeLine ∧ (a == sysModules) = false ∧ ∃ xs : List (List Key × Addr × Value),
      Paired (fun (p : List Key × V) (q : List Key × Addr × Value) => p.1 = q.1 ∧ H q.2.1 = some (.tup (p.1.map kV)) ∧ RelV p.2 q.2.2) kvs xs ∧
      ∃ o es ep, h.get? a = some o ∧ o.ExactDict ∧ o.data = .dict es ep ∧ es.toList = xs.map (entryOfKey (tupleKind (Ej P w))) ∧ (xs.map (·.1)).Nodup
  | .set S n => h.SetOf (intKind P w) a S n
  | .ins C dx fs => H dx = some (.own a) ∧ fs.length ≤ 1000 ∧ dx ≠ a ∧ h.get? a = some (PySem.W.instObj C dx) ∧
      ∃ mA, h.Ns1 dx mA ∧ (∀ f, RelO (fs.lookup f) (mA f)) ∧ PySem.Within mA (fs.map (·.1))
  | .own _ => ∃ o, h.get? a = some o
  | .xd fs => ∃ mA, h.Ns1 a mA ∧ ∀ f, RelO (fs.lookup f) (mA f)
  | .rng lo hi => ∃ t u v, h.get? a = some { cls := .type "range", data := .fields #[.int lo t, .int hi u, .int 1 v] }
  | .frz o u => h.get? a = some o ∧ Ds H h a u
  | .tbl ps => h.get? a = some { cls := .none, data := .fields ps }
  | .met f x => h.get? a = some (PySem.W.methodObj (.ref f) (.ref x))
  | .ext φ => φ h ∧ (∃ o, h.get? a = some o) ∧ ∀ h1 h2 : Heap, φ h1 → (∀ o, h1.get? a = some o → h2.get? a = some o) → φ h2
def HOk (H : Hp) (h : Heap) : Prop := ∀ a o, H a = some o → Ds P w H h a o
end
section
variable {P : Program} {w : World} {H H' : Hp} {h h' : Heap} {a : Addr} {o : HO}
theorem Ds.lt (x : Ds P w H h a o) : a < h.objs.size := by
 cases o with
 | lst xs => obtain ⟨_, _, _, _, e⟩ := x; exact Heap.lt_size e
 | tup xs => obtain ⟨_, _, _, p⟩ := x; exact p.lt
 | dK kvs => obtain ⟨_, _, _, _, o, _, _, e, _⟩ := x; exact Heap.lt_size e
 | dT kvs => obtain ⟨_, _, _, _, o, _, _, e, _⟩ := x; exact Heap.lt_size e
 | set S n => obtain ⟨o, _, _, _, e, _⟩ := x; exact Heap.lt_size e
 | ins C dx fs => obtain ⟨_, _, _, e, _⟩ := x; exact Heap.lt_size e
 | own y => obtain ⟨_, e⟩ := x; exact Heap.lt_size e
 | xd fs => obtain ⟨_, ⟨_, _, _, e, _⟩, _⟩ := x; exact Heap.lt_size e
 | rng lo hi => obtain ⟨_, _, _, e⟩ := x; exact Heap.lt_size e
 | frz ob u => obtain ⟨e, _⟩ := x; exact Heap.lt_size e
 | tbl ps => exact Heap.lt_size (show h.get? a = some _ from x)
 | met f y => exact Heap.lt_size (show h.get? a = some _ from x)
 | ext φ => obtain ⟨_, ⟨_, e⟩, _⟩ := x; exact Heap.lt_size e
theorem Paired.mapP {α β : Type} {F G : α → β → Prop} : ∀ {l₁ : List α} {l₂ : List β}, Paired F l₁ l₂ → (∀ a b, F a b → G a b) → Paired G l₁ l₂
 | _, _, .nil, _ => .nil
 | _, _, .cons r t, f => .cons (f _ _ r) (Paired.mapP t f)
theorem Ds.stay (x : Ds P w H h a o) (k : ∀ b u, (b = a ∨ H b = some (.own a)) → h.get? b = some u → h'.get? b = some u)
  (ho : ∀ b, H b = some (.own a) → H' b = some (.own a)) (ht : ∀ b xs, H b = some (.tup xs) → H' b = some (.tup xs)) : Ds P w H' h' a o := by
 induction o with
 | lst xs => obtain ⟨z, its, n, r, e⟩ := x; exact ⟨z, its, n, r, k _ _ (.inl rfl) e⟩
 | tup xs => obtain ⟨z, its, r, ob, e, c⟩ := x; exact ⟨z, its, r, ob, k _ _ (.inl rfl) e, c⟩
 | dK kvs => obtain ⟨z, y, vs, r, ob, es, ep, e, c⟩ := x; exact ⟨z, y, vs, r, ob, es, ep, k _ _ (.inl rfl) e, c⟩
 | dT kvs =>
  obtain ⟨z, y, xs, r, ob, es, ep, e, c⟩ := x
  exact ⟨z, y, xs, Paired.mapP r fun p q z => ⟨z.1, ht _ _ z.2.1, z.2.2⟩, ob, es, ep, k _ _ (.inl rfl) e, c⟩
 | set S n => obtain ⟨ob, es, ep, t, e, c⟩ := x; exact ⟨ob, es, ep, t, k _ _ (.inl rfl) e, c⟩
 | ins C dx fs =>
  obtain ⟨d, z, ne, e, mA, ⟨od, es, ep, e2, c⟩, r⟩ := x
  exact ⟨ho _ d, z, ne, k _ _ (.inl rfl) e, mA, ⟨od, es, ep, k _ _ (.inr d) e2, c⟩, r⟩
 | own y => obtain ⟨ob, e⟩ := x; exact ⟨ob, k _ _ (.inl rfl) e⟩
 | xd fs => obtain ⟨mA, ⟨od, es, ep, e, c⟩, r⟩ := x; exact ⟨mA, ⟨od, es, ep, k _ _ (.inl rfl) e, c⟩, r⟩
 | rng lo hi => obtain ⟨t, u, v, e⟩ := x; exact ⟨t, u, v, k _ _ (.inl rfl) e⟩
 | frz ob u ih => obtain ⟨e, q⟩ := x; exact ⟨k _ _ (.inl rfl) e, ih q⟩
 | tbl ps =>
  have e : h.get? a = some { cls := .none, data := .fields ps } := x
  show h'.get? a = some { cls := .none, data := .fields ps }
  exact k a _ (.inl rfl) e
 | met f y =>
  have e : h.get? a = some (PySem.W.methodObj (.ref f) (.ref y)) := x
  show h'.get? a = some (PySem.W.methodObj (.ref f) (.ref y))
  exact k a _ (.inl rfl) e
 | ext φ => obtain ⟨p, ⟨o, e⟩, st⟩ := x; exact ⟨st _ _ p fun o q => k _ _ (.inl rfl) q, ⟨o, k _ _ (.inl rfl) e⟩, st⟩
theorem HOk.lt (x : HOk P w H h) (e : H a = some o) : a < h.objs.size := (x a o e).lt
theorem HOk.fresh (x : HOk P w H h) (e : h.objs.size ≤ a) : H a = none := by
 cases q : H a with
 | none => rfl
 | some u => exact absurd (Nat.lt_of_lt_of_le (x.lt q) e) (Nat.lt_irrefl _)
theorem HOk.kept (x : HOk P w H h) (k : ∀ b u, h.get? b = some u → h'.get? b = some u) : HOk P w H h' := fun a o e =>
 (x a o e).stay (fun b u _ q => k b u q) (fun _ q => q) fun _ _ q => q
theorem HOk.laid (x : HOk P w H h) (k : ∀ b u, h.get? b = some u → h'.get? b = some u) (hp : h.objs.size ≤ a) (new : Ds P w (upd H a o) h' a o) : HOk P w (upd H a o) h' := fun b u e => by
 have hn := x.fresh hp
 by_cases hb : b = a
 ·subst hb; rw [Cj] at e; cases e; exact new
 ·rw [Bg hb] at e
  exact (x b u e).stay (fun c v _ q => k c v q) (fun c q => by rw [Bg (CT q hn)]; exact q) fun c xs q => by rw [Bg (CT q hn)]; exact q
end
def Rd (H : Hp) (a : Addr) (u : HO) : Prop := H a = some u ∨ ∃ o, H a = some (.frz o u)
theorem Rd.of {H : Hp} {a : Addr} {u : HO} (h : H a = some u) : Rd H a u := .inl h
theorem Rd.ok {P : Program} {w : World} {H : Hp} {h : Heap} {a : Addr} {u : HO} (r : Rd H a u) (x : HOk P w H h) : Ds P w H h a u := by
 rcases r with r | ⟨o, r⟩
 ·exact x a u r
 ·obtain ⟨_, q⟩ := x a _ r
  exact q
def Mut : Option HO → Prop
 | some (.lst _) => True
 | some (.dK _) => True
 | some (.dT _) => True
 | some (.set _ _) => True
 | some (.ins _ _ _) => True
 | some (.ext _) => True
 | _ => False
section
variable {P : Program} {w : World} {H : Hp} {h h' : Heap} {x e : Addr} {o' : HO}
theorem HOk.write (ok : HOk P w H h) (mu : Mut (H x)) (he : e = x ∨ H e = some (.own x)) (k : ∀ b u, b ≠ e → h.get? b = some u → h'.get? b = some u) (heo : ∃ u, h'.get? e = some u)
  (new : Ds P w (upd H x o') h' x o') : HOk P w (upd H x o') h' := fun b u q => by
 have nown : ∀ c y, H c = some (.own y) → c ≠ x := fun c y r z => by subst z; rw [r] at mu; exact mu
 have ntup : ∀ c xs, H c = some (.tup xs) → c ≠ x := fun c xs r z => by subst z; rw [r] at mu; exact mu
 by_cases hb : b = x
 ·subst hb; rw [Cj] at q; cases q; exact new
 ·rw [Bg hb] at q
  by_cases hbe : b = e
  ·have q' : H b = some (.own x) := by
    rcases he with z | z
    ·exact absurd (hbe.trans z) hb
    ·rw [hbe]; exact z
   rw [q] at q'; cases q'
   obtain ⟨v, hv⟩ := heo
   exact ⟨v, by rw [hbe]; exact hv⟩
  ·refine (ok b u q).stay (fun c v hc r => k c v ?_ r) (fun c r => by rw [Bg (nown c b r)]; exact r) fun c xs r => by rw [Bg (ntup c xs r)]; exact r
   rcases hc with rfl | hc
   ·exact hbe
   ·rintro rfl
    rcases he with z | z
    ·exact nown c b hc z
    ·rw [hc] at z; cases z; exact hb rfl
end
structure Un (fs ex : List Addr) (H H' : Hp) (h h' : Heap) : Prop where
 keep : ∀ b o, h.get? b = some o → H b = none → b ∉ fs → b ∉ ex → h'.get? b = some o
 slot : ∀ b o, h.get? b = some o → H b = none → b ∈ fs → b ∉ ex → ∃ sl, h'.get? b = some { o with slots := sl }
 free : ∀ b o, h.get? b = some o → H b = none → b ∉ ex → H' b = none
 there : ∀ b o, h.get? b = some o → b ∉ ex → ∃ o', h'.get? b = some o'
 tups : ∀ b xs, H b = some (.tup xs) → H' b = some (.tup xs)
 frzs : ∀ b o u, H b = some (.frz o u) → H' b = some (.frz o u)
 tbls : ∀ b ps, H b = some (.tbl ps) → ∃ more, H' b = some (.tbl (ps ++ more))
section
variable {fs fs' ex ex' : List Addr} {H H1 H2 : Hp} {h h1 h2 h' : Heap} {a x e : Addr} {o : HO}
theorem Un.any (u : Un fs ex H H1 h h1) {b : Addr} {ob : Obj} (q : h.get? b = some ob) (n : H b = none) (hx : b ∉ ex) : ∃ sl, h1.get? b = some { ob with slots := sl } := by
 by_cases hb : b ∈ fs
 ·exact u.slot b ob q n hb hx
 ·exact ⟨ob.slots, u.keep b ob q n hb hx⟩
theorem Un.trans (a : Un fs ex H H1 h h1) (b : Un fs ex H1 H2 h1 h2) : Un fs ex H H2 h h2 where
 keep := fun c ob q n hc hx => b.keep c ob (a.keep c ob q n hc hx) (a.free c ob q n hx) hc hx
 slot := fun c ob q n hc hx => by
  obtain ⟨sl, e1⟩ := a.slot c ob q n hc hx
  obtain ⟨sl', e2⟩ := b.slot c _ e1 (a.free c ob q n hx) hc hx
  exact ⟨sl', e2⟩
 free := fun c ob q n hx => by
  obtain ⟨o', e1⟩ := a.there c ob q hx
  exact b.free c o' e1 (a.free c ob q n hx) hx
 there := fun c ob q hx => by
  obtain ⟨o', e1⟩ := a.there c ob q hx
  exact b.there c o' e1 hx
 tups := fun c xs q => b.tups c xs (a.tups c xs q)
 frzs := fun c ob xs q => b.frzs c ob xs (a.frzs c ob xs q)
 tbls := fun c ps q => by
  obtain ⟨m1, e1⟩ := a.tbls c ps q
  obtain ⟨m2, e2⟩ := b.tbls c _ e1
  exact ⟨m1 ++ m2, by rw [e2, Array.append_assoc]⟩
theorem Un.kept (k : ∀ b u, h.get? b = some u → h'.get? b = some u) : Un fs ex H H h h' :=
 ⟨fun b ob q _ _ _ => k b ob q, fun b ob q _ _ _ => ⟨ob.slots, k b ob q⟩, fun _ _ _ n _ => n, fun b ob q _ => ⟨ob, k b ob q⟩, fun _ _ q => q, fun _ _ _ q => q, fun _ ps q => ⟨#[], by rw [q]; simp⟩⟩
theorem Un.refl : Un fs ex H H h h := Un.kept fun _ _ q => q
theorem Un.laid (k : ∀ b u, h.get? b = some u → h'.get? b = some u) (hp : h.objs.size ≤ a) (hn : H a = none) : Un fs ex H (upd H a o) h h' where
 keep := fun b u q _ _ _ => k b u q
 slot := fun b u q _ _ _ => ⟨u.slots, k b u q⟩
 free := fun b u q n _ => by rw [Bg (Nat.ne_of_lt (Nat.lt_of_lt_of_le (Heap.lt_size q) hp))]; exact n
 there := fun b u q _ => ⟨u, k b u q⟩
 tups := fun b xs q => by rw [Bg (CT q hn)]; exact q
 frzs := fun b u xs q => by rw [Bg (CT q hn)]; exact q
 tbls := fun b ps q => ⟨#[], by rw [Bg (CT q hn), q]; simp⟩
theorem Un.write (mu : Mut (H x)) (he : e = x ∨ H e = some (.own x)) (k : ∀ b u, b ≠ e → h.get? b = some u → h'.get? b = some u) (heo : ∃ u, h'.get? e = some u) : Un fs ex H (upd H x o) h h' := by
 have hx : ∀ b, H b = none → b ≠ x := fun b n z => by subst z; rw [n] at mu; exact mu
 have hb : ∀ b, H b = none → b ≠ e := fun b n z => by
  subst z
  rcases he with r | r
  ·exact hx b n r
  ·rw [n] at r; cases r
 have hm : ∀ b u, H b = some u → ¬ Mut (some u) → b ≠ x := fun b u q nm z => by subst z; rw [q] at mu; exact nm mu
 refine ⟨fun b u q n _ _ => k b u (hb b n) q, fun b u q n _ _ => ⟨u.slots, k b u (hb b n) q⟩, fun b u q n _ => by rw [Bg (hx b n)]; exact n, fun b u q _ => ?_,
  fun b xs q => by rw [Bg (hm b _ q fun z => z)]; exact q, fun b u xs q => by rw [Bg (hm b _ q fun z => z)]; exact q, fun b ps q => ⟨#[], by rw [Bg (hm b _ q fun z => z), q]; simp⟩⟩
 by_cases hbe : b = e
 ·subst hbe; exact heo
 ·exact ⟨u, k b u hbe q⟩
theorem Un.mono (u : Un fs ex H H1 h h1) (hs : ∀ b ∈ fs, b ∈ fs') (hx : ∀ b ∈ ex, b ∈ ex') : Un fs' ex' H H1 h h1 :=
 ⟨fun b ob q n hb he => u.keep b ob q n (fun z => hb (hs b z)) fun z => he (hx b z), fun _ _ q n _ he => u.any q n fun z => he (hx _ z), fun b ob q n he => u.free b ob q n fun z => he (hx b z), fun b ob q he => u.there b ob q fun z => he (hx b z), u.tups, u.frzs, u.tbls⟩
end
def trk (h : Heap) (H : Hp) : List Addr := (List.range h.objs.size).filter fun a => (H a).isSome
def hidT (h : Heap) (H : Hp) : Heap := PySem.W.hideAll h (trk h H)
theorem V8 (h : Heap) (H : Hp) : (hidT h H).objs.size = h.objs.size := PySem.W.hideAll_size _ _
theorem Wk {h : Heap} {H : Hp} {b : Addr} {o : Obj} (e : h.get? b = some o) (n : H b = none) : (hidT h H).get? b = some o :=
 PySem.W.hideAll_get _ e fun hm => by
  have q : (H b).isSome = true := (List.mem_filter.mp hm).2
  rw [n] at q; simp at q
theorem Yr {h : Heap} {H : Hp} {b : Addr} {o : Obj} (e : (hidT h H).get? b = some o) : h.get? b = some o ∧ H b = none := by
 have e' : h.get? b = some o := PySem.W.of_hideAll (trk h H) e
 refine ⟨e', ?_⟩
 cases q : H b with
 | none => rfl
 | some x =>
  have hm : b ∈ trk h H := List.mem_filter.mpr ⟨List.mem_range.mpr (Heap.lt_size e'), by simp [q]⟩
  have z : (hidT h H).get? b = none := PySem.W.hideAll_none (trk h H) hm
  rw [z] at e; cases e
def Ys (g h : Heap) (L : Addr) : List (Addr × Obj) := (List.range h.objs.size).filterMap fun a => if a = L ∨ (g.get? a).isSome = true then none else (h.get? a).map fun o => (a, o)
def rest (g h : Heap) (L d : Addr) : List (Addr × Obj) := (Ys g h L).filter fun p => decide (p.1 ≠ d)
end L2
namespace L2
open PySem PySem.Spec PyProof.Rows
structure Mod (K : PySem.W.Frag) (mg : Str → Option Value) (base : Heap) : Prop where
 kin : K.In base
 glob : base.Ns mainGlobals mg
 blt : ∃ mb, base.Ns builtinsNs mb ∧ ∀ x : Str, x ≠ "__name__" → mb x = bootBuiltins x
 nolimit : base.NoLimit
structure Cx where
 prog : Program
 w : World
 K : PySem.W.Frag
 mg : Str → Option Value
 base : Heap
 A : Around
 N : List Str
 s₀ : Shared
 H₀ : Hp
 env : Env
 outer : List Env
 stack : List Env
 ex : List Addr
 fn : Str → Bool
 calm : Bool
 pn : List (Addr × Obj)
 xe : Value → Shared → Prop
def frs (l : List Env) : List Addr := l.filterMap (·.frame)
abbrev Cx.fs (X : Cx) : List Addr := frs X.outer
def Vis (sc : Scope) (x : Str) : Prop := sc.names.lookup x = some .local ∨ sc.names.lookup x = some .cell ∨ sc.names.lookup x = some .free
def Loc (sc : Scope) (x : Str) : Prop := sc.names.lookup x = some .local ∨ sc.names.lookup x = some .cell
def Look (env : Env) (h : Heap) (m : Str → Option Value) (x : Str) (u : Value) : Prop :=
 (env.kindOf x = some .local ∧ m x = some u) ∨ ((env.kindOf x = some .cell ∨ env.kindOf x = some .free) ∧ ∃ c, env.cells.lookup x = some c ∧ h.IsCell c (some u))
structure Cx.Ok (X : Cx) : Prop where
 mod : Mod X.K X.mg X.base
 kind : X.env.scope.kind = .function
 glob : X.env.globals = mainGlobals
 blt : X.env.builtins = builtinsNs
 above : X.s₀.heap.objs.size ≤ X.env.locals
 inj : ∀ x y c, X.env.cells.lookup x = some c → X.env.cells.lookup y = some c → x = y
 has : ∀ x, (X.env.kindOf x = some .cell ∨ X.env.kindOf x = some .free) → ∃ c, X.env.cells.lookup x = some c
 cab : ∀ x c, X.fn x = true → X.env.cells.lookup x = some c → X.s₀.heap.objs.size ≤ c
 hd : X.calm = true → X.A.handled = none
 frames : X.A.frames = some X.stack
 stk : X.stack = X.outer ∨ (X.stack = X.env :: X.outer ∧ X.env.frame = some X.env.locals)
 exf : ∀ b ∈ X.ex, b ≠ X.env.locals ∧ ∀ x c, X.env.cells.lookup x = some c → c ≠ b
 bs : ∀ b o, X.base.get? b = some o → X.s₀.heap.get? b = some o ∧ X.H₀ b = none
 bsz : X.base.objs.size ≤ X.s₀.heap.objs.size
 noex : ∀ b o, X.base.get? b = some o → b ∉ X.ex
 exfs : ∀ b ∈ X.ex, b ∉ X.fs
 funs : X.s₀.heap.FunFrames X.base X.outer
 frf : ∀ b ∈ X.fs, X.H₀ b = none
structure Inv (X : Cx) (pins : List (Addr × Obj)) (σ : List (Option V)) (H : Hp) (s : Shared) : Prop where
 ok : X.Ok
 os : s.os = X.s₀.os
 bare : AllBare s.gens
 base : Un X.fs X.ex X.H₀ H X.s₀.heap s.heap
 loc : ∃ m, s.heap.Ns X.env.locals m ∧ ∀ (i : Nat) (x : Str) (v : V), X.N[i]? = some x → σ[i]? = some (some v) → Vis X.env.scope x → ∃ u, RelV v u ∧ Look X.env s.heap m x u
 cell : ∀ x c, X.env.cells.lookup x = some c → ∃ v, s.heap.IsCell c v
 free : H X.env.locals = none
 freeC : ∀ x c, X.env.cells.lookup x = some c → H c = none
 pin : ∀ p ∈ X.pn ++ pins, s.heap.get? p.1 = some p.2 ∧ H p.1 = none ∧ p.1 ≠ X.env.locals ∧ p.1 ∉ X.fs ∧ ∀ v, p.2.data ≠ .cell v
 hok : HOk X.prog X.w H s.heap
 len : σ.length = X.N.length
section
variable {X : Cx} {pins : List (Addr × Obj)} {σ : List (Option V)} {H H' : Hp} {s : Shared} {h' : Heap}
theorem Cx.Ok.nofr (ok : X.Ok) {b : Addr} {o : Obj} (e : X.base.get? b = some o) : b ∉ X.fs := fun hb => by
 have := (ok.funs.mem hb).1
 rw [e] at this; cases this
theorem Inv.bs (I : Inv X pins σ H s) : ∀ b o, X.base.get? b = some o → s.heap.get? b = some o ∧ H b = none := fun b o e =>
 ⟨I.base.keep b o (I.ok.bs b o e).1 (I.ok.bs b o e).2 (I.ok.nofr e) (I.ok.noex b o e), I.base.free b o (I.ok.bs b o e).1 (I.ok.bs b o e).2 (I.ok.noex b o e)⟩
theorem Inv.bk (I : Inv X pins σ H s) : ∀ b o, X.base.get? b = some o → s.heap.get? b = some o := fun b o e => (I.bs b o e).1
theorem Inv.mod (I : Inv X pins σ H s) : Mod X.K X.mg X.base := I.ok.mod
theorem Inv.kIn (I : Inv X pins σ H s) : X.K.In s.heap := I.ok.mod.kin.keeps I.bk
theorem Inv.nolimit (I : Inv X pins σ H s) : s.heap.NoLimit := I.ok.mod.nolimit.keeps I.bk
theorem Inv.fr (I : Inv X pins σ H s) : ∃ m, Fr X.base X.env.locals s.heap m :=
 let ⟨m, hn, _⟩ := I.loc
 ⟨m, hn, I.bk, Nat.le_trans I.ok.bsz I.ok.above⟩
theorem Inv.lt (I : Inv X pins σ H s) : X.env.locals < s.heap.objs.size := let ⟨_, hn, _⟩ := I.loc; hn.lt
theorem Inv.sz (I : Inv X pins σ H s) : X.s₀.heap.objs.size ≤ s.heap.objs.size := Nat.le_trans I.ok.above (Nat.le_of_lt I.lt)
theorem Inv.nofs (I : Inv X pins σ H s) {a : Addr} (h : s.heap.objs.size ≤ a) : a ∉ X.fs := fun hb => by
 obtain ⟨_, o, ho, _⟩ := I.ok.funs.mem hb
 exact absurd (Nat.lt_of_lt_of_le (Heap.lt_size ho) (Nat.le_trans I.sz h)) (Nat.lt_irrefl _)
theorem Inv.cne (I : Inv X pins σ H s) : ∀ x c, X.env.cells.lookup x = some c → c ≠ X.env.locals := fun x c e z => by
 obtain ⟨v, o, ho, hd⟩ := I.cell x c e
 obtain ⟨m, ⟨o', es, ep, ho', hd', _⟩, _⟩ := I.loc
 rw [z, ho'] at ho; cases ho; rw [hd'] at hd; cases hd
theorem Inv.funs (I : Inv X pins σ H s) : s.heap.FunFrames X.base X.outer := by
 have all : ∀ (l : List Env), (∀ b ∈ frs l, b ∈ X.fs) → X.s₀.heap.FunFrames X.base l → s.heap.FunFrames X.base l := by
  intro l
  induction l with
  | nil => intro _ _; trivial
  | cons env r ih =>
   intro hs hl
   obtain ⟨hk, ⟨L, o, hf, hn, ho, hd⟩, hr⟩ := hl
   have hL : L ∈ X.fs := hs L (by unfold frs; rw [List.filterMap_cons, hf]; exact List.mem_cons_self)
   obtain ⟨sl, e⟩ := I.base.slot L o ho (I.ok.frf L hL) hL fun z => I.ok.exfs L z hL
   exact ⟨hk, ⟨L, _, hf, hn, e, hd⟩, ih (fun b hb => hs b (by unfold frs; rw [List.filterMap_cons, hf]; exact List.mem_cons_of_mem _ hb)) hr⟩
 exact all X.outer (fun _ hb => hb) I.ok.funs
theorem Inv.stack (I : Inv X pins σ H s) : s.heap.FunFrames X.base X.stack := by
 rcases I.ok.stk with e | ⟨e, hf⟩
 ·rw [e]; exact I.funs
 ·rw [e]
  obtain ⟨m, hn, _⟩ := I.loc
  refine .cons (by rw [I.ok.kind]; decide) hf hn ?_ I.funs
  exact Heap.get?_none_of_le (Nat.le_trans I.ok.bsz I.ok.above)
theorem Inv.stkSub (I : Inv X pins σ H s) : ∀ b ∈ frs X.stack, b ∈ X.env.locals :: X.fs := fun b hb => by
 rcases I.ok.stk with e | ⟨e, hf⟩
 ·rw [e] at hb; exact List.mem_cons_of_mem _ hb
 ·rw [e] at hb
  unfold frs at hb
  rw [List.filterMap_cons, hf] at hb
  exact hb
theorem Inv.stkFree (I : Inv X pins σ H s) : ∀ b ∈ frs X.stack, H b = none := fun b hb => by
 rcases List.mem_cons.mp (I.stkSub b hb) with e | hb
 ·rw [e]; exact I.free
 ·obtain ⟨_, o, ho, _⟩ := I.ok.funs.mem hb
  exact I.base.free b o ho (I.ok.frf b hb) fun z => I.ok.exfs b z hb
theorem Inv.step {g' : Array GenState} {t' : Nat} {d' : Drawn} {ch : List Addr} (I : Inv X pins σ H s)
  (hch : ∀ b ∈ ch, (b ∈ X.ex ∨ X.s₀.heap.objs.size ≤ b) ∧ b ≠ X.env.locals ∧ (∀ x c, X.env.cells.lookup x = some c → c ≠ b) ∧ ∀ p ∈ X.pn ++ pins, p.1 ≠ b)
  (keep : ∀ b o, b ≠ X.env.locals → b ∉ X.fs → b ∉ ch → s.heap.get? b = some o → H b = none → h'.get? b = some o)
  (slot : ∀ b o, b ≠ X.env.locals → b ∈ X.fs → b ∉ ch → s.heap.get? b = some o → H b = none → ∃ sl, h'.get? b = some { o with slots := sl }) (free : ∀ b o, b ∉ ch → s.heap.get? b = some o → H b = none → H' b = none)
  (there : ∀ b o, b ∉ ch → s.heap.get? b = some o → ∃ o', h'.get? b = some o')
  (tups : ∀ b xs, H b = some (.tup xs) → H' b = some (.tup xs)) (frzs : ∀ b o u, H b = some (.frz o u) → H' b = some (.frz o u)) (tbls : ∀ b ps, H b = some (.tbl ps) → ∃ more, H' b = some (.tbl (ps ++ more)))
  (ns : ∀ m, s.heap.Ns X.env.locals m → h'.Ns X.env.locals m) (hok : HOk X.prog X.w H' h') (hg : AllBare g') :
  Inv X pins σ H' { s with heap := h', gens := g', drawn := d', toks := t' } := by
 have neL : ∀ b o, X.s₀.heap.get? b = some o → b ≠ X.env.locals := fun b o e => Nat.ne_of_lt (Nat.lt_of_lt_of_le (Heap.lt_size e) I.ok.above)
 have neC : ∀ b o, X.s₀.heap.get? b = some o → b ∉ X.ex → b ∉ ch := fun b o e hx hb => by
  rcases (hch b hb).1 with z | z
  ·exact hx z
  ·exact absurd (Nat.lt_of_lt_of_le (Heap.lt_size e) z) (Nat.lt_irrefl _)
 have cellK : ∀ x c, X.env.cells.lookup x = some c → ∀ v, s.heap.IsCell c v → h'.IsCell c v := fun x c e v ⟨o, ho, hd⟩ => by
  have nch : c ∉ ch := fun z => (hch c z).2.2.1 x c e rfl
  by_cases hc : c ∈ X.fs
  ·obtain ⟨sl, q⟩ := slot c o (I.cne x c e) hc nch ho (I.freeC x c e)
   exact ⟨_, q, hd⟩
  ·exact ⟨o, keep c o (I.cne x c e) hc nch ho (I.freeC x c e), hd⟩
 refine ⟨I.ok, I.os, hg, ⟨fun b o e n hb hx => ?_, fun b o e n hb hx => ?_, fun b o e n hx => ?_, fun b o e hx => ?_, fun b xs e => tups b xs (I.base.tups b xs e), fun b o xs e => frzs b o xs (I.base.frzs b o xs e), fun b ps e => ?_⟩, ?_, fun x c e => ?_, ?_, fun x c e => ?_, fun p hp => ?_, hok, I.len⟩
 ·exact keep b o (neL b o e) hb (neC b o e hx) (I.base.keep b o e n hb hx) (I.base.free b o e n hx)
 ·obtain ⟨sl, e1⟩ := I.base.slot b o e n hb hx
  obtain ⟨sl', e2⟩ := slot b _ (neL b o e) hb (neC b o e hx) e1 (I.base.free b o e n hx)
  exact ⟨sl', e2⟩
 ·obtain ⟨o', e1⟩ := I.base.there b o e hx
  exact free b o' (neC b o e hx) e1 (I.base.free b o e n hx)
 ·obtain ⟨o', e1⟩ := I.base.there b o e hx
  exact there b o' (neC b o e hx) e1
 ·obtain ⟨m1, e1⟩ := I.base.tbls b ps e
  obtain ⟨m2, e2⟩ := tbls b _ e1
  exact ⟨m1 ++ m2, by rw [e2, Array.append_assoc]⟩
 ·obtain ⟨m, hn, hl⟩ := I.loc
  refine ⟨m, ns m hn, fun i x v e1 e2 e3 => ?_⟩
  obtain ⟨u, r, l⟩ := hl i x v e1 e2 e3
  refine ⟨u, r, ?_⟩
  rcases l with l | ⟨k, c, e, z⟩
  ·exact .inl l
  ·exact .inr ⟨k, c, e, cellK x c e _ z⟩
 ·obtain ⟨v, z⟩ := I.cell x c e
  exact ⟨v, cellK x c e v z⟩
 ·obtain ⟨m, ⟨o, _, _, ho, _⟩, _⟩ := I.loc
  exact free _ o (fun z => (hch _ z).2.1 rfl) ho I.free
 ·obtain ⟨v, o, ho, hd⟩ := I.cell x c e
  exact free c o (fun z => (hch c z).2.2.1 x c e rfl) ho (I.freeC x c e)
 ·obtain ⟨e, n, ne, nf, d⟩ := I.pin p hp
  have nch : p.1 ∉ ch := fun z => (hch p.1 z).2.2.2 p hp rfl
  exact ⟨keep p.1 p.2 ne nf nch e n, free p.1 p.2 nch e n, ne, nf, d⟩
theorem Inv.un {t' : Nat} (I : Inv X pins σ H s) (u : Un X.fs [] H H' s.heap h') (hok : HOk X.prog X.w H' h') : Inv X pins σ H' { s with heap := h', toks := t' } := by
 obtain ⟨m, ⟨o, es, ep, ho, r⟩, _⟩ := id I.loc
 obtain ⟨sl, hL⟩ := u.any ho I.free (by simp)
 exact I.step (g' := s.gens) (d' := s.drawn) (ch := []) (fun _ z => nomatch z) (fun b o _ hb _ e n => u.keep b o e n hb (by simp)) (fun b o _ hb _ e n => u.slot b o e n hb (by simp)) (fun b o _ e n => u.free b o e n (by simp)) (fun b o _ e => u.there b o e (by simp)) u.tups u.frzs u.tbls (fun m' hm => by
  obtain ⟨o', es', ep', ho', r'⟩ := hm
  rw [ho] at ho'; cases ho'
  exact ⟨_, es', ep', hL, r'⟩) hok I.bare
theorem Inv.call {g' : Array GenState} {t' : Nat} {d' : Drawn} {ch : List Addr} (I : Inv X pins σ H s) (u : Un (frs X.stack) ch H H' s.heap h') (hok : HOk X.prog X.w H' h') (hg : AllBare g')
  (hch : ∀ b ∈ ch, (b ∈ X.ex ∨ X.s₀.heap.objs.size ≤ b) ∧ b ≠ X.env.locals ∧ (∀ x c, X.env.cells.lookup x = some c → c ≠ b) ∧ ∀ p ∈ X.pn ++ pins, p.1 ≠ b) :
  Inv X pins σ H' { s with heap := h', gens := g', drawn := d', toks := t' } := by
 obtain ⟨m, ⟨o, es, ep, ho, r⟩, _⟩ := id I.loc
 obtain ⟨sl, hL⟩ := u.any ho I.free fun z => (hch _ z).2.1 rfl
 exact I.step (ch := ch) hch (fun b o hL hb hc e n => u.keep b o e n (fun z => (List.mem_cons.mp (I.stkSub b z)).elim hL hb) hc) (fun b o _ _ hc e n => u.any e n hc) (fun b o hc e n => u.free b o e n hc) (fun b o hc e => u.there b o e hc) u.tups u.frzs u.tbls (fun m' hm => by
  obtain ⟨o', es', ep', ho', r'⟩ := hm
  rw [ho] at ho'; cases ho'
  exact ⟨_, es', ep', hL, r'⟩) hok hg
theorem Inv.turned {t' : Nat} {it : Addr} (I : Inv X pins σ H s) (k : ∀ b o, b ≠ it → s.heap.get? b = some o → h'.get? b = some o) (hn : H it = none) (hL : it ≠ X.env.locals)
  (h1 : it ∈ X.ex ∨ X.s₀.heap.objs.size ≤ it) (h2 : ∀ x c, X.env.cells.lookup x = some c → c ≠ it) (h3 : ∀ p ∈ X.pn ++ pins, p.1 ≠ it) : Inv X pins σ H { s with heap := h', toks := t' } := by
 have nit : ∀ b u, H b = some u → b ≠ it := fun b u e z => by rw [z, hn] at e; cases e
 refine I.step (g' := s.gens) (d' := s.drawn) (ch := [it]) (fun b hb => ?_) (fun b o _ _ hc e _ => k b o (fun z => hc (by simp [z])) e) (fun b o _ _ hc e _ => ⟨o.slots, k b o (fun z => hc (by simp [z])) e⟩) (fun _ _ _ _ n => n)
  (fun b o hc e => ⟨o, k b o (fun z => hc (by simp [z])) e⟩) (fun _ _ e => e) (fun _ _ _ e => e) (fun b ps e => ⟨#[], by rw [e]; simp⟩) (fun m hm => ?_) (fun b u e => ?_) I.bare
 ·have e : b = it := by simpa using hb
  subst e
  exact ⟨h1, hL, h2, h3⟩
 ·obtain ⟨o, es, ep, ho, r⟩ := hm
  exact ⟨o, es, ep, k _ o (Ne.symm hL) ho, r⟩
 ·refine (I.hok b u e).stay (fun c v hc q => k c v ?_ q) (fun _ q => q) fun _ _ q => q
  rcases hc with z | z
  ·rw [z]; exact nit b u e
  ·exact nit c _ z
theorem Inv.tok (I : Inv X pins σ H s) (t : Nat) : Inv X pins σ H { s with toks := t } := I.un (h' := s.heap) (t' := t) Un.refl I.hok
theorem Inv.kept {t' : Nat} (I : Inv X pins σ H s) (k : ∀ b u, s.heap.get? b = some u → h'.get? b = some u) : Inv X pins σ H { s with heap := h', toks := t' } := I.un (Un.kept k) (I.hok.kept k)
theorem Inv.laid {a : Addr} {o : HO} {t' : Nat} (I : Inv X pins σ H s) (k : ∀ b u, s.heap.get? b = some u → h'.get? b = some u) (hp : s.heap.objs.size ≤ a) (new : Ds X.prog X.w (upd H a o) h' a o) :
  Inv X pins σ (upd H a o) { s with heap := h', toks := t' } := I.un (Un.laid k hp (I.hok.fresh hp)) (I.hok.laid k hp new)
theorem Inv.write {x e : Addr} {o : HO} {t' : Nat} (I : Inv X pins σ H s) (mu : Mut (H x)) (he : e = x ∨ H e = some (.own x)) (k : ∀ b u, b ≠ e → s.heap.get? b = some u → h'.get? b = some u) (heo : ∃ u, h'.get? e = some u)
  (new : Ds X.prog X.w (upd H x o) h' x o) : Inv X pins σ (upd H x o) { s with heap := h', toks := t' } := I.un (Un.write mu he k heo) (I.hok.write mu he k heo new)
theorem Inv.pins_of {pins' : List (Addr × Obj)} (I : Inv X pins σ H s) (h : ∀ p ∈ pins', s.heap.get? p.1 = some p.2 ∧ H p.1 = none ∧ p.1 ≠ X.env.locals ∧ p.1 ∉ X.fs ∧ ∀ v, p.2.data ≠ .cell v) : Inv X pins' σ H s :=
 ⟨I.ok, I.os, I.bare, I.base, I.loc, I.cell, I.free, I.freeC, fun p hp => (List.mem_append.mp hp).elim (fun z => I.pin p (List.mem_append_left _ z)) (h p), I.hok, I.len⟩
theorem N5 {N : List Str} (hN : N.Nodup) {i j : Nat} {x : Str} (a : N[i]? = some x) (b : N[j]? = some x) : i = j := by
 obtain ⟨h1, e1⟩ := List.getElem?_eq_some_iff.mp a
 obtain ⟨h2, e2⟩ := List.getElem?_eq_some_iff.mp b
 exact (List.getElem_inj hN).mp (e1.trans e2.symm)
theorem Py {M : Model} {A : Around} {E : Value → Shared → Prop} {i : Nat} {x : Str} {v : V} {u : Value} {Q : Unit → Shared → Prop} (I : Inv X pins σ H s) (hN : X.N.Nodup) (hi : X.N[i]? = some x) (hx : Loc X.env.scope x) (r : RelV v u)
  (h : ∀ s', Inv X pins (σ.set i (some v)) H s' → (∃ a, Heap.SameBut a s.heap s'.heap ∧ (a = X.env.locals ∨ X.env.cells.lookup x = some a)) → Q () s') (hf : X.fn x = true ∨ X.env.scope.names.lookup x = some .local := by first | exact .inl rfl | exact .inr rfl | assumption) : wpAny M A (storeName X.env x u) Q E s := by
 obtain ⟨m, hn, hl⟩ := id I.loc
 have hcls : (X.env.scope.kind == .class || (X.env.scope.kind == .module && X.env.locals != X.env.globals)) = false := by rw [I.ok.kind]; rfl
 have hiσ : i < σ.length := by rw [I.len]; exact (List.getElem?_eq_some_iff.mp hi).1
 have cne := I.cne
 have tracked : ∀ {a : Addr} {h' : Heap}, (∃ o, s.heap.get? a = some o ∧ H a = none) → Heap.SameBut a s.heap h' → HOk X.prog X.w H h' := fun {a h'} ha hs b ob e => by
  obtain ⟨_, _, hfree⟩ := ha
  refine (I.hok b ob e).stay (fun c w' hc q => (hs.2 c ?_).trans q) (fun _ q => q) fun _ _ q => q
  rintro rfl
  rcases hc with rfl | hc
  ·rw [hfree] at e; cases e
  ·rw [hfree] at hc; cases hc
 rcases hx with hk | hk
 ·refine wpAny_storeName_local hk hn (fun h' hn' hs => ?_) hcls
  obtain ⟨oL, _, _, hoL, _⟩ := id hn
  refine h _ ⟨I.ok, I.os, I.bare, ⟨fun b o e n hb hx => ?_, fun b o e n hb hx => ?_, I.base.free, fun b o e hx => ?_, I.base.tups, I.base.frzs, I.base.tbls⟩, ⟨_, hn', fun j y v' e1 e2 e3 => ?_⟩, fun y c e => ?_, I.free, I.freeC, fun p hp => ?_, tracked ⟨oL, hoL, I.free⟩ hs, by simpa using I.len⟩ ⟨_, hs, .inl rfl⟩
  ·exact (hs.2 b (Nat.ne_of_lt (Nat.lt_of_lt_of_le (Heap.lt_size e) I.ok.above))).trans (I.base.keep b o e n hb hx)
  ·obtain ⟨sl, e1⟩ := I.base.slot b o e n hb hx
   exact ⟨sl, (hs.2 b (Nat.ne_of_lt (Nat.lt_of_lt_of_le (Heap.lt_size e) I.ok.above))).trans e1⟩
  ·obtain ⟨o', e1⟩ := I.base.there b o e hx
   exact ⟨o', (hs.2 b (Nat.ne_of_lt (Nat.lt_of_lt_of_le (Heap.lt_size e) I.ok.above))).trans e1⟩
  ·by_cases hj : j = i
   ·subst hj
    rw [hi] at e1; cases e1
    rw [List.getElem?_set_self hiσ] at e2
    cases e2
    exact ⟨u, r, .inl ⟨hk, by simp⟩⟩
   ·rw [List.getElem?_set_ne (Ne.symm hj)] at e2
    obtain ⟨u', r', q⟩ := hl j y v' e1 e2 e3
    refine ⟨u', r', ?_⟩
    rcases q with ⟨k, e⟩ | ⟨k, c, e, z⟩
    ·refine .inl ⟨k, ?_⟩
     have : y ≠ x := fun e => hj (N5 hN e1 (e ▸ hi))
     simp [this, e]
    ·exact .inr ⟨k, c, e, z.sameBut hs (cne y c e)⟩
  ·obtain ⟨w', z⟩ := I.cell y c e
   exact ⟨w', z.sameBut hs (cne y c e)⟩
  ·obtain ⟨e, n, ne, nf, d⟩ := I.pin p hp
   exact ⟨(hs.2 p.1 ne).trans e, n, ne, nf, d⟩
 ·have hfn : X.fn x = true := by
   rcases hf with z | z
   ·exact z
   ·rw [z] at hk; cases hk
  obtain ⟨c, hc⟩ := I.ok.has x (.inl hk)
  obtain ⟨w', z⟩ := I.cell x c hc
  refine wpAny_storeName_cell I.ok.kind hk hc z (fun h' hc' hs => ?_)
  obtain ⟨oc, hoc, hocd⟩ := id z
  refine h { s with heap := h' } ⟨I.ok, I.os, I.bare, ⟨fun b o e n hb hx => ?_, fun b o e n hb hx => ?_, I.base.free, fun b o e hx => ?_, I.base.tups, I.base.frzs, I.base.tbls⟩, ⟨m, hn.sameBut hs (Ne.symm (cne x c hc)), fun j y v' e1 e2 e3 => ?_⟩, fun y c' e => ?_, I.free, I.freeC, fun p hp => ?_, tracked ⟨oc, hoc, I.freeC x c hc⟩ hs, by simpa using I.len⟩ ⟨c, hs, .inr hc⟩
  ·exact (hs.2 b (Nat.ne_of_lt (Nat.lt_of_lt_of_le (Heap.lt_size e) (I.ok.cab x c hfn hc)))).trans (I.base.keep b o e n hb hx)
  ·obtain ⟨sl, e1⟩ := I.base.slot b o e n hb hx
   exact ⟨sl, (hs.2 b (Nat.ne_of_lt (Nat.lt_of_lt_of_le (Heap.lt_size e) (I.ok.cab x c hfn hc)))).trans e1⟩
  ·obtain ⟨o', e1⟩ := I.base.there b o e hx
   exact ⟨o', (hs.2 b (Nat.ne_of_lt (Nat.lt_of_lt_of_le (Heap.lt_size e) (I.ok.cab x c hfn hc)))).trans e1⟩
  ·by_cases hj : j = i
   ·subst hj
    rw [hi] at e1; cases e1
    rw [List.getElem?_set_self hiσ] at e2
    cases e2
    exact ⟨u, r, .inr ⟨.inl hk, c, hc, hc'⟩⟩
   ·rw [List.getElem?_set_ne (Ne.symm hj)] at e2
    obtain ⟨u', r', q⟩ := hl j y v' e1 e2 e3
    refine ⟨u', r', ?_⟩
    rcases q with q | ⟨k, c', e, z'⟩
    ·exact .inl q
    ·refine .inr ⟨k, c', e, z'.sameBut hs ?_⟩
     rintro rfl
     exact hj (N5 hN e1 (I.ok.inj _ _ _ e hc ▸ hi))
  ·by_cases hcc : c' = c
   ·subst hcc; exact ⟨_, hc'⟩
   ·obtain ⟨w2, z2⟩ := I.cell y c' e
    exact ⟨w2, z2.sameBut hs hcc⟩
  ·obtain ⟨e, n, ne, nf, d⟩ := I.pin p hp
   refine ⟨(hs.2 p.1 ?_).trans e, n, ne, nf, d⟩
   intro q
   rw [q, hoc] at e
   have q' : oc = p.2 := Option.some.inj e
   exact d w' (by rw [← q']; exact hocd)
theorem IV {M : Model} {A : Around} {E : Value → Shared → Prop} {i : Nat} {x : Str} {v : V} {u : Value} {Q : Unit → Shared → Prop} (I : Inv X pins σ H s) (hN : X.N.Nodup) (hi : X.N[i]? = some x) (hx : Loc X.env.scope x) (r : RelV v u)
  (h : ∀ s', Inv X pins (σ.set i (some v)) H s' → Q () s') (hf : X.fn x = true ∨ X.env.scope.names.lookup x = some .local := by first | exact .inl rfl | exact .inr rfl | assumption) : wpAny M A (storeName X.env x u) Q E s :=
 Py I hN hi hx r (fun s' I' _ => h s' I') hf
theorem Inv.call' {s' : Shared} {ch : List Addr} (I : Inv X pins σ H s) (ho : s'.os = s.os) (u : Un (frs X.stack) ch H H' s.heap s'.heap) (hok : HOk X.prog X.w H' s'.heap) (hg : AllBare s'.gens)
  (hch : ∀ b ∈ ch, (b ∈ X.ex ∨ X.s₀.heap.objs.size ≤ b) ∧ b ≠ X.env.locals ∧ (∀ x c, X.env.cells.lookup x = some c → c ≠ b) ∧ ∀ p ∈ X.pn ++ pins, p.1 ≠ b) : Inv X pins σ H' s' := by
 obtain ⟨h', g', d', t', o'⟩ := s'
 have e : o' = s.os := ho
 subst e
 exact I.call (g' := g') (t' := t') (d' := d') u hok hg hch
end
abbrev XK := Value → Option Addr → Hp → Prop
abbrev St := List (Option V)
abbrev VK := V → Hp → Prop
abbrev TE := St → Hp → VK → Prop
abbrev TT := St → Hp → (Bool → Hp → Prop) → Prop
abbrev TA := St → Hp → (List V → Hp → Prop) → Prop
structure Ends where
 nx : St → Hp → Prop
 rt : VK
 bk : St → Hp → Prop := fun _ _ => False
 ct : St → Hp → Prop := fun _ _ => False
abbrev TS := Ends → St → Hp → Prop
def EP (X : Cx) (pins : List (Addr × Obj)) (σ : St) (Q : VK) (u : Value) (s' : Shared) : Prop := ∃ v H', Inv X pins σ H' s' ∧ RelV v u ∧ Q v H'
def TP (X : Cx) (pins : List (Addr × Obj)) (σ : St) (Q : Bool → Hp → Prop) (b : Bool) (s' : Shared) : Prop := ∃ H', Inv X pins σ H' s' ∧ Q b H'
def AP (X : Cx) (pins : List (Addr × Obj)) (σ : St) (Q : List V → Hp → Prop) (us : List Value) (s' : Shared) : Prop := ∃ vs H', Inv X pins σ H' s' ∧ Vals vs us ∧ Q vs H'
def SP (X : Cx) (pins : List (Addr × Obj)) (D : Ends) (f : Flow) (s' : Shared) : Prop :=
 match f with
 | .next => ∃ σ' H', Inv X pins σ' H' s' ∧ D.nx σ' H'
 | .brk => ∃ σ' H', Inv X pins σ' H' s' ∧ D.bk σ' H'
 | .cont => ∃ σ' H', Inv X pins σ' H' s' ∧ D.ct σ' H'
 | .ret u => ∃ v σ' H', Inv X pins σ' H' s' ∧ RelV v u ∧ D.rt v H'
def PE (X : Cx) (e : Expr) (t : TE) : Prop :=
 ∀ (pins : List (Addr × Obj)) (s : Shared) (σ : St) (H : Hp) (Q : VK), Inv X pins σ H s → t σ H Q → wpAny (model X.prog X.w) X.A (eval e X.env) (EP X pins σ Q) X.xe s
def PT (X : Cx) (e : Expr) (t : TT) : Prop :=
 ∀ (pins : List (Addr × Obj)) (s : Shared) (σ : St) (H : Hp) (Q : Bool → Hp → Prop), Inv X pins σ H s → t σ H Q → wpAny (model X.prog X.w) X.A (isTrue e X.env (eval e X.env)) (TP X pins σ Q) X.xe s
def PW (X : Cx) (e : Expr) (t : TT) : Prop :=
 ∀ (whole : Sem Value) (pins : List (Addr × Obj)) (s : Shared) (σ : St) (H : Hp) (Q : Bool → Hp → Prop), Inv X pins σ H s → t σ H Q → wpAny (model X.prog X.w) X.A (isTrue e X.env whole) (TP X pins σ Q) X.xe s
theorem PW.pt {X : Cx} {e : Expr} {t : TT} (h : PW X e t) : PT X e t := h _
def PA (X : Cx) (es : List Expr) (t : TA) : Prop :=
 ∀ (pos : Pos) (pins : List (Addr × Obj)) (s : Shared) (σ : St) (H : Hp) (Q : List V → Hp → Prop), Inv X pins σ H s → t σ H Q → wpAny (model X.prog X.w) X.A (spliced (backTo pos (starEach es X.env))) (AP X pins σ Q) X.xe s
def PS (X : Cx) (st : Stmt) (t : TS) : Prop :=
 ∀ (pins : List (Addr × Obj)) (s : Shared) (σ : St) (H : Hp) (D : Ends), Inv X pins σ H s → t D σ H → wpAny (model X.prog X.w) X.A (exec st X.env) (SP X pins D) X.xe s
def PSs (X : Cx) (st : List Stmt) (t : TS) : Prop :=
 ∀ (pins : List (Addr × Obj)) (s : Shared) (σ : St) (H : Hp) (D : Ends), Inv X pins σ H s → t D σ H → wpAny (model X.prog X.w) X.A (execs st X.env) (SP X pins D) X.xe s
theorem thn {α : Type} {t : Sem α} {Q Q' : α → Shared → Prop} {M : Model} {A : Around} {E : Value → Shared → Prop} {s : Shared} (h : wpAny M A t Q E s) (hQ : ∀ a s, Q a s → Q' a s) : wpAny M A t Q' E s := wpAny_mono h hQ fun _ _ x => x
end L2
namespace L2
open PySem PySem.Spec PyProof.Rows
section
variable {X : Cx}
def tVar (i : Nat) : TE := fun σ H Q => ∃ v, σ[i]? = some (some v) ∧ Q v H
def tC (v : V) : TE := fun _ H Q => Q v H
theorem bz {i : Nat} {x : Str} {pos : Pos} (hN : X.N[i]? = some x) (hv : Vis X.env.scope x) (hd : (x == ("__debug__" : Str)) = false := by decide) (hcd : (x == ("__classdict__" : Str)) = false := by decide) : PE X (.Name x pos) (tVar i) := by
 intro pins s σ H Q I h
 obtain ⟨v, e, h⟩ := h
 obtain ⟨m, hn, hl⟩ := I.loc
 obtain ⟨u, r, l⟩ := hl i x v hN e hv
 have fin : EP X pins σ Q u s := ⟨v, H, I, r, h⟩
 rcases l with ⟨hk, hm⟩ | ⟨hk, c, hc, hcell⟩
 ·exact wpAny_Name (wpAny_loadName_local I.ok.kind hk hn hm fin) hd
 ·rcases hk with hk | hk
  ·exact wpAny_Name (wpAny_loadName_cell I.ok.kind hk hc hcell fin) hd
  ·exact wpAny_Name (wpAny_loadName_free I.ok.kind hk hc hcell fin hcd) hd
theorem b_ {i j pos} : PE X (.Constant (.int i) j pos) (tC (.int i)) := fun _ _ _ H _ I h => wpAny_Constant_int ⟨.int i, H, I.tok _, ⟨_, rfl⟩, h⟩
theorem fV {b j pos} : PE X (.Constant (.bool b) j pos) (tC (.bl b)) := fun _ _ _ H _ I h => Constant_bool ⟨.bl b, H, I, rfl, h⟩
theorem cA {j pos} : PE X (.Constant .none j pos) (tC .non) := fun _ _ _ H _ I h => Constant_none ⟨.non, H, I, rfl, h⟩
theorem cB {x j pos} : PE X (.Constant (.str x) j pos) (tC (.str x)) := fun _ _ _ H _ I h => Calls.Constant_str ⟨.str x, H, I.tok _, ⟨_, rfl⟩, h⟩
def Gl (X : Cx) (x : Str) : Prop := X.env.kindOf x = some .globalImplicit
theorem Im {E : Value → Shared → Prop} {pins : List (Addr × Obj)} {s : Shared} {σ : St} {H : Hp} {x : Str} {u : Value} {pos : Pos} {Q : Value → Shared → Prop} (I : Inv X pins σ H s) (hg : Gl X x) (hm : X.mg x = some u) (h : Q u s)
  (hd : (x == ("__debug__" : Str)) = false := by decide) : wpAny (model X.prog X.w) X.A (eval (.Name x pos) X.env) Q E s :=
 Calls.Name_function_global I.ok.kind hg (Calls.loadGlobal_global (by rw [I.ok.glob]; exact I.mod.glob.keeps I.bk) hm h) hd
theorem UV {E : Value → Shared → Prop} {pins : List (Addr × Obj)} {s : Shared} {σ : St} {H : Hp} {x : Str} {u : Value} {pos : Pos} {Q : Value → Shared → Prop} (I : Inv X pins σ H s) (hg : Gl X x) (hm : X.mg x = none) (hv : bootBuiltins x = some u) (h : Q u s)
  (hn : x ≠ "__name__" := by decide) (hd : (x == ("__debug__" : Str)) = false := by decide) : wpAny (model X.prog X.w) X.A (eval (.Name x pos) X.env) Q E s := by
 obtain ⟨mb, h1, h2⟩ := I.mod.blt
 exact Calls.Name_function_global I.ok.kind hg (Calls.loadGlobal_builtin (by rw [I.ok.glob]; exact I.mod.glob.keeps I.bk) hm (by rw [I.ok.blt]; exact h1.keeps I.bk) ((h2 x hn).trans hv) h) hd
theorem Hl {x : Str} {v : V} {u : Value} {pos : Pos} (hg : Gl X x) (hm : X.mg x = some u) (r : RelV v u) (hd : (x == ("__debug__" : Str)) = false := by decide) : PE X (.Name x pos) (tC v) :=
 fun _ _ _ H _ I h => Im I hg hm ⟨v, H, I, r, h⟩ hd
theorem Yt {x : Str} {v : V} {u : Value} {pos : Pos} (hg : Gl X x) (hm : X.mg x = none) (hv : bootBuiltins x = some u) (r : RelV v u) (hn : x ≠ "__name__" := by decide) (hd : (x == ("__debug__" : Str)) = false := by decide) : PE X (.Name x pos) (tC v) :=
 fun _ _ _ H _ I h => UV I hg hm hv ⟨v, H, I, r, h⟩ hn hd
def t2I (ta tb : TE) (k : Int → Int → Hp → Prop) : St → Hp → Prop := fun σ H => ta σ H fun x H1 => tb σ H1 fun y H2 => ∃ i j, x = .int i ∧ y = .int j ∧ k i j H2
variable {a b : Expr} {ta tb : TE} {pos : Pos}
def PC (X : Cx) (op : CmpOp) (a b : Expr) (t : TE) : Prop :=
 ∀ (pins : List (Addr × Obj)) (s : Shared) (σ : St) (H : Hp) (Q : VK), Inv X pins σ H s → t σ H Q →
  wpAny (model X.prog X.w) X.A (eval a X.env) (fun v s₁ => wpAny (model X.prog X.w) X.A (eval b X.env) (fun u s₂ => wpAny (model X.prog X.w) X.A (compareOp op v u) (EP X pins σ Q) X.xe s₂) X.xe s₁) X.xe s
theorem S5 (b : Expr) {op : CmpOp} (h : op ≠ .In) (h2 : op ≠ .NotIn) : behindInMarks op b = false := by
 have e1 : (op == CmpOp.In) = false := by cases op <;> first | rfl | exact absurd rfl h
 have e2 : (op == CmpOp.NotIn) = false := by cases op <;> first | rfl | exact absurd rfl h2
 cases b <;> simp [behindInMarks, e1, e2]
def tCmp (p : Int → Int → Bool) (ta tb : TE) : TE := fun σ H Q => t2I ta tb (fun i j H2 => Q (.bl (p i j)) H2) σ H
abbrev tLt : TE → TE → TE := tCmp fun i j => decide (i < j)
abbrev tGt : TE → TE → TE := tCmp fun i j => decide (j < i)
def tIsN (ta : TE) : TE := fun σ H Q => ta σ H fun x H1 => Q (.bl (decide (x = .non))) H1
def fW (ta : TE) : TE := fun σ H Q => ta σ H fun x H1 => Q (.bl (!decide (x = .non))) H1
theorem RelV.none_iff {x : V} {v : Value} (r : RelV x v) : (v == Value.none) = decide (x = .non) := by
 cases x with
 | non => cases r; rfl
 | bl _ => cases r; rfl
 | int _ => obtain ⟨t, rfl⟩ := r; rfl
 | str _ => obtain ⟨t, rfl⟩ := r; rfl
 | byt _ => obtain ⟨t, rfl⟩ := r; rfl
 | flt _ => obtain ⟨t, rfl⟩ := r; rfl
 | ref _ => cases r; rfl
 | ty _ => cases r; rfl
theorem Wl {j pos'} (ha : PE X a ta) : PC X .Is a (.Constant .none j pos') (tIsN ta) := by
 intro pins s σ H Q I h
 refine thn (ha pins s σ H _ I h) fun v s1 ⟨x, H1, I1, r1, q1⟩ => ?_
 exact Constant_none (is_none_gen ⟨.bl _, H1, I1, by rw [r1.none_iff]; rfl, q1⟩)
theorem Yu {j pos'} (ha : PE X a ta) : PC X .IsNot a (.Constant .none j pos') (fW ta) := by
 intro pins s σ H Q I h
 refine thn (ha pins s σ H _ I h) fun v s1 ⟨x, H1, I1, r1, q1⟩ => ?_
 exact Constant_none (isnot_none_gen ⟨.bl _, H1, I1, by rw [r1.none_iff]; rfl, q1⟩)
def tB (t : TE) : TT := fun σ H Q => t σ H fun x H1 => ∃ c, x = .bl c ∧ Q c H1
theorem Wm {op : CmpOp} {t : TE} (h : PC X op a b t) (h1 : behindInMarks op b = false := by first | exact S5 _ (by decide) (by decide) | rfl) : PE X (.Compare a [op] [b] pos) t := fun pins s σ H Q I hw => wpAny_Compare1 (h pins s σ H Q I hw) h1
theorem cC {op : CmpOp} {t : TE} (h : PC X op a b t) (h1 : behindInMarks op b = false := by first | exact S5 _ (by decide) (by decide) | rfl) : PT X (.Compare a [op] [b] pos) (tB t) := by
 intro pins s σ H Q I hw
 refine wpAny_isTrue_Compare1 (thn (h pins s σ H _ I hw) fun v s1 h1 => thn h1 fun u s2 h2 => thn h2 fun c s3 ⟨x, H1, I1, r1, q1⟩ => ?_) h1
 obtain ⟨d, rfl, q⟩ := q1
 cases r1
 exact wpAny_truthy_bool ⟨H1, I1, q⟩
variable {tA tB' : TT} {rest : List Expr}
def tAnd (t u : TT) : TT := fun σ H Q => t σ H fun c H1 => if c = true then u σ H1 Q else Q false H1
def tOr (t u : TT) : TT := fun σ H Q => t σ H fun c H1 => if c = true then Q true H1 else u σ H1 Q
def tNot (t : TT) : TT := fun σ H Q => t σ H fun c H1 => Q (!c) H1
theorem Yv (ha : PT X a tA) : PW X (.BoolOp .And [a] pos) tA := by
 intro wh pins s σ H Q I h
 refine isTrue_and (thn (ha pins s σ H Q I h) fun c s1 e => ?_)
 cases c with
 | true => exact isTrue_and_nil e
 | false => exact e
theorem cD (ha : PT X a tA) : PW X (.BoolOp .Or [a] pos) tA := by
 intro wh pins s σ H Q I h
 refine isTrue_or (thn (ha pins s σ H Q I h) fun c s1 e => ?_)
 cases c with
 | false => exact isTrue_or_nil e
 | true => exact e
theorem cF (ha : PT X a tA) (hb : PW X (.BoolOp .And (b :: rest) pos) tB') : PW X (.BoolOp .And (a :: b :: rest) pos) (tAnd tA tB') := by
 intro wh pins s σ H Q I h
 refine isTrue_and (thn (ha pins s σ H _ I h) fun c s1 ⟨H1, I1, q1⟩ => ?_)
 cases c with
 | true => exact hb wh pins s1 σ H1 Q I1 q1
 | false => exact ⟨H1, I1, q1⟩
theorem fY (ha : PT X a tA) (hb : PW X (.BoolOp .Or (b :: rest) pos) tB') : PW X (.BoolOp .Or (a :: b :: rest) pos) (tOr tA tB') := by
 intro wh pins s σ H Q I h
 refine isTrue_or (thn (ha pins s σ H _ I h) fun c s1 ⟨H1, I1, q1⟩ => ?_)
 cases c with
 | true => exact ⟨H1, I1, q1⟩
 | false => exact hb wh pins s1 σ H1 Q I1 q1
theorem cG (ha : PT X a tA) : PT X (.UnaryOp .Not a pos) (tNot tA) := by
 intro pins s σ H Q I h
 exact isTrue_not (ha pins s σ H (fun c H1 => Q (!c) H1) I h)
def fj (ta tb : TE) : TE := fun σ H Q => ta σ H fun x H1 => ∃ c, x = .bl c ∧ if c = true then tb σ H1 Q else Q (.bl false) H1
theorem cH {op} {t : TE} (h : PE X a t) : PE X (.BoolOp op [a] pos) t := fun pins s σ H Q I hw => BoolOp_one (h pins s σ H Q I hw)
theorem cI (ha : PE X a ta) (hb : PE X (.BoolOp .And (b :: rest) pos) tb) : PE X (.BoolOp .And (a :: b :: rest) pos) (fj ta tb) := by
 intro pins s σ H Q I h
 refine BoolOp_and (thn (ha pins s σ H _ I h) fun v s1 ⟨x, H1, I1, r1, q1⟩ => ?_)
 obtain ⟨c, rfl, q1⟩ := q1
 cases r1
 refine wpAny_truthy_bool ?_
 cases c with
 | true => exact hb pins s1 σ H1 Q I1 q1
 | false => exact ⟨.bl false, H1, I1, rfl, q1⟩
def tIf (t : TT) (ta tb : TE) : TE := fun σ H Q => t σ H fun c H1 => if c = true then ta σ H1 Q else tb σ H1 Q
theorem Wn {c : Expr} (hc : PT X c tA) (ha : PE X a ta) (hb : PE X b tb) : PE X (.IfExp c a b pos) (tIf tA ta tb) := by
 intro pins s σ H Q I h
 refine wpAny_IfExp (thn (hc pins s σ H _ I h) fun d s1 ⟨H1, I1, q1⟩ => ?_)
 cases d with
 | true => exact ha pins s1 σ H1 Q I1 q1
 | false => exact hb pins s1 σ H1 Q I1 q1
end
end L2
namespace L2
open PySem PySem.Spec PyProof.Rows
def SqL (K : PySem.W.Frag) (H : Hp) (a : Addr) (xs : List V) : Prop :=
 Rd H a (.lst xs) ∨
  ∃ (o : Obj) (its : Array Value) (n : Nat), K.lookup a = some o ∧ o.cls = .type "list" ∧ o.dict = none ∧ o.data = .seq its n ∧ its.size ≤ sizeLine ∧ Vals xs its.toList
def SqT (K : PySem.W.Frag) (H : Hp) (a : Addr) (xs : List V) : Prop :=
 Rd H a (.tup xs) ∨
  ∃ (o : Obj) (its : Array Value) (n : Nat), K.lookup a = some o ∧ o.cls = .type "tuple" ∧ o.data = .seq its n ∧ its.size ≤ sizeLine ∧ Vals xs its.toList
def absV : Value → Option V
 | .none => some .non
 | .bool b => some (.bl b)
 | .int i _ => some (.int i)
 | .str x _ => some (.str x)
 | .bytes b _ => some (.byt b)
 | .float b _ => some (.flt b)
 | .ref a => some (.ref a)
 | .type n => some (.ty n)
 | _ => none
theorem RelV.abs {x : V} {u : Value} (r : RelV x u) : absV u = some x := by
 cases x with
 | non => cases r; rfl
 | bl _ => cases r; rfl
 | int _ => obtain ⟨t, rfl⟩ := r; rfl
 | str _ => obtain ⟨t, rfl⟩ := r; rfl
 | byt _ => obtain ⟨t, rfl⟩ := r; rfl
 | flt _ => obtain ⟨t, rfl⟩ := r; rfl
 | ref _ => cases r; rfl
 | ty _ => cases r; rfl
theorem RelV.inj {x y : V} {u : Value} (r : RelV x u) (q : RelV y u) : x = y := Option.some.inj (r.abs.symm.trans q.abs)
theorem Vals.inj : ∀ {xs ys : List V} {us : List Value}, Vals xs us → Vals ys us → xs = ys
 | _, _, _, .nil, .nil => rfl
 | _, _, _, .cons r t, .cons r' t' => by rw [r.inj r', Vals.inj t t']
section
variable {X : Cx} {pins : List (Addr × Obj)} {σ : St} {H : Hp} {s : Shared} {a : Addr} {xs ys : List V}
theorem SqL.of {K : PySem.W.Frag} (h : H a = some (.lst xs)) : SqL K H a xs := .inl (.inl h)
theorem SqT.of {K : PySem.W.Frag} (h : H a = some (.tup xs)) : SqT K H a xs := .inl (.inl h)
theorem Inv.list (I : Inv X pins σ H s) (h : SqL X.K H a xs) : ∃ its : List Value, Vals xs its ∧ PlainL s.heap a its.toArray ∧ xs.length ≤ sizeLine := by
 rcases h with h | ⟨o, its, n, hk, hc, hd, hs, hz, r⟩
 ·obtain ⟨z, its, n, r, e⟩ := h.ok I.hok
  exact ⟨its, r, ⟨_, n, e, rfl, rfl, rfl⟩, z⟩
 ·refine ⟨its.toList, r, ⟨o, n, I.kIn a o hk, hc, hd, by simpa using hs⟩, ?_⟩
  have e := r.length
  simp only [Array.length_toList] at e
  omega
theorem Inv.tuple (I : Inv X pins σ H s) (h : SqT X.K H a xs) : ∃ its : List Value, Vals xs its ∧ IsTup s.heap a its.toArray ∧ xs.length ≤ sizeLine := by
 rcases h with h | ⟨o, its, n, hk, hc, hs, hz, r⟩
 ·obtain ⟨z, its, r, p⟩ := h.ok I.hok
  exact ⟨its, r, p, z⟩
 ·refine ⟨its.toList, r, ⟨o, I.kIn a o hk, hc, n, by simpa using hs⟩, ?_⟩
  have e := r.length
  simp only [Array.length_toList] at e
  omega
theorem Inv.list_inj (I : Inv X pins σ H s) (h : SqL X.K H a xs) (h' : SqL X.K H a ys) : xs = ys := by
 obtain ⟨its, r, ⟨o, n, e, _, _, d⟩, _⟩ := I.list h
 obtain ⟨its', r', ⟨o', n', e', _, _, d'⟩, _⟩ := I.list h'
 rw [e] at e'; cases e'
 rw [d] at d'
 injection d' with d1 _
 have : its = its' := by simpa using congrArg Array.toList d1
 subst this
 exact r.inj r'
theorem Inv.tuple_inj (I : Inv X pins σ H s) (h : SqT X.K H a xs) (h' : SqT X.K H a ys) : xs = ys := by
 obtain ⟨its, r, ⟨o, e, _, n, d⟩, _⟩ := I.tuple h
 obtain ⟨its', r', ⟨o', e', _, n', d'⟩, _⟩ := I.tuple h'
 rw [e] at e'; cases e'
 rw [d] at d'
 injection d' with d1 _
 have : its = its' := by simpa using congrArg Array.toList d1
 subst this
 exact r.inj r'
end
abbrev Cx.wish (X : Cx) (E : Value → Shared → Prop) : Cx := { X with xe := E }
abbrev Cx.nox (X : Cx) : Cx := X.wish fun _ _ => False
theorem Cx.Ok.wish {X : Cx} (ok : X.Ok) (E : Value → Shared → Prop) : (X.wish E).Ok :=
 ⟨ok.mod, ok.kind, ok.glob, ok.blt, ok.above, ok.inj, ok.has, ok.cab, ok.hd, ok.frames, ok.stk, ok.exf, ok.bs, ok.bsz, ok.noex, ok.exfs, ok.funs, ok.frf⟩
theorem Cx.Ok.unwish {X : Cx} {E : Value → Shared → Prop} (ok : (X.wish E).Ok) : X.Ok :=
 ⟨ok.mod, ok.kind, ok.glob, ok.blt, ok.above, ok.inj, ok.has, ok.cab, ok.hd, ok.frames, ok.stk, ok.exf, ok.bs, ok.bsz, ok.noex, ok.exfs, ok.funs, ok.frf⟩
section
variable {X : Cx} {pins : List (Addr × Obj)} {σ : St} {H : Hp} {s : Shared} {E : Value → Shared → Prop}
theorem Inv.wish (I : Inv X pins σ H s) (E : Value → Shared → Prop) : Inv (X.wish E) pins σ H s := ⟨I.ok.wish E, I.os, I.bare, I.base, I.loc, I.cell, I.free, I.freeC, I.pin, I.hok, I.len⟩
theorem Inv.unwish (I : Inv (X.wish E) pins σ H s) : Inv X pins σ H s := ⟨I.ok.unwish, I.os, I.bare, I.base, I.loc, I.cell, I.free, I.freeC, I.pin, I.hok, I.len⟩
theorem SP.unwish {D : Ends} {f : Flow} {s' : Shared} (h : SP (X.wish E) pins D f s') : SP X pins D f s' := by
 cases f with
 | next => obtain ⟨σ', H', I, q⟩ := h; exact ⟨σ', H', I.unwish, q⟩
 | brk => obtain ⟨σ', H', I, q⟩ := h; exact ⟨σ', H', I.unwish, q⟩
 | cont => obtain ⟨σ', H', I, q⟩ := h; exact ⟨σ', H', I.unwish, q⟩
 | ret u => obtain ⟨v, σ', H', I, r, q⟩ := h; exact ⟨v, σ', H', I.unwish, r, q⟩
theorem PE.nox {e : Expr} {t : TE} (h : PE X.nox e t) : PE X e t := fun pins s σ H Q I hw =>
 wpAny_mono (h pins s σ H Q (I.wish _) hw) (fun _ _ ⟨v, H', I', r, q⟩ => ⟨v, H', I'.unwish, r, q⟩) fun _ _ z => False.elim z
theorem PT.nox {e : Expr} {t : TT} (h : PT X.nox e t) : PT X e t := fun pins s σ H Q I hw =>
 wpAny_mono (h pins s σ H Q (I.wish _) hw) (fun _ _ ⟨H', I', q⟩ => ⟨H', I'.unwish, q⟩) fun _ _ z => False.elim z
theorem PSs.nox {st : List Stmt} {t : TS} (h : PSs X.nox st t) : PSs X st t := fun pins s σ H D I hw =>
 wpAny_mono (h pins s σ H D (I.wish _) hw) (fun _ _ q => q.unwish) fun _ _ z => False.elim z
end
section
variable {X : Cx} {st : Stmt} {rest : List Stmt} {t u : TS} {e : Expr} {te : TE} {pos : Pos}
def fu : TS := fun D σ H => D.nx σ H
def tSeq (t u : TS) : TS := fun D σ H => t { D with nx := u D } σ H
theorem Yw : PSs X [] fu := fun _ _ σ H _ I h => wpAny_execs_nil ⟨σ, H, I, h⟩
theorem N6 (h1 : PS X st t) (h2 : PSs X rest u) : PSs X (st :: rest) (tSeq t u) := by
 intro pins s σ H D I h
 refine wpAny_execs_cons (thn (h1 pins s σ H { D with nx := u D } I h) fun f s1 q => ?_)
 cases f with
 | next =>
  obtain ⟨σ', H', I', q⟩ := q
  exact h2 pins s1 σ' H' D I' q
 | ret v => exact q
 | brk => exact q
 | cont => exact q
theorem Qi (h1 : PS X st t) : PSs X [st] t := by
 intro pins s σ H D I h
 refine wpAny_execs_cons (thn (h1 pins s σ H D I h) fun f s1 q => ?_)
 cases f with
 | next => exact wpAny_execs_nil q
 | ret v => exact q
 | brk => exact q
 | cont => exact q
theorem Inv.quiet {pins : List (Addr × Obj)} {σ : St} {H : Hp} {s : Shared} (I : Inv X pins σ H s) : interactive X.env = false := by simp [interactive, I.ok.kind]
def aj (te : TE) : TS := fun D σ H => te σ H fun _ H1 => D.nx σ H1
theorem U0 (he : PE X e te) (hs : swapsWith e none pos.line X.env = pure false := by rfl) : PS X (.Expr e pos) (aj te) := by
 intro pins s σ H D I h
 exact wpAny_Expr_any (thn (he pins s σ H _ I h) fun v s1 ⟨x, H1, I1, r1, q1⟩ => ⟨σ, H1, I1, q1⟩) I.quiet hs
def tRet (te : TE) : TS := fun D σ H => te σ H D.rt
theorem Wo (he : PE X e te) : PS X (.Return (some e) pos) (tRet te) := by
 intro pins s σ H D I h
 exact wpAny_Return_some (thn (he pins s σ H _ I h) fun v s1 ⟨x, H1, I1, r1, q1⟩ => ⟨x, σ, H1, I1, r1, q1⟩)
def tIfS (c : TT) (t u : TS) : TS := fun D σ H => c σ H fun b H1 => if b = true then t D σ H1 else u D σ H1
theorem ak {c : Expr} {a b : List Stmt} {tc : TT} (hc : PT X c tc) (ha : PSs X a t) (hb : PSs X b u) : PS X (.If c a b pos) (tIfS tc t u) := by
 intro pins s σ H D I h
 refine wpAny_If (thn (hc pins s σ H _ I h) fun d s1 ⟨H1, I1, q1⟩ => ?_)
 cases d with
 | true => exact ha pins s1 σ H1 D I1 q1
 | false => exact hb pins s1 σ H1 D I1 q1
end
abbrev TG := V → St → Hp → (St → Hp → Prop) → Prop
def PG (X : Cx) (target : Expr) (t : TG) : Prop :=
 ∀ (pins : List (Addr × Obj)) (s : Shared) (σ : St) (H : Hp) (v : V) (u : Value) (Q : St → Hp → Prop), Inv X pins σ H s → RelV v u → t v σ H Q →
  wpAny (model X.prog X.w) X.A (assign target X.env u) (fun _ s' => ∃ σ' H', Inv X pins σ' H' s' ∧ Q σ' H') X.xe s
section
variable {X : Cx} {pos : Pos}
def IW (i : Nat) : TG := fun v σ H Q => Q (σ.set i (some v)) H
theorem Yx {i : Nat} {x : Str} (hN : X.N.Nodup) (hi : X.N[i]? = some x) (hx : Loc X.env.scope x) (hf : X.fn x = true ∨ X.env.scope.names.lookup x = some .local := by first | exact .inl rfl | exact .inr rfl | assumption) : PG X (.Name x pos) (IW i) := by
 intro pins s σ H v u Q I r h
 exact wpAny_assign_Name (IV I hN hi hx r (fun s' I' => ⟨_, H, I', h⟩) hf)
def tAsg (te : TE) (g : TG) : TS := fun D σ H => te σ H fun x H1 => g x σ H1 D.nx
theorem N7 {i : Nat} {x : Str} {e : Expr} {te : TE} {pos' : Pos} (hN : X.N.Nodup) (hi : X.N[i]? = some x) (hx : Loc X.env.scope x) (he : PE X e te) (hs : swapsWith e (some (.Name x pos')) pos.line X.env = pure false := by rfl) (hf : X.fn x = true ∨ X.env.scope.names.lookup x = some .local := by first | exact .inl rfl | exact .inr rfl | assumption) :
  PS X (.Assign [.Name x pos'] e pos) (tAsg te (IW i)) := by
 intro pins s σ H D I h
 refine wpAny_Assign_Name (thn (he pins s σ H _ I h) fun v s1 ⟨y, H1, I1, r1, q1⟩ => ?_) hs
 exact IV I1 hN hi hx r1 (fun s2 I2 => ⟨_, H1, I2, q1⟩) hf
def tPar (i j : Nat) (ta : TA) : TS := fun D σ H => ta σ H fun vs H1 => ∃ v w, vs = [v, w] ∧ D.nx ((σ.set i (some v)).set j (some w)) H1
theorem cJ {i j : Nat} {x y : Str} {a b : Expr} {ta : TA} {px py pt : Pos} {kt k2 pt2} (hc : X.calm = true) (hN : X.N.Nodup) (hi : X.N[i]? = some x) (hj : X.N[j]? = some y) (hij : i ≠ j)
  (hx : X.env.scope.names.lookup x = some .local) (hy : X.env.scope.names.lookup y = some .local) (ha : PA X [a, b] ta)
  (hw : swappedStores [.Tuple [.Name x px, .Name y py] kt pt] (.Tuple [a, b] k2 pt2) X.env = pure (some [x, y]))
  (hs : swapsWithSole [.Tuple [.Name x px, .Name y py] kt pt] (.Tuple [a, b] k2 pt2) pos.line X.env = pure false := by rfl) :
  PS X (.Assign [.Tuple [.Name x px, .Name y py] kt pt] (.Tuple [a, b] k2 pt2) pos) (tPar i j ta) := by
 intro pins s σ H D I h
 rw [exec_Assign_arm]
 refine wpAny_bind (wpAny_standAt ?_)
 rw [hs]
 refine wpAny_bind (wpAny_pure ?_)
 rw [if_neg (by decide)]
 refine wpAny_bind (Tuple_ (thn (ha _ pins s σ H _ I h) fun us s1 ⟨vs, H1, I1, r1, q1⟩ => ?_))
 obtain ⟨v, w, e1, q1⟩ := q1
 subst e1
 obtain ⟨u1, u2, rfl, rv, rw'⟩ : ∃ u1 u2, us = [u1, u2] ∧ RelV v u1 ∧ RelV w u2 := by
  cases r1 with
  | cons p q =>
   cases q with
   | cons p' q' =>
    cases q'
    exact ⟨_, _, rfl, p, p'⟩
 refine wpAny_newObj_type ?_ (by show 2 ≤ sizeLine; decide)
 have I2 : Inv X pins σ H1 { s1 with heap := s1.heap.push { cls := .type "tuple", data := .seq [u1, u2].toArray } } := I1.kept (t' := s1.toks) fun b o e => Heap.get?_push_of_some _ e
 rw [hw]
 refine wpAny_bind (wpAny_pure ?_)
 show wpAny (model X.prog X.w) X.A (do rule "assign.swapped-stores"; let items ← unpackItems (.ref s1.heap.objs.size) 2 none; assignInOrder [fun v => bindName X.env y v, fun v => bindName X.env x v] items.reverse; pure Flow.next) _ _ _
 refine wpAny_bind (wpAny_rule (wpAny_bind (unpackItems_tuple (items := #[u1, u2]) (I.ok.hd hc) (IsTup.new s1.heap _) fun h' hx' => ?_)))
 have I3 := I2.kept (h' := h') (t' := s1.toks) fun b o e => hx' b o (Nat.ne_of_lt (Heap.lt_size e)) e
 show wpAny _ _ (assignInOrder [fun v => bindName X.env y v, fun v => bindName X.env x v] [u2, u1] >>= fun _ => pure Flow.next) _ _ _
 refine wpAny_bind (assignInOrder_cons (wpAny_bindName (IV I3 hN hj (.inl hy) rw' (fun s2 I4 => ?_) (.inr hy))))
 refine assignInOrder_cons (wpAny_bindName (IV I4 hN hi (.inl hx) rv (fun s3 I5 => assignInOrder_nil (wpAny_pure ?_)) (.inr hx)))
 rw [List.set_comm _ _ (Ne.symm hij)] at I5
 exact ⟨_, H1, I5, q1⟩
end
section
variable {X : Cx} {pos : Pos}
def cL (c : TT) (tb : TS) : TS := fun D σ H => ∃ W : Nat → St → Hp → Prop, (∃ m, W m σ H) ∧ ∀ m σ H, W m σ H →
 c σ H fun b H1 => if b = true then ∃ N : St → Hp → Prop, (∀ σ' H', N σ' H' → ∃ m', m' < m ∧ W m' σ' H') ∧ tb { D with nx := N, ct := N, bk := D.nx } σ H1 else D.nx σ H1
theorem Wq {c : Expr} {body : List Stmt} {tc : TT} {tb : TS} (hp : PassesOwn (model X.prog X.w) X.A X.env X.xe) (hc : PT X c tc) (hb : PSs X body tb) : PS X (.While c body [] pos) (cL tc tb) := by
 intro pins s σ H D I h
 obtain ⟨W, ⟨m0, w0⟩, turn⟩ := h
 refine wpAny_While (codeAny_whileLoop (fun n s' => ∃ σ' H', Inv X pins σ' H' s' ∧ W n σ' H') ?_ m0 ⟨σ, H, I, w0⟩)
 rintro n s1 ⟨σ1, H1, I1, w1⟩
 refine wpAny_passesOwn hp (thn (hc pins s1 σ1 H1 _ I1 (turn n σ1 H1 w1)) fun b s2 ⟨H2, I2, q2⟩ => ?_)
 cases b with
 | true =>
  obtain ⟨N, hN, q2⟩ := q2
  rw [if_pos rfl]
  refine wpAny_passesOwn hp (thn (hb pins s2 σ1 H2 _ I2 q2) fun f s3 q3 => ?_)
  cases f with
  | next =>
   obtain ⟨σ3, H3, I3, n3⟩ := q3
   obtain ⟨m', hm, w3⟩ := hN σ3 H3 n3
   exact ⟨m', hm, σ3, H3, I3, w3⟩
  | cont =>
   obtain ⟨σ3, H3, I3, n3⟩ := q3
   obtain ⟨m', hm, w3⟩ := hN σ3 H3 n3
   exact ⟨m', hm, σ3, H3, I3, w3⟩
  | brk => exact q3
  | ret v => exact q3
 | false =>
  rw [if_neg Bool.false_ne_true]
  exact wpAny_execs_nil ⟨σ1, H2, I2, q2⟩
end
structure It where
 go : Nat → Hp → Prop
 yld : Nat → Hp → V → Hp → Prop
 stop : Nat → Hp → Prop
def FpOk (X : Cx) (pins : List (Addr × Obj)) (H : Hp) (b : Addr) : Prop :=
 H b = none ∧ b ≠ X.env.locals ∧ b ∉ X.fs ∧ (b ∈ X.ex ∨ X.s₀.heap.objs.size ≤ b) ∧ (∀ x c, X.env.cells.lookup x = some c → c ≠ b) ∧ ∀ p ∈ X.pn ++ pins, p.1 ≠ b
theorem Inv.fpOk {X : Cx} {pins : List (Addr × Obj)} {σ : St} {H H' : Hp} {s : Shared} {b : Addr} (I : Inv X pins σ H s) (hb : s.heap.objs.size ≤ b) (hn : H' b = none) : FpOk X pins H' b := by
 refine ⟨hn, Nat.ne_of_gt (Nat.lt_of_lt_of_le I.lt hb), I.nofs hb, .inr (Nat.le_trans I.sz hb), fun x c e z => ?_, fun p hp z => ?_⟩
 ·obtain ⟨v, q⟩ := I.cell x c e
  exact absurd (Nat.lt_of_lt_of_le q.lt (by rw [z]; exact hb)) (Nat.lt_irrefl _)
 ·exact absurd (Nat.lt_of_lt_of_le (Heap.lt_size (I.pin p hp).1) (by rw [z]; exact hb)) (Nat.lt_irrefl _)
structure Turn (P : Program) (w : World) (K : PySem.W.Frag) (tg : Expr) (J : It) (fp : List Addr) (it : Addr) (tn : Nat → Heap → Prop) : Prop where
 mem : it ∈ fp
 obj : ∀ i h, tn i h → ∀ b ∈ fp, ∃ o, h.get? b = some o ∧ ∀ v, o.data ≠ .cell v
 keep : ∀ i h h', tn i h → (∀ b ∈ fp, ∀ o, h.get? b = some o → h'.get? b = some o) → tn i h'
 item : ∀ (X : Cx), X.prog = P → X.w = w → X.K = K → X.calm = true → ∀ (i : Nat) (pins : List (Addr × Obj)) (s : Shared) (σ : St) (H : Hp) (E : Value → Shared → Prop), Inv X pins σ H s → (∀ b ∈ fp, FpOk X pins H b) → tn i s.heap → J.go i H →
  wpAny (model P w) X.A (pyNext (.ref it)) (fun r s1 => ∃ u, r = some u ∧
   wpAny (model P w) X.A (letOwnedTupleGo tg (.ref it) u) (fun _ s2 => ∃ x H', Inv X pins σ H' s2 ∧ RelV x u ∧ J.yld i H x H' ∧ tn (i + 1) s2.heap ∧ ∀ b ∈ fp, H' b = none) E s1) E s
 done : ∀ (X : Cx), X.prog = P → X.w = w → X.K = K → X.calm = true → ∀ (i : Nat) (pins : List (Addr × Obj)) (s : Shared) (σ : St) (H : Hp) (E : Value → Shared → Prop), Inv X pins σ H s → (∀ b ∈ fp, FpOk X pins H b) → tn i s.heap → J.stop i H →
  wpAny (model P w) X.A (pyNext (.ref it)) (fun r s1 => r = none ∧ Inv X pins σ H s1) E s
 self : ∀ (A : Around) (i : Nat) (s : Shared) (Q : Value → Shared → Prop) (E : Value → Shared → Prop), tn i s.heap → Q (.ref it) s → wpAny (model P w) A (pyIter (.ref it)) Q E s
abbrev TI := St → Hp → (It → Hp → Prop) → Prop
def PIE (X : Cx) (pins : List (Addr × Obj)) (σ : St) (tg : Expr) (R : It → Hp → Prop) (itv : Value) (s2 : Shared) : Prop :=
 ∃ (it : Addr) (fp : List Addr) (tn : Nat → Heap → Prop) (J : It) (H' : Hp), itv = .ref it ∧ Inv X pins σ H' s2 ∧ Turn X.prog X.w X.K tg J fp it tn ∧ tn 0 s2.heap ∧ (∀ b ∈ fp, FpOk X pins H' b) ∧ R J H'
def PI (X : Cx) (tg iter : Expr) (wi : TI) : Prop :=
 ∀ (pins : List (Addr × Obj)) (s : Shared) (σ : St) (H : Hp) (R : It → Hp → Prop), Inv X pins σ H s → wi σ H R →
  wpAny (model X.prog X.w) X.A (eval iter X.env) (fun v s1 => wpAny (model X.prog X.w) X.A (pyIter v) (PIE X pins σ tg R) X.xe s1) X.xe s
theorem S6 {M : Model} {A : Around} {E : Value → Shared → Prop} {s : Shared} {tg : Expr} {it : Addr} {u : Value} {o : Obj} {n : String} {vs : Array Value} {Q : Unit → Shared → Prop} (ho : s.heap.get? it = some o) (hc : o.cls = .type n) (hd : o.data = .fields vs)
    (hn : ["enumerate", "zip", "dict_itemiterator", "dict_reverseitemiterator", "odict_iterator", "itertools.zip_longest", "itertools.pairwise"].contains n = false) (hQ : Q () s) : wpAny M A (letOwnedTupleGo tg (.ref it) u) Q E s := by
  unfold letOwnedTupleGo
  cases tg <;> first
    | exact wpAny_pure hQ
    | (cases u <;> first
        | exact wpAny_pure hQ
        | (refine wpAny_bind (wpAny_load ho ?_)
           rw [hc, hd]
           show wpAny M A (if (["enumerate", "zip", "dict_itemiterator", "dict_reverseitemiterator", "odict_iterator", "itertools.zip_longest", "itertools.pairwise"].contains n && vs[0]? == some (rawInt _)) = true then _ else _) Q E s
           rw [if_neg (by intro h; rw [hn, Bool.false_and] at h; cases h)]
           exact wpAny_pure hQ))
def Itl (K : PySem.W.Frag) (a : Addr) : It :=
 ⟨fun i H => ∃ xs x, SqL K H a xs ∧ xs[i]? = some x, fun i H x H' => H' = H ∧ ∀ xs, SqL K H a xs → xs[i]? = some x, fun i H => ∃ xs, SqL K H a xs ∧ xs.length ≤ i⟩
def Itt (K : PySem.W.Frag) (a : Addr) : It :=
 ⟨fun i H => ∃ xs x, SqT K H a xs ∧ xs[i]? = some x, fun i H x H' => H' = H ∧ ∀ xs, SqT K H a xs → xs[i]? = some x, fun i H => ∃ xs, SqT K H a xs ∧ xs.length ≤ i⟩
def Itr (lo : Int) (n : Nat) : It := ⟨fun i _ => i < n, fun i H x H' => H' = H ∧ x = .int (lo + i), fun i _ => n ≤ i⟩
theorem V9 {P : Program} {w : World} {K : PySem.W.Frag} {tg : Expr} (a it : Addr) : Turn P w K tg (Itl K a) [it] it (fun i h => h.IsListIter it a i) where
 mem := by simp
 obj := fun i h st b hb => by
  have e : b = it := by simpa using hb
  subst e
  obtain ⟨o, e, c, d⟩ := st
  exact ⟨o, e, fun v z => by rw [d] at z; cases z⟩
 keep := fun i h h' st k => st.at fun o e => k it (by simp) o e
 item := by
  intro X hP hw hK hc i pins s σ H E I hf st hg
  subst hP hw hK
  obtain ⟨xs, x, hq, hx⟩ := hg
  obtain ⟨its, rv, p, hz⟩ := I.list hq
  obtain ⟨u, hu, ru⟩ := rv.get hx
  obtain ⟨f0, f1, f2, f3, f4, f5⟩ := hf it (by simp)
  refine wpAny_pyNext_list_item st p.isList (x := u) (by simpa using hu) fun h' st' sb => ?_
  have I1 : Inv X pins σ H { s with heap := h' } := I.turned (t' := s.toks) (fun b o hb e => (sb.2 b hb).trans e) f0 f1 f3 f4 f5
  obtain ⟨o, e, c, d⟩ := id st'
  exact ⟨u, rfl, S6 (s := { s with heap := h' }) e c d (by decide) ⟨x, H, I1, ru, ⟨rfl, fun ys hy => by rw [I.list_inj hy hq]; exact hx⟩, st', fun b hb => (hf b hb).1⟩⟩
 done := by
  intro X hP hw hK hc i pins s σ H E I hf st hg
  subst hP hw hK
  obtain ⟨xs, hq, hx⟩ := hg
  obtain ⟨its, rv, p, hz⟩ := I.list hq
  obtain ⟨f0, f1, f2, f3, f4, f5⟩ := hf it (by simp)
  have hl := rv.length
  exact wpAny_pyNext_list_end (I.ok.hd hc) st p.isList (by simp; omega) fun h' eb => ⟨rfl, I.turned (t' := s.toks) (fun b o hb e => eb b o hb e) f0 f1 f3 f4 f5⟩
 self := fun _ _ _ _ _ st h => wpAny_pyIter_listiter st h
theorem UW {P : Program} {w : World} {K : PySem.W.Frag} {tg : Expr} (a it : Addr) : Turn P w K tg (Itt K a) [it] it (fun i h => h.IsTupleIter it a i) where
 mem := by simp
 obj := fun i h st b hb => by
  have e : b = it := by simpa using hb
  subst e
  obtain ⟨o, e, c, d⟩ := st
  exact ⟨o, e, fun v z => by rw [d] at z; cases z⟩
 keep := fun i h h' st k => st.at fun o e => k it (by simp) o e
 item := by
  intro X hP hw hK hc i pins s σ H E I hf st hg
  subst hP hw hK
  obtain ⟨xs, x, hq, hx⟩ := hg
  obtain ⟨its, rv, p, hz⟩ := I.tuple hq
  obtain ⟨u, hu, ru⟩ := rv.get hx
  obtain ⟨f0, f1, f2, f3, f4, f5⟩ := hf it (by simp)
  refine wpAny_pyNext_tuple_item st (show s.heap.IsTuple a its.toArray from p) (x := u) (by simpa using hu) fun h' st' sb => ?_
  have I1 : Inv X pins σ H { s with heap := h' } := I.turned (t' := s.toks) (fun b o hb e => (sb.2 b hb).trans e) f0 f1 f3 f4 f5
  obtain ⟨o, e, c, d⟩ := id st'
  exact ⟨u, rfl, S6 (s := { s with heap := h' }) e c d (by decide) ⟨x, H, I1, ru, ⟨rfl, fun ys hy => by rw [I.tuple_inj hy hq]; exact hx⟩, st', fun b hb => (hf b hb).1⟩⟩
 done := by
  intro X hP hw hK hc i pins s σ H E I hf st hg
  subst hP hw hK
  obtain ⟨xs, hq, hx⟩ := hg
  obtain ⟨its, rv, p, hz⟩ := I.tuple hq
  obtain ⟨f0, f1, f2, f3, f4, f5⟩ := hf it (by simp)
  have hl := rv.length
  exact wpAny_pyNext_tuple_end (I.ok.hd hc) st (show s.heap.IsTuple a its.toArray from p) (by simp; omega) fun h' eb => ⟨rfl, I.turned (t' := s.toks) (fun b o hb e => eb b o hb e) f0 f1 f3 f4 f5⟩
 self := fun _ _ _ _ _ st h => wpAny_pyIter_tupleiter st h
theorem Ua {P : Program} {w : World} {K : PySem.W.Frag} {tg : Expr} (it : Addr) (lo : Int) (n : Nat) : Turn P w K tg (Itr lo n) [it] it (fun i h => IsRangeIter h it (lo + (i : Nat) * 1) ((n : Int) - (i : Nat)) 1) where
 mem := by simp
 obj := fun i h st b hb => by
  have e : b = it := by simpa using hb
  subst e
  exact ⟨_, st, fun v z => by
   have z' : Data.fields _ = Data.cell v := z
   cases z'⟩
 keep := fun i h h' st k => k it (by simp) _ st
 item := by
  intro X hP hw hK hc i pins s σ H E I hf st hg
  subst hP hw hK
  obtain ⟨f0, f1, f2, f3, f4, f5⟩ := hf it (by simp)
  have W := Walks.range (prog := X.prog) (w := X.w) (I.ok.hd hc) it lo 1 n
  refine W.item i s _ _ hg st fun v h' tk hv st' kk => ?_
  obtain ⟨t, rfl⟩ := hv
  have I1 : Inv X pins σ H { s with heap := h', toks := tk } := I.turned (fun b o hb e => kk b o (by simpa using hb) e) f0 f1 f3 f4 f5
  refine ⟨_, rfl, S6 (s := { s with heap := h', toks := tk }) (n := "range_iterator") st' rfl rfl (by decide) ⟨.int (lo + i), H, I1, ⟨t, ?_⟩, ⟨rfl, rfl⟩, st', fun b hb => (hf b hb).1⟩⟩
  rw [Int.mul_one]
 done := by
  intro X hP hw hK hc i pins s σ H E I hf st hg
  subst hP hw hK
  obtain ⟨f0, f1, f2, f3, f4, f5⟩ := hf it (by simp)
  exact wpAny_pyNext_range_end (I.ok.hd hc) st (by have : n ≤ i := hg; omega) fun h' eb => ⟨rfl, I.turned (t' := s.toks) (fun b o hb e => eb b o hb e) f0 f1 f3 f4 f5⟩
 self := fun _ _ _ _ _ st h => wpAny_pyIter_rangeiter st h
end L2
namespace L2
open PySem PySem.Spec PyProof.Rows
section
variable {X : Cx} {tg : Expr}
def gA (K : PySem.W.Frag) (tl : TE) : TI := fun σ H R => tl σ H fun x H1 => ∃ a, x = .ref a ∧ (∃ xs, SqL K H1 a xs) ∧ R (Itl K a) H1
def iTup (K : PySem.W.Frag) (tl : TE) : TI := fun σ H R => tl σ H fun x H1 => ∃ a, x = .ref a ∧ (∃ xs, SqT K H1 a xs) ∧ R (Itt K a) H1
theorem U3 {l : Expr} {tl : TE} (hl : PE X l tl) : PI X tg l (gA X.K tl) := by
 intro pins s σ H R I h
 refine thn (hl pins s σ H _ I h) fun v s1 ⟨x, H1, I1, r1, q1⟩ => ?_
 obtain ⟨a, e, ⟨xs, hq⟩, q⟩ := q1
 subst e
 cases r1
 obtain ⟨its, rv, p, hz⟩ := I1.list hq
 refine wpAny_pyIter_list p.isList ?_
 refine ⟨s1.heap.objs.size, [s1.heap.objs.size], _, _, H1, rfl, I1.kept (t' := s1.toks) fun b o e => Heap.get?_push_of_some _ e, V9 a _, ⟨_, Heap.get?_push_size _ rfl, rfl, rfl⟩, fun b hb => ?_, q⟩
 have e : b = s1.heap.objs.size := by simpa using hb
 subst e
 exact I1.fpOk (Nat.le_refl _) (I1.hok.fresh (Nat.le_refl _))
theorem Wr {l : Expr} {tl : TE} (hl : PE X l tl) : PI X tg l (iTup X.K tl) := by
 intro pins s σ H R I h
 refine thn (hl pins s σ H _ I h) fun v s1 ⟨x, H1, I1, r1, q1⟩ => ?_
 obtain ⟨a, e, ⟨xs, hq⟩, q⟩ := q1
 subst e
 cases r1
 obtain ⟨its, rv, p, hz⟩ := I1.tuple hq
 refine wpAny_pyIter_tuple (show s1.heap.IsTuple a its.toArray from p) ?_
 refine ⟨s1.heap.objs.size, [s1.heap.objs.size], _, _, H1, rfl, I1.kept (t' := s1.toks) fun b o e => Heap.get?_push_of_some _ e, UW a _, ⟨_, Heap.get?_push_size _ rfl, rfl, rfl⟩, fun b hb => ?_, q⟩
 have e : b = s1.heap.objs.size := by simpa using hb
 subst e
 exact I1.fpOk (Nat.le_refl _) (I1.hok.fresh (Nat.le_refl _))
theorem Ws {pins : List (Addr × Obj)} {σ : St} {H : Hp} {s : Shared} {R : It → Hp → Prop} {E : Value → Shared → Prop} {lo hi : Int} {t u v : Tok} {tk : Nat} (I : Inv X pins σ H s) (h1 : -(2 ^ 62) ≤ lo) (h2 : lo < 2 ^ 62) (h3 : -(2 ^ 62) ≤ hi) (h4 : hi < 2 ^ 62)
  (q : R (Itr lo (hi - lo).toNat) H) : wpAny (model X.prog X.w) X.A (pyIter (.ref s.heap.objs.size)) (PIE X pins σ tg R) E { s with heap := s.heap.push { cls := .type "range", data := .fields #[.int lo t, .int hi u, .int 1 v] }, toks := tk } := by
 refine wpAny_pyIter_range (IsRange.new ..) (small_one h1 h2 h3 h4) ?_
 have I1 : Inv X pins σ H { s with heap := s.heap.push { cls := .type "range", data := .fields #[.int lo t, .int hi u, .int 1 v] }, toks := tk } := I.kept fun b o e => Heap.get?_push_of_some _ e
 refine ⟨(s.heap.push { cls := .type "range", data := .fields #[.int lo t, .int hi u, .int 1 v] }).objs.size, [(s.heap.push { cls := .type "range", data := .fields #[.int lo t, .int hi u, .int 1 v] }).objs.size], _, _, H, rfl,
  I1.kept (t' := tk) fun b o e => Heap.get?_push_of_some _ e, Ua _ lo (hi - lo).toNat, ?_, fun b hb => ?_, q⟩
 ·have e1 : lo + ((0 : Nat) : Int) * 1 = lo := by simp
  have e2 : (((hi - lo).toNat : Nat) : Int) - ((0 : Nat) : Int) = Builtin.Range.rangeSize lo hi 1 := by rw [rangeSize_one]; split <;> omega
  show IsRangeIter _ _ (lo + ((0 : Nat) : Int) * 1) ((((hi - lo).toNat : Nat) : Int) - ((0 : Nat) : Int)) 1
  rw [e1, e2]
  exact Heap.get?_push_size _ rfl
 ·have e : b = (s.heap.push { cls := .type "range", data := .fields #[.int lo t, .int hi u, .int 1 v] }).objs.size := by simpa using hb
  subst e
  exact I1.fpOk (Nat.le_refl _) (I1.hok.fresh (Nat.le_refl _))
def gB (ta : TA) : TI := fun σ H R => ta σ H fun vs H1 => ∃ j : Int, vs = [.int j] ∧ -(2 ^ 62) ≤ j ∧ j < 2 ^ 62 ∧ R (Itr 0 j.toNat) H1
theorem V_ {a : Expr} {ta : TA} {p pos : Pos} (hg : Gl X "range") (hm : X.mg "range" = none) (ha : PA X [a] ta) (hs : starEach [a] X.env = [(false, eval a X.env)] := by rfl) : PI X tg (.Call (.Name "range" p) [a] [] pos) (gB ta) := by
 intro pins s σ H R I h
 refine Call_ (UV I hg hm boot_range (PyProof.Rows.callWith_type1 (thn (ha pos pins s σ H _ I h) fun us s1 ⟨vs, H1, I1, r1, q1⟩ => ?_) hs rfl))
 obtain ⟨j, e, q1, q2, q⟩ := q1
 subst e
 cases r1 with
 | cons r rr =>
  cases rr
  obtain ⟨t, rfl⟩ := r
  exact call_range_1 (Ws I1 (by omega) (by omega) q1 q2 (by simpa using q))
def tFor (wi : TI) (g : TG) (tb : TS) : TS := fun D σ H => wi σ H fun J H1 => ∃ W : Nat → Nat → St → Hp → Prop, (∃ m, W 0 m σ H1) ∧ ∀ i m σ H, W i m σ H →
 (J.stop i H ∧ D.nx σ H) ∨ (J.go i H ∧ ∃ N : St → Hp → Prop, (∀ σ' H', N σ' H' → ∃ m', m' < m ∧ W (i + 1) m' σ' H') ∧ ∀ x H', J.yld i H x H' → g x σ H' fun σ2 H2 => tb { D with nx := N, ct := N, bk := D.nx } σ2 H2)
def N8 (fp : List Addr) (h : Heap) : List (Addr × Obj) := fp.filterMap fun b => (h.get? b).map fun o => (b, o)
theorem Io {fp : List Addr} {h : Heap} {b : Addr} {o : Obj} (hb : b ∈ fp) (e : h.get? b = some o) : (b, o) ∈ N8 fp h := List.mem_filterMap.mpr ⟨b, hb, by rw [e]; rfl⟩
theorem WD {fp : List Addr} {h : Heap} {p : Addr × Obj} (hp : p ∈ N8 fp h) : p.1 ∈ fp ∧ h.get? p.1 = some p.2 := by
 obtain ⟨b, hb, e⟩ := List.mem_filterMap.mp hp
 cases q : h.get? b with
 | none => rw [q] at e; cases e
 | some o =>
  rw [q] at e
  have e' : (b, o) = p := Option.some.inj e
  subst e'
  exact ⟨hb, q⟩
theorem Inv.pinned {pins : List (Addr × Obj)} {σ : St} {H : Hp} {s : Shared} {fp : List Addr} (I : Inv X pins σ H s) (hf : ∀ b ∈ fp, FpOk X pins H b) (ho : ∀ b ∈ fp, ∃ o, s.heap.get? b = some o ∧ ∀ v, o.data ≠ .cell v) : Inv X (pins ++ N8 fp s.heap) σ H s :=
 I.pins_of fun p hp => (List.mem_append.mp hp).elim (fun z => I.pin p (List.mem_append_right _ z)) fun z => by
  obtain ⟨hb, e⟩ := WD z
  obtain ⟨f0, f1, f2, _⟩ := hf p.1 hb
  obtain ⟨o, e', d⟩ := ho p.1 hb
  rw [e] at e'; cases e'
  exact ⟨e, f0, f1, f2, d⟩
theorem Inv.unpinned {pins pl : List (Addr × Obj)} {σ : St} {H : Hp} {s : Shared} (I : Inv X (pins ++ pl) σ H s) : Inv X pins σ H s := I.pins_of fun p hp => I.pin p (List.mem_append_right _ (List.mem_append_left _ hp))
theorem cM {iter : Expr} {body : List Stmt} {wi : TI} {g : TG} {tb : TS} {pos : Pos} (hp : PassesOwn (model X.prog X.w) X.A X.env X.xe) (hc : X.calm = true) (hi : PI X tg iter wi) (hg : PG X tg g) (hb : PSs X body tb)
  (hs : ∀ x, foldedSetIterable iter X.env x = pure x := by intro _; rfl) : PS X (.For tg iter body [] pos) (tFor wi g tb) := by
 intro pins s σ H D I h
 refine wpAny_For (thn (hi pins s σ H _ I h) fun v s1 h1 => thn h1 fun itv s2 h2 => ?_) hs
 obtain ⟨it, fp, tn, J, H2, e, I2, T, st2, f2, W, ⟨m0, w0⟩, turn⟩ := h2
 subst e
 have stat : ∀ {H' : Hp}, (∀ b ∈ fp, H' b = none) → ∀ b ∈ fp, FpOk X pins H' b := fun hn b hb => ⟨hn b hb, (f2 b hb).2⟩
 refine codeAny_forLoop_any (fun n s' => ∃ i σ' H', Inv X pins σ' H' s' ∧ tn i s'.heap ∧ (∀ b ∈ fp, H' b = none) ∧ W i n σ' H') ?_ m0 ⟨0, σ, H2, I2, st2, fun b hb => (f2 b hb).1, w0⟩
 rintro n s3 ⟨i, σ3, H3, I3, st3, fr3, w3⟩
 rcases turn i n σ3 H3 w3 with ⟨stop, qn⟩ | ⟨go, N, hN, step⟩
 ·refine wpAny_passesOwn hp (thn (T.done X rfl rfl rfl hc i pins s3 σ3 H3 X.xe I3 (stat fr3) st3 stop) fun r s4 ⟨hr, I4⟩ => ?_)
  subst hr
  exact wpAny_execs_nil ⟨σ3, H3, I4, qn⟩
 ·refine wpAny_passesOwn hp (thn (T.item X rfl rfl rfl hc i pins s3 σ3 H3 X.xe I3 (stat fr3) st3 go) fun r s4 ⟨u, hr, h4⟩ => ?_)
  subst hr
  refine wpAny_passesOwn hp (thn h4 fun _ s5 ⟨x, H5, I5, r5, y5, st5, fr5⟩ => ?_)
  have I5' := I5.pinned (stat fr5) (T.obj _ _ st5)
  refine wpAny_passesOwn hp (thn (hg _ s5 σ3 H5 x u _ I5' r5 (step x H5 y5)) fun _ s6 ⟨σ6, H6, I6, q6⟩ => ?_)
  refine wpAny_passesOwn hp (thn (hb _ s6 σ6 H6 _ I6 q6) fun f s7 q7 => ?_)
  have again : ∀ {σ7 : St} {H7 : Hp}, Inv X (pins ++ N8 fp s5.heap) σ7 H7 s7 → N σ7 H7 → ∃ m, m < n ∧ ∃ i σ' H', Inv X pins σ' H' s7 ∧ tn i s7.heap ∧ (∀ b ∈ fp, H' b = none) ∧ W i m σ' H' := fun {σ7 H7} I7 n7 => by
   obtain ⟨m', hm, w7⟩ := hN σ7 H7 n7
   refine ⟨m', hm, i + 1, σ7, H7, I7.unpinned, T.keep _ _ _ st5 fun b hb o e => (I7.pin (b, o) (List.mem_append_right _ (List.mem_append_right _ (Io hb e)))).1, fun b hb => ?_, w7⟩
   obtain ⟨o, e, d⟩ := T.obj _ _ st5 b hb
   exact (I7.pin (b, o) (List.mem_append_right _ (List.mem_append_right _ (Io hb e)))).2.1
  cases f with
  | next => obtain ⟨σ7, H7, I7, n7⟩ := q7; exact again I7 n7
  | cont => obtain ⟨σ7, H7, I7, n7⟩ := q7; exact again I7 n7
  | brk => obtain ⟨σ7, H7, I7, q7⟩ := q7; exact ⟨σ7, H7, I7.unpinned, q7⟩
  | ret v => obtain ⟨x7, σ7, H7, I7, r7, q7⟩ := q7; exact ⟨x7, σ7, H7, I7.unpinned, r7, q7⟩
end
end L2
namespace L2
open PySem PySem.Spec PyProof.Rows
abbrev R2 := V → V → Hp → VK → Prop
def OpR (X : Cx) (f : Value → Value → Sem Value) (r : R2) : Prop :=
 ∀ (pins : List (Addr × Obj)) (s : Shared) (σ : St) (H : Hp) (x y : V) (v u : Value) (Q : VK), Inv X pins σ H s → RelV x v → RelV y u → r x y H Q →
  wpAny (model X.prog X.w) X.A (f v u) (EP X pins σ Q) X.xe s
def UnR (X : Cx) (f : Value → Sem Value) (r : V → Hp → VK → Prop) : Prop :=
 ∀ (pins : List (Addr × Obj)) (s : Shared) (σ : St) (H : Hp) (x : V) (v : Value) (Q : VK), Inv X pins σ H s → RelV x v → r x H Q →
  wpAny (model X.prog X.w) X.A (f v) (EP X pins σ Q) X.xe s
def JS (X : Cx) (f : Value) (r : List V → Hp → VK → Prop) : Prop :=
 ∀ (pins : List (Addr × Obj)) (s : Shared) (σ : St) (H : Hp) (xs : List V) (us : List Value) (Q : VK), Inv X pins σ H s → Vals xs us → r xs H Q →
  wpAny (model X.prog X.w) X.A (call f us) (EP X pins σ Q) X.xe s
def TruR (X : Cx) (r : V → Hp → (Bool → Hp → Prop) → Prop) : Prop :=
 ∀ (pins : List (Addr × Obj)) (s : Shared) (σ : St) (H : Hp) (x : V) (v : Value) (Q : Bool → Hp → Prop), Inv X pins σ H s → RelV x v → r x H Q →
  wpAny (model X.prog X.w) X.A (truthy v) (TP X pins σ Q) X.xe s
def tOp (r : R2) (ta tb : TE) : TE := fun σ H Q => ta σ H fun x H1 => tb σ H1 fun y H2 => r x y H2 Q
def tUn (r : V → Hp → VK → Prop) (ta : TE) : TE := fun σ H Q => ta σ H fun x H1 => r x H1 Q
def rI (C : Int → Int → Prop) (g : Int → Int → V) : R2 := fun x y H Q => ∃ i j, x = .int i ∧ y = .int j ∧ C i j ∧ Q (g i j) H
def rI0 (g : Int → Int → V) : R2 := fun x y H Q => ∃ i j, x = .int i ∧ y = .int j ∧ Q (g i j) H
def rU (g : Int → V) : V → Hp → VK → Prop := fun x H Q => ∃ i, x = .int i ∧ Q (g i) H
section
variable {X : Cx} {a b c : Expr} {ta tb tc : TE} {pos : Pos}
theorem binT (ha : PE X a ta) (hb : PE X b tb) {pins : List (Addr × Obj)} {s : Shared} {σ : St} {H : Hp} {R : V → V → Hp → Prop} (I : Inv X pins σ H s)
  (h : ta σ H fun x H1 => tb σ H1 fun y H2 => R x y H2) {Q : Value → Shared → Prop} {f : Value → Value → Sem Value}
  (hf : ∀ v u s2 x y H2, Inv X pins σ H2 s2 → RelV x v → RelV y u → R x y H2 → wpAny (model X.prog X.w) X.A (f v u) Q X.xe s2) :
  wpAny (model X.prog X.w) X.A (eval a X.env) (fun v s₁ => wpAny (model X.prog X.w) X.A (eval b X.env) (fun u s₂ => wpAny (model X.prog X.w) X.A (f v u) Q X.xe s₂) X.xe s₁) X.xe s := by
 refine thn (ha pins s σ H _ I h) fun v s1 ⟨x, H1, I1, r1, q1⟩ => ?_
 refine thn (hb pins s1 σ H1 _ I1 q1) fun u s2 ⟨y, H2, I2, r2, q2⟩ => ?_
 exact hf v u s2 x y H2 I2 r1 r2 q2
theorem gC {op : Operator} {r : R2} (ho : OpR X (binaryOp op) r) (ha : PE X a ta) (hb : PE X b tb) : PE X (.BinOp a op b pos) (tOp r ta tb) := by
 intro pins s σ H Q I h
 exact wpAny_BinOp (binT ha hb I h fun v u s2 x y H2 I2 rx ry q => ho pins s2 σ H2 x y v u Q I2 rx ry q)
theorem gD {op : UnaryOp} {r : V → Hp → VK → Prop} (ho : UnR X (unaryOp op) r) (ha : PE X a ta) : PE X (.UnaryOp op a pos) (tUn r ta) := by
 intro pins s σ H Q I h
 exact UnaryOp_ (thn (ha pins s σ H _ I h) fun v s1 ⟨x, H1, I1, r1, q1⟩ => ho pins s1 σ H1 x v Q I1 r1 q1)
theorem opI {f : Value → Value → Sem Value} {C : Int → Int → Prop} {g : Int → Int → Int}
  (rule : ∀ (i j : Int) (t u : Tok) (s : Shared) (Q : Value → Shared → Prop) (E : Value → Shared → Prop), C i j → Q (.int (g i j) s.toks) { s with toks := s.toks + 1 } → wpAny (model X.prog X.w) X.A (f (.int i t) (.int j u)) Q E s) :
  OpR X f (rI C fun i j => .int (g i j)) := by
 intro pins s σ H x y v u Q I rx ry h
 obtain ⟨i, j, rfl, rfl, hc, q⟩ := h
 obtain ⟨t, rfl⟩ := rx
 obtain ⟨t', rfl⟩ := ry
 exact rule i j t t' s _ _ hc ⟨.int (g i j), H, I.tok _, ⟨_, rfl⟩, q⟩
theorem opI0 {f : Value → Value → Sem Value} {g : Int → Int → Int}
  (rule : ∀ (i j : Int) (t u : Tok) (s : Shared) (Q : Value → Shared → Prop) (E : Value → Shared → Prop), Q (.int (g i j) s.toks) { s with toks := s.toks + 1 } → wpAny (model X.prog X.w) X.A (f (.int i t) (.int j u)) Q E s) :
  OpR X f (rI0 fun i j => .int (g i j)) := by
 intro pins s σ H x y v u Q I rx ry h
 obtain ⟨i, j, rfl, rfl, q⟩ := h
 obtain ⟨t, rfl⟩ := rx
 obtain ⟨t', rfl⟩ := ry
 exact rule i j t t' s _ _ ⟨.int (g i j), H, I.tok _, ⟨_, rfl⟩, q⟩
theorem opB0 {f : Value → Value → Sem Value} {g : Int → Int → Bool}
  (rule : ∀ (i j : Int) (t u : Tok) (s : Shared) (Q : Value → Shared → Prop) (E : Value → Shared → Prop), Q (.bool (g i j)) s → wpAny (model X.prog X.w) X.A (f (.int i t) (.int j u)) Q E s) :
  OpR X f (rI0 fun i j => .bl (g i j)) := by
 intro pins s σ H x y v u Q I rx ry h
 obtain ⟨i, j, rfl, rfl, q⟩ := h
 obtain ⟨t, rfl⟩ := rx
 obtain ⟨t', rfl⟩ := ry
 exact rule i j t t' s _ _ ⟨.bl (g i j), H, I, rfl, q⟩
def CDiv (i j : Int) : Prop := 0 < j ∧ j < 1073741824
def CPow (i j : Int) : Prop := 0 ≤ j ∧ j ≤ 1000000 ∧ i.natAbs < 2 ^ 64
def CMul (i j : Int) : Prop := (-(2 ^ 64) < i ∧ i < 2 ^ 64) ∨ (-(2 ^ 64) < j ∧ j < 2 ^ 64)
theorem CMul.ok {i j : Int} (h : CMul i j) : IntMulOk i j := by
 rcases h with ⟨h1, h2⟩ | ⟨h1, h2⟩
 ·exact .of_left (intBits_le_64 h1 h2)
 ·exact .of_right (intBits_le_64 h1 h2)
theorem cP : OpR X (binaryOp .Add) (rI0 fun i j => .int (i + j)) := opI0 fun _ _ _ _ _ _ _ q => add_int q
theorem cQ : OpR X (binaryOp .Sub) (rI0 fun i j => .int (i - j)) := opI0 fun _ _ _ _ _ _ _ q => sub_int q
theorem Yy : OpR X (binaryOp .FloorDiv) (rI CDiv fun i j => .int (i / j)) := opI fun i j _ _ _ _ _ hc q => by
 have h1 : (0 : Int) < j := hc.1
 have h2 : j < 1073741824 := hc.2
 exact floordiv_int (by omega) (by rw [Int.fdiv_eq_ediv_of_nonneg i (by omega)]; exact q) (.inl (PyProof.noPylong_small (by omega)))
theorem cR : OpR X (binaryOp .Mod) (rI (fun _ j => 0 < j) fun i j => .int (i % j)) := opI fun i j _ _ _ _ _ hc q => by
 have h1 : (0 : Int) < j := hc
 exact mod_int' (by omega) (by rw [Int.fmod_eq_emod_of_nonneg i (by omega)]; exact q)
theorem cT : OpR X (binaryOp .Pow) (rI CPow fun i j => .int (i ^ j.toNat)) := opI fun _ _ _ _ _ _ _ hc q => pow_int_small hc.1 hc.2.1 hc.2.2 q
theorem unI {f : Value → Sem Value} {g : Int → Int}
  (rule : ∀ (i : Int) (t : Tok) (s : Shared) (Q : Value → Shared → Prop) (E : Value → Shared → Prop), Q (.int (g i) s.toks) { s with toks := s.toks + 1 } → wpAny (model X.prog X.w) X.A (f (.int i t)) Q E s) :
  UnR X f (rU fun i => .int (g i)) := by
 intro pins s σ H x v Q I rx h
 obtain ⟨i, rfl, q⟩ := h
 obtain ⟨t, rfl⟩ := rx
 exact rule i t s _ _ ⟨.int (g i), H, I.tok _, ⟨_, rfl⟩, q⟩
theorem cU : UnR X (unaryOp .USub) (rU fun i => .int (-i)) := unI fun _ _ _ _ _ q => neg_int q
end
def scal : V → V → Bool
 | .non, .non => true | .non, .int _ => true | .int _, .non => true | .non, .bl _ => true | .bl _, .non => true | .non, .str _ => true | .str _, .non => true
 | .int _, .int _ => true | .bl _, .bl _ => true | .str _, .str _ => true | .byt _, .byt _ => true
 | .int _, .str _ => true | .str _, .int _ => true | .bl _, .str _ => true | .str _, .bl _ => true
 | _, _ => false
def rEq : R2 := fun x y H Q => scal x y = true ∧ Q (.bl (decide (x = y))) H
def rNe : R2 := fun x y H Q => scal x y = true ∧ Q (.bl (!decide (x = y))) H
theorem U4 {i j : Int} : decide (V.int i = V.int j) = (i == j) := by
 rw [Bool.eq_iff_iff]
 simp
theorem Wt {i j : Bool} : decide (V.bl i = V.bl j) = (i == j) := by
 rw [Bool.eq_iff_iff]
 simp
theorem U5 {i j : Str} : decide (V.str i = V.str j) = (i == j) := by
 rw [Bool.eq_iff_iff]
 simp
theorem U6 {i j : Array UInt8} : decide (V.byt i = V.byt j) = (i.toList == j.toList) := by
 rw [Bool.eq_iff_iff]
 cases i
 cases j
 simp
section
variable {X : Cx} {a b c : Expr} {ta tb tc : TE} {pos : Pos}
theorem Cy {pins : List (Addr × Obj)} {σ : St} {H : Hp} {s : Shared} {Q : VK} {k k' : Bool} (I : Inv X pins σ H s) (q : Q (.bl k) H) (e : k = k') : EP X pins σ Q (.bool k') s := by
 subst e
 exact ⟨.bl k, H, I, rfl, q⟩
theorem gF : OpR X (compareOp .Eq) rEq := by
 intro pins s σ H x y v u Q I rx ry h
 obtain ⟨hs, q⟩ := h
 cases x with
 | non =>
  cases rx
  cases y with
  | non => cases ry; exact PySem.EqNone.eq_none_none (Cy I q (by simp))
  | bl j => cases ry; exact PySem.EqNone.eq_none_bool (Cy I q (by simp))
  | int j => obtain ⟨t', rfl⟩ := ry; exact PySem.EqNone.eq_none_int (Cy I q (by simp))
  | str j => obtain ⟨t', rfl⟩ := ry; exact PySem.EqNone.eq_none_str (Cy I q (by simp))
  | _ => exact absurd (show false = true from hs) Bool.false_ne_true
 | bl i =>
  cases rx
  cases y with
  | non => cases ry; exact PySem.EqNone.eq_bool_none (Cy I q (by simp))
  | bl j => cases ry; exact eq_bool (Cy I q Wt)
  | str j => obtain ⟨t', rfl⟩ := ry; exact PySem.EqMixed.eq_bool_str (Cy I q (by simp))
  | _ => exact absurd (show false = true from hs) Bool.false_ne_true
 | int i =>
  obtain ⟨t, rfl⟩ := rx
  cases y with
  | non => cases ry; exact PySem.EqNone.eq_int_none (Cy I q (by simp))
  | int j => obtain ⟨t', rfl⟩ := ry; exact eq_int (Cy I q U4)
  | str j => obtain ⟨t', rfl⟩ := ry; exact PySem.EqMixed.eq_int_str (Cy I q (by simp))
  | _ => exact absurd (show false = true from hs) Bool.false_ne_true
 | str i =>
  obtain ⟨t, rfl⟩ := rx
  cases y with
  | non => cases ry; exact PySem.EqNone.eq_str_none (Cy I q (by simp))
  | bl j => cases ry; exact PySem.EqMixed.eq_str_bool (Cy I q (by simp))
  | int j => obtain ⟨t', rfl⟩ := ry; exact PySem.EqMixed.eq_str_int (Cy I q (by simp))
  | str j => obtain ⟨t', rfl⟩ := ry; exact eq_str (Cy I q U5)
  | _ => exact absurd (show false = true from hs) Bool.false_ne_true
 | byt i =>
  obtain ⟨t, rfl⟩ := rx
  cases y with
  | byt j => obtain ⟨t', rfl⟩ := ry; exact PySem.W.eq_bytes (Cy I q U6)
  | _ => exact absurd (show false = true from hs) Bool.false_ne_true
 | _ => cases y <;> exact absurd (show false = true from hs) Bool.false_ne_true
theorem gG : OpR X (compareOp .NotEq) rNe := by
 intro pins s σ H x y v u Q I rx ry h
 obtain ⟨hs, q⟩ := h
 cases x with
 | non =>
  cases rx
  cases y with
  | non => cases ry; exact PySem.EqNone.ne_none_none (Cy I q (by simp))
  | bl j => cases ry; exact PySem.EqNone.ne_none_bool (Cy I q (by simp))
  | int j => obtain ⟨t', rfl⟩ := ry; exact PySem.EqNone.ne_none_int (Cy I q (by simp))
  | str j => obtain ⟨t', rfl⟩ := ry; exact PySem.EqNone.ne_none_str (Cy I q (by simp))
  | _ => exact absurd (show false = true from hs) Bool.false_ne_true
 | bl i =>
  cases rx
  cases y with
  | non => cases ry; exact PySem.EqNone.ne_bool_none (Cy I q (by simp))
  | bl j => cases ry; exact ne_bool (Cy I q (congrArg not Wt))
  | str j => obtain ⟨t', rfl⟩ := ry; exact PySem.EqMixed.ne_bool_str (Cy I q (by simp))
  | _ => exact absurd (show false = true from hs) Bool.false_ne_true
 | int i =>
  obtain ⟨t, rfl⟩ := rx
  cases y with
  | non => cases ry; exact PySem.EqNone.ne_int_none (Cy I q (by simp))
  | int j => obtain ⟨t', rfl⟩ := ry; exact ne_int (Cy I q (congrArg not U4))
  | str j => obtain ⟨t', rfl⟩ := ry; exact PySem.EqMixed.ne_int_str (Cy I q (by simp))
  | _ => exact absurd (show false = true from hs) Bool.false_ne_true
 | str i =>
  obtain ⟨t, rfl⟩ := rx
  cases y with
  | non => cases ry; exact PySem.EqNone.ne_str_none (Cy I q (by simp))
  | bl j => cases ry; exact PySem.EqMixed.ne_str_bool (Cy I q (by simp))
  | int j => obtain ⟨t', rfl⟩ := ry; exact PySem.EqMixed.ne_str_int (Cy I q (by simp))
  | str j => obtain ⟨t', rfl⟩ := ry; exact ne_str (Cy I q (congrArg not U5))
  | _ => exact absurd (show false = true from hs) Bool.false_ne_true
 | byt i =>
  obtain ⟨t, rfl⟩ := rx
  cases y with
  | byt j => obtain ⟨t', rfl⟩ := ry; exact PySem.W.ne_bytes (Cy I q (congrArg not U6))
  | _ => exact absurd (show false = true from hs) Bool.false_ne_true
 | _ => cases y <;> exact absurd (show false = true from hs) Bool.false_ne_true
theorem ao : OpR X (compareOp .Lt) (rI0 fun i j => .bl (decide (i < j))) := opB0 fun _ _ _ _ _ _ _ q => lt_int q
theorem gH : OpR X (compareOp .Gt) (rI0 fun i j => .bl (decide (j < i))) := opB0 fun _ _ _ _ _ _ _ q => gt_int q
theorem WF : OpR X (compareOp .In) (fun x y H Q => ∃ i j, x = .str i ∧ y = .str j ∧ Q (.bl (!(Builtin.Str.occurrences j i 0 j.length 1).isEmpty)) H) := by
 intro pins s σ H x y v u Q I rx ry h
 obtain ⟨i, j, rfl, rfl, q⟩ := h
 obtain ⟨t, rfl⟩ := rx
 obtain ⟨t', rfl⟩ := ry
 exact in_str (Cy I q rfl)
theorem OpR.or {f : Value → Value → Sem Value} {r r' : R2} (h : OpR X f r) (h' : OpR X f r') : OpR X f (fun x y H Q => r x y H Q ∨ r' x y H Q) := by
 intro pins s σ H x y v u Q I rx ry q
 rcases q with q | q
 ·exact h pins s σ H x y v u Q I rx ry q
 ·exact h' pins s σ H x y v u Q I rx ry q
theorem KJ (b : Expr) {op : CmpOp} (h : op ≠ .In := by decide) (h2 : op ≠ .NotIn := by decide) : behindInMarks op b = false := by
 have e1 : (op == CmpOp.In) = false := by cases op <;> first | rfl | exact absurd rfl h
 have e2 : (op == CmpOp.NotIn) = false := by cases op <;> first | rfl | exact absurd rfl h2
 cases b <;> simp [behindInMarks, e1, e2]
theorem Yz {op : CmpOp} {r : R2} (ho : OpR X (compareOp op) r) (ha : PE X a ta) (hb : PE X b tb) (hm : behindInMarks op b = false) : PE X (.Compare a [op] [b] pos) (tOp r ta tb) := by
 intro pins s σ H Q I h
 exact wpAny_Compare1 (binT ha hb I h fun v u s2 x y H2 I2 rx ry q => ho pins s2 σ H2 x y v u Q I2 rx ry q) hm
def gJ (t : TE) : TT := fun σ H Q => t σ H fun x H' => ∃ k, x = .bl k ∧ Q k H'
theorem Y0 {op : CmpOp} {r : R2} (ho : OpR X (compareOp op) r) (ha : PE X a ta) (hb : PE X b tb) (hm : behindInMarks op b = false) : PT X (.Compare a [op] [b] pos) (gJ (tOp r ta tb)) := by
 intro pins s σ H Q I h
 refine wpAny_isTrue_Compare1 (thn (ha pins s σ H _ I h) fun v s1 ⟨x, H1, I1, r1, q1⟩ => thn (hb pins s1 σ H1 _ I1 q1) fun u s2 ⟨y, H2, I2, r2, q2⟩ =>
  thn (ho pins s2 σ H2 x y v u _ I2 r1 r2 q2) fun c s3 ⟨z, H3, I3, r3, k, e, q3⟩ => ?_) hm
 subst e
 cases r3
 exact wpAny_truthy_bool ⟨H3, I3, q3⟩
def TruV (K : PySem.W.Frag) (x : V) (H : Hp) (k : Bool) : Prop :=
 match x with
 | .non => k = false
 | .bl b => k = b
 | .int i => k = (i != 0)
 | .str y => y.length ≤ sizeLine ∧ k = ((y.length : Int) != 0)
 | .byt y => y.size ≤ sizeLine ∧ k = ((y.size : Int) != 0)
 | .ref p => (∃ xs, SqL K H p xs ∧ k = !xs.isEmpty) ∨ (∃ xs, SqT K H p xs ∧ k = !xs.isEmpty) ∨ ∃ kvs, H p = some (.dK kvs) ∧ k = !kvs.isEmpty
 | _ => False
theorem Ub {κ : Type} {kvs : List (κ × V)} {vs : List (κ × Value)} (r : KV kvs vs) : (!vs.isEmpty) = !kvs.isEmpty := by
 cases r <;> rfl
theorem N_ {xs : List V} {its : List Value} (r : Vals xs its) : (!its.toArray.isEmpty) = !xs.isEmpty := by
 cases r <;> simp
theorem OD : (sizeLine : Nat) < 2 ^ 63 := by rw [sizeLine_eq]; decide
theorem cV : TruR X (fun x H Q => ∃ k, TruV X.K x H k ∧ Q k H) := by
 intro pins s σ H x v Q I rx h
 obtain ⟨k, e, q⟩ := h
 have hl := OD
 have hs : sizeLine = 16777216 := sizeLine_eq
 cases x with
 | non =>
  cases rx
  have e' : k = false := e
  subst e'
  exact truthy_none ⟨H, I, q⟩
 | bl b =>
  cases rx
  have e' : k = b := e
  subst e'
  exact wpAny_truthy_bool ⟨H, I, q⟩
 | int i =>
  obtain ⟨t, rfl⟩ := rx
  have e' : k = (i != 0) := e
  subst e'
  exact PySem.P.truthy_int ⟨H, I, q⟩
 | str y =>
  obtain ⟨t, rfl⟩ := rx
  obtain ⟨hy, e'⟩ : y.length ≤ sizeLine ∧ k = ((y.length : Int) != 0) := e
  subst e'
  exact PySem.P.truthy_str (by omega) ⟨H, I.tok _, q⟩
 | byt y =>
  obtain ⟨t, rfl⟩ := rx
  obtain ⟨hy, e'⟩ : y.size ≤ sizeLine ∧ k = ((y.size : Int) != 0) := e
  subst e'
  exact PySem.W.truthy_bytes (by omega) ⟨H, I.tok _, q⟩
 | ref p =>
  cases rx
  have e' : (∃ xs, SqL X.K H p xs ∧ k = !xs.isEmpty) ∨ (∃ xs, SqT X.K H p xs ∧ k = !xs.isEmpty) ∨ ∃ kvs, H p = some (.dK kvs) ∧ k = !kvs.isEmpty := e
  rcases e' with ⟨xs, hx, e'⟩ | ⟨xs, hx, e'⟩ | ⟨kvs, hx, e'⟩
  ·subst e'
   obtain ⟨its, r, pl, hz⟩ := I.list hx
   have hlen := r.length
   exact wpAny_truthy_list pl.isList (by simp only [List.size_toArray]; omega) ⟨H, I.tok _, by rw [N_ r]; exact q⟩
  ·subst e'
   obtain ⟨its, r, pl, hz⟩ := I.tuple hx
   have hlen := r.length
   exact truthy_tuple pl (by simp only [List.size_toArray]; omega) ⟨H, I.tok _, by rw [N_ r]; exact q⟩
  ·subst e'
   obtain ⟨hz, hS, vs, r, m⟩ : kvs.length ≤ sizeLine ∧ (p == sysModules) = false ∧ ∃ vs, KV kvs vs ∧ s.heap.DictOf (Ej X.prog X.w) p vs := I.hok p _ hx
   have hlen : kvs.length = vs.length := Paired.length r
   exact wpAny_truthy_dict hS m (by omega) ⟨H, I.tok _, by rw [Ub r]; exact q⟩
 | _ => exact (show False from e).elim
theorem Wu (ha : PE X a ta) (he : ∀ whole, isTrue a X.env whole = (do let v ← whole; standAt a.pos; holding [v] (truthy v))) :
  PT X a (fun σ H Q => ta σ H fun x H' => ∃ k, TruV X.K x H' k ∧ Q k H') := by
 intro pins s σ H Q I h
 exact isTrue_plain (thn (ha pins s σ H _ I h) fun v s1 ⟨x, H1, I1, r1, q1⟩ => cV pins s1 σ H1 x v Q I1 r1 q1) (he _)
theorem Uc : OpR X (binaryOp .Add) (fun x y H Q => ∃ i j, x = .str i ∧ y = .str j ∧ i.length + j.length ≤ sizeLine ∧ Q (.str (i ++ j)) H) := by
 intro pins s σ H x y v u Q I rx ry h
 obtain ⟨i, j, rfl, rfl, hz, q⟩ := h
 obtain ⟨t, rfl⟩ := rx
 obtain ⟨t', rfl⟩ := ry
 exact add_str (fun t' tk => ⟨.str (i ++ j), H, I.tok _, ⟨_, rfl⟩, q⟩) hz
theorem vals1 {x : V} {us : List Value} (r : Vals [x] us) : ∃ u, us = [u] ∧ RelV x u := by
 cases r with
 | cons r1 r2 => cases r2; exact ⟨_, rfl, r1⟩
theorem vals2 {x y : V} {us : List Value} (r : Vals [x, y] us) : ∃ u w', us = [u, w'] ∧ RelV x u ∧ RelV y w' := by
 cases r with
 | cons r1 r2 =>
  cases r2 with
  | cons r3 r4 => cases r4; exact ⟨_, _, rfl, r1, r3⟩
def LenV (K : PySem.W.Frag) (x : V) (H : Hp) (n : Nat) : Prop :=
 match x with
 | .str y => y.length ≤ sizeLine ∧ n = y.length
 | .byt y => y.size ≤ sizeLine ∧ n = y.size
 | .ref p => (∃ xs, SqL K H p xs ∧ n = xs.length) ∨ ∃ xs, SqT K H p xs ∧ n = xs.length
 | _ => False
theorem Wv : JS X (.builtin "len") (fun xs H Q => ∃ x n, xs = [x] ∧ LenV X.K x H n ∧ Q (.int n) H) := by
 intro pins s σ H xs us Q I r h
 obtain ⟨x, n, rfl, e, q⟩ := h
 obtain ⟨u, rfl, rx⟩ := vals1 r
 have hl := OD
 have hs : sizeLine = 16777216 := sizeLine_eq
 cases x with
 | str y =>
  obtain ⟨t, rfl⟩ := rx
  obtain ⟨hy, e'⟩ : y.length ≤ sizeLine ∧ n = y.length := e
  subst e'
  exact len_str (by omega) ⟨.int _, H, I.tok _, ⟨_, rfl⟩, q⟩
 | byt y =>
  obtain ⟨t, rfl⟩ := rx
  obtain ⟨hy, e'⟩ : y.size ≤ sizeLine ∧ n = y.size := e
  subst e'
  exact PySem.W.len_bytes (by omega) ⟨.int _, H, I.tok _, ⟨_, rfl⟩, q⟩
 | ref p =>
  cases rx
  have e' : (∃ xs, SqL X.K H p xs ∧ n = xs.length) ∨ ∃ xs, SqT X.K H p xs ∧ n = xs.length := e
  rcases e' with ⟨xs, hx, e'⟩ | ⟨xs, hx, e'⟩
  ·subst e'
   obtain ⟨its, r', pl, hz⟩ := I.list hx
   have hlen := r'.length
   exact Calls.call_len_list pl.isList (by simp only [List.size_toArray]; omega) ⟨.int xs.length, H, I.tok _, ⟨_, by simp only [List.size_toArray]; rw [hlen]⟩, q⟩
  ·subst e'
   obtain ⟨its, r', pl, hz⟩ := I.tuple hx
   have hlen := r'.length
   exact len_tuple pl (by simp only [List.size_toArray]; omega) ⟨.int xs.length, H, I.tok _, ⟨_, by simp only [List.size_toArray]; rw [hlen]⟩, q⟩
 | _ => exact (show False from e).elim
end
end L2
namespace L2
open PySem PySem.Spec PyProof.Rows
structure ObjM (h : Heap) (x dx C : Addr) (mA : Str → Option Value) : Prop where
 obj : h.get? x = some (PySem.W.instObj C dx)
 ns : h.Ns1 dx mA
 ne : dx ≠ x
theorem Pz {h : Heap} {dx : Addr} {mA : Str → Option Value} (n : h.Ns1 dx mA) : ∃ od, h.get? dx = some od ∧ ∀ name, PySem.W.lookIn name od = some (mA name) := by
 obtain ⟨o, es, ep, ho, hd, hk, _, hm⟩ := n
 refine ⟨o, ho, fun name => ?_⟩
 have e := hm name
 unfold nsFind findBy at e
 rw [← Array.find?_toList] at e
 unfold PySem.W.lookIn
 rw [hd]
 dsimp only
 split
 ·rename_i y q
  rw [q] at e
  exact congrArg some e
 ·rename_i q
  rw [q] at e
  have a : es.toList.any (·.refKey) = false := by
   rw [List.any_eq_false]
   intro y hy
   obtain ⟨z, t, hkey⟩ := hk y (Array.mem_toList_iff.mp hy)
   simp [DictEntry.refKey, hkey]
  have a' : ¬ es.toList.any (·.refKey) = true := by rw [a]; exact Bool.false_ne_true
  rw [if_neg a']
  exact congrArg some e
theorem ObjM.look {h : Heap} {x dx C : Addr} {mA : Str → Option Value} (I : ObjM h x dx C mA) : ∃ od, PySem.W.InstAt h x (PySem.W.instObj C dx) C (some od) ∧ ∀ name, PySem.W.lookIn name od = some (mA name) :=
 let ⟨od, ho, hl⟩ := Pz I.ns
 ⟨od, ⟨I.obj, rfl, rfl, ho⟩, hl⟩
section
variable {prog : Program} {w : World} {A : Around} {E : Value → Shared → Prop} {s : Shared} {K : PySem.W.Frag} {x dx C f : Addr} {mA : Str → Option Value} {name : Str} {v : Value}
theorem Y4 {expr : Bool} {Q : Value → Shared → Prop} (X : K.In s.heap) (I : ObjM s.heap x dx C mA) (hg : PySem.W.plainGet K C name = true) (hh : PySem.W.hasDictIn K C = true)
  (ha : PySem.W.findIn K (.ref C) name = some none) (hv : mA name = some v) (hv' : PySem.W.handedIn v = true) (h : Q v { s with toks := s.toks + 1 }) :
  wpAny (model prog w) A (getAttr (.ref x) name expr) Q E s := by
 obtain ⟨od, J, hl⟩ := I.look
 exact PySem.W.get_value X J (PySem.W.plainGet_of hg).1 (PySem.W.findObj_own hh ha rfl (by rw [hl, hv])) hv' h
theorem Ww {pl : Sem Bool} {Q : Value × List Value → Shared → Prop} (X : K.In s.heap) (I : ObjM s.heap x dx C mA) (hg : PySem.W.plainGet K C name = true)
  (hf : PySem.W.findIn K (.ref C) name = some (some (.ref f))) (ht : PySem.W.isFn K (.ref f) = true) (hv : mA name = none) (h : Q (.ref f, [.ref x]) s) :
  wpAny (model prog w) A (getMethod (.ref x) name pl) Q E s := by
 obtain ⟨od, J, hl⟩ := I.look
 exact PySem.W.method_fn X J (PySem.W.plainGet_of hg).1 (PySem.W.plainGet_of hg).2 hf (beq_iff_eq.mp ht) (by show (PySem.W.lookIn name od).map (·.isSome) = some false; rw [hl, hv]; rfl) h
theorem Y5 {ns : List Str} {Q : Unit → Shared → Prop} (X : K.In s.heap) (I : ObjM s.heap x dx C mA)
  (hs : PySem.W.findIn K (.ref C) "__setattr__" = some (some (.builtin "object.__setattr__"))) (hp : PySem.W.plainOver K C = true) (ht : PySem.W.takerIn K C name = some none) (hh : PySem.W.hasDictIn K C = true)
  (hw : PySem.Within mA ns) (hsz : ns.length ≤ sizeLine)
  (h : ∀ h', ObjM h' x dx C (fun y => if y = name then some v else mA y) → Heap.SameBut dx s.heap h' → Q () { s with heap := h', toks := s.toks + 2 }) :
  wpAny (model prog w) A (setAttr (.ref x) name v) Q E s := by
 obtain ⟨od, J, hl⟩ := I.look
 refine PySem.W.set_plain X J hs (PySem.W.osa_open (s := { s with toks := s.toks + 1 }) (r := none) X J hp ht fun b => ?_)
 obtain ⟨cd, hc, hd'⟩ := PySem.W.any_some hh
 have hx : s.heap.get? x = some ⟨.ref C, some dx, .plain, #[]⟩ := I.obj
 refine wpAny_bind (wpAny_pure (wpAny_bind (wpAny_bind (wpAny_loadPart hx (wpAny_bind (PySem.W.Looks.here (s := { s with toks := s.toks + 1 }) (PySem.W.looks_clsIn X hc) ?_))))))
 rw [hd']
 refine wpAny_pure (a := some dx) (wpAny_bind (wpAny_pure (wpAny_bind ?_)))
 refine wpAny_nsSet1 (s := { s with toks := s.toks + 1 }) I.ns fun h' hn2 hs2 => ?_
 obtain ⟨oD, esD, epD, hoD, hdD, hcD⟩ := hn2.count (PySem.Within.cons name v hw)
 refine wpAny_bind (wpAny_lookBehind hoD (by rw [hdD]; exact pastItsLine_dict (Nat.le_trans hcD (by rw [List.length_cons]; omega))) ?_)
 exact wpAny_pure (h _ ⟨(hs2.2 _ (Ne.symm I.ne)).trans I.obj, hn2, I.ne⟩ hs2)
theorem Wx {R : Result → Shared → Prop} {vs : List Value} {kw : List (Str × Value)} (X : K.In s.heap) (hm : PySem.W.makesIn K C = true)
  (hi : PySem.W.findIn K (.ref C) "__init__" = some (some (.ref f))) (hf : PySem.W.typeIn K (.ref f) = some (.type "function"))
  (h : codeAny (model prog w) (A.under (.builtin "type.__call__" ⟨.ref C :: vs, kw⟩)) (.call (.ref f) ⟨.ref (s.heap.objs.size + 1) :: vs, kw⟩) (PySem.W.InitBack (s.heap.objs.size + 1) R)
   { s with heap := (s.heap.push PySem.W.emptyDict).push (PySem.W.instObj C s.heap.objs.size) }) :
  codeAny (model prog w) A (.call (.ref C) ⟨vs, kw⟩) R s := by
 obtain ⟨hh, g, d, t, os⟩ := s
 exact PySem.W.make_core (PySem.W.makes_of X hm) (PySem.W.looks_findIn X hi) (fun self => PySem.W.bind_fn X self hf) (.inl rfl) h
end
def putF (f : Str) (v : V) : List (Str × V) → List (Str × V)
 | [] => [(f, v)]
 | (g, x) :: r => if g = f then (g, v) :: r else (g, x) :: putF f v r
theorem Mf (f g : Str) (v : V) : ∀ fs : List (Str × V), (putF f v fs).lookup g = if g = f then some v else fs.lookup g
 | [] => by
  show List.lookup g [(f, v)] = _
  by_cases h : g = f
  ·have hb : (g == f) = true := beq_iff_eq.mpr h
   simp only [List.lookup, hb, if_pos h]
  ·have hb : (g == f) = false := beq_eq_false_iff_ne.mpr h
   simp only [List.lookup, hb, if_neg h]
 | (k, x) :: r => by
  have ih := Mf f g v r
  rw [show putF f v ((k, x) :: r) = (if k = f then (k, v) :: r else (k, x) :: putF f v r) from rfl]
  by_cases hk : k = f
  ·rw [if_pos hk]
   by_cases h : g = k
   ·have hb : (g == k) = true := beq_iff_eq.mpr h
    simp only [List.lookup, hb, if_pos (h.trans hk)]
   ·have hb : (g == k) = false := beq_eq_false_iff_ne.mpr h
    simp only [List.lookup, hb, if_neg (fun e : g = f => h (e.trans hk.symm))]
  ·rw [if_neg hk]
   by_cases h : g = k
   ·have hb : (g == k) = true := beq_iff_eq.mpr h
    simp only [List.lookup, hb, if_neg (fun e : g = f => hk (h.symm.trans e))]
   ·have hb : (g == k) = false := beq_eq_false_iff_ne.mpr h
    simp only [List.lookup, hb]
    exact ih
theorem Lj (f : Str) (v : V) : ∀ fs : List (Str × V), f ∈ (putF f v fs).map (·.1) ∧ ∀ g, g ∈ fs.map (·.1) → g ∈ (putF f v fs).map (·.1)
 | [] => ⟨by simp [putF], fun g h => by simp at h⟩
 | (k, x) :: r => by
  obtain ⟨i1, i2⟩ := Lj f v r
  rw [show putF f v ((k, x) :: r) = (if k = f then (k, v) :: r else (k, x) :: putF f v r) from rfl]
  by_cases hk : k = f
  ·rw [if_pos hk]
   subst hk
   exact ⟨by simp, fun g h => by simpa using h⟩
  ·rw [if_neg hk]
   refine ⟨?_, fun g h => ?_⟩
   ·rw [List.map_cons]
    exact List.mem_cons_of_mem _ i1
   ·rw [List.map_cons] at h ⊢
    rcases List.mem_cons.mp h with e | e
    ·exact List.mem_cons.mpr (.inl e)
    ·exact List.mem_cons_of_mem _ (i2 g e)
theorem Mg (f : Str) (v : V) : ∀ fs : List (Str × V), (putF f v fs).length ≤ fs.length + 1
 | [] => by simp [putF]
 | (k, x) :: r => by
  have ih := Mg f v r
  rw [show putF f v ((k, x) :: r) = (if k = f then (k, v) :: r else (k, x) :: putF f v r) from rfl]
  by_cases hk : k = f
  ·rw [if_pos hk, List.length_cons, List.length_cons]; omega
  ·rw [if_neg hk, List.length_cons, List.length_cons]; omega
theorem RelO.some_of {v : V} {o : Option Value} (r : RelO (some v) o) : ∃ u, o = some u ∧ RelV v u := by
 cases o with
 | none => exact (show False from r).elim
 | some u => exact ⟨u, rfl, r⟩
theorem RelO.none_of {o : Option Value} (r : RelO none o) : o = none := by
 cases o with
 | none => rfl
 | some u => exact (show False from r).elim
theorem P0 {v : V} {u : Value} (r : RelV v u) : PySem.W.handedIn u = true := by
 cases v with
 | non => cases (show u = Value.none from r); rfl
 | bl b => cases (show u = Value.bool b from r); rfl
 | int i => obtain ⟨t, e⟩ := (show ∃ t, u = Value.int i t from r); cases e; rfl
 | str x => obtain ⟨t, e⟩ := (show ∃ t, u = Value.str x t from r); cases e; rfl
 | byt b => obtain ⟨t, e⟩ := (show ∃ t, u = Value.bytes b t from r); cases e; rfl
 | flt b => obtain ⟨t, e⟩ := (show ∃ t, u = Value.float b t from r); cases e; rfl
 | ref a => cases (show u = Value.ref a from r); rfl
 | ty n => cases (show u = Value.type n from r); rfl
section
variable {P : Program} {w : World} {H H' : Hp} {h h' : Heap} {a C dx : Addr} {fs fs' : List (Str × V)}
theorem M9 (hok : HOk P w H h) (e : H a = some (.ins C dx fs)) : ∃ mA, ObjM h a dx C mA ∧ (∀ f, RelO (fs.lookup f) (mA f)) ∧ PySem.Within mA (fs.map (·.1)) ∧ fs.length ≤ 1000 ∧ H dx = some (.own a) := by
 obtain ⟨d, z, ne, ob, mA, n, r, q⟩ := (show Ds P w H h a (.ins C dx fs) from hok a _ e)
 exact ⟨mA, ⟨ob, n, ne⟩, r, q, z, d⟩
end
structure Cls (K : PySem.W.Frag) (C : Addr) : Prop where
 pg : PySem.W.plainGet K C Str.empty = true
 hd : PySem.W.hasDictIn K C = true
 po : PySem.W.plainOver K C = true
 sa : PySem.W.findIn K (.ref C) "__setattr__" = some (some (.builtin "object.__setattr__"))
theorem Cls.get {K : PySem.W.Frag} {C : Addr} (c : Cls K C) (f : Str) : PySem.W.plainGet K C f = true := c.pg
def Dy (K : PySem.W.Frag) (C : Addr) (f : Str) : Prop := PySem.W.findIn K (.ref C) f = some none
theorem Dy.taker {K : PySem.W.Frag} {C : Addr} {f : Str} (n : Dy K C f) : PySem.W.takerIn K C f = some none := by
 unfold PySem.W.takerIn
 rw [show PySem.W.findIn K (.ref C) f = some none from n]
 rfl
structure Meth (K : PySem.W.Frag) (C : Addr) (m : Str) (f : Addr) : Prop where
 at_ : PySem.W.findIn K (.ref C) m = some (some (.ref f))
 fn : PySem.W.isFn K (.ref f) = true
 kp : PySem.W.keepIn K (.ref f) = true
section
variable {X : Cx} {pins : List (Addr × Obj)} {σ : St} {H : Hp} {s : Shared} {a C dx : Addr} {fs : List (Str × V)} {f : Str} {v : V} {A : Around} {E : Value → Shared → Prop}
theorem Ud {b : Bool} {Q : Value → Shared → Prop} (I : Inv X pins σ H s) (e : H a = some (.ins C dx fs)) (c : Cls X.K C) (n : Dy X.K C f) (l : fs.lookup f = some v)
  (h : ∀ u s', Inv X pins σ H s' → RelV v u → Q u s') : wpAny (model X.prog X.w) A (getAttr (.ref a) f b) Q E s := by
 obtain ⟨mA, O, r, _, _, _⟩ := M9 I.hok e
 obtain ⟨u, hu, ru⟩ := RelO.some_of (v := v) (o := mA f) (by rw [← l]; exact r f)
 exact Y4 I.kIn O (c.get f) c.hd n hu (P0 ru) (h u _ (I.tok _) ru)
theorem Ip {m : Str} {g : Addr} {pl : Sem Bool} {Q : Value × List Value → Shared → Prop} (I : Inv X pins σ H s) (e : H a = some (.ins C dx fs)) (c : Cls X.K C) (k : Meth X.K C m g) (l : fs.lookup m = none)
  (h : Q (.ref g, [.ref a]) s) : wpAny (model X.prog X.w) A (getMethod (.ref a) m pl) Q E s := by
 obtain ⟨mA, O, r, _, _, _⟩ := M9 I.hok e
 have hn : mA m = none := RelO.none_of (by rw [← l]; exact r m)
 exact Ww I.kIn O (c.get m) k.at_ k.fn hn h
theorem Ue {y : V} {u : Value} {Q : Unit → Shared → Prop} (I : Inv X pins σ H s) (e : H a = some (.ins C dx fs)) (c : Cls X.K C) (n : Dy X.K C f) (hl : fs.length < 1000) (ry : RelV y u)
  (h : ∀ s', Inv X pins σ (upd H a (.ins C dx (putF f y fs))) s' → Q () s') : wpAny (model X.prog X.w) A (setAttr (.ref a) f u) Q E s := by
 obtain ⟨mA, O, r, wi, _, ho⟩ := M9 I.hok e
 have hz : (fs.map (·.1)).length ≤ sizeLine := by rw [List.length_map, sizeLine_eq]; omega
 refine Y5 I.kIn O c.sa c.po n.taker c.hd wi hz fun h' O' sb => h _ ?_
 have hd : ∃ o, h'.get? dx = some o := let ⟨o, _, _, e', _⟩ := O'.ns; ⟨o, e'⟩
 refine I.write (x := a) (e := dx) (by rw [e]; exact True.intro) (.inr ho) (fun b q hb z => (sb.2 b hb).trans z) hd ?_
 refine ⟨by rw [Bg O.ne]; exact ho, ?_, O.ne, O'.obj, _, O'.ns, fun g => ?_, fun g hg => ?_⟩
 ·have := Mg f y fs; omega
 ·show RelO ((putF f y fs).lookup g) (if g = f then some u else mA g)
  rw [Mf]
  by_cases q : g = f
  ·rw [if_pos q, if_pos q]; exact ry
  ·rw [if_neg q, if_neg q]; exact r g
 ·by_cases q : g = f
  ·rw [q]; exact (Lj f y fs).1
  ·refine (Lj f y fs).2 g (wi g fun z => hg ?_)
   show (if g = f then some u else mA g) = none
   rw [if_neg q]; exact z
theorem Inv.made (I : Inv X pins σ H s) : Inv X pins σ (upd (upd H s.heap.objs.size (.own (s.heap.objs.size + 1))) (s.heap.objs.size + 1) (.ins C s.heap.objs.size []))
  { s with heap := (s.heap.push PySem.W.emptyDict).push (PySem.W.instObj C s.heap.objs.size) } := by
 have e1 : (s.heap.push PySem.W.emptyDict).get? s.heap.objs.size = some PySem.W.emptyDict := Heap.get?_push_size s.heap rfl
 have e2 : ((s.heap.push PySem.W.emptyDict).push (PySem.W.instObj C s.heap.objs.size)).get? (s.heap.objs.size + 1) = some (PySem.W.instObj C s.heap.objs.size) := by
  have := Heap.get?_push_size (s.heap.push PySem.W.emptyDict) (o := PySem.W.instObj C s.heap.objs.size) rfl
  rwa [Heap.size_push] at this
 have e3 : (s.heap.push PySem.W.emptyDict).Ns s.heap.objs.size (fun _ => none) := ⟨PySem.W.emptyDict, #[], _, e1, rfl, (fun e he => absurd he (by simp)), fun _ => rfl⟩
 have I1 := I.laid (a := s.heap.objs.size) (o := .own (s.heap.objs.size + 1)) (h' := s.heap.push PySem.W.emptyDict) (t' := s.toks) (fun b u q => Heap.get?_push_of_some _ q) (Nat.le_refl _) ⟨_, e1⟩
 refine I1.laid (a := s.heap.objs.size + 1) (o := .ins C s.heap.objs.size []) (t' := s.toks) (fun b u q => Heap.get?_push_of_some _ q) (Nat.le_of_eq (Heap.size_push _ _)) ?_
 have ne : s.heap.objs.size ≠ s.heap.objs.size + 1 := Nat.ne_of_lt (Nat.lt_succ_self _)
 refine ⟨by rw [Bg ne, Cj], Nat.zero_le _, ne, e2, fun _ => none, (Heap.Ns1.of_empty e3).at fun o q => Heap.get?_push_of_some _ q, fun _ => True.intro, fun y hy => absurd rfl hy⟩
theorem U7 {prog : Program} {w : World} {env : Env} {e : Expr} {f : Str} {pos : Pos} {s : Shared} {Q : Value → Shared → Prop} (hb : attributeBase e f env (eval e env) = eval e env)
  (h : wpAny (model prog w) A (eval e env) (fun o s₁ => wpAny (model prog w) A (getAttr o f true) Q E s₁) E s) : wpAny (model prog w) A (eval (.Attribute e f pos) env) Q E s :=
 Attribute_any_ h (by rw [arm_eval_Attribute, hb])
end
def tFld (K : PySem.W.Frag) (ta : TE) (f : Str) : TE := fun σ H Q => ta σ H fun x H1 => ∃ a C dx fs v, x = .ref a ∧ H1 a = some (.ins C dx fs) ∧ Cls K C ∧ Dy K C f ∧ fs.lookup f = some v ∧ Q v H1
def sFld (K : PySem.W.Frag) (ta tv : TE) (f : Str) : TS := fun D σ H => tv σ H fun y H1 => ta σ H1 fun x H2 => ∃ a C dx fs, x = .ref a ∧ H2 a = some (.ins C dx fs) ∧ Cls K C ∧ Dy K C f ∧ fs.length < 1000 ∧
 D.nx σ (upd H2 a (.ins C dx (putF f y fs)))
section
variable {X : Cx} {o e value : Expr} {f : Str} {pos pos' tpos : Pos} {ta tv : TE}
theorem cW (he : PE X e ta) (hb : attributeBase e f X.env (eval e X.env) = eval e X.env) : PE X (.Attribute e f pos) (tFld X.K ta f) := by
 intro pins s σ H Q I h
 refine U7 hb (thn (he pins s σ H _ I h) fun u s1 ⟨x, H1, I1, rx, a, C, dx, fs, v, ex, ea, c, n, l, q⟩ => ?_)
 subst ex
 obtain rfl : u = Value.ref a := rx
 exact Ud I1 ea c n l fun u' s2 I2 ru => ⟨v, H1, I2, ru, q⟩
theorem cX (ha : PE X o ta) (hv : PE X value tv) (hs : swapsWith value (some (.Attribute o f pos')) pos.line X.env = pure false) : PS X (.Assign [.Attribute o f pos'] value pos) (sFld X.K ta tv f) := by
 intro pins s σ H D I h
 refine plainObj_wpAny_Assign_Attribute (thn (hv pins s σ H _ I h) fun u s1 ⟨y, H1, I1, ry, q⟩ => thn (ha pins s1 σ H1 _ I1 q) fun ov s2 ⟨x, H2, I2, rx, a, C, dx, fs, ex, ea, c, n, l, q2⟩ => ?_) hs
 subst ex
 obtain rfl : ov = Value.ref a := rx
 exact Ue I2 ea c n l ry fun s3 I3 => ⟨σ, _, I3, q2⟩
def rAdd : V → V → Hp → VK → Prop := fun x y H Q => ∃ i j, x = .int i ∧ y = .int j ∧ Q (.int (i + j)) H
end
section
variable {X : Cx} {pins : List (Addr × Obj)} {σ : St} {H : Hp} {s : Shared} {A : Around} {E : Value → Shared → Prop} {Q : Value → Shared → Prop} {c : Value} {b : Bool}
inductive TyOf (K : PySem.W.Frag) (H : Hp) : V → Value → Prop where
  | non : TyOf K H .non (.type "NoneType")
  | bl (x : Bool) : TyOf K H (.bl x) (.type "bool")
  | int (i : Int) : TyOf K H (.int i) (.type "int")
  | str (x : Str) : TyOf K H (.str x) (.type "str")
  | flt (x : UInt64) : TyOf K H (.flt x) (.type "float")
  | lst {a : Addr} {xs : List V} (e : H a = some (.lst xs)) : TyOf K H (.ref a) (.type "list")
  | frz {a : Addr} {o : Obj} {xs : List V} (e : H a = some (.frz o (.lst xs))) : TyOf K H (.ref a) (.type "list")
  | tup {a : Addr} {xs : List V} (e : H a = some (.tup xs)) : TyOf K H (.ref a) (.type "tuple")
  | dK {a : Addr} {kvs : List (Key × V)} (e : H a = some (.dK kvs)) : TyOf K H (.ref a) (.type "dict")
  | dT {a : Addr} {kvs : List (List Key × V)} (e : H a = some (.dT kvs)) : TyOf K H (.ref a) (.type "dict")
  | ins {a C dx : Addr} {fs : List (Str × V)} (e : H a = some (.ins C dx fs)) (cl : Cls K C) (ha : PySem.W.findIn K (.ref C) "__class__" = some (some (.builtin "object.__class__")))
      (hn : PySem.W.specialIn K (.builtin "object.__class__") "__get__" = some (some (.builtin "getset_descriptor.__get__"))) (htk : PySem.W.takesIn K (.builtin "object.__class__") = some true)
      (hm : PySem.W.mroIn K C (.type "object") = some true) : TyOf K H (.ref a) (.ref C)
theorem WK {x : V} {u t : Value} (I : Inv X pins σ H s) (rx : RelV x u) (ty : TyOf X.K H x t) (e : PySem.W.kitOne X.K t c = some b) (h : ∀ tk, Q (.bool b) { s with toks := tk }) :
  wpAny (model X.prog X.w) A (call (.builtin "isinstance") [u, c]) Q E s := by
 cases ty with
 | non => cases (show u = Value.none from rx); exact PySem.W.kia_one PySem.W.kitx_none I.kIn True.intro e (fun z => nomatch z) h
 | bl y => cases (show u = Value.bool y from rx); exact PySem.W.kia_one PySem.W.kitx_bool I.kIn True.intro e (fun z => nomatch z) h
 | int i => obtain ⟨t, q⟩ := (show ∃ t, u = Value.int i t from rx); cases q; exact PySem.W.kia_one PySem.W.kitx_int I.kIn True.intro e (fun z => nomatch z) h
 | str y => obtain ⟨t, q⟩ := (show ∃ t, u = Value.str y t from rx); cases q; exact PySem.W.kia_one PySem.W.kitx_str I.kIn True.intro e (fun z => nomatch z) h
 | flt y => obtain ⟨t, q⟩ := (show ∃ t, u = Value.float y t from rx); cases q; exact PySem.W.kia_one PySem.W.kitx_float I.kIn True.intro e (fun z => nomatch z) h
 | @lst a xs ea =>
  cases (show u = Value.ref a from rx)
  obtain ⟨_, _, n, _, h1⟩ := (show Ds X.prog X.w H s.heap a (.lst xs) from I.hok a _ ea)
  exact PySem.W.kia_one PySem.W.kitx_list I.kIn ⟨_, h1, rfl⟩ e (fun z => nomatch z) h
 | @frz a ob xs ea =>
  cases (show u = Value.ref a from rx)
  obtain ⟨_, _, _, n, _, h1⟩ := (show Ds X.prog X.w H s.heap a (.frz ob (.lst xs)) from I.hok a _ ea)
  exact PySem.W.kia_one PySem.W.kitx_list I.kIn ⟨_, h1, rfl⟩ e (fun z => nomatch z) h
 | @tup a xs ea =>
  cases (show u = Value.ref a from rx)
  obtain ⟨_, _, _, p⟩ := (show Ds X.prog X.w H s.heap a (.tup xs) from I.hok a _ ea)
  obtain ⟨o, h1, h2, _⟩ := p
  exact PySem.W.kia_one PySem.W.kitx_tuple I.kIn ⟨o, h1, h2⟩ e (fun z => nomatch z) h
 | @dK a kvs ea =>
  cases (show u = Value.ref a from rx)
  obtain ⟨_, _, vs, _, p⟩ := (show Ds X.prog X.w H s.heap a (.dK kvs) from I.hok a _ ea)
  obtain ⟨o, es, ep, h1, h2, _⟩ := p
  exact PySem.W.kia_one PySem.W.kitx_dict I.kIn ⟨o, h1, h2.1⟩ e (fun z => nomatch z) h
 | @dT a kvs ea =>
  cases (show u = Value.ref a from rx)
  obtain ⟨_, _, xs, _, o, es, ep, h1, h2, _⟩ := (show Ds X.prog X.w H s.heap a (.dT kvs) from I.hok a _ ea)
  exact PySem.W.kia_one PySem.W.kitx_dict I.kIn ⟨o, h1, h2.1⟩ e (fun z => nomatch z) h
 | @ins a C dx fs ea cl ha hn htk hm =>
  cases (show u = Value.ref a from rx)
  obtain ⟨mA, O, _⟩ := M9 I.hok ea
  obtain ⟨od, J, _⟩ := O.look
  exact PySem.W.kia_one (PySem.W.kitx_own (cl.get _) cl.hd ha hn htk hm) I.kIn J e (fun z => nomatch z) h
end
end L2
namespace L2
open PySem PySem.Spec PyProof.Rows
structure Room (k : Nat) (A : Around) : Prop where
 hd : A.handled = none
 dp : A.depth + 3 * k + 5 < recursionLimit
 un : A.units + 16 * k + 200 < cLine
theorem Room.mono {j k : Nat} {A : Around} (r : Room k A) (h : j ≤ k) : Room j A := ⟨r.hd, by have := r.dp; omega, by have := r.un; omega⟩
theorem Room.deeper {k : Nat} {A : Around} (r : Room (k + 1) A) (env : Env) : Room k (A.deeper env) :=
 ⟨r.hd, by have := r.dp; show A.depth + 1 + 3 * k + 5 < _; omega, by have := r.un; show A.units + 3 + 16 * k + 200 < _; omega⟩
theorem Room.in1 {k : Nat} {A : Around} (r : Room (k + 1) A) : Room k A.in1 :=
 ⟨r.hd, by have := r.dp; show A.depth + 3 * k + 5 < _; omega, by have := r.un; show A.units + 1 + 16 * k + 200 < _; omega⟩
theorem Ug {A : Around} {C : Addr} {us : List Value} {kw : List (Str × Value)} : (A.under (.builtin "type.__call__" ⟨.ref C :: us, kw⟩)).depth = A.depth + 1 := by
 first | rfl | simp [Around.under, Code.weight, Code.isCreation, Code.isGuard, Code.isCaller, Code.frames, Code.isFrame, guardIds]
theorem Uh {A : Around} {C : Addr} {us : List Value} {kw : List (Str × Value)} : (A.under (.builtin "type.__call__" ⟨.ref C :: us, kw⟩)).units = A.units + 1 := by
 first | rfl | simp [Around.under, Code.cUnits, Code.frames, Code.isFrame]
theorem Room.make {k : Nat} {A : Around} (r : Room (k + 1) A) (C : Addr) (us : List Value) (kw : List (Str × Value)) : Room k (A.under (.builtin "type.__call__" ⟨.ref C :: us, kw⟩)) :=
 ⟨r.hd, by have := r.dp; rw [Ug]; omega, by have := r.un; rw [Uh]; omega⟩
theorem Room.depth {k : Nat} {A : Around} (r : Room k A) : A.depth < recursionLimit := by have := r.dp; omega
theorem Room.units {k : Nat} {A : Around} (r : Room k A) : A.units + 64 < cLine := by have := r.un; omega
def tNil : TA := fun _ H Q => Q [] H
def U8 (ta : TE) (tr : TA) : TA := fun σ H Q => ta σ H fun x H1 => tr σ H1 fun xs H2 => Q (x :: xs) H2
section
variable {X : Cx} {e : Expr} {es : List Expr} {te : TE} {t : TA} {pos : Pos}
theorem JT : PA X [] tNil := fun _ _ _ _ H Q I h => Calls.spliced_nil ⟨[], H, I, .nil, h⟩
theorem Fx (ha : PE X e te) (hr : PA X es t) (hs : starEach (e :: es) X.env = (false, eval e X.env) :: starEach es X.env := by rfl) : PA X (e :: es) (U8 te t) := by
 intro pos pins s σ H Q I h
 rw [hs]
 show wpAny _ _ (spliced ((false, eval e X.env) :: backTo pos (starEach es X.env))) _ _ s
 refine Calls.spliced_cons (thn (ha pins s σ H _ I h) fun u s1 ⟨x, H1, I1, r1, q1⟩ => ?_)
 exact thn (hr pos pins s1 σ H1 _ I1 q1) fun us s2 ⟨xs, H2, I2, r2, q2⟩ => ⟨x :: xs, H2, I2, .cons r1 r2, q2⟩
def tTup (t : TA) : TE := fun σ H Q => t σ H fun xs H1 => xs.length ≤ sizeLine ∧ ∀ p, H1 p = none → Q (.ref p) (upd H1 p (.tup xs))
def tLst (t : TA) : TE := fun σ H Q => t σ H fun xs H1 => xs.length ≤ sizeLine ∧ ∀ p, H1 p = none → Q (.ref p) (upd H1 p (.lst xs))
theorem Wy {x1} (h : PA X es t) : PE X (.Tuple es x1 pos) (tTup t) := by
 intro pins s σ H Q I hq
 refine wpAny_Tuple_spliced (thn (h pos pins s σ H _ I hq) fun us s1 ⟨xs, H1, I1, r, z, q⟩ => ⟨by rw [← r.length]; exact z, ?_⟩)
 have hf : H1 s1.heap.objs.size = none := I1.hok.fresh (Nat.le_refl _)
 refine ⟨.ref s1.heap.objs.size, upd H1 s1.heap.objs.size (.tup xs), I1.laid (t' := s1.toks) (fun b u e => Heap.get?_push_of_some _ e) (Nat.le_refl _) ?_, rfl, q _ hf⟩
 exact ⟨z, us, r, ⟨_, Heap.get?_push_size _ rfl, rfl, _, rfl⟩⟩
theorem cY (h : PA X es t) : PE X (.List es pos) (tLst t) := by
 intro pins s σ H Q I hq
 refine wpAny_List_spliced (thn (h pos pins s σ H _ I hq) fun us s1 ⟨xs, H1, I1, r, z, q⟩ => ⟨by rw [← r.length]; exact z, ?_⟩)
 have hf : H1 s1.heap.objs.size = none := I1.hok.fresh (Nat.le_refl _)
 refine ⟨.ref s1.heap.objs.size, upd H1 s1.heap.objs.size (.lst xs), I1.laid (t' := s1.toks) (fun b u e => Heap.get?_push_of_some _ e) (Nat.le_refl _) ?_, rfl, q _ hf⟩
 exact ⟨z, us, 0, r, Heap.get?_push_size _ rfl⟩
end
abbrev Sp := List V → Hp → VK → XK → Prop
abbrev CXT := List Env → Hp → Shared → XK → Value → Shared → Prop
structure Env0 (P : Program) (w : World) (K : PySem.W.Frag) (mg : Str → Option Value) (base : Heap) (A : Around) (outer : List Env) (s : Shared) (H : Hp) : Prop where
 frames : A.frames = some outer
 mod : Mod K mg base
 bs : ∀ b o, base.get? b = some o → s.heap.get? b = some o ∧ H b = none
 bsz : base.objs.size ≤ s.heap.objs.size
 funs : s.heap.FunFrames base outer
 frf : ∀ b ∈ frs outer, H b = none
 hok : HOk P w H s.heap
 bare : AllBare s.gens
def CE (outer : List Env) (P : Program) (w : World) (H : Hp) (s : Shared) (Q : VK) (u : Value) (s' : Shared) : Prop :=
 ∃ v H', s'.os = s.os ∧ AllBare s'.gens ∧ Un (frs outer) [] H H' s.heap s'.heap ∧ HOk P w H' s'.heap ∧ RelV v u ∧ Q v H'
def CR (CX : CXT) (outer : List Env) (P : Program) (w : World) (H : Hp) (s : Shared) (Q : VK) (E : XK) (r : Result) (s' : Shared) : Prop :=
 match r with
 | .ok (.ret u) => CE outer P w H s Q u s'
 | .ok _ => False
 | .error e => CX outer H s E e s'
structure FnOk (P : Program) (w : World) (K : PySem.W.Frag) (mg : Str → Option Value) (base : Heap) (CX : CXT) (k : Nat) (f : Addr) (fd : FuncData) (ps : List Str) (sp : Sp) : Prop where
 len : ∀ vs H Q E, sp vs H Q E → vs.length = ps.length
 run : ∀ (A : Around) (outer : List Env) (s : Shared) (H : Hp) (args : Args) (us : List Value) (vs : List V) (Q : VK) (E : XK), Room k A → Env0 P w K mg base A outer s H → BindsTo s fd args (ps.zip us) → Vals vs us → sp vs H Q E →
  codeAny (model P w) A (.call (.ref f) args) (CR CX outer P w H s Q E) s
theorem FnOk.mono {P : Program} {w : World} {K : PySem.W.Frag} {mg : Str → Option Value} {base : Heap} {CX : CXT} {j k : Nat} {f : Addr} {fd : FuncData} {ps : List Str} {sp : Sp} (F : FnOk P w K mg base CX j f fd ps sp) (h : j ≤ k) :
  FnOk P w K mg base CX k f fd ps sp := ⟨F.len, fun A outer s H args us vs Q E hr => F.run A outer s H args us vs Q E (hr.mono h)⟩
theorem FnOk.imp {P : Program} {w : World} {K : PySem.W.Frag} {mg : Str → Option Value} {base : Heap} {CX : CXT} {k : Nat} {f : Addr} {fd : FuncData} {ps : List Str} {sp sp' : Sp} (F : FnOk P w K mg base CX k f fd ps sp)
  (h : ∀ vs H Q E, sp' vs H Q E → sp vs H Q E) : FnOk P w K mg base CX k f fd ps sp' :=
 ⟨fun vs H Q E q => F.len vs H Q E (h _ _ _ _ q), fun A outer s H args us vs Q E hr he hb hv hs => F.run A outer s H args us vs Q E hr he hb hv (h _ _ _ _ hs)⟩
theorem Env0.make {P : Program} {w : World} {K : PySem.W.Frag} {mg : Str → Option Value} {base : Heap} {A : Around} {outer : List Env} {s : Shared} {H : Hp} (e : Env0 P w K mg base A outer s H) (C : Addr) (us : List Value) (kw : List (Str × Value)) :
  Env0 P w K mg base (A.under (.builtin "type.__call__" ⟨.ref C :: us, kw⟩)) outer s H := ⟨by first | exact e.frames | (simpa [Around.under, Code.envs, Code.isFrame, pushEnvs] using e.frames), e.mod, e.bs, e.bsz, e.funs, e.frf, e.hok, e.bare⟩
theorem Env0.in1 {P : Program} {w : World} {K : PySem.W.Frag} {mg : Str → Option Value} {base : Heap} {A : Around} {outer : List Env} {s : Shared} {H : Hp} (e : Env0 P w K mg base A outer s H) :
  Env0 P w K mg base A.in1 outer s H := ⟨e.frames, e.mod, e.bs, e.bsz, e.funs, e.frf, e.hok, e.bare⟩
section
variable {X : Cx} {pins : List (Addr × Obj)} {σ : St} {H : Hp} {s s' : Shared}
theorem Inv.env0 (I : Inv X pins σ H s) : Env0 X.prog X.w X.K X.mg X.base X.A X.stack s H :=
 ⟨I.ok.frames, I.ok.mod, I.bs, Nat.le_trans I.ok.bsz I.sz, I.stack, I.stkFree, I.hok, I.bare⟩
theorem Inv.after {Q : VK} {u : Value} (I : Inv X pins σ H s) (h : CE X.stack X.prog X.w H s Q u s') : EP X pins σ Q u s' := by
 obtain ⟨v, H', os, bare, un, hok, r, q⟩ := h
 obtain ⟨hh, g, d, t, os'⟩ := s'
 obtain rfl : os' = s.os := os
 exact ⟨v, H', I.call (h' := hh) (g' := g) (d' := d) (t' := t) (ch := []) un hok bare (fun b z => absurd z (by simp)), r, q⟩
end
def gK (sp : Sp) (dvs : List V) (E : XK) (t : TA) : TE := fun σ H Q => t σ H fun vs H1 => sp (vs ++ dvs) H1 Q E
def aq (C : Addr) (m : Str) (sp : Sp) (dvs : List V) (E : XK) (ta : TE) (t : TA) : TE := fun σ H Q => ta σ H fun x H1 => ∃ a dx fs, x = .ref a ∧ H1 a = some (.ins C dx fs) ∧ fs.lookup m = none ∧
 t σ H1 fun vs H2 => sp (x :: (vs ++ dvs)) H2 Q E
def gM (C : Addr) (sp : Sp) (dvs : List V) (E : XK) (t : TA) : TE := fun σ H Q => t σ H fun vs H1 => ∀ x dx, H1 x = none → H1 dx = none → dx ≠ x →
 sp (.ref x :: (vs ++ dvs)) (upd (upd H1 dx (.own x)) x (.ins C dx [])) (fun v H2 => v = .non ∧ Q (.ref x) H2) E
def Binds (K : PySem.W.Frag) (fd : FuncData) (ps : List Str) (ds : List Value) : Prop :=
 ∀ (s : Shared) (us : List Value), K.In s.heap → (us ++ ds).length = ps.length → BindsTo s fd ⟨us, []⟩ (ps.zip (us ++ ds))
theorem Binds.all {K : PySem.W.Frag} {fd : FuncData} {ps : List Str} (h : ∀ us : List Value, us.length = ps.length → bindArgs fd ⟨us, []⟩ = pure (ps.zip us)) : Binds K fd ps [] := fun s us _ hl => by
 rw [List.append_nil] at hl ⊢
 exact .of_eq (h us hl)
def KN (CX : CXT) (X : Cx) (E : XK) : Prop := ∀ (pins : List (Addr × Obj)) (σ : St) (H : Hp) (s : Shared) (e : Value) (s' : Shared), Inv X pins σ H s → CX X.stack H s E e s' → X.xe e s'
section
variable {X : Cx} {CX : CXT} {k : Nat} {f C : Addr} {fd : FuncData} {ps : List Str} {sp : Sp} {dvs : List V} {ds : List Value} {E : XK} {x m : Str} {p pos apos : Pos} {e o : Expr} {es : List Expr} {ta : TE} {t : TA}
theorem Ui {pins : List (Addr × Obj)} {σ : St} {H : Hp} {s : Shared} {Q : VK} {us : List Value} {vs : List V} (F : FnOk X.prog X.w X.K X.mg X.base CX k f fd ps sp) (hr : Room k X.A) (hb : Binds X.K fd ps ds) (hd : Vals dvs ds) (hx : KN CX X E)
  (I : Inv X pins σ H s) (r : Vals vs us) (h : sp (vs ++ dvs) H Q E) : wpAny (model X.prog X.w) X.A (call (.ref f) us) (EP X pins σ Q) X.xe s := by
 have r2 : Vals (vs ++ dvs) (us ++ ds) := r.append hd
 have hl : (us ++ ds).length = ps.length := by rw [← r2.length]; exact F.len _ _ _ _ h
 refine wpAny_call (codeAny_mono (F.run X.A X.stack s H ⟨us, []⟩ (us ++ ds) (vs ++ dvs) Q E hr I.env0 (hb s us I.kIn hl) r2 h) fun r s' hq => ?_)
 cases r with
 | error e => exact hx pins σ H s e s' I hq
 | ok fl =>
  cases fl with
  | ret u => exact I.after hq
  | next => exact False.elim hq
  | brk => exact False.elim hq
  | cont => exact False.elim hq
theorem Y6 (F : FnOk X.prog X.w X.K X.mg X.base CX k f fd ps sp) (hr : Room k X.A) (hg : Gl X x) (hm : X.mg x = some (.ref f)) (hk : PySem.W.keepIn X.K (.ref f) = true) (hb : Binds X.K fd ps ds) (hd : Vals dvs ds) (hx : KN CX X E)
  (ha : PA X (e :: es) t) (hdb : (x == ("__debug__" : Str)) = false := by decide) (he : starEach (e :: es) X.env = (false, eval e X.env) :: starEach es X.env := by rfl) (hpl : (backTo pos (starEach es X.env)).any (·.1) = false := by rfl) :
  PE X (.Call (.Name x p) (e :: es) [] pos) (gK sp dvs E t) := by
 intro pins s σ H Q I h
 refine wpAny_Call_Name_kw (Im I hg hm ?_ hdb)
 refine PySem.W.callWith_K (h₀ := X.base) I.ok.mod.kin hk (thn (ha pos pins s σ H _ I h) fun us s1 ⟨vs, H1, I1, r, q⟩ => ⟨I1.kIn, ?_⟩) he hpl
 exact Ui F hr hb hd hx I1 r q
theorem Y7 {pl : Sem Bool} (he : PE X o ta) (c : Cls X.K C) (hm : Meth X.K C m f) (F : FnOk X.prog X.w X.K X.mg X.base CX k f fd ps sp) (hr : Room k X.A) (hb : Binds X.K fd ps ds) (hd : Vals dvs ds) (hx : KN CX X E) (ha : PA X (e :: es) t)
  (hst : starEach (e :: es) X.env = (false, eval e X.env) :: starEach es X.env := by rfl) (hpl : (backTo pos (starEach es X.env)).any (·.1) = false := by rfl)
  (ht : eval (.Call (.Attribute o m apos) (e :: es) [] pos) X.env = (do
   let ov ← eval o X.env
   standAt apos.atName
   let (f, first) ← holding [ov] (getMethod ov m pl)
   callWith pos f first (backTo pos (starEach (e :: es) X.env)) (backToKw pos (keywordEach [] X.env))) := by rfl) :
  PE X (.Call (.Attribute o m apos) (e :: es) [] pos) (aq C m sp dvs E ta t) := by
 intro pins s σ H Q I h
 refine PySem.W.methodCall_KW (pl := pl) (thn (he pins s σ H _ I h) fun u s1 ⟨x, H1, I1, rx, a, dx, fs, ex, ea, l, q⟩ => ?_) ht
 subst ex
 obtain rfl : u = Value.ref a := rx
 refine Ip I1 ea c hm l ?_
 refine PySem.W.callWith_K (first := [.ref a]) (h₀ := X.base) I.ok.mod.kin hm.kp (thn (ha pos pins s1 σ H1 _ I1 q) fun us s2 ⟨vs, H2, I2, r, q2⟩ => ⟨I2.kIn, ?_⟩) hst hpl
 exact Ui (us := .ref a :: us) (vs := .ref a :: vs) F hr hb hd hx I2 (.cons rfl r) q2
theorem S7 {pl : Sem Bool} (he : PE X o ta) (c : Cls X.K C) (hm : Meth X.K C m f) (F : FnOk X.prog X.w X.K X.mg X.base CX k f fd ps sp) (hr : Room k X.A) (hb : Binds X.K fd ps ds) (hd : Vals dvs ds) (hx : KN CX X E)
  (ht : eval (.Call (.Attribute o m apos) [] [] pos) X.env = (do
   let ov ← eval o X.env
   standAt apos.atName
   let (f, first) ← holding [ov] (getMethod ov m pl)
   callWith pos f first (backTo pos (starEach [] X.env)) (backToKw pos (keywordEach [] X.env))) := by rfl) :
  PE X (.Call (.Attribute o m apos) [] [] pos) (aq C m sp dvs E ta tNil) := by
 intro pins s σ H Q I h
 refine PySem.W.methodCall_KW (pl := pl) (thn (he pins s σ H _ I h) fun u s1 ⟨x, H1, I1, rx, a, dx, fs, ex, ea, l, q⟩ => ?_) ht
 subst ex
 obtain rfl : u = Value.ref a := rx
 refine Ip I1 ea c hm l ?_
 exact PySem.W.callWith_K0 (first := [.ref a]) I1.kIn hm.kp (Ui (us := [.ref a]) (vs := [.ref a]) F hr hb hd hx I1 (.cons rfl .nil) q)
structure Mk (K : PySem.W.Frag) (C f : Addr) : Prop where
 makes : PySem.W.makesIn K C = true
 init : PySem.W.findIn K (.ref C) "__init__" = some (some (.ref f))
 fn : PySem.W.isFn K (.ref f) = true
 kp : PySem.W.keepIn K (.ref C) = true
theorem Wz {pins : List (Addr × Obj)} {σ : St} {H : Hp} {s : Shared} {Q : VK} {us : List Value} {vs : List V} (M : Mk X.K C f) (F : FnOk X.prog X.w X.K X.mg X.base CX k f fd ps sp) (hr : Room (k + 1) X.A) (hb : Binds X.K fd ps ds) (hd : Vals dvs ds)
  (hx : KN CX X E) (I : Inv X pins σ H s) (r : Vals vs us)
  (h : ∀ x dx, H x = none → H dx = none → dx ≠ x → sp (.ref x :: (vs ++ dvs)) (upd (upd H dx (.own x)) x (.ins C dx [])) (fun v H2 => v = .non ∧ Q (.ref x) H2) E) :
  wpAny (model X.prog X.w) X.A (call (.ref C) us) (EP X pins σ Q) X.xe s := by
 have hq := h (s.heap.objs.size + 1) s.heap.objs.size (I.hok.fresh (Nat.le_succ _)) (I.hok.fresh (Nat.le_refl _)) (Nat.ne_of_lt (Nat.lt_succ_self _))
 have I2 := Inv.made (C := C) I
 have r2 : Vals (V.ref (s.heap.objs.size + 1) :: (vs ++ dvs)) (Value.ref (s.heap.objs.size + 1) :: (us ++ ds)) := .cons rfl (r.append hd)
 have hl : (Value.ref (s.heap.objs.size + 1) :: us ++ ds).length = ps.length := by
  have e := r2.length
  rw [F.len _ _ _ _ hq] at e
  exact e.symm
 refine wpAny_call (Wx (f := f) I.kIn M.makes M.init (beq_iff_eq.mp M.fn) (codeAny_mono (F.run _ X.stack _ _ ⟨Value.ref (s.heap.objs.size + 1) :: us, []⟩ (Value.ref (s.heap.objs.size + 1) :: (us ++ ds)) _ _ E (hr.make C us [])
  (I2.env0.make C us []) (hb _ (Value.ref (s.heap.objs.size + 1) :: us) I2.kIn hl) r2 hq) fun r s' hq' => ?_))
 cases r with
 | error e => exact hx pins σ _ _ e s' I2 hq'
 | ok fl =>
  cases fl with
  | ret u =>
   obtain ⟨v, H', I3, rv, ev, q3⟩ := I2.after hq'
   subst ev
   exact ⟨rv, ⟨V.ref (s.heap.objs.size + 1), H', I3, rfl, q3⟩⟩
  | next => exact False.elim hq'
  | brk => exact False.elim hq'
  | cont => exact False.elim hq'
theorem Y8 (M : Mk X.K C f) (F : FnOk X.prog X.w X.K X.mg X.base CX k f fd ps sp) (hr : Room (k + 1) X.A) (hg : Gl X x) (hm : X.mg x = some (.ref C)) (hb : Binds X.K fd ps ds) (hd : Vals dvs ds) (hx : KN CX X E)
  (ha : PA X (e :: es) t) (hdb : (x == ("__debug__" : Str)) = false := by decide) (he : starEach (e :: es) X.env = (false, eval e X.env) :: starEach es X.env := by rfl) (hpl : (backTo pos (starEach es X.env)).any (·.1) = false := by rfl) :
  PE X (.Call (.Name x p) (e :: es) [] pos) (gM C sp dvs E t) := by
 intro pins s σ H Q I h
 refine wpAny_Call_Name_kw (Im I hg hm ?_ hdb)
 refine PySem.W.callWith_K (h₀ := X.base) I.ok.mod.kin M.kp (thn (ha pos pins s σ H _ I h) fun us s1 ⟨vs, H1, I1, r, q⟩ => ⟨I1.kIn, ?_⟩) he hpl
 exact Wz M F hr hb hd hx I1 r q
end
section
variable {X : Cx} {CX : CXT} {k : Nat} {f C : Addr} {fd : FuncData} {ps ks : List Str} {sp : Sp} {E : XK} {x m : Str} {p pos apos kpos : Pos} {e o : Expr} {es : List Expr} {kws : List Keyword} {te ta : TE} {t tk : TA} {nm : Option Str}
variable {g : List Value → List Value → List Value} {gV : List V → List V → List V}
end
structure FnScope (N P : List Str) (sc : Scope) : Prop where
 kind : sc.kind = .function
 co : sc.isCoroutine = false
 gen : sc.isGenerator = false
 nd : N.Nodup
 pre : N.take P.length = P
 par : ∀ x ∈ P, sc.names.lookup x = some .local ∨ sc.names.lookup x = some .cell
 nofree : ∀ y ∈ sc.names, y.2 ≠ .free
theorem P_ {kindOf : Str → Option NameKind} {x : Str} : ∀ {binds : List (Str × Value)} {m : Str → Option Value}, (∀ v, (x, v) ∉ binds) → bindL kindOf binds m x = m x
 | [], _, _ => rfl
 | (n, v) :: r, m, h => by
  unfold bindL
  rw [P_ fun w hw => h w (List.mem_cons_of_mem _ hw)]
  split
  ·have : x ≠ n := by rintro rfl; exact h v List.mem_cons_self
   simp [this]
  ·rfl
theorem QB {kindOf : Str → Option NameKind} {x : Str} : ∀ {binds : List (Str × Value)} {m : Str → Option Value}, (∀ v, (x, v) ∉ binds) → bindC kindOf binds m x = m x
 | [], _, _ => rfl
 | (n, v) :: r, m, h => by
  unfold bindC
  rw [QB fun w hw => h w (List.mem_cons_of_mem _ hw)]
  split
  ·rfl
  ·have : x ≠ n := by rintro rfl; exact h v List.mem_cons_self
   simp [this]
theorem QC {kindOf : Str → Option NameKind} {x : Str} {v : Value} : ∀ {P : List Str} {vs : List Value} {i : Nat} {m : Str → Option Value}, P.Nodup → P[i]? = some x → vs[i]? = some v → kindOf x = some .local →
  bindL kindOf (P.zip vs) m x = some v
 | [], _, _, _, _, h, _, _ => by simp at h
 | _ :: _, [], _, _, _, _, h, _ => by simp at h
 | p :: P, w :: vs, 0, m, nd, h1, h2, hk => by
  simp at h1 h2; subst h1; subst h2
  show bindL kindOf ((p, w) :: P.zip vs) m p = _
  unfold bindL
  rw [P_ fun v hv => (List.nodup_cons.mp nd).1 (List.of_mem_zip hv).1, if_pos hk]
  simp
 | p :: P, w :: vs, i + 1, m, nd, h1, h2, hk => by
  show bindL kindOf ((p, w) :: P.zip vs) m x = _
  unfold bindL
  exact QC (i := i) (List.nodup_cons.mp nd).2 (by simpa using h1) (by simpa using h2) hk
theorem QD {kindOf : Str → Option NameKind} {x : Str} {v : Value} : ∀ {P : List Str} {vs : List Value} {i : Nat} {m : Str → Option Value}, P.Nodup → P[i]? = some x → vs[i]? = some v → kindOf x ≠ some .local →
  bindC kindOf (P.zip vs) m x = some v
 | [], _, _, _, _, h, _, _ => by simp at h
 | _ :: _, [], _, _, _, _, h, _ => by simp at h
 | p :: P, w :: vs, 0, m, nd, h1, h2, hk => by
  simp at h1 h2; subst h1; subst h2
  show bindC kindOf ((p, w) :: P.zip vs) m p = _
  unfold bindC
  rw [QB fun v hv => (List.nodup_cons.mp nd).1 (List.of_mem_zip hv).1, if_neg hk]
  simp
 | p :: P, w :: vs, i + 1, m, nd, h1, h2, hk => by
  show bindC kindOf ((p, w) :: P.zip vs) m x = _
  unfold bindC
  exact QD (i := i) (List.nodup_cons.mp nd).2 (by simpa using h1) (by simpa using h2) hk
def start (N : List Str) (vs : List V) : St := vs.map some ++ List.replicate (N.length - vs.length) none
def cxOf (CX : CXT) (P : Program) (w : World) (K : PySem.W.Frag) (mg : Str → Option Value) (base : Heap) (N : List Str) (qual : Str) (scope : Scope) (f : Addr) (cd : Value) (A : Around) (outer : List Env) (s : Shared) (H : Hp) (E : XK) : Cx where
 prog := P
 w := w
 K := K
 mg := mg
 base := base
 A := A.deeper (envOfC qual scope s.heap.objs.size f cd)
 N := N
 s₀ := s
 H₀ := H
 env := envOfC qual scope s.heap.objs.size f cd
 outer := outer
 stack := envOfC qual scope s.heap.objs.size f cd :: outer
 ex := []
 calm := true
 fn := fun _ => true
 pn := []
 xe := fun e s' => wpAny (model P w) (A.deeper (envOfC qual scope s.heap.objs.size f cd)) (leaving (envOfC qual scope s.heap.objs.size f cd) e) (fun _ s'' => CX outer H s E e s'') (fun e' s'' => CX outer H s E e' s'') s'
theorem S8 {sc : Scope} {n : Nat} {x : Str} (h : sc.names.lookup x = some .cell) : ∃ c, (cellsFrom n sc.names []).lookup x = some c := by
 have q := PySem.W.cellsFrom_some sc.names n [] (.inl h)
 exact Option.isSome_iff_exists.mp q
theorem WL {CX : CXT} {P : Program} {w : World} {K : PySem.W.Frag} {mg : Str → Option Value} {base : Heap} {N ps : List Str} {qual : Str} {scope : Scope} {f : Addr} {cd : Value} {A : Around} {outer : List Env} {s s1 : Shared} {H : Hp} {E : XK} {us : List Value} {vs : List V}
  (S : FnScope N ps scope) (hd : A.handled = none) (e0 : Env0 P w K mg base A outer s H) (hl : vs.length = ps.length) (r : Vals vs us)
  (x : InCallC s s.heap.objs.size (bindL (envOfC qual scope s.heap.objs.size f cd).kindOf (ps.zip us) fun _ => none) (cellsFrom (s.heap.objs.size + 1) scope.names []) (bindC (envOfC qual scope s.heap.objs.size f cd).kindOf (ps.zip us) fun _ => none) s1) :
  Inv (cxOf CX P w K mg base N qual scope f cd A outer s H E) [] (start N vs) H s1 := by
 have hpl : ps.length ≤ N.length := by have := congrArg List.length S.pre; rw [List.length_take] at this; omega
 obtain ⟨h1, tk, rfl, hk⟩ := x.done
 have noA : ∀ b : Addr, b ∉ (cxOf CX P w K mg base N qual scope f cd A outer s H E).ex := fun b z => absurd (show b ∈ ([] : List Addr) from z) (by simp)
 refine ⟨⟨e0.mod, S.kind, rfl, rfl, Nat.le_refl _, fun y z c h1 h2 => ?_, fun y hy => ?_, fun y c _ h => ?_, fun _ => hd, Around.frames_deeper e0.frames, .inr ⟨rfl, rfl⟩, fun b z => absurd z (noA b), e0.bs, e0.bsz, fun b _ _ => noA b, fun b z => absurd z (noA b), e0.funs, e0.frf⟩,
  rfl, e0.bare, Un.kept hk, ⟨_, x.toInCall.ns, fun i y v h1 h2 h3 => ?_⟩, fun y c h => ⟨_, x.cell y c h⟩, e0.hok.fresh (Nat.le_refl _), fun y c h => ?_, fun p hp => absurd (show p ∈ ([] : List (Addr × Obj)) from hp) (by simp), e0.hok.kept hk, ?_⟩
 ·exact name_of_addr x.apart (PySem.mem_of_lookup h1) (PySem.mem_of_lookup h2)
 ·have hy : scope.names.lookup y = some .cell ∨ scope.names.lookup y = some .free := hy
  rcases hy with hy | hy
  ·exact S8 hy
  ·exact absurd rfl (S.nofree _ (PySem.mem_of_lookup hy))
 ·exact Nat.le_of_lt (x.above y c (PySem.mem_of_lookup h))
 ·have hi : i < vs.length := by
   unfold start at h2
   by_cases hi : i < vs.length
   ·exact hi
   ·rw [List.getElem?_append_right (by simpa using hi)] at h2
    rw [List.getElem?_replicate] at h2
    split at h2 <;> cases h2
  have ha : vs[i]? = some v := by
   unfold start at h2
   rw [List.getElem?_append_left (by simpa using hi), List.getElem?_map] at h2
   cases e : vs[i]? with
   | none => rw [e] at h2; cases h2
   | some a => rw [e] at h2; cases h2; rfl
  obtain ⟨u, hu, rv⟩ := r.get ha
  have hp : ps[i]? = some y := by
   rw [← S.pre, List.getElem?_take_of_lt (by omega)]; exact h1
  have ndP : ps.Nodup := by rw [← S.pre]; exact S.nd.sublist (List.take_sublist _ _)
  refine ⟨u, rv, ?_⟩
  rcases S.par y (List.mem_of_getElem? hp) with k | k
  ·exact .inl ⟨k, QC ndP hp hu k⟩
  ·obtain ⟨c, e⟩ := S8 (n := s.heap.objs.size + 1) k
   refine .inr ⟨.inl k, c, e, ?_⟩
   have q := x.cell y c e
   rw [QD ndP hp hu (by show scope.names.lookup y ≠ _; rw [k]; decide)] at q
   exact q
 ·exact e0.hok.fresh (Nat.le_of_lt (x.above y c (PySem.mem_of_lookup h)))
 ·unfold start
  show _ = N.length
  rw [List.length_append, List.length_map, List.length_replicate]
  omega
theorem U9 {CX : CXT} {P : Program} {w : World} {K : PySem.W.Frag} {mg : Str → Option Value} {base : Heap} {k : Nat} {f : Addr} {name qual : Str} {params : Arguments} {body : List Stmt} {scope : Scope} {dV kV doc pm cdv ct oc : Value} {an od : Option Addr}
  {osl : Array (Option Value)} {N ps : List Str} {sp : Sp} (lk : K.lookup f = some ⟨oc, od, .func (PySem.W.fnOf name qual params body scope dV kV doc pm an cdv ct), osl⟩) (hcd : PySem.W.codeIn K cdv qual = true) (S : FnScope N ps scope)
  (len : ∀ vs H Q E, sp vs H Q E → vs.length = ps.length)
  (hbody : ∀ (A : Around) (outer : List Env) (s : Shared) (H : Hp) (vs : List V) (Q : VK) (E : XK), Room k (A.deeper (envOfC qual scope s.heap.objs.size f cdv)) → sp vs H Q E →
   ∃ t, PSs (cxOf CX P w K mg base N qual scope f cdv A outer s H E) body t ∧ t { nx := fun _ H' => Q .non H', rt := Q } (start N vs) H) :
  FnOk P w K mg base CX (k + 1) f (PySem.W.fnOf name qual params body scope dV kV doc pm an cdv ct) ps sp := by
 refine ⟨len, fun A outer s H args us vs Q E hr e0 hb r hsp => ?_⟩
 have hl := len _ _ _ _ hsp
 have KX : K.In s.heap := e0.mod.kin.keeps fun b o e => (e0.bs b o e).1
 have lim : s.heap.NoLimit := e0.mod.nolimit.keeps fun b o e => (e0.bs b o e).1
 have hkind : ∀ y ∈ ps.zip us, scope.names.lookup y.1 = some .local ∨ (scope.names.lookup y.1 = some .cell ∧ ((cellsFrom (s.heap.objs.size + 1) scope.names []).lookup y.1).isSome = true) := fun ⟨n, v⟩ hy => by
  rcases S.par n (List.of_mem_zip hy).1 with q | q
  ·exact .inl q
  ·exact .inr ⟨q, PySem.W.cellsFrom_some _ _ _ (.inl q)⟩
 refine codeAny_call_function hr.depth (KX _ _ lk) rfl S.co S.gen rfl (PySem.W.codeRec_of KX hcd) (hb _ _ _ _ ?_)
 refine wpAny_newFunctionEnv_cells S.kind hkind fun env he s1 x => ?_
 subst he
 refine ⟨lim.keeps x.toInCall.keep, codeAny_func ?_⟩
 obtain ⟨t, ht, hq⟩ := hbody A outer s H vs Q E (hr.deeper _) hsp
 have I : Inv (cxOf CX P w K mg base N qual scope f cdv A outer s H E) [] (start N vs) H s1 := WL S hr.hd e0 hl r x
 refine wpAny_mono (ht [] s1 (start N vs) H _ I hq) (fun fl s' hs => ?_) fun e s' hs => hs
 have fin : ∀ {σ' : St} {H' : Hp} {v : V} {u : Value}, Inv (cxOf CX P w K mg base N qual scope f cdv A outer s H E) [] σ' H' s' → RelV v u → Q v H' → CE outer P w H s Q u s' :=
  fun {σ' H' v u} J rv q => ⟨v, H', J.os, J.bare, J.base, J.hok, rv, q⟩
 cases fl with
 | ret u =>
  obtain ⟨v, σ', H', J, rv, q⟩ := hs
  exact fin J rv q
 | next =>
  obtain ⟨σ', H', J, q⟩ := hs
  exact fin (v := V.non) (u := Value.none) J rfl q
 | brk =>
  obtain ⟨_, _, _, q⟩ := hs
  exact False.elim q
 | cont =>
  obtain ⟨_, _, _, q⟩ := hs
  exact False.elim q
end L2
namespace L2
open PySem PySem.Spec PyProof.Rows
section
variable {X : Cx} {x : Str} {p pos : Pos} {e : Expr} {es : List Expr} {t : TA} {id T : String} {r : List V → Hp → VK → Prop}
def tCB (r : List V → Hp → VK → Prop) (t : TA) : TE := fun σ H Q => t σ H fun vs H1 => r vs H1 Q
theorem S9 (hc : JS X (.builtin id) r) (hg : Gl X x) (hm : X.mg x = none) (hv : bootBuiltins x = some (.builtin id)) (ha : PA X (e :: es) t) (hn : x ≠ "__name__" := by decide) (hdb : (x == ("__debug__" : Str)) = false := by decide)
  (he : starEach (e :: es) X.env = (false, eval e X.env) :: starEach es X.env := by rfl) (hpl : (backTo pos (starEach es X.env)).any (·.1) = false := by rfl) : PE X (.Call (.Name x p) (e :: es) [] pos) (tCB r t) := by
 intro pins s σ H Q I h
 refine wpAny_Call_Name_kw (UV I hg hm hv ?_ hn hdb)
 exact PyProof.Rows.callWith_builtin1 (thn (ha pos pins s σ H _ I h) fun us s1 ⟨vs, H1, I1, r1, q1⟩ => hc pins s1 σ H1 vs us Q I1 r1 q1) he hpl
end
end L2
namespace HT
open PySem PyProof.Rows
section
open PySem.SeqAt
open PySem.AutoSeq1 (wpAny_loadPart')
open PySem.MeetsSeq PySem.MeetsSeq2 PySem.MeetsSeq3
end
section
variable {prog : Program} {w : World} {A : Around} {E : Value → Shared → Prop} {s : Shared}
def sIx (n d : Nat) : Option Int → Nat
 | none => d
 | some v => if v < 0 then (v + (n : Int)).toNat else min v.toNat n
theorem cZ (n d : Nat) (hd : d ≤ n) (o : Option Int) : sIx n d o ≤ n := by
 cases o with
 | none => exact hd
 | some v =>
  show (if v < 0 then (v + (n : Int)).toNat else min v.toNat n) ≤ n
  by_cases hv : v < 0
  ·rw [if_pos hv]; omega
  ·rw [if_neg hv]; exact Nat.min_le_right _ _
theorem U_ (v : Int) (n d : Nat) : (if v < 0 then max (v + (n : Int)) 0 else min v (n : Int)) = ((sIx n d (some v) : Nat) : Int) := by
 show (if v < 0 then max (v + (n : Int)) 0 else min v (n : Int)) = (((if v < 0 then (v + (n : Int)).toNat else min v.toNat n) : Nat) : Int)
 by_cases hv : v < 0
 ·simp only [if_pos hv]; omega
 ·simp only [if_neg hv]; omega
theorem Uj (lo hi : Option Int) (n : Nat) : Builtin.Slice.sliceAdjust lo hi 1 (n : Int) = (((sIx n 0 lo : Nat) : Int), ((sIx n n hi : Nat) : Int)) := by
 have h1 : ¬ ((1 : Int) < 0) := by omega
 unfold Builtin.Slice.sliceAdjust
 simp only [h1, if_false]
 refine Prod.ext ?_ ?_
 ·cases lo with
  | none => rfl
  | some v => exact U_ v n 0
 ·cases hi with
  | none => rfl
  | some v => exact U_ v n n
theorem Uk (i j : Nat) : Builtin.Slice.slicePlaces (i : Int) (j : Int) 1 = j - i := by
 unfold Builtin.Slice.slicePlaces
 have h1 : (1 : Int) > 0 := by omega
 simp only [h1, if_true, Int.ediv_one]
 split <;> omega
theorem OJ {v : Value} {o : Option Int} {Q : Option Int → Shared → Prop} (p : IsPart v o) (h : Q o s) : wpAny (model prog w) A (Builtin.Slice.slicePartIndex v) Q E s := by
 cases p with
 | none => exact slicePart_none h
 | int i t => exact slicePart_int h
theorem Lk {sl : Addr} {vl vu : Value} {lo hi : Option Int} {n : Nat} {Q : Int × Int × Nat → Shared → Prop} (hs : s.heap.IsSliceOf sl vl vu .none) (pl : IsPart vl lo) (pu : IsPart vu hi)
  (h : Q (((sIx n 0 lo : Nat) : Int), 1, sIx n n hi - sIx n 0 lo) s) : wpAny (model prog w) A (Builtin.Slice.sliceApplied (.ref sl) (pure (n : Int))) Q E s := by
 obtain ⟨os, hos, hcs, hds⟩ := id hs
 unfold Builtin.Slice.sliceApplied Builtin.Slice.sliceFields
 refine wpAny_bind (wpAny_bind (wpAny_field hos hds (x := vl) rfl (wpAny_bind (wpAny_field hos hds (x := vu) rfl (wpAny_bind (wpAny_field hos hds (x := .none) rfl (wpAny_pure ?_)))))))
 refine wpAny_bind (slicePart_none ?_)
 show wpAny _ _ (if ((1 : Int) == 0) = true then _ else _) _ _ s
 rw [if_neg (by decide)]
 refine wpAny_bind (OJ pl (wpAny_bind (OJ pu (wpAny_bind (wpAny_pure ?_)))))
 show wpAny _ _ (match Builtin.Slice.sliceAdjust lo hi 1 (n : Int) with | (lo, hi) => pure (lo, (1 : Int), Builtin.Slice.slicePlaces lo hi 1)) _ _ s
 rw [Uj lo hi n]
 show wpAny _ _ (pure (((sIx n 0 lo : Nat) : Int), (1 : Int), Builtin.Slice.slicePlaces ((sIx n 0 lo : Nat) : Int) ((sIx n n hi : Nat) : Int) 1)) _ _ s
 rw [Uk]
 exact wpAny_pure h
theorem W0 (xs : Array Value) (i k : Nat) : ((List.range k).filterMap fun (m : Nat) => xs[((i : Int) + (m : Int) * 1).toNat]?).toArray = ((xs.toList.drop i).take k).toArray := by
 have e : (fun (m : Nat) => xs[((i : Int) + (m : Int) * 1).toNat]?) = fun m => xs[i + m]? := by
  funext m
  have : ((i : Int) + (m : Int) * 1).toNat = i + m := by omega
  rw [this]
 rw [e]
 have := pick_run xs i k
 rw [List.filterMap_map] at this
 have e2 : ((fun x => xs[x]?) ∘ fun x => i + x) = fun m => xs[i + m]? := rfl
 rw [e2] at this
 rw [this]
theorem Ko {t sl : Addr} {items : Array Value} {vl vu : Value} {lo hi : Option Int} {Q : Value → Shared → Prop} (ht : IsTup s.heap t items) (hs : s.heap.IsSliceOf sl vl vu .none) (pl : IsPart vl lo) (pu : IsPart vu hi)
  (hw : ¬ (sIx items.size 0 lo = 0 ∧ sIx items.size items.size hi = items.size))
  (h : Q (.ref s.heap.objs.size) { s with heap := s.heap.push { cls := .type "tuple", data := .seq ((items.toList.drop (sIx items.size 0 lo)).take (sIx items.size items.size hi - sIx items.size 0 lo)).toArray } })
  (hsz : items.size ≤ sizeLine) : wpAny (model prog w) A (getItem (.ref t) (.ref sl)) Q E s := by
 have htake : sizeOk (.seq ((items.toList.drop (sIx items.size 0 lo)).take (sIx items.size items.size hi - sIx items.size 0 lo)).toArray) := by
  show ((items.toList.drop (sIx items.size 0 lo)).take (sIx items.size items.size hi - sIx items.size 0 lo)).toArray.size ≤ sizeLine
  rw [List.size_toArray, List.length_take, List.length_drop, Array.length_toList]
  omega
 have hj : sIx items.size items.size hi ≤ items.size := cZ _ _ (Nat.le_refl _) hi
 obtain ⟨os, hos, hcs, hds⟩ := id hs
 have hTs : s.TypeIs (.ref sl) "slice" := ⟨os, hos, hcs⟩
 unfold getItem
 try with_reducible refine wpAny_holding ?_
 first | refine wpAny_bind (wpAny_pure ?_) | skip
 refine wpAny_bind (wpAny_sequenceKey ht.typeIs (by decide) ?_)
 refine wpAny_bind (wpAny_callSpecial?_slot (name := Str.ofString "__getitem__") ht.typeIs PyProof.Rows.slot_tuple_getitem
  (wpAny_call_entry PyProof.Rows.slot_tuple_getitem ht.typeIs entry_tuple_getitem ?_ (args_tuple_getitem _ _)))
 show wpAny _ _ (Builtin.Tuple.tupleItemsOf (.ref t) >>= _) _ _ s
 refine wpAny_bind (tupleItemsOf_ ht ?_)
 refine wpAny_bind (wpAny_typeOf hTs ?_)
 rw [if_pos (by decide)]
 refine wpAny_bind (Lk hs pl pu ?_)
 have hno : ¬ ((((sIx items.size 0 lo : Nat) : Int) == 0 && (1 : Int) == 1 && (sIx items.size items.size hi - sIx items.size 0 lo) == items.size) = true) := by
  intro q
  rw [Bool.and_eq_true, Bool.and_eq_true] at q
  have q1 : ((sIx items.size 0 lo : Nat) : Int) = 0 := eq_of_beq q.1.1
  have q2 : sIx items.size items.size hi - sIx items.size 0 lo = items.size := eq_of_beq q.2
  exact hw ⟨by omega, by omega⟩
 show wpAny _ _ (if (((sIx items.size 0 lo : Nat) : Int) == 0 && (1 : Int) == 1 && (sIx items.size items.size hi - sIx items.size 0 lo) == items.size) = true then _ else _) _ _ s
 rw [if_neg hno, W0]
 first
  | exact wpAny_bind (m := Builtin.Tuple.tupleExact _) (wpAny_newObj_type (wpAny_pure ⟨_, rfl, wpAny_pure h⟩) htake)
  | exact wpAny_bind (m := Builtin.Tuple.tupleExact _) (wpAny_newObj_type (wpAny_bind (wpAny_pure (wpAny_pure ⟨_, rfl, wpAny_pure h⟩))) htake)
  | exact wpAny_bind (wpAny_bind (m := Builtin.Tuple.tupleExact _) (wpAny_newObj_type (wpAny_pure (wpAny_pure ⟨_, rfl, wpAny_pure h⟩)) htake))
  | exact wpAny_bind (wpAny_bind (m := Builtin.Tuple.tupleExact _) (wpAny_newObj_type (wpAny_pure ⟨_, rfl, wpAny_pure h⟩) htake))
end
end HT
namespace L2
open PySem PySem.Spec PyProof.Rows
abbrev TO := St → Hp → (Option Int → Hp → Prop) → Prop
def PO (X : Cx) (e : Option Expr) (t : TO) : Prop :=
 ∀ (pins : List (Addr × Obj)) (s : Shared) (σ : St) (H : Hp) (Q : Option Int → Hp → Prop), Inv X pins σ H s → t σ H Q →
  wpAny (model X.prog X.w) X.A (evalPart e X.env) (fun u s' => ∃ o H', Inv X pins σ H' s' ∧ IsPart u o ∧ Q o H') X.xe s
def Y9 : TO := fun _ H Q => Q none H
def gO (t : TE) : TO := fun σ H Q => t σ H fun x H1 => ∃ i, x = .int i ∧ Q (some i) H1
section
variable {X : Cx} {e : Expr} {te : TE} {lo hi : Option Expr} {tl th : TO} {pos p2 : Pos}
theorem Y_ : PO X none Y9 := by
 intro pins s σ H Q I h
 rw [evalPart_none]
 exact wpAny_pure ⟨none, H, I, .none, h⟩
theorem ZC (h : PE X e te) : PO X (some e) (gO te) := by
 intro pins s σ H Q I hw
 rw [evalPart_some]
 refine thn (h pins s σ H _ I hw) fun u s1 ⟨x, H1, I1, r1, q1⟩ => ?_
 obtain ⟨i, rfl, q⟩ := q1
 obtain ⟨t, rfl⟩ := r1
 exact ⟨some i, H1, I1, .int i t, q⟩
def SlR (X : Cx) (r : V → Option Int → Option Int → Hp → VK → Prop) : Prop :=
 ∀ (pins : List (Addr × Obj)) (s : Shared) (σ : St) (H : Hp) (x : V) (v vl vu : Value) (lo hi : Option Int) (sl : Addr) (Q : VK), Inv X pins σ H s → RelV x v → s.heap.IsSliceOf sl vl vu .none → IsPart vl lo → IsPart vu hi → r x lo hi H Q →
  ∃ T id, typeLookup (.type T) "__getitem__" = pure (some (.builtin id)) ∧ s.TypeIs v T ∧ wpAny (model X.prog X.w) X.A (getItem v (.ref sl)) (EP X pins σ Q) X.xe s
theorem SlR.or {r r' : V → Option Int → Option Int → Hp → VK → Prop} (h : SlR X r) (h' : SlR X r') : SlR X (fun x lo hi H Q => r x lo hi H Q ∨ r' x lo hi H Q) := by
 intro pins s σ H x v vl vu lo hi sl Q I rx hs pl pu q
 rcases q with q | q
 ·exact h pins s σ H x v vl vu lo hi sl Q I rx hs pl pu q
 ·exact h' pins s σ H x v vl vu lo hi sl Q I rx hs pl pu q
def tSl (r : V → Option Int → Option Int → Hp → VK → Prop) (te : TE) (tl th : TO) : TE := fun σ H Q => te σ H fun x H1 => tl σ H1 fun l H2 => th σ H2 fun u H3 => r x l u H3 Q
theorem W2 {r : V → Option Int → Option Int → Hp → VK → Prop} (hr : SlR X r) (he : PE X e te) (hl : PO X lo tl) (hu : PO X hi th) : PE X (.Subscript e (.Slice lo hi none p2) pos) (tSl r te tl th) := by
 intro pins s σ H Q I h
 refine Subscript_ (thn (he pins s σ H _ I h) fun v s1 ⟨x, H1, I1, r1, q1⟩ => ?_)
 refine wpAny_Slice (thn (hl pins s1 σ H1 _ I1 q1) fun vl s2 ⟨l, H2, I2, pl, q2⟩ => thn (hu pins s2 σ H2 _ I2 q2) fun vu s3 ⟨u, H3, I3, pu, q3⟩ => ?_)
 rw [evalPart_none]
 refine wpAny_pure ?_
 have I4 : Inv X pins σ H3 { s3 with heap := s3.heap.push { cls := .type "slice", data := .fields #[vl, vu, .none] } } := I3.kept (t' := s3.toks) fun b ob q => Heap.get?_push_of_some _ q
 obtain ⟨T, id, hT, ht, hg⟩ := hr pins { s3 with heap := s3.heap.push { cls := .type "slice", data := .fields #[vl, vu, .none] } } σ H3 x v vl vu l u s3.heap.objs.size Q I4 r1 (Heap.IsSliceOf.new ..) pl pu q3
 show wpAny (model X.prog X.w) X.A (subscriptTail e (.Slice lo hi none p2) v (.ref s3.heap.objs.size)) (EP X pins σ Q) X.xe { s3 with heap := s3.heap.push { cls := .type "slice", data := .fields #[vl, vu, .none] } }
 exact tail_any (ops := [.ref s3.heap.objs.size, v]) ht hT hg (by with_unfolding_all rfl)
def cutV (xs : List V) (lo hi : Option Int) : List V := (xs.drop (HT.sIx xs.length 0 lo)).take (HT.sIx xs.length xs.length hi - HT.sIx xs.length 0 lo)
theorem Mh (xs : List V) (lo hi : Option Int) : (cutV xs lo hi).length ≤ xs.length := by
 unfold cutV
 rw [List.length_take, List.length_drop]
 omega
def rSlT (K : PySem.W.Frag) : V → Option Int → Option Int → Hp → VK → Prop := fun x lo hi H Q => ∃ a xs, x = .ref a ∧ SqT K H a xs ∧
 ¬ (HT.sIx xs.length 0 lo = 0 ∧ HT.sIx xs.length xs.length hi = xs.length) ∧ ∀ p, H p = none → Q (.ref p) (upd H p (.tup (cutV xs lo hi)))
theorem cg : SlR X (rSlT X.K) := by
 intro pins s σ H x v vl vu lo hi sl Q I rx hs pl pu h
 obtain ⟨a, xs, rfl, hx, hw, q⟩ := h
 cases rx
 obtain ⟨its, r, ht, hz⟩ := I.tuple hx
 have hlen : its.toArray.size = xs.length := by rw [List.size_toArray]; exact r.length.symm
 refine ⟨"tuple", _, PyProof.Rows.slot_tuple_getitem.lookup, ht.typeIs, ?_⟩
 refine HT.Ko ht hs pl pu (by rw [hlen]; exact hw) ?_ (by rw [hlen]; exact hz)
 rw [hlen]
 refine ⟨.ref s.heap.objs.size, _, I.laid (t' := s.toks) (o := .tup (cutV xs lo hi)) (fun b ob q => Heap.get?_push_of_some _ q) (Nat.le_refl _) ?_, rfl, q _ (I.hok.fresh (Nat.le_refl _))⟩
 exact ⟨Nat.le_trans (Mh xs lo hi) hz, _, (r.drop (HT.sIx xs.length 0 lo)).take (HT.sIx xs.length xs.length hi - HT.sIx xs.length 0 lo), IsTup.new _ _⟩
end
end L2
namespace L2
open PySem PySem.Spec PyProof.Rows
def ixN (n : Nat) (i : Int) : Option Nat := if 0 ≤ i then (if i < n then some i.toNat else none) else if -(n : Int) ≤ i then some (i + n).toNat else none
def atI {α : Type} (xs : List α) (i : Int) : Option α := (ixN xs.length i).bind fun j => xs[j]?
theorem ZD {n : Nat} {i : Int} {j : Nat} (h : ixN n i = some j) : seqIndex? i n = some j ∧ j < n ∧ -(n : Int) ≤ i ∧ i < n := by
 unfold ixN at h
 by_cases h0 : 0 ≤ i
 ·rw [if_pos h0] at h
  by_cases h1 : i < n
  ·rw [if_pos h1] at h
   have e : i.toNat = j := Option.some.inj h
   exact ⟨by rw [seqIndex_of h0 h1, e], by omega, by omega, h1⟩
  ·rw [if_neg h1] at h; cases h
 ·rw [if_neg h0] at h
  by_cases h1 : -(n : Int) ≤ i
  ·rw [if_pos h1] at h
   have e : (i + n).toNat = j := Option.some.inj h
   exact ⟨by rw [seqIndex_neg (by omega) h1, e], by omega, h1, by omega⟩
  ·rw [if_neg h1] at h; cases h
theorem Qj {α : Type} {xs : List α} {i : Int} {v : α} (h : atI xs i = some v) : ∃ j, seqIndex? i xs.length = some j ∧ xs[j]? = some v ∧ j < xs.length ∧ -(xs.length : Int) ≤ i ∧ i < xs.length := by
 unfold atI at h
 cases e : ixN xs.length i with
 | none => rw [e] at h; cases h
 | some j =>
  rw [e] at h
  obtain ⟨h1, h2, h3, h4⟩ := ZD e
  exact ⟨j, h1, h, h2, h3, h4⟩
def Qk (b : Expr) : Prop := ∀ o i, subscripted b false o i = operate [o, i] (getItem o i)
def IxR (X : Cx) (r : R2) : Prop :=
 ∀ (value slice : Expr) (pins : List (Addr × Obj)) (s : Shared) (σ : St) (H : Hp) (x y : V) (v u : Value) (Q : VK), Inv X pins σ H s → RelV x v → RelV y u → r x y H Q →
  subscripted slice false v u = operate [v, u] (getItem v u) → wpAny (model X.prog X.w) X.A (subscriptTail value slice v u) (EP X pins σ Q) X.xe s
def MtR (X : Cx) (id : String) (r : V → List V → Hp → VK → Prop) : Prop :=
 ∀ (pins : List (Addr × Obj)) (s : Shared) (σ : St) (H : Hp) (x : V) (xs : List V) (v : Value) (us : List Value) (Q : VK), Inv X pins σ H s → RelV x v → Vals xs us → r x xs H Q →
  wpAny (model X.prog X.w) X.A (call (.builtin id) (v :: us)) (EP X pins σ Q) X.xe s
section
variable {X : Cx} {a b : Expr} {ta tb : TE} {pos : Pos}
theorem IxR.or {r r' : R2} (h : IxR X r) (h' : IxR X r') : IxR X (fun x y H Q => r x y H Q ∨ r' x y H Q) := by
 intro value slice pins s σ H x y v u Q I rx ry q hs
 rcases q with q | q
 ·exact h value slice pins s σ H x y v u Q I rx ry q hs
 ·exact h' value slice pins s σ H x y v u Q I rx ry q hs
theorem MtR.or {id : String} {r r' : V → List V → Hp → VK → Prop} (h : MtR X id r) (h' : MtR X id r') : MtR X id (fun x xs H Q => r x xs H Q ∨ r' x xs H Q) := by
 intro pins s σ H x xs v us Q I rx rs q
 rcases q with q | q
 ·exact h pins s σ H x xs v us Q I rx rs q
 ·exact h' pins s σ H x xs v us Q I rx rs q
theorem gP {r : R2} (hr : IxR X r) (ha : PE X a ta) (hb : PE X b tb) (hs : Qk b) : PE X (.Subscript a b pos) (tOp r ta tb) := by
 intro pins s σ H Q I h
 exact Subscript_ (binT ha hb I h fun v u s2 x y H2 I2 rx ry q => hr a b pins s2 σ H2 x y v u Q I2 rx ry q (hs _ _))
def rIxL (K : PySem.W.Frag) : R2 := fun x y H Q => ∃ p xs i v, x = .ref p ∧ y = .int i ∧ SqL K H p xs ∧ atI xs i = some v ∧ Q v H
def rIxT (K : PySem.W.Frag) : R2 := fun x y H Q => ∃ p xs i v, x = .ref p ∧ y = .int i ∧ SqT K H p xs ∧ atI xs i = some v ∧ Q v H
def rIxS : R2 := fun x y H Q => ∃ z i c, x = .str z ∧ y = .int i ∧ z.length ≤ sizeLine ∧ atI z.cps.toList i = some c ∧ Q (.str ⟨#[c]⟩) H
theorem ZF : IxR X (rIxL X.K) := by
 intro value slice pins s σ H x y v u Q I rx ry h hs
 obtain ⟨p, xs, i, z, rfl, rfl, hq, he, q⟩ := h
 cases rx
 obtain ⟨t, rfl⟩ := ry
 obtain ⟨its, r, pl, hz⟩ := I.list hq
 obtain ⟨j, h1, h2, h3, h4, h5⟩ := Qj he
 obtain ⟨w, ew, rw'⟩ := r.get h2
 have hl := r.length
 have hn := OD
 have fin : EP X pins σ Q w s := ⟨z, H, I, rw', q⟩
 by_cases h0 : 0 ≤ i
 ·have hj : i.toNat = j := by
   rw [seqIndex_of h0 h5] at h1
   exact Option.some.inj h1
  exact item_listR pl.isList h0 (by omega) (by rw [hj]; simpa using ew) fin hs
 ·have hj : (i + (its.toArray.size : Int)).toNat = j := by
   rw [seqIndex_neg (by omega) h4] at h1
   rw [List.size_toArray, ← hl]
   exact Option.some.inj h1
  exact subscriptTail_builtinR (x := w) pl.isList.typeIs slot_list_getitem.lookup
   (wpAny_getItem_list_neg (Q := fun r s' => r = w ∧ EP X pins σ Q r s') pl.isList (by omega) (by rw [List.size_toArray] <;> omega) (by omega) (by rw [hj]; simpa using ew) ⟨rfl, fin⟩) hs
theorem cj : IxR X (rIxT X.K) := by
 intro value slice pins s σ H x y v u Q I rx ry h hs
 obtain ⟨p, xs, i, z, rfl, rfl, hq, he, q⟩ := h
 cases rx
 obtain ⟨t, rfl⟩ := ry
 obtain ⟨its, r, pl, hz⟩ := I.tuple hq
 obtain ⟨j, h1, h2, h3, h4, h5⟩ := Qj he
 obtain ⟨w, ew, rw'⟩ := r.get h2
 have hl := r.length
 have hn := OD
 have fin : EP X pins σ Q w s := ⟨z, H, I, rw', q⟩
 exact subscriptTail_builtinR (x := w) pl.typeIs slot_tuple_getitem.lookup
  (getItem_tuple (j := j) (Q := fun r s' => r = w ∧ EP X pins σ Q r s') pl (by omega) (by omega) (by rw [List.size_toArray, ← hl]; exact h1) (by simpa using ew) ⟨rfl, fin⟩) hs
theorem cu : IxR X rIxS := by
 intro value slice pins s σ H x y v u Q I rx ry h hs
 obtain ⟨z, i, c, rfl, rfl, hz, he, q⟩ := h
 obtain ⟨t, rfl⟩ := rx
 obtain ⟨t', rfl⟩ := ry
 obtain ⟨j, h1, h2, h3, h4, h5⟩ := Qj he
 have hl : z.cps.toList.length = z.length := by simp [Str.length]
 rw [hl] at h1 h4 h5
 have hn := OD
 exact tail_any (typeIs_str s z t) slot_str_getitem.lookup (getItem_str (c := c) (by
  have e1 : decide (i < -(2 ^ 63 : Int)) = false := decide_eq_false (by omega)
  have e2 : decide (i ≥ 2 ^ 63) = false := decide_eq_false (by omega)
  rw [e1, e2, Bool.or_false]) (by rw [h1]; simpa using h2) ⟨.str ⟨#[c]⟩, H, I.tok _, ⟨_, rfl⟩, q⟩) hs
def rIx (K : PySem.W.Frag) : R2 := fun x y H Q => rIxL K x y H Q ∨ rIxT K x y H Q ∨ rIxS x y H Q
theorem cz : IxR X (rIx X.K) := ZF.or (cj.or cu)
theorem Inv.lst {pins : List (Addr × Obj)} {σ : St} {H : Hp} {s : Shared} {p : Addr} {xs : List V} (I : Inv X pins σ H s) (h : H p = some (.lst xs)) :
  ∃ (its : List Value) (n : Nat), Vals xs its ∧ s.heap.get? p = some { cls := .type "list", data := .seq its.toArray n } ∧ xs.length ≤ sizeLine := by
 obtain ⟨z, its, n, r, e⟩ := I.hok p _ h
 exact ⟨its, n, r, e, z⟩
theorem Ql (lo hi : Option Int) (n : Nat) : (sliceBounds lo hi none n).1 = ((HT.sIx n 0 lo : Nat) : Int) ∧ (sliceBounds lo hi none n).2.1 = ((HT.sIx n n hi : Nat) : Int) ∧ (sliceBounds lo hi none n).2.2 = 1 := by
 refine ⟨?_, ?_, rfl⟩
 ·cases lo with
  | none => simp [sliceBounds, HT.sIx]
  | some i =>
   simp only [sliceBounds, HT.sIx, Option.getD_none, show (1 : Int) > 0 by decide, if_true]
   by_cases h : i < 0
   ·simp only [h, if_true] <;> omega
   ·simp only [h, if_false] <;> omega
 ·cases hi with
  | none => simp [sliceBounds, HT.sIx]
  | some i =>
   simp only [sliceBounds, HT.sIx, Option.getD_none, show (1 : Int) > 0 by decide, if_true]
   by_cases h : i < 0
   ·simp only [h, if_true] <;> omega
   ·simp only [h, if_false] <;> omega
theorem Pb (its : List Value) (lo hi : Option Int) : slicePick its.toArray lo hi none = ((its.drop (HT.sIx its.length 0 lo)).take (HT.sIx its.length its.length hi - HT.sIx its.length 0 lo)).toArray := by
 obtain ⟨h1, h2, h3⟩ := Ql lo hi its.toArray.size
 unfold slicePick
 rw [h1, h2, h3]
 simp only [sliceRange_one, pick_run, List.size_toArray] <;> rfl
def rSlL (K : PySem.W.Frag) : V → Option Int → Option Int → Hp → VK → Prop := fun x lo hi H Q => ∃ a xs, x = .ref a ∧ SqL K H a xs ∧ ∀ p, H p = none → Q (.ref p) (upd H p (.lst (cutV xs lo hi)))
theorem ZG : SlR X (rSlL X.K) := by
 intro pins s σ H x v vl vu lo hi sl Q I rx hs pl pu h
 obtain ⟨a, xs, rfl, hx, q⟩ := h
 cases rx
 obtain ⟨its, r, ht, hz⟩ := I.list hx
 have hlen := r.length
 refine ⟨"list", _, slot_list_getitem.lookup, ht.isList.typeIs, ?_⟩
 refine wpAny_getItem_list_slice ht.isList hs pl pu .none (by simp) ?_ (by rw [List.size_toArray] <;> omega)
 rw [Pb, ← hlen]
 refine ⟨.ref s.heap.objs.size, _, I.laid (t' := s.toks) (o := .lst (cutV xs lo hi)) (fun b ob q => Heap.get?_push_of_some _ q) (Nat.le_refl _) ?_, rfl, q _ (I.hok.fresh (Nat.le_refl _))⟩
 exact ⟨Nat.le_trans (Mh xs lo hi) hz, _, 0, (r.drop (HT.sIx xs.length 0 lo)).take (HT.sIx xs.length xs.length hi - HT.sIx xs.length 0 lo), Heap.get?_push_size _ rfl⟩
def JP : V → Bool
 | .non => true
 | .bl _ => true
 | .int _ => true
 | .str _ => true
 | _ => false
def eqV : V → V → Bool
 | .non, .non => true
 | .bl a, .bl b => a == b
 | .bl a, .int b => (if a then 1 else 0) == b
 | .int a, .bl b => a == (if b then 1 else 0)
 | .int a, .int b => a == b
 | .str a, .str b => a == b
 | _, _ => false
theorem W3 {A : Around} {s : Shared} {y x : V} {u v : Value} (ry : RelV y u) (rx : RelV x v) (fy : JP y = true) (fx : JP x = true) : SeqAt.EqAt A s u v (eqV y x) := by
 cases y with
 | non =>
  cases ry
  cases x with
  | non => cases rx; exact SeqAt.EqAt.same _
  | bl b => cases rx; exact SeqAt.EqAt.none_bool b
  | int b => obtain ⟨t, rfl⟩ := rx; exact SeqAt.EqAt.none_int b t
  | str b => obtain ⟨t, rfl⟩ := rx; exact SeqAt.EqAt.none_str b t
  | _ => exact absurd (show false = true from fx) Bool.false_ne_true
 | bl a =>
  cases ry
  cases x with
  | non => cases rx; exact SeqAt.EqAt.bool_none a
  | bl b => cases rx; exact SeqAt.EqAt.bool_bool a b
  | int b => obtain ⟨t, rfl⟩ := rx; exact SeqAt.EqAt.bool_int a b t
  | str b => obtain ⟨t, rfl⟩ := rx; exact SeqAt.EqAt.bool_str a b t
  | _ => exact absurd (show false = true from fx) Bool.false_ne_true
 | int a =>
  obtain ⟨t', rfl⟩ := ry
  cases x with
  | non => cases rx; exact SeqAt.EqAt.int_none a t'
  | bl b => cases rx; exact SeqAt.EqAt.int_bool a t' b
  | int b => obtain ⟨t, rfl⟩ := rx; exact SeqAt.EqAt.int_int a t' b t
  | str b => obtain ⟨t, rfl⟩ := rx; exact SeqAt.EqAt.int_str a t' b t
  | _ => exact absurd (show false = true from fx) Bool.false_ne_true
 | str a =>
  obtain ⟨t', rfl⟩ := ry
  cases x with
  | non => cases rx; exact SeqAt.EqAt.str_none a t'
  | bl b => cases rx; exact SeqAt.EqAt.str_bool a t' b
  | int b => obtain ⟨t, rfl⟩ := rx; exact SeqAt.EqAt.str_int a t' b t
  | str b => obtain ⟨t, rfl⟩ := rx; exact SeqAt.EqAt.str_str a t' b t
  | _ => exact absurd (show false = true from fx) Bool.false_ne_true
 | _ => exact absurd (show false = true from fy) Bool.false_ne_true
def eqU (x : V) (u : Value) : Bool := match u with
 | .none => eqV .non x
 | .bool b => eqV (.bl b) x
 | .int i _ => eqV (.int i) x
 | .str z _ => eqV (.str z) x
 | _ => false
theorem W4 {x y : V} {u : Value} (r : RelV y u) (f : JP y = true) : eqU x u = eqV y x := by
 cases y with
 | non => cases r; rfl
 | bl b => cases r; rfl
 | int i => obtain ⟨t, rfl⟩ := r; rfl
 | str z => obtain ⟨t, rfl⟩ := r; rfl
 | _ => exact absurd (show false = true from f) Bool.false_ne_true
theorem Qm {x : V} : ∀ {xs : List V} {us : List Value}, Vals xs us → xs.all JP = true → us.any (eqU x) = xs.any fun y => eqV y x
 | _, _, .nil, _ => rfl
 | y :: xs, u :: us, .cons r t, f => by
  rw [List.all_cons, Bool.and_eq_true] at f
  rw [List.any_cons, List.any_cons, W4 r f.1, Qm t f.2]
theorem Oa {A : Around} {s : Shared} {x : V} {v : Value} (rx : RelV x v) (fx : JP x = true) : ∀ {xs : List V} {us : List Value}, Vals xs us → xs.all JP = true → ∀ u ∈ us, SeqAt.EqAt A s u v (eqU x u)
 | _, _, .nil, _ => fun u hu => by cases hu
 | y :: xs, u :: us, .cons r t, f => fun u' hu => by
  rw [List.all_cons, Bool.and_eq_true] at f
  rcases List.mem_cons.mp hu with rfl | hu
  ·rw [W4 r f.1]; exact W3 r rx f.1 fx
  ·exact Oa rx fx t f.2 u' hu
def inV (x : V) (xs : List V) : Bool := xs.any fun y => eqV y x
def rIn (K : PySem.W.Frag) (neg : Bool) : R2 := fun x y H Q => ∃ p xs, y = .ref p ∧ (SqL K H p xs ∨ SqT K H p xs) ∧ JP x = true ∧ xs.all JP = true ∧ Q (.bl (if neg then !inV x xs else inV x xs)) H
theorem WM : OpR X (compareOp .In) (rIn X.K false) := by
 intro pins s σ H x y v u Q I rx ry h
 obtain ⟨p, xs, rfl, hq, fx, fs, q⟩ := h
 cases ry
 rcases hq with hq | hq
 ·obtain ⟨its, r, pl, hz⟩ := I.list hq
  refine SeqAt.in_listAt (eqU x) pl.isList (fun w hw => Oa rx fx r fs w (by simpa using hw)) ⟨.bl _, H, I, rfl, ?_⟩
  rw [show its.toArray.any (eqU x) = its.any (eqU x) by simp, Qm r fs]
  exact q
 ·obtain ⟨its, r, pl, hz⟩ := I.tuple hq
  refine SeqAt.in_tupleAt (eqU x) pl (fun w hw => Oa rx fx r fs w (by simpa using hw)) ⟨.bl _, H, I, rfl, ?_⟩
  rw [show its.toArray.any (eqU x) = its.any (eqU x) by simp, Qm r fs]
  exact q
theorem JS.or {f : Value} {r r' : List V → Hp → VK → Prop} (h : JS X f r) (h' : JS X f r') : JS X f (fun xs H Q => r xs H Q ∨ r' xs H Q) := by
 intro pins s σ H xs us Q I rs q
 rcases q with q | q
 ·exact h pins s σ H xs us Q I rs q
 ·exact h' pins s σ H xs us Q I rs q
def tyV (K : PySem.W.Frag) (T : String) (x : V) (H : Hp) : Prop := match x with
  | .str _ => T = "str"
  | .int _ => T = "int"
  | .ref p => (T = "list" ∧ ∃ xs, SqL K H p xs) ∨ (T = "tuple" ∧ ∃ o, K.lookup p = some o ∧ o.cls = .type "tuple" ∧ o.dict = none) ∨
      (T = "dict" ∧ ((∃ kvs, H p = some (.dK kvs)) ∨ ∃ kvs, H p = some (.dT kvs))) ∨ (T = "set" ∧ ∃ S n, H p = some (.set S n))
  | _ => False
theorem dB {pins : List (Addr × Obj)} {σ : St} {H : Hp} {s : Shared} {T : String} {x : V} {v : Value} (I : Inv X pins σ H s) (r : RelV x v) (ty : tyV X.K T x H) :
  s.TypeIs v T ∧ ∀ a, v = .ref a → ∃ ob, s.heap.get? a = some ob ∧ ob.dict = none := by
 cases x with
 | str z =>
  obtain ⟨t, rfl⟩ := r
  cases (show T = "str" from ty)
  exact ⟨typeIs_str s z t, fun _ e => nomatch e⟩
 | int i =>
  obtain ⟨t, rfl⟩ := r
  cases (show T = "int" from ty)
  exact ⟨typeIs_int s i t, fun _ e => nomatch e⟩
 | ref p =>
  cases r
  rcases ty with ⟨rfl, xs, hq⟩ | ⟨rfl, o, hk, hc, hd⟩ | ⟨rfl, hk⟩ | ⟨rfl, S, n, hk⟩
  ·obtain ⟨its, _, pl, _⟩ := I.list hq
   refine ⟨pl.isList.typeIs, fun a e => ?_⟩
   cases e
   obtain ⟨o, n, e, c, hd, _⟩ := pl
   exact ⟨o, e, hd⟩
  ·refine ⟨⟨o, I.kIn p o hk, hc⟩, fun a e => ?_⟩
   cases e
   exact ⟨o, I.kIn _ o hk, hd⟩
  ·have z : ∃ o, s.heap.get? p = some o ∧ o.ExactDict := by
    rcases hk with ⟨kvs, hk⟩ | ⟨kvs, hk⟩
    ·obtain ⟨_, _, _, _, o, _, _, e, ex, _⟩ := I.hok p _ hk
     exact ⟨o, e, ex⟩
    ·obtain ⟨_, _, _, _, o, _, _, e, ex, _⟩ := I.hok p _ hk
     exact ⟨o, e, ex⟩
   obtain ⟨o, e, ex⟩ := z
   refine ⟨⟨o, e, ex.1⟩, fun a e2 => ?_⟩
   cases e2
   exact ⟨o, e, ex.2.1⟩
  ·obtain ⟨o, _, _, _, e, ex, _⟩ := I.hok p _ hk
   refine ⟨⟨o, e, ex.1⟩, fun a e2 => ?_⟩
   cases e2
   exact ⟨o, e, ex.2.1⟩
 | _ => exact False.elim ty
def tBM (K : PySem.W.Frag) (T : String) (r : V → List V → Hp → VK → Prop) (to : TE) (t : TA) : TE := fun σ H Q => to σ H fun x H1 => tyV K T x H1 ∧ t σ H1 fun xs H2 => r x xs H2 Q
variable {o e : Expr} {es : List Expr} {to : TE} {t : TA} {name : Str} {apos cpos : Pos} {T id : String} {r : V → List V → Hp → VK → Prop}
theorem gQ (pa : PlainAttrs T) (slot : Slot T name id) (hty : typeOf (.builtin id) = pure (.type "method_descriptor")) (hm : MtR X id r) (ho : PE X o to) (ha : PA X (e :: es) t)
  (hbase : attributeBase o name X.env (eval o X.env) = eval o X.env := by rfl)
  (hfew : ((backTo cpos (starEach (e :: es) X.env)).all (fun x => !x.1) && (backToKw cpos (keywordEach [] X.env)).all (fun x => x.1.isSome)
   && decide ((e :: es).length + ([] : List Keyword).length + (if ([] : List Keyword).isEmpty then 0 else 1) < 30)) = true := by rfl)
  (hline : (apos.endLine == cpos.line) = true := by rfl) (hs : starEach (e :: es) X.env = (false, eval e X.env) :: starEach es X.env := by rfl) (hplain : (backTo cpos (starEach es X.env)).any (·.1) = false := by rfl) :
  PE X (.Call (.Attribute o name apos) (e :: es) [] cpos) (tBM X.K T r to t) := by
 intro pins s σ H Q I h
 refine wpAny_Call_method_late hbase hfew hline rfl (thn (ho pins s σ H _ I h) fun v s1 ⟨x, H1, I1, r1, ty, q1⟩ => ?_)
 obtain ⟨h1, h2⟩ := dB I1 r1 ty
 refine ⟨T, id, pa, slot, hty, h1, h2, ?_⟩
 have hA := ha cpos pins s1 σ H1 _ I1 q1
 rw [hs] at hA ⊢
 refine Calls.callWith_builtin (by show (false || (backTo cpos (starEach es X.env)).any (·.1)) = false; rw [hplain] <;> rfl) (Calls.evalArgs_plain ?_)
 exact thn hA fun us s2 ⟨vs, H2, I2, r2, q2⟩ => hm pins s2 σ H2 x vs v us Q I2 r1 r2 q2
end
end L2
namespace L2
open PySem PySem.Spec PyProof.Rows
def MtM (X : Cx) (id : String) (r : V → List V → Hp → VK → Prop) : Prop :=
 ∀ (pins : List (Addr × Obj)) (s : Shared) (σ : St) (H : Hp) (x : V) (xs : List V) (v : Value) (us : List Value) (Q : VK), Inv X pins σ H s → RelV x v → Vals xs us → r x xs H Q →
  wpAny (model X.prog X.w) X.A (call (.builtin id) (v :: us)) (EP X pins σ Q) X.xe s
theorem Vals.one : ∀ {x : V} {us : List Value}, Vals [x] us → ∃ u, us = [u] ∧ RelV x u
 | _, _, .cons r .nil => ⟨_, rfl, r⟩
theorem Vals.two : ∀ {x y : V} {us : List Value}, Vals [x, y] us → ∃ u v, us = [u, v] ∧ RelV x u ∧ RelV y v
 | _, _, _, .cons r (.cons q .nil) => ⟨_, _, rfl, r, q⟩
theorem Vals.zero : ∀ {us : List Value}, Vals [] us → us = []
 | _, .nil => rfl
theorem Vals.dropLast {xs : List V} {us : List Value} (h : Vals xs us) : Vals xs.dropLast us.dropLast := by
 induction h with
 | nil => exact .nil
 | cons r t ih =>
  cases t with
  | nil => exact .nil
  | cons q t' => exact .cons r ih
theorem Vals.reverse {xs : List V} {us : List Value} (h : Vals xs us) : Vals xs.reverse us.reverse := by
 induction h with
 | nil => exact .nil
 | cons r t ih => rw [List.reverse_cons, List.reverse_cons]; exact Vals.append ih (.cons r .nil)
section
variable {X : Cx} {pins : List (Addr × Obj)} {σ : St} {H : Hp} {s : Shared} {l b : Addr} {xs ys zs : List V}
theorem Inv.lset {its its' : List Value} {n : Nat} {f : Array Value → Array Value} {t' : Nat} (I : Inv X pins σ H s) (hH : H l = some (.lst xs))
  (e : s.heap.get? l = some { cls := .type "list", data := .seq its.toArray n }) (hf : f its.toArray = its'.toArray) (hv : Vals ys its') (hz : ys.length ≤ sizeLine) :
  Inv X pins σ (upd H l (.lst ys)) { s with heap := s.heap.update l (Obj.mapSeq f), toks := t' } := by
 have q := PySem.IsL.update e f
 rw [hf] at q
 refine I.write (x := l) (e := l) (by rw [hH]; exact trivial) (.inl rfl) (fun b' u hb hu => (Heap.get?_update_other s.heap (Obj.mapSeq f) (Ne.symm hb)).trans hu) ⟨_, q⟩ ?_
 exact ⟨hz, its', _, hv, q⟩
theorem Inv.lnew {its : List Value} {t' : Nat} (I : Inv X pins σ H s) (hv : Vals ys its) (hz : ys.length ≤ sizeLine) :
  Inv X pins σ (upd H s.heap.objs.size (.lst ys)) { s with heap := s.heap.push { cls := .type "list", data := .seq its.toArray }, toks := t' } :=
 I.laid (fun _ _ q => Heap.get?_push_of_some _ q) (Nat.le_refl _) ⟨hz, its, 0, hv, Heap.get?_push_size _ rfl⟩
theorem Inv.fresh (I : Inv X pins σ H s) : H s.heap.objs.size = none := I.hok.fresh (Nat.le_refl _)
theorem Inv.lstM (I : Inv X pins σ H s) (hH : H l = some (.lst xs)) : xs.length ≤ sizeLine ∧ ∃ (its : List Value) (n : Nat), Vals xs its ∧ xs.length = its.length ∧ s.heap.get? l = some { cls := .type "list", data := .seq its.toArray n } := by
 obtain ⟨z, its, n, r, e⟩ := I.hok l _ hH
 exact ⟨z, its, n, r, r.length, e⟩
end
section
variable {X : Cx}
def ZJ : V → List V → Hp → VK → Prop := fun x vs H Q => ∃ l xs y, x = .ref l ∧ vs = [y] ∧ H l = some (.lst xs) ∧ xs.length < sizeLine ∧ Q .non (upd H l (.lst (xs ++ [y])))
theorem WN : MtM X "list.append" ZJ := by
 intro pins s σ H x vs v us Q I rx rv h
 obtain ⟨l, xs, y, rfl, rfl, hH, hz, q⟩ := h
 cases rx
 obtain ⟨u, rfl, ru⟩ := rv.one
 obtain ⟨z, its, n, r, hl, e⟩ := I.lstM hH
 refine call_meets F.slot_list_append ⟨_, e, rfl⟩ F.entry_list_append (F.args_list_append_2 _ _) (PySem.list_append l its.toArray n u (by rw [List.size_toArray]; omega)) ⟨e, ?_⟩
 refine ⟨.non, _, I.lset (its' := its ++ [u]) hH e (by simp) (r.append (.cons ru .nil)) ?_, rfl, q⟩
 rw [List.length_append, List.length_singleton]
 omega
end
section
variable {prog : Program} {w : World} {A : Around} {E : Value → Shared → Prop} {s : Shared}
end
section
variable {X : Cx}
end
end L2
namespace L2
open PySem PySem.Spec PyProof.Rows
section
variable {κ : Type} [DecidableEq κ]
def valV (kvs : List (κ × V)) (k : κ) : Option V := (kvs.find? fun kv => decide (kv.1 = k)).map (·.2)
def putK (kvs : List (κ × V)) (k : κ) (v : V) : List (κ × V) :=
 if (kvs.any fun kv => decide (kv.1 = k)) = true then kvs.map (fun kv => if kv.1 = k then (kv.1, v) else kv) else kvs ++ [(k, v)]
def au (kvs : List (κ × V)) (k : κ) : List (κ × V) := kvs.filter fun kv => decide (kv.1 ≠ k)
theorem Ob {p : κ × V} {r : List (κ × V)} {k : κ} (e : p.1 = k) : valV (p :: r) k = some p.2 := by simp [valV, List.find?_cons, e]
theorem Oc {p : κ × V} {r : List (κ × V)} {k : κ} (e : ¬ p.1 = k) : valV (p :: r) k = valV r k := by simp [valV, List.find?_cons, e]
theorem RelO.isSome_eq {o : Option V} {u : Option Value} (r : RelO o u) : o.isSome = u.isSome := by
 cases o with
 | none => cases u with
  | none => rfl
  | some _ => exact (show False from r).elim
 | some _ => cases u with
  | none => exact (show False from r).elim
  | some _ => rfl
theorem RelO.getD {o : Option V} {u : Option Value} {d : V} {d' : Value} (r : RelO o u) (rd : RelV d d') : RelV (o.getD d) (u.getD d') := by
 cases o with
 | none => cases u with
  | none => exact rd
  | some _ => exact (show False from r).elim
 | some _ => cases u with
  | none => exact (show False from r).elim
  | some _ => exact r
theorem KV.val {kvs : List (κ × V)} {vs : List (κ × Value)} (r : KV kvs vs) (k : κ) : RelO (valV kvs k) (valueAt vs k) := by
 unfold KV at r
 induction r with
 | nil => exact True.intro
 | @cons p q ps qs h t ih =>
  obtain ⟨h1, h2⟩ := h
  by_cases e : p.1 = k
  ·have e' : q.1 = k := h1.symm.trans e
   have b : valueAt (q :: qs) k = some q.2 := by simp [valueAt, List.find?_cons, e']
   rw [Ob e, b]; exact h2
  ·have e' : ¬ q.1 = k := fun z => e (h1.trans z)
   have b : valueAt (q :: qs) k = valueAt qs k := by simp [valueAt, List.find?_cons, e']
   rw [Oc e, b]; exact ih
theorem KV.any {kvs : List (κ × V)} {vs : List (κ × Value)} (r : KV kvs vs) (k : κ) : (kvs.any fun kv => decide (kv.1 = k)) = vs.any fun kv => decide (kv.1 = k) := by
 unfold KV at r
 induction r with
 | nil => rfl
 | cons h t ih => rw [List.any_cons, List.any_cons, ih, h.1]
theorem KV.drop {kvs : List (κ × V)} {vs : List (κ × Value)} (r : KV kvs vs) (k : κ) : KV (au kvs k) (without vs k) := by
 unfold KV at r ⊢
 unfold au without
 induction r with
 | nil => exact .nil
 | @cons p q ps qs h t ih =>
  obtain ⟨h1, h2⟩ := h
  rw [List.filter_cons, List.filter_cons]
  by_cases e : p.1 = k
  ·have a : ¬ decide (p.1 ≠ k) = true := by simp [e]
   have b : ¬ decide (q.1 ≠ k) = true := by simp [h1.symm.trans e]
   rw [if_neg a, if_neg b]; exact ih
  ·have e' : ¬ q.1 = k := fun z => e (h1.trans z)
   have a : decide (p.1 ≠ k) = true := by simp [e]
   have b : decide (q.1 ≠ k) = true := by simp [e']
   rw [if_pos a, if_pos b]; exact .cons ⟨h1, h2⟩ ih
theorem KV.length {kvs : List (κ × V)} {vs : List (κ × Value)} (r : KV kvs vs) : kvs.length = vs.length := Paired.length r
end
theorem az {P : Program} {w : World} {k : Key} {u : Value} (r : RelV (kV k) u) : (Ej P w).is k u = true := by
 cases k with
 | inl i => obtain ⟨t, e⟩ := (show ∃ t, u = Value.int i t from r); subst e; exact Sw P w i t
 | inr x => obtain ⟨t, e⟩ := (show ∃ t, u = Value.str x t from r); subst e; exact Sy P w x t
theorem QF {P : Program} {w : World} : ∀ {ks : List Key} {us : List Value}, Vals (ks.map kV) us → ItemsAre (Ej P w) ks us
 | [], _, r => by rw [List.map_nil] at r; cases r; exact .nil
 | k :: ks, _, r => by
  rw [List.map_cons] at r
  cases r with
  | cons h t => exact .cons (az h) (QF t)
abbrev KT (H : Hp) : List (List Key × V) → List (List Key × Addr × Value) → Prop := Paired fun p q => p.1 = q.1 ∧ H q.2.1 = some (.tup (p.1.map kV)) ∧ RelV p.2 q.2.2
theorem KT.val {H : Hp} {kvs : List (List Key × V)} {xs : List (List Key × Addr × Value)} (r : KT H kvs xs) (k : List Key) : RelO (valV kvs k) ((atKey xs k).map (·.2)) := by
 induction r with
 | nil => exact True.intro
 | @cons p q ps qs h t ih =>
  obtain ⟨h1, _, h2⟩ := h
  by_cases e : p.1 = k
  ·have e' : q.1 = k := h1.symm.trans e
   have b : atKey (q :: qs) k = some q.2 := by simp [atKey, List.find?_cons, e']
   rw [Ob e, b]; exact h2
  ·have e' : ¬ q.1 = k := fun z => e (h1.trans z)
   have b : atKey (q :: qs) k = atKey qs k := by simp [atKey, List.find?_cons, e']
   rw [Oc e, b]; exact ih
theorem KT.keeps {H H' : Hp} {kvs : List (List Key × V)} {xs : List (List Key × Addr × Value)} (r : KT H kvs xs) (ht : ∀ b ys, H b = some (.tup ys) → H' b = some (.tup ys)) : KT H' kvs xs :=
 Paired.mapP r fun _ _ z => ⟨z.1, ht _ _ z.2.1, z.2.2⟩
section
variable {P : Program} {w : World} {H : Hp} {h : Heap} {a : Addr}
theorem a_ {u : HO} (ok : HOk P w H h) (e : Rd H a u) : Ds P w H h a u := e.ok ok
theorem W5 {kvs : List (Key × V)} (ok : HOk P w H h) (e : Rd H a (.dK kvs)) : kvs.length ≤ sizeLine ∧ (a == sysModules) = false ∧ ∃ vs, KV kvs vs ∧ h.DictOf (Ej P w) a vs :=
 show Ds P w H h a (.dK kvs) from a_ ok e
theorem gR {kvs : List (Key × V)} (ok : HOk P w H h) (e : H a = some (.dK kvs)) : kvs.length ≤ sizeLine ∧ (a == sysModules) = false ∧ ∃ vs, KV kvs vs ∧ h.DictOf (Ej P w) a vs := W5 ok (.inl e)
theorem W6 {ks : List Key} (ok : HOk P w H h) (e : H a = some (.tup (ks.map kV))) : (tupleKind (Ej P w)).is h ks a := by
 obtain ⟨_, its, r, o, h1, h2, n, h3⟩ := (show Ds P w H h a (.tup (ks.map kV)) from ok a _ e)
 exact ⟨o, its.toArray, n, h1, h2, h3, by simpa using QF r⟩
theorem gU {kvs : List (List Key × V)} (ok : HOk P w H h) (e : Rd H a (.dT kvs)) : kvs.length ≤ sizeLine ∧ (a == sysModules) = false ∧
  ∃ xs, KT H kvs xs ∧ h.DictOfH (tupleKind (Ej P w)) a xs := by
 obtain ⟨z, y, xs, r, o, es, ep, h1, h2, h3, h4, h5⟩ := (show Ds P w H h a (.dT kvs) from a_ ok e)
 refine ⟨z, y, xs, r, o, es, ep, h1, h2, h3, h4, fun x hx => ?_, h5⟩
 have all : ∀ {l : List (List Key × V)} {m : List (List Key × Addr × Value)}, KT H l m → ∀ x ∈ m, (tupleKind (Ej P w)).is h x.1 x.2.1 := by
  intro l m q
  induction q with
  | nil => intro x hx; exact nomatch hx
  | @cons p q ps qs hq t ih =>
   intro x hx
   rcases List.mem_cons.mp hx with e | hx
   ·subst e
    exact W6 ok (by rw [← hq.1]; exact hq.2.1)
   ·exact ih x hx
 exact all r x hx
end
def DGet (H : Hp) (a : Addr) (y : V) (r : Option V) : Prop :=
 (∃ kvs k, Rd H a (.dK kvs) ∧ y = kV k ∧ r = valV kvs k) ∨ ∃ kvs k b, Rd H a (.dT kvs) ∧ y = .ref b ∧ H b = some (.tup (k.map kV)) ∧ r = valV kvs k
def DPut (H : Hp) (a : Addr) (y v : V) (H' : Hp) : Prop :=
 (∃ kvs k, H a = some (.dK kvs) ∧ y = kV k ∧ kvs.length < sizeLine ∧ H' = upd H a (.dK (putK kvs k v))) ∨
 ∃ kvs k b, H a = some (.dT kvs) ∧ y = .ref b ∧ H b = some (.tup (k.map kV)) ∧ kvs.length < sizeLine ∧ H' = upd H a (.dT (putK kvs k v))
theorem DGet.k {H : Hp} {a : Addr} {kvs : List (Key × V)} {k : Key} (e : H a = some (.dK kvs)) : DGet H a (kV k) (valV kvs k) := .inl ⟨kvs, k, .inl e, rfl, rfl⟩
theorem DGet.t {H : Hp} {a b : Addr} {kvs : List (List Key × V)} {k : List Key} (e : H a = some (.dT kvs)) (eb : H b = some (.tup (k.map kV))) : DGet H a (.ref b) (valV kvs k) := .inr ⟨kvs, k, b, .inl e, rfl, eb, rfl⟩
theorem DPut.k {H : Hp} {a : Addr} {kvs : List (Key × V)} {k : Key} {v : V} (e : H a = some (.dK kvs)) (hl : kvs.length < sizeLine) : DPut H a (kV k) v (upd H a (.dK (putK kvs k v))) := .inl ⟨kvs, k, e, rfl, hl, rfl⟩
theorem DPut.t {H : Hp} {a b : Addr} {kvs : List (List Key × V)} {k : List Key} {v : V} (e : H a = some (.dT kvs)) (eb : H b = some (.tup (k.map kV))) (hl : kvs.length < sizeLine) :
  DPut H a (.ref b) v (upd H a (.dT (putK kvs k v))) := .inr ⟨kvs, k, b, e, rfl, eb, hl, rfl⟩
section
variable {X : Cx} {pins : List (Addr × Obj)} {σ : St} {H : Hp} {s : Shared} {a : Addr} {y v : V} {u r : Value} {o : Option V} {A : Around} {E : Value → Shared → Prop}
theorem d_in {Q : Value → Shared → Prop} (hu : A.units + 1 < cLine) (I : Inv X pins σ H s) (g : DGet H a y o) (ry : RelV y u) (h : ∀ s', Inv X pins σ H s' → Q (.bool o.isSome) s') :
  wpAny (model X.prog X.w) A (compareOp .In u (.ref a)) Q E s := by
 rcases g with ⟨kvs, k, e, ey, l⟩ | ⟨kvs, k, b, e, ey, eb, l⟩
 ·subst ey
  obtain ⟨z, hd, vs, rel, dd⟩ := W5 I.hok e
  refine wpAny_in_of (az ry) hd dd.mapOf ?_
  rw [← (rel.val k).isSome_eq, ← l]
  exact h _ (I.tok _)
 ·subst ey
  cases (show u = Value.ref b from ry)
  obtain ⟨z, hd, xs, rel, dd⟩ := gU I.hok e
  refine wpAny_in_heap (tupleKind_room_in1 hu) (W6 I.hok eb) hd dd ?_
  have q := (rel.val k).isSome_eq
  rw [Option.isSome_map] at q
  rw [← q, ← l]
  exact h _ (I.tok _)
theorem VB {h' : Heap} {t' : Nat} {ob : HO} (I : Inv X pins σ H s) (mu : Mut (H a)) (hs : Heap.SameBut a s.heap h') (he : ∃ q, h'.get? a = some q) (new : Ds X.prog X.w (upd H a ob) h' a ob) :
  Inv X pins σ (upd H a ob) { s with heap := h', toks := t' } :=
 I.write (x := a) (e := a) mu (.inl rfl) (fun b q hb z => (hs.2 b hb).trans z) he new
end
section
variable {X : Cx} {pins : List (Addr × Obj)} {σ : St} {H : Hp} {s : Shared} {a : Addr} {kvs : List (Key × V)} {k : Key} {u : Value} {A : Around} {E : Value → Shared → Prop}
theorem gW {Q : Value → Shared → Prop} (I : Inv X pins σ H s) (e : Rd H a (.dK kvs)) (h : ∀ t s', Inv X pins σ H s' → Q (.int kvs.length t) s') : wpAny (model X.prog X.w) A (call (.builtin "len") [.ref a]) Q E s := by
 obtain ⟨z, hd, vs, rel, dd⟩ := W5 I.hok e
 refine call_len_dict hd dd (by rw [← rel.length]; rw [sizeLine_eq] at z; omega) ?_
 rw [← rel.length]
 exact h _ _ (I.tok _)
end
section
variable {X : Cx} {o i e value : Expr} {pos pos' tpos : Pos} {td ty tv : TE}
end
section
variable {X : Cx} {pos : Pos}
end
section
variable {X : Cx} {pins : List (Addr × Obj)} {σ : St} {H : Hp} {s : Shared} {a : Addr} {y d : V} {u r : Value} {o : Option V} {A : Around} {E : Value → Shared → Prop}
end
section
variable {X : Cx} {o e f : Expr} {apos cpos : Pos} {td ty tx : TE}
end
section
variable {X : Cx} {pins : List (Addr × Obj)} {σ : St} {H : Hp} {s : Shared} {a : Addr} {kvs : List (Key × V)} {A : Around} {E : Value → Shared → Prop}
end
section
variable {X : Cx} {pins : List (Addr × Obj)} {σ : St} {H : Hp} {s : Shared} {a : Addr} {y : V} {u : Value} {A : Around} {E : Value → Shared → Prop}
end
end L2
namespace Att
open PySem PySem.W PySem.Calls PyProof.Rows
theorem M8 {P : Params} {h : Heap} : ∀ (ns : List Int) (vs : List Value), WellAll P h vs (ns.map WData.int) → IntsAre vs ns := by
 intro ns
 induction ns with
 | nil =>
  intro vs w
  rw [List.map_nil] at w
  cases w
  exact .nil
 | cons n ns ih =>
  intro vs w
  rw [List.map_cons] at w
  cases w with
  | cons a b =>
   cases a
   exact .cons _ _ (ih _ b)
theorem WP {l : OpenLaw} {n : Nat} (hn : l.most = some n) {P : Params} {h : Heap} {args : List WData} {vals : List Value}
  (hpre : l.row.toRowW.claim.pre args = true) (hwl : WellAll P h vals args) :
  ∃ a vs ns, vals = [Value.ref a] ∧ args = [WData.list (ns.map WData.int)] ∧ h.get? a = some { cls := .type "list", data := .seq vs.toArray } ∧ IntsAre vs ns ∧ ns.length ≤ n := by
 have hsh : WShape.hasAll [] args [.list .int] = true := (pre_splitW hpre).1
 have hc : l.pre.holds [] { args := args } = true := (pre_splitW hpre).2
 obtain ⟨d, r, rfl, h1, h2⟩ := hasAllW_cons hsh
 obtain rfl := hasAllW_nil h2
 obtain ⟨xs, rfl, h3⟩ := hasW_list h1
 obtain ⟨ns, rfl⟩ := items_int h3
 have hlen : ns.length ≤ n := by
  unfold OpenLaw.pre at hc
  have h4 : (WTm.not (.lt (.lit (.int (n : Int))) (.len (.arg 0)))).holds [] { args := [.list (ns.map .int)] } = true := by
   have h4 := (holds_andW hc).1
   rw [hn] at h4
   exact h4
  have h5 := condW_of h4 (w_not (w_lt w_lit (w_len_list (w_arg rfl))))
  rw [List.length_map] at h5
  refine Nat.le_of_not_lt fun q => ?_
  have q' : (n : Int) < ((ns.length : Nat) : Int) := by omega
  first
   | (rw [decide_eq_true q'] at h5; exact absurd h5 (by decide))
   | (simp at h5; omega)
 cases hwl with
 | cons w1 w2 =>
  cases w2
  cases w1 with
  | list ho hall => exact ⟨_, _, ns, rfl, rfl, ho, M8 ns _ hall, hlen⟩
theorem WQ (l : OpenLaw) (args : List WData) : l.row.toRowW.claim.post args (.bool true) args = true :=
 postW_of (r := l.row.toRowW) (X := (true == true))
  (show WShape.has [] (.bool true) .bool = true by first | rfl | decide | simp [WShape.has, WShape.arms, WShape.armsAll])
  (show (WTm.eq .res (.lit (.bool true))).value [] { args := args, res := some (.bool true), after := args } = some (.bool (true == true)) from w_eq_bool (w_res rfl) w_lit) rfl
theorem S_ {l : OpenLaw} {n : Nat} {q : Program} {loose : List Str} {XP : (Str → Option Value) → Heap → Prop} {YP : World → Heap → Prop} {d : DefRec}
  (hn : l.most = some n) (hdf : d.params.defaults = [])
  (call : ∀ (w : World) (s₀ s₁ : Shared) (mg mb : Str → Option Value) (fa : Addr) (o : Obj) (pm cd doc : Value) (a : Addr) (vs : List Value) (ns : List Int),
   Ground q loose [] XP w s₀ mg mb s₁.heap → YP w s₁.heap →
   s₁.heap.get? fa = some o → o.data = .func (docDef d.name d.params d.body d.scope pm cd doc) → s₁.heap.CodeRec cd d.name → mg d.name = some (.ref fa) →
   s₁.heap.get? a = some { cls := .type "list", data := .seq vs.toArray } → IntsAre vs ns → ns.length ≤ n → s₁.gens = #[] →
   codeAny (model l.prog w) callerA (.call (.ref fa) ⟨[.ref a], []⟩) (fun r s' => r = .ok (.ret (.bool true)) ∧ OldK s₁.heap s'.heap ∧ s'.os = s₁.os ∧ AllBare s'.gens) s₁) :
  WalkO q loose XP YP l.row.toRowW d [] (fun f vs => PySem.call f vs) := by
 intro w s₀ s₁ mg mb G Y fa o pm cd doc dV kV ho hd hcd hD hmg hg args vals as hpre hlay hrd hwl hlo
 obtain rfl : dV = .none := Dflts.none hD hdf
 obtain rfl : kV = .none := Dflts.noKw hD
 obtain ⟨a, vs, ns, rfl, rfl, hobj, hints, hlen⟩ := WP hn hpre hwl
 refine enter_call (codeAny_mono (call w s₀ s₁ mg mb fa o pm cd doc a vs ns G Y ho (fd_plain hd) hcd hmg hobj hints hlen hg) fun r s' hq => ?_)
 obtain ⟨rfl, h2, h3, h4⟩ := hq
 exact ⟨.inl ⟨.bool true, .bool true, [], rfl, fun _ => rfl, .bool true, WQ l _, fun _ => ⟨List.Pairwise.nil, fun _ hm => (nomatch hm)⟩⟩, h2, h3, h4⟩
section
variable {prog : Program} {w : World} {A : Around} {E : Value → Shared → Prop} {s : Shared} {K : Frag}
end
end Att
namespace L2
open PySem PySem.Spec PyProof.Rows
theorem QG : ∀ {vs : List Value} {ns : List Int}, IntsAre vs ns → Vals (ns.map V.int) vs
 | _, _, .nil => .nil
 | _, _, .cons n t h => .cons ⟨t, rfl⟩ (QG h)
def Only (H : Hp) : Prop := ∀ b, H b = none ∨ ∃ o xs, H b = some (.frz o (.lst xs))
theorem W7 {P : Program} {w : World} {K : PySem.W.Frag} {mg mb : Str → Option Value} {CX : CXT} {k : Nat} {fa a : Addr} {fd : FuncData} {x : Str} {sp : Sp} {s₁ : Shared} {vs : List Value} {ns : List Int}
    (KX : K.In s₁.heap) (hns : s₁.heap.Ns mainGlobals mg) (hb : s₁.heap.Ns builtinsNs mb) (hbb : ∀ x : Str, x ≠ "__name__" → mb x = bootBuiltins x) (hlim : s₁.heap.NoLimit) (hg : s₁.gens = #[])
    (ha : s₁.heap.get? a = some { cls := .type "list", data := .seq vs.toArray }) (hi : IntsAre vs ns) (hl : ns.length ≤ sizeLine) (hr : Room k callerA)
    (F : ∀ base : Heap, K.In base → base.Ns mainGlobals mg → FnOk P w K mg base CX k fa fd [x] sp) (hbind : ∀ (s : Shared) (u : Value), BindsTo s fd ⟨[u], []⟩ [(x, u)])
    (hsp : ∀ H : Hp, Only H → SqL K H a (ns.map V.int) → sp [.ref a] H (fun v _ => v = .bl true) fun _ _ _ => False)
    (hCX : ∀ H e s', CX [] H s₁ (fun _ _ _ => False) e s' → False) :
    codeAny (model P w) callerA (.call (.ref fa) ⟨[.ref a], []⟩) (fun r s' => r = .ok (.ret (.bool true)) ∧ OldK s₁.heap s'.heap ∧ s'.os = s₁.os ∧ AllBare s'.gens) s₁ := by
  have rv := QG hi
  have lenV := hi.length
  have core : ∀ H : Hp, Only H → SqL K H a (ns.map V.int) → HOk P w H s₁.heap → (∀ b, H b ≠ none → b = a) → (H a ≠ none → K.lookup a = none) →
      codeAny (model P w) callerA (.call (.ref fa) ⟨[.ref a], []⟩) (fun r s' => r = .ok (.ret (.bool true)) ∧ OldK s₁.heap s'.heap ∧ s'.os = s₁.os ∧ AllBare s'.gens) s₁ := by
    intro H hO hS hok hA hK
    have base_of : ∀ {b : Addr} {o : Obj}, s₁.heap.get? b = some o → H b = none → (hidT s₁.heap H).get? b = some o := fun e n => Wk e n
    have noA : ∀ {b : Addr} {o : Obj} {es : Array DictEntry} {ep : Nat}, s₁.heap.get? b = some o → o.data = .dict es ep → H b = none := fun {b o es ep} e d => by
      cases q : H b with
      | none => rfl
      | some u =>
        have e' : b = a := hA b (by rw [q]; simp)
        subst e'
        rw [ha] at e; cases e
        have d' : Data.seq vs.toArray _ = Data.dict es ep := d
        cases d'
    have nsK : ∀ {b : Addr} {m : Str → Option Value}, s₁.heap.Ns b m → (hidT s₁.heap H).Ns b m := fun {b m} ⟨o, es, ep, e, d, r⟩ => ⟨o, es, ep, base_of e (noA e d), d, r⟩
    have hKb : K.In (hidT s₁.heap H) := fun b o e => base_of (KX b o e) (by
      cases q : H b with
      | none => rfl
      | some u =>
        have e' : b = a := hA b (by rw [q]; simp)
        subst e'
        rw [hK (by rw [q]; simp)] at e; cases e)
    have hM : Mod K mg (hidT s₁.heap H) := ⟨hKb, nsK hns, ⟨mb, nsK hb, hbb⟩, let ⟨mc, h1, h2⟩ := hlim; ⟨mc, nsK h1, h2⟩⟩
    have e0 : Env0 P w K mg (hidT s₁.heap H) callerA [] s₁ H := ⟨rfl, hM, fun b o e => Yr e, Nat.le_of_eq (V8 _ _), trivial, fun b hb => absurd (show b ∈ ([] : List Addr) from hb) (by simp), hok, .of_eq hg⟩
    refine codeAny_mono ((F _ hKb (nsK hns)).run callerA [] s₁ H ⟨[.ref a], []⟩ [.ref a] [.ref a] _ _ hr e0 (hbind s₁ (.ref a)) (.cons rfl .nil) (hsp H hO hS)) fun r s' h => ?_
    cases r with
    | error e => exact (hCX H e s' h).elim
    | ok fl =>
      cases fl with
      | next => exact False.elim h
      | brk => exact False.elim h
      | cont => exact False.elim h
      | ret u =>
        obtain ⟨v, H', os, bare, un, hok', r', q⟩ := h
        have q' : v = .bl true := q
        subst q'
        obtain rfl : u = Value.bool true := r'
        refine ⟨rfl, OldK.of_keep fun b o e => ?_, os, bare⟩
        cases q : H b with
        | none => exact un.keep b o e q (by intro z; exact absurd (show b ∈ ([] : List Addr) from z) (by simp)) (by simp)
        | some u =>
          rcases hO b with z | ⟨ob, xs, z⟩
          · rw [q] at z; cases z
          · have z2 := un.frzs b ob _ z
            obtain ⟨e1, _⟩ := hok b _ z
            obtain ⟨e2, _⟩ := hok' b _ z2
            rw [e] at e1; cases e1
            exact e2
  cases hk : K.lookup a with
  | some o =>
    have e := KX a o hk
    rw [ha] at e
    cases e
    refine core (fun _ => none) (fun _ => .inl rfl) (.inr ⟨_, vs.toArray, _, hk, rfl, rfl, rfl, by rw [List.size_toArray, lenV]; exact hl, by simpa using rv⟩) (fun b u z => by have z' : (none : Option HO) = some u := z; cases z') (fun b z => absurd rfl z) fun z => absurd rfl z
  | none =>
    refine core (fun b => if b = a then some (.frz { cls := .type "list", data := .seq vs.toArray } (.lst (ns.map V.int))) else none) (fun b => ?_) (.inl (.inr ⟨{ cls := .type "list", data := .seq vs.toArray }, if_pos rfl⟩)) (fun b u z => ?_) (fun b z => ?_) fun _ => hk
    · by_cases hb : b = a
      · exact .inr ⟨_, _, if_pos hb⟩
      · exact .inl (if_neg hb)
    · by_cases hb : b = a
      · have z' := (if_pos hb).symm.trans z
        cases z'
        subst hb
        exact ⟨ha, by rw [List.length_map]; exact hl, vs, _, rv, ha⟩
      · have z' := (if_neg hb).symm.trans z
        cases z'
    · by_cases hb : b = a
      · exact hb
      · exact absurd (if_neg hb) z
end L2
namespace L2
open PySem PySem.Spec PyProof.Rows
abbrev KOf {K : PySem.W.Frag} {h : Heap} (_ : K.In h) : PySem.W.Frag := K
theorem ZK {l : PySem.W.OpenLaw} {n k : Nat} {q : Program} {loose : List Str} {XP : (Str → Option Value) → Heap → Prop} {YP : World → Heap → Prop} {d : DefRec} {K : Params → PySem.W.Frag} {CX : World → CXT} {sp : World → Sp} {x : Str}
  (hn : l.most = some n) (hn2 : n ≤ sizeLine) (hdf : d.params.defaults = []) (hr : Room k callerA)
  (hY : ∀ (w : World) (h : Heap), YP w h → (K w.params).In h)
  (F : ∀ (w : World) (mg : Str → Option Value) (fa : Addr) (h : Heap), (K w.params).In h → h.Ns mainGlobals mg → mg d.name = some (.ref fa) →
   ∃ fd : FuncData, (∀ (s : Shared) (u : Value), BindsTo s fd ⟨[u], []⟩ [(x, u)]) ∧
    ∀ base : Heap, (K w.params).In base → base.Ns mainGlobals mg → FnOk l.prog w (K w.params) mg base (CX w) k fa fd [x] (sp w))
  (hsp : ∀ (w : World) (H : Hp) (a : Addr) (ns : List Int), ns.length ≤ n → Only H → SqL (K w.params) H a (ns.map V.int) → sp w [.ref a] H (fun v _ => v = .bl true) fun _ _ _ => False)
  (hCX : ∀ (w : World) (H : Hp) (s : Shared) (e : Value) (s' : Shared), CX w [] H s (fun _ _ _ => False) e s' → False) :
  PySem.W.WalkO q loose XP YP l.row.toRowW d [] (fun f vs => PySem.call f vs) := by
 refine Att.S_ hn hdf fun w s₀ s₁ mg mb fa o pm cd doc a vs ns G Y ho hd hcd hmg hobj hints hlen hg => ?_
 have KX := hY w _ Y
 obtain ⟨fd, hb, hF⟩ := F w mg fa _ KX G.T.g hmg
 exact W7 KX G.T.g G.T.b G.T.builtins G.T.nolimit hg hobj hints (Nat.le_trans hlen hn2) hr hF hb (fun H hO hS => hsp w H a ns hlen hO hS) fun H e s' => hCX w H s₁ e s'
end L2
namespace L2
open PySem PySem.Spec PyProof.Rows
def inClass (s : Stmt) (j : Nat) : Stmt := match s with
 | .ClassDef _ _ _ body _ _ _ _ _ _ _ => body.getD j (.Pass ⟨0, 0, 0, 0⟩)
 | _ => .Pass ⟨0, 0, 0, 0⟩
def Ea (s : Stmt) : Arguments := match s with
 | .FunctionDef _ a _ _ _ _ _ _ _ _ => a
 | _ => { posonlyargs := [], args := [], vararg := none, kwonlyargs := [], kw_defaults := [], kwarg := none, defaults := [] }
def DG (s : Stmt) : List Stmt := match s with
 | .FunctionDef _ _ b _ _ _ _ _ _ _ => b
 | _ => []
def Ae (s : Stmt) : Scope := match s with
 | .FunctionDef _ _ _ _ _ _ sc _ _ _ => sc
 | _ => { kind := .function, names := [], isGenerator := false, isCoroutine := false }
abbrev CX0 : CXT := fun _ _ _ _ _ _ => False
abbrev E0 : XK := fun _ _ _ => False
theorem TF {X : Cx} : KN CX0 X E0 := fun _ _ _ _ _ _ _ h => h.elim
structure Fun (K : PySem.W.Frag) (x qual : Str) (st : Stmt) (f : Addr) (fd : FuncData) : Prop where
 ex : ∃ (oc : Value) (od : Option Addr) (kV doc pm : Value) (an : Option Addr) (cdv ct : Value) (osl : Array (Option Value)),
  fd = PySem.W.fnOf x qual (Ea st) (DG st) (Ae st) .none kV doc pm an cdv ct ∧ K.lookup f = some ⟨oc, od, .func fd, osl⟩ ∧ PySem.W.codeIn K cdv qual = true
 kp : PySem.W.keepIn K (.ref f) = true
section
variable {P : Program} {w : World} {K : PySem.W.Frag} {mg : Str → Option Value} {base : Heap}
theorem Fun.ok {x qual : Str} {st : Stmt} {f : Addr} {fd : FuncData} {N ps : List Str} {k : Nat} {sp : Sp} (F : Fun K x qual st f fd) (S : FnScope N ps (Ae st)) (len : ∀ vs H Q E, sp vs H Q E → vs.length = ps.length)
  (hbody : ∀ (cdv : Value) (A : Around) (outer : List Env) (s : Shared) (H : Hp) (vs : List V) (Q : VK) (E : XK), Room k (A.deeper (envOfC qual (Ae st) s.heap.objs.size f cdv)) → sp vs H Q E →
   ∃ t, PSs (cxOf CX0 P w K mg base N qual (Ae st) f cdv A outer s H E).nox (DG st) t ∧ t { nx := fun _ H' => Q .non H', rt := Q } (start N vs) H) : FnOk P w K mg base CX0 (k + 1) f fd ps sp := by
 obtain ⟨oc, od, kV, doc, pm, an, cdv, ct, osl, rfl, lk, hcd⟩ := F.ex
 refine U9 lk hcd S len fun A outer s H vs Q E hr hsp => ?_
 obtain ⟨t, h, q⟩ := hbody cdv A outer s H vs Q E hr hsp
 exact ⟨t, h.nox, q⟩
theorem Fun.binds {x qual : Str} {st : Stmt} {f : Addr} {fd : FuncData} {ps : List Str} (F : Fun K x qual st f fd)
  (h : ∀ (kV doc pm : Value) (an : Option Addr) (cdv ct : Value) (us : List Value), us.length = ps.length → bindArgs (PySem.W.fnOf x qual (Ea st) (DG st) (Ae st) .none kV doc pm an cdv ct) ⟨us, []⟩ = pure (ps.zip us)) : Binds K fd ps [] := by
 obtain ⟨oc, od, kV, doc, pm, an, cdv, ct, osl, rfl, lk, hcd⟩ := F.ex
 exact .all (h kV doc pm an cdv ct)
theorem KQ {x qual : Str} {st : Stmt} {f : Addr} {oc : Value} {od an : Option Addr} {osl : Array (Option Value)} {kV doc pm cdv ct : Value} (l : K.lookup f = some ⟨oc, od, .func (PySem.W.fnOf x qual (Ea st) (DG st) (Ae st) .none kV doc pm an cdv ct), osl⟩)
  (c : PySem.W.codeIn K cdv qual = true) (k : PySem.W.keepIn K (.ref f) = true) : Fun K x qual st f (PySem.W.fnOf x qual (Ea st) (DG st) (Ae st) .none kV doc pm an cdv ct) := ⟨⟨oc, od, kV, doc, pm, an, cdv, ct, osl, rfl, l, c⟩, k⟩
end
theorem bA {A : Around} {k : Nat} (hr : Room k A) : A.units + 1 < cLine := Nat.lt_of_le_of_lt (Nat.add_le_add_left (by decide : 1 ≤ 64) _) hr.units
section
variable {X : Cx}
theorem pv (i : Nat) {x : Str} {pos : Pos} (hN : X.N[i]? = some x := by rfl) (hv : Vis X.env.scope x := by first | exact Or.inl rfl | exact Or.inr (Or.inl rfl) | exact Or.inr (Or.inr rfl)) (hd : (x == ("__debug__" : Str)) = false := by decide)
  (hcd : (x == ("__classdict__" : Str)) = false := by decide) : PE X (.Name x pos) (tVar i) := bz hN hv hd hcd
end
theorem iteF {A B : Prop} (h : B) : if false = true then A else B := by
 rw [if_neg Bool.false_ne_true]
 exact h
theorem iteT {A B : Prop} (h : A) : if true = true then A else B := by
 rw [if_pos rfl]
 exact h
def Same (H H' : Hp) : Prop := ∀ b o, H b = some o → H' b = some o
theorem Same.refl (H : Hp) : Same H H := fun _ _ h => h
theorem Same.trans {H H1 H2 : Hp} (a : Same H H1) (b : Same H1 H2) : Same H H2 := fun c o h => b c o (a c o h)
theorem Same.free {H H' : Hp} (e : Same H H') {l : Addr} (h : H' l = Option.none) : H l = Option.none := by
 cases q : H l with
 | none => rfl
 | some o =>
  rw [e l o q] at h
  cases h
theorem Same.seq {K : PySem.W.Frag} {H H' : Hp} {a : Addr} {xs : List V} (e : Same H H') (h : SqL K H a xs) : SqL K H' a xs := by
 rcases h with (h | ⟨o, h⟩) | h
 ·exact .inl (.inl (e _ _ h))
 ·exact .inl (.inr ⟨o, e _ _ h⟩)
 ·exact .inr h
section
variable {κ : Type} [DecidableEq κ]
end
end L2
namespace EX
open PySem PySem.Spec L2
open PyProof.Rows hiding St
def tbV : Option Addr → Value
 | none => .none
 | some T => .ref T
def ExcP (a C : Addr) (od tb : Option Addr) : Heap → Prop := fun h => ∃ o vs, h.get? a = some o ∧ o.cls = .ref C ∧ o.dict = od ∧ o.data = .fields vs ∧ vs.size = 6 ∧ vs[1]? = some (tbV tb)
def TbP (T : Addr) (v : Value) : Heap → Prop := fun h => ∃ o ts, h.get? T = some o ∧ o.data = .fields ts ∧ ts[3]? = some v ∧ o.cls = .type "traceback"
abbrev excO (a C : Addr) (od tb : Option Addr) : HO := .ext (ExcP a C od tb)
abbrev tbO (T : Addr) (v : Value) : HO := .ext (TbP T v)
theorem ExcP.ok {P : Program} {w : World} {H : Hp} {h : Heap} {a C : Addr} {od tb : Option Addr} (x : ExcP a C od tb h) : Ds P w H h a (excO a C od tb) :=
 ⟨x, let ⟨o, _, e, _⟩ := x; ⟨o, e⟩, fun h1 h2 ⟨o, vs, e, r⟩ k => ⟨o, vs, k o e, r⟩⟩
theorem TbP.ok {P : Program} {w : World} {H : Hp} {h : Heap} {a : Addr} {v : Value} (x : TbP a v h) : Ds P w H h a (tbO a v) :=
 ⟨x, let ⟨o, _, e, _⟩ := x; ⟨o, e⟩, fun h1 h2 ⟨o, vs, e, r⟩ k => ⟨o, vs, k o e, r⟩⟩
theorem ZL (f : Array Value → Array Value) (o : Obj) : (Obj.mapFields f o).dict = o.dict := by
 unfold Obj.mapFields
 split <;> rfl
section
variable {X : Cx} {pins : List (Addr × Obj)} {σ : St} {H : Hp} {s : Shared} {e C : Addr} {od tb : Option Addr}
theorem WR {h' : Heap} (I : Inv X pins σ H s) (x : Heap.SlotsOnly (frs X.stack) s.heap h') : Inv X pins σ H { s with heap := h' } := by
 have k : ∀ b o, s.heap.get? b = some o → H b = none → b ∉ frs X.stack → h'.get? b = some o := fun b o q _ hb => (x.2.1 b hb).trans q
 refine I.call (g' := s.gens) (d' := s.drawn) (t' := s.toks) (ch := []) ⟨fun b o q n hb _ => k b o q n hb, fun b o q _ _ _ => x.2.2 b o q, fun _ _ _ n _ => n, fun b o q _ => let ⟨_, z⟩ := x.2.2 b o q; ⟨_, z⟩, fun _ _ q => q, fun _ _ _ q => q, fun _ ps q => ⟨#[], by rw [q]; simp⟩⟩ (fun b u q => ?_) I.bare fun _ z => nomatch z
 have no : ∀ c v, H c = some v → c ∉ frs X.stack := fun c v q z => by rw [I.stkFree c z] at q; cases q
 refine (I.hok b u q).stay (fun c v hc r => (x.2.1 c ?_).trans r) (fun _ r => r) fun _ _ r => r
 rcases hc with z | z
 ·rw [z]; exact no b u q
 ·exact no c _ z
theorem Kp {a : Addr} {o : Obj} {vs : Array Value} {u u' : HO} {i : Nat} {v : Value} (I : Inv X pins σ H s) (hH : H a = some u) (mu : Mut (some u)) (ho : s.heap.get? a = some o) (hd : o.data = .fields vs)
  (new : ∀ h' o', h'.get? a = some o' → o'.cls = o.cls → o'.dict = o.dict → o'.data = .fields (vs.setIfInBounds i v) → Ds X.prog X.w (upd H a u') h' a u') :
  Inv X pins σ (upd H a u') { s with heap := s.heap.update a (Obj.mapFields (·.setIfInBounds i v)) } := by
 have hd' := Obj.data_mapFields hd (·.setIfInBounds i v)
 have g := Heap.get?_update_self (Obj.mapFields (·.setIfInBounds i v)) ho (Obj.isFreed_of_fields hd')
 exact I.write (x := a) (e := a) (t' := s.toks) (by rw [hH]; exact mu) (.inl rfl) (fun b q nb z => (Heap.get?_update_other _ _ (Ne.symm nb)).trans z) ⟨_, g⟩ (new _ _ g (Obj.cls_mapFields _ _) (ZL _ _) hd')
structure Noted (X : Cx) (pins : List (Addr × Obj)) (σ : St) (H : Hp) (e C : Addr) (od tb : Option Addr) (T : Addr) (H' : Hp) (s' : Shared) : Prop where
 inv : Inv X pins σ H' s'
 exc : H' e = some (excO e C od (some T))
 tbk : H' T = some (tbO T .none)
 new : H T = none
 rest : ∀ b u, b ≠ e → tb ≠ some b → H b = some u → H' b = some u
theorem TJ {E : Value → Shared → Prop} {Q : Unit → Shared → Prop} {M : Model} {L : Addr} {head : Value} {hadNext : Bool} (hst : X.stack = X.env :: X.outer) (hf : X.env.frame = some L) (I : Inv X pins σ H s) (he : H e = some (excO e C od tb))
  (k : ∀ T H' s', Noted X pins σ H e C od none T H' s' → Q () s') :
  wpAny M X.A (do let a ← frameOf X.env; let pl ← entryPlaceOf L hadNext; let b ← EntryCells.newEntry head a .none (rawInt L) .none pl; setField (.ref e) 1 b) (fun _ s₂ => wpAny M X.A (setFlight (.ref e) none) Q E s₂) E s := by
 refine wpAny_bind (wpAny_frameOf_fun (base := X.base) (outer := X.outer) (hst ▸ I.ok.frames) (hst ▸ I.stack) hf fun h1 x1 => ?_)
 have I1 := WR I (h' := h1) (hst ▸ x1)
 refine wpAny_bind (wpAny_entryPlaceOf fun pl hpl => ?_)
 unfold EntryCells.newEntry newFields
 refine wpAny_bind (wpAny_newObj_type ?_ (hpl.sizeOk5 _ _ _ _ _))
 have h3 : ([head, .ref L, .none, rawInt L, .none] ++ (if pl.isEmpty then List.replicate 6 Value.none else pl)).toArray[3]? = some (rawInt L) := by simp
 generalize ([head, .ref L, .none, rawInt L, .none] ++ (if pl.isEmpty then List.replicate 6 Value.none else pl)).toArray = ts at h3
 have g2 : (h1.push { cls := .type "traceback", dict := none, data := .fields ts }).get? h1.objs.size = some { cls := .type "traceback", dict := none, data := .fields ts } := Heap.get?_push_size h1 rfl
 have I2 := I1.laid (a := h1.objs.size) (o := tbO h1.objs.size (rawInt L)) (h' := h1.push { cls := .type "traceback", dict := none, data := .fields ts }) (t' := s.toks) (fun b u q => Heap.get?_push_of_some _ q) (Nat.le_refl _) (TbP.ok ⟨_, ts, g2, rfl, h3, rfl⟩)
 have hT : H h1.objs.size = none := I1.hok.fresh (Nat.le_refl _)
 have neT : e ≠ h1.objs.size := CT he hT
 have he2 : (upd H h1.objs.size (tbO h1.objs.size (rawInt L))) e = some (excO e C od tb) := by rw [Bg neT]; exact he
 obtain ⟨⟨o, vs, q1, q2, q3, q4, q5, q6⟩, _⟩ := I2.hok e _ he2
 refine wpAny_setField q1 q4 (by omega) ?_
 have I3 := Kp (u' := excO e C od (some h1.objs.size)) (i := 1) (v := .ref h1.objs.size) I2 he2 trivial q1 q4 fun h' o' r1 r2 r3 r4 => ExcP.ok ⟨o', _, r1, r2.trans q2, r3.trans q3, r4, by simpa using q5, by simp [tbV, q5]⟩
 have e3 := Cj (H := upd H h1.objs.size (tbO h1.objs.size (rawInt L))) (a := e) (o := excO e C od (some h1.objs.size))
 have t3 : upd (upd H h1.objs.size (tbO h1.objs.size (rawInt L))) e (excO e C od (some h1.objs.size)) h1.objs.size = some (tbO h1.objs.size (rawInt L)) := by rw [Bg (Ne.symm neT)]; exact Cj
 obtain ⟨⟨o5, vs5, p1, p2, p3, p4, p5, p6⟩, _⟩ := I3.hok e _ e3
 unfold setFlight
 refine wpAny_bind (wpAny_field p1 p4 p6 ?_)
 rw [if_pos (show (tbV (some h1.objs.size) != Value.none) = true from by simp [tbV])]
 obtain ⟨⟨o6, ts6, r1, r2, r3, r4⟩, _⟩ := I3.hok h1.objs.size _ t3
 have z3 : 3 < ts6.size := (Array.getElem?_eq_some_iff.mp r3).1
 refine wpAny_setField r1 r2 z3 ?_
 have I4 := Kp (u' := tbO h1.objs.size .none) (i := 3) (v := (none : Option Addr).elim Value.none fun f => rawInt f) I3 t3 trivial r1 r2 fun h' o' y1 y2 y3 y4 => TbP.ok ⟨o', _, y1, y4, by simp [z3], y2.trans r4⟩
 refine k h1.objs.size _ _ ⟨I4, ?_, Cj, hT, fun b u hb _ q => ?_⟩
 ·rw [Bg neT]; exact e3
 ·have := CT q hT
  rw [Bg this, Bg hb, Bg this]
  exact q
theorem ZM {E : Value → Shared → Prop} {Q : Unit → Shared → Prop} {M : Model} {L : Addr} (hst : X.stack = X.env :: X.outer) (hf : X.env.frame = some L) (I : Inv X pins σ H s) (he : H e = some (excO e C od tb)) (ht : ∀ T, tb = some T → H T = some (tbO T .none))
  (k : ∀ T H' s', Noted X pins σ H e C od tb T H' s' → Q () s') :
  wpAny M X.A (noteFrame (.ref e) X.env) (fun _ s₂ => wpAny M X.A (setFlight (.ref e) none) Q E s₂) E s := by
 obtain ⟨⟨o, vs, q1, q2, q3, q4, q5, q6⟩, _⟩ := I.hok e _ he
 unfold noteFrame
 simp only [hf]
 refine wpAny_bind (wpAny_field q1 q4 q6 ?_)
 cases tb with
 | none =>
  rw [if_neg (by decide)]
  exact TJ hst hf I he fun T H' s' n => k T H' s' n
 | some T0 =>
  have hT0 := ht T0 rfl
  obtain ⟨⟨oT, ts, r1, r2, r3, r4⟩, _⟩ := I.hok T0 _ hT0
  rw [if_pos (show (tbV (some T0) != Value.none) = true from by simp [tbV])]
  refine wpAny_bind (wpAny_field r1 r2 r3 ?_)
  rw [if_neg (show ¬ ((Value.none == rawInt L) = true) from by simp [rawInt])]
  have z3 : 3 < ts.size := (Array.getElem?_eq_some_iff.mp r3).1
  refine wpAny_bind (wpAny_setField r1 r2 z3 ?_)
  have I1 := Kp (u' := tbO T0 .none) (i := 3) (v := .none) I hT0 trivial r1 r2 fun h' o' y1 y2 y3 y4 => TbP.ok ⟨o', _, y1, y4, by simp [z3], y2.trans r4⟩
  have ne : e ≠ T0 := fun z => by
   subst z
   rw [r1] at q1
   cases q1
   rw [r4] at q2
   cases q2
  refine TJ hst hf I1 (tb := some T0) (by rw [Bg ne]; exact he) fun T H' s' n => k T H' s' ⟨n.inv, n.exc, n.tbk, ?_, fun b u hb hb' q => n.rest b u hb (by simp) (by rw [Bg (fun z => hb' (by rw [z]))]; exact q)⟩
  have := n.new
  by_cases z : T = T0
  ·subst z; rw [Cj] at this; cases this
  ·rwa [Bg z] at this
end
end EX
namespace PV
open PySem L2
inductive D where
 | non | bl (b : Bool) | int (i : Int) | str (x : Str) | tup (ds : List D) | lst (ds : List D)
 | dk (kvs : List (Key × D)) | dt (kvs : List (List Key × D)) | ob (c : Str) (fs : List (Str × D)) | adr (a : Addr) | exc (c : Str) (fs : List (Str × D)) | err (c : Str) (fs : List (Str × D))
inductive Slot where
 | un | fz (d : D) | ow (d : D)
abbrev Rho := List Slot
abbrev FE := Rho → Option D
abbrev FA := Rho → Option (List D)
abbrev FT := Rho → Option Bool
abbrev FO := Rho → Option (Option Int)
abbrev FI := Rho → Option (List D)
def vF (i : Nat) : FE := fun ρ => match ρ[i]? with | some (.fz d) => some d | _ => none
def vU (i : Nat) : FE := fun ρ => match ρ[i]? with | some (.fz d) => some d | some (.ow d) => some d | _ => none
def kF (d : D) : FE := fun _ => some d
def bF (g : D → D → Option D) (fa fb : FE) : FE := fun ρ => (fa ρ).bind fun x => (fb ρ).bind fun y => g x y
def uF (g : D → Option D) (fa : FE) : FE := fun ρ => (fa ρ).bind g
def blF (f : FE) : FT := fun ρ => match f ρ with | some (.bl b) => some b | _ => none
def iiD (g : Int → Int → Option D) : D → D → Option D := fun x y => match x, y with | .int i, .int j => g i j | _, _ => none
instance (i j : Int) : Decidable (CMul i j) := by unfold CMul; infer_instance
instance (i j : Int) : Decidable (CDiv i j) := by unfold CDiv; infer_instance
instance (i j : Int) : Decidable (CPow i j) := by unfold CPow; infer_instance
def subD := iiD fun i j => some (.int (i - j))
def Kq (i j : Int) : Prop := CMul i j ∨ (Builtin.Int.intBits i ≤ 4194304 ∧ Builtin.Int.intBits j ≤ 4194304)
instance (i j : Int) : Decidable (Kq i j) := by unfold Kq; infer_instance
def CShl (i j : Int) : Prop := 0 ≤ j ∧ j ≤ 1000000 ∧ Builtin.Int.intBits i ≤ 4194304
instance (i j : Int) : Decidable (CShl i j) := by unfold CShl; infer_instance
def mulD := iiD fun i j => if Kq i j then some (.int (i * j)) else none
def GJ := iiD fun i j => if CDiv i j then some (.int (i / j)) else none
def modD := iiD fun i j => if 0 < j then some (.int (i % j)) else none
def powD := iiD fun i j => if CPow i j then some (.int (i ^ j.toNat)) else none
def ltD := iiD fun i j => some (.bl (decide (i < j)))
def leD := iiD fun i j => some (.bl (decide (i ≤ j)))
def gtD := iiD fun i j => some (.bl (decide (j < i)))
def geD := iiD fun i j => some (.bl (decide (j ≤ i)))
def addD : D → D → Option D := fun x y => match x, y with
 | .int i, .int j => some (.int (i + j))
 | .str i, .str j => if i.length + j.length ≤ sizeLine then some (.str (i ++ j)) else none
 | .lst i, .lst j => if i.length + j.length ≤ sizeLine then some (.lst (i ++ j)) else none
 | _, _ => none
def andF (fa fb : FE) : FE := fun ρ => match fa ρ with | some (.bl true) => fb ρ | some (.bl false) => some (.bl false) | _ => none
def orF (fa fb : FE) : FE := fun ρ => match fa ρ with | some (.bl true) => some (.bl true) | some (.bl false) => fb ρ | _ => none
def notF (fa : FE) : FE := fun ρ => match fa ρ with | some (.bl b) => some (.bl (!b)) | _ => none
def andT (fa fb : FT) : FT := fun ρ => match fa ρ with | some true => fb ρ | some false => some false | none => none
def orT (fa fb : FT) : FT := fun ρ => match fa ρ with | some true => some true | some false => fb ρ | none => none
def notT (fa : FT) : FT := fun ρ => (fa ρ).map (!·)
def truD : D → Option Bool
 | .non => some false
 | .bl b => some b
 | .int i => some (i != 0)
 | .str y => if y.length ≤ sizeLine then some ((y.length : Int) != 0) else none
 | .lst ds => some (!ds.isEmpty)
 | .tup ds => some (!ds.isEmpty)
 | _ => none
def trF (f : FE) : FT := fun ρ => (f ρ).bind truD
def ifF (t : FT) (fa fb : FE) : FE := fun ρ => match t ρ with | some true => fa ρ | some false => fb ρ | none => none
def nilA : FA := fun _ => some []
def Ab (fa : FE) (fs : FA) : FA := fun ρ => (fa ρ).bind fun d => (fs ρ).map (d :: ·)
def tupF (fs : FA) : FE := fun ρ => (fs ρ).bind fun ds => if ds.length ≤ sizeLine then some (.tup ds) else none
def lstF (fs : FA) : FE := fun ρ => (fs ρ).bind fun ds => if ds.length ≤ sizeLine then some (.lst ds) else none
def ixD : D → D → Option D := fun x y => match x, y with
 | .lst ds, .int i => atI ds i
 | .tup ds, .int i => atI ds i
 | .str z, .int i => if z.length ≤ sizeLine then (atI z.cps.toList i).map fun c => .str ⟨#[c]⟩ else none
 | _, _ => none
def noO : FO := fun _ => some none
def someO (f : FE) : FO := fun ρ => match f ρ with | some (.int i) => some (some i) | _ => none
def cutD {α : Type} (ds : List α) (lo hi : Option Int) : List α := (ds.drop (HT.sIx ds.length 0 lo)).take (HT.sIx ds.length ds.length hi - HT.sIx ds.length 0 lo)
def cutS (z : Str) (lo hi : Option Int) : Str := ⟨(cutD z.cps.toList lo hi).toArray⟩
def slD (x : D) (lo hi : Option Int) : Option D := match x with
 | .lst ds => some (.lst (cutD ds lo hi))
 | .tup ds => if HT.sIx ds.length 0 lo = 0 ∧ HT.sIx ds.length ds.length hi = ds.length then none else some (.tup (cutD ds lo hi))
 | .str z => if z.length ≤ sizeLine then some (.str (cutS z lo hi)) else none
 | _ => none
def slF (f : FE) (l h : FO) : FE := fun ρ => (f ρ).bind fun x => (l ρ).bind fun lo => (h ρ).bind fun hi => slD x lo hi
def flV : D → Option V
 | .non => some .non
 | .bl b => some (.bl b)
 | .int i => some (.int i)
 | .str x => some (.str x)
 | _ => none
def flVs : List D → Option (List V)
 | [] => some []
 | d :: r => (flV d).bind fun v => (flVs r).map (v :: ·)
def inD (neg : Bool) : D → D → Option D := fun x y => match x, y with
 | .str i, .str j => some (.bl (if neg then !(!(Builtin.Str.occurrences j i 0 j.length 1).isEmpty) else !(Builtin.Str.occurrences j i 0 j.length 1).isEmpty))
 | x, .lst ds => (flV x).bind fun v => (flVs ds).map fun vs => .bl (if neg then !inV v vs else inV v vs)
 | x, .tup ds => (flV x).bind fun v => (flVs ds).map fun vs => .bl (if neg then !inV v vs else inV v vs)
 | _, _ => none
def allO (f : D → D → Option Bool) : List D → List D → Option Bool
 | [], [] => some true
 | x :: xs, y :: ys => match f x y, allO f xs ys with | some a, some b => some (a && b) | _, _ => none
 | _, _ => none
def flD (x y : D) : Option Bool := (flV x).bind fun u => (flV y).map fun v => eqV u v
def eqS (f : D → D → Option Bool) : D → D → Option Bool
 | .lst xs, .lst ys => if xs.length = ys.length then allO f xs ys else some false
 | .tup xs, .tup ys => if xs.length = ys.length then allO f xs ys else none
 | x, y => flD x y
def eqK : Nat → D → D → Option Bool
 | 0 => flD
 | n + 1 => eqS (eqK n)
def eqvD (x y : D) : Option Bool := match x, y with
 | .int i, .int j => some (decide (i = j))
 | .str i, .str j => some (decide (i = j))
 | .bl i, .bl j => some (decide (i = j))
 | .lst xs, .lst ys => if xs.length = ys.length then allO (eqK 180) xs ys else some false
 | .tup xs, .tup ys => if xs.length = ys.length then allO (eqK 180) xs ys else none
 | _, _ => none
def eqD (neg : Bool) (x y : D) : Option D := (eqvD x y).map fun b => .bl (if neg then !b else b)
def lenD : D → Option D
 | .str y => if y.length ≤ sizeLine then some (.int y.length) else none
 | .lst ds => some (.int ds.length)
 | .tup ds => some (.int ds.length)
 | _ => none
def negD : D → Option D
 | .int i => some (.int (-i))
 | _ => none
def seqI (f : FE) : FI := fun ρ => match f ρ with | some (.lst ds) => some ds | some (.tup ds) => some ds | _ => none
def rngD (n : Nat) : List D := (List.range n).map fun (i : Nat) => .int i
def rngI (f : FE) : FI := fun ρ => match f ρ with | some (.int j) => if -(2 ^ 62) ≤ j ∧ j < 2 ^ 62 then some (rngD j.toNat) else none | _ => none
inductive Out where
 | nx (ρ : Rho) | rt (d : D) (ρ : Rho) | bk (ρ : Rho) | ct (ρ : Rho)
abbrev FS := Rho → Option Out
def nxF : FS := fun ρ => some (.nx ρ)
def seqF (g gs : FS) : FS := fun ρ => match g ρ with | some (.nx ρ') => gs ρ' | o => o
def ifS (t : FT) (g gs : FS) : FS := fun ρ => match t ρ with | some true => g ρ | some false => gs ρ | none => none
def setF (i : Nat) (f : FE) : FS := fun ρ => (f ρ).map fun d => .nx (ρ.set i (.fz d))
def retF (f : FE) : FS := fun ρ => (f ρ).map fun d => .rt d ρ
def retN : FS := fun ρ => some (.rt .non ρ)
def gY (f : FE) : FS := fun ρ => (f ρ).map fun _ => .nx ρ
def forF (b : D → FS) : List D → FS
 | [], ρ => some (.nx ρ)
 | d :: r, ρ => match b d ρ with
  | some (.nx ρ') => forF b r ρ'
  | some (.ct ρ') => forF b r ρ'
  | some (.bk ρ') => some (.nx ρ')
  | some (.rt e ρ') => some (.rt e ρ')
  | none => none
abbrev FG := D → Rho → Option Rho
def J0 (i : Nat) : FG := fun d ρ => some (ρ.set i (.fz d))
def tgB (tg : FG) (b : FS) : D → FS := fun d ρ => (tg d ρ).bind b
def forS (src : FI) (tg : FG) (b : FS) : FS := fun ρ => (src ρ).bind fun ds => forF (tgB tg b) ds ρ
def Dz (c : FT) (b : FS) : Nat → FS
 | 0, _ => none
 | n + 1, ρ => match c ρ with
  | some false => some (.nx ρ)
  | some true => (match b ρ with
   | some (.nx ρ') => Dz c b n ρ'
   | some (.ct ρ') => Dz c b n ρ'
   | some (.bk ρ') => some (.nx ρ')
   | some (.rt e ρ') => some (.rt e ρ')
   | none => none)
  | none => none
def Cr (g : List D → Option D) (fs : FA) : FE := fun ρ => (fs ρ).bind g
def Fy (n : Nat) (ds : List D) : Rho := ds.map .fz ++ List.replicate (n - ds.length) .un
def runF (n np : Nat) (b : FS) (ds : List D) : Option D := if ds.length = np then (match b (Fy n ds) with | some (.rt d _) => some d | some (.nx _) => some .non | _ => none) else none
def Eo (ρ : Rho) (ga : FT) (fe : FE) : List D → Option (List D)
 | [] => some []
 | d :: r => match ga (ρ ++ [.fz d]) with
  | some true => (fe (ρ ++ [.fz d])).bind fun y => (Eo ρ ga fe r).map (y :: ·)
  | some false => Eo ρ ga fe r
  | none => none
def Fq (src : FI) (ga : FT) (fe : FE) : FE := fun ρ => (src ρ).bind fun ds => if ds.length ≤ sizeLine then (Eo ρ ga fe ds).map .lst else none
def allT : FT := fun _ => some true
def JQ : List D → Option (List Str)
 | [] => some []
 | .str i :: r => (JQ r).map (i :: ·)
 | _ :: _ => none
def VD (x y : D) : Option D := match x, y with
 | .str z, .lst ds => (JQ ds).bind fun ys => if (ys.map (·.length)).sum + ys.length * z.length ≤ 16777216 then some (.str (Str.join z ys)) else none
 | .str z, .tup ds => (JQ ds).bind fun ys => if (ys.map (·.length)).sum + ys.length * z.length ≤ 16777216 then some (.str (Str.join z ys)) else none
 | _, _ => none
def tyD : D → Option String
 | .non => some "NoneType"
 | .bl _ => some "bool"
 | .int _ => some "int"
 | .str _ => some "str"
 | .lst _ => some "list"
 | .tup _ => some "tuple"
 | _ => none
def isiD (T : String) (x : D) : Option D := (tyD x).map fun n => .bl (n == T || (n == "bool" && T == "int"))
def setW (i : Nat) (f : FE) : FS := fun ρ => (f ρ).map fun d => .nx (ρ.set i (.ow d))
def ownO (ρ : Rho) (i : Nat) : Option D := match ρ[i]? with | some (.ow d) => some d | _ => none
def mutF (g : D → D → Option D) (i : Nat) (f : FE) : FS := fun ρ => (f ρ).bind fun v => (ownO ρ i).bind fun x => (g x v).map fun y => .nx (ρ.set i (.ow y))
def frz1 (ρ : Rho) (i : Nat) : Rho := match ρ[i]? with | some (.ow d) => ρ.set i (.fz d) | _ => ρ
end PV
namespace PV
open PySem L2
theorem VG {α : Type} (l : List α) (x : α) : atI (l ++ [x]) (-1) = some x := by
 unfold atI ixN
 rw [if_neg (by omega), if_pos (by simp; omega)]
 simp
 rw [show (-1 + ((l.length : Int) + 1)).toNat = l.length by omega]
 simp
theorem QH {α : Type} (l : List α) (x y : α) : atI (l ++ [x, y]) (-2) = some x := by
 unfold atI ixN
 rw [if_neg (by omega), if_pos (by simp; omega)]
 simp
 rw [show (-2 + ((l.length : Int) + 2)).toNat = l.length by omega]
 simp
theorem Od {α : Type} (l : List α) (k : Nat) : cutD l none (some (k : Int)) = l.take k := by
 unfold cutD HT.sIx
 simp
 rw [if_neg (by omega)]
 first | omega | (rw [List.take_eq_take_iff]; omega)
theorem Kr {α : Type} (l : List α) (k : Nat) : cutD l (some (k : Int)) none = l.drop k := by
 unfold cutD HT.sIx
 simp
 rw [if_neg (by omega)]
 by_cases h : k ≤ l.length
 ·rw [Nat.min_eq_left h, List.take_of_length_le (by simp)]
 ·rw [Nat.min_eq_right (by omega), List.drop_of_length_le (by omega), List.drop_of_length_le (by omega)]
  simp
theorem W8 {α : Type} {xs : List α} {i : Int} (h0 : 0 ≤ i) (h1 : i < xs.length) : atI xs i = xs[i.toNat]? := by
 unfold atI ixN; rw [if_pos h0, if_pos h1]; rfl
theorem VH {α : Type} {xs : List α} (i n : Int) (hn : n = xs.length) (h : xs ≠ []) : ∃ x, x ∈ xs ∧ atI xs (i % n) = some x := by
 subst hn
 have hl : 0 < xs.length := List.length_pos_iff.mpr h
 have h0 : 0 ≤ i % (xs.length : Int) := Int.emod_nonneg _ (by omega)
 have h1 : i % (xs.length : Int) < xs.length := Int.emod_lt_of_pos _ (by omega)
 have hi : (i % (xs.length : Int)).toNat < xs.length := by omega
 exact ⟨xs[(i % (xs.length : Int)).toNat], List.getElem_mem hi, by rw [W8 h0 h1]; simp [hi]⟩
theorem E_ (i j : Int) (h : 0 < j) : modD (.int i) (.int j) = some (.int (i % j)) := by
 show (if 0 < j then some (D.int (i % j)) else none) = _
 rw [if_pos h]
theorem Ir (i j : Int) (h : 0 < j) (h2 : j < 1073741824) : GJ (.int i) (.int j) = some (.int (i / j)) := by
 show (if CDiv i j then some (D.int (i / j)) else none) = _
 rw [if_pos ⟨h, h2⟩]
theorem Ks (i j : Int) (h : -(2 ^ 64) < j ∧ j < 2 ^ 64) : mulD (.int i) (.int j) = some (.int (i * j)) := by
 show (if Kq i j then some (D.int (i * j)) else none) = _
 rw [if_pos (.inl (.inr h))]
theorem VJ (i j : Int) (h : -(2 ^ 64) < i ∧ i < 2 ^ 64) : mulD (.int i) (.int j) = some (.int (i * j)) := by
 show (if Kq i j then some (D.int (i * j)) else none) = _
 rw [if_pos (.inl (.inl h))]
theorem Hx (i j : Int) : addD (.int i) (.int j) = some (.int (i + j)) := of_eq_true (eq_self _)
theorem Qn (i j : Int) : subD (.int i) (.int j) = some (.int (i - j)) := of_eq_true (eq_self _)
theorem JV (i j : Int) : ltD (.int i) (.int j) = some (.bl (decide (i < j))) := of_eq_true (eq_self _)
theorem TQ (i j : Int) : gtD (.int i) (.int j) = some (.bl (decide (j < i))) := of_eq_true (eq_self _)
theorem W9 (i j : Int) : leD (.int i) (.int j) = some (.bl (decide (i ≤ j))) := of_eq_true (eq_self _)
theorem W_ (i j : Int) : geD (.int i) (.int j) = some (.bl (decide (j ≤ i))) := of_eq_true (eq_self _)
theorem Ku (i j : Int) : eqD false (.int i) (.int j) = some (.bl (decide (i = j))) := of_eq_true (eq_self _)
theorem TV (i j : Int) : eqD true (.int i) (.int j) = some (.bl (!decide (i = j))) := of_eq_true (eq_self _)
theorem TX (i : Int) : negD (.int i) = some (.int (-i)) := of_eq_true (eq_self _)
theorem Fe {n : Nat} (h : n ≤ 10000000) : n ≤ sizeLine := Nat.le_trans h (by decide)
theorem XD {i j : List D} (h : i.length + j.length ≤ 10000000) : addD (.lst i) (.lst j) = some (.lst (i ++ j)) := by
 show (if _ then _ else _) = _
 rw [if_pos (Fe h)]
theorem Oe {i j : Str} (h : i.length + j.length ≤ 10000000) : addD (.str i) (.str j) = some (.str (i ++ j)) := by
 show (if _ then _ else _) = _
 rw [if_pos (Fe h)]
theorem Kv {b : D → FS} {P : Nat → Rho → Prop} : ∀ {ds : List D} {ρ : Rho} (k : Nat), P k ρ → (∀ (i : Nat) d ρ, ds[i]? = some d → P (k + i) ρ → ∃ ρ', b d ρ = some (.nx ρ') ∧ P (k + i + 1) ρ') → ∃ ρ', forF b ds ρ = some (.nx ρ') ∧ P (k + ds.length) ρ'
 | [], ρ, k, h0, _ => ⟨ρ, rfl, by simpa using h0⟩
 | d :: r, ρ, k, h0, hs => by
  obtain ⟨ρ1, e1, p1⟩ := hs 0 d ρ rfl (by simpa using h0)
  obtain ⟨ρ2, e2, p2⟩ := Kv (ds := r) (ρ := ρ1) (k + 1) (by simpa using p1) fun i d' ρ' hd hp => by
   have := hs (i + 1) d' ρ' (by simpa using hd) (by rw [show k + (i + 1) = k + 1 + i by omega]; exact hp)
   rw [show k + (i + 1) + 1 = k + 1 + i + 1 by omega] at this
   exact this
  refine ⟨ρ2, ?_, by rw [List.length_cons, show k + (r.length + 1) = k + 1 + r.length by omega]; exact p2⟩
  unfold forF
  rw [e1]
  exact e2
theorem TY {ρ : Rho} {fe : FE} {P : D → Prop} : ∀ {ds : List D}, (∀ d ∈ ds, ∃ y, fe (ρ ++ [.fz d]) = some y ∧ P y) → ∃ out, Eo ρ allT fe ds = some out ∧ out.length = ds.length ∧ ∀ y ∈ out, P y
 | [], _ => ⟨[], rfl, rfl, by simp⟩
 | d :: r, hh => by
  obtain ⟨y, hy, py⟩ := hh d List.mem_cons_self
  obtain ⟨out, h1, h2, h3⟩ := TY (ds := r) fun d' hd => hh d' (List.mem_cons_of_mem _ hd)
  refine ⟨y :: out, ?_, by simp [h2], fun z hz => ?_⟩
  ·unfold Eo
   rw [show allT (ρ ++ [.fz d]) = some true from rfl, hy, h1]
   rfl
  ·rcases List.mem_cons.mp hz with rfl | hz
   ·exact py
   ·exact h3 z hz
theorem M_ {src : FI} {ga : FT} {fe : FE} {ρ : Rho} {ds out : List D} (h : src ρ = some ds) (hz : ds.length ≤ 10000000) (hc : Eo ρ ga fe ds = some out) : Fq src ga fe ρ = some (.lst out) := by
 unfold Fq; rw [h]
 show (if ds.length ≤ sizeLine then (Eo ρ ga fe ds).map D.lst else none) = _
 rw [if_pos (Fe hz), hc]
 rfl
def Tc (o : Option Out) (gs : FS) : Option Out := match o with | some (.nx ρ') => gs ρ' | o => o
theorem Hm (g gs : FS) (ρ : Rho) : seqF g gs ρ = Tc (g ρ) gs := of_eq_true (eq_self _)
theorem e_nx (gs : FS) (ρ : Rho) : Tc (some (.nx ρ)) gs = gs ρ := of_eq_true (eq_self _)
theorem e_rt (gs : FS) (d : D) (ρ : Rho) : Tc (some (.rt d ρ)) gs = some (.rt d ρ) := of_eq_true (eq_self _)
theorem e_bk (gs : FS) (d : Rho) : Tc (some (.bk d)) gs = some (.bk d) := of_eq_true (eq_self _)
theorem e_ct (gs : FS) (d : Rho) : Tc (some (.ct d)) gs = some (.ct d) := of_eq_true (eq_self _)
theorem VL (ρ : Rho) : nxF ρ = some (.nx ρ) := of_eq_true (eq_self _)
def iteO (o : Option Bool) (g gs : FS) (ρ : Rho) : Option Out := match o with | some true => g ρ | some false => gs ρ | none => none
theorem e_if (t : FT) (g gs : FS) (ρ : Rho) : ifS t g gs ρ = iteO (t ρ) g gs ρ := of_eq_true (eq_self _)
theorem VM (g gs : FS) (ρ : Rho) : iteO (some true) g gs ρ = g ρ := of_eq_true (eq_self _)
theorem VN (g gs : FS) (ρ : Rho) : iteO (some false) g gs ρ = gs ρ := of_eq_true (eq_self _)
def setO (i : Nat) (ρ : Rho) (o : Option D) : Option Out := o.map fun d => .nx (ρ.set i (.fz d))
theorem G6 (i : Nat) (f : FE) (ρ : Rho) : setF i f ρ = setO i ρ (f ρ) := of_eq_true (eq_self _)
theorem Fl (i : Nat) (ρ : Rho) (d : D) : setO i ρ (some d) = some (.nx (ρ.set i (.fz d))) := of_eq_true (eq_self _)
def retO (ρ : Rho) (o : Option D) : Option Out := o.map fun d => .rt d ρ
theorem VP (f : FE) (ρ : Rho) : retF f ρ = retO ρ (f ρ) := of_eq_true (eq_self _)
theorem Qo (d : D) (ρ : Rho) : retO ρ (some d) = some (.rt d ρ) := of_eq_true (eq_self _)
theorem Qp (ρ : Rho) : retN ρ = some (.rt .non ρ) := of_eq_true (eq_self _)
def bB (ρ : Rho) (o : Option D) : Option Out := o.map fun _ => .nx ρ
theorem Qq (f : FE) (ρ : Rho) : gY f ρ = bB ρ (f ρ) := of_eq_true (eq_self _)
theorem NB (ρ : Rho) (d : D) : bB ρ (some d) = some (.nx ρ) := of_eq_true (eq_self _)
def b2 (g : D → D → Option D) (x y : Option D) : Option D := x.bind fun x => y.bind fun y => g x y
theorem e_b (g : D → D → Option D) (fa fb : FE) (ρ : Rho) : bF g fa fb ρ = b2 g (fa ρ) (fb ρ) := of_eq_true (eq_self _)
theorem e_bs (g : D → D → Option D) (x y : D) : b2 g (some x) (some y) = g x y := of_eq_true (eq_self _)
def b1 (g : D → Option D) (x : Option D) : Option D := x.bind g
theorem e_u (g : D → Option D) (fa : FE) (ρ : Rho) : uF g fa ρ = b1 g (fa ρ) := of_eq_true (eq_self _)
theorem e_us (g : D → Option D) (x : D) : b1 g (some x) = g x := of_eq_true (eq_self _)
def cl1 (g : List D → Option D) (x : Option (List D)) : Option D := x.bind g
theorem Ln (g : List D → Option D) (fs : FA) (ρ : Rho) : Cr g fs ρ = cl1 g (fs ρ) := of_eq_true (eq_self _)
theorem Jl (g : List D → Option D) (ds : List D) : cl1 g (some ds) = g ds := of_eq_true (eq_self _)
def bC (x : Option D) (y : Option (List D)) : Option (List D) := x.bind fun d => y.map (d :: ·)
theorem Lp (fa : FE) (fs : FA) (ρ : Rho) : Ab fa fs ρ = bC (fa ρ) (fs ρ) := of_eq_true (eq_self _)
theorem Jm (d : D) (ds : List D) : bC (some d) (some ds) = some (d :: ds) := of_eq_true (eq_self _)
theorem QJ (ρ : Rho) : nilA ρ = some [] := of_eq_true (eq_self _)
def tupO (o : Option (List D)) : Option D := o.bind fun ds => if ds.length ≤ sizeLine then some (.tup ds) else none
def lstO (o : Option (List D)) : Option D := o.bind fun ds => if ds.length ≤ sizeLine then some (.lst ds) else none
theorem QK (fs : FA) (ρ : Rho) : tupF fs ρ = tupO (fs ρ) := of_eq_true (eq_self _)
theorem QL (fs : FA) (ρ : Rho) : lstF fs ρ = lstO (fs ρ) := of_eq_true (eq_self _)
theorem Qs : tupO (some []) = some (.tup []) := of_eq_true (eq_self _)
theorem Qt (a : D) : tupO (some [a]) = some (.tup [a]) := of_eq_true (eq_self _)
theorem Qu (a b : D) : tupO (some [a, b]) = some (.tup [a, b]) := of_eq_true (eq_self _)
theorem Lq (a b c : D) : tupO (some [a, b, c]) = some (.tup [a, b, c]) := of_eq_true (eq_self _)
theorem Qv (a b c d : D) : tupO (some [a, b, c, d]) = some (.tup [a, b, c, d]) := of_eq_true (eq_self _)
theorem Qw (a b c d e : D) : tupO (some [a, b, c, d, e]) = some (.tup [a, b, c, d, e]) := of_eq_true (eq_self _)
theorem Qx : lstO (some []) = some (.lst []) := of_eq_true (eq_self _)
theorem Qy (a : D) : lstO (some [a]) = some (.lst [a]) := of_eq_true (eq_self _)
theorem Lr (a b : D) : lstO (some [a, b]) = some (.lst [a, b]) := of_eq_true (eq_self _)
theorem Qz (a b c : D) : lstO (some [a, b, c]) = some (.lst [a, b, c]) := of_eq_true (eq_self _)
theorem Q0 (a b c d : D) : lstO (some [a, b, c, d]) = some (.lst [a, b, c, d]) := of_eq_true (eq_self _)
theorem Q3 (a b c d e : D) : lstO (some [a, b, c, d, e]) = some (.lst [a, b, c, d, e]) := of_eq_true (eq_self _)
theorem Q4 (a b c d e f : D) : lstO (some [a, b, c, d, e, f]) = some (.lst [a, b, c, d, e, f]) := of_eq_true (eq_self _)
def blO (o : Option D) : Option Bool := match o with | some (.bl b) => some b | _ => none
theorem e_bl (f : FE) (ρ : Rho) : blF f ρ = blO (f ρ) := of_eq_true (eq_self _)
theorem QM (b : Bool) : blO (some (.bl b)) = some b := of_eq_true (eq_self _)
def andO (o : Option Bool) (fb : FT) (ρ : Rho) : Option Bool := match o with | some true => fb ρ | some false => some false | none => none
def orO (o : Option Bool) (fb : FT) (ρ : Rho) : Option Bool := match o with | some true => some true | some false => fb ρ | none => none
theorem Q5 (a b : FT) (ρ : Rho) : andT a b ρ = andO (a ρ) b ρ := of_eq_true (eq_self _)
theorem NK (b : FT) (ρ : Rho) : andO (some true) b ρ = b ρ := of_eq_true (eq_self _)
theorem NP (b : FT) (ρ : Rho) : andO (some false) b ρ = some false := of_eq_true (eq_self _)
theorem VR (a b : FT) (ρ : Rho) : orT a b ρ = orO (a ρ) b ρ := of_eq_true (eq_self _)
theorem Q6 (b : FT) (ρ : Rho) : orO (some true) b ρ = some true := of_eq_true (eq_self _)
theorem Q7 (b : FT) (ρ : Rho) : orO (some false) b ρ = b ρ := of_eq_true (eq_self _)
theorem Q8 (a : FT) (ρ : Rho) : notT a ρ = (a ρ).map (!·) := of_eq_true (eq_self _)
def andP (o : Option D) (fb : FE) (ρ : Rho) : Option D := match o with | some (.bl true) => fb ρ | some (.bl false) => some (.bl false) | _ => none
def orP (o : Option D) (fb : FE) (ρ : Rho) : Option D := match o with | some (.bl true) => some (.bl true) | some (.bl false) => fb ρ | _ => none
def notP (o : Option D) : Option D := match o with | some (.bl b) => some (.bl (!b)) | _ => none
theorem Q9 (a b : FE) (ρ : Rho) : andF a b ρ = andP (a ρ) b ρ := of_eq_true (eq_self _)
theorem NQ (b : FE) (ρ : Rho) : andP (some (.bl true)) b ρ = b ρ := of_eq_true (eq_self _)
theorem NT (b : FE) (ρ : Rho) : andP (some (.bl false)) b ρ = some (.bl false) := of_eq_true (eq_self _)
theorem VV (a b : FE) (ρ : Rho) : orF a b ρ = orP (a ρ) b ρ := of_eq_true (eq_self _)
theorem Q_ (b : FE) (ρ : Rho) : orP (some (.bl true)) b ρ = some (.bl true) := of_eq_true (eq_self _)
theorem RB (b : FE) (ρ : Rho) : orP (some (.bl false)) b ρ = b ρ := of_eq_true (eq_self _)
theorem RC (a : FE) (ρ : Rho) : notF a ρ = notP (a ρ) := of_eq_true (eq_self _)
theorem NZ (b : Bool) : notP (some (.bl b)) = some (.bl (!b)) := of_eq_true (eq_self _)
def ifP (o : Option Bool) (fa fb : FE) (ρ : Rho) : Option D := match o with | some true => fa ρ | some false => fb ρ | none => none
theorem Va (t : FT) (a b : FE) (ρ : Rho) : ifF t a b ρ = ifP (t ρ) a b ρ := of_eq_true (eq_self _)
theorem RD (a b : FE) (ρ : Rho) : ifP (some true) a b ρ = a ρ := of_eq_true (eq_self _)
theorem RG (a b : FE) (ρ : Rho) : ifP (some false) a b ρ = b ρ := of_eq_true (eq_self _)
def sl3 (f : Option D) (l h : Option (Option Int)) : Option D := f.bind fun x => l.bind fun lo => h.bind fun hi => slD x lo hi
theorem e_sl (f : FE) (l h : FO) (ρ : Rho) : slF f l h ρ = sl3 (f ρ) (l ρ) (h ρ) := of_eq_true (eq_self _)
theorem Vb (x : D) (l h : Option Int) : sl3 (some x) (some l) (some h) = slD x l h := of_eq_true (eq_self _)
theorem Vc (ρ : Rho) : noO ρ = some none := of_eq_true (eq_self _)
def somO (o : Option D) : Option (Option Int) := match o with | some (.int i) => some (some i) | _ => none
theorem Nb (f : FE) (ρ : Rho) : someO f ρ = somO (f ρ) := of_eq_true (eq_self _)
theorem Kw (i : Int) : somO (some (.int i)) = some (some i) := of_eq_true (eq_self _)
def getO (o : Option Slot) : Option D := match o with | some (.fz d) => some d | _ => none
def getU (o : Option Slot) : Option D := match o with | some (.fz d) => some d | some (.ow d) => some d | _ => none
theorem e_v (i : Nat) (ρ : Rho) : vF i ρ = getO (ρ[i]?) := of_eq_true (eq_self _)
theorem e_vs (d : D) : getO (some (.fz d)) = some d := of_eq_true (eq_self _)
theorem e_vU (i : Nat) (ρ : Rho) : vU i ρ = getU (ρ[i]?) := of_eq_true (eq_self _)
theorem Vd (d : D) : getU (some (.fz d)) = some d := of_eq_true (eq_self _)
theorem Ve (d : D) : getU (some (.ow d)) = some d := of_eq_true (eq_self _)
theorem e_k (d : D) (ρ : Rho) : kF d ρ = some d := of_eq_true (eq_self _)
def seqO (o : Option D) : Option (List D) := match o with | some (.lst ds) => some ds | some (.tup ds) => some ds | _ => none
theorem RJ (f : FE) (ρ : Rho) : seqI f ρ = seqO (f ρ) := of_eq_true (eq_self _)
theorem Nf (ds : List D) : seqO (some (.lst ds)) = some ds := of_eq_true (eq_self _)
theorem Ng (ds : List D) : seqO (some (.tup ds)) = some ds := of_eq_true (eq_self _)
def rngO (o : Option D) : Option (List D) := match o with | some (.int j) => if -(2 ^ 62) ≤ j ∧ j < 2 ^ 62 then some (rngD j.toNat) else none | _ => none
theorem RK (f : FE) (ρ : Rho) : rngI f ρ = rngO (f ρ) := of_eq_true (eq_self _)
theorem dC (j : Int) (h : -(2 ^ 62) ≤ j ∧ j < 2 ^ 62) : rngO (some (.int j)) = some (rngD j.toNat) := by
 show (if _ then _ else _) = _
 rw [if_pos h]
def forO (o : Option (List D)) (tg : FG) (b : FS) (ρ : Rho) : Option Out := o.bind fun ds => forF (tgB tg b) ds ρ
theorem Vf (src : FI) (tg : FG) (b : FS) (ρ : Rho) : forS src tg b ρ = forO (src ρ) tg b ρ := of_eq_true (eq_self _)
theorem RL (ds : List D) (tg : FG) (b : FS) (ρ : Rho) : forO (some ds) tg b ρ = forF (tgB tg b) ds ρ := of_eq_true (eq_self _)
def ccO (o : Option Bool) (e : Option D) (r : Option (List D)) : Option (List D) := match o with | some true => e.bind fun y => r.map (y :: ·) | some false => r | none => none
theorem KR (ρ : Rho) (ga : FT) (fe : FE) (d : D) (r : List D) : Eo ρ ga fe (d :: r) = ccO (ga (ρ ++ [.fz d])) (fe (ρ ++ [.fz d])) (Eo ρ ga fe r) := of_eq_true (eq_self _)
theorem gZ (y : Option D) (r : Option (List D)) : ccO (some false) y r = r := of_eq_true (eq_self _)
theorem QQ (ρ : Rho) : allT ρ = some true := of_eq_true (eq_self _)
def runO (o : Option Out) : Option D := match o with | some (.rt d _) => some d | some (.nx _) => some .non | _ => none
theorem Hn {n np : Nat} {b : FS} {ds : List D} (h : ds.length = np) : runF n np b ds = runO (b (Fy n ds)) := by
 unfold runF; rw [if_pos h]; rfl
theorem RM (d : D) (ρ : Rho) : runO (some (.rt d ρ)) = some d := of_eq_true (eq_self _)
theorem RN (ρ : Rho) : runO (some (.nx ρ)) = some .non := of_eq_true (eq_self _)
theorem Vg {α β : Type} (f : α → β) (x : α) : Option.map f (some x) = some (f x) := of_eq_true (eq_self _)
theorem RP {α β : Type} (f : α → Option β) (x : α) : Option.bind (some x) f = f x := of_eq_true (eq_self _)
theorem Du (n : Nat) (ds : List D) : Fy n ds = ds.map .fz ++ List.replicate (n - ds.length) .un := of_eq_true (eq_self _)
theorem truB (b : Bool) : truD (.bl b) = some b := of_eq_true (eq_self _)
theorem JW {α : Type} (l : List α) (k : Nat) : atI l (k : Int) = l[k]? := by
 unfold atI ixN
 rw [if_pos (by omega)]
 by_cases h : k < l.length
 ·rw [if_pos (by omega)]
  simp
 ·rw [if_neg (by omega), List.getElem?_eq_none (by omega)]
  rfl
theorem ix0 (x : D) (r : List D) : ixD (.lst (x :: r)) (.int 0) = some x := JW _ 0
theorem ix1 (x y : D) (r : List D) : ixD (.lst (x :: y :: r)) (.int 1) = some y := JW _ 1
theorem ix2 (x y z : D) (r : List D) : ixD (.lst (x :: y :: z :: r)) (.int 2) = some z := JW _ 2
theorem ixt0 (x : D) (r : List D) : ixD (.tup (x :: r)) (.int 0) = some x := JW _ 0
theorem ixt1 (x y : D) (r : List D) : ixD (.tup (x :: y :: r)) (.int 1) = some y := JW _ 1
theorem ixt2 (x y z : D) (r : List D) : ixD (.tup (x :: y :: z :: r)) (.int 2) = some z := JW _ 2
theorem ixt3 (x y z w : D) (r : List D) : ixD (.tup (x :: y :: z :: w :: r)) (.int 3) = some w := JW _ 3
theorem e_tr (f : FE) (ρ : Rho) : trF f ρ = (f ρ).bind truD := of_eq_true (eq_self _)
theorem Jo : ∀ {out : List D} {P : Str → Prop}, (∀ y ∈ out, ∃ x, y = D.str x ∧ P x) → ∃ ws : List Str, out = ws.map .str ∧ ws.length = out.length ∧ ∀ x ∈ ws, P x
 | [], _, _ => ⟨[], rfl, rfl, by simp⟩
 | y :: r, P, h => by
  obtain ⟨x, rfl, px⟩ := h y List.mem_cons_self
  obtain ⟨ws, e, hl, hp⟩ := Jo (out := r) (P := P) fun y hy => h y (List.mem_cons_of_mem _ hy)
  exact ⟨x :: ws, by rw [e]; rfl, by simp [hl], fun z hz => by rcases List.mem_cons.mp hz with rfl | hz; exact px; exact hp z hz⟩
theorem Ky {src : FI} {fe : FE} {ρ : Rho} {ds : List D} {P : D → Prop} (h : src ρ = some ds) (hz : ds.length ≤ 10000000) (hh : ∀ d ∈ ds, ∃ y, fe (ρ ++ [.fz d]) = some y ∧ P y) : ∃ out, Fq src allT fe ρ = some (.lst out) ∧ out.length = ds.length ∧ ∀ y ∈ out, P y := by
 obtain ⟨out, h1, h2, h3⟩ := TY hh
 exact ⟨out, M_ h hz h1, h2, h3⟩
theorem QR {ρ : Rho} {ga : FT} {fe : FE} {P : D → Prop} : ∀ {ds : List D}, (∀ d ∈ ds, ∃ b, ga (ρ ++ [.fz d]) = some b ∧ ∃ y, fe (ρ ++ [.fz d]) = some y ∧ P y) → ∃ out, Eo ρ ga fe ds = some out ∧ out.length ≤ ds.length ∧ ∀ y ∈ out, P y
 | [], _ => ⟨[], rfl, Nat.le_refl _, by simp⟩
 | d :: r, hh => by
  obtain ⟨b, hb, y, hy, py⟩ := hh d List.mem_cons_self
  obtain ⟨out, h1, h2, h3⟩ := QR (ds := r) fun d' hd => hh d' (List.mem_cons_of_mem _ hd)
  cases b with
  | true =>
   refine ⟨y :: out, ?_, by simp [h2], fun z hz => ?_⟩
   ·unfold Eo
    rw [hb, hy, h1]
    rfl
   ·rcases List.mem_cons.mp hz with rfl | hz
    ·exact py
    ·exact h3 z hz
  | false =>
   refine ⟨out, ?_, by simp; omega, h3⟩
   unfold Eo
   rw [hb, h1]
theorem XF {src : FI} {ga : FT} {fe : FE} {ρ : Rho} {ds : List D} {P : D → Prop} (h : src ρ = some ds) (hz : ds.length ≤ 10000000) (hh : ∀ d ∈ ds, ∃ b, ga (ρ ++ [.fz d]) = some b ∧ ∃ y, fe (ρ ++ [.fz d]) = some y ∧ P y) : ∃ out, Fq src ga fe ρ = some (.lst out) ∧ out.length ≤ ds.length ∧ ∀ y ∈ out, P y := by
 obtain ⟨out, h1, h2, h3⟩ := QR hh
 exact ⟨out, M_ h hz h1, h2, h3⟩
theorem RQ (z : Str) (n j : Int) (hn : n = z.length) (h0 : 0 < z.length) (h1 : z.length ≤ 10000000) : ∃ c, c ∈ z.cps.toList ∧ ixD (.str z) (.int (j % n)) = some (.str ⟨#[c]⟩) := by
 obtain ⟨c, hc, e⟩ := VH (xs := z.cps.toList) j n (by simpa [Str.length] using hn) (fun q => by
  have e : z.cps.toList.length = 0 := by rw [q]; rfl
  have e2 : z.length = z.cps.toList.length := by simp [Str.length]
  omega)
 refine ⟨c, hc, ?_⟩
 have : ixD (.str z) (.int (j % n)) = if z.length ≤ sizeLine then (atI z.cps.toList (j % n)).map (fun c => D.str ⟨#[c]⟩) else none := rfl
 rw [this, if_pos (Fe h1), e]
 rfl
theorem Af (x y : Str) : (x ++ y).length = x.length + y.length := by
 show (x.cps ++ y.cps).size = _
 simp [Str.length]
theorem sl_s (z : Str) (lo hi : Option Int) (h : z.length ≤ 10000000) : slD (.str z) lo hi = some (.str (cutS z lo hi)) := by
 show (if z.length ≤ sizeLine then some (D.str (cutS z lo hi)) else none) = _
 rw [if_pos (Fe h)]
theorem JX (z : Str) (h : z.length ≤ 10000000) : lenD (.str z) = some (.int z.length) := by
 show (if z.length ≤ sizeLine then some (D.int z.length) else none) = _
 rw [if_pos (Fe h)]
theorem Vh (l : List D) : lenD (.lst l) = some (.int l.length) := of_eq_true (eq_self _)
theorem Kz (x : Str) (ys : List Str) : inD false (.str x) (.lst (ys.map .str)) = some (.bl (ys.any (fun y => y == x))) := by
 have h : ∀ ys : List Str, flVs (ys.map .str) = some (ys.map V.str) := fun ys => by
  induction ys with
  | nil => rfl
  | cons y r ih => simp [flVs, flV, ih]
 show ((flV (.str x)).bind fun v => (flVs (ys.map .str)).map fun vs => D.bl (inV v vs)) = _
 rw [h]
 show some (D.bl (inV (.str x) (ys.map V.str))) = _
 simp [inV, List.any_map, Function.comp_def, eqV]
theorem Td (n : Nat) : (rngD n).length = n := by simp [rngD]
theorem K1 {n : Nat} {d : D} (h : d ∈ rngD n) : ∃ k : Nat, k < n ∧ d = .int k := by
 obtain ⟨k, hk, rfl⟩ := List.mem_map.mp h
 exact ⟨k, List.mem_range.mp hk, rfl⟩
theorem WT (ys : List Str) : JQ (ys.map .str) = some ys := by
 induction ys with
 | nil => rfl
 | cons y r ih => simp [JQ, ih]
def bD (i : Nat) (ρ : Rho) (o : Option D) : Option Out := o.map fun d => .nx (ρ.set i (.ow d))
theorem RT (i : Nat) (f : FE) (ρ : Rho) : setW i f ρ = bD i ρ (f ρ) := of_eq_true (eq_self _)
theorem Nh (i : Nat) (ρ : Rho) (d : D) : bD i ρ (some d) = some (.nx (ρ.set i (.ow d))) := of_eq_true (eq_self _)
def mutO (g : D → D → Option D) (i : Nat) (ρ : Rho) (x v : Option D) : Option Out := v.bind fun v => x.bind fun x => (g x v).map fun y => .nx (ρ.set i (.ow y))
def getW (o : Option Slot) : Option D := match o with | some (.ow d) => some d | _ => none
theorem Vi (g : D → D → Option D) (i : Nat) (f : FE) (ρ : Rho) : mutF g i f ρ = mutO g i ρ (getW ρ[i]?) (f ρ) := of_eq_true (eq_self _)
theorem RV (g : D → D → Option D) (i : Nat) (ρ : Rho) (x v : D) : mutO g i ρ (some x) (some v) = (g x v).map fun y => .nx (ρ.set i (.ow y)) := of_eq_true (eq_self _)
theorem RW (d : D) : getW (some (.ow d)) = some d := of_eq_true (eq_self _)
def forB (o : Option Out) (b : D → FS) (r : List D) : Option Out := match o with
  | some (.nx ρ') => forF b r ρ'
  | some (.ct ρ') => forF b r ρ'
  | some (.bk ρ') => some (.nx ρ')
  | some (.rt e ρ') => some (.rt e ρ')
  | none => none
theorem K3 (b : D → FS) (ρ : Rho) : forF b [] ρ = some (.nx ρ) := of_eq_true (eq_self _)
theorem Jp (b : D → FS) (d : D) (r : List D) (ρ : Rho) : forF b (d :: r) ρ = forB (b d ρ) b r := of_eq_true (eq_self _)
theorem Ni (b : D → FS) (r : List D) (ρ : Rho) : forB (some (.nx ρ)) b r = forF b r ρ := of_eq_true (eq_self _)
theorem Nj (b : D → FS) (r : List D) (ρ : Rho) : forB (some (.ct ρ)) b r = forF b r ρ := of_eq_true (eq_self _)
theorem Nk (b : D → FS) (r : List D) (ρ : Rho) : forB (some (.bk ρ)) b r = some (.nx ρ) := of_eq_true (eq_self _)
theorem Np (b : D → FS) (r : List D) (d : D) (ρ : Rho) : forB (some (.rt d ρ)) b r = some (.rt d ρ) := of_eq_true (eq_self _)
def bndO (o : Option Rho) (b : FS) : Option Out := o.bind b
theorem e_tg (tg : FG) (b : FS) (d : D) (ρ : Rho) : tgB tg b d ρ = bndO (tg d ρ) b := of_eq_true (eq_self _)
theorem Te (ρ : Rho) (b : FS) : bndO (some ρ) b = b ρ := of_eq_true (eq_self _)
theorem Og (i : Nat) (d : D) (ρ : Rho) : J0 i d ρ = some (ρ.set i (.fz d)) := of_eq_true (eq_self _)
end PV
namespace PV
open PySem L2
end PV
namespace PV
open PySem L2
abbrev FZ := Rho → Option (D × Rho)
abbrev FZA := Rho → Option (List D × Rho)
def Ia (g : List D → Option (D × D)) (i : Nat) (fs : FA) : FZ := fun ρ => (fs ρ).bind fun ds => (ownO ρ i).bind fun so => (g (so :: ds)).map fun r => (r.1, ρ.set i (.ow r.2))
def isOb (c m : Str) : D → Bool
 | .ob c' gs => decide (c' = c) && (gs.lookup m).isNone
 | _ => false
def Ep (c m : Str) (g : List D → Option (D × D)) (i : Nat) (fs : FA) : FZ := fun ρ => (ownO ρ i).bind fun so => if isOb c m so then (fs ρ).bind fun ds => (g (so :: ds)).map fun r => (r.1, ρ.set i (.ow r.2)) else none
def Tf (d : D) : Option D := match d with | .non => some d | .bl _ => some d | .int _ => some d | .str _ => some d | _ => none
def Ib (c m : Str) (g : List D → Option D) (i : Nat) (fs : FA) : FE := fun ρ => (ownO ρ i).bind fun so => if isOb c m so then (fs ρ).bind fun ds => (g (so :: ds)).bind Tf else none
def QS (h : FZ) : FZA := fun ρ => (h ρ).map fun r => ([r.1], r.2)
def Mi (f : FE) (h : FZA) : FZA := fun ρ => (f ρ).bind fun d => (h ρ).map fun r => (d :: r.1, r.2)
def tupX (h : FZA) : FZ := fun ρ => (h ρ).bind fun r => if r.1.length ≤ sizeLine then some (.tup r.1, r.2) else none
def setX (i : Nat) (h : FZ) : FS := fun ρ => (h ρ).map fun r => .nx (r.2.set i (.fz r.1))
def gf (h : FZ) : FS := fun ρ => (h ρ).map fun r => .nx r.2
def retX (h : FZ) : FS := fun ρ => (h ρ).map fun r => .rt r.1 r.2
def putG (f : Str) (v : D) : List (Str × D) → List (Str × D)
 | [] => [(f, v)]
 | (g, x) :: r => if g = f then (g, v) :: r else (g, x) :: putG f v r
def Mj (f : Str) (o v : D) : Option D := match o with | .ob c gs => if gs.length < 1000 then some (.ob c (putG f v gs)) else none | _ => none
def fldS (f : Str) (i : Nat) (fe : FE) : FS := fun ρ => (fe ρ).bind fun v => (ownO ρ i).bind fun o => (Mj f o v).map fun o' => .nx (ρ.set i (.ow o'))
def mkF (c : Str) (g : List D → Option (D × D)) (fs : FA) : FE := fun ρ => (fs ρ).bind fun ds => (g (.ob c [] :: ds)).bind fun r => match r.1 with | .non => some r.2 | _ => none
def Hy (n : Nat) : List D → Rho
 | [] => []
 | so :: ds => .ow so :: (ds.map .fz ++ List.replicate (n - (ds.length + 1)) .un)
def endS (d : D) (ρ : Rho) : Option (D × D) := (getW (ρ[0]? : Option Slot)).map fun so => (d, so)
def runS (n np : Nat) (b : FS) (ds : List D) : Option (D × D) := if ds.length = np then (match b (Hy n ds) with | some (.rt d ρ) => endS d ρ | some (.nx ρ) => endS .non ρ | _ => none) else none
def cx1 (g : List D → Option (D × D)) (i : Nat) (ρ : Rho) (so : Option D) (ds : Option (List D)) : Option (D × Rho) := ds.bind fun ds => so.bind fun so => (g (so :: ds)).map fun r => (r.1, ρ.set i (.ow r.2))
def cx2 (i : Nat) (ρ : Rho) (r : Option (D × D)) : Option (D × Rho) := r.map fun r => (r.1, ρ.set i (.ow r.2))
theorem Az (g : List D → Option (D × D)) (i : Nat) (fs : FA) (ρ : Rho) : Ia g i fs ρ = cx1 g i ρ (getW ρ[i]?) (fs ρ) := of_eq_true (eq_self _)
theorem Aj (g : List D → Option (D × D)) (i : Nat) (ρ : Rho) (so : D) (ds : List D) : cx1 g i ρ (some so) (some ds) = cx2 i ρ (g (so :: ds)) := of_eq_true (eq_self _)
theorem Cg (i : Nat) (ρ : Rho) (d so : D) : cx2 i ρ (some (d, so)) = some (d, ρ.set i (.ow so)) := of_eq_true (eq_self _)
def mx1 (c m : Str) (g : List D → Option (D × D)) (i : Nat) (ρ : Rho) (so : Option D) (ds : Option (List D)) : Option (D × Rho) := so.bind fun so => if isOb c m so then ds.bind fun ds => (g (so :: ds)).map fun r => (r.1, ρ.set i (.ow r.2)) else none
theorem A_ (c m : Str) (g : List D → Option (D × D)) (i : Nat) (fs : FA) (ρ : Rho) : Ep c m g i fs ρ = mx1 c m g i ρ (getW ρ[i]?) (fs ρ) := of_eq_true (eq_self _)
theorem Ak {c m : Str} {g : List D → Option (D × D)} {i : Nat} {ρ : Rho} {so : D} {ds : List D} (h : isOb c m so = true) : mx1 c m g i ρ (some so) (some ds) = cx2 i ρ (g (so :: ds)) := by
 show (if isOb c m so then _ else _) = _
 rw [if_pos h]
 rfl
def mr1 (c m : Str) (g : List D → Option D) (so : Option D) (ds : Option (List D)) : Option D := so.bind fun so => if isOb c m so then ds.bind fun ds => (g (so :: ds)).bind Tf else none
def mr2 (o : Option D) : Option D := o.bind Tf
theorem BJ (c m : Str) (g : List D → Option D) (i : Nat) (fs : FA) (ρ : Rho) : Ib c m g i fs ρ = mr1 c m g (getW ρ[i]?) (fs ρ) := of_eq_true (eq_self _)
theorem Al {c m : Str} {g : List D → Option D} {so : D} {ds : List D} (h : isOb c m so = true) : mr1 c m g (some so) (some ds) = mr2 (g (so :: ds)) := by
 show (if isOb c m so then _ else _) = _
 rw [if_pos h]
 rfl
theorem Bm (b : Bool) : mr2 (some (.bl b)) = some (.bl b) := of_eq_true (eq_self _)
theorem Bo (b : Str) : mr2 (some (.str b)) = some (.str b) := of_eq_true (eq_self _)
theorem Bp (b : Int) : mr2 (some (.int b)) = some (.int b) := of_eq_true (eq_self _)
def lx1 (r : Option (D × Rho)) : Option (List D × Rho) := r.map fun r => ([r.1], r.2)
theorem BK (h : FZ) (ρ : Rho) : QS h ρ = lx1 (h ρ) := of_eq_true (eq_self _)
theorem Am (d : D) (ρ : Rho) : lx1 (some (d, ρ)) = some ([d], ρ) := of_eq_true (eq_self _)
def kx1 (d : Option D) (r : Option (List D × Rho)) : Option (List D × Rho) := d.bind fun d => r.map fun r => (d :: r.1, r.2)
theorem BL (f : FE) (h : FZA) (ρ : Rho) : Mi f h ρ = kx1 (f ρ) (h ρ) := of_eq_true (eq_self _)
theorem An (d : D) (ds : List D) (ρ : Rho) : kx1 (some d) (some (ds, ρ)) = some (d :: ds, ρ) := of_eq_true (eq_self _)
def tx1 (r : Option (List D × Rho)) : Option (D × Rho) := r.bind fun r => if r.1.length ≤ sizeLine then some (.tup r.1, r.2) else none
theorem Bq (h : FZA) (ρ : Rho) : tupX h ρ = tx1 (h ρ) := of_eq_true (eq_self _)
theorem BP (a b : D) (ρ : Rho) : tx1 (some ([a, b], ρ)) = some (.tup [a, b], ρ) := of_eq_true (eq_self _)
theorem BR (a b c : D) (ρ : Rho) : tx1 (some ([a, b, c], ρ)) = some (.tup [a, b, c], ρ) := of_eq_true (eq_self _)
def sx1 (i : Nat) (r : Option (D × Rho)) : Option Out := r.map fun r => .nx (r.2.set i (.fz r.1))
theorem Br (i : Nat) (h : FZ) (ρ : Rho) : setX i h ρ = sx1 i (h ρ) := of_eq_true (eq_self _)
theorem BV (i : Nat) (d : D) (ρ : Rho) : sx1 i (some (d, ρ)) = some (.nx (ρ.set i (.fz d))) := of_eq_true (eq_self _)
def dx1 (r : Option (D × Rho)) : Option Out := r.map fun r => .nx r.2
theorem BW (h : FZ) (ρ : Rho) : gf h ρ = dx1 (h ρ) := of_eq_true (eq_self _)
theorem Ao (d : D) (ρ : Rho) : dx1 (some (d, ρ)) = some (.nx ρ) := of_eq_true (eq_self _)
def rx1 (r : Option (D × Rho)) : Option Out := r.map fun r => .rt r.1 r.2
theorem Bs (h : FZ) (ρ : Rho) : retX h ρ = rx1 (h ρ) := of_eq_true (eq_self _)
theorem BX (d : D) (ρ : Rho) : rx1 (some (d, ρ)) = some (.rt d ρ) := of_eq_true (eq_self _)
def fx1 (f : Str) (i : Nat) (ρ : Rho) (o v : Option D) : Option Out := v.bind fun v => o.bind fun o => (Mj f o v).map fun o' => .nx (ρ.set i (.ow o'))
theorem Bt (f : Str) (i : Nat) (fe : FE) (ρ : Rho) : fldS f i fe ρ = fx1 f i ρ (getW ρ[i]?) (fe ρ) := of_eq_true (eq_self _)
theorem BZ (f : Str) (i : Nat) (ρ : Rho) (o v : D) : fx1 f i ρ (some o) (some v) = (Mj f o v).map fun o' => .nx (ρ.set i (.ow o')) := of_eq_true (eq_self _)
def qx1 (c : Str) (g : List D → Option (D × D)) (ds : Option (List D)) : Option D := ds.bind fun ds => (g (.ob c [] :: ds)).bind fun r => match r.1 with | .non => some r.2 | _ => none
def qx2 (r : Option (D × D)) : Option D := r.bind fun r => match r.1 with | .non => some r.2 | _ => none
theorem Ci (c : Str) (g : List D → Option (D × D)) (fs : FA) (ρ : Rho) : mkF c g fs ρ = qx1 c g (fs ρ) := of_eq_true (eq_self _)
theorem Bu (c : Str) (g : List D → Option (D × D)) (ds : List D) : qx1 c g (some ds) = qx2 (g (.ob c [] :: ds)) := of_eq_true (eq_self _)
theorem Bv (o : D) : qx2 (some (.non, o)) = some o := of_eq_true (eq_self _)
def XH (o : Option Out) : Option (D × D) := match o with | some (.rt d ρ) => endS d ρ | some (.nx ρ) => endS .non ρ | _ => none
theorem Bw {n np : Nat} {b : FS} {ds : List D} (h : ds.length = np) : runS n np b ds = XH (b (Hy n ds)) := by
 unfold runS; rw [if_pos h]; rfl
theorem Aq (n : Nat) (so : D) (ds : List D) : Hy n (so :: ds) = .ow so :: (ds.map .fz ++ List.replicate (n - (ds.length + 1)) .un) := of_eq_true (eq_self _)
theorem Ba (d so : D) (ρ : Rho) : XH (some (.rt d (.ow so :: ρ))) = some (d, so) := of_eq_true (eq_self _)
theorem Bb (so : D) (ρ : Rho) : XH (some (.nx (.ow so :: ρ))) = some (.non, so) := of_eq_true (eq_self _)
end PV
namespace L2
open PySem PySem.Spec PyProof.Rows
def clOf (cells : List (Str × Addr)) : List (Str × NameKind) → List (Str × Addr) → List (Str × Addr)
 | [], cs => cs
 | y :: r, cs => if y.2 == .free then clOf cells r ((y.1, (cells.lookup y.1).getD 0) :: cs) else clOf cells r cs
theorem Oh {cells : List (Str × Addr)} {x : Str} {c : Addr} : ∀ {names : List (Str × NameKind)} {cs : List (Str × Addr)}, (∀ y ∈ names, y.2 = .free → ∃ c, cells.lookup y.1 = some c) →
  (clOf cells names cs).lookup x = some c → cs.lookup x = some c ∨ cells.lookup x = some c
 | [], _, _, h => .inl h
 | y :: r, cs, hf, h => by
  unfold clOf at h
  split at h
  ·rename_i hk
   have hk' : y.2 = .free := by simpa using hk
   obtain ⟨c', hc⟩ := hf y List.mem_cons_self hk'
   rcases Oh (fun z hz => hf z (List.mem_cons_of_mem _ hz)) h with q | q
   ·rw [List.lookup_cons] at q
    split at q
    ·rename_i e
     have e' : x = y.1 := by simpa using e
     rw [hc] at q
     subst e'
     right
     rw [hc]; simpa using q
    ·exact .inl q
   ·exact .inr q
  ·exact Oh (fun z hz => hf z (List.mem_cons_of_mem _ hz)) h
theorem Ls {cells : List (Str × Addr)} {x : Str} : ∀ {names : List (Str × NameKind)} {cs : List (Str × Addr)}, (∃ c, cs.lookup x = some c) → ∃ c, (clOf cells names cs).lookup x = some c
 | [], _, h => h
 | y :: r, cs, h => by
  unfold clOf
  split
  ·apply Ls
   rw [List.lookup_cons]
   split
   ·exact ⟨_, rfl⟩
   ·exact h
  ·exact Ls h
theorem JZ {cells : List (Str × Addr)} {x : Str} : ∀ {names : List (Str × NameKind)} {cs : List (Str × Addr)}, (x, NameKind.free) ∈ names → ∃ c, (clOf cells names cs).lookup x = some c
 | [], _, h => by cases h
 | y :: r, cs, h => by
  unfold clOf
  rcases List.mem_cons.mp h with e | h
  ·subst e
   rw [if_pos (by rfl)]
   apply Ls
   rw [List.lookup_cons]
   simp
  ·split
   ·exact JZ h
   ·exact JZ h
theorem Vj {env : Env} : ∀ (names : List (Str × NameKind)) (cs : List (Str × Addr)), (∀ y ∈ names, y.2 = .free → ∃ c, env.cells.lookup y.1 = some c) →
  (forIn names cs (fun x r => match x with
   | (name, kind) => if (kind == NameKind.free) = true then do let a ← cellOf env name; pure (ForInStep.yield ((name, a) :: r)) else pure (ForInStep.yield r)) : Sem (List (Str × Addr))) = pure (clOf env.cells names cs)
 | [], _, _ => rfl
 | (n, k) :: r, cs, hf => by
  have ih := fun cs => Vj r cs (fun z hz => hf z (List.mem_cons_of_mem _ hz))
  rw [List.forIn_cons]
  by_cases hk : (k == NameKind.free) = true
  ·obtain ⟨c, hc⟩ := hf (n, k) List.mem_cons_self (by simpa using hk)
   have hc' : env.cells.lookup n = some c := hc
   have e : cellOf env n = pure c := by unfold cellOf; rw [hc']
   simp only [hk, if_true, e]
   show (forIn r ((n, c) :: cs) _ : Sem _) = _
   rw [ih]
   conv => rhs; unfold clOf
   simp only [hk, if_true, hc', Option.getD_some]
  ·simp only [hk, if_false]
   show (forIn r cs _ : Sem _) = _
   rw [ih]
   conv => rhs; unfold clOf
   simp only [hk, if_false]
   rfl
theorem J1 {scope : Scope} {env : Env} (hf : ∀ y ∈ scope.names, y.2 = .free → ∃ c, env.cells.lookup y.1 = some c) : closureFor scope env = pure (clOf env.cells scope.names []) := by
 have h := Vj (env := env) scope.names [] hf
 unfold closureFor
 show ((forIn scope.names [] _ : Sem _) >>= fun r => pure r) = _
 exact (congrArg (fun m => m >>= fun r => pure r) h)
theorem GK {env : Env} {x : Str} {k : NameKind} : ∀ {names : List (Str × NameKind)}, (names.map fun (n, k) => if (k == NameKind.free && env.scope.kind == .function && env.kindOf n == some .cell) then (n, NameKind.cell) else (n, k)).lookup x = some k →
  ∃ k', (x, k') ∈ names ∧ (k' = k ∨ (k' = .free ∧ k = .cell))
 | [], h => by simp at h
 | (n, k0) :: r, h => by
  rw [List.map_cons] at h
  have ih := @GK env x k r
  by_cases hc : (k0 == NameKind.free && env.scope.kind == .function && env.kindOf n == some .cell) = true
  ·simp only [hc, if_true] at h
   rw [List.lookup_cons] at h
   split at h
   ·rename_i e
    have e' : x = n := by simpa using e
    subst e'
    have hk0 : k0 = .free := by
     rw [Bool.and_eq_true, Bool.and_eq_true] at hc
     simpa using hc.1.1
    cases h
    exact ⟨k0, List.mem_cons_self, .inr ⟨hk0, rfl⟩⟩
   ·obtain ⟨k', h1, h2⟩ := ih h
    exact ⟨k', List.mem_cons_of_mem _ h1, h2⟩
  ·simp only [hc, if_false] at h
   rw [List.lookup_cons] at h
   split at h
   ·rename_i e
    have e' : x = n := by simpa using e
    subst e'
    cases h
    exact ⟨k0, List.mem_cons_self, .inl rfl⟩
   ·obtain ⟨k', h1, h2⟩ := ih h
    exact ⟨k', List.mem_cons_of_mem _ h1, h2⟩
def Es (t : Str) (N : List Str) : List Str := N.map fun y => if y = t then Str.empty else y
def Gr (X : Cx) (scope : Scope) (t : Str) (s2 : Shared) (H2 : Hp) (fp : List Addr) : Cx :=
 { X with N := Es t X.N ++ [t], s₀ := s2, H₀ := H2, env := compEnvC scope (clOf X.env.cells scope.names []) (s2.heap.objs.size + 1) X.env, outer := X.stack, ex := fp, fn := fun _ => false, pn := [], xe := fun _ _ => False }
structure CompOk (X : Cx) (scope : Scope) (t : Str) : Prop where
 nocell : ∀ y ∈ scope.names, y.2 ≠ .cell
 kind : scope.kind = .function
 names : ∀ y ∈ scope.names, y.2 = .local → scope.names.lookup y.1 = some .local
 tl : scope.names.lookup t = some .local
 loc : ∀ y ∈ scope.names, y.2 = .local → y.1 = t ∨ y.1 ∉ X.N
 fre : ∀ y ∈ scope.names, y.2 = .free → X.env.kindOf y.1 = some .cell ∨ X.env.kindOf y.1 = some .free
 emp : ∀ y ∈ scope.names, y.1 ≠ Str.empty
 nd : (Es t X.N ++ [t]).Nodup
section
variable {X : Cx} {scope : Scope} {t : Str}
theorem CompOk.cells (c : CompOk X scope t) (ok : X.Ok) : ∀ y ∈ scope.names, y.2 = .free → ∃ c, X.env.cells.lookup y.1 = some c := fun y hy hf => ok.has y.1 (c.fre y hy hf)
theorem CompOk.sub (c : CompOk X scope t) (ok : X.Ok) {x : Str} {a : Addr} (h : (clOf X.env.cells scope.names []).lookup x = some a) : X.env.cells.lookup x = some a := by
 rcases Oh (c.cells ok) h with q | q
 ·simp at q
 ·exact q
theorem CompOk.inv {pins : List (Addr × Obj)} {σ : St} {H : Hp} {s : Shared} {fp : List Addr} {h1 : Heap} {tk : Nat} (c : CompOk X scope t) (I : Inv X pins σ H s) (hf : ∀ b ∈ fp, FpOk X pins H b) (ho : ∀ b ∈ fp, ∃ o, s.heap.get? b = some o)
  (hns : h1.Ns (s.heap.objs.size + 1) (fun _ => none)) (kp : ∀ b o, s.heap.get? b = some o → h1.get? b = some o) (hacc : h1.get? s.heap.objs.size = some { cls := .type "list", data := .seq #[] }) :
  Inv (Gr X scope t s H fp) [] (σ ++ [none]) (upd H s.heap.objs.size (.lst [])) { s with heap := h1, toks := tk } := by
 have lt_of : ∀ b o, s.heap.get? b = some o → b < s.heap.objs.size := fun b o e => Heap.lt_size e
 have ok' : (Gr X scope t s H fp).Ok := by
  refine ⟨I.ok.mod, c.kind, I.ok.glob, I.ok.blt, Nat.le_succ _, fun x y a h1 h2 => I.ok.inj x y a (c.sub I.ok h1) (c.sub I.ok h2), fun x hx => ?_, fun x a h _ => absurd (show false = true from h) Bool.false_ne_true, I.ok.hd, I.ok.frames, .inl rfl, fun b hb => ⟨?_, fun x a h => ?_⟩, I.bs, Nat.le_trans I.ok.bsz I.sz, fun b o e hb => ?_, fun b hb hs => ?_, I.stack, I.stkFree⟩
  ·have hx' : (relabel scope X.env).names.lookup x = some .cell ∨ (relabel scope X.env).names.lookup x = some .free := hx
   have go : ∀ k, (relabel scope X.env).names.lookup x = some k → (k = .cell ∨ k = .free) → (x, NameKind.free) ∈ scope.names := fun k hk hkk => by
    obtain ⟨k', m, e⟩ := GK hk
    rcases e with e | ⟨e, _⟩
    ·subst e
     rcases hkk with z | z
     ·exact absurd z (c.nocell _ m)
     ·rw [← z]; exact m
    ·rw [← e]; exact m
   rcases hx' with h | h
   ·exact JZ (go _ h (.inl rfl))
   ·exact JZ (go _ h (.inr rfl))
  ·obtain ⟨o, e⟩ := ho b hb
   exact Nat.ne_of_lt (Nat.lt_succ_of_lt (lt_of b o e))
  ·exact (hf b hb).2.2.2.2.1 x a (c.sub I.ok h)
  ·rcases (hf b hb).2.2.2.1 with z | z
   ·exact I.ok.noex b o e z
   ·exact absurd (Nat.lt_of_lt_of_le (Heap.lt_size e) (Nat.le_trans I.ok.bsz z)) (Nat.lt_irrefl _)
  ·rcases List.mem_cons.mp (I.stkSub b hs) with z | z
   ·exact (hf b hb).2.1 z
   ·exact (hf b hb).2.2.1 z
 have fr : H s.heap.objs.size = none := I.hok.fresh (Nat.le_refl _)
 have new : Ds X.prog X.w (upd H s.heap.objs.size (.lst [])) h1 s.heap.objs.size (.lst []) := ⟨Nat.zero_le _, [], 0, .nil, hacc⟩
 refine ⟨ok', rfl, I.bare, Un.laid kp (Nat.le_refl _) fr, ⟨_, hns, fun i x v e1 e2 e3 => ?_⟩, fun x a h => ?_, ?_, fun x a h => ?_, fun p hp => absurd (show p ∈ ([] : List (Addr × Obj)) from hp) (by simp), I.hok.laid kp (Nat.le_refl _) new, ?_⟩
 ·have e1' : (Es t X.N ++ [t])[i]? = some x := e1
  have hil : i < σ.length := by
   by_cases z : i < σ.length
   ·exact z
   ·rw [List.getElem?_append_right (by omega)] at e2
    cases q : i - σ.length with
    | zero => rw [q] at e2; cases e2
    | succ n => rw [q] at e2; simp at e2
  have e2' : σ[i]? = some (some v) := by rw [List.getElem?_append_left hil] at e2; exact e2
  have hN : i < X.N.length := by rw [← I.len]; exact hil
  have e1'' : (Es t X.N)[i]? = some x := by rw [List.getElem?_append_left (by unfold Es; rw [List.length_map]; exact hN)] at e1'; exact e1'
  unfold Es at e1''
  rw [List.getElem?_map] at e1''
  have e3' : (relabel scope X.env).names.lookup x = some .local ∨ (relabel scope X.env).names.lookup x = some .cell ∨ (relabel scope X.env).names.lookup x = some .free := e3
  have hin : ∃ k', (x, k') ∈ scope.names ∧ (k' = .local ∨ k' = .free) ∧ (k' = .free → (relabel scope X.env).names.lookup x = some .cell ∨ (relabel scope X.env).names.lookup x = some .free) := by
   rcases e3' with z | z | z
   ·obtain ⟨k', m, e⟩ := GK z
    rcases e with e | ⟨_, e⟩
    ·exact ⟨k', m, .inl e, fun q => by rw [q] at e; cases e⟩
    ·cases e
   ·obtain ⟨k', m, e⟩ := GK z
    rcases e with e | ⟨e, _⟩
    ·exact absurd e (c.nocell _ m)
    ·exact ⟨k', m, .inr e, fun _ => .inl z⟩
   ·obtain ⟨k', m, e⟩ := GK z
    rcases e with e | ⟨e, q⟩
    ·exact ⟨k', m, .inr e, fun _ => .inr z⟩
    ·cases q
  cases ey : X.N[i]? with
  | none => rw [ey] at e1''; cases e1''
  | some y =>
   rw [ey] at e1''
   have e1z : (if y = t then Str.empty else y) = x := Option.some.inj e1''
   obtain ⟨k', m, hk', hfr⟩ := hin
   by_cases hyt : y = t
   ·rw [if_pos hyt] at e1z
    exact absurd e1z.symm (c.emp _ m)
   ·rw [if_neg hyt] at e1z
    subst e1z
    rcases hk' with hk' | hk'
    ·rcases c.loc _ m hk' with z | z
     ·exact absurd z hyt
     ·exact absurd (List.mem_of_getElem? ey) z
    ·have hkk := c.fre _ m hk'
     have hkk' : X.env.kindOf y = some .cell ∨ X.env.kindOf y = some .free := hkk
     obtain ⟨mm, hn, hl⟩ := I.loc
     have hv : Vis X.env.scope y := by
      rcases hkk' with z | z
      ·exact .inr (.inl z)
      ·exact .inr (.inr z)
     obtain ⟨u, r, l⟩ := hl i y v ey e2' hv
     refine ⟨u, r, .inr ⟨hfr hk', ?_⟩⟩
     rcases l with ⟨kl, _⟩ | ⟨_, a, ea, hc⟩
     ·rcases hkk' with z | z
      ·rw [kl] at z; cases z
      ·rw [kl] at z; cases z
     ·rw [hk'] at m
      obtain ⟨a', ha'⟩ := JZ (cells := X.env.cells) (cs := []) m
      refine ⟨a', ha', ?_⟩
      have := c.sub I.ok ha'
      rw [ea] at this
      cases this
      obtain ⟨o, e, d⟩ := hc
      exact ⟨o, kp _ _ e, d⟩
 ·obtain ⟨v, o, e, d⟩ := I.cell x a (c.sub I.ok h)
  exact ⟨v, o, kp _ _ e, d⟩
 ·show upd H s.heap.objs.size (.lst []) (s.heap.objs.size + 1) = none
  rw [Bg (Nat.succ_ne_self _)]
  exact I.hok.fresh (Nat.le_succ _)
 ·have ha := c.sub I.ok h
  obtain ⟨v, o, e, d⟩ := I.cell x a ha
  rw [Bg (Nat.ne_of_lt (lt_of _ _ e))]
  exact I.freeC x a ha
 ·show (σ ++ [none]).length = (Es t X.N ++ [t]).length
  unfold Es
  rw [List.length_append, List.length_append, List.length_map, I.len]
  rfl
def XJ (wi : TI) (tc : TT) (te : TE) : TE := fun σ H Q => wi σ H fun J H1 => ∀ p, H1 p = none → ∃ W : Nat → Nat → List V → Hp → Prop, (∃ m, W 0 m [] (upd H1 p (.lst []))) ∧
 ∀ i m ys H, W i m ys H → (J.stop i H ∧ Q (.ref p) H) ∨ (J.go i H ∧ ∀ x H', J.yld i H x H' → tc (σ ++ [some x]) H' fun b H2 =>
  if b = true then te (σ ++ [some x]) H2 fun y H3 => H3 p = some (.lst ys) ∧ ys.length < sizeLine ∧ ∃ m', m' < m ∧ W (i + 1) m' (ys ++ [y]) (upd H3 p (.lst (ys ++ [y]))) else ∃ m', m' < m ∧ W (i + 1) m' ys H2)
def PTs (X : Cx) (ifs : List Expr) (tc : TT) : Prop :=
 ∀ (pins : List (Addr × Obj)) (s : Shared) (σ : St) (H : Hp) (Q : Bool → Hp → Prop), Inv X pins σ H s → tc σ H Q →
  wpAny (model X.prog X.w) X.A (forIn ifs true fun c r => if r = true then do let ok ← isTrue c X.env (eval c X.env); pure (ForInStep.yield ok) else pure (ForInStep.yield r)) (TP X pins σ Q) X.xe s
theorem ZP : PTs X [] (fun _ H Q => Q true H) := fun _ _ _ H _ I h => wpAny_tests_nil ⟨H, I, h⟩
theorem ZQ {e : Expr} {tc : TT} (h : PT X e tc) : PTs X [e] tc := fun pins s σ H Q I q => wpAny_tests_one (h pins s σ H Q I q)
variable {elt iter : Expr} {ifs : List Expr} {px pos : Pos} {wi : TI} {tc : TT} {te : TE}
theorem Oi {pins : List (Addr × Obj)} {s : Shared} {σ : St} {H : Hp} {Q : VK} {it : Addr} {fp : List Addr} {tn : Nat → Heap → Prop} {J : It} {E : Value → Shared → Prop} {RR : Value → Addr → Result → Shared → Prop} (c : CompOk X scope t) (hc : X.calm = true)
    (I : Inv X pins σ H s) (T : Turn X.prog X.w X.K (.Name t px) J fp it tn) (st0 : tn 0 s.heap) (hf : ∀ b ∈ fp, FpOk X pins H b)
    (hI : ∀ s2 H2 fp, PTs (Gr X scope t s2 H2 fp) ifs tc) (hE : ∀ s2 H2 fp, PE (Gr X scope t s2 H2 fp) elt te)
    (h : ∀ p, H p = none → ∃ W : Nat → Nat → List V → Hp → Prop, (∃ m, W 0 m [] (upd H p (.lst []))) ∧
      ∀ i m ys H, W i m ys H → (J.stop i H ∧ Q (.ref p) H) ∨ (J.go i H ∧ ∀ x H', J.yld i H x H' → tc (σ ++ [some x]) H' fun b H2 =>
        if b = true then te (σ ++ [some x]) H2 fun y H3 => H3 p = some (.lst ys) ∧ ys.length < sizeLine ∧ ∃ m', m' < m ∧ W (i + 1) m' (ys ++ [y]) (upd H3 p (.lst (ys ++ [y]))) else ∃ m', m' < m ∧ W (i + 1) m' ys H2))
    (hRR : ∀ p C s' H' m, Inv X pins σ H' s' → H' C = none → C ≠ X.env.locals → X.s₀.heap.objs.size ≤ C → (∀ x a, X.env.cells.lookup x = some a → a ≠ C) → (∀ q ∈ X.pn ++ pins, q.1 ≠ C) → s'.heap.Ns C m → Q (.ref p) H' → RR (.ref p) C (.ok .next) s') :
    wpAny (model X.prog X.w) X.A (newList []) (fun acc s₃ => wpAny (model X.prog X.w) X.A (newFunctionEnv scope X.env.globals (clOf X.env.cells scope.names []) [] X.env.qual none .none (some X.env)) (fun cenv s₄ =>
      codeAny (model X.prog X.w) X.A (.compStart (.ListComp elt [⟨.Name t px, iter, ifs, 0⟩] scope pos) 0 (.ref it) acc { cenv with scope := relabel scope X.env }) (RR acc cenv.locals) s₄) E s₃) E s := by
  refine wpAny_newObj_type (wpAny_newFunctionEnv c.nocell (by intro y hy; simp at hy) (fun h₁ hns₁ hsb₁ => ?_) c.kind)
  dsimp only at hns₁ hsb₁ ⊢
  generalize hH2 : s.heap.push { cls := .type "list", dict := none, data := .seq ([] : List Value).toArray } = G2 at hns₁ hsb₁ ⊢
  have hC : G2.objs.size = s.heap.objs.size + 1 := by rw [← hH2, Heap.size_push]
  rw [hC] at hns₁ hsb₁ ⊢
  have kp : ∀ b o, s.heap.get? b = some o → h₁.get? b = some o := fun b o e => hsb₁.extBut b o (Nat.ne_of_lt (Nat.lt_succ_of_lt (Heap.lt_size e))) (Heap.get?_push_of_some _ (hH2 ▸ Heap.get?_push_of_some _ e))
  have hacc : h₁.get? s.heap.objs.size = some { cls := .type "list", data := .seq #[] } := hsb₁.extBut _ _ (Nat.ne_of_lt (Nat.lt_succ_self _)) (Heap.get?_push_of_some _ (hH2 ▸ Heap.get?_push_size _ rfl))
  have hob : ∀ b ∈ fp, ∃ o, s.heap.get? b = some o := fun b hb => let ⟨o, e, _⟩ := T.obj 0 _ st0 b hb; ⟨o, e⟩
  have I0 := c.inv (fp := fp) (h1 := h₁) (tk := s.toks + ([] : List (Str × Value)).length) I hf hob (by simpa using hns₁) kp hacc
  have fr : H s.heap.objs.size = none := I.hok.fresh (Nat.le_refl _)
  obtain ⟨W, ⟨m0, w0⟩, turn⟩ := h _ fr
  have st1 : tn 0 h₁ := T.keep 0 _ _ st0 fun b _ o e => kp b o e
  generalize hX : Gr X scope t s H fp = Y at I0
  have hcY : Y.calm = true := by rw [← hX]; exact hc
  have stat : ∀ {H' : Hp}, (∀ b ∈ fp, H' b = none) → ∀ b ∈ fp, FpOk Y [] H' b := fun {H'} hn b hb => by
    obtain ⟨o, e⟩ := hob b hb
    refine ⟨hn b hb, ?_, ?_, .inl ?_, fun x a e' => ?_, fun p hp => ?_⟩
    · rw [← hX]; exact Nat.ne_of_lt (Nat.lt_succ_of_lt (Heap.lt_size e))
    · intro z
      exact I0.ok.exfs b (by rw [← hX]; exact hb) z
    · rw [← hX]; exact hb
    · exact (I0.ok.exf b (by rw [← hX]; exact hb)).2 x a e'
    · rw [← hX] at hp
      exact absurd (show p ∈ ([] : List (Addr × Obj)) from hp) (by simp)
  have fp0 : ∀ b ∈ fp, upd H s.heap.objs.size (.lst []) b = none := fun b hb => by
    obtain ⟨o, e⟩ := hob b hb
    rw [Bg (Nat.ne_of_lt (Heap.lt_size e))]
    exact (hf b hb).1
  have envY : Y.env = compEnvC scope (clOf X.env.cells scope.names []) (s.heap.objs.size + 1) X.env := by rw [← hX]; rfl
  have pY : Y.prog = X.prog := by rw [← hX]; rfl
  have wY : Y.w = X.w := by rw [← hX]; rfl
  have aY : Y.A = X.A := by rw [← hX]; rfl
  have kY : Y.K = X.K := by rw [← hX]; rfl
  have xY : Y.xe = fun _ _ => False := by rw [← hX]; rfl
  have nY : Y.N = Es t X.N ++ [t] := by rw [← hX]; rfl
  have lenN : (Es t X.N).length = σ.length := by unfold Es; rw [List.length_map, I.len]
  have hIY : PTs Y ifs tc := by rw [← hX]; exact hI s H fp
  have hEY : PE Y elt te := by rw [← hX]; exact hE s H fp
  have setE : ∀ (o : Option V) (v : V), (σ ++ [o]).set (Es t X.N).length (some v) = σ ++ [some v] := fun o v => by
    rw [lenN, List.set_append_right _ _ (Nat.le_refl _), Nat.sub_self]
    rfl
  have loop : ∀ s₃ : Shared, s₃ = { s with heap := h₁, toks := s.toks + ([] : List (Str × Value)).length } →
      codeAny (model X.prog X.w) X.A (.compLoop (.ListComp elt [⟨.Name t px, iter, ifs, 0⟩] scope pos) 0 (.ref it) (.ref s.heap.objs.size) (compEnvC scope (clOf X.env.cells scope.names []) (s.heap.objs.size + 1) X.env)) (RR (.ref s.heap.objs.size) (s.heap.objs.size + 1)) s₃ := by
    rintro s₃ rfl
    rw [← envY]
    refine codeAny_compLoop_tests (fun n s' => ∃ i ys o H', Inv Y [] (σ ++ [o]) H' s' ∧ tn i s'.heap ∧ (∀ b ∈ fp, H' b = none) ∧ W i n ys H') ?_ m0 ⟨0, [], none, _, I0, st1, fp0, w0⟩
    rintro n s3 ⟨i, ys, o, H3, I3, st3, fr3, w3⟩
    rcases turn i n ys H3 w3 with ⟨stop, qn⟩ | ⟨go, step⟩
    · have d := T.done Y pY wY kY hcY i [] s3 _ H3 (fun _ _ => False) I3 (stat fr3) st3 stop
      rw [aY] at d
      refine wpAny_mono d (fun r s4 ⟨hr, I4⟩ => ?_) fun _ _ z => z.elim
      subst hr
      have cN := I4.free
      have cN' : H3 (s.heap.objs.size + 1) = none := by rw [envY] at cN; exact cN
      have un := I4.base
      obtain ⟨m, hm, _⟩ := I4.loc
      have hm' : s4.heap.Ns (s.heap.objs.size + 1) m := by rw [envY] at hm; exact hm
      have un' : Un (frs X.stack) fp H H3 s.heap s4.heap := by rw [← hX] at un; exact un
      have os' : s4.os = s.os := by have := I4.os; rw [← hX] at this; exact this
      have hok' : HOk X.prog X.w H3 s4.heap := by have := I4.hok; rw [← hX] at this; exact this
      have bare' := I4.bare
      have IX : Inv X pins σ H3 s4 := I.call' os' un' hok' bare' fun b hb => ⟨(hf b hb).2.2.2.1, (hf b hb).2.1, (hf b hb).2.2.2.2.1, (hf b hb).2.2.2.2.2⟩
      refine hRR _ _ _ _ m IX cN' (Nat.ne_of_gt (Nat.lt_succ_of_lt I.lt)) (Nat.le_trans I.sz (Nat.le_succ _)) (fun x a e z => ?_) (fun q hq z => ?_) hm' qn
      · obtain ⟨v, oc, e', _⟩ := I.cell x a e
        have q2 : a < s.heap.objs.size := Heap.lt_size e'
        have z' : a = s.heap.objs.size + 1 := z
        exact absurd (z' ▸ q2) (Nat.not_lt.mpr (Nat.le_succ _))
      · have q2 : q.1 < s.heap.objs.size := Heap.lt_size (I.pin q hq).1
        have z' : q.1 = s.heap.objs.size + 1 := z
        exact absurd (z' ▸ q2) (Nat.not_lt.mpr (Nat.le_succ _))
    · have d := T.item Y pY wY kY hcY i [] s3 _ H3 (fun _ _ => False) I3 (stat fr3) st3 go
      rw [aY] at d
      refine wpAny_mono d (fun r s4 ⟨u, hr, h4⟩ => ?_) fun _ _ z => z.elim
      subst hr
      intro Γ pp hΓ
      obtain ⟨x, H5, I5, r5, y5, st5, fr5⟩ := (show ∃ x H', Inv Y [] (σ ++ [o]) H' s4 ∧ RelV x u ∧ J.yld i H3 x H' ∧ tn (i + 1) s4.heap ∧ ∀ b ∈ fp, H' b = none from h4 Γ pp hΓ)
      revert Γ pp
      show wpAny (model X.prog X.w) X.A _ _ _ s4
      have I5' := I5.pinned (stat fr5) (T.obj _ _ st5)
      have hiY : Y.N[(Es t X.N).length]? = some t := by rw [nY, List.getElem?_append_right (Nat.le_refl _), Nat.sub_self]; rfl
      have htl : Y.env.scope.names.lookup t = some .local := by rw [envY]; exact lookup_relabel_local c.tl
      refine wpAny_assign_Name (IV (i := (Es t X.N).length) (v := x) I5' (by rw [nY]; exact c.nd) hiY (.inl htl) r5 (fun s6 I6 => ?_) (.inr htl))
      rw [setE] at I6
      have q := step x H5 y5
      have tst := hIY _ s6 _ H5 _ I6 q
      rw [aY, pY, wY, xY] at tst
      refine wpAny_mono tst (fun b s7 ⟨H7, I7, q7⟩ => ?_) fun _ _ z => z.elim
      have back : ∀ {H8 : Hp} {s8 : Shared}, Inv Y ([] ++ N8 fp s4.heap) (σ ++ [some x]) H8 s8 → tn (i + 1) s8.heap ∧ ∀ b ∈ fp, H8 b = none := fun {H8 s8} I8 => by
        refine ⟨T.keep _ _ _ st5 fun b hb ob e => (I8.pin (b, ob) (List.mem_append_right _ (List.mem_append_right _ (Io hb e)))).1, fun b hb => ?_⟩
        obtain ⟨ob, e, d⟩ := T.obj _ _ st5 b hb
        exact (I8.pin (b, ob) (List.mem_append_right _ (List.mem_append_right _ (Io hb e)))).2.1
      cases b with
      | false =>
        rw [if_neg Bool.false_ne_true] at q7 ⊢
        obtain ⟨m', hm, w7⟩ := q7
        obtain ⟨t7, f7⟩ := back I7
        exact ⟨m', hm, i + 1, ys, some x, H7, I7.unpinned, t7, f7, w7⟩
      | true =>
        rw [if_pos rfl] at q7 ⊢
        have ev := hEY _ s7 _ H7 _ I7 q7
        rw [aY, pY, wY, xY] at ev
        refine wpAny_mono ev (fun y s8 ⟨yv, H8, I8, r8, hp8, hz8, m', hm, w8⟩ => ?_) fun _ _ z => z.elim
        have ap := WN (X := Y) _ s8 _ H8 (.ref s.heap.objs.size) [yv] (.ref s.heap.objs.size) [y] (fun _ H9 => H9 = upd H8 s.heap.objs.size (.lst (ys ++ [yv]))) I8 rfl (.cons r8 .nil) ⟨_, ys, yv, rfl, rfl, hp8, hz8, rfl⟩
        rw [aY, pY, wY, xY] at ap
        refine wpAny_mono ap (fun _ s9 ⟨_, H9, I9, _, e9⟩ => ?_) fun _ _ z => z.elim
        subst e9
        obtain ⟨t9, f9⟩ := back I9
        exact ⟨m', hm, i + 1, _, some x, _, I9.unpinned, t9, f9, w8⟩
  exact codeAny_compStart_list (loop _ rfl) (T.self X.A 0 _ _ _ st1 (loop _ rfl))
theorem ZR (c : CompOk X scope t) (hc : X.calm = true) (hi : PI X (.Name t px) iter wi) (hI : ∀ s2 H2 fp, PTs (Gr X scope t s2 H2 fp) ifs tc) (hE : ∀ s2 H2 fp, PE (Gr X scope t s2 H2 fp) elt te)
  (hs : ∀ x, foldedSetIterable iter X.env x = pure x := by intro _; rfl) : PE X (.ListComp elt [⟨.Name t px, iter, ifs, 0⟩] scope pos) (XJ wi tc te) := by
 intro pins s σ H Q I h
 rw [eval_ListComp]
 refine wpAny_comprehension_free (use := none) rfl hs (J1 (c.cells I.ok)) c.kind c.names (thn (hi pins s σ H _ I h) fun v s1 h1 => thn h1 fun itv s2 h2 => ?_)
 obtain ⟨it, fp, tn, J, H2, e, I2, T, st2, f2, q⟩ := h2
 subst e
 refine Oi (Q := Q) c hc I2 T st2 f2 hI hE q fun p C s' H' m I' n1 n2 n3 n4 n5 hm q' => ?_
 exact ⟨m, hm, fun h' sb => ⟨.ref p, H', I'.turned (t' := s'.toks) (fun b o hb e => (sb.2 b hb).trans e) n1 (Ne.symm (Ne.symm n2)) (.inr n3) n4 n5, rfl, q'⟩⟩
theorem ZS {i : Nat} {y : Str} {py spos : Pos} (c : CompOk X scope t) (hc : X.calm = true) (hN : X.N.Nodup) (hi' : X.N[i]? = some y) (hx : Loc X.env.scope y) (hi : PI X (.Name t px) iter wi) (hI : ∀ s2 H2 fp, PTs (Gr X scope t s2 H2 fp) ifs tc)
  (hE : ∀ s2 H2 fp, PE (Gr X scope t s2 H2 fp) elt te) (hsw : swapsWith (.ListComp elt [⟨.Name t px, iter, ifs, 0⟩] scope pos) (some (.Name y py)) spos.line X.env = pure true := by rfl)
  (hf : X.fn y = true ∨ X.env.scope.names.lookup y = some .local := by first | exact .inl rfl | exact .inr rfl | assumption) (hs : ∀ x, foldedSetIterable iter X.env x = pure x := by intro _; rfl) :
  PS X (.Assign [.Name y py] (.ListComp elt [⟨.Name t px, iter, ifs, 0⟩] scope pos) spos) (tAsg (XJ wi tc te) (IW i)) := by
 intro pins s σ H D I h
 rw [exec_Assign_Name_used _ _ _ _ hsw]
 refine wpAny_bind (wpAny_standAt (wpAny_bind ?_))
 show wpAny _ X.A (do let _ ← comprehension (.ListComp elt [⟨.Name t px, iter, ifs, 0⟩] scope pos) scope X.env _ (newList []) false (eval iter X.env) (some (assign (.Name y py) X.env))) _ _ s
 refine wpAny_bind (wpAny_mono (wpAny_comprehension_free (use := some (assign (.Name y py) X.env)) (Q := fun _ s' => SP X pins D .next s') rfl hs (J1 (c.cells I.ok)) c.kind c.names
  (thn (hi pins s σ H _ I h) fun v s1 h1 => thn h1 fun itv s2 h2 => ?_)) (fun _ s' hq => wpAny_pure (wpAny_pure hq)) fun _ _ e => e)
 obtain ⟨it, fp, tn, J, H2, e, I2, T, st2, f2, q⟩ := h2
 subst e
 refine Oi (Q := fun x H1 => IW i x σ H1 D.nx) c hc I2 T st2 f2 hI hE q fun p C s' H' m I' n1 n2 n3 n4 n5 hm q' => ?_
 show wpAny _ X.A (assign (.Name y py) X.env (.ref p)) _ _ _
 refine wpAny_assign_Name (Py (v := .ref p) I' hN hi' hx rfl (fun s3 I3 ⟨a, sb, ha⟩ => ?_) hf)
 have hCa : C ≠ a := by
  rcases ha with z | z
  ·rw [z]; exact n2
  ·exact Ne.symm (n4 _ _ z)
 exact ⟨m, hm.sameBut sb hCa, fun h' sb' => ⟨_, H', I3.turned (t' := s3.toks) (fun b o hb e => (sb'.2 b hb).trans e) n1 n2 (.inr n3) n4 n5, q'⟩⟩
end
end L2
namespace PV
open PySem PySem.Spec L2
open PyProof.Rows hiding St
structure Gx where
 K : PySem.W.Frag
 cl : Str → Option Addr
 xcl : Str → Option Addr := fun _ => none
 lent : Option Addr := none
theorem Ie {K : PySem.W.Frag} {H H' : Hp} {a : Addr} {xs : List V} (e : Same H H') (h : SqT K H a xs) : SqT K H' a xs := by
 rcases h with (h | ⟨o, h⟩) | h
 ·exact .inl (.inl (e _ _ h))
 ·exact .inl (.inr ⟨o, e _ _ h⟩)
 ·exact .inr h
theorem Et {H : Hp} {p : Addr} (h : H p = none) (o : HO) : Same H (upd H p o) := fun b u q => by rw [Bg (CT q h)]; exact q
def FsV (fs : List (Str × V)) (gs : List (Str × D)) : Prop := fs.map (fun p => (p.1, some p.2)) = gs.map fun p => (p.1, flV p.2)
inductive Rep (G : Gx) (H : Hp) : V → D → Prop
 | non : Rep G H .non .non
 | bl (b : Bool) : Rep G H (.bl b) (.bl b)
 | int (i : Int) : Rep G H (.int i) (.int i)
 | str (x : Str) : Rep G H (.str x) (.str x)
 | tup {a : Addr} {xs : List V} {ds : List D} : SqT G.K H a xs → xs.length = ds.length → (∀ (i : Nat) x d, xs[i]? = some x → ds[i]? = some d → Rep G H x d) → Rep G H (.ref a) (.tup ds)
 | lst {a : Addr} {xs : List V} {ds : List D} : SqL G.K H a xs → xs.length = ds.length → (∀ (i : Nat) x d, xs[i]? = some x → ds[i]? = some d → Rep G H x d) → Rep G H (.ref a) (.lst ds)
 | dk {a : Addr} {o : Obj} {kvs : List (Key × V)} {kds : List (Key × D)} : H a = some (.frz o (.dK kvs)) → kvs.map (·.1) = kds.map (·.1) → (∀ (i : Nat) x d, (kvs.map (·.2))[i]? = some x → (kds.map (·.2))[i]? = some d → Rep G H x d) → Rep G H (.ref a) (.dk kds)
 | dt {a : Addr} {o : Obj} {kvs : List (List Key × V)} {kds : List (List Key × D)} : H a = some (.frz o (.dT kvs)) → kvs.map (·.1) = kds.map (·.1) → (∀ (i : Nat) x d, (kvs.map (·.2))[i]? = some x → (kds.map (·.2))[i]? = some d → Rep G H x d) → Rep G H (.ref a) (.dt kds)
 | adr (a : Addr) : Rep G H (.ref a) (.adr a)
 | ob {a C dx : Addr} {c : Str} {fs : List (Str × V)} {gs : List (Str × D)} : G.cl c = some C → H a = some (.ins C dx fs) → fs.map (·.1) = gs.map (·.1) → (∀ (i : Nat) x d, (fs.map (·.2))[i]? = some x → (gs.map (·.2))[i]? = some d → Rep G H x d) → Rep G H (.ref a) (.ob c gs)
 | err {a C dx : Addr} {tb : Option Addr} {c : Str} {fs : List (Str × V)} {gs : List (Str × D)} : G.xcl c = some C → H a = some (EX.excO a C (some dx) tb) → H dx = some (.xd fs) → FsV fs gs → Rep G H (.ref a) (.err c gs)
def RepL (G : Gx) (H : Hp) (xs : List V) (ds : List D) : Prop := xs.length = ds.length ∧ ∀ (i : Nat) x d, xs[i]? = some x → ds[i]? = some d → Rep G H x d
theorem Rep.mono {G : Gx} {H H' : Hp} {v : V} {d : D} (r : Rep G H v d) (s : Same H H') : Rep G H' v d := by
 induction r with
 | non => exact .non
 | bl b => exact .bl b
 | int i => exact .int i
 | str x => exact .str x
 | tup h l _ ih => exact .tup (Ie s h) l ih
 | lst h l _ ih => exact .lst (s.seq h) l ih
 | dk h l _ ih => exact .dk (s _ _ h) l ih
 | dt h l _ ih => exact .dt (s _ _ h) l ih
 | adr a => exact .adr a
 | ob c h l _ ih => exact .ob c (s _ _ h) l ih
 | err c h q f => exact .err c (s _ _ h) (s _ _ q) f
theorem RepL.mono {G : Gx} {H H' : Hp} {xs : List V} {ds : List D} (r : RepL G H xs ds) (s : Same H H') : RepL G H' xs ds := ⟨r.1, fun i x d a b => (r.2 i x d a b).mono s⟩
theorem RepL.nil {G : Gx} {H : Hp} : RepL G H [] [] := ⟨rfl, fun i x d h => by simp at h⟩
theorem RepL.cons {G : Gx} {H : Hp} {x : V} {d : D} {xs : List V} {ds : List D} (r : Rep G H x d) (rs : RepL G H xs ds) : RepL G H (x :: xs) (d :: ds) :=
 ⟨by simp [rs.1], fun i y e h1 h2 => by
  cases i with
  | zero => simp at h1 h2; subst h1; subst h2; exact r
  | succ i => simp at h1 h2; exact rs.2 i y e h1 h2⟩
theorem RepL.uncons {G : Gx} {H : Hp} {xs : List V} {d : D} {ds : List D} (r : RepL G H xs (d :: ds)) : ∃ x ys, xs = x :: ys ∧ Rep G H x d ∧ RepL G H ys ds := by
 obtain ⟨l, h⟩ := r
 cases xs with
 | nil => simp at l
 | cons x ys => exact ⟨x, ys, rfl, h 0 x d rfl rfl, by simpa using l, fun i y e h1 h2 => h (i + 1) y e (by simpa using h1) (by simpa using h2)⟩
theorem RepL.nil_inv {G : Gx} {H : Hp} {xs : List V} (r : RepL G H xs []) : xs = [] := by
 have := r.1
 cases xs with
 | nil => rfl
 | cons x ys => simp at this
theorem RepL.append {G : Gx} {H : Hp} {xs ys : List V} {ds es : List D} (a : RepL G H xs ds) (b : RepL G H ys es) : RepL G H (xs ++ ys) (ds ++ es) := by
 refine ⟨by rw [List.length_append, List.length_append, a.1, b.1], fun i x d h1 h2 => ?_⟩
 by_cases hi : i < xs.length
 ·rw [List.getElem?_append_left hi] at h1
  rw [List.getElem?_append_left (by rw [← a.1]; exact hi)] at h2
  exact a.2 i x d h1 h2
 ·rw [List.getElem?_append_right (Nat.not_lt.mp hi)] at h1
  rw [List.getElem?_append_right (by rw [← a.1]; exact Nat.not_lt.mp hi), ← a.1] at h2
  exact b.2 _ x d h1 h2
theorem RepL.drop {G : Gx} {H : Hp} {xs : List V} {ds : List D} (a : RepL G H xs ds) (n : Nat) : RepL G H (xs.drop n) (ds.drop n) :=
 ⟨by rw [List.length_drop, List.length_drop, a.1], fun i x d h1 h2 => by rw [List.getElem?_drop] at h1 h2; exact a.2 _ x d h1 h2⟩
theorem RepL.take {G : Gx} {H : Hp} {xs : List V} {ds : List D} (a : RepL G H xs ds) (n : Nat) : RepL G H (xs.take n) (ds.take n) :=
 ⟨by rw [List.length_take, List.length_take, a.1], fun i x d h1 h2 => by
  rw [List.getElem?_take] at h1 h2
  split at h1
  ·rename_i hlt
   rw [if_pos hlt] at h2
   exact a.2 _ x d h1 h2
  ·cases h1⟩
theorem RepL.get {G : Gx} {H : Hp} {xs : List V} {ds : List D} (a : RepL G H xs ds) {i : Nat} {d : D} (h : ds[i]? = some d) : ∃ x, xs[i]? = some x ∧ Rep G H x d := by
 have hi : i < ds.length := (List.getElem?_eq_some_iff.mp h).1
 have hi' : i < xs.length := by rw [a.1]; exact hi
 exact ⟨xs[i], by simp [hi'], a.2 i _ d (by simp [hi']) h⟩
theorem RepL.atI {G : Gx} {H : Hp} {xs : List V} {ds : List D} (a : RepL G H xs ds) {i : Int} {d : D} (h : L2.atI ds i = some d) : ∃ x, L2.atI xs i = some x ∧ Rep G H x d := by
 unfold L2.atI at h ⊢
 rw [← a.1] at h
 cases e : ixN xs.length i with
 | none => rw [e] at h; cases h
 | some j =>
  rw [e] at h
  obtain ⟨x, h1, h2⟩ := a.get (show ds[j]? = some d from h)
  exact ⟨x, h1, h2⟩
def hid (A : List Addr) (H : Hp) : Hp := fun b => if b ∈ A then none else H b
theorem DW {A : List Addr} {H H' : Hp} (s : Same H H') : Same (hid A H) (hid A H') := fun b o h => by
 unfold hid at h ⊢
 split at h
 ·cases h
 ·rename_i hb; rw [if_neg hb]; exact s b o h
theorem DQ {A : List Addr} {H : Hp} : Same (hid A H) H := fun b o h => by
 unfold hid at h
 split at h
 ·cases h
 ·exact h
theorem Ff {A B : List Addr} {H : Hp} (h : ∀ a ∈ A, a ∈ B) : Same (hid B H) (hid A H) := fun b o q => by
 unfold hid at q ⊢
 split at q
 ·cases q
 ·rename_i hb; rw [if_neg (fun z => hb (h b z))]; exact q
theorem Dt {A : List Addr} {H : Hp} {p : Addr} (h : p ∉ A) : hid A H p = H p := by unfold hid; rw [if_neg h]
theorem KY {A : List Addr} {H : Hp} {p : Addr} {o : HO} (h : p ∈ A) : hid A (upd H p o) = hid A H := by
 funext b
 unfold hid
 by_cases hb : b ∈ A
 ·rw [if_pos hb, if_pos hb]
 ·rw [if_neg hb, if_neg hb, Bg (fun e : b = p => hb (by rw [e]; exact h))]
def Top (G : Gx) (A : List Addr) (H : Hp) (a : Addr) : D → Prop
 | .lst ds => ∃ xs, H a = some (.lst xs) ∧ RepL G (hid A H) xs ds
 | .dk kds => ∃ kvs, H a = some (.dK kvs) ∧ kvs.map (·.1) = kds.map (·.1) ∧ RepL G (hid A H) (kvs.map (·.2)) (kds.map (·.2))
 | .dt kds => ∃ kvs, H a = some (.dT kvs) ∧ kvs.map (·.1) = kds.map (·.1) ∧ RepL G (hid A H) (kvs.map (·.2)) (kds.map (·.2))
 | .ob c gs => ∃ C dx fs, H a = some (.ins C dx fs) ∧ (G.cl c = some C ∧ fs.map (·.1) = gs.map (·.1)) ∧ RepL G (hid A H) (fs.map (·.2)) (gs.map (·.2))
 | _ => False
theorem Top.mono {G : Gx} {A : List Addr} {H H' : Hp} {a : Addr} {d : D} (t : Top G A H a d) (s : Same H H') : Top G A H' a d := by
 cases d with
 | lst ds => obtain ⟨xs, h, r⟩ := t; exact ⟨xs, s _ _ h, r.mono (DW s)⟩
 | dk ds => obtain ⟨xs, h, k, r⟩ := t; exact ⟨xs, s _ _ h, k, r.mono (DW s)⟩
 | dt ds => obtain ⟨xs, h, k, r⟩ := t; exact ⟨xs, s _ _ h, k, r.mono (DW s)⟩
 | ob c gs => obtain ⟨C, dx, xs, h, k, r⟩ := t; exact ⟨C, dx, xs, s _ _ h, k, r.mono (DW s)⟩
 | _ => exact t.elim
structure Nt (x : Option HO) : Prop where
 ne : x ≠ none
 tup : ∀ xs, x ≠ some (.tup xs)
theorem Nt.mono {x y : Option HO} (h : Nt x) (k : ∀ u, x = some u → y = some u) : Nt y := by
 cases x with
 | none => exact absurd rfl h.ne
 | some u => rw [k u rfl]; exact h
theorem Nt.lst {xs : List V} : Nt (some (.lst xs)) := ⟨fun z => (nomatch z), fun _ z => (nomatch z)⟩
theorem Nt.dK {xs : List (Key × V)} : Nt (some (.dK xs)) := ⟨fun z => (nomatch z), fun _ z => (nomatch z)⟩
theorem Nt.dT {xs : List (List Key × V)} : Nt (some (.dT xs)) := ⟨fun z => (nomatch z), fun _ z => (nomatch z)⟩
theorem Nt.ins {C dx : Addr} {xs : List (Str × V)} : Nt (some (.ins C dx xs)) := ⟨fun z => (nomatch z), fun _ z => (nomatch z)⟩
structure Okp (G : Gx) (A : List Addr) (σ : St) (H : Hp) (ρ : Rho) : Prop where
 len : σ.length = ρ.length
 live : ∀ a ∈ A, Nt (H a)
 fz : ∀ (i : Nat) (d : D), ρ[i]? = some (.fz d) → ∃ v, σ[i]? = some (some v) ∧ Rep G (hid A H) v d
 ow : ∀ (i : Nat) (d : D), ρ[i]? = some (.ow d) → ∃ a, σ[i]? = some (some (.ref a)) ∧ a ∈ A ∧ Top G A H a d
 inj : ∀ (i j : Nat) (d e : D) (a : Addr), ρ[i]? = some (.ow d) → ρ[j]? = some (.ow e) → σ[i]? = some (some (.ref a)) → σ[j]? = some (some (.ref a)) → i = j
theorem Okp.mono {G : Gx} {A : List Addr} {σ : St} {H H' : Hp} {ρ : Rho} (o : Okp G A σ H ρ) (s : Same H H') : Okp G A σ H' ρ :=
 ⟨o.len, fun a ha => (o.live a ha).mono fun u e => s _ _ e,
  fun i d h => let ⟨v, h1, h2⟩ := o.fz i d h; ⟨v, h1, h2.mono (DW s)⟩, fun i d h => let ⟨a, h1, h2, h3⟩ := o.ow i d h; ⟨a, h1, h2, h3.mono s⟩, o.inj⟩
def RepT (G : Gx) (A : List Addr) (H : Hp) (v : V) (d : D) : Prop := Rep G (hid A H) v d ∨ ∃ a, v = .ref a ∧ Top G A H a d
theorem RepT.mono {G : Gx} {A : List Addr} {H H' : Hp} {v : V} {d : D} (r : RepT G A H v d) (s : Same H H') : RepT G A H' v d := by
 rcases r with r | ⟨a, e, r⟩
 ·exact .inl (r.mono (DW s))
 ·exact .inr ⟨a, e, r.mono s⟩
theorem RepT.lst {G : Gx} {A : List Addr} {H : Hp} {v : V} {ds : List D} (r : RepT G A H v (.lst ds)) : ∃ a xs, v = .ref a ∧ SqL G.K H a xs ∧ RepL G (hid A H) xs ds := by
 rcases r with r | ⟨a, e, xs, h, r⟩
 ·cases r with
  | lst h l r => exact ⟨_, _, rfl, DQ.seq h, l, r⟩
 ·exact ⟨a, xs, e, .of h, r⟩
theorem RepT.tup {G : Gx} {A : List Addr} {H : Hp} {v : V} {ds : List D} (r : RepT G A H v (.tup ds)) : ∃ a xs, v = .ref a ∧ SqT G.K H a xs ∧ RepL G (hid A H) xs ds := by
 rcases r with r | ⟨a, e, r⟩
 ·cases r with
  | tup h l r => exact ⟨_, _, rfl, Ie DQ h, l, r⟩
 ·exact r.elim
theorem RepT.int {G : Gx} {A : List Addr} {H : Hp} {v : V} {i : Int} (r : RepT G A H v (.int i)) : v = .int i := by
 rcases r with r | ⟨a, e, r⟩
 ·cases r; rfl
 ·exact r.elim
theorem RepT.str {G : Gx} {A : List Addr} {H : Hp} {v : V} {i : Str} (r : RepT G A H v (.str i)) : v = .str i := by
 rcases r with r | ⟨a, e, r⟩
 ·cases r; rfl
 ·exact r.elim
theorem RepT.bl {G : Gx} {A : List Addr} {H : Hp} {v : V} {i : Bool} (r : RepT G A H v (.bl i)) : v = .bl i := by
 rcases r with r | ⟨a, e, r⟩
 ·cases r; rfl
 ·exact r.elim
theorem RepT.non {G : Gx} {A : List Addr} {H : Hp} {v : V} (r : RepT G A H v .non) : v = .non := by
 rcases r with r | ⟨a, e, r⟩
 ·cases r; rfl
 ·exact r.elim
theorem RepT.dk {G : Gx} {A : List Addr} {H : Hp} {v : V} {kds : List (Key × D)} (r : RepT G A H v (.dk kds)) : ∃ a kvs, v = .ref a ∧ Rd H a (.dK kvs) ∧ kvs.map (·.1) = kds.map (·.1) ∧ RepL G (hid A H) (kvs.map (·.2)) (kds.map (·.2)) := by
 rcases r with r | ⟨a, e, kvs, h, k, r⟩
 ·cases r with
  | dk h k r =>
   refine ⟨_, _, rfl, .inr ⟨_, DQ _ _ h⟩, k, ?_, r⟩
   have := congrArg List.length k
   rw [List.length_map, List.length_map] at this ⊢
   exact this
 ·exact ⟨a, kvs, e, .of h, k, r⟩
theorem QT {A : List Addr} {H : Hp} {p : Addr} (live : ∀ a ∈ A, Nt (H a)) (hp : H p = none) (o : HO) : hid A (upd H p o) p = some o := by
 rw [Dt (fun z => (live p z).ne hp), Cj]
theorem Ja {G : Gx} {A : List Addr} {H : Hp} {p : Addr} {xs : List V} {ds : List D} (live : ∀ a ∈ A, Nt (H a)) (hp : H p = none) (r : RepL G (hid A H) xs ds) : Rep G (hid A (upd H p (.lst xs))) (.ref p) (.lst ds) :=
 let q := r.mono (DW (Et hp (.lst xs))); .lst (.of (QT live hp _)) q.1 q.2
theorem Jb {G : Gx} {A : List Addr} {H : Hp} {p : Addr} {xs : List V} {ds : List D} (live : ∀ a ∈ A, Nt (H a)) (hp : H p = none) (r : RepL G (hid A H) xs ds) : Rep G (hid A (upd H p (.tup xs))) (.ref p) (.tup ds) :=
 let q := r.mono (DW (Et hp (.tup xs))); .tup (.of (QT live hp _)) q.1 q.2
def tF (G : Gx) (A : List Addr) (f : FE) : TE := fun σ H Q => ∃ ρ d, Okp G A σ H ρ ∧ f ρ = some d ∧ ∀ v H', Same H H' → Rep G (hid A H') v d → Q v H'
def tT (G : Gx) (A : List Addr) (f : FE) : TE := fun σ H Q => ∃ ρ d, Okp G A σ H ρ ∧ f ρ = some d ∧ ∀ v H', Same H H' → RepT G A H' v d → Q v H'
def PF (X : Cx) (G : Gx) (e : Expr) (f : FE) : Prop := ∀ ⦃A⦄, PE X e (tF G A f)
def PU (X : Cx) (G : Gx) (e : Expr) (f : FE) : Prop := ∀ ⦃A⦄, PE X e (tT G A f)
theorem Ey {X : Cx} {e : Expr} {t t' : TE} (h : PE X e t) (w : ∀ σ H Q, t' σ H Q → t σ H Q) : PE X e t' := fun pins s σ H Q I q => h pins s σ H Q I (w σ H Q q)
theorem PF.pu {X : Cx} {G : Gx} {e : Expr} {f : FE} (h : PF X G e f) : PU X G e f := fun A => Ey (@h A) fun σ H Q ⟨ρ, d, o, e, k⟩ => ⟨ρ, d, o, e, fun v H' s r => k v H' s (.inl r)⟩
def tFA (G : Gx) (A : List Addr) (f : FA) : TA := fun σ H Q => ∃ ρ ds, Okp G A σ H ρ ∧ f ρ = some ds ∧ ∀ vs H', Same H H' → RepL G (hid A H') vs ds → Q vs H'
def PFA (X : Cx) (G : Gx) (es : List Expr) (f : FA) : Prop := ∀ ⦃A⦄, PA X es (tFA G A f)
theorem bG {X : Cx} {e : List Expr} {t t' : TA} (h : PA X e t) (w : ∀ σ H Q, t' σ H Q → t σ H Q) : PA X e t' := fun pos pins s σ H Q I q => h pos pins s σ H Q I (w σ H Q q)
def tFT (G : Gx) (A : List Addr) (f : FT) : TT := fun σ H Q => ∃ ρ b, Okp G A σ H ρ ∧ f ρ = some b ∧ ∀ H', Same H H' → Q b H'
def PFT (X : Cx) (G : Gx) (e : Expr) (f : FT) : Prop := ∀ ⦃A⦄, PT X e (tFT G A f)
def PFW (X : Cx) (G : Gx) (e : Expr) (f : FT) : Prop := ∀ ⦃A⦄, PW X e (tFT G A f)
theorem Vk {X : Cx} {e : Expr} {t t' : TT} (h : PT X e t) (w : ∀ σ H Q, t' σ H Q → t σ H Q) : PT X e t' := fun pins s σ H Q I q => h pins s σ H Q I (w σ H Q q)
theorem bH {X : Cx} {e : Expr} {t t' : TT} (h : PW X e t) (w : ∀ σ H Q, t' σ H Q → t σ H Q) : PW X e t' := fun wh pins s σ H Q I q => h wh pins s σ H Q I (w σ H Q q)
end PV
namespace PV
open PySem PySem.Spec L2
open PyProof.Rows hiding St
section
variable {X : Cx} {G : Gx} {a b c : Expr} {fa fb fc : FE} {pos : Pos}
theorem dD (i : Nat) {x : Str} (h : PE X (.Name x pos) (tVar i)) : PF X G (.Name x pos) (vF i) := fun A => Ey h fun σ H Q ⟨ρ, d, o, e, k⟩ => by
 unfold vF at e
 split at e
 ·rename_i d' h'
  cases e
  obtain ⟨v, h1, h2⟩ := o.fz i _ h'
  exact ⟨v, h1, k v H (Same.refl H) h2⟩
 ·cases e
theorem dF (i : Nat) {x : Str} (h : PE X (.Name x pos) (tVar i)) : PU X G (.Name x pos) (vU i) := fun A => Ey h fun σ H Q ⟨ρ, d, o, e, k⟩ => by
 unfold vU at e
 split at e
 ·rename_i d' h'
  cases e
  obtain ⟨v, h1, h2⟩ := o.fz i _ h'
  exact ⟨v, h1, k v H (Same.refl H) (.inl h2)⟩
 ·rename_i d' h'
  cases e
  obtain ⟨p, h1, _, h2⟩ := o.ow i _ h'
  exact ⟨.ref p, h1, k _ H (Same.refl H) (.inr ⟨p, rfl, h2⟩)⟩
 ·cases e
theorem G5 {v : V} {d : D} (h : PE X a (tC v)) (r : Rep G (fun _ => none) v d) : PF X G a (kF d) := fun A => Ey h fun σ H Q ⟨ρ, d', o, e, k⟩ => by
 cases e
 exact k v H (Same.refl H) (r.mono fun b o z => nomatch z)
theorem RX {i j} : PF X G (.Constant (.int i) j pos) (kF (.int i)) := G5 b_ (.int i)
theorem bI {b j} : PF X G (.Constant (.bool b) j pos) (kF (.bl b)) := G5 fV (.bl b)
theorem HH {j} : PF X G (.Constant .none j pos) (kF .non) := G5 cA .non
theorem HJ {x j} : PF X G (.Constant (.str x) j pos) (kF (.str x)) := G5 cB (.str x)
def GP (G : Gx) (r : R2) (g : D → D → Option D) : Prop := ∀ (A : List Addr) (H : Hp) (x y : V) (dx dy d : D) (Q : VK), (∀ a ∈ A, Nt (H a)) → RepT G A H x dx → RepT G A H y dy → g dx dy = some d → (∀ v H', Same H H' → Rep G (hid A H') v d → Q v H') → r x y H Q
theorem Vl {g : D → D → Option D} {ρ : Rho} {d : D} (h : bF g fa fb ρ = some d) : ∃ x y, fa ρ = some x ∧ fb ρ = some y ∧ g x y = some d := by
 unfold bF at h
 cases e1 : fa ρ with
 | none => rw [e1] at h; cases h
 | some x =>
  rw [e1] at h
  cases e2 : fb ρ with
  | none => simp [e2] at h
  | some y => simp [e2] at h; exact ⟨x, y, rfl, rfl, h⟩
theorem RZ {r : R2} {g : D → D → Option D} (s : GP G r g) {A : List Addr} {σ : St} {H : Hp} {Q : VK} (h : tF G A (bF g fa fb) σ H Q) : tOp r (tT G A fa) (tT G A fb) σ H Q := by
 obtain ⟨ρ, d, o, e, k⟩ := h
 obtain ⟨x, y, e1, e2, e3⟩ := Vl e
 exact ⟨ρ, x, o, e1, fun v H1 s1 r1 => ⟨ρ, y, o.mono s1, e2, fun u H2 s2 r2 => s A H2 v u x y d Q ((o.mono s1).mono s2).live (r1.mono s2) r2 e3 fun w H3 s3 r3 => k w H3 (s1.trans (s2.trans s3)) r3⟩⟩
theorem Lw {op : Operator} {r : R2} {g : D → D → Option D} (ho : OpR X (binaryOp op) r) (s : GP G r g) (ha : PU X G a fa) (hb : PU X G b fb) : PF X G (.BinOp a op b pos) (bF g fa fb) :=
 fun A => Ey (gC ho (@ha A) (@hb A)) fun _ _ _ h => RZ s h
theorem Lx {op : CmpOp} {r : R2} {g : D → D → Option D} (ho : OpR X (compareOp op) r) (s : GP G r g) (ha : PU X G a fa) (hb : PU X G b fb) (hm : behindInMarks op b = false) : PF X G (.Compare a [op] [b] pos) (bF g fa fb) :=
 fun A => Ey (Yz ho (@ha A) (@hb A) hm) fun _ _ _ h => RZ s h
theorem Tg {f : FE} {ρ : Rho} {b : Bool} (h : blF f ρ = some b) : f ρ = some (.bl b) := by
 unfold blF at h
 split at h
 ·rename_i e; cases h; exact e
 ·cases h
theorem Gw {op : CmpOp} {r : R2} {g : D → D → Option D} (ho : OpR X (compareOp op) r) (s : GP G r g) (ha : PU X G a fa) (hb : PU X G b fb) (hm : behindInMarks op b = false) : PFT X G (.Compare a [op] [b] pos) (blF (bF g fa fb)) :=
 fun A => Vk (Y0 ho (@ha A) (@hb A) hm) fun σ H Q ⟨ρ, d, o, e, k⟩ => RZ s ⟨ρ, .bl d, o, Tg e, fun v H' s' r' => by cases r'; exact ⟨d, rfl, k H' s'⟩⟩
theorem Th {g : Int → Int → Option D} {x y d : D} (h : iiD g x y = some d) : ∃ i j, x = .int i ∧ y = .int j ∧ g i j = some d := by
 unfold iiD at h
 split at h
 ·exact ⟨_, _, rfl, rfl, h⟩
 ·cases h
theorem Ul {g : Int → Int → V} {g' : Int → Int → D} (e : ∀ i j H, Rep G H (g i j) (g' i j)) : GP G (rI0 g) (iiD fun i j => some (g' i j)) := by
 intro A H x y dx dy d Q lv rx ry h k
 obtain ⟨i, j, rfl, rfl, h⟩ := Th h
 cases h
 exact ⟨i, j, rx.int, ry.int, k _ H (Same.refl H) (e i j _)⟩
theorem Ra {C : Int → Int → Prop} {g : Int → Int → V} {g' : Int → Int → D} [∀ i j, Decidable (C i j)] (e : ∀ i j H, Rep G H (g i j) (g' i j)) : GP G (rI C g) (iiD fun i j => if C i j then some (g' i j) else none) := by
 intro A H x y dx dy d Q lv rx ry h k
 obtain ⟨i, j, rfl, rfl, h'⟩ := Th h
 by_cases hc : C i j
 ·rw [if_pos hc] at h'
  cases h'
  exact ⟨i, j, rx.int, ry.int, hc, k _ H (Same.refl H) (e i j _)⟩
 ·rw [if_neg hc] at h'; cases h'
theorem ZV : GP G (rI0 fun i j => .int (i - j)) subD := Ul fun i j H => .int _
theorem Kq.ok {i j : Int} (h : Kq i j) : IntMulOk i j := by
 rcases h with h | h
 ·exact h.ok
 ·exact IntMulOk.of_le h.1 h.2 (by decide)
theorem ZW : OpR X (binaryOp .Mult) (rI Kq fun i j => .int (i * j)) := opI fun _ _ _ _ _ _ _ hc q => mul_int q hc.ok
theorem ZX : GP G (rI Kq fun i j => .int (i * j)) mulD := Ra fun i j H => .int _
theorem XM : GP G (rI CDiv fun i j => .int (i / j)) GJ := Ra fun i j H => .int _
theorem ZZ : GP G (rI (fun _ j => 0 < j) fun i j => .int (i % j)) modD := Ra (C := fun _ j => 0 < j) fun i j H => .int _
theorem Za : GP G (rI CPow fun i j => .int (i ^ j.toNat)) powD := Ra fun i j H => .int _
theorem XN : GP G (rI0 fun i j => .bl (decide (i < j))) ltD := Ul fun i j H => .bl _
theorem dG : GP G (rI0 fun i j => .bl (decide (j < i))) gtD := Ul fun i j H => .bl _
def bJ (K : PySem.W.Frag) : R2 := fun x y H Q => ∃ l b xs zs, x = .ref l ∧ y = .ref b ∧ SqL K H l xs ∧ SqL K H b zs ∧ xs.length + zs.length ≤ sizeLine ∧ ∀ p, H p = none → Q (.ref p) (upd H p (.lst (xs ++ zs)))
theorem Zb : OpR X (binaryOp .Add) (bJ X.K) := by
 intro pins s σ H x y v u Q I rx ry h
 obtain ⟨l, b, xs, zs, rfl, rfl, hl, hb, hz, q⟩ := h
 cases rx
 cases ry
 obtain ⟨its, r, pl, z⟩ := I.list hl
 obtain ⟨its2, r2, pl2, z2⟩ := I.list hb
 have e1 := r.length
 have e2 := r2.length
 obtain ⟨⟨cls, dd, data, sl⟩, ho, hc, n, hd⟩ := pl.isList
 obtain ⟨⟨cls2, dd2, data2, sl2⟩, ho2, hc2, n2, hd2⟩ := pl2.isList
 simp only at hc hd hc2 hd2
 subst hc hd hc2 hd2
 refine concat_meets ⟨_, ho, rfl⟩ ⟨_, ho2, rfl⟩ noFill_list_add seq_list_add PySem.F.slot_list_add PySem.F.entry_list_add (PySem.F.args_list_add_2 _ _) (list_addW l b its.toArray its2.toArray n n2 dd dd2 sl sl2 (by rw [List.size_toArray, List.size_toArray]; omega)) ⟨ho, ho2, ?_⟩
 have ea : its.toArray ++ its2.toArray = (its ++ its2).toArray := by simp
 rw [ea]
 exact ⟨.ref _, _, I.lnew (t' := s.toks) (r.append r2) (by rw [List.length_append]; omega), rfl, q _ I.fresh⟩
def rAdd (K : PySem.W.Frag) : R2 := fun x y H Q => (rI0 fun i j => .int (i + j)) x y H Q ∨ ((fun x y H Q => ∃ i j, x = .str i ∧ y = .str j ∧ i.length + j.length ≤ sizeLine ∧ Q (.str (i ++ j)) H) x y H Q ∨ bJ K x y H Q)
theorem Zc : OpR X (binaryOp .Add) (rAdd X.K) := cP.or (Uc.or Zb)
theorem Zd : GP G (rAdd G.K) addD := by
 intro A H x y dx dy d Q lv rx ry h k
 unfold addD at h
 split at h
 ·cases h; exact .inl ⟨_, _, rx.int, ry.int, k _ H (Same.refl H) (.int _)⟩
 ·split at h
  ·rename_i hz; cases h; exact .inr (.inl ⟨_, _, rx.str, ry.str, hz, k _ H (Same.refl H) (.str _)⟩)
  ·cases h
 ·split at h
  ·rename_i hz
   cases h
   obtain ⟨l, xs, rfl, h1, r1⟩ := rx.lst
   obtain ⟨m, zs, rfl, h2, r2⟩ := ry.lst
   exact .inr (.inr ⟨l, m, xs, zs, rfl, rfl, h1, h2, by rw [r1.1, r2.1]; exact hz, fun p hp => k _ _ (Et hp _) (Ja lv hp (r1.append r2))⟩)
  ·cases h
 ·cases h
theorem Rc {op : BoolOp} (h : PF X G a fa) : PF X G (.BoolOp op [a] pos) fa := fun A => cH (@h A)
theorem Oj {rest : List Expr} (ha : PF X G a fa) (hb : PF X G (.BoolOp .And (b :: rest) pos) fb) : PF X G (.BoolOp .And (a :: b :: rest) pos) (andF fa fb) := fun A => Ey (cI (@ha A) (@hb A)) fun σ H Q ⟨ρ, d, o, e, k⟩ => by
 unfold andF at e
 split at e
 ·rename_i e1
  refine ⟨ρ, _, o, e1, fun v H1 s1 r1 => ?_⟩
  cases r1
  refine ⟨true, rfl, ?_⟩
  rw [if_pos rfl]
  exact ⟨ρ, d, o.mono s1, e, fun v H2 s2 r2 => k v H2 (s1.trans s2) r2⟩
 ·rename_i e1
  refine ⟨ρ, _, o, e1, fun v H1 s1 r1 => ?_⟩
  cases r1
  refine ⟨false, rfl, ?_⟩
  rw [if_neg Bool.false_ne_true]
  cases e
  exact k _ H1 s1 (.bl false)
 ·cases e
variable {ga gb : FT}
theorem PFW.pt (h : PFW X G a ga) : PFT X G a ga := fun A => (@h A).pt
theorem HN (h : PFT X G a ga) : PFW X G (.BoolOp .And [a] pos) ga := fun A => Yv (@h A)
theorem HD (h : PFT X G a ga) : PFW X G (.BoolOp .Or [a] pos) ga := fun A => cD (@h A)
theorem Jq {rest : List Expr} (ha : PFT X G a ga) (hb : PFW X G (.BoolOp .And (b :: rest) pos) gb) : PFW X G (.BoolOp .And (a :: b :: rest) pos) (andT ga gb) := fun A => bH (cF (@ha A) (@hb A)) fun σ H Q ⟨ρ, d, o, e, k⟩ => by
 unfold andT at e
 split at e
 ·rename_i e1
  exact ⟨ρ, _, o, e1, fun H1 s1 => iteT ⟨ρ, d, o.mono s1, e, fun H2 s2 => k H2 (s1.trans s2)⟩⟩
 ·rename_i e1
  cases e
  exact ⟨ρ, _, o, e1, fun H1 s1 => iteF (k H1 s1)⟩
 ·cases e
theorem Iu {rest : List Expr} (ha : PFT X G a ga) (hb : PFW X G (.BoolOp .Or (b :: rest) pos) gb) : PFW X G (.BoolOp .Or (a :: b :: rest) pos) (orT ga gb) := fun A => bH (fY (@ha A) (@hb A)) fun σ H Q ⟨ρ, d, o, e, k⟩ => by
 unfold orT at e
 split at e
 ·rename_i e1
  cases e
  exact ⟨ρ, _, o, e1, fun H1 s1 => iteT (k H1 s1)⟩
 ·rename_i e1
  exact ⟨ρ, _, o, e1, fun H1 s1 => iteF ⟨ρ, d, o.mono s1, e, fun H2 s2 => k H2 (s1.trans s2)⟩⟩
 ·cases e
theorem Iv (ha : PFT X G a ga) : PFT X G (.UnaryOp .Not a pos) (notT ga) := fun A => Vk (cG (@ha A)) fun σ H Q ⟨ρ, d, o, e, k⟩ => by
 unfold notT at e
 cases e1 : ga ρ with
 | none => rw [e1] at e; cases e
 | some b => rw [e1] at e; cases e; exact ⟨ρ, b, o, e1, fun H1 s1 => k H1 s1⟩
theorem Ml {α β : Type} {xs : List α} {ys : List β} (h : xs.length = ys.length) : xs.isEmpty = ys.isEmpty := by
 cases xs <;> cases ys <;> simp at h ⊢
theorem Eb (ha : PU X G a fa) (hG : G.K = X.K) (he : ∀ whole, isTrue a X.env whole = (do let v ← whole; standAt a.pos; holding [v] (truthy v)) := by intro _; rfl) : PFT X G a (fun ρ => (fa ρ).bind truD) := fun A => Vk (Wu (@ha A) he) fun σ H Q ⟨ρ, b, o, e, k⟩ => by
 cases e1 : fa ρ with
 | none => simp [e1] at e
 | some d =>
  have e' : truD d = some b := by simpa [e1] using e
  refine ⟨ρ, d, o, e1, fun v H1 s1 r1 => ⟨b, ?_, k H1 s1⟩⟩
  rw [← hG]
  cases d with
  | non => rw [r1.non]; exact (Option.some.inj e').symm
  | bl b' => rw [r1.bl]; exact (Option.some.inj e').symm
  | int i => rw [r1.int]; exact (Option.some.inj e').symm
  | str y =>
   rw [r1.str]
   simp only [truD] at e'
   split at e'
   ·rename_i hz; exact ⟨hz, (Option.some.inj e').symm⟩
   ·cases e'
  | lst ds =>
   obtain ⟨p, xs, rfl, h1, h2⟩ := r1.lst
   refine .inl ⟨xs, h1, ?_⟩
   rw [Ml h2.1]
   exact (Option.some.inj e').symm
  | tup ds =>
   obtain ⟨p, xs, rfl, h1, h2⟩ := r1.tup
   refine .inr (.inl ⟨xs, h1, ?_⟩)
   rw [Ml h2.1]
   exact (Option.some.inj e').symm
  | _ => cases e'
theorem bK (ht : PFT X G c ga) (ha : PF X G a fa) (hb : PF X G b fb) : PF X G (.IfExp c a b pos) (ifF ga fa fb) := fun A => Ey (Wn (@ht A) (@ha A) (@hb A)) fun σ H Q ⟨ρ, d, o, e, k⟩ => by
 unfold ifF at e
 split at e
 ·rename_i e1
  exact ⟨ρ, _, o, e1, fun H1 s1 => iteT ⟨ρ, d, o.mono s1, e, fun v H2 s2 r2 => k v H2 (s1.trans s2) r2⟩⟩
 ·rename_i e1
  exact ⟨ρ, _, o, e1, fun H1 s1 => iteF ⟨ρ, d, o.mono s1, e, fun v H2 s2 r2 => k v H2 (s1.trans s2) r2⟩⟩
 ·cases e
variable {es : List Expr} {fs : FA}
theorem Ad : PFA X G [] nilA := fun A => bG JT fun σ H Q ⟨ρ, ds, o, e, k⟩ => by cases e; exact k [] H (Same.refl H) RepL.nil
theorem Aa (ha : PF X G a fa) (hr : PFA X G es fs) (hs : starEach (a :: es) X.env = (false, eval a X.env) :: starEach es X.env := by rfl) : PFA X G (a :: es) (Ab fa fs) := fun A => bG (Fx (@ha A) (@hr A) hs) fun σ H Q ⟨ρ, ds, o, e, k⟩ => by
 unfold Ab at e
 cases e1 : fa ρ with
 | none => simp [e1] at e
 | some d =>
  cases e2 : fs ρ with
  | none => simp [e1, e2] at e
  | some ds' =>
   simp [e1, e2] at e
   subst e
   exact ⟨ρ, d, o, e1, fun v H1 s1 r1 => ⟨ρ, ds', o.mono s1, e2, fun vs H2 s2 r2 => k _ H2 (s1.trans s2) (.cons (r1.mono (DW s2)) r2)⟩⟩
theorem Fo {x1} (h : PFA X G es fs) : PF X G (.Tuple es x1 pos) (tupF fs) := fun A => Ey (Wy (@h A)) fun σ H Q ⟨ρ, d, o, e, k⟩ => by
 unfold tupF at e
 cases e1 : fs ρ with
 | none => simp [e1] at e
 | some ds =>
  rw [e1] at e
  have e' : (if ds.length ≤ sizeLine then some (D.tup ds) else none) = some d := e
  split at e'
  ·rename_i hz
   cases e'
   exact ⟨ρ, ds, o, e1, fun vs H1 s1 r1 => ⟨by rw [r1.1]; exact hz, fun p hp => k _ _ (s1.trans (Et hp _)) (Jb (o.mono s1).live hp r1)⟩⟩
  ·cases e'
theorem Ew (h : PFA X G es fs) : PF X G (.List es pos) (lstF fs) := fun A => Ey (cY (@h A)) fun σ H Q ⟨ρ, d, o, e, k⟩ => by
 unfold lstF at e
 cases e1 : fs ρ with
 | none => simp [e1] at e
 | some ds =>
  rw [e1] at e
  have e' : (if ds.length ≤ sizeLine then some (D.lst ds) else none) = some d := e
  split at e'
  ·rename_i hz
   cases e'
   exact ⟨ρ, ds, o, e1, fun vs H1 s1 r1 => ⟨by rw [r1.1]; exact hz, fun p hp => k _ _ (s1.trans (Et hp _)) (Ja (o.mono s1).live hp r1)⟩⟩
  ·cases e'
theorem dH : GP G (rIx G.K) ixD := by
 intro A H x y dx dy d Q lv rx ry h k
 unfold ixD at h
 split at h
 ·obtain ⟨p, xs, rfl, h1, r1⟩ := rx.lst
  obtain ⟨v, h2, r2⟩ := r1.atI h
  exact .inl ⟨p, xs, _, v, rfl, ry.int, h1, h2, k v H (Same.refl H) r2⟩
 ·obtain ⟨p, xs, rfl, h1, r1⟩ := rx.tup
  obtain ⟨v, h2, r2⟩ := r1.atI h
  exact .inr (.inl ⟨p, xs, _, v, rfl, ry.int, h1, h2, k v H (Same.refl H) r2⟩)
 ·split at h
  ·rename_i z i hz
   cases e : atI z.cps.toList i with
   | none => rw [e] at h; cases h
   | some c =>
    rw [e] at h
    cases h
    exact .inr (.inr ⟨z, i, c, rx.str, ry.int, hz, e, k _ H (Same.refl H) (.str _)⟩)
  ·cases h
 ·cases h
theorem gj (hG : G.K = X.K) (ha : PU X G a fa) (hb : PU X G b fb) (hs : Qk b) : PF X G (.Subscript a b pos) (bF ixD fa fb) :=
 fun A => Ey (gP (r := rIx X.K) cz (@ha A) (@hb A) hs) fun _ _ _ h => RZ (by rw [← hG]; exact dH) h
def tFO (G : Gx) (A : List Addr) (f : FO) : TO := fun σ H Q => ∃ ρ o, Okp G A σ H ρ ∧ f ρ = some o ∧ ∀ H', Same H H' → Q o H'
def PFO (X : Cx) (G : Gx) (e : Option Expr) (f : FO) : Prop := ∀ ⦃A⦄, PO X e (tFO G A f)
theorem bL {e : Option Expr} {t t' : TO} (h : PO X e t) (w : ∀ σ H Q, t' σ H Q → t σ H Q) : PO X e t' := fun pins s σ H Q I q => h pins s σ H Q I (w σ H Q q)
theorem Cu : PFO X G none noO := fun A => bL Y_ fun σ H Q ⟨ρ, o, ok, e, k⟩ => by cases e; exact k H (Same.refl H)
theorem Ag (h : PU X G a fa) : PFO X G (some a) (someO fa) := fun A => bL (ZC (@h A)) fun σ H Q ⟨ρ, o, ok, e, k⟩ => by
 unfold someO at e
 split at e
 ·rename_i i e1
  cases e
  exact ⟨ρ, _, ok, e1, fun v H1 s1 r1 => ⟨i, r1.int, k H1 s1⟩⟩
 ·cases e
theorem RepL.cut {H : Hp} {xs : List V} {ds : List D} (r : RepL G H xs ds) (lo hi : Option Int) : RepL G H (cutV xs lo hi) (cutD ds lo hi) := by
 unfold cutV cutD
 rw [r.1]
 exact (r.drop _).take _
end
end PV
theorem L2.Room.unitsW {k : Nat} {A : PySem.Around} (r : L2.Room k A) : A.units + 190 < PySem.cLine := by have := r.un; omega
namespace PV
open PySem PySem.Spec L2
open PyProof.Rows hiding St
section
variable {X : Cx} {G : Gx} {a b c : Expr} {fa fb fc : FE} {pos p2 : Pos}
section
open Builtin.Str
theorem Ti (n : Nat) (v : Option Int) (d : Nat) (hd : d ≤ n) : (match v with | none => (d : Int) | some i => max 0 (min (if i < 0 then i + (n : Int) else i) (n : Int))) = (HT.sIx n d v : Int) := by
 cases v with
 | none => rfl
 | some i =>
  simp only [HT.sIx]
  split <;> omega
theorem Ze (n d : Nat) (v : Option Int) (hd : d ≤ n) : HT.sIx n d v ≤ n := by
 cases v with
 | none => exact hd
 | some i => simp only [HT.sIx]; split <;> omega
theorem Um (lo hi : Option Int) (n : Nat) : strSliceIndices lo hi 1 n = (List.range (HT.sIx n n hi - HT.sIx n 0 lo)).map (fun k => HT.sIx n 0 lo + k) := by
 have h1 := Ti n lo 0 (Nat.zero_le _)
 have h2 := Ti n hi n (Nat.le_refl _)
 have hp : ((1 : Int) > 0) := by decide
 have e : strSliceIndices lo hi 1 n = sliceRange (HT.sIx n 0 lo : Int) (HT.sIx n n hi : Int) 1 := by
  unfold strSliceIndices
  simp only [hp, if_true]
  exact congrFun (congr (congrArg sliceRange h1) h2) 1
 rw [e]
 unfold sliceRange
 simp only [hp, if_true]
 generalize HT.sIx n 0 lo = a
 generalize HT.sIx n n hi = b
 have hc : (if (a : Int) < (b : Int) then ((b : Int) - a + 1 - 1) / 1 else 0).toNat = b - a := by
  split
  ·rw [Int.ediv_one]; omega
  ·omega
 rw [hc]
 apply List.map_congr_left
 intro k _
 omega
theorem WW (x : Str) (lo hi : Option Int) : Txt.slice x lo hi = cutS x lo hi := by
 have hb := Ze x.length x.length hi (Nat.le_refl _)
 have hn : x.cps.toList.length = x.length := by simp [Str.length]
 unfold Txt.slice cutS cutD
 rw [Um, hn]
 generalize HT.sIx x.length 0 lo = a at *
 generalize HT.sIx x.length x.length hi = b at *
 rw [List.length_map, List.length_range]
 split
 ·rename_i h
  simp only [Bool.and_eq_true, beq_iff_eq] at h
  have hab : b - a = x.length := h.2
  by_cases h0 : x.length = 0
  ·have : x.cps.toList = [] := List.length_eq_zero_iff.mp (by omega)
   cases x with
   | mk c =>
    simp at this
    subst this
    simp
  ·have ha : a = 0 := by omega
   subst ha
   have : b = x.length := by omega
   subst this
   rw [List.drop_zero, Nat.sub_zero, List.take_of_length_le (by omega)]
 ·congr 1
  apply congrArg
  apply List.ext_getElem?
  intro i
  rw [List.filterMap_map]
  have key : ∀ m, m ≤ b - a → (List.filterMap ((fun k => x.cps[k]?) ∘ fun k => a + k) (List.range m)) = ((x.cps.toList.drop a).take m) := by
   intro m
   induction m with
   | zero => intro _; simp
   | succ m ih =>
    intro hm
    rw [List.range_succ, List.filterMap_append, ih (by omega)]
    have hlt : a + m < x.cps.size := by have : x.length = x.cps.size := rfl; omega
    rw [List.take_succ_eq_append_getElem (by simp; omega)]
    simp [hlt]
  rw [key _ (Nat.le_refl _)]
end
def rSlS : V → Option Int → Option Int → Hp → VK → Prop := fun x lo hi H Q => ∃ z, x = .str z ∧ z.length ≤ sizeLine ∧ Q (.str (Txt.slice z lo hi)) H
theorem dI : SlR X rSlS := by
 intro pins s σ H x v vl vu lo hi sl Q I rx hs pl pu h
 obtain ⟨z, rfl, hz, q⟩ := h
 obtain ⟨t, rfl⟩ := rx
 obtain ⟨o, e1, e2, e3⟩ := hs
 have fin : ∀ t' k, EP X pins σ Q (.str (Txt.slice z lo hi) t') { s with toks := k } := fun t' k => ⟨.str _, H, I.tok _, ⟨t', rfl⟩, q⟩
 have hl := Nat.le_trans (Txt.slice_le z lo hi) hz
 refine ⟨"str", _, PySem.F.slot_str_getitem.lookup, typeIs_str _ _ _, ?_⟩
 cases pl with
 | none =>
  cases pu with
  | none => exact wpAny_getItem_str_slice (l := none) (u := none) (st := none) ⟨o, e1, e2, e3⟩ rfl (post_val_or_str ⟨hl, fin⟩)
  | int j uj => exact wpAny_getItem_str_slice (l := none) (u := some (j, uj)) (st := none) ⟨o, e1, e2, e3⟩ rfl (post_val_or_str ⟨hl, fin⟩)
 | int i ui =>
  cases pu with
  | none => exact wpAny_getItem_str_slice (l := some (i, ui)) (u := none) (st := none) ⟨o, e1, e2, e3⟩ rfl (post_val_or_str ⟨hl, fin⟩)
  | int j uj => exact wpAny_getItem_str_slice (l := some (i, ui)) (u := some (j, uj)) (st := none) ⟨o, e1, e2, e3⟩ rfl (post_val_or_str ⟨hl, fin⟩)
def rSl (K : PySem.W.Frag) : V → Option Int → Option Int → Hp → VK → Prop := fun x lo hi H Q => rSlL K x lo hi H Q ∨ (rSlT K x lo hi H Q ∨ rSlS x lo hi H Q)
theorem dJ : SlR X (rSl X.K) := ZG.or (cg.or dI)
theorem Bc {lo hi : Option Expr} {gl gh : FO} (hG : G.K = X.K) (ha : PU X G a fa) (hl : PFO X G lo gl) (hh : PFO X G hi gh) : PF X G (.Subscript a (.Slice lo hi none p2) pos) (slF fa gl gh) := fun A => Ey (W2 (dJ (X := X)) (@ha A) (@hl A) (@hh A)) fun σ H Q ⟨ρ, d, o, e, k⟩ => by
 unfold slF at e
 cases e1 : fa ρ with
 | none => simp [e1] at e
 | some x =>
  cases e2 : gl ρ with
  | none => simp [e1, e2] at e
  | some l =>
   cases e3 : gh ρ with
   | none => simp [e1, e2, e3] at e
   | some h =>
    have e' : slD x l h = some d := by simpa [e1, e2, e3] using e
    refine ⟨ρ, x, o, e1, fun v H1 s1 r1 => ⟨ρ, l, o.mono s1, e2, fun H2 s2 => ⟨ρ, h, (o.mono s1).mono s2, e3, fun H3 s3 => ?_⟩⟩⟩
    have r3 := (r1.mono s2).mono s3
    have o3 := ((o.mono s1).mono s2).mono s3
    have s0 := s1.trans (s2.trans s3)
    unfold slD at e'
    split at e'
    ·cases e'
     obtain ⟨p, xs, rfl, h1, r⟩ := r3.lst
     exact .inl ⟨p, xs, rfl, by rw [← hG]; exact h1, fun q hq => k _ _ (s0.trans (Et hq _)) (Ja o3.live hq (r.cut _ _))⟩
    ·split at e'
     ·cases e'
     ·rename_i hw
      cases e'
      obtain ⟨p, xs, rfl, h1, r⟩ := r3.tup
      exact .inr (.inl ⟨p, xs, rfl, by rw [← hG]; exact h1, by rw [r.1]; exact hw, fun q hq => k _ _ (s0.trans (Et hq _)) (Jb o3.live hq (r.cut _ _))⟩)
    ·split at e'
     ·rename_i hz
      cases e'
      refine .inr (.inr ⟨_, r3.str, hz, ?_⟩)
      rw [WW]
      exact k _ _ s0 (.str _)
     ·cases e'
    ·cases e'
theorem Rf {A : List Addr} {H : Hp} {v u : V} {d : D} (r : RepT G A H v d) (h : flV d = some u) : v = u ∧ JP v = true := by
 cases d with
 | non => cases h; rw [r.non]; exact ⟨rfl, rfl⟩
 | bl b => cases h; rw [r.bl]; exact ⟨rfl, rfl⟩
 | int b => cases h; rw [r.int]; exact ⟨rfl, rfl⟩
 | str b => cases h; rw [r.str]; exact ⟨rfl, rfl⟩
 | _ => cases h
theorem Tj {H : Hp} : ∀ {ds : List D} {xs us : List V}, RepL G H xs ds → flVs ds = some us → xs = us ∧ xs.all JP = true
 | [], xs, us, r, h => by cases h; rw [r.nil_inv]; exact ⟨rfl, rfl⟩
 | d :: ds, xs, us, r, h => by
  obtain ⟨x, ys, rfl, r1, r2⟩ := r.uncons
  unfold flVs at h
  cases e1 : flV d with
  | none => simp [e1] at h
  | some v =>
   cases e2 : flVs ds with
   | none => simp [e1, e2] at h
   | some vs =>
    simp [e1, e2] at h
    subst h
    have q : Rep G (hid [] H) x d := r1.mono fun b o z => z
    obtain ⟨z1, z2⟩ := Rf (A := []) (.inl q) e1
    obtain ⟨z3, z4⟩ := Tj r2 e2
    subst z1
    subst z3
    exact ⟨rfl, by rw [List.all_cons, z2, z4]; rfl⟩
def rInA (K : PySem.W.Frag) (neg : Bool) : R2 := fun x y H Q => rIn K neg x y H Q ∨ ∃ i j, x = .str i ∧ y = .str j ∧ Q (.bl (if neg then !(!(Builtin.Str.occurrences j i 0 j.length 1).isEmpty) else !(Builtin.Str.occurrences j i 0 j.length 1).isEmpty)) H
theorem KZ : OpR X (compareOp .In) (rInA X.K false) := WM.or WF
theorem Ly (neg : Bool) : GP G (rInA G.K neg) (inD neg) := by
 intro A H x y dx dy d Q lv rx ry h k
 have seq : ∀ {ds : List D} {p : Addr} {xs : List V}, y = .ref p → (SqL G.K H p xs ∨ SqT G.K H p xs) → RepL G (hid A H) xs ds → ((flV dx).bind fun v => (flVs ds).map fun vs => D.bl (if neg then !inV v vs else inV v vs)) = some d → rIn G.K neg x y H Q := fun {ds p xs} ey hq r h => by
  cases e1 : flV dx with
  | none => simp [e1] at h
  | some v =>
   cases e2 : flVs ds with
   | none => simp [e1, e2] at h
   | some vs =>
    rw [e1, e2] at h
    cases h
    obtain ⟨z1, z2⟩ := Rf rx e1
    obtain ⟨z3, z4⟩ := Tj r e2
    subst z1
    subst z3
    exact ⟨p, xs, ey, hq, z2, z4, k _ H (Same.refl H) (.bl _)⟩
 unfold inD at h
 split at h
 ·cases h; exact .inr ⟨_, _, rx.str, ry.str, k _ H (Same.refl H) (.bl _)⟩
 ·obtain ⟨p, xs, e, h1, r⟩ := ry.lst
  exact .inl (seq e (.inl h1) r h)
 ·obtain ⟨p, xs, e, h1, r⟩ := ry.tup
  exact .inl (seq e (.inr h1) r h)
 ·cases h
def eAt (f : D → D → Option Bool) (xs ys : List D) (j : Nat) : Bool := match xs[j]?, ys[j]? with | some x, some y => (f x y).getD false | _, _ => false
theorem Lz {f : D → D → Option Bool} : ∀ {xs ys : List D} {b : Bool}, allO f xs ys = some b → xs.length = ys.length ∧ (∀ (j : Nat) x y, xs[j]? = some x → ys[j]? = some y → f x y = some (eAt f xs ys j)) ∧ b = (List.range xs.length).all (eAt f xs ys)
 | [], [], b, h => by cases h; exact ⟨rfl, fun j x y h => by simp at h, rfl⟩
 | [], _ :: _, b, h => by cases h
 | _ :: _, [], b, h => by cases h
 | x :: xs, y :: ys, b, h => by
  unfold allO at h
  split at h
  ·rename_i a c e1 e2
   cases h
   obtain ⟨h1, h2, h3⟩ := Lz e2
   refine ⟨by simp [h1], fun j u v hu hv => ?_, ?_⟩
   ·cases j with
    | zero => simp at hu hv; subst hu; subst hv; rw [e1]; simp [eAt, e1]
    | succ j =>
     have := h2 j u v (by simpa using hu) (by simpa using hv)
     rw [this]
     simp [eAt]
   ·rw [List.length_cons, List.range_succ_eq_map, List.all_cons, List.all_map]
    have z : eAt f (x :: xs) (y :: ys) 0 = a := by simp [eAt, e1]
    rw [z, h3]
    rfl
  ·cases h
theorem XQ {u : V} (h : JP u = true) : eqV u u = true := by
 cases u <;> simp [eqV] <;> cases h
theorem Nq {H : Hp} {v : V} {d : D} {u : V} (r : Rep G H v d) (h : flV d = some u) : v = u ∧ JP v = true := Rf (A := []) (.inl (r.mono fun b o z => by rw [Dt List.not_mem_nil]; exact z)) h
section
variable {pins : List (Addr × Obj)} {σ : St} {H : Hp} {s : Shared}
theorem Tn (I : Inv X pins σ H s) (hG : G.K = X.K) : ∀ (n : Nat) {x y : D} {v : V} {b : Bool}, eqK n x y = some b → Rep G H v x → Rep G H v y → b = true := by
 have flat : ∀ {x y : D} {v : V} {b : Bool}, flD x y = some b → Rep G H v x → Rep G H v y → b = true := fun {x y v b} h rx ry => by
  unfold flD at h
  cases e1 : flV x with
  | none => simp [e1] at h
  | some u =>
   cases e2 : flV y with
   | none => simp [e1, e2] at h
   | some w =>
    simp [e1, e2] at h
    obtain ⟨z1, z2⟩ := Nq rx e1
    obtain ⟨z3, _⟩ := Nq ry e2
    rw [← h, ← z1, ← z3]
    exact XQ z2
 intro n
 induction n with
 | zero => intro x y v b h rx ry; exact flat h rx ry
 | succ n ih =>
  have items : ∀ {xs : List V} {ds es : List D} {b : Bool}, allO (eqK n) ds es = some b → RepL G H xs ds → RepL G H xs es → b = true := fun {xs ds es b} h r1 r2 => by
   obtain ⟨h1, h2, h3⟩ := Lz h
   rw [h3, List.all_eq_true]
   intro j hj
   have hj' : j < ds.length := List.mem_range.mp hj
   have hx : xs[j]? = some (xs[j]'(by rw [r1.1]; exact hj')) := by simp [r1.1, hj']
   have hd : ds[j]? = some ds[j] := by simp [hj']
   have he : es[j]? = some (es[j]'(by omega)) := List.getElem?_eq_getElem (by omega)
   exact ih (h2 j _ _ hd he) (r1.2 j _ _ hx hd) (r2.2 j _ _ hx he)
  intro x y v b h rx ry
  unfold eqK eqS at h
  split at h
  ·split at h
   ·cases rx with
    | lst h1 l1 r1 =>
     cases ry with
     | lst h2 l2 r2 =>
      have e := I.list_inj (by rw [← hG]; exact h1) (by rw [← hG]; exact h2)
      subst e
      exact items h ⟨l1, r1⟩ ⟨l2, r2⟩
   ·rename_i hne
    cases rx with
    | lst h1 l1 r1 =>
     cases ry with
     | lst h2 l2 r2 =>
      have e := I.list_inj (by rw [← hG]; exact h1) (by rw [← hG]; exact h2)
      subst e
      exact absurd (l1.symm.trans l2) hne
  ·split at h
   ·cases rx with
    | tup h1 l1 r1 =>
     cases ry with
     | tup h2 l2 r2 =>
      have e := I.tuple_inj (by rw [← hG]; exact h1) (by rw [← hG]; exact h2)
      subst e
      exact items h ⟨l1, r1⟩ ⟨l2, r2⟩
   ·cases h
  ·exact flat h rx ry
theorem Ig {A : Around} {n : Nat} {ds es : List D} {b : Bool} {xs ys : List V} {its jts : List Value} (ih : ∀ {x y : D} {v w : V} {u1 u2 : Value} {b : Bool}, eqK n x y = some b → Rep G H v x → Rep G H w y → RelV v u1 → RelV w u2 → SeqAt.EqAt A s u1 u2 b)
  (h : allO (eqK n) ds es = some b) (r1 : RepL G H xs ds) (r2 : RepL G H ys es) (v1 : Vals xs its) (v2 : Vals ys jts) :
  its.toArray.size = jts.toArray.size ∧ b = (List.range its.toArray.size).all (eAt (eqK n) ds es) ∧ ∀ j (h1 : j < its.toArray.size) (h2 : j < jts.toArray.size), SeqAt.EqAt A s its.toArray[j] jts.toArray[j] (eAt (eqK n) ds es j) := by
 obtain ⟨h1, h2, h3⟩ := Lz h
 have l1 := v1.length
 have l2 := v2.length
 have q1 := r1.1
 have q2 := r2.1
 have z1 : its.toArray.size = ds.length := by rw [List.size_toArray]; omega
 refine ⟨by rw [List.size_toArray, List.size_toArray]; omega, by rw [z1]; exact h3, fun j j1 j2 => ?_⟩
 rw [List.size_toArray] at j1 j2
 have jx : j < xs.length := by omega
 have jy : j < ys.length := by omega
 have hx : xs[j]? = some xs[j] := by simp [jx]
 have hy : ys[j]? = some ys[j] := by simp [jy]
 have hd : ds[j]? = some (ds[j]'(by omega)) := List.getElem?_eq_getElem (by omega)
 have he : es[j]? = some (es[j]'(by omega)) := List.getElem?_eq_getElem (by omega)
 obtain ⟨u, eu, ru⟩ := v1.get hx
 obtain ⟨w, ew, rw'⟩ := v2.get hy
 have a1 : its.toArray[j] = u := by simpa [List.getElem?_eq_getElem j1] using eu
 have a2 : jts.toArray[j] = w := by simpa [List.getElem?_eq_getElem j2] using ew
 rw [a1, a2]
 exact ih (h2 j _ _ hd he) (r1.2 j _ _ hx hd) (r2.2 j _ _ hy he) ru rw'
theorem Rg {ds es : List D} {xs ys : List V} {its jts : List Value} (h : ds.length ≠ es.length) (r1 : RepL G H xs ds) (r2 : RepL G H ys es) (v1 : Vals xs its) (v2 : Vals ys jts) : (its.toArray.size != jts.toArray.size) = true := by
 have l1 := v1.length
 have l2 := v2.length
 have q1 := r1.1
 have q2 := r2.1
 rw [List.size_toArray, List.size_toArray]
 exact bne_iff_ne.mpr (by omega)
theorem Ol (I : Inv X pins σ H s) (hG : G.K = X.K) : ∀ (n : Nat) (A : Around), A.units + n < cLine → ∀ {x y : D} {v w : V} {u1 u2 : Value} {b : Bool}, eqK n x y = some b → Rep G H v x → Rep G H w y → RelV v u1 → RelV w u2 → SeqAt.EqAt A s u1 u2 b := by
 have flat : ∀ {A : Around} {x y : D} {v w : V} {u1 u2 : Value} {b : Bool}, flD x y = some b → Rep G H v x → Rep G H w y → RelV v u1 → RelV w u2 → SeqAt.EqAt A s u1 u2 b := fun {A x y v w u1 u2 b} h rx ry q1 q2 => by
  unfold flD at h
  cases e1 : flV x with
  | none => simp [e1] at h
  | some u =>
   cases e2 : flV y with
   | none => simp [e1, e2] at h
   | some w =>
    simp [e1, e2] at h
    obtain ⟨z1, z2⟩ := Nq rx e1
    obtain ⟨z3, z4⟩ := Nq ry e2
    rw [← h, ← z1, ← z3]
    exact W3 q1 q2 z2 z4
 intro n
 induction n with
 | zero => intro A hu x y v w u1 u2 b h rx ry q1 q2; exact flat h rx ry q1 q2
 | succ n ih =>
  intro A hu x y v w u1 u2 b h rx ry q1 q2
  have h' := h
  have hu1 : A.in1.units + n < cLine := by show A.units + 1 + n < cLine; omega
  have hu0 : A.units < cLine := by omega
  unfold eqK eqS at h
  split at h
  ·cases rx with
   | @lst a _ _ h1 l1 r1 =>
    cases ry with
    | @lst c _ _ h2 l2 r2 =>
     obtain rfl : u1 = .ref a := q1
     obtain rfl : u2 = .ref c := q2
     obtain ⟨its, v1, p1, _⟩ := I.list (by rw [← hG]; exact h1)
     obtain ⟨jts, v2, p2, _⟩ := I.list (by rw [← hG]; exact h2)
     by_cases hac : a = c
     ·subst hac
      have := Tn I hG (n + 1) h' (.lst h1 l1 r1) (.lst h2 l2 r2)
      subst this
      exact SeqAt.EqAt.same _
     ·split at h
      ·obtain ⟨z1, z2, z3⟩ := Ig (fun q => ih A.in1 hu1 q) h ⟨l1, r1⟩ ⟨l2, r2⟩ v1 v2
       rw [z2]
       exact SeqAt.EqAt.of_refs hac (SeqAt.RcAt.lists p1.isList p2.isList z1 hu0 z3)
      ·rename_i hne
       cases h
       exact SeqAt.EqAt.of_refs hac (SeqAt.RcAt.lists_lengths p1.isList p2.isList (Rg hne ⟨l1, r1⟩ ⟨l2, r2⟩ v1 v2) hu0)
  ·cases rx with
   | @tup a _ _ h1 l1 r1 =>
    cases ry with
    | @tup c _ _ h2 l2 r2 =>
     obtain rfl : u1 = .ref a := q1
     obtain rfl : u2 = .ref c := q2
     obtain ⟨its, v1, p1, _⟩ := I.tuple (by rw [← hG]; exact h1)
     obtain ⟨jts, v2, p2, _⟩ := I.tuple (by rw [← hG]; exact h2)
     by_cases hac : a = c
     ·subst hac
      have := Tn I hG (n + 1) h' (.tup h1 l1 r1) (.tup h2 l2 r2)
      subst this
      exact SeqAt.EqAt.same _
     ·split at h
      ·obtain ⟨z1, z2, z3⟩ := Ig (fun q => ih A.in1 hu1 q) h ⟨l1, r1⟩ ⟨l2, r2⟩ v1 v2
       have q := SeqAt.RcAt.tuples (show s.heap.IsTuple a its.toArray from p1) (show s.heap.IsTuple c jts.toArray from p2) hu0 z3
       rw [z1, Nat.min_self, beq_self_eq_true, Bool.and_true, ← z1, ← z2] at q
       exact SeqAt.EqAt.of_refs hac q
      ·cases h
  ·exact flat h rx ry q1 q2
end
def rEqP (G : Gx) (neg : Bool) : R2 := fun x y H Q => ∃ (A : List Addr) (ds es : List D) (b : Bool), eqvD (.lst ds) (.lst es) = some b ∧ ((RepT G A H x (.lst ds) ∧ RepT G A H y (.lst es)) ∨ (ds.length = es.length ∧ RepT G A H x (.tup ds) ∧ RepT G A H y (.tup es))) ∧ Q (.bl (if neg then !b else b)) H
theorem dM (hG : G.K = X.K) (hu : X.A.units + 190 < cLine) : OpR X (compareOp .Eq) (rEqP G false) := by
 intro pins s σ H x y v u Q I rx ry h
 obtain ⟨A, ds, es, b, e, hr, k⟩ := h
 have fin : EP X pins σ Q (.bool b) s := ⟨.bl b, H, I, rfl, k⟩
 simp only [eqvD] at e
 rcases hr with ⟨r1, r2⟩ | ⟨hl, r1, r2⟩
 ·obtain ⟨a, xs, rfl, h1, q1⟩ := r1.lst
  obtain ⟨c, ys, rfl, h2, q2⟩ := r2.lst
  cases rx
  cases ry
  obtain ⟨its, v1, p1, _⟩ := I.list (by rw [← hG]; exact h1)
  obtain ⟨jts, v2, p2, _⟩ := I.list (by rw [← hG]; exact h2)
  split at e
  ·obtain ⟨z1, z2, z3⟩ := Ig (fun q => Ol I hG 180 X.A.in1 (by show X.A.units + 1 + 180 < cLine; omega) q) e (q1.mono DQ) (q2.mono DQ) v1 v2
   exact SeqAt.RcAt.lists p1.isList p2.isList z1 (by omega) z3 _ _ _ _ (by rw [← z2]; exact fin)
  ·rename_i hne
   cases e
   exact SeqAt.RcAt.lists_lengths p1.isList p2.isList (Rg hne q1 q2 v1 v2) (by omega) _ _ _ _ fin
 ·obtain ⟨a, xs, rfl, h1, q1⟩ := r1.tup
  obtain ⟨c, ys, rfl, h2, q2⟩ := r2.tup
  cases rx
  cases ry
  obtain ⟨its, v1, p1, _⟩ := I.tuple (by rw [← hG]; exact h1)
  obtain ⟨jts, v2, p2, _⟩ := I.tuple (by rw [← hG]; exact h2)
  rw [if_pos hl] at e
  obtain ⟨z1, z2, z3⟩ := Ig (fun q => Ol I hG 180 X.A.in1 (by show X.A.units + 1 + 180 < cLine; omega) q) e (q1.mono DQ) (q2.mono DQ) v1 v2
  have q := SeqAt.RcAt.tuples (show s.heap.IsTuple a its.toArray from p1) (show s.heap.IsTuple c jts.toArray from p2) (by omega) z3
  rw [z1, Nat.min_self, beq_self_eq_true, Bool.and_true, ← z1, ← z2] at q
  exact q _ _ _ _ fin
theorem dN (hG : G.K = X.K) (hu : X.A.units + 190 < cLine) : OpR X (compareOp .NotEq) (rEqP G true) := by
 intro pins s σ H x y v u Q I rx ry h
 obtain ⟨A, ds, es, b, e, hr, k⟩ := h
 have fin : EP X pins σ Q (.bool (!b)) s := ⟨.bl (!b), H, I, rfl, k⟩
 simp only [eqvD] at e
 rcases hr with ⟨r1, r2⟩ | ⟨hl, r1, r2⟩
 ·obtain ⟨a, xs, rfl, h1, q1⟩ := r1.lst
  obtain ⟨c, ys, rfl, h2, q2⟩ := r2.lst
  cases rx
  cases ry
  obtain ⟨its, v1, p1, _⟩ := I.list (by rw [← hG]; exact h1)
  obtain ⟨jts, v2, p2, _⟩ := I.list (by rw [← hG]; exact h2)
  split at e
  ·obtain ⟨z1, z2, z3⟩ := Ig (fun q => Ol I hG 180 X.A.in1 (by show X.A.units + 1 + 180 < cLine; omega) q) e (q1.mono DQ) (q2.mono DQ) v1 v2
   exact SeqAt.RcNeAt.lists p1.isList p2.isList z1 (by omega) z3 _ _ _ _ (by rw [← z2]; exact fin)
  ·rename_i hne
   cases e
   exact SeqAt.RcNeAt.lists_lengths p1.isList p2.isList (Rg hne q1 q2 v1 v2) (by omega) _ _ _ _ fin
 ·obtain ⟨a, xs, rfl, h1, q1⟩ := r1.tup
  obtain ⟨c, ys, rfl, h2, q2⟩ := r2.tup
  cases rx
  cases ry
  obtain ⟨its, v1, p1, _⟩ := I.tuple (by rw [← hG]; exact h1)
  obtain ⟨jts, v2, p2, _⟩ := I.tuple (by rw [← hG]; exact h2)
  rw [if_pos hl] at e
  obtain ⟨z1, z2, z3⟩ := Ig (fun q => Ol I hG 180 X.A.in1 (by show X.A.units + 1 + 180 < cLine; omega) q) e (q1.mono DQ) (q2.mono DQ) v1 v2
  have q := SeqAt.RcNeAt.tuples (show s.heap.IsTuple a its.toArray from p1) (show s.heap.IsTuple c jts.toArray from p2) (by omega) z3
  rw [z1, Nat.min_self, beq_self_eq_true, Bool.and_true, ← z1, ← z2] at q
  exact q _ _ _ _ fin
def rEqA (G : Gx) (neg : Bool) : R2 := fun x y H Q => (fun x y H Q => scal x y = true ∧ Q (.bl (if neg then !decide (x = y) else decide (x = y))) H) x y H Q ∨ rEqP G neg x y H Q
theorem XR (hG : G.K = X.K) (hu : X.A.units + 190 < cLine) : OpR X (compareOp .Eq) (rEqA G false) := gF.or (dM hG hu)
theorem XS (hG : G.K = X.K) (hu : X.A.units + 190 < cLine) : OpR X (compareOp .NotEq) (rEqA G true) := gG.or (dN hG hu)
theorem Rh {α β : Type} [DecidableEq α] [DecidableEq β] {f : α → β} (h : ∀ a b, f a = f b → a = b) (a b : α) : decide (f a = f b) = decide (a = b) := by
 by_cases e : a = b
 ·subst e; simp
 ·rw [decide_eq_false e, decide_eq_false fun z => e (h a b z)]
theorem Ri (neg : Bool) : GP G (rEqA G neg) (eqD neg) := by
 intro A H x y dx dy d Q lv rx ry h k
 unfold eqD at h
 cases e : eqvD dx dy with
 | none => simp [e] at h
 | some b =>
  simp only [e, Option.map_some] at h
  cases h
  unfold eqvD at e
  split at e
  ·cases e
   rw [rx.int, ry.int]
   refine .inl ⟨rfl, ?_⟩
   rw [Rh (f := V.int) (fun a b z => by cases z; rfl)]
   exact k _ H (Same.refl H) (.bl _)
  ·cases e
   rw [rx.str, ry.str]
   refine .inl ⟨rfl, ?_⟩
   rw [Rh (f := V.str) (fun a b z => by cases z; rfl)]
   exact k _ H (Same.refl H) (.bl _)
  ·cases e
   rw [rx.bl, ry.bl]
   refine .inl ⟨rfl, ?_⟩
   rw [Rh (f := V.bl) (fun a b z => by cases z; rfl)]
   exact k _ H (Same.refl H) (.bl _)
  ·exact .inr ⟨A, _, _, b, e, .inl ⟨rx, ry⟩, k _ H (Same.refl H) (.bl _)⟩
  ·split at e
   ·rename_i hl
    exact .inr ⟨A, _, _, b, (by simp only [eqvD]; rw [if_pos hl]; exact e), .inr ⟨hl, rx, ry⟩, k _ H (Same.refl H) (.bl _)⟩
   ·cases e
  ·cases e
def SndC (G : Gx) (r : List V → Hp → VK → Prop) (g : D → Option D) : Prop := ∀ (A : List Addr) (H : Hp) (x : V) (dx d : D) (Q : VK), (∀ a ∈ A, Nt (H a)) → RepT G A H x dx → g dx = some d → (∀ v H', Same H H' → Rep G (hid A H') v d → Q v H') → r [x] H Q
theorem Iw {g : D → Option D} {ρ : Rho} {d : D} (h : uF g fa ρ = some d) : ∃ x, fa ρ = some x ∧ g x = some d := by
 unfold uF at h
 cases e : fa ρ with
 | none => simp [e] at h
 | some x => exact ⟨x, rfl, by simpa [e] using h⟩
theorem dO {r : List V → Hp → VK → Prop} {g : D → Option D} (s : SndC G r g) {A : List Addr} {σ : St} {H : Hp} {Q : VK} (h : tF G A (uF g fa) σ H Q) : tCB r (U8 (tT G A fa) tNil) σ H Q := by
 obtain ⟨ρ, d, o, e, k⟩ := h
 obtain ⟨x, e1, e2⟩ := Iw e
 exact ⟨ρ, x, o, e1, fun v H1 s1 r1 => s A H1 v x d Q (o.mono s1).live r1 e2 fun w H2 s2 r2 => k w H2 (s1.trans s2) r2⟩
theorem CZ {x : Str} {p : Pos} {id : String} {r : List V → Hp → VK → Prop} {g : D → Option D} (hc : JS X (.builtin id) r) (s : SndC G r g) (hg : Gl X x) (hm : X.mg x = none) (hv : bootBuiltins x = some (.builtin id)) (ha : PU X G a fa)
  (hn : x ≠ "__name__" := by decide) (hdb : (x == ("__debug__" : Str)) = false := by decide) (he : starEach [a] X.env = [(false, eval a X.env)] := by rfl) : PF X G (.Call (.Name x p) [a] [] pos) (uF g fa) :=
 fun A => Ey (S9 hc hg hm hv (Fx (@ha A) JT he) hn hdb he rfl) fun _ _ _ h => dO s h
theorem DN : SndC G (fun xs H Q => ∃ x n, xs = [x] ∧ LenV G.K x H n ∧ Q (.int n) H) lenD := by
 intro A H x dx d Q lv rx h k
 unfold lenD at h
 split at h
 ·split at h
  ·rename_i hz; cases h; rw [rx.str]; exact ⟨_, _, rfl, ⟨hz, rfl⟩, k _ H (Same.refl H) (.int _)⟩
  ·cases h
 ·cases h
  obtain ⟨p, xs, rfl, h1, r⟩ := rx.lst
  exact ⟨_, _, rfl, .inl ⟨xs, h1, rfl⟩, by rw [r.1]; exact k _ H (Same.refl H) (.int _)⟩
 ·cases h
  obtain ⟨p, xs, rfl, h1, r⟩ := rx.tup
  exact ⟨_, _, rfl, .inr ⟨xs, h1, rfl⟩, by rw [r.1]; exact k _ H (Same.refl H) (.int _)⟩
 ·cases h
theorem CG (hG : G.K = X.K) : JS X (.builtin "len") (fun xs H Q => ∃ x n, xs = [x] ∧ LenV G.K x H n ∧ Q (.int n) H) := by rw [hG]; exact Wv
theorem Rk (ha : PU X G a fa) : PF X G (.UnaryOp .USub a pos) (uF negD fa) := fun A => Ey (gD cU (@ha A)) fun σ H Q ⟨ρ, d, o, e, k⟩ => by
 obtain ⟨x, e1, e2⟩ := Iw e
 refine ⟨ρ, x, o, e1, fun v H1 s1 r1 => ?_⟩
 unfold negD at e2
 split at e2
 ·cases e2; exact ⟨_, r1.int, k _ H1 s1 (.int _)⟩
 ·cases e2
end
end PV
namespace PV
open PySem PySem.Spec L2
open PyProof.Rows hiding St
def bM (G : Gx) (F2 H H' : Hp) (x : V) (d : D) : Prop := Same H H' ∧ ∀ B : List Addr, (∀ a ∈ B, Nt (H a)) → Same F2 (hid B H) → Rep G (hid B H') x d
theorem L_ {G : Gx} {F2 H H' : Hp} {x : V} {d : D} (h : H' = H ∧ Rep G F2 x d) : bM G F2 H H' x d := by
 obtain ⟨rfl, r⟩ := h
 exact ⟨Same.refl _, fun B _ sm => r.mono sm⟩
structure Src (G : Gx) (J : It) (ds : List D) (F1 F2 : Hp) : Prop where
 go : ∀ i H, Same F1 H → i < ds.length → J.go i H
 yld : ∀ i H x H' d, Same F1 H → ds[i]? = some d → J.yld i H x H' → bM G F2 H H' x d
 stop : ∀ i H, Same F1 H → ds.length ≤ i → J.stop i H
def tI (G : Gx) (A : List Addr) (top : Bool) (f : FI) : TI := fun σ H R => ∃ ρ ds, Okp G A σ H ρ ∧ f ρ = some ds ∧ ∀ J H1, Same H H1 → Src G J ds (if top then H1 else hid A H1) (hid A H1) → R J H1
def PFI (X : Cx) (G : Gx) (top : Bool) (tg e : Expr) (f : FI) : Prop := ∀ ⦃A⦄, PI X tg e (tI G A top f)
theorem QV {X : Cx} {tg e : Expr} {t t' : TI} (h : PI X tg e t) (w : ∀ σ H Q, t' σ H Q → t σ H Q) : PI X tg e t' := fun pins s σ H Q I q => h pins s σ H Q I (w σ H Q q)
theorem piOr {X : Cx} {tg e : Expr} {t t' : TI} (h : PI X tg e t) (h' : PI X tg e t') : PI X tg e (fun σ H R => t σ H R ∨ t' σ H R) := fun pins s σ H Q I q => by
 rcases q with q | q
 ·exact h pins s σ H Q I q
 ·exact h' pins s σ H Q I q
section
variable {X : Cx} {G : Gx} {a b c tg : Expr} {fa fb fc : FE} {pos p2 : Pos}
theorem Vm {F1 F2 : Hp} {p : Addr} {xs : List V} {ds : List D} (h : SqT G.K F1 p xs) (r : RepL G F2 xs ds) : Src G (Itt G.K p) ds F1 F2 where
 go := fun i H s hi => ⟨xs, xs[i]'(by rw [r.1]; exact hi), Ie s h, by simp [r.1, hi]⟩
 yld := fun i H x H' d s hd y => L_ ⟨y.1, r.2 i x d (y.2 xs (Ie s h)) hd⟩
 stop := fun i H s hi => ⟨xs, Ie s h, by rw [r.1]; exact hi⟩
theorem Nr (hG : G.K = X.K) (h : PF X G a fa) : PFI X G false tg a (seqI fa) := fun A => QV (piOr (U3 (@h A)) (Wr (@h A))) fun σ H R ⟨ρ, ds, o, e, k⟩ => by
 unfold seqI at e
 split at e
 ·rename_i ds' e1
  cases e
  refine .inl ⟨ρ, _, o, e1, fun v H1 s1 r1 => ?_⟩
  cases r1 with
  | lst h l r => exact ⟨_, rfl, ⟨_, by rw [← hG]; exact DQ.seq h⟩, by rw [← hG]; exact k _ H1 s1 { go := fun i H s hi => ⟨_, _, s.seq h, by simp [l, hi]; rfl⟩, yld := fun i H x H' d s hd y => L_ ⟨y.1, r i x d (y.2 _ (s.seq h)) hd⟩, stop := fun i H s hi => ⟨_, s.seq h, by rw [l]; exact hi⟩ }⟩
 ·rename_i ds' e1
  cases e
  refine .inr ⟨ρ, _, o, e1, fun v H1 s1 r1 => ?_⟩
  cases r1 with
  | tup h l r => exact ⟨_, rfl, ⟨_, by rw [← hG]; exact Ie DQ h⟩, by rw [← hG]; exact k _ H1 s1 (Vm h ⟨l, r⟩)⟩
 ·cases e
theorem Ro (hG : G.K = X.K) (h : PU X G a fa) : PFI X G true tg a (seqI fa) := fun A => QV (piOr (U3 (@h A)) (Wr (@h A))) fun σ H R ⟨ρ, ds, o, e, k⟩ => by
 unfold seqI at e
 split at e
 ·rename_i ds' e1
  cases e
  refine .inl ⟨ρ, _, o, e1, fun v H1 s1 r1 => ?_⟩
  obtain ⟨p, xs, rfl, h, r⟩ := r1.lst
  exact ⟨_, rfl, ⟨_, by rw [← hG]; exact h⟩, by rw [← hG]; exact k _ H1 s1 { go := fun i H s hi => ⟨xs, xs[i]'(by rw [r.1]; exact hi), s.seq h, by simp [r.1, hi]⟩, yld := fun i H x H' d s hd y => L_ ⟨y.1, r.2 i x d (y.2 _ (s.seq h)) hd⟩, stop := fun i H s hi => ⟨_, s.seq h, by rw [r.1]; exact hi⟩ }⟩
 ·rename_i ds' e1
  cases e
  refine .inr ⟨ρ, _, o, e1, fun v H1 s1 r1 => ?_⟩
  obtain ⟨p, xs, rfl, h, r⟩ := r1.tup
  exact ⟨_, rfl, ⟨_, by rw [← hG]; exact h⟩, by rw [← hG]; exact k _ H1 s1 (Vm h r)⟩
 ·cases e
theorem XX {n i : Nat} {d : D} (h : (rngD n)[i]? = some d) : d = .int i := by
 unfold rngD at h
 rw [List.getElem?_map] at h
 cases e : (List.range n)[i]? with
 | none => rw [e] at h; cases h
 | some j =>
  rw [e] at h
  have := (List.getElem?_eq_some_iff.mp e)
  obtain ⟨hi, ej⟩ := this
  rw [List.getElem_range] at ej
  subst ej
  exact (Option.some.inj h).symm
theorem Zf {n : Nat} {F1 F2 : Hp} : Src G (Itr 0 n) (rngD n) F1 F2 where
 go := fun i H s hi => by unfold rngD at hi; show i < n; simpa using hi
 yld := fun i H x H' d s hd y => by
  obtain ⟨y1, y2⟩ := y
  rw [XX hd, y2, Int.zero_add]
  exact L_ ⟨y1, .int _⟩
 stop := fun i H s hi => by unfold rngD at hi; show n ≤ i; simpa using hi
theorem K4 {top : Bool} {p : Pos} (hg : Gl X "range") (hm : X.mg "range" = none) (h : PU X G a fa) (hs : starEach [a] X.env = [(false, eval a X.env)] := by rfl) : PFI X G top tg (.Call (.Name "range" p) [a] [] pos) (rngI fa) := fun A => QV (V_ hg hm (Fx (@h A) JT hs) hs) fun σ H R ⟨ρ, ds, o, e, k⟩ => by
 unfold rngI at e
 split at e
 ·rename_i j e1
  split at e
  ·rename_i hj
   cases e
   exact ⟨ρ, _, o, e1, fun v H1 s1 r1 => ⟨j, by rw [r1.int], hj.1, hj.2, k _ H1 s1 Zf⟩⟩
  ·cases e
 ·cases e
end
structure OkW (G : Gx) (A0 : List Addr) (He : Hp) (A : List Addr) (σ : St) (H : Hp) (ρ : Rho) : Prop where
 same : Same He H
 sub : ∀ a ∈ A0, a ∈ A
 fr : ∀ a ∈ A, a ∈ A0 ∨ He a = none
 l0 : ∀ a ∈ A0, He a ≠ none
 ok : Okp G A σ H ρ
 ow0 : ∀ (i : Nat) (d : D) (a : Addr), ρ[i]? = some (.ow d) → σ[i]? = some (some (.ref a)) → a ∉ A0
 lt : ∀ (x : Addr) (d : D), G.lent = some x → ρ[0]? = some (.ow d) → σ[0]? = some (some (.ref x))
def OkS (G : Gx) (A0 : List Addr) (He : Hp) (σ : St) (H : Hp) (ρ : Rho) : Prop := ∃ A, OkW G A0 He A σ H ρ
def Om (G : Gx) (A0 : List Addr) (He : Hp) (D : Ends) : Out → Prop
 | .nx ρ => ∀ σ H, OkS G A0 He σ H ρ → D.nx σ H
 | .rt d ρ => ∀ v σ H A, OkW G A0 He A σ H ρ → Rep G (hid A H) v d → D.rt v H
 | .bk ρ => ∀ σ H, OkS G A0 He σ H ρ → D.bk σ H
 | .ct ρ => ∀ σ H, OkS G A0 He σ H ρ → D.ct σ H
def tS (G : Gx) (A0 : List Addr) (He : Hp) (g : FS) : TS := fun D σ H => ∃ ρ o, OkS G A0 He σ H ρ ∧ g ρ = some o ∧ Om G A0 He D o
def PSD (X : Cx) (G : Gx) (st : Stmt) (g : FS) : Prop := ∀ ⦃A0⦄ He, PS X st (tS G A0 He g)
def PSDs (X : Cx) (G : Gx) (st : List Stmt) (g : FS) : Prop := ∀ ⦃A0⦄ He, PSs X st (tS G A0 He g)
theorem Okp.set {G : Gx} {A : List Addr} {σ : St} {H : Hp} {ρ : Rho} {v : V} {d : D} (o : Okp G A σ H ρ) (r : Rep G (hid A H) v d) (i : Nat) : Okp G A (σ.set i (some v)) H (ρ.set i (.fz d)) := by
 have key : ∀ (j : Nat) (z : Slot), (ρ.set i (.fz d))[j]? = some z → (j = i ∧ z = .fz d ∧ i < ρ.length) ∨ (j ≠ i ∧ ρ[j]? = some z) := fun j z h => by
  by_cases hj : j = i
  ·subst hj
   by_cases hl : j < ρ.length
   ·rw [List.getElem?_set_self hl] at h
    exact .inl ⟨rfl, (Option.some.inj h).symm, hl⟩
   ·rw [List.getElem?_eq_none (by simpa using Nat.not_lt.mp hl)] at h
    cases h
  ·rw [List.getElem?_set_ne (Ne.symm hj)] at h
   exact .inr ⟨hj, h⟩
 have keyS : ∀ (j : Nat), j ≠ i → (σ.set i (some v))[j]? = σ[j]? := fun j hj => List.getElem?_set_ne (Ne.symm hj)
 refine ⟨by rw [List.length_set, List.length_set]; exact o.len, o.live, fun j e h => ?_, fun j e h => ?_, fun j k e f p h1 h2 h3 h4 => ?_⟩
 ·rcases key j _ h with ⟨hj, hz, hl⟩ | ⟨hj, hz⟩
  ·cases hz
   subst hj
   exact ⟨v, by rw [List.getElem?_set_self (by rw [o.len]; exact hl)], r⟩
  ·obtain ⟨u, q1, q2⟩ := o.fz j e hz
   exact ⟨u, by rw [keyS j hj]; exact q1, q2⟩
 ·rcases key j _ h with ⟨hj, hz, hl⟩ | ⟨hj, hz⟩
  ·cases hz
  ·obtain ⟨u, q1, q2⟩ := o.ow j e hz
   exact ⟨u, by rw [keyS j hj]; exact q1, q2⟩
 ·rcases key j _ h1 with ⟨_, hz, _⟩ | ⟨hj, hz⟩
  ·cases hz
  ·rcases key k _ h2 with ⟨_, hz', _⟩ | ⟨hk, hz'⟩
   ·cases hz'
   ·rw [keyS j hj] at h3
    rw [keyS k hk] at h4
    exact o.inj j k e f p hz hz' h3 h4
theorem OkW.mono {G : Gx} {A0 : List Addr} {He : Hp} {A : List Addr} {σ : St} {H H' : Hp} {ρ : Rho} (o : OkW G A0 He A σ H ρ) (s : Same H H') : OkW G A0 He A σ H' ρ := ⟨o.same.trans s, o.sub, o.fr, o.l0, o.ok.mono s, o.ow0, o.lt⟩
theorem OkW.set {G : Gx} {A0 : List Addr} {He : Hp} {A : List Addr} {σ : St} {H : Hp} {ρ : Rho} {v : V} {d : D} (o : OkW G A0 He A σ H ρ) (r : Rep G (hid A H) v d) (i : Nat) : OkW G A0 He A (σ.set i (some v)) H (ρ.set i (.fz d)) := ⟨o.same, o.sub, o.fr, o.l0, o.ok.set r i, fun j e a h1 h2 => by
  have hj : j ≠ i := by
   intro z
   subst z
   by_cases hl : j < ρ.length
   ·rw [List.getElem?_set_self hl] at h1; cases h1
   ·rw [List.getElem?_eq_none (by simpa using Nat.not_lt.mp hl)] at h1; cases h1
  rw [List.getElem?_set_ne (Ne.symm hj)] at h1 h2
  exact o.ow0 j e a h1 h2, fun x e hx h0 => by
  by_cases hi : i = 0
  ·subst hi
   cases ρ with
   | nil => cases h0
   | cons a r => cases h0
  ·rw [List.getElem?_set_ne hi] at h0 ⊢
   exact o.lt x e hx h0⟩
theorem OkW.base {G : Gx} {A0 : List Addr} {He Hf : Hp} {A : List Addr} {σ : St} {H : Hp} {ρ : Rho} (o : OkW G A0 Hf A σ H ρ) (s : Same He Hf) (l0 : ∀ a ∈ A0, He a ≠ none) : OkW G A0 He A σ H ρ :=
 ⟨s.trans o.same, o.sub, fun a ha => (o.fr a ha).imp id fun z => s.free z, l0, o.ok, o.ow0, o.lt⟩
theorem OkW.here {G : Gx} {A0 : List Addr} {He : Hp} {A : List Addr} {σ : St} {H : Hp} {ρ : Rho} (o : OkW G A0 He A σ H ρ) : Same He (hid (A.filter fun a => decide (a ∉ A0)) H) ∧ OkW G A0 (hid (A.filter fun a => decide (a ∉ A0)) H) A σ H ρ := by
 have hb : ∀ b, b ∈ (A.filter fun a => decide (a ∉ A0)) ↔ b ∈ A ∧ b ∉ A0 := fun b => by simp [List.mem_filter]
 have s1 : Same He (hid (A.filter fun a => decide (a ∉ A0)) H) := fun b u h => by
  rw [Dt]
  ·exact o.same b u h
  ·intro z
   obtain ⟨z1, z2⟩ := (hb b).mp z
   rcases o.fr b z1 with q | q
   ·exact z2 q
   ·rw [q] at h; cases h
 refine ⟨s1, DQ, o.sub, fun a ha => ?_, fun a ha h => ?_, o.ok, o.ow0, o.lt⟩
 ·by_cases hz : a ∈ A0
  ·exact .inl hz
  ·right
   unfold hid
   rw [if_pos ((hb a).mpr ⟨ha, hz⟩)]
 ·rw [Dt (fun z => ((hb a).mp z).2 ha)] at h
  exact (o.ok.live a (o.sub a ha)).ne h
theorem OkW.plain {G : Gx} {A0 : List Addr} {A B : List Addr} {σ : St} {H1 H : Hp} {ρ : Rho} (sub : ∀ a ∈ A0, a ∈ B) (o : OkW G A0 (hid (B.filter fun a => decide (a ∉ A0)) H1) A σ H ρ) : Same (hid B H1) (hid A H) := fun b u h => by
 unfold hid at h
 split at h
 ·cases h
 ·rename_i hb
  have e : hid (B.filter fun a => decide (a ∉ A0)) H1 b = some u := by
   rw [Dt (fun z => hb (List.mem_filter.mp z).1)]; exact h
  rw [Dt]
  ·exact o.same b u e
  ·intro z
   rcases o.fr b z with q | q
   ·exact hb (sub b q)
   ·rw [q] at e; cases e
section
variable {X : Cx} {G : Gx} {a b c tg : Expr} {fa fb fc : FE} {ga : FT} {pos p2 : Pos} {st : Stmt} {rest body : List Stmt} {g gs gb : FS}
theorem Bx : PSDs X G [] nxF := fun A0 He pins s σ H D I ⟨ρ, o, ok, e, k⟩ => by
 cases e
 exact Yw pins s σ H D I (k σ H ok)
theorem Ac (h1 : PSD X G st g) (h2 : PSDs X G rest gs) : PSDs X G (st :: rest) (seqF g gs) := fun A0 He pins s σ H D I ⟨ρ, o, ok, e, k⟩ => by
 refine N6 (@h1 A0 He) (@h2 A0 He) pins s σ H D I ?_
 unfold seqF at e
 split at e
 ·rename_i ρ' e1
  exact ⟨ρ, _, ok, e1, fun σ' H' ok' => ⟨ρ', o, ok', e, k⟩⟩
 ·rename_i hno
  refine ⟨ρ, o, ok, e, ?_⟩
  cases o with
  | nx ρ' => exact absurd e (hno ρ')
  | rt d ρ' => exact k
  | bk ρ' => exact k
  | ct ρ' => exact k
theorem Ai (h1 : PSD X G st g) : PSDs X G [st] g := fun A0 He => Qi (@h1 A0 He)
theorem Ca {s1 s2 : List Stmt} (ht : PFT X G c ga) (h1 : PSDs X G s1 g) (h2 : PSDs X G s2 gs) : PSD X G (.If c s1 s2 pos) (ifS ga g gs) := fun A0 He pins s σ H D I ⟨ρ, o, ⟨A, w⟩, e, k⟩ => by
 refine ak (@ht A) (@h1 A0 He) (@h2 A0 He) pins s σ H D I ?_
 unfold ifS at e
 split at e
 ·rename_i e1
  exact ⟨ρ, _, w.ok, e1, fun H1 s1 => iteT ⟨ρ, o, ⟨A, w.mono s1⟩, e, k⟩⟩
 ·rename_i e1
  exact ⟨ρ, _, w.ok, e1, fun H1 s1 => iteF ⟨ρ, o, ⟨A, w.mono s1⟩, e, k⟩⟩
 ·cases e
theorem Xa {A0 : List Addr} {He : Hp} {A : List Addr} {σ : St} {H : Hp} {ρ : Rho} {o : Out} {D : Ends} {i : Nat} (w : OkW G A0 He A σ H ρ) (e : setF i fa ρ = some o) (k : Om G A0 He D o) : tAsg (tF G A fa) (IW i) D σ H := by
 unfold setF at e
 cases e1 : fa ρ with
 | none => simp [e1] at e
 | some d =>
  simp only [e1, Option.map_some] at e
  cases e
  exact ⟨ρ, d, w.ok, e1, fun v H1 s1 r1 => k _ _ ⟨A, (w.mono s1).set r1 i⟩⟩
theorem Zg {i : Nat} {x : Str} {p : Pos} (h : ∀ te, PE X a te → PS X (.Assign [.Name x p] a pos) (tAsg te (IW i))) (ha : PF X G a fa) : PSD X G (.Assign [.Name x p] a pos) (setF i fa) := fun A0 He pins s σ H D I ⟨ρ, o, ⟨A, w⟩, e, k⟩ =>
 h _ (@ha A) pins s σ H D I (Xa w e k)
theorem Ar (ha : PF X G a fa) : PSD X G (.Return (some a) pos) (retF fa) := fun A0 He pins s σ H D I ⟨ρ, o, ⟨A, w⟩, e, k⟩ => by
 refine Wo (@ha A) pins s σ H D I ?_
 unfold retF at e
 cases e1 : fa ρ with
 | none => simp [e1] at e
 | some d =>
  simp only [e1, Option.map_some] at e
  cases e
  exact ⟨ρ, d, w.ok, e1, fun v H1 s1 r1 => k v σ H1 A (w.mono s1) r1⟩
def tGD (G : Gx) (A0 : List Addr) (He : Hp) (g : FG) : TG := fun v σ H Q => ∃ A ρ d ρ', OkW G A0 He A σ H ρ ∧ Rep G (hid A H) v d ∧ g d ρ = some ρ' ∧ ∀ σ' H', OkS G A0 He σ' H' ρ' → Q σ' H'
def PGD (X : Cx) (G : Gx) (tg : Expr) (g : FG) : Prop := ∀ ⦃A0⦄ He, PG X tg (tGD G A0 He g)
theorem K5 {i : Nat} (h : PG X tg (IW i)) : PGD X G tg (J0 i) := fun A0 He pins s σ H v u Q I r ⟨A, ρ, d, ρ', w, rv, e, k⟩ => by
 cases e
 exact h pins s σ H v u Q I r (k _ _ ⟨A, w.set rv i⟩)
theorem Om.base {A0 : List Addr} {He Hf : Hp} {D : Ends} {o : Out} (k : Om G A0 He D o) (s : Same He Hf) (l0 : ∀ a ∈ A0, He a ≠ none) : Om G A0 Hf D o := by
 cases o with
 | nx ρ => exact fun σ H ⟨A, w⟩ => k σ H ⟨A, w.base s l0⟩
 | rt d ρ => exact fun v σ H A w r => k v σ H A (w.base s l0) r
 | bk ρ => exact fun σ H ⟨A, w⟩ => k σ H ⟨A, w.base s l0⟩
 | ct ρ => exact fun σ H ⟨A, w⟩ => k σ H ⟨A, w.base s l0⟩
theorem Nu {it : Expr} {src : FI} {fg : FG} (hp : PassesOwn (model X.prog X.w) X.A X.env X.xe) (hc : X.calm = true) (hi : PFI X G false tg it src) (hg : PGD X G tg fg) (hb : PSDs X G body gb)
  (hs : ∀ x, foldedSetIterable it X.env x = pure x := by intro _; rfl) : PSD X G (.For tg it body [] pos) (forS src fg gb) := fun A0 He pins s σ H D I ⟨ρ, o, ⟨A, w⟩, e, k⟩ => by
 cases e1 : src ρ with
 | none => simp [forS, e1] at e
 | some ds =>
  have e' : forF (fun d ρ => (fg d ρ).bind gb) ds ρ = some o := by
   have e2 : forF (tgB fg gb) ds ρ = some o := by simpa [forS, e1] using e
   exact e2
  have hb' : PSs X body (fun D σ H => ∃ A0 He, tS G A0 He gb D σ H) := fun pins s σ H D I ⟨A0, He, q⟩ => @hb A0 He pins s σ H D I q
  have hg' : PG X tg (fun v σ H Q => ∃ A0 He, tGD G A0 He fg v σ H Q) := fun pins s σ H v u Q I r ⟨A0, He, q⟩ => @hg A0 He pins s σ H v u Q I r q
  refine cM hp hc (@hi A) hg' hb' hs pins s σ H D I ⟨ρ, ds, w.ok, e1, fun J H1 s1 sr => ?_⟩
  obtain ⟨sHe, w2⟩ := (w.mono s1).here
  have k2 := k.base sHe w.l0
  generalize hHf : hid (A.filter fun a => decide (a ∉ A0)) H1 = Hf at sHe w2 k2
  refine ⟨fun i m σ' H' => m = ds.length - i ∧ i ≤ ds.length ∧ ∃ ρ', OkS G A0 Hf σ' H' ρ' ∧ forF (fun d ρ => (fg d ρ).bind gb) (ds.drop i) ρ' = some o, ⟨ds.length, by simp, Nat.zero_le _, ρ, ⟨A, w2⟩, by simpa using e'⟩, ?_⟩
  rintro i m σ3 H3 ⟨rfl, hil, ρ3, ⟨B, w3⟩, e3⟩
  have pl : Same (hid A H1) (hid B H3) := by rw [← hHf] at w3; exact OkW.plain w.sub w3
  by_cases hlt : i < ds.length
  ·right
   have hd : ds[i]? = some ds[i] := by simp [hlt]
   have ed : ds.drop i = ds[i] :: ds.drop (i + 1) := List.drop_eq_getElem_cons hlt
   rw [ed] at e3
   unfold forF at e3
   refine ⟨sr.go i H3 (pl.trans DQ) hlt, fun σ' H' => ∃ ρ', OkS G A0 Hf σ' H' ρ' ∧ forF (fun d ρ => (fg d ρ).bind gb) (ds.drop (i + 1)) ρ' = some o, fun σ' H' q => ⟨ds.length - (i + 1), by omega, rfl, hlt, q⟩, fun x H' y => ?_⟩
   obtain ⟨sy, rx⟩ := sr.yld i H3 x H' _ (pl.trans DQ) hd y
   refine ⟨A0, Hf, B, ρ3, ds[i], ?_⟩
   cases e4 : fg ds[i] ρ3 with
   | none => simp [e4] at e3
   | some ρ4 =>
    refine ⟨ρ4, w3.mono sy, rx B w3.ok.live pl, rfl, fun σ5 H5 ok5 => ⟨A0, Hf, ρ4, ?_⟩⟩
    cases e5 : gb ρ4 with
    | none => simp [e4, e5] at e3
    | some o5 =>
     refine ⟨o5, ok5, rfl, ?_⟩
     cases o5 with
     | nx ρ5 =>
      simp only [e4, e5, Option.bind_some] at e3
      exact fun σ' H' ok' => ⟨ρ5, ok', e3⟩
     | ct ρ5 =>
      simp only [e4, e5, Option.bind_some] at e3
      exact fun σ' H' ok' => ⟨ρ5, ok', e3⟩
     | bk ρ5 =>
      simp only [e4, e5, Option.bind_some] at e3
      cases e3
      exact fun σ' H' ok' => k2 σ' H' ok'
     | rt d5 ρ5 =>
      simp only [e4, e5, Option.bind_some] at e3
      cases e3
      exact k2
  ·left
   have ei : i = ds.length := by omega
   subst ei
   rw [List.drop_length] at e3
   cases e3
   exact ⟨sr.stop _ H3 (pl.trans DQ) (Nat.le_refl _), k2 σ3 H3 ⟨B, w3⟩⟩
theorem MF (n : Nat) (hp : PassesOwn (model X.prog X.w) X.A X.env X.xe) (ht : PFT X G c ga) (hb : PSDs X G body gb) : PSD X G (.While c body [] pos) (Dz ga gb n) := fun A0 He pins s σ H D I ⟨ρ, o, ok, e, k⟩ => by
 have ht' : PT X c (fun σ H Q => ∃ A, tFT G A ga σ H Q) := fun pins s σ H Q I ⟨A, q⟩ => @ht A pins s σ H Q I q
 refine Wq hp ht' (@hb A0 He) pins s σ H D I ⟨fun m σ' H' => ∃ ρ', OkS G A0 He σ' H' ρ' ∧ Dz ga gb m ρ' = some o, ⟨n, ρ, ok, e⟩, ?_⟩
 rintro m σ1 H1 ⟨ρ1, ⟨A, w1⟩, e1⟩
 cases m with
 | zero => cases e1
 | succ m =>
  unfold Dz at e1
  cases e2 : ga ρ1 with
  | none => simp [e2] at e1
  | some t =>
   refine ⟨A, ρ1, t, w1.ok, e2, fun H2 s2 => ?_⟩
   cases t with
   | false =>
    refine iteF ?_
    simp only [e2] at e1
    cases e1
    exact k σ1 H2 ⟨A, w1.mono s2⟩
   | true =>
    refine iteT ⟨fun σ' H' => ∃ ρ', OkS G A0 He σ' H' ρ' ∧ Dz ga gb m ρ' = some o, fun σ' H' q => ⟨m, Nat.lt_succ_self m, q⟩, ρ1, ?_⟩
    simp only [e2] at e1
    cases e3 : gb ρ1 with
    | none => simp [e3] at e1
    | some o3 =>
     refine ⟨o3, ⟨A, w1.mono s2⟩, rfl, ?_⟩
     cases o3 with
     | nx ρ5 => simp only [e3] at e1; exact fun σ' H' ok' => ⟨ρ5, ok', e1⟩
     | ct ρ5 => simp only [e3] at e1; exact fun σ' H' ok' => ⟨ρ5, ok', e1⟩
     | bk ρ5 => simp only [e3] at e1; cases e1; exact fun σ' H' ok' => k σ' H' ok'
     | rt d5 ρ5 => simp only [e3] at e1; cases e1; exact k
end
def spD (G : Gx) (g : List D → Option D) : Sp := fun vs H Q _ => ∃ A ds d, (∀ a ∈ A, Nt (H a)) ∧ RepL G (hid A H) vs ds ∧ g ds = some d ∧ ∀ v H', Same H H' → Rep G (hid A H') v d → Q v H'
section
variable {X : Cx} {G : Gx} {a : Expr} {es : List Expr} {fs : FA} {pos p : Pos}
theorem gk {k : Nat} {f : Addr} {fd : FuncData} {ps : List Str} {g : List D → Option D} {x : Str} (F : FnOk X.prog X.w X.K X.mg X.base CX0 k f fd ps (spD G g)) (hr : Room k X.A) (hg : Gl X x) (hm : X.mg x = some (.ref f)) (hk : PySem.W.keepIn X.K (.ref f) = true)
  (hb : Binds X.K fd ps []) (ha : PFA X G (a :: es) fs) (hdb : (x == ("__debug__" : Str)) = false := by decide) (he : starEach (a :: es) X.env = (false, eval a X.env) :: starEach es X.env := by rfl) (hpl : (backTo pos (starEach es X.env)).any (·.1) = false := by rfl) :
  PF X G (.Call (.Name x p) (a :: es) [] pos) (Cr g fs) := fun A => Ey (Y6 F hr hg hm hk hb .nil TF (@ha A) hdb he hpl) fun σ H Q ⟨ρ, d, o, e, k⟩ => by
 unfold Cr at e
 cases e1 : fs ρ with
 | none => simp [e1] at e
 | some ds =>
  have e' : g ds = some d := by simpa [e1] using e
  refine ⟨ρ, ds, o, e1, fun vs H1 s1 r1 => ⟨A, ds, d, (o.mono s1).live, by rw [List.append_nil]; exact r1, e', fun v H2 s2 r2 => k v H2 (s1.trans s2) r2⟩⟩
end
theorem Oo {G : Gx} {A : List Addr} {H : Hp} {N : List Str} {vs : List V} {ds : List D} (live : ∀ a ∈ A, Nt (H a)) (r : RepL G (hid A H) vs ds) (hn : vs.length ≤ N.length) : OkS G A H (start N vs) H (Fy N.length ds) := by
 have key : ∀ (i : Nat) (z : Slot), (Fy N.length ds)[i]? = some z → (∃ d, z = .fz d ∧ ds[i]? = some d) ∨ z = .un := fun i z h => by
  unfold Fy at h
  by_cases hi : i < ds.length
  ·rw [List.getElem?_append_left (by simpa using hi), List.getElem?_map] at h
   cases e : ds[i]? with
   | none => rw [e] at h; cases h
   | some d => rw [e] at h; exact .inl ⟨d, (Option.some.inj h).symm, rfl⟩
  ·rw [List.getElem?_append_right (by simpa using Nat.not_lt.mp hi), List.getElem?_replicate] at h
   split at h
   ·exact .inr (Option.some.inj h).symm
   ·cases h
 refine ⟨A, Same.refl H, fun _ h => h, fun a h => .inl h, fun a ha => (live a ha).ne, ⟨?_, live, fun i d h => ?_, fun i d h => ?_, fun i j d e a h _ _ _ => ?_⟩, fun i d a h _ => ?_, fun x d _ h => ?_⟩
 ·unfold L2.start Fy
  rw [List.length_append, List.length_append, List.length_map, List.length_map, List.length_replicate, List.length_replicate, r.1]
 ·rcases key i _ h with ⟨d', e, hd⟩ | e
  ·cases e
   obtain ⟨v, h1, h2⟩ := r.get hd
   refine ⟨v, ?_, h2⟩
   unfold L2.start
   rw [List.getElem?_append_left (by rw [List.length_map]; exact (List.getElem?_eq_some_iff.mp h1).1), List.getElem?_map, h1]
   rfl
  ·cases e
 ·rcases key i _ h with ⟨d', e, hd⟩ | e
  ·cases e
  ·cases e
 ·rcases key i _ h with ⟨d', e, hd⟩ | e
  ·cases e
  ·cases e
 ·rcases key i _ h with ⟨d', e, hd⟩ | e
  ·cases e
  ·cases e
 ·rcases key 0 _ h with ⟨d', e, hd⟩ | e
  ·cases e
  ·cases e
theorem fn_D {P : Program} {w : World} {G : Gx} {mg : Str → Option Value} {base : Heap} {x qual : Str} {st : Stmt} {f : Addr} {fd : FuncData} {N ps : List Str} {k : Nat} {b : FS} (F : Fun G.K x qual st f fd) (S : FnScope N ps (Ae st)) (hl : ps.length ≤ N.length)
  (hb : ∀ (cdv : Value) (A : Around) (outer : List Env) (s : Shared) (H : Hp) (E : XK), Room k (A.deeper (envOfC qual (Ae st) s.heap.objs.size f cdv)) → PSDs (cxOf CX0 P w G.K mg base N qual (Ae st) f cdv A outer s H E).nox G (DG st) b) :
  FnOk P w G.K mg base CX0 (k + 1) f fd ps (spD G (runF N.length ps.length b)) := by
 refine F.ok S (fun vs H Q E h => ?_) (fun cdv A outer s H vs Q E hr h => ?_)
 ·obtain ⟨A, ds, d, lv, r, e, _⟩ := h
  unfold runF at e
  split at e
  ·rename_i hz; rw [r.1]; exact hz
  ·cases e
 ·obtain ⟨A0, ds, d, lv, r, e, k⟩ := h
  unfold runF at e
  split at e
  ·rename_i hz
   have hzz := hb cdv A outer s H E hr
   refine ⟨_, @hzz A0 H, Fy N.length ds, ?_⟩
   cases e1 : b (Fy N.length ds) with
   | none => simp [e1] at e
   | some o =>
    refine ⟨o, Oo lv r (by rw [r.1, hz]; exact hl), rfl, ?_⟩
    cases o with
    | nx ρ =>
     simp only [e1] at e
     cases e
     exact fun σ H' ⟨A, w⟩ => k _ H' w.same .non
    | rt d' ρ' =>
     simp only [e1] at e
     cases e
     exact fun v σ H' A w r' => k v H' w.same (r'.mono (Ff w.sub))
    | bk ρ => simp [e1] at e
    | ct ρ => simp [e1] at e
  ·cases e
end PV
namespace PV
open PySem PySem.Spec L2
open PyProof.Rows hiding St
section
variable {X : Cx} {G : Gx} {a b c : Expr} {fa fb fc : FE} {pos p2 px : Pos} {scope : Scope} {t : Str} {elt iter : Expr} {ifs : List Expr} {ga : FT} {fe : FE} {src : FI}
def PFTs (X : Cx) (G : Gx) (ifs : List Expr) (f : FT) : Prop := ∀ ⦃A⦄, PTs X ifs (tFT G A f)
theorem HQ : PFTs X G [] allT := fun A pins s σ H Q I ⟨ρ, b, o, e, k⟩ => by
 cases e
 exact ZP pins s σ H Q I (k H (Same.refl H))
theorem Xb (h : PFT X G a ga) : PFTs X G [a] ga := fun A => ZQ (@h A)
theorem Okp.fill {A : List Addr} {σ : St} {H Hc : Hp} {ρ : Rho} {p : Addr} (o : Okp G A σ H ρ) (s : Same H Hc) (hp : H p = none) (hc : Nt (Hc p)) : Okp G (p :: A) σ Hc ρ := by
 have sm : Same (hid A H) (hid (p :: A) Hc) := fun b u h => by
  unfold hid at h
  split at h
  ·cases h
  ·rename_i hb
   rw [Dt]
   ·exact s b u h
   ·intro z
    rcases List.mem_cons.mp z with z | z
    ·rw [z, hp] at h; cases h
    ·exact hb z
 refine ⟨o.len, fun a ha => ?_, fun i d h => ?_, fun i d h => ?_, o.inj⟩
 ·rcases List.mem_cons.mp ha with z | z
  ·rw [z]; exact hc
  ·exact (o.mono s).live a z
 ·obtain ⟨v, h1, h2⟩ := o.fz i d h
  exact ⟨v, h1, h2.mono sm⟩
 ·obtain ⟨a, h1, h2, h3⟩ := o.ow i d h
  refine ⟨a, h1, List.mem_cons_of_mem _ h2, ?_⟩
  cases d with
  | lst ds => obtain ⟨xs, q1, q2⟩ := h3; exact ⟨xs, s _ _ q1, q2.mono sm⟩
  | dk ds => obtain ⟨xs, q1, q2, q3⟩ := h3; exact ⟨xs, s _ _ q1, q2, q3.mono sm⟩
  | dt ds => obtain ⟨xs, q1, q2, q3⟩ := h3; exact ⟨xs, s _ _ q1, q2, q3.mono sm⟩
  | ob c gs => obtain ⟨C, dx, xs, q1, q2, q3⟩ := h3; exact ⟨C, dx, xs, s _ _ q1, q2, q3.mono sm⟩
  | _ => exact h3.elim
theorem Okp.snoc {A : List Addr} {σ : St} {H : Hp} {ρ : Rho} {v : V} {d : D} (o : Okp G A σ H ρ) (r : Rep G (hid A H) v d) : Okp G A (σ ++ [some v]) H (ρ ++ [.fz d]) := by
 have key : ∀ (j : Nat) (z : Slot), (ρ ++ [.fz d])[j]? = some z → (j = ρ.length ∧ z = .fz d) ∨ (j < ρ.length ∧ ρ[j]? = some z) := fun j z h => by
  by_cases hj : j < ρ.length
  ·rw [List.getElem?_append_left hj] at h; exact .inr ⟨hj, h⟩
  ·rw [List.getElem?_append_right (Nat.not_lt.mp hj)] at h
   cases q : j - ρ.length with
   | zero => rw [q] at h; exact .inl ⟨by omega, (Option.some.inj h).symm⟩
   | succ n => rw [q] at h; cases h
 have keyS : ∀ (j : Nat), j < ρ.length → (σ ++ [some v])[j]? = σ[j]? := fun j hj => List.getElem?_append_left (by rw [o.len]; exact hj)
 refine ⟨by rw [List.length_append, List.length_append, o.len]; rfl, o.live, fun j e h => ?_, fun j e h => ?_, fun j k e f p h1 h2 h3 h4 => ?_⟩
 ·rcases key j _ h with ⟨hj, hz⟩ | ⟨hj, hz⟩
  ·cases hz
   subst hj
   exact ⟨v, by rw [List.getElem?_append_right (by rw [o.len]; exact Nat.le_refl _), o.len, Nat.sub_self]; rfl, r⟩
  ·obtain ⟨u, q1, q2⟩ := o.fz j e hz
   exact ⟨u, by rw [keyS j hj]; exact q1, q2⟩
 ·rcases key j _ h with ⟨hj, hz⟩ | ⟨hj, hz⟩
  ·cases hz
  ·obtain ⟨u, q1, q2⟩ := o.ow j e hz
   exact ⟨u, by rw [keyS j hj]; exact q1, q2⟩
 ·rcases key j _ h1 with ⟨_, hz⟩ | ⟨hj, hz⟩
  ·cases hz
  ·rcases key k _ h2 with ⟨_, hz'⟩ | ⟨hk, hz'⟩
   ·cases hz'
   ·rw [keyS j hj] at h3
    rw [keyS k hk] at h4
    exact o.inj j k e f p hz hz' h3 h4
theorem Vn {A : List Addr} {σ : St} {H : Hp} {Q : VK} (h : tF G A (Fq src ga fe) σ H Q) : XJ (tI G A true src) (fun σ H Q => ∃ A, tFT G A ga σ H Q) (fun σ H Q => ∃ A, tF G A fe σ H Q) σ H Q := by
 obtain ⟨ρ, d, o, e, k⟩ := h
 unfold Fq at e
 cases e1 : src ρ with
 | none => simp [e1] at e
 | some ds =>
  rw [e1] at e
  have e' : (if ds.length ≤ sizeLine then (Eo ρ ga fe ds).map D.lst else none) = some d := e
  split at e'
  ·rename_i hz
   cases e2 : Eo ρ ga fe ds with
   | none => simp [e2] at e'
   | some out =>
    simp only [e2, Option.map_some] at e'
    cases e'
    refine ⟨ρ, ds, o, e1, fun J H1 s1 sr p hp => ?_⟩
    have o1 := o.mono s1
    have npA : p ∉ A := fun z => (o1.live p z).ne hp
    refine ⟨fun i m ys Hc => m = ds.length - i ∧ i ≤ ds.length ∧ Hc p = some (.lst ys) ∧ Same H1 Hc ∧ ys.length ≤ i ∧ ∃ es rest, RepL G (hid (p :: A) Hc) ys es ∧ Eo ρ ga fe (ds.drop i) = some rest ∧ es ++ rest = out,
     ⟨ds.length, by simp, Nat.zero_le _, Cj, Et hp _, Nat.le_refl _, [], out, RepL.nil, by simpa using e2, rfl⟩, ?_⟩
    rintro i m ys Hc ⟨rfl, hil, hpc, sc, hy, es, rest, rr, er, eo⟩
    by_cases hlt : i < ds.length
    ·right
     have hd : ds[i]? = some ds[i] := by simp [hlt]
     have ed : ds.drop i = ds[i] :: ds.drop (i + 1) := List.drop_eq_getElem_cons hlt
     rw [ed] at er
     unfold Eo at er
     refine ⟨sr.go i Hc sc hlt, fun x H' y => ?_⟩
     obtain ⟨sy, rx⟩ := sr.yld i Hc x H' _ sc hd y
     have okc : Okp G (p :: A) σ Hc ρ := o1.fill sc hp (by rw [hpc]; exact Nt.lst)
     have sm : Same (hid A H1) (hid (p :: A) Hc) := fun b u h => by
      unfold hid at h
      split at h
      ·cases h
      ·rename_i hb
       rw [Dt]
       ·exact sc b u h
       ·intro z
        rcases List.mem_cons.mp z with z | z
        ·rw [z, hp] at h; cases h
        ·exact hb z
     have ok2 := (okc.mono sy).snoc (rx _ okc.live sm)
     have hpc := sy _ _ hpc
     have rr := rr.mono (DW sy)
     have sc := sc.trans sy
     cases eg : ga (ρ ++ [.fz ds[i]]) with
     | none => simp [eg] at er
     | some b =>
      refine ⟨p :: A, _, b, ok2, eg, fun H2 s2 => ?_⟩
      cases b with
      | false =>
       refine iteF ⟨ds.length - (i + 1), by omega, rfl, hlt, s2 _ _ hpc, sc.trans s2, Nat.le_succ_of_le hy, es, rest, rr.mono (DW s2), by simpa [eg] using er, eo⟩
      | true =>
       simp only [eg] at er
       cases ee : fe (ρ ++ [.fz ds[i]]) with
       | none => simp [ee] at er
       | some yd =>
        cases ec : Eo ρ ga fe (ds.drop (i + 1)) with
        | none => simp [ee, ec] at er
        | some rest' =>
         simp only [ee, ec, Option.bind_some, Option.map_some] at er
         cases er
         refine iteT ⟨p :: A, _, yd, ok2.mono s2, ee, fun yv H3 s3 r3 => ?_⟩
         have hp3 := s3 _ _ (s2 _ _ hpc)
         refine ⟨hp3, by omega, ds.length - (i + 1), by omega, rfl, hlt, Cj, fun b u q => ?_, by rw [List.length_append]; simp; omega, es ++ [yd], rest', ?_, ec, by rw [List.append_assoc]; exact eo⟩
         ·have hb : b ≠ p := CT q hp
          rw [Bg hb]
          exact s3 _ _ (s2 _ _ (sc _ _ q))
         ·rw [KY List.mem_cons_self]
          exact (rr.mono (DW (s2.trans s3))).append (.cons r3 .nil)
    ·left
     have ei : i = ds.length := by omega
     subst ei
     rw [List.drop_length] at er
     simp only [Eo] at er
     cases er
     rw [List.append_nil] at eo
     subst eo
     refine ⟨sr.stop _ Hc sc (Nat.le_refl _), k _ Hc (s1.trans sc) ?_⟩
     have q := rr.mono (Ff (A := A) fun a ha => List.mem_cons_of_mem _ ha)
     exact .lst (.of (by rw [Dt npA]; exact hpc)) q.1 q.2
  ·cases e'
theorem Jr (N' : List Str) (eN : Es t X.N ++ [t] = N') (c : CompOk X scope t) (hc : X.calm = true) (hi : PFI X G true (.Name t px) iter src) (hI : ∀ s2 H2 fp, PFTs { Gr X scope t s2 H2 fp with N := N' } G ifs ga) (hE : ∀ s2 H2 fp, PF { Gr X scope t s2 H2 fp with N := N' } G elt fe)
  (hs : ∀ x, foldedSetIterable iter X.env x = pure x := by intro _; rfl) : PF X G (.ListComp elt [⟨.Name t px, iter, ifs, 0⟩] scope pos) (Fq src ga fe) := by
 subst eN
 intro A
 refine Ey (ZR (tc := fun σ H Q => ∃ A, tFT G A ga σ H Q) (te := fun σ H Q => ∃ A, tF G A fe σ H Q) c hc (@hi A) (fun s2 H2 fp => ?_) (fun s2 H2 fp => ?_) hs) fun _ _ _ h => Vn h
 ·exact fun pins s σ H Q I ⟨A, q⟩ => hI s2 H2 fp pins s σ H Q I q
 ·exact fun pins s σ H Q I ⟨A, q⟩ => hE s2 H2 fp pins s σ H Q I q
theorem Tp {i : Nat} {y : Str} {py spos : Pos} (N' : List Str) (eN : Es t X.N ++ [t] = N') (c : CompOk X scope t) (hc : X.calm = true) (hN : X.N.Nodup) (hi' : X.N[i]? = some y) (hx : Loc X.env.scope y) (hi : PFI X G true (.Name t px) iter src)
  (hI : ∀ s2 H2 fp, PFTs { Gr X scope t s2 H2 fp with N := N' } G ifs ga) (hE : ∀ s2 H2 fp, PF { Gr X scope t s2 H2 fp with N := N' } G elt fe) (hsw : swapsWith (.ListComp elt [⟨.Name t px, iter, ifs, 0⟩] scope pos) (some (.Name y py)) spos.line X.env = pure true := by rfl)
  (hf : X.fn y = true ∨ X.env.scope.names.lookup y = some .local := by first | exact .inl rfl | exact .inr rfl | assumption) (hs : ∀ x, foldedSetIterable iter X.env x = pure x := by intro _; rfl) :
  PSD X G (.Assign [.Name y py] (.ListComp elt [⟨.Name t px, iter, ifs, 0⟩] scope pos) spos) (setF i (Fq src ga fe)) := by
 subst eN
 intro A0 He pins s σ H D I ⟨ρ, o, ⟨A, w⟩, e, k⟩
 refine ZS (tc := fun σ H Q => ∃ A, tFT G A ga σ H Q) (te := fun σ H Q => ∃ A, tF G A fe σ H Q) c hc hN hi' hx (@hi A) (fun s2 H2 fp => ?_) (fun s2 H2 fp => ?_) hsw hf hs pins s σ H D I (Vn (Xa w e k))
 ·exact fun pins s σ H Q I ⟨A, q⟩ => hI s2 H2 fp pins s σ H Q I q
 ·exact fun pins s σ H Q I ⟨A, q⟩ => hE s2 H2 fp pins s σ H Q I q
end
end PV
namespace PV
open PySem PySem.Spec L2
open PyProof.Rows hiding St
section
variable {prog : Program} {w : World} {A : Around} {R : Result → Shared → Prop} {I : Addr} {fp wr : List Addr} {n : Nat} {P : Nat → Value → Prop} {Sx : Nat → Heap → Prop} {kw : List (Str × Value)}
end
section
variable {prog : Program} {w : World} {A : Around} {E : Value → Shared → Prop} {s : Shared} {l : Addr} {xs : Array (Int × Tok)}
end
section
variable {X : Cx} {G : Gx} {a b : Expr} {fa fb : FE} {pos p kpos : Pos}
theorem Oq {H : Hp} : ∀ {ds : List D} {xs : List V} {ns : List Str}, RepL G H xs ds → JQ ds = some ns → xs = ns.map V.str
 | [], xs, ns, r, h => by cases h; rw [r.nil_inv]; rfl
 | d :: ds, xs, ns, r, h => by
  obtain ⟨x, ys, rfl, r1, r2⟩ := r.uncons
  cases d with
  | str i =>
   simp only [JQ] at h
   cases e : JQ ds with
   | none => simp [e] at h
   | some ms =>
    simp only [e, Option.map_some] at h
    cases h
    cases r1
    rw [Oq r2 e]
    rfl
  | _ => simp [JQ] at h
theorem Ot {ns : List Str} : ∀ {us : List Value}, Vals (ns.map V.str) us → StrsAre us ns := by
 induction ns with
 | nil => intro us r; cases r; exact .nil
 | cons n ns ih =>
  intro us r
  rw [List.map_cons] at r
  cases r with
  | cons r1 r2 =>
   obtain ⟨tk, rfl⟩ := r1
   exact .cons n tk (ih r2)
theorem Zh : MtR X "str.join" (fun x vs H Q => ∃ z p ys, x = .str z ∧ vs = [.ref p] ∧ (SqL X.K H p (ys.map V.str) ∨ SqT X.K H p (ys.map V.str)) ∧ (ys.map (·.length)).sum + ys.length * z.length ≤ 16777216 ∧ Q (.str (Txt.join z ys)) H) := by
 intro pins s σ H x xs v us Q I rx rs h
 obtain ⟨z, p, ys, rfl, rfl, hs, hz, k⟩ := h
 obtain ⟨t, rfl⟩ := rx
 obtain ⟨u, rfl, ru⟩ := vals1 rs
 cases ru
 rcases hs with hs | hs
 ·obtain ⟨its, rv, pl, _⟩ := I.list hs
  exact join_list pl.isList (by simpa using Ot rv) hz fun t' tk => ⟨.str _, H, I.tok _, ⟨t', rfl⟩, k⟩
 ·obtain ⟨its, rv, pl, _⟩ := I.tuple hs
  exact join_tuple (show s.heap.IsTuple p its.toArray from pl) (by simpa using Ot rv) hz fun t' tk => ⟨.str _, H, I.tok _, ⟨t', rfl⟩, k⟩
theorem Zi {apos : Pos} (hG : G.K = X.K) (ha : PU X G a fa) (hb : PU X G b fb) (hbase : attributeBase a "join" X.env (eval a X.env) = eval a X.env := by rfl)
  (hfew : ((backTo pos (starEach [b] X.env)).all (fun x => !x.1) && (backToKw pos (keywordEach [] X.env)).all (fun x => x.1.isSome) && decide ([b].length + ([] : List Keyword).length + (if ([] : List Keyword).isEmpty then 0 else 1) < 30)) = true := by rfl)
  (hline : (apos.endLine == pos.line) = true := by rfl) (hs : starEach [b] X.env = [(false, eval b X.env)] := by rfl) :
  PF X G (.Call (.Attribute a "join" apos) [b] [] pos) (bF VD fa fb) := fun A => Ey (gQ PySem.F.plainAttrs_str PySem.F.slot_str_join PySem.F.type_str_join Zh (@ha A) (Fx (@hb A) JT hs) hbase hfew hline hs rfl) fun σ H Q ⟨ρ, d, o, e, k⟩ => by
 obtain ⟨dx, dy, e1, e2, e3⟩ := Vl e
 unfold VD at e3
 split at e3
 ·rename_i z ds
  cases ei : JQ ds with
  | none => simp [ei] at e3
  | some ys =>
   simp only [ei, Option.bind_some] at e3
   split at e3
   ·rename_i hz
    cases e3
    refine ⟨ρ, _, o, e1, fun v H1 s1 r1 => ?_⟩
    cases r1.str
    refine ⟨rfl, ρ, _, o.mono s1, e2, fun u H2 s2 r2 => ?_⟩
    obtain ⟨q, xs, rfl, h1, rr⟩ := r2.lst
    have ex := Oq rr ei
    subst ex
    exact ⟨z, q, ys, rfl, rfl, by rw [← hG]; exact .inl h1, hz, by rw [show Txt.join z ys = Str.join z ys from StrLaws.glued_eq_join z ys]; exact k _ H2 (s1.trans s2) (.str _)⟩
   ·cases e3
 ·rename_i z ds
  cases ei : JQ ds with
  | none => simp [ei] at e3
  | some ys =>
   simp only [ei, Option.bind_some] at e3
   split at e3
   ·rename_i hz
    cases e3
    refine ⟨ρ, _, o, e1, fun v H1 s1 r1 => ?_⟩
    cases r1.str
    refine ⟨rfl, ρ, _, o.mono s1, e2, fun u H2 s2 r2 => ?_⟩
    obtain ⟨q, xs, rfl, h1, rr⟩ := r2.tup
    have ex := Oq rr ei
    subst ex
    exact ⟨z, q, ys, rfl, rfl, by rw [← hG]; exact .inr h1, hz, by rw [show Txt.join z ys = Str.join z ys from StrLaws.glued_eq_join z ys]; exact k _ H2 (s1.trans s2) (.str _)⟩
   ·cases e3
 ·cases e3
theorem Zj (K : PySem.W.Frag) (n T : String) : PySem.W.kitOne K (.type n) (.type T) = PySem.W.kitOne [] (.type n) (.type T) := rfl
def TyX (K : PySem.W.Frag) (H : Hp) (x : V) (n : String) : Prop :=
 TyOf K H x (.type n) ∨ (n = "list" ∧ ∃ a xs, x = .ref a ∧ SqL K H a xs) ∨ (n = "tuple" ∧ ∃ a xs, x = .ref a ∧ SqT K H a xs)
theorem dR {A : List Addr} {H : Hp} {v : V} {d : D} {n : String} (r : RepT G A H v d) (h : tyD d = some n) : TyX G.K H v n := by
 cases d with
 | non => cases h; rw [r.non]; exact .inl .non
 | bl b => cases h; rw [r.bl]; exact .inl (.bl b)
 | int b => cases h; rw [r.int]; exact .inl (.int b)
 | str b => cases h; rw [r.str]; exact .inl (.str b)
 | lst ds => cases h; obtain ⟨a, xs, e, q, _⟩ := r.lst; exact .inr (.inl ⟨rfl, a, xs, e, q⟩)
 | tup ds => cases h; obtain ⟨a, xs, e, q, _⟩ := r.tup; exact .inr (.inr ⟨rfl, a, xs, e, q⟩)
 | _ => cases h
theorem Xc (T : String) : JS X (.builtin "isinstance") (fun xs H Q => ∃ x n b, xs = [x, .ty T] ∧ TyX X.K H x n ∧ PySem.W.kitOne X.K (.type n) (.type T) = some b ∧ Q (.bl b) H) := by
 intro pins s σ H xs us Q I r h
 obtain ⟨x, n, b, rfl, ty, e, k⟩ := h
 obtain ⟨u, c, rfl, ru, rc⟩ := vals2 r
 cases rc
 rcases ty with ty | ⟨rfl, a, ys, rfl, q⟩ | ⟨rfl, a, ys, rfl, q⟩
 ·exact WK I ru ty e fun tk => ⟨.bl b, H, I.tok _, rfl, k⟩
 ·cases ru
  obtain ⟨its, _, p, _⟩ := I.list q
  obtain ⟨o, ho, hc, _⟩ := p.isList
  exact PySem.W.kia_one PySem.W.kitx_list I.kIn ⟨o, ho, hc⟩ e (fun z => nomatch z) fun tk => ⟨.bl b, H, I.tok _, rfl, k⟩
 ·cases ru
  obtain ⟨its, _, p, _⟩ := I.tuple q
  obtain ⟨o, ho, hc, _⟩ := (show s.heap.IsTuple a its.toArray from p)
  exact PySem.W.kia_one PySem.W.kitx_tuple I.kIn ⟨o, ho, hc⟩ e (fun z => nomatch z) fun tk => ⟨.bl b, H, I.tok _, rfl, k⟩
def Rr (T : String) : Bool := (["NoneType", "bool", "int", "str", "list", "tuple"] : List String).all fun n => PySem.W.kitOne [] (.type n) (.type T) == some (n == T || (n == "bool" && T == "int"))
theorem WX {T : String} (h : Rr T = true) {d : D} {n : String} (e : tyD d = some n) : PySem.W.kitOne [] (.type n) (.type T) = some (n == T || (n == "bool" && T == "int")) := by
 unfold Rr at h
 rw [List.all_eq_true] at h
 have m : n ∈ (["NoneType", "bool", "int", "str", "list", "tuple"] : List String) := by
  cases d <;> simp [tyD] at e <;> subst e <;> simp
 simpa using h n m
theorem dU {x t : Str} {T : String} {tp : Pos} (hT : Rr T = true) (hG : G.K = X.K) (hg : Gl X x) (hm : X.mg x = none) (hv : bootBuiltins x = some (.builtin "isinstance")) (ht : Gl X t) (hmt : X.mg t = none) (hvt : bootBuiltins t = some (.type T)) (ha : PU X G a fa)
  (hn : x ≠ "__name__" := by decide) (hdb : (x == ("__debug__" : Str)) = false := by decide) (hnt : t ≠ "__name__" := by decide) (hdt : (t == ("__debug__" : Str)) = false := by decide) (he : starEach [a, .Name t tp] X.env = (false, eval a X.env) :: starEach [.Name t tp] X.env := by rfl) (he2 : starEach [.Name t tp] X.env = [(false, eval (.Name t tp) X.env)] := by rfl) :
  PF X G (.Call (.Name x p) [a, .Name t tp] [] pos) (uF (isiD T) fa) := fun A => Ey (S9 (Xc T) hg hm hv (Fx (@ha A) (Fx (Yt (v := .ty T) ht hmt hvt rfl hnt hdt) JT he2) he) hn hdb he (by rw [he2]; rfl)) fun σ H Q ⟨ρ, d, o, e, k⟩ => by
 obtain ⟨dx, e1, e2⟩ := Iw e
 unfold isiD at e2
 cases et : tyD dx with
 | none => simp [et] at e2
 | some n =>
  simp only [et, Option.map_some] at e2
  cases e2
  exact ⟨ρ, dx, o, e1, fun v H1 s1 r1 => ⟨v, n, _, rfl, by rw [← hG]; exact dR r1 et, by rw [Zj]; exact WX hT et, k _ H1 s1 (.bl _)⟩⟩
theorem WY : Rr "tuple" = true := by decide +kernel
end
end PV
namespace PV
open PySem PySem.Spec L2
open PyProof.Rows hiding St
theorem Dg : bootBuiltins "len" = some (.builtin "len") := by decide +kernel
theorem Pg : bootBuiltins "isinstance" = some (.builtin "isinstance") := by decide +kernel
def Ru (N : List Str) (sc scope : Scope) (t : Str) : Bool :=
 scope.names.all (fun y => y.2 != .cell) && scope.kind == .function && scope.names.all (fun y => y.2 != .local || scope.names.lookup y.1 == some .local) && scope.names.lookup t == some .local
  && scope.names.all (fun y => y.2 != .local || y.1 == t || !N.contains y.1) && scope.names.all (fun y => y.2 != .free || sc.names.lookup y.1 == some .cell || sc.names.lookup y.1 == some .free) && scope.names.all (fun y => y.1 != Str.empty) && decide (Es t N ++ [t]).Nodup
theorem Wa {X : Cx} {N : List Str} {sc scope : Scope} {t : Str} (hN : X.N = N) (hs : X.env.scope = sc) (h : Ru N sc scope t = true) : CompOk X scope t := by
 unfold Ru at h
 simp only [Bool.and_eq_true, List.all_eq_true, decide_eq_true_eq, beq_iff_eq, bne_iff_ne, Bool.or_eq_true, ne_eq] at h
 obtain ⟨⟨⟨⟨⟨⟨⟨h1, h2⟩, h3⟩, h4⟩, h5⟩, h6⟩, h7⟩, h8⟩ := h
 refine ⟨h1, h2, fun y hy e => ?_, h4, fun y hy e => ?_, fun y hy e => ?_, h7, by rw [hN]; exact h8⟩
 ·rcases h3 y hy with z | z
  ·exact absurd e z
  ·exact z
 ·rcases h5 y hy with (z | z) | z
  ·exact absurd e z
  ·exact .inl z
  ·right
   rw [hN]
   simpa using z
 ·have hk : ∀ x, X.env.kindOf x = sc.names.lookup x := fun x => by rw [← hs]; rfl
  rw [hk]
  rcases h6 y hy with (z | z) | z
  ·exact absurd e z
  ·exact .inl z
  ·exact .inr z
theorem Zk {P : Program} {w : World} {K : PySem.W.Frag} {mg : Str → Option Value} {base : Heap} {G : Gx} {k : Nat} {f : Addr} {fd : FuncData} {ps : List Str} : FnOk P w K mg base CX0 k f fd ps (spD G fun _ => none) := by
 have no : ∀ vs H Q E, ¬ spD G (fun _ => none) vs H Q E := fun vs H Q E ⟨_, _, _, _, _, e, _⟩ => nomatch e
 exact ⟨fun vs H Q E h => absurd h (no vs H Q E), fun A outer s H args us vs Q E _ _ _ _ h => absurd h (no vs H Q E)⟩
theorem QW {G : Gx} {a : Addr} {od : Option Addr} {n : Nat} {sl : Array (Option Value)} {its : Array Value} {xs : List Str} (h : G.K.lookup a = some ⟨.type "tuple", od, .seq its n, sl⟩) (hz : its.size ≤ sizeLine) (r : Vals (xs.map V.str) its.toList) : Rep G (fun _ => none) (.ref a) (.tup (xs.map .str)) := by
 refine .tup (xs := xs.map V.str) (.inr ⟨_, its, n, h, rfl, rfl, hz, r⟩) (by simp) fun i x d h1 h2 => ?_
 rw [List.getElem?_map] at h1 h2
 cases e : xs[i]? with
 | none => rw [e] at h1; cases h1
 | some z => rw [e] at h1 h2; cases h1; cases h2; exact .str z
end PV
namespace PySem
end PySem
namespace PV
open PySem PySem.Spec L2
open PyProof.Rows hiding St
section
variable {X : Cx} {G : Gx} {a b c : Expr} {fa fb fc : FE} {pos p2 px : Pos} {es : List Expr} {fs : FA}
def tN (G : Gx) (A : List Addr) (f : FE) : TE := fun σ H Q => ∃ ρ d, Okp G A σ H ρ ∧ f ρ = some d ∧ ∀ p H', Same H H' → H p = none → Top G (p :: A) H' p d → Q (.ref p) H'
def PN (X : Cx) (G : Gx) (e : Expr) (f : FE) : Prop := ∀ ⦃A⦄, PE X e (tN G A f)
theorem QX {A : List Addr} {H H' : Hp} {p : Addr} (s : Same H H') (hp : H p = none) : Same (hid A H) (hid (p :: A) H') := fun b u h => by
 unfold hid at h
 split at h
 ·cases h
 ·rename_i hb
  rw [Dt]
  ·exact s b u h
  ·intro z
   rcases List.mem_cons.mp z with z | z
   ·rw [z, hp] at h; cases h
   ·exact hb z
theorem Top.fill {A : List Addr} {H H' : Hp} {p q : Addr} {d : D} (t : Top G A H q d) (s : Same H H') (hp : H p = none) : Top G (p :: A) H' q d := by
 have sm := QX (A := A) s hp
 cases d with
 | lst ds => obtain ⟨xs, q1, q2⟩ := t; exact ⟨xs, s _ _ q1, q2.mono sm⟩
 | dk ds => obtain ⟨xs, q1, q2, q3⟩ := t; exact ⟨xs, s _ _ q1, q2, q3.mono sm⟩
 | dt ds => obtain ⟨xs, q1, q2, q3⟩ := t; exact ⟨xs, s _ _ q1, q2, q3.mono sm⟩
 | ob c gs => obtain ⟨C, dx, xs, q1, q2, q3⟩ := t; exact ⟨C, dx, xs, s _ _ q1, q2, q3.mono sm⟩
 | _ => exact t.elim
theorem Top.live {A : List Addr} {H : Hp} {q : Addr} {d : D} (t : Top G A H q d) : Nt (H q) := by
 cases d with
 | lst ds => obtain ⟨xs, q1, q2⟩ := t; rw [q1]; exact Nt.lst
 | dk ds => obtain ⟨xs, q1, q2, q3⟩ := t; rw [q1]; exact Nt.dK
 | dt ds => obtain ⟨xs, q1, q2, q3⟩ := t; rw [q1]; exact Nt.dT
 | ob c gs => obtain ⟨C, dx, xs, q1, q2, q3⟩ := t; rw [q1]; exact Nt.ins
 | _ => exact t.elim
theorem DR {α : Type} {l : List α} {i j : Nat} {x z : α} (h : (l.set i x)[j]? = some z) : (j = i ∧ z = x ∧ i < l.length) ∨ (j ≠ i ∧ l[j]? = some z) := by
 by_cases hj : j = i
 ·subst hj
  by_cases hl : j < l.length
  ·rw [List.getElem?_set_self hl] at h
   exact .inl ⟨rfl, (Option.some.inj h).symm, hl⟩
  ·rw [List.getElem?_eq_none (by simpa using Nat.not_lt.mp hl)] at h
   cases h
 ·rw [List.getElem?_set_ne (Ne.symm hj)] at h
  exact .inr ⟨hj, h⟩
theorem OkW.setW {A0 : List Addr} {He : Hp} {A : List Addr} {σ : St} {H H' : Hp} {ρ : Rho} {p : Addr} {d : D} (w : OkW G A0 He A σ H ρ) (s : Same H H') (hp : H p = none) (t : Top G (p :: A) H' p d) (i : Nat) (hi0 : i ≠ 0) : OkW G A0 He (p :: A) (σ.set i (some (.ref p))) H' (ρ.set i (.ow d)) := by
 have hf := w.ok.fill (Hc := H') s hp t.live
 have hep : He p = none := w.same.free hp
 have npA : p ∉ A := fun z => (w.ok.live p z).ne hp
 refine ⟨w.same.trans s, fun a ha => List.mem_cons_of_mem _ (w.sub a ha), fun a ha => ?_, w.l0, ⟨by rw [List.length_set, List.length_set]; exact hf.len, hf.live, fun j e h => ?_, fun j e h => ?_, fun j k e f q h1 h2 h3 h4 => ?_⟩, fun j e q h1 h2 => ?_, fun x e hx h0 => by rw [List.getElem?_set_ne hi0] at h0 ⊢; exact w.lt x e hx h0⟩
 ·rcases List.mem_cons.mp ha with z | z
  ·rw [z]; exact .inr hep
  ·exact w.fr a z
 ·rcases DR h with ⟨_, hz, _⟩ | ⟨hj, hz⟩
  ·cases hz
  ·obtain ⟨v, q1, q2⟩ := hf.fz j e hz
   exact ⟨v, by rw [List.getElem?_set_ne (Ne.symm hj)]; exact q1, q2⟩
 ·rcases DR h with ⟨hj, hz, hl⟩ | ⟨hj, hz⟩
  ·cases hz
   subst hj
   exact ⟨p, by rw [List.getElem?_set_self (by rw [w.ok.len]; exact hl)], List.mem_cons_self, t⟩
  ·obtain ⟨v, q1, q2, q3⟩ := hf.ow j e hz
   exact ⟨v, by rw [List.getElem?_set_ne (Ne.symm hj)]; exact q1, q2, q3⟩
 ·have no : ∀ (m : Nat) (g : D), ρ[m]? = some (.ow g) → σ[m]? = some (some (.ref q)) → q ≠ p := fun m g a1 a2 z => by
   obtain ⟨v, b1, b2, _⟩ := w.ok.ow m g a1
   rw [a2] at b1
   cases b1
   exact npA (z ▸ b2)
  rcases DR h1 with ⟨hj, _, hl⟩ | ⟨hj, hz⟩
  ·rcases DR h2 with ⟨hk, _, _⟩ | ⟨hk, hz'⟩
   ·rw [hj, hk]
   ·exfalso
    subst hj
    rw [List.getElem?_set_self (by rw [w.ok.len]; exact hl)] at h3
    cases h3
    rw [List.getElem?_set_ne (Ne.symm hk)] at h4
    exact no k f hz' h4 rfl
  ·rcases DR h2 with ⟨hk, _, hl⟩ | ⟨hk, hz'⟩
   ·exfalso
    subst hk
    rw [List.getElem?_set_self (by rw [w.ok.len]; exact hl)] at h4
    cases h4
    rw [List.getElem?_set_ne (Ne.symm hj)] at h3
    exact no j e hz h3 rfl
   ·rw [List.getElem?_set_ne (Ne.symm hj)] at h3
    rw [List.getElem?_set_ne (Ne.symm hk)] at h4
    exact w.ok.inj j k e f q hz hz' h3 h4
 ·rcases DR h1 with ⟨hj, _, hl⟩ | ⟨hj, hz⟩
  ·subst hj
   rw [List.getElem?_set_self (by rw [w.ok.len]; exact hl)] at h2
   cases h2
   exact fun z => w.l0 p z hep
  ·rw [List.getElem?_set_ne (Ne.symm hj)] at h2
   exact w.ow0 j e q hz h2
theorem Zm {A0 : List Addr} {He : Hp} {A : List Addr} {σ : St} {H : Hp} {ρ : Rho} {o : Out} {D : Ends} {i : Nat} (hi0 : i ≠ 0) (w : OkW G A0 He A σ H ρ) (e : setW i fa ρ = some o) (k : Om G A0 He D o) : tAsg (tN G A fa) (IW i) D σ H := by
 unfold setW at e
 cases e1 : fa ρ with
 | none => simp [e1] at e
 | some d =>
  simp only [e1, Option.map_some] at e
  cases e
  exact ⟨ρ, d, w.ok, e1, fun p H1 s1 hp t => k _ _ ⟨p :: A, w.setW s1 hp t i hi0⟩⟩
theorem Xd {i : Nat} {x : Str} {p : Pos} (h : ∀ te, PE X a te → PS X (.Assign [.Name x p] a pos) (tAsg te (IW i))) (ha : PN X G a fa) (hi0 : i ≠ 0 := by decide) : PSD X G (.Assign [.Name x p] a pos) (setW i fa) := fun A0 He pins s σ H D I ⟨ρ, o, ⟨A, w⟩, e, k⟩ =>
 h _ (@ha A) pins s σ H D I (Zm hi0 w e k)
theorem OkW.wr {A0 : List Addr} {He : Hp} {A : List Addr} {σ : St} {H : Hp} {ρ : Rho} {i : Nat} {d0 d : D} {p : Addr} {o : HO} (w : OkW G A0 He A σ H ρ) (hi : ρ[i]? = some (.ow d0)) (hs : σ[i]? = some (some (.ref p))) (t : Top G A (upd H p o) p d) : OkW G A0 He A σ (upd H p o) (ρ.set i (.ow d)) := by
 obtain ⟨q, h1, hA, _⟩ := w.ok.ow i d0 hi
 rw [hs] at h1
 cases h1
 have hep : He p = none := by
  rcases w.fr p hA with z | z
  ·exact absurd z (w.ow0 i d0 p hi hs)
  ·exact z
 have eh : hid A (upd H p o) = hid A H := KY hA
 refine ⟨fun b u h => by rw [Bg (CT h hep)]; exact w.same b u h, w.sub, w.fr, w.l0, ⟨by rw [List.length_set]; exact w.ok.len, fun b hb => ?_, fun j e h => ?_, fun j e h => ?_, fun j k e f q g1 g2 g3 g4 => ?_⟩, fun j e q g1 g2 => ?_, fun x e hx h0 => ?_⟩
 ·by_cases z : b = p
  ·rw [z]; exact t.live
  ·rw [Bg z]; exact w.ok.live b hb
 ·rcases DR h with ⟨_, hz, _⟩ | ⟨hj, hz⟩
  ·cases hz
  ·rw [eh]; exact w.ok.fz j e hz
 ·rcases DR h with ⟨hj, hz, hl⟩ | ⟨hj, hz⟩
  ·cases hz
   subst hj
   exact ⟨p, hs, hA, t⟩
  ·obtain ⟨q, q1, q2, q3⟩ := w.ok.ow j e hz
   have nq : q ≠ p := fun z => hj (w.ok.inj j i e d0 p hz hi (z ▸ q1) hs)
   refine ⟨q, q1, q2, ?_⟩
   cases e with
   | lst ds => obtain ⟨xs, a1, a2⟩ := q3; exact ⟨xs, by rw [Bg nq]; exact a1, by rw [eh]; exact a2⟩
   | dk ds => obtain ⟨xs, a1, a2, a3⟩ := q3; exact ⟨xs, by rw [Bg nq]; exact a1, a2, by rw [eh]; exact a3⟩
   | dt ds => obtain ⟨xs, a1, a2, a3⟩ := q3; exact ⟨xs, by rw [Bg nq]; exact a1, a2, by rw [eh]; exact a3⟩
   | ob c gs => obtain ⟨C, dx, xs, a1, a2, a3⟩ := q3; exact ⟨C, dx, xs, by rw [Bg nq]; exact a1, a2, by rw [eh]; exact a3⟩
   | _ => exact q3.elim
 ·have up : ∀ (m : Nat) (g : D), (ρ.set i (.ow d))[m]? = some (.ow g) → ∃ g', ρ[m]? = some (.ow g') := fun m g z => by
   rcases DR z with ⟨hm, _, _⟩ | ⟨_, hz⟩
   ·exact ⟨d0, by rw [hm]; exact hi⟩
   ·exact ⟨g, hz⟩
  obtain ⟨e', z1⟩ := up j e g1
  obtain ⟨f', z2⟩ := up k f g2
  exact w.ok.inj j k e' f' q z1 z2 g3 g4
 ·rcases DR g1 with ⟨hj, _, _⟩ | ⟨hj, hz⟩
  ·subst hj
   exact w.ow0 j d0 q hi g2
  ·exact w.ow0 j e q hz g2
 ·rcases DR h0 with ⟨hj, _, _⟩ | ⟨_, hz⟩
  ·exact w.lt x d0 hx (by rw [hj]; exact hi)
  ·exact w.lt x e hx hz
theorem Ih {ρ : Rho} {i : Nat} {d : D} (h : ownO ρ i = some d) : ρ[i]? = some (.ow d) := by
 unfold ownO at h
 split at h
 ·rename_i e; cases h; exact e
 ·cases h
theorem Inv.frzK {pins : List (Addr × Obj)} {σ : St} {H : Hp} {s : Shared} {p : Addr} {kvs : List (Key × V)} (I : Inv X pins σ H s) (e : H p = some (.dK kvs)) : ∃ o, Inv X pins σ (upd H p (.frz o (.dK kvs))) s := by
 obtain ⟨z, hd, vs, rel, dd⟩ := gR I.hok e
 obtain ⟨o, es, ep, ho, h2⟩ := id dd
 exact ⟨o, VB (h' := s.heap) (t' := s.toks) I (by rw [e]; exact True.intro) ⟨rfl, fun _ _ => rfl⟩ ⟨o, ho⟩ ⟨ho, z, hd, vs, rel, dd⟩⟩
theorem Inv.frzT {pins : List (Addr × Obj)} {σ : St} {H : Hp} {s : Shared} {p : Addr} {kvs : List (List Key × V)} (I : Inv X pins σ H s) (e : H p = some (.dT kvs)) : ∃ o, Inv X pins σ (upd H p (.frz o (.dT kvs))) s := by
 obtain ⟨z, hd, vs, rel, o, es, ep, ho, h3, h4, h5, h6⟩ := I.hok p _ e
 refine ⟨o, VB (h' := s.heap) (t' := s.toks) I (by rw [e]; exact True.intro) ⟨rfl, fun _ _ => rfl⟩ ⟨o, ho⟩ ⟨ho, z, hd, vs, KT.keeps rel fun c ys ec => ?_, o, es, ep, ho, h3, h4, h5, h6⟩⟩
 rw [Bg (fU ec e (fun z => nomatch z))]
 exact ec
theorem OkW.frzC {A0 : List Addr} {He : Hp} {A : List Addr} {σ : St} {H H' : Hp} {ρ : Rho} {i : Nat} {d : D} {p : Addr} (w : OkW G A0 He A σ H ρ) (hi : ρ[i]? = some (.ow d)) (h1 : σ[i]? = some (some (.ref p))) (hA : p ∈ A) (hh : ∀ b, b ≠ p → H' b = H b)
  (rp : Same (hid A H) (hid (A.filter fun b => decide (b ≠ p)) H') → hid (A.filter fun b => decide (b ≠ p)) H' p = H' p → Rep G (hid (A.filter fun b => decide (b ≠ p)) H') (.ref p) d) : OkS G A0 He σ H' (ρ.set i (.fz d)) := by
 have hn := w.ow0 i d p hi h1
 have hmem : ∀ b, b ∈ A.filter (fun b => decide (b ≠ p)) ↔ b ∈ A ∧ b ≠ p := fun b => by simp [List.mem_filter]
 have sm : Same (hid A H) (hid (A.filter fun b => decide (b ≠ p)) H') := fun b o h => by
  unfold hid at h ⊢
  split at h
  ·cases h
  ·rename_i hb
   have hbp : b ≠ p := fun z => hb (z ▸ hA)
   rw [if_neg (fun z => hb ((hmem b).mp z).1), hh b hbp]
   exact h
 have rp := rp sm (Dt fun z => ((hmem p).mp z).2 rfl)
 have hep : He p = none := (w.fr p hA).resolve_left hn
 refine ⟨A.filter fun b => decide (b ≠ p), fun b o h => ?_, fun b hb => (hmem b).mpr ⟨w.sub b hb, fun z => hn (z ▸ hb)⟩, fun b hb => w.fr b ((hmem b).mp hb).1, w.l0, ⟨by rw [List.length_set]; exact w.ok.len, fun b hb => ?_, fun j e h => ?_, fun j e h => ?_, fun j k e f q g1 g2 g3 g4 => ?_⟩, fun j e q g1 g2 => ?_, fun x e hx h0 => ?_⟩
 ·have hbp : b ≠ p := fun z => by rw [z, hep] at h; cases h
  rw [hh b hbp]
  exact w.same b o h
 ·obtain ⟨z1, z2⟩ := (hmem b).mp hb
  rw [hh b z2]
  exact w.ok.live b z1
 ·rcases DR h with ⟨hj, hz, _⟩ | ⟨hj, hz⟩
  ·cases hz; subst hj; exact ⟨_, h1, rp⟩
  ·obtain ⟨v, q1, q2⟩ := w.ok.fz j e hz
   exact ⟨v, q1, q2.mono sm⟩
 ·rcases DR h with ⟨_, hz, _⟩ | ⟨hj, hz⟩
  ·cases hz
  ·obtain ⟨q, q1, q2, q3⟩ := w.ok.ow j e hz
   have nq : q ≠ p := fun z => hj (w.ok.inj j i e d p hz hi (z ▸ q1) h1)
   refine ⟨q, q1, (hmem q).mpr ⟨q2, nq⟩, ?_⟩
   cases e with
   | lst ds => obtain ⟨xs, a1, a2⟩ := q3; exact ⟨xs, by rw [hh q nq]; exact a1, a2.mono sm⟩
   | dk ds => obtain ⟨xs, a1, a2, a3⟩ := q3; exact ⟨xs, by rw [hh q nq]; exact a1, a2, a3.mono sm⟩
   | dt ds => obtain ⟨xs, a1, a2, a3⟩ := q3; exact ⟨xs, by rw [hh q nq]; exact a1, a2, a3.mono sm⟩
   | ob c gs => obtain ⟨C, dx, xs, a1, a2, a3⟩ := q3; exact ⟨C, dx, xs, by rw [hh q nq]; exact a1, a2, a3.mono sm⟩
   | _ => exact q3.elim
 ·rcases DR g1 with ⟨_, hz, _⟩ | ⟨_, z1⟩
  ·cases hz
  ·rcases DR g2 with ⟨_, hz, _⟩ | ⟨_, z2⟩
   ·cases hz
   ·exact w.ok.inj j k e f q z1 z2 g3 g4
 ·rcases DR g1 with ⟨_, hz, _⟩ | ⟨_, z1⟩
  ·cases hz
  ·exact w.ow0 j e q z1 g2
 ·rcases DR h0 with ⟨_, hz, _⟩ | ⟨_, z1⟩
  ·cases hz
  ·exact w.lt x e hx z1
theorem OkS.frz {pins : List (Addr × Obj)} {s : Shared} {A0 : List Addr} {He : Hp} {σ : St} {H : Hp} {ρ : Rho} (I : Inv X pins σ H s) (w : OkS G A0 He σ H ρ) (i : Nat) : ∃ H', Inv X pins σ H' s ∧ OkS G A0 He σ H' (frz1 ρ i) := by
 unfold frz1
 split
 ·rename_i d hi
  obtain ⟨A, w⟩ := w
  obtain ⟨p, h1, hA, t⟩ := w.ok.ow i d hi
  cases d with
  | lst ds =>
   obtain ⟨xs, a1, a2⟩ := t
   exact ⟨H, I, w.frzC hi h1 hA (fun _ _ => rfl) fun sm hp => .lst (.of (by rw [hp]; exact a1)) (a2.mono sm).1 (a2.mono sm).2⟩
  | dk ds =>
   obtain ⟨xs, a1, a2, a3⟩ := t
   obtain ⟨o, I'⟩ := Inv.frzK I a1
   exact ⟨_, I', w.frzC hi h1 hA (fun b hb => Bg hb) fun sm hp => .dk (by rw [hp]; exact Cj) a2 (a3.mono sm).2⟩
  | dt ds =>
   obtain ⟨xs, a1, a2, a3⟩ := t
   obtain ⟨o, I'⟩ := Inv.frzT I a1
   exact ⟨_, I', w.frzC hi h1 hA (fun b hb => Bg hb) fun sm hp => .dt (by rw [hp]; exact Cj) a2 (a3.mono sm).2⟩
  | ob c gs =>
   obtain ⟨C, dx, xs, a1, a2, a3⟩ := t
   exact ⟨H, I, w.frzC hi h1 hA (fun _ _ => rfl) fun sm hp => .ob a2.1 (by rw [hp]; exact a1) a2.2 (a3.mono sm).2⟩
  | _ => exact t.elim
 ·exact ⟨H, I, w⟩
end
section
variable {X : Cx} {G : Gx} {a b c : Expr} {fa fb fc : FE} {pos p2 px : Pos} {scope : Scope} {t : Str} {elt iter : Expr} {ifs : List Expr} {ga : FT} {fe : FE} {src : FI}
end
end PV
namespace PV
open PySem PySem.Spec
section
variable {prog : Program} {w : World} {A : Around} {E : Value → Shared → Prop} {s : Shared}
def btx (w : World) : Bool := w.params.followText "set-order"
def keyOf (e : Int × Value) : Str := match e.2 with | .str k _ => k | _ => Str.empty
def EntS (w : World) (e : Int × Value) (k : Str) : Prop := e.1 = hashStr w k ∧ ∃ t, e.2 = .str k t
structure FX (w : World) (es : Array (Int × Value)) (t : SetTable) (ks : List Str) : Prop where
 ent : ∀ e ∈ es.toList, EntS w e (keyOf e)
 perm : (es.toList.map keyOf).Perm ks
 nd : ks.Nodup
 sz : es.size < scanBound
 fits : t.fits es.size = true
 led : btx w = false → t.led = true
 plain : es.size ≠ 0 → t.plain = false
def ObX (h : Heap) (a : Addr) (es : Array (Int × Value)) (t : SetTable) : Prop := ∃ o ep, h.get? a = some o ∧ o.ExactSet ∧ o.data = .set es ep t
def SetX (w : World) (h : Heap) (a : Addr) (ks : List Str) : Prop := ∃ es t, ObX h a es t ∧ FX w es t ks
theorem SetX.keep {h h' : Heap} {a : Addr} {ks : List Str} (x : SetX w h a ks) (e : ∀ o, h.get? a = some o → h'.get? a = some o) : SetX w h' a ks := by
 obtain ⟨es, t, ⟨o, ep, g, q⟩, f⟩ := x
 exact ⟨es, t, ⟨o, ep, e o g, q⟩, f⟩
theorem SetX.typeIs {a : Addr} {ks : List Str} (x : SetX w s.heap a ks) : s.TypeIs (.ref a) "set" :=
 let ⟨_, _, ⟨o, _, g, q, _⟩, _⟩ := x; ⟨o, g, q.1⟩
theorem FX.len {es : Array (Int × Value)} {t : SetTable} {ks : List Str} (f : FX w es t ks) : es.size = ks.length := by simpa using f.perm.length_eq
theorem Hz {a : Addr} {es es' : Array (Int × Value)} {t t' : SetTable} {Q : Unit → Shared → Prop} (x : ObX s.heap a es t) (z : es'.size < scanBound) (k : ∀ h', Heap.SameBut a s.heap h' → ObX h' a es' t' → Q () { s with heap := h' }) : wpAny (model prog w) A (storeSet a es' t') Q E s := by
 obtain ⟨o, ep, g, q, d⟩ := x
 refine wpAny_storeSet_of g d (k _ (Heap.SameBut.update _ _ _) ⟨{ o with data := .set es' (ep + 1) t' }, ep + 1, ?_, q, rfl⟩) (fits_of_scanBound z)
 have u := Heap.get?_update_self (Obj.putSet es' t') g (by rw [putSet_of es' t' d]; rfl)
 rwa [putSet_of es' t' d] at u
def addK (ks : List Str) (k : Str) : List Str := if k ∈ ks then ks else ks ++ [k]
theorem FX.more {es es1 : Array (Int × Value)} {t t1 : SetTable} {ks : List Str} {k : Str} {u : Tok} (f : FX w es t ks) (nk : k ∉ ks) (p : es1.toList.Perm (es.toList ++ [(hashStr w k, .str k u)])) (r : ks.length + 1 < scanBound) (q1 : t1.fits es1.size = true) (q2 : t1.led = t.led) (q3 : t1.plain = false) : FX w es1 t1 (addK ks k) := by
 have l : es1.size = es.size + 1 := by simpa using p.length_eq
 unfold addK
 rw [if_neg nk]
 refine ⟨fun e m => (List.mem_append.mp (p.mem_iff.mp m)).elim (f.ent e) fun m => ?_, ?_, List.nodup_append.mpr ⟨f.nd, by simp, fun x hx y hy e => nk ?_⟩, by rw [l, f.len]; exact r, q1, fun b => q2.trans (f.led b), fun _ => q3⟩
 ·cases List.mem_singleton.mp m; exact ⟨rfl, u, rfl⟩
 ·have := p.map keyOf; rw [List.map_append] at this; exact this.trans (f.perm.append_right _)
 ·cases List.mem_singleton.mp hy; rw [← e]; exact hx
end
end PV
namespace PV
open PySem PySem.Spec
section
variable {prog : Program} {w : World} {A : Around} {R : Result → Shared → Prop} {I : Addr} {fp wr : List Addr} {n : Nat} {P : Nat → Value → Prop} {Sx : Nat → Heap → Prop}
end
end PV
namespace PV
open PySem PySem.Spec
section
variable {prog : Program} {w : World} {A : Around} {E : Value → Shared → Prop} {s : Shared}
end
end PV
namespace PV
open PySem PySem.Spec
section
variable {prog : Program} {w : World} {A : Around} {E : Value → Shared → Prop} {s : Shared} {I q T : Addr} {first : Value} {j n ep : Nat} {es : Array (Int × Value)} {t : SetTable}
def ItX (h : Heap) (I q : Addr) (first : Value) (j n ep : Nat) : Prop := ∃ o, h.get? I = some o ∧ o.cls = .type "set_iterator" ∧ o.data = .fields #[first, .int j 0, .ref q, .int n 0, .int ep 0]
def Xe (h : Heap) (q : Addr) (es : Array (Int × Value)) (ep : Nat) (t : SetTable) : Prop := ∃ o, h.get? q = some o ∧ o.ExactSet ∧ o.data = .set es ep t
theorem ItX.ty (x : ItX s.heap I q first j n ep) : s.TypeIs (.ref I) "set_iterator" := let ⟨o, g, c, _⟩ := x; ⟨o, g, c⟩
end
end PV
namespace PV
open PySem PySem.Spec
section
variable {prog : Program} {w : World} {A : Around} {E : Value → Shared → Prop} {s : Shared} {I q T : Addr} {first : Value} {j n ep : Nat} {es : Array (Int × Value)} {t : SetTable}
theorem Xe.keep {h h' : Heap} (y : Xe h q es ep t) (e : ∀ o, h.get? q = some o → h'.get? q = some o) : Xe h' q es ep t := let ⟨o, g, r⟩ := y; ⟨o, e o g, r⟩
theorem ItX.keep {h h' : Heap} (x : ItX h I q first j n ep) (e : ∀ o, h.get? I = some o → h'.get? I = some o) : ItX h' I q first j n ep := let ⟨o, g, r⟩ := x; ⟨o, e o g, r⟩
end
end PV
namespace PV
open PySem PySem.Spec
section
variable {prog : Program} {w : World} {A : Around} {E : Value → Shared → Prop} {s : Shared} {I q T : Addr} {first : Value} {j n ep : Nat} {es : Array (Int × Value)} {t : SetTable}
end
end PV
namespace PV
open PySem PySem.Spec
section
variable {prog : Program} {w : World} {A : Around} {E : Value → Shared → Prop} {s : Shared} {I q T : Addr}
end
end PV
namespace PV
open PySem PySem.Spec
section
variable {prog : Program} {w : World} {A : Around} {E : Value → Shared → Prop} {s : Shared} {q : Addr}
end
open L2
section
variable {X : Cx} {G : Gx} {a : Expr} {fa : FE} {pos : Pos}
end
end PV
namespace PV
open PySem PySem.Spec L2
open PyProof.Rows hiding St
def getK {κ : Type} [DecidableEq κ] (k : κ) : List (κ × D) → Option D
 | [] => none
 | p :: r => if p.1 = k then some p.2 else getK k r
def repK {κ : Type} [DecidableEq κ] (k : κ) (v : D) : List (κ × D) → List (κ × D)
 | [] => []
 | p :: r => (p.1, if p.1 = k then v else p.2) :: repK k v r
def putL {κ : Type} [DecidableEq κ] (k : κ) (v : D) (kds : List (κ × D)) : List (κ × D) := if (getK k kds).isSome then repK k v kds else kds ++ [(k, v)]
def keyD : D → Option Key
 | .int i => some (.inl i)
 | .str x => some (.inr x)
 | _ => none
section
variable {κ : Type} [DecidableEq κ] {G : Gx} {H : Hp}
theorem Vo {k : κ} : ∀ {kds : List (κ × D)} {kvs : List (κ × V)}, kvs.map (·.1) = kds.map (·.1) → RepL G H (kvs.map (·.2)) (kds.map (·.2)) → (∀ d, getK k kds = some d → ∃ v, valV kvs k = some v ∧ Rep G H v d) ∧ (valV kvs k).isSome = (getK k kds).isSome
 | [], kvs, e, r => by
  cases kvs with
  | nil => exact ⟨fun d h => by simp [getK] at h, rfl⟩
  | cons p q => simp at e
 | p :: kds, kvs, e, r => by
  cases kvs with
  | nil => simp at e
  | cons q kvs =>
   rw [List.map_cons, List.map_cons] at e
   injection e with e1 e2
   rw [List.map_cons, List.map_cons] at r
   obtain ⟨x, ys, e3, r1, r2⟩ := r.uncons
   injection e3 with e4 e5
   subst e4 e5
   have ih := Vo (k := k) e2 r2
   by_cases h : p.1 = k
   ·have h' : q.1 = k := e1.trans h
    rw [Ob h']
    refine ⟨fun d hd => ?_, ?_⟩
    ·simp only [getK, if_pos h] at hd
     cases hd
     exact ⟨_, rfl, r1⟩
    ·simp [getK, if_pos h]
   ·have h' : ¬ q.1 = k := fun z => h (e1.symm.trans z)
    rw [Oc h']
    simp only [getK, if_neg h]
    exact ih
end
theorem Xf {G : Gx} {A : List Addr} {H : Hp} {v : V} {d : D} {k : Key} (r : RepT G A H v d) (h : keyD d = some k) : v = kV k := by
 cases d with
 | int i => cases h; exact r.int
 | str x => cases h; exact r.str
 | _ => cases h
end PV
namespace PV
open PySem PySem.Spec L2
open PyProof.Rows hiding St
section
variable {X : Cx} {G : Gx} {a b c : Expr} {fa fb fc : FE} {pos p2 px : Pos} {es : List Expr} {fs : FA}
def rDIn (neg : Bool) : R2 := fun x y H Q => ∃ a kvs k, y = .ref a ∧ Rd H a (.dK kvs) ∧ x = kV k ∧ Q (.bl (if neg then !(valV kvs k).isSome else (valV kvs k).isSome)) H
theorem Xg (hu : X.A.units + 1 < cLine) : OpR X (compareOp .In) (rDIn false) := by
 intro pins s σ H x y v u Q I rx ry h
 obtain ⟨a, kvs, k, rfl, e, rfl, q⟩ := h
 cases ry
 exact d_in hu I (.inl ⟨kvs, k, e, rfl, rfl⟩) rx fun s' I' => ⟨.bl _, H, I', rfl, q⟩
def inE (neg : Bool) (x y : D) : Option D := match y with
 | .dk kds => (keyD x).map fun k => .bl (if neg then !(getK k kds).isSome else (getK k kds).isSome)
 | _ => inD neg x y
theorem Zn (neg : Bool) : GP G (fun x y H Q => rInA G.K neg x y H Q ∨ rDIn neg x y H Q) (inE neg) := by
 intro A H x y dx dy d Q lv rx ry h k
 unfold inE at h
 split at h
 ·rename_i kds
  cases e : keyD dx with
  | none => simp [e] at h
  | some q =>
   obtain ⟨p, kvs, rfl, h1, h2, r⟩ := ry.dk
   have h3 := (Vo (k := q) h2 r).2
   rw [e] at h
   cases h
   refine .inr ⟨p, kvs, q, rfl, h1, Xf rx e, ?_⟩
   rw [h3]
   exact k _ H (Same.refl H) (.bl _)
 ·exact .inl (Ly neg A H x y dx dy d Q lv rx ry h k)
def gm (x y v : D) : Option D := match x with
 | .dk kds => (keyD y).bind fun k => if kds.length < sizeLine then some (.dk (putL k v kds)) else none
 | _ => none
def putF (i : Nat) (fk fv : FE) : FS := fun ρ => (fv ρ).bind fun v => (fk ρ).bind fun y => (ownO ρ i).bind fun x => (gm x y v).map fun z => .nx (ρ.set i (.ow z))
end
end PV
namespace PV
open PySem PySem.Spec L2
open PyProof.Rows hiding St
theorem Vp {α β : Type} {R : α → β → Prop} : ∀ {xs : List α} {ys : List β} {i : Nat} {x : α} {y : β}, Paired R xs ys → xs[i]? = some x → ys[i]? = some y → R x y
 | _, _, i, x, y, .nil, h, _ => by simp at h
 | _, _, 0, x, y, .cons r _, h1, h2 => by
  simp at h1 h2
  rw [← h1, ← h2]
  exact r
 | _, _, i + 1, x, y, .cons _ t, h1, h2 => Vp t (by simpa using h1) (by simpa using h2)
def Itd (a : Addr) (o : Obj) (kvs : List (Key × V)) : It :=
 ⟨fun i H => H a = some (.frz o (.dK kvs)) ∧ i < kvs.length, fun i H x H' => H' = H ∧ ∃ p, kvs[i]? = some p ∧ x = kV p.1, fun i H => H a = some (.frz o (.dK kvs)) ∧ kvs.length ≤ i⟩
theorem relK {P : Program} {w : World} {k : Key} {u : Value} (h : (Ej P w).is k u = true) : RelV (kV k) u := by
 rcases Dj h with ⟨i, t, rfl, rfl⟩ | ⟨x, t, rfl, rfl⟩
 ·exact ⟨t, rfl⟩
 ·exact ⟨t, rfl⟩
theorem Uo {X : Cx} {pins : List (Addr × Obj)} {σ : St} {H : Hp} {s : Shared} {a : Addr} {o : Obj} {kvs : List (Key × V)} {es : Array DictEntry} {ep : Nat} (I : Inv X pins σ H s) (e : H a = some (.frz o (.dK kvs))) (hd : o.data = .dict es ep) :
  (a == sysModules) = false ∧ ∃ vs, KV kvs vs ∧ s.heap.DictAt (Ej X.prog X.w) a vs ep := by
 obtain ⟨ho, z, hm, vs, rel, o', es', ep', ho', h1, h2, h3⟩ := (show Ds X.prog X.w H s.heap a (.frz o (.dK kvs)) from I.hok a _ e)
 rw [ho] at ho'
 cases ho'
 rw [hd] at h2
 cases h2
 exact ⟨hm, vs, rel, o, es, ho, h1, hd, h3⟩
theorem Wb {P : Program} {w : World} {K : PySem.W.Frag} {tg : Expr} (a it : Addr) {o : Obj} {es : Array DictEntry} {ep : Nat} (hd : o.data = .dict es ep) (kvs : List (Key × V)) : Turn P w K tg (Itd a o kvs) [it] it (fun i h => h.IsKeyIter it a i kvs.length ep) where
 mem := by simp
 obj := fun i h st b hb => by
  have e : b = it := by simpa using hb
  subst e
  obtain ⟨o, e, c, d⟩ := st
  exact ⟨o, e, fun v z => by rw [d] at z; cases z⟩
 keep := fun i h h' st k => let ⟨o, e, c, d⟩ := st; ⟨o, k it (by simp) o e, c, d⟩
 item := by
  intro X hP hw hK hc i pins s σ H E I hf st hg
  subst hP hw hK
  obtain ⟨he, hi⟩ := hg
  obtain ⟨hm, vs, rel, dd⟩ := Uo I he hd
  have hl : kvs.length = vs.length := rel.length
  obtain ⟨f0, f1, f2, f3, f4, f5⟩ := hf it (by simp)
  have hv : vs[i]? = some (vs[i]'(by omega)) := by simp [show i < vs.length by omega]
  have hk : kvs[i]? = some (kvs[i]'hi) := by simp [hi]
  have hkk : (kvs[i]'hi).1 = (vs[i]'(by omega)).1 := (Vp rel hk hv).1
  refine wpAny_pyNext_dict_item (knd := Ej X.prog X.w) (kvs := vs) (k := (vs[i]'(by omega)).1) (v := (vs[i]'(by omega)).2) (by rw [← hl]; exact st) dd hv fun key h' hkey st' sb => ?_
  rw [← hl] at st'
  have I1 : Inv X pins σ H { s with heap := h' } := I.turned (t' := s.toks) (fun b o hb e => (sb.2 b hb).trans e) f0 f1 f3 f4 f5
  obtain ⟨o1, e1, c1, d1⟩ := id st'
  exact ⟨key, rfl, S6 (s := { s with heap := h' }) e1 c1 d1 (by decide) ⟨kV (kvs[i]'hi).1, H, I1, by rw [hkk]; exact relK hkey, ⟨rfl, _, hk, rfl⟩, st', fun b hb => (hf b hb).1⟩⟩
 done := by
  intro X hP hw hK hc i pins s σ H E I hf st hg
  subst hP hw hK
  obtain ⟨he, hi⟩ := hg
  obtain ⟨hm, vs, rel, dd⟩ := Uo I he hd
  have hl : kvs.length = vs.length := rel.length
  obtain ⟨f0, f1, f2, f3, f4, f5⟩ := hf it (by simp)
  exact wpAny_pyNext_dict_end (I.ok.hd hc) (by rw [← hl]; exact st) dd (by rw [List.getElem?_eq_none]; omega) fun h' eb => ⟨rfl, I.turned (t' := s.toks) (fun b o hb e => eb b o hb e) f0 f1 f3 f4 f5⟩
 self := fun _ _ _ _ _ st h => wpAny_pyIter_keyiter st h
section
variable {X : Cx} {G : Gx} {a b c tg : Expr} {fa fb fc : FE} {pos p2 : Pos} {tl : TE}
def gn (tl : TE) : TI := fun σ H R => tl σ H fun x H1 => ∃ a o kvs, x = .ref a ∧ H1 a = some (.frz o (.dK kvs)) ∧ R (Itd a o kvs) H1
theorem Zo {l : Expr} (hl : PE X l tl) : PI X tg l (gn tl) := by
 intro pins s σ H R I h
 refine thn (hl pins s σ H _ I h) fun v s1 ⟨x, H1, I1, r1, q1⟩ => ?_
 obtain ⟨a, o, kvs, e, hq, q⟩ := q1
 subst e
 cases r1
 obtain ⟨_, _, _, _, _, o', es, ep, ho', h1, h2, _⟩ := (show Ds X.prog X.w H1 s1.heap a (.frz o (.dK kvs)) from I1.hok a _ hq)
 obtain ⟨ho, _⟩ := (show Ds X.prog X.w H1 s1.heap a (.frz o (.dK kvs)) from I1.hok a _ hq)
 rw [ho] at ho'
 cases ho'
 obtain ⟨hm, vs, rel, dd⟩ := Uo I1 hq h2
 have hl' : kvs.length = vs.length := rel.length
 refine wpAny_pyIter_dict hm dd ?_
 refine ⟨s1.heap.objs.size, [s1.heap.objs.size], _, _, H1, rfl, I1.kept (t' := s1.toks) fun b o e => Heap.get?_push_of_some _ e, Wb a _ h2 kvs, ⟨_, Heap.get?_push_size _ rfl, rfl, by rw [hl']; rfl⟩, fun b hb => ?_, q⟩
 have e : b = s1.heap.objs.size := by simpa using hb
 subst e
 exact I1.fpOk (Nat.le_refl _) (I1.hok.fresh (Nat.le_refl _))
def kDt : Key → D
 | .inl i => .int i
 | .inr x => .str x
theorem Zq {H : Hp} (k : Key) : Rep G H (kV k) (kDt k) := by
 cases k with
 | inl i => exact .int i
 | inr x => exact .str x
def seqE (f : FE) : FI := fun ρ => match f ρ with | some (.lst ds) => some ds | some (.tup ds) => some ds | some (.dk kds) => some (kds.map fun p => kDt p.1) | _ => none
theorem Xh {F1 F2 : Hp} {p : Addr} {o : Obj} {kvs : List (Key × V)} {kds : List (Key × D)} (h : F1 p = some (.frz o (.dK kvs))) (e : kvs.map (·.1) = kds.map (·.1)) : Src G (Itd p o kvs) (kds.map fun p => kDt p.1) F1 F2 := by
 have hl : kvs.length = kds.length := by have := congrArg List.length e; rwa [List.length_map, List.length_map] at this
 refine ⟨fun i H s hi => ⟨s _ _ h, by rw [hl]; rwa [List.length_map] at hi⟩, fun i H x H' d s hd y => ?_, fun i H s hi => ⟨s _ _ h, by rw [hl]; rwa [List.length_map] at hi⟩⟩
 obtain ⟨y1, q, y2, y3⟩ := y
 refine L_ ⟨y1, ?_⟩
 have e1 : (kvs.map (·.1))[i]? = some q.1 := by rw [List.getElem?_map, y2]; rfl
 rw [e, List.getElem?_map] at e1
 rw [List.getElem?_map] at hd
 cases e2 : kds[i]? with
 | none => rw [e2] at hd; cases hd
 | some z =>
  rw [e2] at e1 hd
  cases hd
  injection e1 with e1
  rw [y3, ← e1]
  exact Zq _
theorem Xi (hG : G.K = X.K) (h : PF X G a fa) : PFI X G false tg a (seqE fa) := fun A => QV (piOr (Nr hG h (A := A)) (Zo (@h A))) fun σ H R ⟨ρ, ds, o, e, k⟩ => by
 unfold seqE at e
 split at e
 ·rename_i ds' e1
  cases e
  exact .inl ⟨ρ, _, o, by unfold seqI; rw [e1], k⟩
 ·rename_i ds' e1
  cases e
  exact .inl ⟨ρ, _, o, by unfold seqI; rw [e1], k⟩
 ·rename_i kds e1
  cases e
  refine .inr ⟨ρ, _, o, e1, fun v H1 s1 r1 => ?_⟩
  cases r1 with
  | dk h l r => exact ⟨_, _, _, rfl, DQ _ _ h, k _ H1 s1 (Xh h l)⟩
 ·cases e
end
end PV
namespace PV
open PySem PySem.Spec L2
open PyProof.Rows hiding St
section
variable {prog : Program} {w : World} {A : Around} {E : Value → Shared → Prop}
end
end PV
namespace PV
open PySem PySem.Spec L2
open PyProof.Rows hiding St
section
variable {X : Cx} {G : Gx} {a b c tg : Expr} {fa fb fc : FE} {pos p2 : Pos} {es : List Expr}
theorem PG.or {t t' : TG} (h : PG X tg t) (h' : PG X tg t') : PG X tg (fun v σ H Q => t v σ H Q ∨ t' v σ H Q) := fun pins s σ H v u Q I r q => by
 rcases q with q | q
 ·exact h pins s σ H v u Q I r q
 ·exact h' pins s σ H v u Q I r q
theorem Ou : JS X (.builtin "len") (fun xs H Q => ∃ a kvs, xs = [V.ref a] ∧ Rd H a (.dK kvs) ∧ Q (.int kvs.length) H) := by
 intro pins s σ H xs us Q I rs h
 obtain ⟨a, kvs, rfl, e, q⟩ := h
 obtain ⟨u, rfl, ru⟩ := rs.one
 cases ru
 exact gW I e fun t s' I' => ⟨.int kvs.length, H, I', ⟨t, rfl⟩, q⟩
def lenE : D → Option D
 | .dk kds => some (.int kds.length)
 | d => lenD d
theorem Tq : SndC G (fun xs H Q => (∃ x n, xs = [x] ∧ LenV G.K x H n ∧ Q (.int n) H) ∨ ∃ a kvs, xs = [V.ref a] ∧ Rd H a (.dK kvs) ∧ Q (.int kvs.length) H) lenE := by
 intro A H x dx d Q lv rx h k
 unfold lenE at h
 split at h
 ·cases h
  obtain ⟨p, kvs, rfl, h1, h2, r⟩ := rx.dk
  have hl := congrArg List.length h2
  rw [List.length_map, List.length_map] at hl
  refine .inr ⟨p, kvs, rfl, h1, ?_⟩
  rw [hl]
  exact k _ H (Same.refl H) (.int _)
 ·exact .inl (DN A H x dx d Q lv rx h k)
end
end PV
namespace PV
open PySem PySem.Spec L2
open PyProof.Rows hiding St
section
variable {X : Cx} {G : Gx} {a b c tg : Expr} {fa fb fc : FE} {pos p2 : Pos} {tl : TE}
theorem dW {α β : Type} {f : α → β} {l : List α} {i : Nat} {y : β} (h : (l.map f)[i]? = some y) : ∃ x, l[i]? = some x ∧ f x = y := by
 rw [List.getElem?_map] at h
 exact Option.map_eq_some_iff.mp h
end
end PV
namespace PV
open PySem PySem.Spec L2
open PyProof.Rows hiding St
section
variable {X : Cx} {G : Gx} {a b c tg : Expr} {fa fb fc : FE} {pos p2 : Pos} {es : List Expr} {fs : FA}
end
end PV
namespace PV
open PySem PySem.Spec L2
open PyProof.Rows hiding St
section
variable {X : Cx} {G : Gx} {a b c tg : Expr} {fa fb fc : FE} {pos p2 : Pos} {es : List Expr} {fs : FA} {src : FI}
theorem PFI.top (h : PFI X G false tg a src) : PFI X G true tg a src := fun A => QV (@h A) fun σ H R ⟨ρ, ds, o, e, k⟩ =>
 ⟨ρ, ds, o, e, fun J H1 s1 sr => k J H1 s1 ⟨fun i H s hi => sr.go i H (DQ.trans s) hi, fun i H x H' d s hd y => sr.yld i H x H' d (DQ.trans s) hd y, fun i H s hi => sr.stop i H (DQ.trans s) hi⟩⟩
theorem RepT.ob {A : List Addr} {H : Hp} {v : V} {c : Str} {gs : List (Str × D)} (r : RepT G A H v (.ob c gs)) : ∃ a C dx fs, v = .ref a ∧ G.cl c = some C ∧ H a = some (.ins C dx fs) ∧ fs.map (·.1) = gs.map (·.1) ∧ RepL G (hid A H) (fs.map (·.2)) (gs.map (·.2)) := by
 rcases r with r | ⟨a, e, C, dx, fs, h, k, r⟩
 ·cases r with
  | ob hc h l r =>
   have hl := congrArg List.length l
   rw [List.length_map, List.length_map] at hl
   exact ⟨_, _, _, _, rfl, hc, DQ _ _ h, l, by rw [List.length_map, List.length_map]; exact hl, r⟩
 ·exact ⟨a, C, dx, fs, e, k.1, h, k.2, r⟩
def fldD (f : Str) : D → Option D
 | .ob _ gs => gs.lookup f
 | _ => none
theorem QZ {H : Hp} {f : Str} {d : D} : ∀ {gs : List (Str × D)} {fs : List (Str × V)}, fs.map (·.1) = gs.map (·.1) → RepL G H (fs.map (·.2)) (gs.map (·.2)) → gs.lookup f = some d → ∃ v, fs.lookup f = some v ∧ Rep G H v d
 | [], fs, e, r, h => by simp at h
 | p :: gs, [], e, r, h => by simp at e
 | p :: gs, q :: fs, e, r, h => by
  rw [List.map_cons, List.map_cons] at e r
  injection e with e1 e2
  obtain ⟨x, ys, e3, r1, r2⟩ := r.uncons
  injection e3 with e4 e5
  subst e4 e5
  obtain ⟨p1, p2⟩ := p
  obtain ⟨q1, q2⟩ := q
  simp only at e1 r1
  subst e1
  by_cases hf : f = q1
  ·subst hf
   simp only [List.lookup_cons, beq_self_eq_true, Option.some.injEq] at h ⊢
   subst h
   exact ⟨q2, rfl, r1⟩
  ·have hb : (f == q1) = false := beq_eq_false_iff_ne.mpr hf
   simp only [List.lookup_cons, hb] at h ⊢
   exact QZ e2 r2 h
theorem D_ {f : Str} (hcl : ∀ c C, G.cl c = some C → Cls X.K C ∧ Dy X.K C f) (he : PU X G a fa) (hb : attributeBase a f X.env (eval a X.env) = eval a X.env := by rfl) : PF X G (.Attribute a f pos) (uF (fldD f) fa) :=
 fun A => Ey (cW (@he A) hb) fun σ H Q ⟨ρ, d, o, e, k⟩ => by
  obtain ⟨x0, e1, e2⟩ := Iw e
  unfold fldD at e2
  split at e2
  ·rename_i cn gs
   refine ⟨ρ, _, o, e1, fun v H1 s1 r1 => ?_⟩
   obtain ⟨p, C, dx, fs, rfl, hc, h, l, r⟩ := r1.ob
   obtain ⟨v, h1, h2⟩ := QZ (f := f) (d := d) l r e2
   exact ⟨_, _, _, _, v, rfl, h, (hcl _ _ hc).1, (hcl _ _ hc).2, h1, k v H1 s1 h2⟩
  ·cases e2
end
end PV
namespace PV
open PySem PySem.Spec L2
open PyProof.Rows hiding St
def Its (x : Str) : It := ⟨fun i _ => i < x.cps.size, fun i H y H' => H' = H ∧ ∃ c, x.cps[i]? = some c ∧ y = .str ⟨#[c]⟩, fun i _ => x.cps.size ≤ i⟩
theorem Tr {P : Program} {w : World} {K : PySem.W.Frag} {tg : Expr} (it : Addr) (x : Str) (t : Tok) (ty : String) (W : ∀ A : Around, A.handled = none → Walks P w A it [it] [it] x.cps.size (SignAt x) (fun i h => h.IsStrIter it ty x t i))
  (hn : ["enumerate", "zip", "dict_itemiterator", "dict_reverseitemiterator", "odict_iterator", "itertools.zip_longest", "itertools.pairwise"].contains ty = false)
  (fin : ∀ (A : Around), A.handled = none → ∀ (i : Nat) (s : Shared) (Q : Option Value → Shared → Prop) (E : Value → Shared → Prop), s.heap.IsStrIter it ty x t i → x.cps[i]? = none → (∀ h', Heap.ExtBut it s.heap h' → Q none { s with heap := h' }) → wpAny (model P w) A (pyNext (.ref it)) Q E s)
  (self : ∀ (A : Around) (i : Nat) (s : Shared) (Q : Value → Shared → Prop) (E : Value → Shared → Prop), s.heap.IsStrIter it ty x t i → Q (.ref it) s → wpAny (model P w) A (pyIter (.ref it)) Q E s) :
  Turn P w K tg (Its x) [it] it (fun i h => h.IsStrIter it ty x t i) where
 mem := by simp
 obj := fun i h st b hb => by
  have e : b = it := by simpa using hb
  subst e
  obtain ⟨o, e, c, d⟩ := st
  exact ⟨o, e, fun v z => by rw [d] at z; cases z⟩
 keep := fun i h h' st k => let ⟨o, e, c, d⟩ := st; ⟨o, k it (by simp) o e, c, d⟩
 item := by
  intro X hP hw hK hc i pins s σ H E I hf st hg
  subst hP hw hK
  obtain ⟨f0, f1, f2, f3, f4, f5⟩ := hf it (by simp)
  refine (W X.A (I.ok.hd hc)).item i s _ _ hg st fun v h' tk hv st' kk => ?_
  obtain ⟨c, u, e1, rfl⟩ := hv
  have I1 : Inv X pins σ H { s with heap := h', toks := tk } := I.turned (fun b o hb e => kk b o (by simpa using hb) e) f0 f1 f3 f4 f5
  obtain ⟨o1, e2, c1, d1⟩ := id st'
  exact ⟨_, rfl, S6 (s := { s with heap := h', toks := tk }) e2 c1 d1 hn ⟨.str ⟨#[c]⟩, H, I1, ⟨u, rfl⟩, ⟨rfl, c, e1, rfl⟩, st', fun b hb => (hf b hb).1⟩⟩
 done := by
  intro X hP hw hK hc i pins s σ H E I hf st hg
  subst hP hw hK
  obtain ⟨f0, f1, f2, f3, f4, f5⟩ := hf it (by simp)
  exact fin X.A (I.ok.hd hc) i s _ _ st (by rw [Array.getElem?_eq_none_iff]; exact hg) fun h' eb => ⟨rfl, I.turned (t' := s.toks) (fun b o hb e => eb b o hb e) f0 f1 f3 f4 f5⟩
 self := fun A i s Q E st h => self A i s Q E st h
section
variable {X : Cx} {G : Gx} {a b c tg : Expr} {fa fb fc : FE} {pos p2 : Pos} {tl : TE}
def iStr (tl : TE) : TI := fun σ H R => tl σ H fun x H1 => ∃ y, x = .str y ∧ R (Its y) H1
theorem dX {l : Expr} (hl : PE X l tl) : PI X tg l (iStr tl) := by
 intro pins s σ H R I h
 refine thn (hl pins s σ H _ I h) fun v s1 ⟨x, H1, I1, r1, q1⟩ => ?_
 obtain ⟨y, e, q⟩ := q1
 subst e
 obtain ⟨t, e⟩ := (show ∃ t, v = Value.str y t from r1)
 subst e
 have fp : ∀ b ∈ [s1.heap.objs.size], FpOk X pins H1 b := fun b hb => by
  have e : b = s1.heap.objs.size := by simpa using hb
  subst e
  exact I1.fpOk (Nat.le_refl _) (I1.hok.fresh (Nat.le_refl _))
 cases ha : y.cps.all (· < 128)
 ·exact wpAny_pyIter_wide ha ⟨s1.heap.objs.size, [s1.heap.objs.size], _, _, H1, rfl, I1.kept (t' := s1.toks) fun b o e => Heap.get?_push_of_some _ e,
   Tr _ y t "str_iterator" (fun A hA => Walks.strWide hA _ y t) (by decide) (fun _ hh _ _ _ _ st hx k => wpAny_pyNext_wide_end hh st hx k) (fun _ _ _ _ _ st h => wpAny_pyIter_striter_wide st h), ⟨_, Heap.get?_push_size _ rfl, rfl, rfl⟩, fp, q⟩
 ·exact wpAny_pyIter_ascii ha ⟨s1.heap.objs.size, [s1.heap.objs.size], _, _, H1, rfl, I1.kept (t' := s1.toks) fun b o e => Heap.get?_push_of_some _ e,
   Tr _ y t "str_ascii_iterator" (fun A hA => Walks.strAscii hA _ y t) (by decide) (fun _ hh _ _ _ _ st hx k => wpAny_pyNext_ascii_end hh st hx k) (fun _ _ _ _ _ st h => wpAny_pyIter_striter_ascii st h), ⟨_, Heap.get?_push_size _ rfl, rfl, rfl⟩, fp, q⟩
def Vq (x : Str) : List D := x.cps.toList.map fun c => .str ⟨#[c]⟩
theorem Zr {F1 F2 : Hp} {x : Str} : Src G (Its x) (Vq x) F1 F2 := by
 have hl : (Vq x).length = x.cps.size := by unfold Vq; simp
 refine ⟨fun i H s hi => by rw [hl] at hi; exact hi, fun i H y H' d s hd q => ?_, fun i H s hi => by rw [hl] at hi; exact hi⟩
 obtain ⟨q1, c, q2, q3⟩ := q
 refine L_ ⟨q1, ?_⟩
 obtain ⟨z, hz, rfl⟩ := dW hd
 have e : x.cps[i]? = some z := by simpa using hz
 rw [e] at q2
 cases q2
 rw [q3]
 exact .str _
def seqA (f : FE) : FI := fun ρ => match f ρ with | some (.str x) => some (Vq x) | _ => seqE f ρ
theorem Xj (hG : G.K = X.K) (h : PF X G a fa) : PFI X G false tg a (seqA fa) := fun A => QV (piOr (Xi hG h (A := A)) (dX (@h A))) fun σ H R ⟨ρ, ds, o, e, k⟩ => by
 unfold seqA at e
 split at e
 ·rename_i x e1
  cases e
  refine .inr ⟨ρ, _, o, e1, fun v H1 s1 r1 => ?_⟩
  cases r1
  exact ⟨_, rfl, k _ H1 s1 Zr⟩
 ·exact .inl ⟨ρ, _, o, e, k⟩
def blsD : List D → Option (List Bool)
 | [] => some []
 | .bl i :: r => (blsD r).map (i :: ·)
 | _ :: _ => none
theorem Vr {H : Hp} : ∀ {ds : List D} {xs : List V} {bs : List Bool}, RepL G H xs ds → blsD ds = some bs → xs = bs.map V.bl
 | [], xs, bs, r, h => by cases h; exact r.nil_inv
 | d :: ds, xs, bs, r, h => by
  obtain ⟨x, ys, rfl, r1, r2⟩ := r.uncons
  cases d with
  | bl i =>
   cases e : blsD ds with
   | none => simp [blsD, e] at h
   | some bs' =>
    simp [blsD, e] at h
    subst h
    cases r1
    rw [Vr r2 e]
    rfl
  | _ => simp [blsD] at h
theorem Wc (hc : X.calm = true) : JS X (.builtin "all") (fun xs H Q => ∃ (p : Addr) (bs : List Bool), xs = [.ref p] ∧ SqL X.K H p (bs.map V.bl) ∧ Q (.bl (bs.all id)) H) := by
 intro pins s σ H xs us Q I r h
 obtain ⟨p, bs, rfl, hs, k⟩ := h
 obtain ⟨u, rfl, ru⟩ := r.one
 cases ru
 obtain ⟨its, rv, pl, hz⟩ := I.list hs
 have hl := pl.isList
 have hlt : p ≠ s.heap.objs.size := by obtain ⟨o, ho, _⟩ := hl; exact Nat.ne_of_lt (Heap.lt_size ho)
 have hlen : bs.length = its.length := by have := rv.length; rwa [List.length_map] at this
 refine call_all_walk (wpAny_pyIter_list hl ?_)
 refine ⟨_, _, _, _, _, _, fun i => bs.getD i true, rfl, Walks.list (A := X.A.in1) (I.ok.hd hc) s.heap.objs.size p hlt its.toArray, ⟨⟨_, Heap.get?_push_size _ rfl, rfl, rfl⟩, hl.push _⟩, ?_, fun h' tk kk => ?_⟩
 ·intro i v s' Q' E' hv hq
  have hi : its[i]? = some v := by simpa using hv
  have hlt' : i < bs.length := by rw [hlen]; exact (List.getElem?_eq_some_iff.mp hi).1
  obtain ⟨u', hu, ru⟩ := rv.get (i := i) (x := .bl (bs[i]'hlt')) (by rw [List.getElem?_map]; simp [hlt'])
  rw [hi] at hu
  cases hu
  cases (show v = Value.bool (bs[i]'hlt') from ru)
  have e : bs.getD i true = bs[i]'hlt' := by simp [List.getD, hlt']
  have hq' : Q' (bs.getD i true) s' := hq
  rw [e] at hq'
  exact wpAny_truthy_bool hq'
 ·refine ⟨.bl (bs.all id), H, I.kept (fun b o e => kk b o ?_ (Heap.get?_push_of_some _ e)), ?_, k⟩
  ·intro hb
   have : b = s.heap.objs.size := by simpa using hb
   exact absurd (Heap.lt_size e) (by rw [this]; exact Nat.lt_irrefl _)
  ·show Value.bool _ = Value.bool _
   congr 1
   rw [List.size_toArray, ← hlen]
   rw [Bool.eq_iff_iff, List.all_eq_true, List.all_eq_true]
   constructor
   ·intro q b hb
    obtain ⟨i, hi, rfl⟩ := List.getElem_of_mem hb
    have := q i (List.mem_range.mpr hi)
    simpa [List.getD, hi] using this
   ·intro q i hi
    have hi' := List.mem_range.mp hi
    have := q (bs[i]'hi') (List.getElem_mem hi')
    simpa [List.getD, hi'] using this
def allD : D → Option D
 | .lst ds => (blsD ds).map fun bs => .bl (bs.all id)
 | _ => none
theorem Zt : SndC G (fun xs H Q => ∃ (p : Addr) (bs : List Bool), xs = [.ref p] ∧ SqL G.K H p (bs.map V.bl) ∧ Q (.bl (bs.all id)) H) allD := by
 intro A H x dx d Q lv rx h k
 unfold allD at h
 split at h
 ·rename_i ds
  cases e : blsD ds with
  | none => simp [e] at h
  | some bs =>
   rw [e] at h
   cases h
   obtain ⟨p, xs, rfl, h1, r⟩ := rx.lst
   have e2 := Vr r e
   subst e2
   exact ⟨p, bs, rfl, h1, k _ H (Same.refl H) (.bl _)⟩
 ·cases h
theorem dY : bootBuiltins "all" = some (.builtin "all") := by decide +kernel
end
end PV
namespace PV
open PySem PySem.Spec L2
open PyProof.Rows hiding St
section
variable {X : Cx} {G : Gx} {a b c tg : Expr} {fa fb fc : FE} {pos p2 : Pos}
def isND (neg : Bool) : D → Option D
 | .non => some (.bl (!neg))
 | _ => some (.bl neg)
theorem Rv {A : List Addr} {H : Hp} {v : V} {d : D} (r : RepT G A H v d) : (decide (v = .non)) = (match d with | .non => true | _ => false) := by
 rcases r with r | ⟨p, e, r⟩
 ·cases r <;> simp
 ·subst e
  cases d <;> first | exact r.elim | simp
theorem dZ {j : Nat} {p' : Pos} (ha : PU X G a fa) : PF X G (.Compare a [.Is] [.Constant .none j p'] pos) (uF (isND false) fa) := fun A => Ey (Wm (Wl (@ha A))) fun σ H Q ⟨ρ, d, o, e, k⟩ => by
 obtain ⟨x0, e1, e2⟩ := Iw e
 refine ⟨ρ, x0, o, e1, fun v H1 s1 r1 => ?_⟩
 show Q (.bl (decide (v = .non))) H1
 rw [Rv r1]
 cases x0 <;> (cases e2; exact k _ H1 s1 (.bl _))
theorem Zu {j : Nat} {p' : Pos} (ha : PU X G a fa) : PF X G (.Compare a [.IsNot] [.Constant .none j p'] pos) (uF (isND true) fa) := fun A => Ey (Wm (Yu (@ha A))) fun σ H Q ⟨ρ, d, o, e, k⟩ => by
 obtain ⟨x0, e1, e2⟩ := Iw e
 refine ⟨ρ, x0, o, e1, fun v H1 s1 r1 => ?_⟩
 show Q (.bl (!decide (v = .non))) H1
 rw [Rv r1]
 cases x0 <;> (cases e2; exact k _ H1 s1 (.bl _))
theorem K6 {j : Nat} {p' : Pos} (ha : PU X G a fa) : PFT X G (.Compare a [.Is] [.Constant .none j p'] pos) (blF (uF (isND false) fa)) := fun A => Vk (cC (Wl (@ha A))) fun σ H Q ⟨ρ, b, o, e, k⟩ => by
 obtain ⟨x0, e1, e2⟩ := Iw (Tg e)
 refine ⟨ρ, x0, o, e1, fun v H1 s1 r1 => ⟨_, rfl, ?_⟩⟩
 rw [Rv r1]
 cases x0 <;> (cases e2; exact k H1 s1)
end
end PV
namespace PV
open PySem PySem.Spec L2
open PyProof.Rows hiding St
section
variable {X : Cx} {G : Gx} {a b c tg : Expr} {fa fb fc : FE} {pos p2 : Pos}
def eqTo (x d : D) : Bool := match eqK 62 d x with | some b => b | none => false
def knows (x d : D) : Bool := (eqK 62 d x).isSome
def rInP (G : Gx) (neg : Bool) : R2 := fun x y H Q => ∃ (A : List Addr) (as ds : List D), RepT G A H x (.tup as) ∧ RepT G A H y (.lst ds) ∧ ds.all (knows (.tup as)) = true ∧ Q (.bl (if neg then !ds.any (eqTo (.tup as)) else ds.any (eqTo (.tup as)))) H
open Classical in
theorem Zv (hG : G.K = X.K) (hu : X.A.units + 64 < cLine) {pins : List (Addr × Obj)} {s : Shared} {σ : St} {H : Hp} {A : List Addr} {x : V} {u : Value} {as ds : List D} {xs : List V} {its : List Value} (I : Inv X pins σ H s) (rx : RepT G A H x (.tup as)) (ru : RelV x u)
  (r : RepL G (hid A H) xs ds) (v : Vals xs its) (hk : ds.all (knows (.tup as)) = true) :
  ∃ e : Value → Bool, (∀ y, y ∈ its.toArray → SeqAt.EqAt X.A.in1 s y u (e y)) ∧ its.toArray.any e = ds.any (eqTo (.tup as)) := by
 have rx' : Rep G H x (.tup as) := by
  rcases rx with q | ⟨p, _, q⟩
  ·exact q.mono DQ
  ·exact q.elim
 have one : ∀ (i : Nat) y, its[i]? = some y → ∃ d, ds[i]? = some d ∧ SeqAt.EqAt X.A.in1 s y u (eqTo (.tup as) d) := fun i y hy => by
  have hi : i < its.length := (List.getElem?_eq_some_iff.mp hy).1
  have hx : i < xs.length := by rw [v.length]; exact hi
  have hd : i < ds.length := by rw [← r.1]; exact hx
  obtain ⟨y', h1, h2⟩ := v.get (i := i) (x := xs[i]) (by simp [hx])
  rw [hy] at h1
  cases h1
  refine ⟨ds[i], by simp [hd], ?_⟩
  have kn : knows (.tup as) ds[i] = true := List.all_eq_true.mp hk _ (List.getElem_mem hd)
  unfold knows at kn
  obtain ⟨b, hb⟩ := Option.isSome_iff_exists.mp kn
  have eb : eqTo (.tup as) ds[i] = b := by unfold eqTo; rw [hb]
  rw [eb]
  exact Ol I hG 62 X.A.in1 (by show X.A.units + 1 + 62 < cLine; omega) hb ((r.2 i _ _ (by simp [hx]) (by simp [hd])).mono DQ) rx' h2 ru
 refine ⟨fun y => decide (∃ (i : Nat) (d : D), its[i]? = some y ∧ ds[i]? = some d ∧ eqTo (.tup as) d = true), fun y hy => ?_, ?_⟩
 ·by_cases h : ∃ (i : Nat) (d : D), its[i]? = some y ∧ ds[i]? = some d ∧ eqTo (.tup as) d = true
  ·obtain ⟨i, d, h1, h2, h3⟩ := id h
   obtain ⟨d', h4, h5⟩ := one i y h1
   rw [h2] at h4
   cases h4
   rw [h3] at h5
   show SeqAt.EqAt X.A.in1 s y u (decide (∃ (i : Nat) (d : D), its[i]? = some y ∧ ds[i]? = some d ∧ eqTo (.tup as) d = true))
   rw [decide_eq_true h]
   exact h5
  ·obtain ⟨i, hi, rfl⟩ := List.getElem_of_mem (show y ∈ its by simpa using hy)
   have hii : its[i]? = some its[i] := List.getElem?_eq_getElem hi
   obtain ⟨d, h4, h5⟩ := one i _ hii
   have h6 : eqTo (.tup as) d = false := by
    cases q : eqTo (.tup as) d with
    | false => rfl
    | true => exact absurd ⟨i, d, hii, h4, q⟩ h
   rw [h6] at h5
   show SeqAt.EqAt X.A.in1 s its[i] u (decide (∃ (j : Nat) (d : D), its[j]? = some its[i] ∧ ds[j]? = some d ∧ eqTo (.tup as) d = true))
   rw [decide_eq_false h]
   exact h5
 ·rw [Bool.eq_iff_iff, List.any_eq_true]
  rw [show its.toArray.any (fun y => decide (∃ (i : Nat) (d : D), its[i]? = some y ∧ ds[i]? = some d ∧ eqTo (.tup as) d = true)) = its.any (fun y => decide (∃ (i : Nat) (d : D), its[i]? = some y ∧ ds[i]? = some d ∧ eqTo (.tup as) d = true)) by simp, List.any_eq_true]
  constructor
  ·rintro ⟨y, hy, h⟩
   obtain ⟨i, d, h1, h2, h3⟩ := of_decide_eq_true h
   exact ⟨d, List.mem_of_getElem? h2, h3⟩
  ·rintro ⟨d, hd, h⟩
   obtain ⟨i, hi, rfl⟩ := List.getElem_of_mem hd
   have hx : i < its.length := by rw [← v.length, r.1]; exact hi
   exact ⟨its[i], List.getElem_mem hx, decide_eq_true ⟨i, _, List.getElem?_eq_getElem hx, List.getElem?_eq_getElem hi, h⟩⟩
theorem Xk (hG : G.K = X.K) (hu : X.A.units + 64 < cLine) : OpR X (compareOp .In) (rInP G false) := by
 intro pins s σ H x y v u Q I rx ry h
 obtain ⟨A, as, ds, r1, r2, hk, k⟩ := h
 obtain ⟨c, ys, rfl, h2, q2⟩ := r2.lst
 cases ry
 obtain ⟨jts, v2, p2, _⟩ := I.list (by rw [← hG]; exact h2)
 obtain ⟨e, he, ea⟩ := Zv hG hu I r1 rx q2 v2 hk
 exact SeqAt.in_listAt e p2.isList he ⟨.bl _, H, I, rfl, by rw [ea]; exact k⟩
def inF (neg : Bool) (x y : D) : Option D := match x, y with
 | .tup as, .lst ds => if ds.all (knows (.tup as)) = true then some (.bl (if neg then !ds.any (eqTo (.tup as)) else ds.any (eqTo (.tup as)))) else none
 | x, y => inE neg x y
theorem Vs (neg : Bool) : GP G (fun x y H Q => (rInA G.K neg x y H Q ∨ rDIn neg x y H Q) ∨ rInP G neg x y H Q) (inF neg) := by
 intro A H x y dx dy d Q lv rx ry h k
 unfold inF at h
 split at h
 ·split at h
  ·rename_i hk
   cases h
   exact .inr ⟨A, _, _, rx, ry, hk, k _ H (Same.refl H) (.bl _)⟩
  ·cases h
 ·exact .inl (Zn neg A H x y _ _ d Q lv rx ry h k)
end
end PV
namespace PySem
open PySem.Spec
end PySem
namespace PySem
open PySem.Spec
end PySem
namespace PV
open PySem PySem.Spec L2
open PyProof.Rows hiding St
theorem Xl : bootBuiltins "tuple" = some (.type "tuple") := by decide +kernel
def Gx.lend (G : Gx) (x : Addr) : Gx := { G with lent := some x }
section
variable {G : Gx} {x : Addr} {H : Hp}
theorem Rep.lend {v : V} {d : D} (r : Rep G H v d) : Rep (G.lend x) H v d := by
 induction r with
 | non => exact .non
 | bl b => exact .bl b
 | int i => exact .int i
 | str x => exact .str x
 | tup h l _ ih => exact .tup h l ih
 | lst h l _ ih => exact .lst h l ih
 | dk h l _ ih => exact .dk h l ih
 | dt h l _ ih => exact .dt h l ih
 | adr a => exact .adr a
 | ob c h l _ ih => exact .ob c h l ih
 | err c h q f => exact .err c h q f
theorem Rep.unlend {v : V} {d : D} (r : Rep (G.lend x) H v d) : Rep G H v d := by
 induction r with
 | non => exact .non
 | bl b => exact .bl b
 | int i => exact .int i
 | str x => exact .str x
 | tup h l _ ih => exact .tup h l ih
 | lst h l _ ih => exact .lst h l ih
 | dk h l _ ih => exact .dk h l ih
 | dt h l _ ih => exact .dt h l ih
 | adr a => exact .adr a
 | ob c h l _ ih => exact .ob c h l ih
 | err c h q f => exact .err c h q f
theorem RepL.lend {xs : List V} {ds : List D} (r : RepL G H xs ds) : RepL (G.lend x) H xs ds := ⟨r.1, fun i y d a b => (r.2 i y d a b).lend⟩
theorem RepL.unlend {xs : List V} {ds : List D} (r : RepL (G.lend x) H xs ds) : RepL G H xs ds := ⟨r.1, fun i y d a b => (r.2 i y d a b).unlend⟩
theorem Top.lend {A : List Addr} {a : Addr} {d : D} (t : Top G A H a d) : Top (G.lend x) A H a d := by
 cases d with
 | lst ds => obtain ⟨xs, q1, q2⟩ := t; exact ⟨xs, q1, q2.lend⟩
 | dk ds => obtain ⟨xs, q1, q2, q3⟩ := t; exact ⟨xs, q1, q2, q3.lend⟩
 | dt ds => obtain ⟨xs, q1, q2, q3⟩ := t; exact ⟨xs, q1, q2, q3.lend⟩
 | ob c gs => obtain ⟨C, dx, xs, q1, q2, q3⟩ := t; exact ⟨C, dx, xs, q1, q2, q3.lend⟩
 | _ => exact t.elim
theorem Top.unlend {A : List Addr} {a : Addr} {d : D} (t : Top (G.lend x) A H a d) : Top G A H a d := by
 cases d with
 | lst ds => obtain ⟨xs, q1, q2⟩ := t; exact ⟨xs, q1, q2.unlend⟩
 | dk ds => obtain ⟨xs, q1, q2, q3⟩ := t; exact ⟨xs, q1, q2, q3.unlend⟩
 | dt ds => obtain ⟨xs, q1, q2, q3⟩ := t; exact ⟨xs, q1, q2, q3.unlend⟩
 | ob c gs => obtain ⟨C, dx, xs, q1, q2, q3⟩ := t; exact ⟨C, dx, xs, q1, q2, q3.unlend⟩
 | _ => exact t.elim
theorem Top.sub {A B : List Addr} {a : Addr} {d : D} (t : Top G B H a d) (h : ∀ a ∈ A, a ∈ B) : Top G A H a d := by
 cases d with
 | lst ds => obtain ⟨xs, q1, q2⟩ := t; exact ⟨xs, q1, q2.mono (Ff h)⟩
 | dk ds => obtain ⟨xs, q1, q2, q3⟩ := t; exact ⟨xs, q1, q2, q3.mono (Ff h)⟩
 | dt ds => obtain ⟨xs, q1, q2, q3⟩ := t; exact ⟨xs, q1, q2, q3.mono (Ff h)⟩
 | ob c gs => obtain ⟨C, dx, xs, q1, q2, q3⟩ := t; exact ⟨C, dx, xs, q1, q2, q3.mono (Ff h)⟩
 | _ => exact t.elim
def Mm (x : Addr) (H H' : Hp) : Prop := ∀ b o, b ≠ x → H b = some o → H' b = some o
theorem Fz {A : List Addr} {H' : Hp} (hx : x ∈ A) (s : Mm x H H') : Same (hid A H) (hid A H') := fun b o h => by
 unfold hid at h ⊢
 split at h
 ·cases h
 ·rename_i hb; rw [if_neg hb]; exact s b o (fun z => hb (z ▸ hx)) h
theorem Top.other {A : List Addr} {H' : Hp} {q : Addr} {d : D} (t : Top G A H q d) (nq : q ≠ x) (hx : x ∈ A) (s : Mm x H H') : Top G A H' q d := by
 have sm := Fz hx s
 cases d with
 | lst ds => obtain ⟨xs, q1, q2⟩ := t; exact ⟨xs, s _ _ nq q1, q2.mono sm⟩
 | dk ds => obtain ⟨xs, q1, q2, q3⟩ := t; exact ⟨xs, s _ _ nq q1, q2, q3.mono sm⟩
 | dt ds => obtain ⟨xs, q1, q2, q3⟩ := t; exact ⟨xs, s _ _ nq q1, q2, q3.mono sm⟩
 | ob c gs => obtain ⟨C, dx, xs, q1, q2, q3⟩ := t; exact ⟨C, dx, xs, s _ _ nq q1, q2, q3.mono sm⟩
 | _ => exact t.elim
end
theorem OkW.wrX {G : Gx} {A0 : List Addr} {He : Hp} {A : List Addr} {σ : St} {H H' : Hp} {ρ : Rho} {i : Nat} {d0 d : D} {p : Addr} (w : OkW G A0 He A σ H ρ) (hi : ρ[i]? = some (.ow d0)) (hs : σ[i]? = some (some (.ref p))) (sx : Mm p H H') (t : Top G A H' p d) : OkW G A0 He A σ H' (ρ.set i (.ow d)) := by
 obtain ⟨q, h1, hA, _⟩ := w.ok.ow i d0 hi
 rw [hs] at h1
 cases h1
 have hep : He p = none := by
  rcases w.fr p hA with z | z
  ·exact absurd z (w.ow0 i d0 p hi hs)
  ·exact z
 have sm := Fz hA sx
 refine ⟨fun b u h => sx b u (CT h hep) (w.same b u h), w.sub, w.fr, w.l0, ⟨by rw [List.length_set]; exact w.ok.len, fun b hb => ?_, fun j e h => ?_, fun j e h => ?_, fun j k e f q g1 g2 g3 g4 => ?_⟩, fun j e q g1 g2 => ?_, fun x e hx h0 => ?_⟩
 ·by_cases z : b = p
  ·rw [z]; exact t.live
  ·exact (w.ok.live b hb).mono fun u e => sx b u z e
 ·rcases DR h with ⟨_, hz, _⟩ | ⟨hj, hz⟩
  ·cases hz
  ·obtain ⟨v, q1, q2⟩ := w.ok.fz j e hz
   exact ⟨v, q1, q2.mono sm⟩
 ·rcases DR h with ⟨hj, hz, hl⟩ | ⟨hj, hz⟩
  ·cases hz
   subst hj
   exact ⟨p, hs, hA, t⟩
  ·obtain ⟨q, q1, q2, q3⟩ := w.ok.ow j e hz
   have nq : q ≠ p := fun z => hj (w.ok.inj j i e d0 p hz hi (z ▸ q1) hs)
   exact ⟨q, q1, q2, q3.other nq hA sx⟩
 ·have up : ∀ (m : Nat) (g : D), (ρ.set i (.ow d))[m]? = some (.ow g) → ∃ g', ρ[m]? = some (.ow g') := fun m g z => by
   rcases DR z with ⟨hm, _, _⟩ | ⟨_, hz⟩
   ·exact ⟨d0, by rw [hm]; exact hi⟩
   ·exact ⟨g, hz⟩
  obtain ⟨e', z1⟩ := up j e g1
  obtain ⟨f', z2⟩ := up k f g2
  exact w.ok.inj j k e' f' q z1 z2 g3 g4
 ·rcases DR g1 with ⟨hj, _, _⟩ | ⟨hj, hz⟩
  ·subst hj
   exact w.ow0 j d0 q hi g2
  ·exact w.ow0 j e q hz g2
 ·rcases DR h0 with ⟨hj, _, _⟩ | ⟨_, hz⟩
  ·exact w.lt x d0 hx (by rw [hj]; exact hi)
  ·exact w.lt x e hx hz
def spS (G : Gx) (g : List D → Option (D × D)) : Sp := fun vs H Q _ => ∃ A x vs' so ds d so', vs = .ref x :: vs' ∧ (∀ a ∈ A, Nt (H a)) ∧ x ∈ A ∧ Top G A H x so ∧ RepL G (hid A H) vs' ds ∧ g (so :: ds) = some (d, so') ∧
 ∀ v H', Mm x H H' → Top G A H' x so' → Rep G (hid A H') v d → Q v H'
theorem K7 {P : Program} {w : World} {K : PySem.W.Frag} {mg : Str → Option Value} {base : Heap} {CX : CXT} {k : Nat} {f : Addr} {fd : FuncData} {ps : List Str} {G : Gx} {g : List D → Option D} {y : Addr} (F : FnOk P w K mg base CX k f fd ps (spD G g)) : FnOk P w K mg base CX k f fd ps (spD (G.lend y) g) :=
 F.imp fun vs H Q E ⟨A, ds, d, lv, r, e, q⟩ => ⟨A, ds, d, lv, r.unlend, e, fun v H' s r' => q v H' s r'.lend⟩
theorem gq {P : Program} {w : World} {K : PySem.W.Frag} {mg : Str → Option Value} {base : Heap} {CX : CXT} {k : Nat} {f : Addr} {fd : FuncData} {ps : List Str} {G : Gx} {g : List D → Option (D × D)} {y : Addr} (F : FnOk P w K mg base CX k f fd ps (spS G g)) : FnOk P w K mg base CX k f fd ps (spS (G.lend y) g) :=
 F.imp fun vs H Q E ⟨A, x, vs', so, ds, d, so', e0, lv, hx, t, r, e, q⟩ => ⟨A, x, vs', so, ds, d, so', e0, lv, hx, t.unlend, r.unlend, e, fun v H' s t' r' => q v H' s t'.lend r'.lend⟩
theorem Qa {G : Gx} {A : List Addr} {H : Hp} {N : List Str} {x : Addr} {vs : List V} {so : D} {ds : List D} (live : ∀ a ∈ A, Nt (H a)) (hx : x ∈ A) (t : Top G A H x so) (r : RepL G (hid A H) vs ds) (hn : vs.length + 1 ≤ N.length) :
  OkW (G.lend x) (A.filter fun b => decide (b ≠ x)) (hid [x] H) A (start N (.ref x :: vs)) H (Hy N.length (so :: ds)) := by
 have hmem : ∀ b, b ∈ A.filter (fun b => decide (b ≠ x)) ↔ b ∈ A ∧ b ≠ x := fun b => by simp [List.mem_filter]
 have key : ∀ (i : Nat) (z : Slot), (Hy N.length (so :: ds))[i]? = some z → (i = 0 ∧ z = .ow so) ∨ (∃ j d, i = j + 1 ∧ z = .fz d ∧ ds[j]? = some d) ∨ z = .un := fun i z h => by
  cases i with
  | zero => exact .inl ⟨rfl, (Option.some.inj h).symm⟩
  | succ j =>
   right
   have h : (ds.map Slot.fz ++ List.replicate (N.length - (ds.length + 1)) Slot.un)[j]? = some z := h
   by_cases hi : j < ds.length
   ·rw [List.getElem?_append_left (by simpa using hi), List.getElem?_map] at h
    cases e : ds[j]? with
    | none => rw [e] at h; cases h
    | some d => rw [e] at h; exact .inl ⟨j, d, rfl, (Option.some.inj h).symm, e⟩
   ·rw [List.getElem?_append_right (by simpa using Nat.not_lt.mp hi), List.getElem?_replicate] at h
    split at h
    ·exact .inr (Option.some.inj h).symm
    ·cases h
 have s0 : (start N (.ref x :: vs))[0]? = some (some (.ref x)) := rfl
 refine ⟨DQ, fun a ha => ((hmem a).mp ha).1, fun a ha => ?_, fun a ha => ?_, ⟨?_, live, fun i d h => ?_, fun i d h => ?_, fun i j d e a h1 h2 _ _ => ?_⟩, fun i d a h h2 => ?_, fun y d hy _ => ?_⟩
 ·by_cases z : a = x
  ·right; unfold hid; rw [if_pos (by simp [z])]
  ·exact .inl ((hmem a).mpr ⟨ha, z⟩)
 ·obtain ⟨h1, h2⟩ := (hmem a).mp ha
  rw [Dt (by simpa using h2)]
  exact (live a h1).ne
 ·unfold L2.start Hy
  simp only [List.length_append, List.length_map, List.length_replicate, List.length_cons]
  rw [← r.1]
  omega
 ·rcases key i _ h with ⟨_, e⟩ | ⟨j, d', rfl, e, hd⟩ | e
  ·cases e
  ·cases e
   obtain ⟨v, h1, h2⟩ := r.get hd
   refine ⟨v, ?_, h2.lend⟩
   have hj : j < vs.length := (List.getElem?_eq_some_iff.mp h1).1
   show ((V.ref x :: vs).map some ++ _)[j + 1]? = _
   rw [List.getElem?_append_left (by simp; omega), List.getElem?_map, List.getElem?_cons_succ, h1]
   rfl
  ·cases e
 ·rcases key i _ h with ⟨rfl, e⟩ | ⟨j, d', rfl, e, hd⟩ | e
  ·cases e
   exact ⟨x, s0, hx, t.lend⟩
  ·cases e
  ·cases e
 ·rcases key i _ h1 with ⟨rfl, e1⟩ | ⟨_, _, _, e1, _⟩ | e1
  ·rcases key j _ h2 with ⟨rfl, e2⟩ | ⟨_, _, _, e2, _⟩ | e2
   ·rfl
   ·cases e2
   ·cases e2
  ·cases e1
  ·cases e1
 ·rcases key i _ h with ⟨rfl, e⟩ | ⟨_, _, _, e, _⟩ | e
  ·rw [s0] at h2
   cases h2
   exact fun z => ((hmem _).mp z).2 rfl
  ·cases e
  ·cases e
 ·have hy : some x = some y := hy
  cases hy
  exact s0
theorem Js {d d' so : D} {ρ : Rho} (h : endS d ρ = some (d', so)) : d' = d ∧ ρ[0]? = some (.ow so) := by
 unfold endS getW at h
 split at h
 ·rename_i e; simp at h; exact ⟨h.1.symm, by rw [e, h.2]⟩
 ·simp at h
theorem fn_S {P : Program} {w : World} {G : Gx} {mg : Str → Option Value} {base : Heap} {x qual : Str} {st : Stmt} {f : Addr} {fd : FuncData} {N ps : List Str} {k : Nat} {b : FS} (F : Fun G.K x qual st f fd) (S : FnScope N ps (Ae st)) (hl : ps.length ≤ N.length)
  (hb : ∀ (y : Addr) (cdv : Value) (A : Around) (outer : List Env) (s : Shared) (H : Hp) (E : XK), Room k (A.deeper (envOfC qual (Ae st) s.heap.objs.size f cdv)) → PSDs (cxOf CX0 P w G.K mg base N qual (Ae st) f cdv A outer s H E).nox (G.lend y) (DG st) b) :
  FnOk P w G.K mg base CX0 (k + 1) f fd ps (spS G (runS N.length ps.length b)) := by
 refine F.ok S (fun vs H Q E h => ?_) (fun cdv A outer s H vs Q E hr h => ?_)
 ·obtain ⟨A, x, vs', so, ds, d, so', rfl, lv, hx, t, r, e, _⟩ := h
  unfold runS at e
  split at e
  ·rename_i hz; rw [List.length_cons, r.1]; exact hz
  ·cases e
 ·obtain ⟨A1, x, vs', so, ds, d, so', rfl, lv, hx, t, r, e, k⟩ := h
  unfold runS at e
  split at e
  ·rename_i hz
   have hzz := hb x cdv A outer s H E hr
   refine ⟨_, @hzz (A1.filter fun b => decide (b ≠ x)) (hid [x] H), Hy N.length (so :: ds), ?_⟩
   have fin : ∀ (σ' : St) (H' : Hp) (A2 : List Addr) (ρ : Rho) (v : V) (d2 : D), OkW (G.lend x) (A1.filter fun b => decide (b ≠ x)) (hid [x] H) A2 σ' H' ρ → Rep (G.lend x) (hid A2 H') v d2 → endS d2 ρ = some (d, so') → Q v H' := fun σ' H' A2 ρ v d2 w rv he => by
    obtain ⟨rfl, h0⟩ := Js he
    obtain ⟨a, q1, q2, q3⟩ := w.ok.ow 0 so' h0
    rw [w.lt x so' rfl h0] at q1
    cases q1
    have sub : ∀ a ∈ A1, a ∈ A2 := fun a ha => by
     by_cases z : a = x
     ·rw [z]; exact q2
     ·exact w.sub a (by simp [List.mem_filter, ha, z])
    exact k v H' (fun b o hb ho => w.same b o (by rw [Dt (by simpa using hb)]; exact ho)) (q3.unlend.sub sub) (rv.unlend.mono (Ff sub))
   cases e1 : b (Hy N.length (so :: ds)) with
   | none => simp [e1] at e
   | some o =>
    refine ⟨o, ⟨_, Qa lv hx t r (by rw [r.1]; simp at hz; omega)⟩, rfl, ?_⟩
    cases o with
    | nx ρ =>
     simp only [e1] at e
     exact fun σ H' ⟨A, w⟩ => fin σ H' A ρ .non .non w .non e
    | rt d' ρ' =>
     simp only [e1] at e
     exact fun v σ H' A w r' => fin σ H' A ρ' v d' w r' e
    | bk ρ => simp [e1] at e
    | ct ρ => simp [e1] at e
  ·cases e
def tX (G : Gx) (A0 : List Addr) (He : Hp) (h : FZ) : TE := fun σ H Q => ∃ ρ d ρ' A, OkW G A0 He A σ H ρ ∧ h ρ = some (d, ρ') ∧ ∀ v H' A', OkW G A0 He A' σ H' ρ' → Same (hid A H) (hid A' H') → Rep G (hid A' H') v d → Q v H'
def PX (X : Cx) (G : Gx) (e : Expr) (h : FZ) : Prop := ∀ ⦃A0⦄ He, PE X e (tX G A0 He h)
section
variable {X : Cx} {G : Gx} {a b c : Expr} {fa fb fc : FE} {pos p2 px rp p apos : Pos} {es : List Expr} {fs : FA} {h : FZ} {hs : FZA}
theorem Zw {i : Nat} {x : Str} (hp : ∀ te, PE X a te → PS X (.Assign [.Name x p] a pos) (tAsg te (IW i))) (ha : PX X G a h) : PSD X G (.Assign [.Name x p] a pos) (setX i h) := fun A0 He pins s σ H D I ⟨ρ, o, ⟨A, w⟩, e, k⟩ => by
 refine hp _ (@ha A0 He) pins s σ H D I ?_
 unfold setX at e
 cases e1 : h ρ with
 | none => simp [e1] at e
 | some r =>
  simp only [e1, Option.map_some] at e
  cases e
  exact ⟨ρ, _, _, A, w, e1, fun v H' A' w' sm rv => k _ _ ⟨A', w'.set rv i⟩⟩
theorem Ov {m : Str} : ∀ {gs : List (Str × D)} {fs : List (Str × V)}, fs.map (·.1) = gs.map (·.1) → gs.lookup m = none → fs.lookup m = none
 | [], fs, e, h => by
  cases fs with
  | nil => rfl
  | cons q r => simp at e
 | p :: gs, [], e, h => by simp at e
 | p :: gs, q :: fs, e, h => by
  rw [List.map_cons, List.map_cons] at e
  injection e with e1 e2
  obtain ⟨p1, p2⟩ := p
  obtain ⟨q1, q2⟩ := q
  simp only at e1
  subst e1
  by_cases hf : m = q1
  ·subst hf; simp [List.lookup_cons] at h
  ·have hb : (m == q1) = false := beq_eq_false_iff_ne.mpr hf
   simp only [List.lookup_cons, hb] at h ⊢
   exact Ov e2 h
theorem Jc {A : List Addr} {H : Hp} {y C : Addr} {c m : Str} {so : D} (hc : G.cl c = some C) (ho : isOb c m so = true) (t : Top G A H y so) : ∃ dx fs, H y = some (.ins C dx fs) ∧ fs.lookup m = none := by
 unfold isOb at ho
 split at ho
 ·rename_i c' gs
  rw [Bool.and_eq_true] at ho
  have hc' := of_decide_eq_true ho.1
  subst hc'
  obtain ⟨C', dx, xs, q1, q2, q3⟩ := t
  rw [hc] at q2
  cases q2.1
  exact ⟨dx, xs, q1, Ov q2.2 (Option.isNone_iff_eq_none.mp ho.2)⟩
 ·cases ho
theorem Xm {pl : Sem Bool} {k i : Nat} {f C : Addr} {fd : FuncData} {ps : List Str} {g : List D → Option (D × D)} {cn m r : Str} (hcl : G.cl cn = some C) (hc : Cls X.K C) (hme : Meth X.K C m f) (F : FnOk X.prog X.w X.K X.mg X.base CX0 k f fd ps (spS G g)) (hr : Room k X.A)
  (hb : Binds X.K fd ps []) (hv : PE X (.Name r rp) (tVar i))
  (ht : eval (.Call (.Attribute (.Name r rp) m apos) [] [] pos) X.env = (do
   let ov ← eval (.Name r rp) X.env
   standAt apos.atName
   let (f, first) ← holding [ov] (getMethod ov m pl)
   callWith pos f first (backTo pos (starEach [] X.env)) (backToKw pos (keywordEach [] X.env))) := by rfl) :
  PX X G (.Call (.Attribute (.Name r rp) m apos) [] [] pos) (Ep cn m g i nilA) := fun A0 He pins s σ H Q I ⟨ρ, d, ρ', A, w, e, k⟩ => by
 refine S7 (pl := pl) hv hc hme F hr hb .nil TF ht pins s σ H Q I ?_
 unfold Ep at e
 cases e2 : ownO ρ i with
 | none => simp [e2] at e
 | some so =>
  simp only [e2, Option.bind_some] at e
  split at e
  ·rename_i ho
   have e1 : nilA ρ = some [] := rfl
   cases e3 : g [so] with
   | none => simp [e1, e3] at e
   | some r =>
    simp only [e1, e3, Option.bind_some, Option.map_some] at e
    cases e
    have hi := Ih e2
    obtain ⟨y, h1, hA, t⟩ := w.ok.ow i so hi
    obtain ⟨dx, xs, q1, q2⟩ := Jc hcl ho t
    refine ⟨_, h1, y, dx, xs, rfl, q1, q2, ?_⟩
    refine ⟨A, y, [], so, [], r.1, r.2, rfl, w.ok.live, hA, t, .nil, e3, fun v H' sx t' rv => k v H' A (w.wrX hi h1 sx t') (Fz hA sx) rv⟩
  ·cases e
theorem Tt {H H' : Hp} {v : V} {d d' : D} (h : Tf d = some d') (r : Rep G H v d) : d' = d ∧ Rep G H' v d := by
 cases d with
 | non => cases h; cases r; exact ⟨rfl, .non⟩
 | bl b => cases h; cases r; exact ⟨rfl, .bl b⟩
 | int b => cases h; cases r; exact ⟨rfl, .int b⟩
 | str b => cases h; cases r; exact ⟨rfl, .str b⟩
 | _ => cases h
theorem Vt {A : List Addr} {H : Hp} {y : Addr} {c m : Str} {so : D} (ho : isOb c m so = true) (t : Top G A H y so) : Rep G (hid (A.filter fun b => decide (b ≠ y)) H) (.ref y) so := by
 have hmem : ∀ b, b ∈ A.filter (fun b => decide (b ≠ y)) ↔ b ∈ A ∧ b ≠ y := fun b => by simp [List.mem_filter]
 unfold isOb at ho
 split at ho
 ·obtain ⟨C', dx, xs, q1, q2, q3⟩ := t
  exact .ob q2.1 (by rw [Dt (fun z => ((hmem y).mp z).2 rfl)]; exact q1) q2.2 (q3.mono (Ff fun b hb => ((hmem b).mp hb).1)).2
 ·cases ho
theorem Ow {c m : Str} {g : List D → Option D} {i : Nat} {ρ : Rho} {d : D} (e : Ib c m g i fs ρ = some d) : ∃ so ds d0, ρ[i]? = some (.ow so) ∧ isOb c m so = true ∧ fs ρ = some ds ∧ g (so :: ds) = some d0 ∧ Tf d0 = some d := by
 unfold Ib at e
 cases e2 : ownO ρ i with
 | none => simp [e2] at e
 | some so =>
  simp only [e2, Option.bind_some] at e
  split at e
  ·rename_i ho
   cases e1 : fs ρ with
   | none => simp [e1] at e
   | some ds =>
    cases e3 : g (so :: ds) with
    | none => simp [e1, e3] at e
    | some d0 =>
     simp only [e1, e3, Option.bind_some] at e
     exact ⟨so, ds, d0, Ih e2, ho, rfl, e3, e⟩
  ·cases e
theorem Ii {pl : Sem Bool} {k i : Nat} {f C : Addr} {fd : FuncData} {ps : List Str} {g : List D → Option D} {cn m r : Str} (hcl : G.cl cn = some C) (hc : Cls X.K C) (hme : Meth X.K C m f) (F : FnOk X.prog X.w X.K X.mg X.base CX0 k f fd ps (spD G g)) (hr : Room k X.A)
  (hb : Binds X.K fd ps []) (hv : PE X (.Name r rp) (tVar i)) (ha : PFA X G (b :: es) fs) (hst : starEach (b :: es) X.env = (false, eval b X.env) :: starEach es X.env := by rfl) (hpl : (backTo pos (starEach es X.env)).any (·.1) = false := by rfl)
  (ht : eval (.Call (.Attribute (.Name r rp) m apos) (b :: es) [] pos) X.env = (do
   let ov ← eval (.Name r rp) X.env
   standAt apos.atName
   let (f, first) ← holding [ov] (getMethod ov m pl)
   callWith pos f first (backTo pos (starEach (b :: es) X.env)) (backToKw pos (keywordEach [] X.env))) := by rfl) :
  PF X G (.Call (.Attribute (.Name r rp) m apos) (b :: es) [] pos) (Ib cn m g i fs) := fun A => Ey (Y7 (pl := pl) hv hc hme F hr hb .nil TF (@ha A) hst hpl ht) fun σ H Q ⟨ρ, d, o, e, k⟩ => by
 obtain ⟨so, ds, d0, hi, ho, e1, e3, e4⟩ := Ow e
 obtain ⟨y, h1, hA, t⟩ := o.ow i so hi
 obtain ⟨dx, xs, q1, q2⟩ := Jc hcl ho t
 refine ⟨_, h1, y, dx, xs, rfl, q1, q2, ρ, ds, o, e1, fun vs H1 s1 r1 => ?_⟩
 refine ⟨A.filter fun b => decide (b ≠ y), so :: ds, d0, fun a ha => (o.mono s1).live a (List.mem_filter.mp ha).1, ?_, e3, fun v H' s' r' => ?_⟩
 ·rw [List.append_nil]
  exact .cons (Vt ho (t.mono s1)) (r1.mono (Ff fun b hb => (List.mem_filter.mp hb).1))
 ·obtain ⟨e5, r5⟩ := Tt (H' := hid A H') e4 r'
  exact k v H' (s1.trans s') (e5 ▸ r5)
theorem Qc {pl : Sem Bool} {k i : Nat} {f C : Addr} {fd : FuncData} {ps : List Str} {g : List D → Option D} {cn m r : Str} (hcl : G.cl cn = some C) (hc : Cls X.K C) (hme : Meth X.K C m f) (F : FnOk X.prog X.w X.K X.mg X.base CX0 k f fd ps (spD G g)) (hr : Room k X.A)
  (hb : Binds X.K fd ps []) (hv : PE X (.Name r rp) (tVar i))
  (ht : eval (.Call (.Attribute (.Name r rp) m apos) [] [] pos) X.env = (do
   let ov ← eval (.Name r rp) X.env
   standAt apos.atName
   let (f, first) ← holding [ov] (getMethod ov m pl)
   callWith pos f first (backTo pos (starEach [] X.env)) (backToKw pos (keywordEach [] X.env))) := by rfl) :
  PF X G (.Call (.Attribute (.Name r rp) m apos) [] [] pos) (Ib cn m g i nilA) := fun A => Ey (S7 (pl := pl) hv hc hme F hr hb .nil TF ht) fun σ H Q ⟨ρ, d, o, e, k⟩ => by
 obtain ⟨so, ds, d0, hi, ho, e1, e3, e4⟩ := Ow e
 cases e1
 obtain ⟨y, h1, hA, t⟩ := o.ow i so hi
 obtain ⟨dx, xs, q1, q2⟩ := Jc hcl ho t
 refine ⟨_, h1, y, dx, xs, rfl, q1, q2, ?_⟩
 refine ⟨A.filter fun b => decide (b ≠ y), [so], d0, fun a ha => o.live a (List.mem_filter.mp ha).1, .cons (Vt ho t) .nil, e3, fun v H' s' r' => ?_⟩
 obtain ⟨e5, r5⟩ := Tt (H' := hid A H') e4 r'
 exact k v H' s' (e5 ▸ r5)
theorem Tu {H : Hp} {f : Str} {v : V} {d : D} (rv : Rep G H v d) : ∀ {gs : List (Str × D)} {fs : List (Str × V)}, fs.map (·.1) = gs.map (·.1) → RepL G H (fs.map (·.2)) (gs.map (·.2)) → (L2.putF f v fs).map (·.1) = (putG f d gs).map (·.1) ∧ RepL G H ((L2.putF f v fs).map (·.2)) ((putG f d gs).map (·.2))
 | [], fs, e, r => by
  cases fs with
  | nil => exact ⟨rfl, .cons rv .nil⟩
  | cons q r => simp at e
 | p :: gs, [], e, r => by simp at e
 | p :: gs, q :: fs, e, r => by
  rw [List.map_cons, List.map_cons] at e r
  injection e with e1 e2
  obtain ⟨x, ys, e3, r1, r2⟩ := r.uncons
  injection e3 with e4 e5
  subst e4 e5
  obtain ⟨p1, p2⟩ := p
  obtain ⟨q1, q2⟩ := q
  simp only at e1 r1
  subst e1
  unfold L2.putF putG
  by_cases hf : q1 = f
  ·rw [if_pos hf, if_pos hf]
   exact ⟨by simp only [List.map_cons]; rw [e2], .cons rv r2⟩
  ·rw [if_neg hf, if_neg hf]
   obtain ⟨i1, i2⟩ := Tu rv e2 r2
   exact ⟨by simp only [List.map_cons]; rw [i1], .cons r1 i2⟩
theorem Jd {i : Nat} {x f : Str} {pos' : Pos} (hcl : ∀ c C, G.cl c = some C → Cls X.K C ∧ Dy X.K C f) (hv : PE X (.Name x p) (tVar i)) (ha : PF X G a fa) (hsw : swapsWith a (some (.Attribute (.Name x p) f pos')) pos.line X.env = pure false := by rfl) :
  PSD X G (.Assign [.Attribute (.Name x p) f pos'] a pos) (fldS f i fa) := fun A0 He pins s σ H D I ⟨ρ, o, ⟨A, w⟩, e, k⟩ => by
 refine cX hv (@ha A) hsw pins s σ H D I ?_
 unfold fldS at e
 cases e1 : fa ρ with
 | none => simp [e1] at e
 | some v =>
  cases e2 : ownO ρ i with
  | none => simp [e1, e2] at e
  | some so =>
   cases e3 : Mj f so v with
   | none => simp [e1, e2, e3] at e
   | some so' =>
    simp only [e1, e2, e3, Option.bind_some, Option.map_some] at e
    cases e
    have hi := Ih e2
    obtain ⟨y, h1, hA, t⟩ := w.ok.ow i so hi
    unfold Mj at e3
    split at e3
    ·rename_i c gs
     split at e3
     ·rename_i hz
      cases e3
      obtain ⟨C, dx, xs, q1, q2, q3⟩ := t
      have hl := congrArg List.length q2.2
      rw [List.length_map, List.length_map] at hl
      refine ⟨ρ, v, w.ok, e1, fun u H1 s1 r1 => ⟨_, h1, y, C, dx, xs, rfl, s1 _ _ q1, (hcl _ _ q2.1).1, (hcl _ _ q2.1).2, by rw [hl]; exact hz, ?_⟩⟩
      obtain ⟨n1, n2⟩ := Tu (f := f) r1 q2.2 (q3.mono (DW s1))
      refine k _ _ ⟨A, (w.mono s1).wr hi h1 ⟨C, dx, _, Cj, ⟨q2.1, n1⟩, ?_⟩⟩
      rw [KY hA]
      exact n2
     ·cases e3
    ·cases e3
theorem Zx {k : Nat} {f C : Addr} {fd : FuncData} {ps : List Str} {g : List D → Option (D × D)} {cn x : Str} (hcl : G.cl cn = some C) (M : Mk X.K C f) (F : FnOk X.prog X.w X.K X.mg X.base CX0 k f fd ps (spS G g)) (hr : Room (k + 1) X.A) (hg : Gl X x) (hm : X.mg x = some (.ref C)) (hb : Binds X.K fd ps [])
  (ha : PFA X G (a :: es) fs) (hdb : (x == ("__debug__" : Str)) = false := by decide) (he : starEach (a :: es) X.env = (false, eval a X.env) :: starEach es X.env := by rfl) (hpl : (backTo pos (starEach es X.env)).any (·.1) = false := by rfl) :
  PN X G (.Call (.Name x p) (a :: es) [] pos) (mkF cn g fs) := fun A => Ey (Y8 M F hr hg hm hb .nil TF (@ha A) hdb he hpl) fun σ H Q ⟨ρ, d, o, e, k⟩ => by
 unfold mkF at e
 cases e1 : fs ρ with
 | none => simp [e1] at e
 | some ds =>
  cases e3 : g (.ob cn [] :: ds) with
  | none => simp [e1, e3] at e
  | some r =>
   simp only [e1, e3, Option.bind_some] at e
   obtain ⟨r1, r2⟩ := r
   cases r1 with
   | non =>
    cases e
    refine ⟨ρ, ds, o, e1, fun vs H1 s1 rv => fun y dx hy hdx hne => ?_⟩
    have sm : Same H1 (upd (upd H1 dx (.own y)) y (.ins C dx [])) := (Et hdx _).trans (Et (by rw [Bg (Ne.symm hne)]; exact hy) _)
    refine ⟨y :: A, y, vs, .ob cn [], ds, .non, _, by rw [List.append_nil], fun b hb => ?_, List.mem_cons_self, ⟨C, dx, [], Cj, ⟨hcl, rfl⟩, .nil⟩, rv.mono (QX sm hy), e3, fun v H' sx t' rv' => ?_⟩
    ·rcases List.mem_cons.mp hb with z | z
     ·rw [z, Cj]; exact Nt.ins
     ·exact ((o.mono s1).live b z).mono fun u e => sm _ _ e
    ·cases rv'
     refine ⟨rfl, k y H' (fun b u hb => sx b u (fun z => ?_) (sm _ _ (s1 _ _ hb))) (s1.free hy) t'⟩
     have := s1 _ _ hb
     rw [z, hy] at this
     cases this
   | _ => cases e
end
end PV
namespace PV
open PySem L2
abbrev Ef := List (Str × Bool × D)
abbrev FEs := Rho → Ef → Option (Rho × Ef)
abbrev FTE := Rho → Ef → Option Bool
def noOw (ρ : Rho) : Bool := ρ.all fun z => match z with | .ow _ => false | _ => true
def repE (f : Str) (d : D) : Ef → Ef
 | [] => []
 | (g, b, x) :: r => if g = f then (g, b, d) :: r else (g, b, x) :: repE f d r
def finE (c : Str) (ε : Ef) : D := .ob c (ε.map fun p => (p.1, p.2.2))
end PV
namespace PV
open PySem PySem.Spec L2
open PyProof.Rows hiding St
theorem Ij {ρ : Rho} (h : noOw ρ = true) (i : Nat) (d : D) : ρ[i]? ≠ some (.ow d) := fun e => by
 unfold noOw at h
 rw [List.all_eq_true] at h
 have := h _ (List.mem_of_getElem? e)
 cases this
inductive FsOk (G : Gx) (A0 A : List Addr) (H : Hp) (x : Addr) : List (Str × V) → Ef → List Addr → Prop
 | nil : FsOk G A0 A H x [] [] []
 | pl {f : Str} {v : V} {d : D} {fs : List (Str × V)} {ε : Ef} {as : List Addr} : Rep G (hid A H) v d → FsOk G A0 A H x fs ε as → FsOk G A0 A H x ((f, v) :: fs) ((f, false, d) :: ε) as
 | ow {f : Str} {a : Addr} {d : D} {fs : List (Str × V)} {ε : Ef} {as : List Addr} : a ∈ A → a ∉ A0 → a ≠ x → a ∉ as → Top G A H a d → FsOk G A0 A H x fs ε as → FsOk G A0 A H x ((f, .ref a) :: fs) ((f, true, d) :: ε) (a :: as)
section
variable {G : Gx} {A0 A A' : List Addr} {H H' : Hp} {x : Addr} {fs : List (Str × V)} {ε : Ef} {as : List Addr}
theorem FsOk.mp (h : FsOk G A0 A H x fs ε as) (r : ∀ v d, Rep G (hid A H) v d → Rep G (hid A' H') v d) (t : ∀ a ∈ as, ∀ d, Top G A H a d → Top G A' H' a d) (s : ∀ a ∈ as, a ∈ A → a ∈ A') : FsOk G A0 A' H' x fs ε as := by
 induction h with
 | nil => exact .nil
 | pl rv _ ih => exact .pl (r _ _ rv) (ih t s)
 | ow h1 h2 h3 h4 h5 _ ih => exact .ow (s _ List.mem_cons_self h1) h2 h3 h4 (t _ List.mem_cons_self _ h5) (ih (fun a ha => t a (List.mem_cons_of_mem _ ha)) (fun a ha => s a (List.mem_cons_of_mem _ ha)))
theorem FsOk.names (h : FsOk G A0 A H x fs ε as) : fs.map (·.1) = ε.map (·.1) := by
 induction h with
 | nil => rfl
 | pl _ _ ih => simp [ih]
 | ow _ _ _ _ _ _ ih => simp [ih]
theorem FsOk.len (h : FsOk G A0 A H x fs ε as) : fs.length = ε.length := by
 have := congrArg List.length h.names
 simpa using this
theorem FsOk.ne (h : FsOk G A0 A H x fs ε as) : ∀ a ∈ as, a ∈ A ∧ a ∉ A0 ∧ a ≠ x := by
 induction h with
 | nil => intro a ha; cases ha
 | pl _ _ ih => exact ih
 | ow h1 h2 h3 _ _ _ ih =>
  intro a ha
  rcases List.mem_cons.mp ha with z | z
  ·subst z; exact ⟨h1, h2, h3⟩
  ·exact ih a z
theorem FsOk.none {f : Str} (h : FsOk G A0 A H x fs ε as) (e : ε.lookup f = none) : fs.lookup f = none := by
 induction h with
 | nil => rfl
 | @pl g v d fs ε as _ _ ih =>
  by_cases hf : f = g
  ·subst hf; simp [List.lookup_cons] at e
  ·have hb : (f == g) = false := beq_eq_false_iff_ne.mpr hf
   simp only [List.lookup_cons, hb] at e ⊢
   exact ih e
 | @ow g a d fs ε as _ _ _ _ _ _ ih =>
  by_cases hf : f = g
  ·subst hf; simp [List.lookup_cons] at e
  ·have hb : (f == g) = false := beq_eq_false_iff_ne.mpr hf
   simp only [List.lookup_cons, hb] at e ⊢
   exact ih e
theorem FsOk.get {f : Str} {d : D} (h : FsOk G A0 A H x fs ε as) (e : ε.lookup f = some (true, d)) : ∃ a, fs.lookup f = some (.ref a) ∧ a ∈ as ∧ a ∈ A ∧ a ∉ A0 ∧ a ≠ x ∧ Top G A H a d := by
 induction h with
 | nil => cases e
 | @pl g v d' fs ε as _ _ ih =>
  by_cases hf : f = g
  ·subst hf; simp [List.lookup_cons] at e
  ·have hb : (f == g) = false := beq_eq_false_iff_ne.mpr hf
   simp only [List.lookup_cons, hb] at e ⊢
   exact ih e
 | @ow g a d' fs ε as h1 h2 h3 _ h5 _ ih =>
  by_cases hf : f = g
  ·subst hf
   simp only [List.lookup_cons, beq_self_eq_true, Option.some.injEq, Prod.mk.injEq, true_and] at e ⊢
   subst e
   exact ⟨a, rfl, List.mem_cons_self, h1, h2, h3, h5⟩
  ·have hb : (f == g) = false := beq_eq_false_iff_ne.mpr hf
   simp only [List.lookup_cons, hb] at e ⊢
   obtain ⟨a', q1, q2, q3⟩ := ih e
   exact ⟨a', q1, List.mem_cons_of_mem _ q2, q3⟩
theorem FsOk.wr {f : Str} {d d' : D} {a : Addr} (h : FsOk G A0 A H x fs ε as) (e : ε.lookup f = some (true, d)) (ea : fs.lookup f = some (.ref a)) (sx : Mm a H H') (hA : a ∈ A) (t : Top G A H' a d') : FsOk G A0 A H' x fs (repE f d' ε) as := by
 have sm := Fz hA sx
 induction h with
 | nil => cases e
 | @pl g v d2 fs ε as rv hr ih =>
  by_cases hf : f = g
  ·subst hf; simp [List.lookup_cons] at e
  ·have hb : (f == g) = false := beq_eq_false_iff_ne.mpr hf
   simp only [List.lookup_cons, hb] at e ea
   unfold repE
   rw [if_neg (fun z => hf z.symm)]
   exact .pl (rv.mono sm) (ih e ea)
 | @ow g b d2 fs ε as h1 h2 h3 h4 h5 hr ih =>
  by_cases hf : f = g
  ·subst hf
   simp only [List.lookup_cons, beq_self_eq_true, Option.some.injEq, V.ref.injEq] at ea
   subst ea
   unfold repE
   rw [if_pos rfl]
   refine .ow h1 h2 h3 h4 t (hr.mp (fun v d r => r.mono sm) (fun c hc d t' => t'.other (fun z => h4 (by rw [← z]; exact hc)) hA sx) fun _ _ z => z)
  ·have hb : (f == g) = false := beq_eq_false_iff_ne.mpr hf
   simp only [List.lookup_cons, hb] at e ea
   obtain ⟨a', q1, q2, _⟩ := hr.get e
   rw [ea] at q1
   cases q1
   unfold repE
   rw [if_neg (fun z => hf z.symm)]
   exact .ow h1 h2 h3 h4 (h5.other (fun z => h4 (z ▸ q2)) hA sx) (ih e ea)
end
structure EOk (G : Gx) (c : Str) (A0 : List Addr) (He : Hp) (x : Addr) (A : List Addr) (σ : St) (H : Hp) (ρ : Rho) (ε : Ef) : Prop where
 w : OkW G A0 He A σ H ρ
 no : noOw ρ = true
 xA : x ∈ A
 x0 : x ∉ A0
 s0 : ρ[0]? = some (.fz (.adr x))
 ob : ∃ C dx fs as, H x = some (.ins C dx fs) ∧ G.cl c = some C ∧ FsOk G A0 A H x fs ε as
section
variable {G : Gx} {c : Str} {A0 : List Addr} {He : Hp} {x : Addr} {A : List Addr} {σ : St} {H H' : Hp} {ρ : Rho} {ε : Ef}
theorem EOk.at0 (o : EOk G c A0 He x A σ H ρ ε) : σ[0]? = some (some (.ref x)) := by
 obtain ⟨v, h1, h2⟩ := o.w.ok.fz 0 _ o.s0
 cases h2
 exact h1
theorem EOk.mono (o : EOk G c A0 He x A σ H ρ ε) (s : Same H H') : EOk G c A0 He x A σ H' ρ ε := by
 obtain ⟨C, dx, fs, as, h1, h2, h3⟩ := o.ob
 exact ⟨o.w.mono s, o.no, o.xA, o.x0, o.s0, C, dx, fs, as, s _ _ h1, h2, h3.mp (fun v d r => r.mono (DW s)) (fun a ha d t => t.mono s) fun _ _ z => z⟩
theorem Top.plain {B : List Addr} {a : Addr} {d : D} (t : Top G A H a d) (s : Same H H') (p : Same (hid A H) (hid B H')) : Top G B H' a d := by
 cases d with
 | lst ds => obtain ⟨xs, q1, q2⟩ := t; exact ⟨xs, s _ _ q1, q2.mono p⟩
 | dk ds => obtain ⟨xs, q1, q2, q3⟩ := t; exact ⟨xs, s _ _ q1, q2, q3.mono p⟩
 | dt ds => obtain ⟨xs, q1, q2, q3⟩ := t; exact ⟨xs, s _ _ q1, q2, q3.mono p⟩
 | ob c gs => obtain ⟨C, dx, xs, q1, q2, q3⟩ := t; exact ⟨C, dx, xs, s _ _ q1, q2, q3.mono p⟩
 | _ => exact t.elim
theorem EOk.frame (o : EOk G c A0 He x A σ H ρ ε) : OkS G A H σ H ρ := ⟨A, Same.refl H, fun _ h => h, fun a h => .inl h, fun a ha => (o.w.ok.live a ha).ne, o.w.ok, fun i d a h _ => absurd h (Ij o.no i d), fun y d _ h => absurd h (Ij o.no 0 d)⟩
theorem EOk.wr {p : Addr} {ε' : Ef} (o : EOk G c A0 He x A σ H ρ ε) (hp : p ∈ A) (h0 : p ∉ A0) (sx : Mm p H H') (lv : Nt (H' p)) (ob : ∃ C dx fs as, H' x = some (.ins C dx fs) ∧ G.cl c = some C ∧ FsOk G A0 A H' x fs ε' as) : EOk G c A0 He x A σ H' ρ ε' := by
 have hep : He p = none := (o.w.fr p hp).resolve_left h0
 have sm := Fz hp sx
 refine ⟨⟨fun b u h => sx b u (CT h hep) (o.w.same b u h), o.w.sub, o.w.fr, o.w.l0, ⟨o.w.ok.len, fun b hb => ?_, fun j e h => ?_, fun j e h => absurd h (Ij o.no j e), fun i j d e a h _ _ _ => absurd h (Ij o.no i d)⟩, fun i d a h _ => absurd h (Ij o.no i d), fun y d _ h => absurd h (Ij o.no 0 d)⟩, o.no, o.xA, o.x0, o.s0, ob⟩
 ·by_cases z : b = p
  ·rw [z]; exact lv
  ·exact (o.w.ok.live b hb).mono fun u e => sx b u z e
 ·obtain ⟨v, q1, q2⟩ := o.w.ok.fz j e h
  exact ⟨v, q1, q2.mono sm⟩
end
def tTE (G : Gx) (c : Str) (A0 : List Addr) (He : Hp) (x : Addr) (t : FTE) : TT := fun σ H Q => ∃ A ρ ε b, EOk G c A0 He x A σ H ρ ε ∧ t ρ ε = some b ∧ ∀ H', Same H H' → Q b H'
def PTE (X : Cx) (G : Gx) (c : Str) (e : Expr) (t : FTE) : Prop := ∀ ⦃A0⦄ He x, PT X e (tTE G c A0 He x t)
def PWE (X : Cx) (G : Gx) (c : Str) (e : Expr) (t : FTE) : Prop := ∀ ⦃A0⦄ He x, PW X e (tTE G c A0 He x t)
section
variable {X : Cx} {G : Gx} {c : Str} {a b e k it tg : Expr} {fa fb fk : FE} {pos p2 p px : Pos} {st : Stmt} {rest body : List Stmt} {g gs : FEs} {gp : FS} {ta tb : FTE} {tp : FT}
theorem PWE.pt (h : PWE X G c a ta) : PTE X G c a ta := fun A0 He x => (@h A0 He x).pt
end
end PV
namespace PV
open PySem PySem.Spec L2
open PyProof.Rows hiding St
theorem Ox {A : List Addr} {p b : Addr} : b ∈ A.filter (fun b => decide (b ≠ p)) ↔ b ∈ A ∧ b ≠ p := by simp [List.mem_filter]
theorem Zy {X : Cx} {G : Gx} {A : List Addr} {pins : List (Addr × Obj)} {s : Shared} {σ : St} {H : Hp} {a : Addr} {d : D} (I : Inv X pins σ H s) (hA : a ∈ A) (t : Top G A H a d) :
  ∃ H', Inv X pins σ H' s ∧ (∀ b, b ≠ a → H' b = H b) ∧ Same (hid A H) (hid (A.filter fun b => decide (b ≠ a)) H') ∧ Rep G (hid (A.filter fun b => decide (b ≠ a)) H') (.ref a) d := by
 have key : ∀ H' : Hp, (∀ b, b ≠ a → H' b = H b) → Same (hid A H) (hid (A.filter fun b => decide (b ≠ a)) H') := fun H' hh b u h => by
  unfold hid at h
  split at h
  ·cases h
  ·rename_i hb
   rw [Dt (fun z => hb (Ox.mp z).1), hh b (fun z => hb (z ▸ hA))]
   exact h
 have at0 : ∀ H' : Hp, hid (A.filter fun b => decide (b ≠ a)) H' a = H' a := fun H' => Dt (fun z => (Ox.mp z).2 rfl)
 cases d with
 | lst ds =>
  obtain ⟨xs, a1, a2⟩ := t
  have sm := key H fun _ _ => rfl
  exact ⟨H, I, fun _ _ => rfl, sm, .lst (.of (by rw [at0]; exact a1)) (a2.mono sm).1 (a2.mono sm).2⟩
 | dk ds =>
  obtain ⟨xs, a1, a2, a3⟩ := t
  obtain ⟨o, I'⟩ := Inv.frzK I a1
  have sm := key _ fun b hb => Bg (o := .frz o (.dK xs)) hb
  exact ⟨_, I', fun b hb => Bg hb, sm, .dk (by rw [at0]; exact Cj) a2 (a3.mono sm).2⟩
 | dt ds =>
  obtain ⟨xs, a1, a2, a3⟩ := t
  obtain ⟨o, I'⟩ := Inv.frzT I a1
  have sm := key _ fun b hb => Bg (o := .frz o (.dT xs)) hb
  exact ⟨_, I', fun b hb => Bg hb, sm, .dt (by rw [at0]; exact Cj) a2 (a3.mono sm).2⟩
 | ob c gs =>
  obtain ⟨C, dx, xs, a1, a2, a3⟩ := t
  have sm := key H fun _ _ => rfl
  exact ⟨H, I, fun _ _ => rfl, sm, .ob a2.1 (by rw [at0]; exact a1) a2.2 (a3.mono sm).2⟩
 | _ => exact t.elim
theorem FsOk.frz {X : Cx} {G : Gx} {A0 A : List Addr} {pins : List (Addr × Obj)} {s : Shared} {σ : St} {H : Hp} {x : Addr} {fs : List (Str × V)} {ε : Ef} {as : List Addr} (h : FsOk G A0 A H x fs ε as) (I : Inv X pins σ H s) :
  ∃ H' A', Inv X pins σ H' s ∧ (∀ b, b ∉ as → H' b = H b) ∧ (∀ b, b ∈ A' ↔ b ∈ A ∧ b ∉ as) ∧ Same (hid A H) (hid A' H') ∧ RepL G (hid A' H') (fs.map (·.2)) (ε.map fun p => p.2.2) := by
 induction h with
 | nil => exact ⟨H, A, I, fun _ _ => rfl, fun b => by simp, Same.refl _, .nil⟩
 | pl rv _ ih =>
  obtain ⟨H', A', i1, i2, i3, i4, i5⟩ := ih
  exact ⟨H', A', i1, i2, i3, i4, .cons (rv.mono i4) i5⟩
 | @ow f a d fs ε as h1 h2 h3 h4 t _ ih =>
  obtain ⟨H1, A1, i1, i2, i3, i4, i5⟩ := ih
  have ha : a ∈ A1 := (i3 a).mpr ⟨h1, h4⟩
  have e1 : H1 a = H a := i2 a h4
  have t1 : Top G A1 H1 a d := by
   cases d with
   | lst ds => obtain ⟨xs, q1, q2⟩ := t; exact ⟨xs, by rw [e1]; exact q1, q2.mono i4⟩
   | dk ds => obtain ⟨xs, q1, q2, q3⟩ := t; exact ⟨xs, by rw [e1]; exact q1, q2, q3.mono i4⟩
   | dt ds => obtain ⟨xs, q1, q2, q3⟩ := t; exact ⟨xs, by rw [e1]; exact q1, q2, q3.mono i4⟩
   | ob c gs => obtain ⟨C, dx, xs, q1, q2, q3⟩ := t; exact ⟨C, dx, xs, by rw [e1]; exact q1, q2, q3.mono i4⟩
   | _ => exact t.elim
  obtain ⟨H2, j1, j2, j3, j4⟩ := Zy i1 ha t1
  refine ⟨H2, A1.filter fun b => decide (b ≠ a), j1, fun b hb => ?_, fun b => ?_, i4.trans j3, .cons j4 (i5.mono j3)⟩
  ·rw [j2 b (fun z => hb (by simp [z])), i2 b (fun z => hb (List.mem_cons_of_mem _ z))]
  ·rw [Ox, i3 b]
   simp only [List.mem_cons, not_or]
   exact ⟨fun ⟨⟨p1, p2⟩, p3⟩ => ⟨p1, p3, p2⟩, fun ⟨p1, p3, p2⟩ => ⟨⟨p1, p2⟩, p3⟩⟩
theorem EOk.whole {X : Cx} {G : Gx} {c : Str} {A0 : List Addr} {He : Hp} {x : Addr} {A : List Addr} {pins : List (Addr × Obj)} {s : Shared} {σ : St} {H : Hp} {ρ : Rho} {ε : Ef} (o : EOk G c A0 He x A σ H ρ ε) (I : Inv X pins σ H s) :
  ∃ H', Inv X pins σ H' s ∧ Same He H' ∧ Rep G (hid A0 H') (.ref x) (finE c ε) := by
 obtain ⟨C, dx, fs, as, h1, h2, h3⟩ := o.ob
 obtain ⟨H', A', i1, i2, i3, i4, i5⟩ := h3.frz I
 have nx : x ∉ as := fun z => (h3.ne x z).2.2 rfl
 refine ⟨H', i1, fun b u hb => ?_, ?_⟩
 ·rw [i2 b (fun z => ?_)]
  ·exact o.w.same b u hb
  ·obtain ⟨q1, q2, _⟩ := h3.ne b z
   rw [(o.w.fr b q1).resolve_left q2] at hb
   cases hb
 ·have sb : ∀ a ∈ A0, a ∈ A' := fun a ha => (i3 a).mpr ⟨o.w.sub a ha, fun z => (h3.ne a z).2.1 ha⟩
  have en : fs.map (·.1) = (ε.map fun p => (p.1, p.2.2)).map (·.1) := by
   rw [h3.names, List.map_map]
   rfl
  have es : (ε.map fun p => (p.1, p.2.2)).map (·.2) = ε.map fun p => p.2.2 := by rw [List.map_map]; rfl
  refine .ob h2 (by rw [Dt o.x0, i2 x nx]; exact h1) en ?_
  rw [es]
  exact (i5.mono (Ff sb)).2
section
variable {X : Cx} {G : Gx} {a b : Expr} {fa fb : FE} {pos p2 p : Pos} {es : List Expr} {fs : FA}
end
end PV
namespace PV
open PySem PySem.W PySem.Calls PyProof.Rows L2
end PV
namespace PySem
open PySem.Spec
section
variable {prog : Program} {w : World} {A : Around} {I d : Addr} {ep : Nat} {es : Array DictEntry} {od : Obj}
end
end PySem
namespace PV
open PySem PySem.Spec L2
open PyProof.Rows hiding St
section
variable {X : Cx} {G : Gx}
theorem RepT.dt {A : List Addr} {H : Hp} {v : V} {kds : List (List Key × D)} (r : RepT G A H v (.dt kds)) : ∃ a kvs, v = .ref a ∧ Rd H a (.dT kvs) ∧ kvs.map (·.1) = kds.map (·.1) ∧ RepL G (hid A H) (kvs.map (·.2)) (kds.map (·.2)) := by
 rcases r with r | ⟨a, e, kvs, h, k, r⟩
 ·cases r with
  | dt h k r =>
   refine ⟨_, _, rfl, .inr ⟨_, DQ _ _ h⟩, k, ?_, r⟩
   have := congrArg List.length k
   rw [List.length_map, List.length_map] at this ⊢
   exact this
 ·exact ⟨a, kvs, e, .of h, k, r⟩
end
end PV
namespace PV
open PySem PySem.Spec L2
open PyProof.Rows hiding St
section
variable {X : Cx} {G : Gx}
end
end PV
namespace PV
open PySem PySem.Spec L2
open PyProof.Rows hiding St
structure FunD (K : PySem.W.Frag) (x qual : Str) (st : Stmt) (f : Addr) (fd : FuncData) : Prop where
 ex : ∃ (oc : Value) (od : Option Addr) (dV kV doc pm : Value) (an : Option Addr) (cdv ct : Value) (osl : Array (Option Value)),
  fd = PySem.W.fnOf x qual (Ea st) (DG st) (Ae st) dV kV doc pm an cdv ct ∧ K.lookup f = some ⟨oc, od, .func fd, osl⟩ ∧ PySem.W.codeIn K cdv qual = true
 kp : PySem.W.keepIn K (.ref f) = true
theorem Zz {K : PySem.W.Frag} {x qual : Str} {st : Stmt} {f : Addr} {oc : Value} {od an : Option Addr} {osl : Array (Option Value)} {dV kV doc pm cdv ct : Value} (l : K.lookup f = some ⟨oc, od, .func (PySem.W.fnOf x qual (Ea st) (DG st) (Ae st) dV kV doc pm an cdv ct), osl⟩)
  (c : PySem.W.codeIn K cdv qual = true) (k : PySem.W.keepIn K (.ref f) = true) : FunD K x qual st f (PySem.W.fnOf x qual (Ea st) (DG st) (Ae st) dV kV doc pm an cdv ct) := ⟨⟨oc, od, dV, kV, doc, pm, an, cdv, ct, osl, rfl, l, c⟩, k⟩
theorem FunD.binds {K : PySem.W.Frag} {x qual : Str} {st : Stmt} {f : Addr} {fd : FuncData} {ps : List Str} (F : FunD K x qual st f fd)
  (h : ∀ (dV kV doc pm : Value) (an : Option Addr) (cdv ct : Value) (us : List Value), us.length = ps.length → bindArgs (PySem.W.fnOf x qual (Ea st) (DG st) (Ae st) dV kV doc pm an cdv ct) ⟨us, []⟩ = pure (ps.zip us)) : Binds K fd ps [] := by
 obtain ⟨oc, od, dV, kV, doc, pm, an, cdv, ct, osl, rfl, lk, hcd⟩ := F.ex
 exact .all (h dV kV doc pm an cdv ct)
theorem gr {P : Program} {w : World} {G : Gx} {mg : Str → Option Value} {base : Heap} {x qual : Str} {st : Stmt} {f : Addr} {fd : FuncData} {N ps : List Str} {k : Nat} {b : FS} (F : FunD G.K x qual st f fd) (S : FnScope N ps (Ae st)) (hl : ps.length ≤ N.length)
  (hb : ∀ (cdv : Value) (A : Around) (outer : List Env) (s : Shared) (H : Hp) (E : XK), Room k (A.deeper (envOfC qual (Ae st) s.heap.objs.size f cdv)) → PSDs (cxOf CX0 P w G.K mg base N qual (Ae st) f cdv A outer s H E).nox G (DG st) b) :
  FnOk P w G.K mg base CX0 (k + 1) f fd ps (spD G (runF N.length ps.length b)) := by
 obtain ⟨oc, od, dV, kV, doc, pm, an, cdv, ct, osl, rfl, lk, hcd⟩ := F.ex
 refine U9 lk hcd S (fun vs H Q E h => ?_) (fun A outer s H vs Q E hr h => ?_)
 ·obtain ⟨A, ds, d, lv, r, e, _⟩ := h
  unfold runF at e
  split at e
  ·rename_i hz; rw [r.1]; exact hz
  ·cases e
 ·obtain ⟨A0, ds, d, lv, r, e, k⟩ := h
  unfold runF at e
  split at e
  ·rename_i hz
   have hzz := hb cdv A outer s H E hr
   refine ⟨_, (@hzz A0 H).nox, Fy N.length ds, ?_⟩
   cases e1 : b (Fy N.length ds) with
   | none => simp [e1] at e
   | some o =>
    refine ⟨o, Oo lv r (by rw [r.1, hz]; exact hl), rfl, ?_⟩
    cases o with
    | nx ρ =>
     simp only [e1] at e
     cases e
     exact fun σ H' ⟨A, w⟩ => k _ H' w.same .non
    | rt d' ρ' =>
     simp only [e1] at e
     cases e
     exact fun v σ H' A w r' => k v H' w.same (r'.mono (Ff w.sub))
    | bk ρ => simp [e1] at e
    | ct ρ => simp [e1] at e
  ·cases e
end PV
namespace PV
open PySem L2
end PV
namespace PV
open PySem L2
end PV
namespace PV
open PySem PySem.Spec L2
open PyProof.Rows hiding St
section
variable {X : Cx} {G : Gx} {a b c : Expr} {fa fb fc : FE} {pos p2 px : Pos}
theorem RepL.dropLast {G : Gx} {H : Hp} {xs : List V} {ds : List D} (r : RepL G H xs ds) : RepL G H xs.dropLast ds.dropLast := by
 rw [List.dropLast_eq_take, List.dropLast_eq_take, r.1]
 exact r.take _
theorem RepL.set {G : Gx} {H : Hp} {xs : List V} {ds : List D} (r : RepL G H xs ds) {v : V} {d : D} (q : Rep G H v d) (j : Nat) : RepL G H (xs.set j v) (ds.set j d) := by
 refine ⟨by rw [List.length_set, List.length_set]; exact r.1, fun i x e h1 h2 => ?_⟩
 by_cases h : j = i
 ·subst h
  rw [List.getElem?_set] at h1 h2
  simp only [if_true] at h1 h2
  split at h1
  ·split at h2
   ·cases h1; cases h2; exact q
   ·cases h2
  ·cases h1
 ·rw [List.getElem?_set_ne h] at h1 h2
  exact r.2 i x e h1 h2
end
end PV
namespace PV
open PySem PySem.Spec L2
open PyProof.Rows hiding St
section
variable {X : Cx} {G : Gx} {a b c : Expr} {fa fb fc : FE} {pos p2 : Pos} {es : List Expr} {fs : FA}
theorem vr (i : Nat) {x : Str} (hN : X.N[i]? = some x := by rfl) (hv : Vis X.env.scope x := by first | exact Or.inl rfl | exact Or.inr (Or.inl rfl) | exact Or.inr (Or.inr rfl)) (hd : (x == ("__debug__" : Str)) = false := by decide) (hcd : (x == ("__classdict__" : Str)) = false := by decide) : PF X G (.Name x pos) (vF i) := dD i (pv i hN hv hd hcd)
theorem vp (i : Nat) {x : Str} (hN : X.N[i]? = some x := by rfl) (hv : Vis X.env.scope x := by first | exact Or.inl rfl | exact Or.inr (Or.inl rfl) | exact Or.inr (Or.inr rfl)) (hd : (x == ("__debug__" : Str)) = false := by decide) (hcd : (x == ("__classdict__" : Str)) = false := by decide) : PU X G (.Name x pos) (vF i) := PF.pu (vr i hN hv hd hcd)
theorem vq (i : Nat) {x : Str} (hN : X.N[i]? = some x := by rfl) (hv : Vis X.env.scope x := by first | exact Or.inl rfl | exact Or.inr (Or.inl rfl) | exact Or.inr (Or.inr rfl)) (hd : (x == ("__debug__" : Str)) = false := by decide) (hcd : (x == ("__classdict__" : Str)) = false := by decide) : PU X G (.Name x pos) (vU i) := dF i (pv i hN hv hd hcd)
theorem pU {e : Expr} {f : FE} (h : PF X G e f) : PU X G e f := PF.pu h
theorem iP {i j} : PU X G (.Constant (.int i) j pos) (kF (.int i)) := PF.pu RX
theorem sP {x j} : PU X G (.Constant (.str x) j pos) (kF (.str x)) := PF.pu HJ
theorem iD (ha : PU X G a fa) (hb : PU X G b fb) (hG : G.K = X.K := by rfl) (hs : Qk b := by exact fun _ _ => rfl) : PF X G (.Subscript a b pos) (bF ixD fa fb) := gj hG ha hb hs
theorem bAdd (ha : PU X G a fa) (hb : PU X G b fb) (hG : G.K = X.K := by rfl) : PF X G (.BinOp a .Add b pos) (bF addD fa fb) := Lw Zc (by rw [← hG]; exact Zd) ha hb
theorem bSub (ha : PU X G a fa) (hb : PU X G b fb) : PF X G (.BinOp a .Sub b pos) (bF subD fa fb) := Lw cQ ZV ha hb
theorem bMul (ha : PU X G a fa) (hb : PU X G b fb) : PF X G (.BinOp a .Mult b pos) (bF mulD fa fb) := Lw ZW ZX ha hb
theorem bDiv (ha : PU X G a fa) (hb : PU X G b fb) : PF X G (.BinOp a .FloorDiv b pos) (bF GJ fa fb) := Lw Yy XM ha hb
theorem bMod (ha : PU X G a fa) (hb : PU X G b fb) : PF X G (.BinOp a .Mod b pos) (bF modD fa fb) := Lw cR ZZ ha hb
theorem cEq {k : Nat} (hr : Room k X.A) (ha : PU X G a fa) (hb : PU X G b fb) (hG : G.K = X.K := by rfl) : PF X G (.Compare a [.Eq] [b] pos) (bF (eqD false) fa fb) := Lx (XR hG hr.unitsW) (Ri false) ha hb (KJ _)
theorem tEq {k : Nat} (hr : Room k X.A) (ha : PU X G a fa) (hb : PU X G b fb) (hG : G.K = X.K := by rfl) : PFT X G (.Compare a [.Eq] [b] pos) (blF (bF (eqD false) fa fb)) := Gw (XR hG hr.unitsW) (Ri false) ha hb (KJ _)
theorem cNe {k : Nat} (hr : Room k X.A) (ha : PU X G a fa) (hb : PU X G b fb) (hG : G.K = X.K := by rfl) : PF X G (.Compare a [.NotEq] [b] pos) (bF (eqD true) fa fb) := Lx (XS hG hr.unitsW) (Ri true) ha hb (KJ _)
theorem tNe {k : Nat} (hr : Room k X.A) (ha : PU X G a fa) (hb : PU X G b fb) (hG : G.K = X.K := by rfl) : PFT X G (.Compare a [.NotEq] [b] pos) (blF (bF (eqD true) fa fb)) := Gw (XS hG hr.unitsW) (Ri true) ha hb (KJ _)
theorem cIn {k : Nat} (hr : Room k X.A) (ha : PU X G a fa) (hb : PU X G b fb) (hG : G.K = X.K := by rfl) (hm : behindInMarks .In b = false := by with_unfolding_all rfl) : PF X G (.Compare a [.In] [b] pos) (bF (inF false) fa fb) := Lx ((KZ.or (Xg (bA hr))).or (Xk hG hr.units)) (by rw [← hG]; exact Vs false) ha hb hm
theorem tIn {k : Nat} (hr : Room k X.A) (ha : PU X G a fa) (hb : PU X G b fb) (hG : G.K = X.K := by rfl) (hm : behindInMarks .In b = false := by with_unfolding_all rfl) : PFT X G (.Compare a [.In] [b] pos) (blF (bF (inF false) fa fb)) := Gw ((KZ.or (Xg (bA hr))).or (Xk hG hr.units)) (by rw [← hG]; exact Vs false) ha hb hm
theorem tLt (ha : PU X G a fa) (hb : PU X G b fb) : PFT X G (.Compare a [.Lt] [b] pos) (blF (bF ltD fa fb)) := Gw ao XN ha hb (KJ _)
theorem tGt (ha : PU X G a fa) (hb : PU X G b fb) : PFT X G (.Compare a [.Gt] [b] pos) (blF (bF gtD fa fb)) := Gw gH dG ha hb (KJ _)
theorem sF (hN : X.N.Nodup) (i : Nat) {x : Str} {p : Pos} (ha : PF X G a fa) (hi : X.N[i]? = some x := by rfl) (hx : Loc X.env.scope x := by first | exact Or.inl rfl | exact Or.inr rfl) (hs : swapsWith a (some (.Name x p)) pos.line X.env = pure false := by rfl)
  (hf : X.fn x = true ∨ X.env.scope.names.lookup x = some .local := by first | exact .inl rfl | exact .inr rfl | assumption) : PSD X G (.Assign [.Name x p] a pos) (setF i fa) := Zg (fun _ h => N7 hN hi hx h hs hf) ha
theorem sW (hN : X.N.Nodup) (i : Nat) {x : Str} {p : Pos} (ha : PN X G a fa) (hi : X.N[i]? = some x := by rfl) (hx : Loc X.env.scope x := by first | exact Or.inl rfl | exact Or.inr rfl) (hs : swapsWith a (some (.Name x p)) pos.line X.env = pure false := by rfl)
  (hf : X.fn x = true ∨ X.env.scope.names.lookup x = some .local := by first | exact .inl rfl | exact .inr rfl | assumption) (hi0 : i ≠ 0 := by decide) : PSD X G (.Assign [.Name x p] a pos) (setW i fa) := Xd (fun _ h => N7 hN hi hx h hs hf) ha hi0
theorem gN (hN : X.N.Nodup) (i : Nat) {x : Str} (hi : X.N[i]? = some x := by rfl) (hx : Loc X.env.scope x := by first | exact Or.inl rfl | exact Or.inr rfl) (hf : X.fn x = true ∨ X.env.scope.names.lookup x = some .local := by first | exact .inl rfl | exact .inr rfl | assumption) : PG X (.Name x pos) (IW i) := Yx hN hi hx hf
theorem cO {N : List Str} {sc scope : Scope} {t : Str} (hN : X.N = N) (hs : X.env.scope = sc) (h : Ru N sc scope t = true := by decide +kernel) : CompOk X scope t := Wa hN hs h
abbrev nT (N : List Str) (t : Str) : List Str := N ++ [t]
structure Dx (K : PySem.W.Frag) (mg : Str → Option Value) (x : Str) (st : Stmt) (ps : List Str) where
 f : Addr
 fd : FuncData
 F : FunD K x x st f fd
 B : Binds K fd ps []
 m : mg x = some (.ref f)
abbrev DOk (P : Program) (w : World) (base : Heap) {K : PySem.W.Frag} {mg : Str → Option Value} {x : Str} {st : Stmt} {ps : List Str} (d : Dx K mg x st ps) (k : Nat) (sp : Sp) : Prop := FnOk P w K mg base CX0 k d.f d.fd ps sp
theorem fX {k k' : Nat} {x : Str} {st : Stmt} {ps : List Str} {p : Pos} {d : Dx X.K X.mg x st ps} {g : List D → Option D} (F : FnOk X.prog X.w X.K X.mg X.base CX0 k d.f d.fd ps (spD G g)) (hr : Room k' X.A) (ha : PFA X G (a :: es) fs) (hle : k ≤ k' := by omega) (hg : Gl X x := by rfl) (hdb : (x == ("__debug__" : Str)) = false := by decide)
  (he : starEach (a :: es) X.env = (false, eval a X.env) :: starEach es X.env := by rfl) (hpl : (backTo pos (starEach es X.env)).any (·.1) = false := by rfl) : PF X G (.Call (.Name x p) (a :: es) [] pos) (Cr g fs) := gk F (hr.mono hle) hg d.m d.F.kp d.B ha hdb he hpl
end
section
variable {K : PySem.W.Frag} {h : Heap} {mg : Str → Option Value} {x qual : Str} {st : Stmt} {ps : List Str} {f C : Addr} {oc : Value} {od an : Option Addr} {osl : Array (Option Value)} {dV kV doc pm cdv ct : Value}
theorem fnX {P : Program} {w : World} {G : Gx} {base : Heap} {N : List Str} {k : Nat} {b : FS} (d : Dx G.K mg x st ps) (S : FnScope N ps (Ae st))
  (hb : ∀ (cdv : Value) (A : Around) (outer : List Env) (s : Shared) (H : Hp) (E : XK), Room k (A.deeper (envOfC x (Ae st) s.heap.objs.size d.f cdv)) → PSDs (cxOf CX0 P w G.K mg base N x (Ae st) d.f cdv A outer s H E).nox G (DG st) b) (hl : ps.length ≤ N.length := by decide) :
  FnOk P w G.K mg base CX0 (k + 1) d.f d.fd ps (spD G (runF N.length ps.length b)) := gr d.F S hl hb
def dx (X : K.In h) (N : h.Ns mainGlobals mg) (a : PySem.W.nsIn K mainGlobals x = some (some (.ref f))) (l : K.lookup f = some ⟨oc, od, .func (PySem.W.fnOf x x (Ea st) (DG st) (Ae st) .none kV doc pm an cdv ct), osl⟩) (c : PySem.W.codeIn K cdv x = true) (k : PySem.W.keepIn K (.ref f) = true)
  (b : ∀ (kV doc pm : Value) (an : Option Addr) (cdv ct : Value) (us : List Value), us.length = ps.length → bindArgs (PySem.W.fnOf x x (Ea st) (DG st) (Ae st) .none kV doc pm an cdv ct) ⟨us, []⟩ = pure (ps.zip us)) : Dx K mg x st ps := ⟨f, _, Zz l c k, (KQ l c k).binds b, PySem.W.mg_of X N a⟩
structure Ix (K : PySem.W.Frag) (C : Addr) (qual : Str) (st : Stmt) (ps : List Str) where
 f : Addr
 fd : FuncData
 F : Fun K "__init__" qual st f fd
 B : Binds K fd ps []
 mM : Mk K C f
def ix (X : K.In h) (m : PySem.W.makesIn K C = true) (kc : PySem.W.keepIn K (.ref C) = true) (a : PySem.W.findIn K (.ref C) "__init__" = some (some (.ref f))) (i : PySem.W.isFn K (.ref f) = true) (l : K.lookup f = some ⟨oc, od, .func (PySem.W.fnOf "__init__" qual (Ea st) (DG st) (Ae st) .none kV doc pm an cdv ct), osl⟩) (c : PySem.W.codeIn K cdv qual = true) (k : PySem.W.keepIn K (.ref f) = true)
  (b : ∀ (kV doc pm : Value) (an : Option Addr) (cdv ct : Value) (us : List Value), us.length = ps.length → bindArgs (PySem.W.fnOf "__init__" qual (Ea st) (DG st) (Ae st) .none kV doc pm an cdv ct) ⟨us, []⟩ = pure (ps.zip us)) : Ix K C qual st ps := ⟨f, _, KQ l c k, (KQ l c k).binds b, m, a, i, kc⟩
structure Sx (mg : Str → Option Value) (x : Str) (f : Tok → Value) where
 t : Tok
 m : mg x = some (f t)
structure Kx (G : Gx) (mg : Str → Option Value) (x : Str) (c : D) where
 a : Addr
 m : mg x = some (.ref a)
 r : Rep G (fun _ => none) (.ref a) c
def sx {t : Tok} {f : Tok → Value} (X : K.In h) (N : h.Ns mainGlobals mg) (a : PySem.W.nsIn K mainGlobals x = some (some (f t))) : Sx mg x f := ⟨t, PySem.W.mg_of X N a⟩
def gx1 (K : PySem.W.Frag) (cn : Str) (C : Addr) : Gx := { K := K, cl := fun c => if c = cn then some C else none }
theorem cls (X : K.In h) (pg : PySem.W.plainGet K C Str.empty = true) (hd : PySem.W.hasDictIn K C = true) (po : PySem.W.plainOver K C = true) (sa : PySem.W.findIn K (.ref C) "__setattr__" = some (some (.builtin "object.__setattr__"))) : Cls K C := ⟨pg, hd, po, sa⟩
theorem rtx {cn : Str} {g : Addr} {n : Nat} {its : Array Value} {xs : List Str} (X : K.In h) (l : K.lookup g = some ⟨.type "tuple", od, .seq its n, osl⟩) (hz : its.size ≤ sizeLine) (r : Vals (xs.map V.str) its.toList) : Rep (gx1 K cn C) (fun _ => none) (.ref g) (.tup (xs.map .str)) := QW l hz r
def kx {cn : Str} {g : Addr} {n : Nat} {its : Array Value} {xs : List Str} (X : K.In h) (N : h.Ns mainGlobals mg) (a : PySem.W.nsIn K mainGlobals x = some (some (.ref g))) (l : K.lookup g = some ⟨.type "tuple", od, .seq its n, osl⟩) (hz : its.size ≤ sizeLine) (r : Vals (xs.map V.str) its.toList) : Kx (gx1 K cn C) mg x (.tup (xs.map .str)) := ⟨g, PySem.W.mg_of X N a, rtx X l hz r⟩
end
end PV
namespace PV
open PySem L2
end PV
namespace PV
open PySem PySem.Spec L2
open PyProof.Rows hiding St
section
variable {X : Cx} {G : Gx} {a : Expr} {fa : FE} {pos : Pos} {es : List Expr} {fs : FA}
end
end PV
namespace PV
open PySem L2
end PV
namespace PV
open PySem PySem.Spec L2
open PyProof.Rows hiding St
section
variable {X : Cx} {G : Gx} {a b c : Expr} {fa fb fc : FE} {pos p2 : Pos}
end
end PV
namespace PV
open PySem PySem.Spec L2 EX
open PyProof.Rows hiding St
def CX1 (P : Program) (w : World) : CXT := fun outer H s E v s' => ∃ (e : Addr) (H' : Hp), v = .ref e ∧ s'.os = s.os ∧ AllBare s'.gens ∧ Un (frs outer) [] H H' s.heap s'.heap ∧ HOk P w H' s'.heap ∧ E v none H'
structure Exc (G : Gx) (He H : Hp) (e : Addr) (tb : Option Addr) (c : Str) (gs : List (Str × D)) : Prop where
 ex : ∃ C dx fs, G.xcl c = some C ∧ H e = some (excO e C (some dx) tb) ∧ H dx = some (.xd fs) ∧ FsV fs gs ∧ He dx = none
 same : Same He H
 new : He e = none
 tbk : ∀ T, tb = some T → H T = some (tbO T .none) ∧ He T = none
theorem Exc.base {G : Gx} {He Hf H : Hp} {e : Addr} {tb : Option Addr} {c : Str} {gs : List (Str × D)} (x : Exc G Hf H e tb c gs) (s : Same He Hf) : Exc G He H e tb c gs :=
 ⟨let ⟨C, dx, fs, q1, q2, q3, q4, q5⟩ := x.ex; ⟨C, dx, fs, q1, q2, q3, q4, s.free q5⟩, s.trans x.same, s.free x.new, fun T h => ⟨(x.tbk T h).1, s.free (x.tbk T h).2⟩⟩
section
variable {X : Cx} {pins : List (Addr × Obj)} {σ : St} {G : Gx} {He H : Hp} {s : Shared} {e : Addr} {tb : Option Addr} {c : Str} {gs : List (Str × D)}
theorem Oz {E : Value → Shared → Prop} {Q : Unit → Shared → Prop} {M : Model} {L : Addr} (hst : X.stack = X.env :: X.outer) (hf : X.env.frame = some L) (I : Inv X pins σ H s) (x : Exc G He H e tb c gs)
  (k : ∀ T H' s', Inv X pins σ H' s' → Exc G He H' e (some T) c gs → Q () s') :
  wpAny M X.A (noteFrame (.ref e) X.env) (fun _ s₂ => wpAny M X.A (setFlight (.ref e) none) Q E s₂) E s := by
 obtain ⟨C, dx, fs, q1, q2, q3, q4, q5⟩ := x.ex
 refine ZM hst hf I q2 (fun T h => (x.tbk T h).1) fun T H' s' n => k T H' s' n.inv ?_
 have ncb : ∀ b u, H b = some u → (∀ φ, u ≠ .ext φ) → b ≠ e ∧ tb ≠ some b := fun b u q z => ⟨fun w => by subst w; rw [q2] at q; cases q; exact z _ rfl, fun w => by
  have := (x.tbk b w).1; rw [this] at q; cases q; exact z _ rfl⟩
 refine ⟨⟨C, dx, fs, q1, n.exc, n.rest dx _ (ncb dx _ q3 fun _ z => nomatch z).1 (ncb dx _ q3 fun _ z => nomatch z).2 q3, q4, q5⟩, fun b u h => n.rest b u (fun z => by rw [z, x.new] at h; cases h) (fun z => by rw [(x.tbk b z).2] at h; cases h) (x.same b u h), x.new, fun T' h => ?_⟩
 cases h
 exact ⟨n.tbk, x.same.free n.new⟩
end
def Rz (X : Cx) (G : Gx) (A0 : List Addr) (He : Hp) (c : Str) (gs : List (Str × D)) (ρ : Rho) : Prop := ∀ pins σ H1 H s e tb, Inv X pins σ H s → OkS G A0 He σ H1 ρ → Exc G H1 H e tb c gs → X.xe (.ref e) s
def excOf : D → Option (Str × List (Str × D))
 | .exc c gs => some (c, gs)
 | _ => none
def RzO (X : Cx) (G : Gx) (A0 : List Addr) (He : Hp) (d : D) (ρ : Rho) : Prop := ∀ c gs, excOf d = some (c, gs) → Rz X G A0 He c gs ρ
def OutX (X : Cx) (G : Gx) (A0 : List Addr) (He : Hp) : Out → Prop
 | .rt d ρ => RzO X G A0 He d ρ
 | _ => True
def tSZ (X : Cx) (G : Gx) (A0 : List Addr) (He : Hp) (g : FS) : TS := fun D σ H => ∃ ρ o, OkS G A0 He σ H ρ ∧ g ρ = some o ∧ Om G A0 He D o ∧ OutX X G A0 He o
def PSZ (X : Cx) (G : Gx) (st : Stmt) (g : FS) : Prop := ∀ ⦃A0⦄ He, PS X st (tSZ X G A0 He g)
def PSZs (X : Cx) (G : Gx) (st : List Stmt) (g : FS) : Prop := ∀ ⦃A0⦄ He, PSs X st (tSZ X G A0 He g)
def tFZ (X : Cx) (G : Gx) (A0 : List Addr) (He : Hp) (f : FE) : TE := fun σ H Q => ∃ ρ d A, OkW G A0 He A σ H ρ ∧ f ρ = some d ∧ (∀ v H', Same H H' → Rep G (hid A H') v d → Q v H') ∧ RzO X G A0 He d ρ
def PFZ (X : Cx) (G : Gx) (e : Expr) (f : FE) : Prop := ∀ ⦃A0⦄ He, PE X e (tFZ X G A0 He f)
def setZ (i : Nat) (f : FE) : FS := fun ρ => (f ρ).map fun d => match excOf d with | some _ => .rt d ρ | none => .nx (ρ.set i (.fz d))
section
variable {X : Cx} {G : Gx} {a b c tg : Expr} {fa fb fc : FE} {ga : FT} {pos p2 : Pos} {st : Stmt} {rest body : List Stmt} {g gs gb : FS}
theorem PSD.x (h : PSD X G st g) : PSZ X G st g := fun A0 He pins s σ H D I ⟨ρ, o, ok, e, k, _⟩ => @h A0 He pins s σ H D I ⟨ρ, o, ok, e, k⟩
theorem PF.x (h : PF X G a fa) : PFZ X G a fa := fun A0 He pins s σ H Q I ⟨ρ, d, A, w, e, k, _⟩ => @h A pins s σ H Q I ⟨ρ, d, w.ok, e, k⟩
theorem GQ : PSZs X G [] nxF := fun A0 He pins s σ H D I ⟨ρ, o, ok, e, k, _⟩ => Bx He pins s σ H D I ⟨ρ, o, ok, e, k⟩
theorem Df (h1 : PSZ X G st g) : PSZs X G [st] g := fun A0 He => Qi (@h1 A0 He)
theorem By (h1 : PSZ X G st g) (h2 : PSZs X G rest gs) : PSZs X G (st :: rest) (seqF g gs) := fun A0 He pins s σ H D I ⟨ρ, o, ok, e, k, kx⟩ => by
 refine N6 (@h1 A0 He) (@h2 A0 He) pins s σ H D I ?_
 unfold seqF at e
 split at e
 ·rename_i ρ' e1
  exact ⟨ρ, _, ok, e1, fun σ' H' ok' => ⟨ρ', o, ok', e, k, kx⟩, trivial⟩
 ·rename_i hno
  refine ⟨ρ, o, ok, e, ?_, kx⟩
  cases o with
  | nx ρ' => exact absurd e (hno ρ')
  | rt d ρ' => exact k
  | bk ρ' => exact k
  | ct ρ' => exact k
theorem HR {s1 s2 : List Stmt} (ht : PFT X G c ga) (h1 : PSZs X G s1 g) (h2 : PSZs X G s2 gs) : PSZ X G (.If c s1 s2 pos) (ifS ga g gs) := fun A0 He pins s σ H D I ⟨ρ, o, ⟨A, w⟩, e, k, kx⟩ => by
 refine ak (@ht A) (@h1 A0 He) (@h2 A0 He) pins s σ H D I ?_
 unfold ifS at e
 split at e
 ·rename_i e1
  exact ⟨ρ, _, w.ok, e1, fun H1 s1 => iteT ⟨ρ, o, ⟨A, w.mono s1⟩, e, k, kx⟩⟩
 ·rename_i e1
  exact ⟨ρ, _, w.ok, e1, fun H1 s1 => iteF ⟨ρ, o, ⟨A, w.mono s1⟩, e, k, kx⟩⟩
 ·cases e
theorem MJ {H : Hp} {v : V} {d : D} (r : Rep G H v d) : excOf d = none := by cases r <;> rfl
theorem Z0 {i : Nat} {x : Str} {p : Pos} (h : ∀ te, PE X a te → PS X (.Assign [.Name x p] a pos) (tAsg te (IW i))) (ha : PFZ X G a fa) : PSZ X G (.Assign [.Name x p] a pos) (setZ i fa) := fun A0 He pins s σ H D I ⟨ρ, o, ⟨A, w⟩, e, k, kx⟩ => by
 refine h _ (@ha A0 He) pins s σ H D I ?_
 unfold setZ at e
 cases e1 : fa ρ with
 | none => simp [e1] at e
 | some d =>
  simp only [e1, Option.map_some] at e
  cases e2 : excOf d with
  | none =>
   simp only [e2] at e
   cases e
   exact ⟨ρ, d, A, w, e1, fun v H1 s1 r1 => k _ _ ⟨A, (w.mono s1).set r1 i⟩, fun c gs z => by rw [e2] at z; cases z⟩
  | some q =>
   simp only [e2] at e
   cases e
   exact ⟨ρ, d, A, w, e1, fun v H1 s1 r1 => absurd e2 (by rw [MJ r1]; simp), kx⟩
end
def Tv (X : Cx) (σ : St) : XK := fun v _ H' => ∀ pins s', Inv X pins σ H' s' → X.xe v s'
def XW (G : Gx) (He : Hp) (d : D) (E : XK) : Prop := ∀ c gs, excOf d = some (c, gs) → ∀ e T H', Exc G He H' e (some T) c gs → E (.ref e) none H'
def spZ (G : Gx) (g : List D → Option D) : Sp := fun vs H Q E => ∃ A ds d, (∀ a ∈ A, Nt (H a)) ∧ RepL G (hid A H) vs ds ∧ g ds = some d ∧ (∀ v H', Same H H' → Rep G (hid A H') v d → Q v H') ∧ XW G H d E
section
variable {X : Cx} {k : Nat} {f C : Addr} {fd : FuncData} {ps : List Str} {sp : Sp} {x m : Str} {p pos apos : Pos} {e o : Expr} {es : List Expr} {ta : TE} {t : TA}
theorem Rw {pins : List (Addr × Obj)} {σ : St} {H : Hp} {s : Shared} {Q : VK} {us : List Value} {vs : List V} (F : FnOk X.prog X.w X.K X.mg X.base (CX1 X.prog X.w) k f fd ps sp) (hr : Room k X.A) (hb : Binds X.K fd ps [])
  (I : Inv X pins σ H s) (r : Vals vs us) (h : sp vs H Q (Tv X σ)) : wpAny (model X.prog X.w) X.A (call (.ref f) us) (EP X pins σ Q) X.xe s := by
 have hl : us.length = ps.length := by rw [← r.length]; exact F.len _ _ _ _ h
 have hb' := hb s us I.kIn (by rw [List.append_nil]; exact hl)
 rw [List.append_nil] at hb'
 refine wpAny_call (codeAny_mono (F.run X.A X.stack s H ⟨us, []⟩ us vs Q _ hr I.env0 hb' r h) fun r s' hq => ?_)
 cases r with
 | error v =>
  obtain ⟨e, H', rfl, q1, q2, q3, q4, q5⟩ := hq
  exact q5 pins s' (I.call' q1 q3 q4 q2 fun _ z => nomatch z)
 | ok fl =>
  cases fl with
  | ret u => exact I.after hq
  | next => exact False.elim hq
  | brk => exact False.elim hq
  | cont => exact False.elim hq
def dg (X : Cx) (sp : Sp) (t : TA) : TE := fun σ H Q => t σ H fun vs H1 => sp vs H1 Q (Tv X σ)
theorem Tw (F : FnOk X.prog X.w X.K X.mg X.base (CX1 X.prog X.w) k f fd ps sp) (hr : Room k X.A) (hg : Gl X x) (hm : X.mg x = some (.ref f)) (hk : PySem.W.keepIn X.K (.ref f) = true) (hb : Binds X.K fd ps [])
  (ha : PA X (e :: es) t) (hdb : (x == ("__debug__" : Str)) = false := by decide) (he : starEach (e :: es) X.env = (false, eval e X.env) :: starEach es X.env := by rfl) (hpl : (backTo pos (starEach es X.env)).any (·.1) = false := by rfl) :
  PE X (.Call (.Name x p) (e :: es) [] pos) (dg X sp t) := by
 intro pins s σ H Q I h
 refine wpAny_Call_Name_kw (Im I hg hm ?_ hdb)
 refine PySem.W.callWith_K (h₀ := X.base) I.ok.mod.kin hk (thn (ha pos pins s σ H _ I h) fun us s1 ⟨vs, H1, I1, r, q⟩ => ⟨I1.kIn, ?_⟩) he hpl
 exact Rw F hr hb I1 r q
def Xn (X : Cx) (C : Addr) (m : Str) (sp : Sp) (ta : TE) (t : TA) : TE := fun σ H Q => ta σ H fun x H1 => ∃ a dx fs, x = .ref a ∧ H1 a = some (.ins C dx fs) ∧ fs.lookup m = none ∧ t σ H1 fun vs H2 => sp (x :: vs) H2 Q (Tv X σ)
theorem Xo {pl : Sem Bool} (he : PE X o ta) (c : Cls X.K C) (hm : Meth X.K C m f) (F : FnOk X.prog X.w X.K X.mg X.base (CX1 X.prog X.w) k f fd ps sp) (hr : Room k X.A) (hb : Binds X.K fd ps []) (ha : PA X (e :: es) t)
  (hst : starEach (e :: es) X.env = (false, eval e X.env) :: starEach es X.env := by rfl) (hpl : (backTo pos (starEach es X.env)).any (·.1) = false := by rfl)
  (ht : eval (.Call (.Attribute o m apos) (e :: es) [] pos) X.env = (do
   let ov ← eval o X.env
   standAt apos.atName
   let (f, first) ← holding [ov] (getMethod ov m pl)
   callWith pos f first (backTo pos (starEach (e :: es) X.env)) (backToKw pos (keywordEach [] X.env))) := by rfl) :
  PE X (.Call (.Attribute o m apos) (e :: es) [] pos) (Xn X C m sp ta t) := by
 intro pins s σ H Q I h
 refine PySem.W.methodCall_KW (pl := pl) (thn (he pins s σ H _ I h) fun u s1 ⟨x, H1, I1, rx, a, dx, fs, ex, ea, l, q⟩ => ?_) ht
 subst ex
 obtain rfl : u = Value.ref a := rx
 refine Ip I1 ea c hm l ?_
 refine PySem.W.callWith_K (first := [.ref a]) (h₀ := X.base) I.ok.mod.kin hm.kp (thn (ha pos pins s1 σ H1 _ I1 q) fun us s2 ⟨vs, H2, I2, r, q2⟩ => ⟨I2.kIn, ?_⟩) hst hpl
 exact Rw (us := .ref a :: us) (vs := .ref a :: vs) F hr hb I2 (.cons rfl r) q2
end
section
variable {X : Cx} {G : Gx} {a ob : Expr} {es : List Expr} {fs : FA} {fo : FE} {pos p apos : Pos} {A0 : List Addr} {He : Hp}
theorem gw {σ : St} {H1 : Hp} {A : List Addr} {ρ : Rho} {d : D} (w : OkW G A0 He A σ H1 ρ) (kx : RzO X G A0 He d ρ) : XW G H1 d (Tv X σ) := fun c gs z e T H' x pins s' I => kx c gs z pins σ H1 H' s' e (some T) I ⟨A, w⟩ x
theorem dh {k : Nat} {f : Addr} {fd : FuncData} {ps : List Str} {g : List D → Option D} {x : Str} (F : FnOk X.prog X.w X.K X.mg X.base (CX1 X.prog X.w) k f fd ps (spZ G g)) (hr : Room k X.A) (hg : Gl X x) (hm : X.mg x = some (.ref f)) (hk : PySem.W.keepIn X.K (.ref f) = true)
  (hb : Binds X.K fd ps []) (ha : PFA X G (a :: es) fs) (hdb : (x == ("__debug__" : Str)) = false := by decide) (he : starEach (a :: es) X.env = (false, eval a X.env) :: starEach es X.env := by rfl) (hpl : (backTo pos (starEach es X.env)).any (·.1) = false := by rfl) :
  PFZ X G (.Call (.Name x p) (a :: es) [] pos) (Cr g fs) := fun A0 He pins s σ H Q I ⟨ρ, d, A, w, e, k, kx⟩ => by
 refine Tw F hr hg hm hk hb (@ha A) hdb he hpl pins s σ H Q I ?_
 unfold Cr at e
 cases e1 : fs ρ with
 | none => simp [e1] at e
 | some ds =>
  have e' : g ds = some d := by simpa [e1] using e
  exact ⟨ρ, ds, w.ok, e1, fun vs H1 s1 r1 => ⟨A, ds, d, (w.mono s1).ok.live, r1, e', fun v H2 s2 r2 => k v H2 (s1.trans s2) r2, gw (w.mono s1) kx⟩⟩
end
theorem di {P : Program} {w : World} {G : Gx} {mg : Str → Option Value} {base : Heap} {N : List Str} {qual : Str} {scope : Scope} {f : Addr} {cd : Value} {A : Around} {outer : List Env} {s : Shared} {H : Hp} {E : XK} {A0 : List Addr} {d : D} {ρ : Rho} (h : XW G H d E) :
  RzO (cxOf (CX1 P w) P w G.K mg base N qual scope f cd A outer s H E) G A0 H d ρ := fun c gs z pins σ H1 H2 s2 e tb I ⟨A1, ok⟩ x => by
 show wpAny _ _ (leaving _ _) _ _ _
 unfold leaving
 refine wpAny_bind (Oz (X := cxOf (CX1 P w) P w G.K mg base N qual scope f cd A outer s H E) rfl rfl I (x.base ok.same) fun T H' s' I' x' => ?_)
 exact ⟨e, H', rfl, I'.os, I'.bare, I'.base, I'.hok, h c gs z e T H' x'⟩
end PV
namespace EX
open PySem PySem.W PyProof.Rows PySem.Calls
section
variable {prog : Program} {w : World} {A : Around} {E : Value → Shared → Prop} {h : Heap} {g : Array GenState} {d : Drawn} {t : Nat} {os : OsState} {R : Result → Shared → Prop}
variable {nm q : Str} {C N : Addr} {bs bm bmB : List Value} {hdct : Bool} {sn : List Str} {sub : List Value} {ab : Bool} {col : Option Bool} {dd : Option Addr} {k0 k1 k2 k3 k5 : Option Value} {B newId initId : String}
abbrev Iz (C a : Addr) : Obj := { cls := .ref C, data := .fields #[.ref a, .none, .none, .none, .bool false, .none] }
abbrev H4 (rest : List Value) : Obj := { cls := .type "tuple", data := .seq rest.toArray }
theorem O1 (F : ExcBaseFacts B newId initId bmB) (T : OwnTail h bmB bm) {rest : List Value} {init : Value} {Q : Fin → Shared → Prop}
  (hC : h.get? C = some (excClassObj nm q C N bs bm hdct sn sub ab col dd k0 k1 k2 k3 k5 newId)) (hi : Looks (model prog w) h (typeLookup (.ref C) "__init__") (some init)) (hb : ∀ self, Looks (model prog w) h (bindSpecial init self) (init, [self]))
  (hq : codeAny (model prog w) A (.call init ⟨.ref (h.objs.size + 1) :: rest, []⟩) (fun r s' => match r with
   | .ok (.ret v) => v = .none ∧ Q (.done (.ret (.ref (h.objs.size + 1)))) s'
   | .ok _ => False
   | .error e => E e s') ⟨(h.push (H4 rest)).push (Iz C h.objs.size), g, d, t, os⟩) (hrest : rest.length ≤ sizeLine := by size_fits) :
  wpAny (model prog w) A (Builtin.«type.__call__» ⟨.ref C :: rest, []⟩) Q E ⟨h, g, d, t, os⟩ := by
 repeat (first | with_reducible refine wpAny_loadPart_at hC ?_ | with_reducible refine wpAny_madeBy_exc hC ?_ | wp_step)
 refine codeAny_call_builtin_code (Code.quiet_builtin _ F.quiet) (wpAny_check_new_subT F T hC ?_)
 refine codeAny_exc_new_subT F T hC ?_ hrest
 show wpAny _ _ _ _ _ _
 have k : ∀ b o, h.get? b = some o → ((h.push (H4 rest)).push (Iz C h.objs.size)).get? b = some o := fun b o e => Heap.get?_push_of_some _ (Heap.get?_push_of_some _ e)
 have hC₁ := k _ _ hC
 have hget : ((h.push (H4 rest)).push (Iz C h.objs.size)).get? (h.objs.size + 1) = some (Iz C h.objs.size) := by heap_get
 have hcC : (Value.ref C :: bm).contains (.ref C) = true := by simp
 have i1 := hi.keeps k
 have b1 := (hb (.ref (h.objs.size + 1))).keeps k
 unfold isInstance
 repeat (first | with_reducible refine wpAny_loadPart_at hget ?_ | (with_reducible refine wpAny_isSubtype_exc hC₁ ?_; rw [hcC]) | wp_step)
 show wpAny _ _ (typeLookup (.ref C) _) _ _ _
 refine i1.at ?_
 dsimp only
 refine wpAny_holding (wpAny_bind (b1.at ?_))
 dsimp only
 refine wpAny_bind (wpAny_call (codeAny_mono hq fun r s' z => ?_))
 rcases r with e | (v | _ | _ | _) <;> first | exact z | exact z.elim | skip
 obtain ⟨rfl, z⟩ := z
 exact wpAny_pure (wpAny_pure z)
theorem Xp (F : ExcBaseFacts B newId initId bmB) (T : OwnTail h bmB bm) {rest : List Value} {init : Value}
  (hC : h.get? C = some (excClassObj nm q C N bs bm hdct sn sub ab col dd k0 k1 k2 k3 k5 newId)) (hi : Looks (model prog w) h (typeLookup (.ref C) "__init__") (some init)) (hb : ∀ self, Looks (model prog w) h (bindSpecial init self) (init, [self]))
  (hq : codeAny (model prog w) (A.under (.builtin "type.__call__" ⟨.ref C :: rest, []⟩)) (.call init ⟨.ref (h.objs.size + 1) :: rest, []⟩) (InitBack (h.objs.size + 1) R) ⟨(h.push (H4 rest)).push (Iz C h.objs.size), g, d, t, os⟩) (hrest : rest.length ≤ sizeLine) :
  codeAny (model prog w) A (.call (.ref C) ⟨rest, []⟩) R ⟨h, g, d, t, os⟩ := by
 have f1 := tc_lookup
 have f2 := tc_bind (.ref C)
 have hT : (⟨h, g, d, t, os⟩ : Shared).TypeIs (.ref C) "type" := ⟨_, hC, rfl⟩
 refine codeAny_of_tree ?_
 show wpAny _ _ (callAny (.ref C) _) _ _ _
 repeat (any_goals (first | assumption | with_reducible refine wpAny_loadPart_at hC ?_ | wp_step))
 refine ⟨rfl, ?_⟩
 refine codeAny_call_builtin_at (Code.quiet_builtin _ (by decide +kernel)) entry_typeCall (wpAny_check_type_call_sub hC (O1 F T hC hi hb (codeAny_mono hq fun r s' z => ?_) hrest))
 rcases r with e | (v | _ | _ | _) <;> first | exact z | exact z.elim
end
end EX
namespace EX
open PySem PySem.W PySem.Spec PyProof.Rows PySem.Calls
section
variable {prog : Program} {w : World} {A : Around} {E : Value → Shared → Prop} {s : Shared} {K : Frag} {x C : Addr} {ox : Obj} {od : Option Obj} {name : Str} {v : Value}
theorem Z1 {expr : Bool} {Q : Value → Shared → Prop} (X : K.In s.heap) (I : InstAt s.heap x ox C od) (hga : findIn K (.ref C) "__getattribute__" = some (some (.builtin "BaseException.__getattribute__"))) (hgt : findIn K (.ref C) "__getattr__" = some none)
  (hsub : subIn K (.ref C) (.type "BaseException") = some true) (hf : findObj K C od name = some (.value v)) (hh : handedIn v = true) (h : Q v { s with toks := s.toks + 1 }) : wpAny (model prog w) A (getAttr (.ref x) name expr) Q E s := by
 obtain ⟨hp, g, d, t, os⟩ := s
 have L0 := I.type (M := model prog w)
 have L1 := looks_findIn (M := model prog w) X hga
 have L2 := looks_findIn (M := model prog w) X hgt
 have L3 := looks_find (M := model prog w) X I hf
 have L4 := looks_subIn (M := model prog w) X hsub
 have f3 := F.attr_ValueError.ga.bind (.ref x)
 have hk : builtinKind "BaseException.__getattribute__" = some .slot := by decide +kernel
 have hsplit : splitId "BaseException.__getattribute__" = some ("BaseException", "__getattribute__") := by decide +kernel
 have hx2 : (Value.builtin "BaseException.__getattribute__" == Value.builtin "object.__getattribute__") = false := by decide +kernel
 have hx1 : (onTheHeap (Value.ref C) && Value.builtin "BaseException.__getattribute__" == Value.builtin "object.__getattribute__") = false := by rw [hx2]; rfl
 have hx0 : (expr && onTheHeap (Value.builtin "BaseException.__getattribute__")) = false := by cases expr <;> rfl
 unfold getAttr getAttrBy
 refine wpAny_bind (wpAny_mkText (wpAny_holding (wpAny_bind (L0.at (wpAny_bind (L1.at ?_))))))
 dsimp only
 rw [hx1, if_neg (by decide)]
 have ck : ∀ (Q : Unit → Shared → Prop) (B : Around) (E' : Value → Shared → Prop), Q () ⟨hp, g, d, t + 1, os⟩ → wpAny (model prog w) B (checkBuiltinCall "BaseException.__getattribute__" ⟨[.ref x, .str name t], []⟩) Q E' ⟨hp, g, d, t + 1, os⟩ := fun Q B E' hq => by
  have ha := F.args_bexc_ga (.ref x) (.str name t)
  simp only [checkBuiltinCall, hk, hsplit]
  refine wpAny_bind ?_
  unfold isInstance
  refine wpAny_bind (L0.at (L4.at ?_))
  repeat (any_goals (first | assumption | wp_step))
 have run : ∀ (B : Around) (R : Result → Shared → Prop), R (.ok (.ret v)) ⟨hp, g, d, t + 1, os⟩ → codeAny (model prog w) B (.call (.builtin "BaseException.__getattribute__") ⟨[.ref x, .str name t], []⟩) R ⟨hp, g, d, t + 1, os⟩ := fun B R hq =>
  codeAny_call_builtin F.attr_ValueError.ga.plain F.entry_bexc_ga (ck _ _ _ (by
   unfold Builtin.«object.__getattribute__»
   repeat (any_goals (first | assumption | with_reducible refine L0.at ?_ | with_reducible refine L3.at ?_ | wp_step))))
 repeat (any_goals (first | assumption | with_reducible refine L2.at ?_ | wp_step))
 refine run _ _ ?_
 show wpAny _ _ (handedOut v) _ _ _
 rw [handedOut_of hh]
 exact wpAny_pure h
open Builtin Builtin.ObjectAttr in
theorem Z2 {R : Addr} {cd : ClassData} {vs : Array Value} {Q : Unit → Shared → Prop} (X : K.In s.heap) (I : InstAt s.heap x ox C none) (hfl : ox.data = .fields vs) (hs : findIn K (.ref C) "__setattr__" = some (some (.builtin "object.__setattr__"))) (hc : clsIn K C = some cd)
  (hm : cd.mro = [.ref C, .ref R, .type "ValueError", .type "Exception", .type "BaseException", .type "object"]) (hd : cd.hasDict = true) (ht : findIn K (.ref C) name = some none)
  (h : ∀ h' : Heap, h'.get? x = some { ox with dict := some s.heap.objs.size } → h'.Ns1 s.heap.objs.size (fun y => if y = name then some v else none) → (∀ b o, b ≠ x → s.heap.get? b = some o → h'.get? b = some o) → Q () { s with heap := h', toks := s.toks + 2 }) :
  wpAny (model prog w) A (setAttr (.ref x) name v) Q E s := by
 obtain ⟨hp, g, d, t, os⟩ := s
 have SF := F.store_object
 have VF := F.store_ValueError
 have hpass : refuseLoop (.ref x) "__setattr__" cd.mro = pure () := by rw [hm, refuseLoop_ref, refuseLoop_ref]; exact VF.passes _
 have sub : Looks (model prog w) hp (isInstance (.ref x) (.type "object")) true := I.type.andThen (looks_mroIn X (by unfold mroIn; rw [hc, Option.bind_some, hm]; rfl))
 have lm : Looks (model prog w) hp (mroOf (.ref C)) cd.mro := (looks_clsIn X hc).andThen .now
 have la := looks_findIn (M := model prog w) X ht
 have lt := I.type (M := model prog w)
 have lc := looks_clsIn (M := model prog w) X hc
 refine set_plain X I hs (codeAny_call_builtin SF.slot.plain SF.entry ?_)
 refine @check_slot (model prog w) _ _ ⟨hp, g, d, t + 1, os⟩ "object.__setattr__" "object" "__setattr__" (.ref x) [.str name t, v] [] _ SF.kind SF.split sub (SF.args (.ref x) (.str name t) v) ?_
 rw [osa_eq, refuse_eq]
 refine wpAny_bind (wpAny_bind (lt.at (wpAny_bind (lm.at ?_))))
 rw [hpass]
 refine wpAny_pure (wpAny_bind (lt.at (wpAny_bind (la.at (wpAny_bind (wpAny_pure ?_))))))
 dsimp only
 obtain ⟨hx, hcl, hn, hdi⟩ := I
 obtain ⟨oc, odi, oda, osl⟩ := ox
 dsimp only at hcl hdi hfl
 subst hcl hfl
 have hdn : odi = none := by
  cases odi with
  | none => rfl
  | some z => exact hdi.elim
 subst hdn
 have hxs : x ≠ hp.objs.size := Nat.ne_of_lt (Heap.lt_size hx)
 have hx1 : (hp.push { cls := .type "dict", data := .dict #[] }).get? x = some ⟨.ref C, none, .fields vs, osl⟩ := Heap.get?_push_of_some _ hx
 unfold storeInOwnDict
 refine wpAny_bind (wpAny_pure (wpAny_bind (wpAny_bind (wpAny_loadPart hx (wpAny_bind (lc.at ?_))))))
 rw [hd]
 refine wpAny_bind (wpAny_alloc' (wpAny_bind (wpAny_update' hx1 (wpAny_pure ?_))))
 have hgd : ((hp.push { cls := .type "dict", data := .dict #[] }).update x fun o => { cls := o.cls, dict := some hp.objs.size, data := o.data, slots := o.slots }).get? hp.objs.size = some { cls := .type "dict", data := .dict #[] } := (Heap.get?_update_other _ _ hxs).trans (Heap.get?_push_size _ rfl)
 have hgx : ((hp.push { cls := .type "dict", data := .dict #[] }).update x fun o => { cls := o.cls, dict := some hp.objs.size, data := o.data, slots := o.slots }).get? x = some ⟨.ref C, some hp.objs.size, .fields vs, osl⟩ := Heap.get?_update_self _ hx1 rfl
 have ho : ∀ b o, b ≠ x → hp.get? b = some o → ((hp.push { cls := .type "dict", data := .dict #[] }).update x fun o => { cls := o.cls, dict := some hp.objs.size, data := o.data, slots := o.slots }).get? b = some o := fun b o nb z => (Heap.get?_update_other _ _ (Ne.symm nb)).trans (Heap.get?_push_of_some _ z)
 generalize (hp.push { cls := .type "dict", data := .dict #[] }).update x (fun o => { cls := o.cls, dict := some hp.objs.size, data := o.data, slots := o.slots }) = h2 at hgd hgx ho ⊢
 have hnd : h2.Ns hp.objs.size (fun _ => none) := ⟨_, #[], _, hgd, rfl, fun e he => absurd he (by simp), fun _ => rfl⟩
 show wpAny _ _ (storeInDict hp.objs.size (.str name t) name v) _ _ _
 unfold storeInDict newKeyGuard
 refine wpAny_bind (wpAny_pure (wpAny_bind (wpAny_nsSet1 (Heap.Ns1.of_empty hnd) fun h' hn' hs' => ?_)))
 obtain ⟨oD, esD, epD, hoD, hdD, hcD⟩ := hn'.count (Within.cons name v Within.nil)
 refine wpAny_bind (wpAny_lookBehind hoD (by rw [hdD]; exact pastItsLine_dict (Nat.le_trans hcD (by rw [List.length_cons, List.length_nil, sizeLine_eq]; omega))) ?_)
 exact wpAny_pure (h h' ((hs'.2 x hxs).trans hgx) hn' fun b o nb z => (hs'.2 b (Nat.ne_of_lt (Heap.lt_size z))).trans (ho b o nb z))
end
end EX
namespace EX
open PySem PySem.Spec L2
open PyProof.Rows hiding St
abbrev bmV : List Value := [.type "ValueError", .type "Exception", .type "BaseException", .type "object"]
def excX (K : PySem.W.Frag) (C : Addr) : Bool := match K.lookup C with
 | some ⟨.type "type", _, .cls cd, sl⟩ => (match cd.mro, sl.toList with
  | .ref C' :: bm, [_, _, _, _, some (.builtin n), _] => C' == C && n == "ValueError.__new__" && !cd.hasDel && PySem.W.tailIn K bmV bm
  | _, _ => false)
 | _ => false
theorem K8 {K : PySem.W.Frag} {h : Heap} {C : Addr} (X : K.In h) (q : excX K C = true) : ∃ nm qn N bs bm hdct sn sub ab col dd k0 k1 k2 k3 k5, h.get? C = some (excClassObj nm qn C N bs bm hdct sn sub ab col dd k0 k1 k2 k3 k5 "ValueError.__new__") ∧ OwnTail h bmV bm := by
 unfold excX at q
 split at q
 ·rename_i dd cd sl ho
  split at q
  ·rename_i C' bm k0 k1 k2 k3 n k5 hm hs
   simp only [Bool.and_eq_true, beq_iff_eq, Bool.not_eq_true'] at q
   obtain ⟨⟨⟨e1, e2⟩, e3⟩, e4⟩ := q
   subst e1 e2
   obtain ⟨nm, bs, mro, ns, qn, hd, sn, sub, ab, col, del⟩ := cd
   obtain ⟨l⟩ := sl
   simp only at hm hs e3
   subst hm e3 hs
   exact ⟨nm, qn, ns, bs, bm, hd, sn, sub, ab, col, dd, k0, k1, k2, k3, k5, X _ _ ho, PySem.W.tail_of_in X e4⟩
  ·cases q
 ·cases q
structure XC (K : PySem.W.Frag) (C R : Addr) : Prop where
 obj : excX K C = true
 sa : PySem.W.findIn K (.ref C) "__setattr__" = some (some (.builtin "object.__setattr__"))
 ga : PySem.W.findIn K (.ref C) "__getattribute__" = some (some (.builtin "BaseException.__getattribute__"))
 gt : PySem.W.findIn K (.ref C) "__getattr__" = some none
 cd : (PySem.W.clsIn K C).any (fun cd => cd.mro == [.ref C, .ref R, .type "ValueError", .type "Exception", .type "BaseException", .type "object"] && cd.hasDict) = true
theorem XC.cls {K : PySem.W.Frag} {C R : Addr} (x : XC K C R) : ∃ cd, PySem.W.clsIn K C = some cd ∧ cd.mro = [.ref C, .ref R, .type "ValueError", .type "Exception", .type "BaseException", .type "object"] ∧ cd.hasDict = true := by
 obtain ⟨cd, h1, h2⟩ := PySem.W.any_some x.cd
 simp only [Bool.and_eq_true, beq_iff_eq] at h2
 exact ⟨cd, h1, h2.1, h2.2⟩
theorem Tz {H : Hp} {a : Addr} {o : HO} (h : H a = some o) : upd H a o = H := by
 funext b
 unfold upd
 split
 ·rename_i e; rw [e, h]
 ·rfl
section
variable {X : Cx} {pins : List (Addr × Obj)} {σ : St} {H : Hp} {s : Shared} {e C R dx : Addr} {od tb : Option Addr} {A : Around} {E : Value → Shared → Prop} {f : Str}
theorem Xq {u : Value} {Q : Value → Shared → Prop} (I : Inv X pins σ H s) (he : H e = some (excO e C od tb)) (x : XC X.K C R) (hQ : ∀ s', Inv X pins σ H s' → Q .none s') :
  wpAny (model X.prog X.w) A (call (.builtin "ValueError.__init__") [.ref e, u]) Q E s := by
 have F := PySem.F.excBase_ValueError
 obtain ⟨⟨o, vs, q1, q2, q3, q4, q5, q6⟩, _⟩ := I.hok e _ he
 obtain ⟨nm, qn, N, bs, bm, hdct, sn, sub, ab, col, dd, k0, k1, k2, k3, k5, hC, T⟩ := K8 I.kIn x.obj
 have I1 := I.kept (h' := s.heap.push { cls := .type "tuple", data := .seq [u].toArray }) (t' := s.toks) fun b v z => Heap.get?_push_of_some _ z
 have g1 := Heap.get?_push_of_some (h := s.heap) { cls := .type "tuple", data := .seq [u].toArray } q1
 have I2 := Kp (u' := excO e C od tb) (i := 0) (v := .ref s.heap.objs.size) I1 he trivial g1 q4 fun h' o' r1 r2 r3 r4 => ExcP.ok ⟨o', _, r1, r2.trans q2, r3.trans q3, r4, by simpa using q5, by rw [Array.getElem?_setIfInBounds_ne (by decide)]; exact q6⟩
 rw [Tz he] at I2
 obtain ⟨hp, g, d, t, os⟩ := s
 have h0 : ∃ v0, vs[0]? = some v0 := ⟨vs[0]'(by omega), by simp⟩
 obtain ⟨v0, h0⟩ := h0
 refine wpAny_call (codeAny_call_builtin F.init.plain F.initEntry (wpAny_check_init_subT F T hC q1 q2 ?_))
 unfold Builtin.«BaseException.__init__»
 dsimp only
 rw [if_neg (by simp)]
 unfold newTuple Builtin.BaseException.bexcPut
 refine wpAny_bind (wpAny_newObj_type (wpAny_bind (wpAny_bind (wpAny_field g1 q4 h0 (wpAny_bind (wpAny_setField g1 q4 (by omega) ?_))))) (by show 1 ≤ sizeLine; decide))
 have z := hQ _ I2
 cases v0 <;> first | exact wpAny_letGo (wpAny_pure z) | exact wpAny_pure (wpAny_pure z)
theorem Z3 {y : V} {u : Value} {Q : Unit → Shared → Prop} (I : Inv X pins σ H s) (he : H e = some (excO e C none tb)) (x : XC X.K C R) (n : Dy X.K C f) (ry : RelV y u)
  (h : ∀ dx s', H dx = none → Inv X pins σ (upd (upd H dx (.xd [(f, y)])) e (excO e C (some dx) tb)) s' → Q () s') : wpAny (model X.prog X.w) A (setAttr (.ref e) f u) Q E s := by
 obtain ⟨⟨o, vs, q1, q2, q3, q4, q5, q6⟩, _⟩ := I.hok e _ he
 obtain ⟨cd, c1, c2, c3⟩ := x.cls
 have ia : PySem.W.InstAt s.heap e o C none := ⟨q1, q2, by unfold PySem.W.notCls; rw [q4], by rw [q3]; trivial⟩
 refine Z2 I.kIn ia q4 x.sa c1 c2 c3 n fun h' r1 r2 r3 => h s.heap.objs.size _ I.fresh ?_
 have hf := I.fresh
 have ne : e ≠ s.heap.objs.size := CT he hf
 have hs : ∃ o', h'.get? s.heap.objs.size = some o' := let ⟨o', _, _, z, _⟩ := r2; ⟨o', z⟩
 have nx : ∀ b v, H b = some v → (∀ φ, v ≠ .ext φ) → b ≠ e ∧ b ≠ s.heap.objs.size := fun b v q z => ⟨fun w => by rw [w, he] at q; cases q; exact z _ rfl, CT q hf⟩
 have ot : ∀ b v, H b = some v → (∀ φ, v ≠ .ext φ) → upd (upd H s.heap.objs.size (.xd [(f, y)])) e (excO e C (some s.heap.objs.size) tb) b = some v := fun b v q z => by rw [Bg (nx b v q z).1, Bg (nx b v q z).2]; exact q
 refine I.un ⟨fun b ob z nb _ _ => r3 b ob (Ne.symm (CT he nb)) z, fun b ob z nb _ _ => ⟨ob.slots, r3 b ob (Ne.symm (CT he nb)) z⟩, fun b ob z nb _ => ?_, fun b ob z _ => ?_, fun b xs z => ot b _ z (fun _ z => nomatch z), fun b o' u' z => ot b _ z (fun _ z => nomatch z), fun b ps z => ⟨#[], by rw [ot b _ z (fun _ z => nomatch z)]; simp⟩⟩ fun b v z => ?_
 ·rw [Bg (Ne.symm (CT he nb)), Bg (Nat.ne_of_lt (Heap.lt_size z))]; exact nb
 ·by_cases hb : b = e
  ·rw [hb]; exact ⟨_, r1⟩
  ·exact ⟨ob, r3 b ob hb z⟩
 ·by_cases hb : b = e
  ·subst hb
   rw [Cj] at z
   cases z
   exact ExcP.ok ⟨_, vs, r1, q2, rfl, q4, q5, q6⟩
  ·rw [Bg hb] at z
   by_cases hb2 : b = s.heap.objs.size
   ·subst hb2
    rw [Cj] at z
    cases z
    refine ⟨_, r2, fun g => ?_⟩
    by_cases hg : g = f
    ·subst hg; simp [List.lookup]; exact ry
    ·have : (g == f) = false := beq_eq_false_iff_ne.mpr hg
     simp [List.lookup, this, hg]; trivial
   ·rw [Bg hb2] at z
    refine (I.hok b v z).stay (fun c w hc k => r3 c w ?_ k) (fun c q => ot c _ q (fun _ z => nomatch z)) (fun c xs q => ot c _ q (fun _ z => nomatch z))
    rcases hc with hc | hc
    ·rw [hc]; exact hb
    ·exact (nx c _ hc (fun _ z => nomatch z)).1
theorem Z4 {b : Bool} {fs : List (Str × V)} {v : V} {Q : Value → Shared → Prop} (I : Inv X pins σ H s) (he : H e = some (excO e C (some dx) tb)) (hd : H dx = some (.xd fs)) (x : XC X.K C R) (n : Dy X.K C f) (l : fs.lookup f = some v)
  (h : ∀ u s', Inv X pins σ H s' → RelV v u → Q u s') : wpAny (model X.prog X.w) A (getAttr (.ref e) f b) Q E s := by
 obtain ⟨⟨o, vs, q1, q2, q3, q4, q5, q6⟩, _⟩ := I.hok e _ he
 obtain ⟨mA, ns, r⟩ := I.hok dx _ hd
 obtain ⟨u, hu, ru⟩ := RelO.some_of (v := v) (o := mA f) (by rw [← l]; exact r f)
 obtain ⟨oD, g1, g2⟩ := Pz ns
 obtain ⟨cd, c1, c2, c3⟩ := x.cls
 have ia : PySem.W.InstAt s.heap e o C (some oD) := ⟨q1, q2, by unfold PySem.W.notCls; rw [q4], by rw [q3]; exact g1⟩
 have hh : PySem.W.hasDictIn X.K C = true := by unfold PySem.W.hasDictIn; rw [c1]; exact c3
 refine Z1 I.kIn ia x.ga x.gt ?_ (PySem.W.findObj_own hh n rfl (by rw [g2, hu])) (P0 ru) (h u _ (I.tok _) ru)
 show PySem.W.mroIn X.K C _ = _
 unfold PySem.W.mroIn
 rw [c1, Option.bind_some, c2]
 rfl
end
end EX
namespace EX
open PySem PySem.Spec L2
open PyProof.Rows hiding St
section
variable {X : Cx} {a b : Expr} {es : List Expr} {t : TA} {p pos apos : Pos} {x : Str} {R : Addr}
def PP (X : Cx) (c : St → Prop) (e : Expr) : Prop := ∀ (pins : List (Addr × Obj)) (s : Shared) (σ : St) (H : Hp), Inv X pins σ H s → c σ →
 wpAny (model X.prog X.w) X.A (eval e X.env) (fun v s' => ∃ y t, v = .str y t ∧ y.length ≤ 2000000 ∧ Inv X pins σ H s') X.xe s
theorem dj {c : St → Prop} {z : Str} {j} (h : z.length ≤ 2000000 := by decide) : PP X c (.Constant (.str z) j pos) := fun pins s σ H I _ => Calls.Constant_str ⟨z, _, rfl, h, I.tok _⟩
def Xr (i : Nat) (σ : St) : Prop := ∃ z : Str, σ[i]? = some (some (.str z)) ∧ z.length ≤ 100000 ∧ ∀ c ∈ z.cps.toList, c < 16 ^ 8
theorem Z5 {i : Nat} {e : Expr} (h : PE X e (tVar i)) : PP X (Xr i) (.FormattedValue e 114 none pos) := fun pins s σ H I ⟨z, h1, h2, h3⟩ => by
 refine wpAny_FormattedValue_repr (thn (h pins s σ H (fun v H' => v = .str z ∧ H' = H) I ⟨_, h1, rfl, rfl⟩) fun u s1 ⟨v, H1, I1, r1, q1, q2⟩ => ?_)
 subst q1 q2
 obtain ⟨t, rfl⟩ := (show ∃ t, u = Value.str z t from r1)
 have hl : (reprText z).length ≤ 2000000 := by have := PySem.StrLaws.reprText_len z h3; omega
 refine wpAny_pyReprObj_str ?_ (PV.Fe (by omega))
 exact wpAny_formatField_str ⟨_, _, rfl, hl, I1.tok _⟩ ⟨_, _, rfl, hl, (I1.tok _).tok _⟩ (PV.Fe (by omega))
theorem Vu (y : Str) : (Str.empty ++ y).length = y.length := by rw [PV.Af]; simp [Str.length, Str.empty]
def tTxt (c : St → Prop) : TE := fun σ H Q => c σ ∧ ∀ y, Q (.str y) H
theorem Xu {c : St → Prop} {e1 e2 : Expr} (h1 : PP X c e1) (h2 : PP X c e2) : PE X (.JoinedStr [e1, e2] pos) (tTxt c) := fun pins s σ H Q I ⟨hc, q⟩ => by
 refine wpAny_JoinedStr ?_
 refine thn (h1 pins s σ H I hc) fun v s1 ⟨y, t, e, l, I1⟩ => ⟨y, t, e, PV.Fe (by rw [Vu]; omega), ?_⟩
 have b2 : ∀ y2 : Str, y2.length ≤ 2000000 → (Str.empty ++ y ++ y2).length ≤ sizeLine := fun y2 l2 => PV.Fe (by rw [PV.Af, Vu]; omega)
 exact thn (h2 pins s1 σ H I1 hc) fun v s2 ⟨y2, t2, e2, l2, I2⟩ => ⟨y2, t2, e2, b2 y2 l2, b2 y2 l2, ⟨.str _, H, I2.tok _, ⟨_, rfl⟩, q _⟩⟩
def tSup (K : PySem.W.Frag) (t : TA) : TE := fun σ H Q => t σ H fun vs H1 => ∃ e y C R od tb, vs = [.ref e, .str y] ∧ H1 e = some (excO e C od tb) ∧ XC K C R ∧ Q .non H1
theorem Xv {pl : Sem Bool} (hg : Gl X x) (hm : X.mg x = some (.ref R)) (h1 : PySem.W.specialIn X.K (.ref R) "__getattribute__" = some (some (.builtin "type.__getattribute__"))) (h2 : PySem.W.readsIn X.K R (.type "type") = true)
  (h3 : PySem.W.findCls X.K (.ref R) (.type "type") "__init__" = some (.val (.builtin "ValueError.__init__"))) (ha : PA X (a :: es) t) (hdb : (x == ("__debug__" : Str)) = false := by decide)
  (hst : starEach (a :: es) X.env = (false, eval a X.env) :: starEach es X.env := by rfl) (hpl : (backTo pos (starEach es X.env)).any (·.1) = false := by rfl)
  (ht : eval (.Call (.Attribute (.Name x p) "__init__" apos) (a :: es) [] pos) X.env = (do
   let ov ← eval (.Name x p) X.env
   standAt apos.atName
   let (f, first) ← holding [ov] (getMethod ov "__init__" pl)
   callWith pos f first (backTo pos (starEach (a :: es) X.env)) (backToKw pos (keywordEach [] X.env))) := by rfl) :
  PE X (.Call (.Attribute (.Name x p) "__init__" apos) (a :: es) [] pos) (tSup X.K t) := by
 intro pins s σ H Q I h
 refine PySem.W.methodCall_KW (pl := pl) (Im I hg hm ?_ hdb) ht
 refine PySem.W.method_cls I.kIn h1 (PySem.W.cls_value I.kIn h2 h3 rfl ?_)
 refine callWith_builtin1 (thn (ha pos pins _ σ H _ (I.tok _) h) fun us s1 ⟨vs, H1, I1, r, e, y, C, R', od, tb, ev, he, xc, q⟩ => ?_) hst hpl
 subst ev
 cases r with
 | cons r1 r =>
  cases r with
  | cons r2 r =>
   cases r
   obtain rfl := (show _ = Value.ref e from r1)
   exact Xq I1 he xc fun s' I' => ⟨.non, H1, I', rfl, q⟩
end
end EX
namespace EX
open PySem PySem.Spec L2
open PyProof.Rows hiding St
section
variable {X : Cx} {o value : Expr} {ta tv : TE} {pos pos' : Pos} {f : Str}
def sXf (K : PySem.W.Frag) (ta tv : TE) (f : Str) : TS := fun D σ H => tv σ H fun y H1 => ta σ H1 fun x H2 => ∃ e C R tb, x = .ref e ∧ H2 e = some (excO e C none tb) ∧ XC K C R ∧ Dy K C f ∧
 ∀ dx, H2 dx = none → D.nx σ (upd (upd H2 dx (.xd [(f, y)])) e (excO e C (some dx) tb))
theorem Z6 (ha : PE X o ta) (hv : PE X value tv) (hs : swapsWith value (some (.Attribute o f pos')) pos.line X.env = pure false) : PS X (.Assign [.Attribute o f pos'] value pos) (sXf X.K ta tv f) := by
 intro pins s σ H D I h
 refine plainObj_wpAny_Assign_Attribute (thn (hv pins s σ H _ I h) fun u s1 ⟨y, H1, I1, ry, q⟩ => thn (ha pins s1 σ H1 _ I1 q) fun ov s2 ⟨x, H2, I2, rx, e, C, R, tb, ex, ea, c, n, q2⟩ => ?_) hs
 subst ex
 obtain rfl : ov = Value.ref e := rx
 exact Z3 I2 ea c n ry fun dx s3 hd I3 => ⟨σ, _, I3, q2 dx hd⟩
end
def spE (K : PySem.W.Frag) (f : Str) (c : V → Prop) : Sp := fun vs H Q _ => ∃ e y C R, vs = [.ref e, y] ∧ H e = some (excO e C none none) ∧ XC K C R ∧ Dy K C f ∧ c y ∧ ∀ dx, H dx = none → Q .non (upd (upd H dx (.xd [(f, y)])) e (excO e C (some dx) none))
theorem We {K : PySem.W.Frag} {f : Str} {c : V → Prop} {cs : St → Prop} {vs : List V} {H : Hp} {Q : VK} {E : XK} {N : List Str} (h : spE K f c vs H Q E) (hN : N.length = 2) (hc : ∀ e y, c y → cs [some (.ref e), some y]) :
  tSeq (aj (tSup K (U8 (tVar 0) (U8 (tTxt cs) tNil)))) (sXf K (tVar 0) (tVar 1) f) { nx := fun _ H' => Q .non H', rt := Q } (start N vs) H := by
 obtain ⟨e, y, C, R, rfl, he, xc, n, cy, q⟩ := h
 have st : start N [.ref e, y] = [some (.ref e), some y] := by unfold L2.start; rw [hN]; rfl
 rw [st]
 exact ⟨_, rfl, hc e y cy, fun z => ⟨e, z, C, R, none, none, rfl, he, xc, _, rfl, _, rfl, e, C, R, none, rfl, he, xc, n, q⟩⟩
theorem Z7 {K : PySem.W.Frag} {f : Str} {c : V → Prop} {vs : List V} {H : Hp} {Q : VK} {E : XK} (h : spE K f c vs H Q E) : vs.length = 2 := by
 obtain ⟨e, y, C, R, rfl, _⟩ := h
 rfl
def okS (y : V) : Prop := ∃ z : Str, y = .str z ∧ z.length ≤ 100000 ∧ ∀ c ∈ z.cps.toList, c < 16 ^ 8
theorem dm (e : Addr) (y : V) (h : okS y) : Xr 1 [some (.ref e), some y] := by obtain ⟨n, rfl, h⟩ := h; exact ⟨n, rfl, h⟩
section
variable {X : Cx} {pins : List (Addr × Obj)} {σ : St} {H : Hp} {s : Shared} {C R fi : Addr} {k : Nat} {fd : FuncData} {ps : List Str} {f : Str} {c : V → Prop}
theorem Inv.exc {us : List Value} (I : Inv X pins σ H s) : Inv X pins σ (upd H (s.heap.objs.size + 1) (excO (s.heap.objs.size + 1) C none none)) { s with heap := (s.heap.push (H4 us)).push (Iz C s.heap.objs.size) } := by
 have I1 := I.kept (h' := s.heap.push (H4 us)) (t' := s.toks) fun b v z => Heap.get?_push_of_some _ z
 have hs : (s.heap.push (H4 us)).objs.size = s.heap.objs.size + 1 := by simp [Heap.size_push]
 refine I1.laid (a := s.heap.objs.size + 1) (h' := (s.heap.push (H4 us)).push (Iz C s.heap.objs.size)) (t' := s.toks) (fun b v z => Heap.get?_push_of_some _ z) (Nat.le_of_eq hs) ?_
 have g := Heap.get?_push_size (s.heap.push (H4 us)) (o := Iz C s.heap.objs.size) rfl
 rw [hs] at g
 exact ExcP.ok ⟨_, _, g, rfl, rfl, rfl, rfl, rfl⟩
theorem Z8 {Q : VK} {us : List Value} {y : V} (x : XC X.K C R) (hi : PySem.W.findIn X.K (.ref C) "__init__" = some (some (.ref fi))) (hf : PySem.W.isFn X.K (.ref fi) = true) (n : Dy X.K C f)
  (F : FnOk X.prog X.w X.K X.mg X.base CX0 k fi fd ps (spE X.K f c)) (hr : Room (k + 1) X.A) (hb : Binds X.K fd ps []) (I : Inv X pins σ H s) (r : Vals [y] us) (cy : c y)
  (h : ∀ e dx, H e = none → H dx = none → dx ≠ e → Q (.ref e) (upd (upd H dx (.xd [(f, y)])) e (excO e C (some dx) none))) : wpAny (model X.prog X.w) X.A (call (.ref C) us) (EP X pins σ Q) X.xe s := by
 have I2 := Inv.exc (C := C) (us := us) I
 have hfe : H (s.heap.objs.size + 1) = none := I.hok.fresh (Nat.le_succ _)
 have sp : spE X.K f c [.ref (s.heap.objs.size + 1), y] (upd H (s.heap.objs.size + 1) (excO (s.heap.objs.size + 1) C none none)) (fun v H2 => v = .non ∧ Q (.ref (s.heap.objs.size + 1)) H2) E0 := by
  refine ⟨_, y, C, R, rfl, Cj, x, n, cy, fun dx hd => ⟨rfl, ?_⟩⟩
  have ne : dx ≠ s.heap.objs.size + 1 := fun z => by rw [z, Cj] at hd; cases hd
  rw [Bg ne] at hd
  have := h _ dx hfe hd ne
  have e : upd (upd (upd H (s.heap.objs.size + 1) (excO (s.heap.objs.size + 1) C none none)) dx (.xd [(f, y)])) (s.heap.objs.size + 1) (excO (s.heap.objs.size + 1) C (some dx) none) = upd (upd H dx (.xd [(f, y)])) (s.heap.objs.size + 1) (excO (s.heap.objs.size + 1) C (some dx) none) := by
   funext b
   unfold upd
   split <;> rfl
  rw [e]
  exact this
 have r2 : Vals [V.ref (s.heap.objs.size + 1), y] (Value.ref (s.heap.objs.size + 1) :: us) := .cons rfl r
 have hl : (Value.ref (s.heap.objs.size + 1) :: us).length = ps.length := by rw [← r2.length]; exact F.len _ _ _ _ sp
 have hb' := hb { s with heap := (s.heap.push (H4 us)).push (Iz C s.heap.objs.size) } (Value.ref (s.heap.objs.size + 1) :: us) I2.kIn (by rw [List.append_nil]; exact hl)
 rw [List.append_nil] at hb'
 have hus : us.length ≤ sizeLine := by rw [← r.length]; exact PV.Fe (by show 1 ≤ _; decide)
 obtain ⟨nm, qn, N, bs, bm, hdct, sn, sub, ab, col, dd, k0, k1, k2, k3, k5, hC, T⟩ := K8 I.kIn x.obj
 have KI := I.kIn
 have run := F.run _ X.stack _ _ ⟨Value.ref (s.heap.objs.size + 1) :: us, []⟩ (Value.ref (s.heap.objs.size + 1) :: us) _ _ E0 (hr.make C us []) (I2.env0.make C us []) hb' r2 sp
 obtain ⟨hp, g, d, t, os⟩ := s
 refine wpAny_call (Xp PySem.F.excBase_ValueError T hC (PySem.W.looks_findIn KI hi) (fun self => PySem.W.bind_fn KI self (beq_iff_eq.mp hf)) (codeAny_mono run fun r s' hq' => ?_) hus)
 cases r with
 | error e => exact hq'.elim
 | ok fl =>
  cases fl with
  | ret u =>
   obtain ⟨v, H', I3, rv, ev, q3⟩ := I2.after hq'
   subst ev
   exact ⟨rv, ⟨V.ref (hp.objs.size + 1), H', I3, rfl, q3⟩⟩
  | next => exact False.elim hq'
  | brk => exact False.elim hq'
  | cont => exact False.elim hq'
end
end EX
namespace EX
open PySem PySem.Spec L2
open PyProof.Rows hiding St
section
variable {M : Model} {A : Around} {E : Value → Shared → Prop} {env : Env} {K : PySem.W.Frag}
theorem Xw {s : Shared} {x : Sem Value} {Q : Flow → Shared → Prop} (hh : A.handled = none)
  (h : wpAny M A x (fun v s₁ => ∃ e C od, v = .ref e ∧ ExcP e C od none s₁.heap ∧ K.In s₁.heap ∧ excX K C = true ∧ E (.ref e) s₁) E s) : wpAny M A (raiseStmt env (some x) none) Q E s := by
 unfold raiseStmt
 refine wpAny_bind (wpAny_mono h (fun v s₁ h₁ => ?_) fun _ _ x => x)
 obtain ⟨e, C, od, rfl, ⟨o, vs, q1, q2, q3, q4, q5, q6⟩, KI, hx, hE⟩ := h₁
 obtain ⟨nm, qn, N, bs, bm, hdct, sn, sub, ab, col, dd, k0, k1, k2, k3, k5, hC, T⟩ := K8 KI hx
 have hcB : (Value.ref C :: bm).contains (.type "BaseException") = true := by rw [List.contains_cons, T.hasType (by decide +kernel : bmV.contains (.type "BaseException") = true), Bool.or_true]
 obtain ⟨hp, g, d, tk, os⟩ := s₁
 obtain ⟨oc, odi, oda, osl⟩ := o
 dsimp only at q2 q3 q4
 subst q2 q4
 have h6 : vs[1]? = some Value.none := q6
 repeat (first | with_reducible refine wpAny_loadPart_at q1 ?_ | with_reducible refine wpAny_loadPart_at hC ?_ | (with_reducible refine wpAny_isSubtype_exc hC ?_; rw [hcB]) | with_reducible refine wpAny_field q1 rfl h6 ?_ | wp_step)
 exact wpAny_raiseNew_none hh hE
end
end EX
namespace PV
open PySem PySem.Spec L2 EX
open PyProof.Rows hiding St
def excF (c f : Str) (ok : D → Bool) (fa : FE) : FE := fun ρ => (fa ρ).bind fun d => if ok d = true then some (.exc c [(f, d)]) else none
section
variable {X : Cx} {G : Gx} {a : Expr} {fa : FE} {np cpos pos : Pos} {C R fi : Addr} {k : Nat} {fd : FuncData} {ps : List Str} {f cx cn : Str} {c : V → Prop} {ok : D → Bool}
theorem Xy {H : Hp} {v y : V} {d : D} (r : Rep G H v d) (h : flV d = some y) : v = y := by
 cases r <;> first | (cases h; rfl) | (cases h)
theorem Wf (x : XC X.K C R) (hi : PySem.W.findIn X.K (.ref C) "__init__" = some (some (.ref fi))) (hf : PySem.W.isFn X.K (.ref fi) = true) (kp : PySem.W.keepIn X.K (.ref C) = true) (n : Dy X.K C f)
  (F : FnOk X.prog X.w X.K X.mg X.base CX0 k fi fd ps (spE X.K f c)) (hr : Room (k + 1) X.A) (hb : Binds X.K fd ps []) (hg : Gl X cx) (hm : X.mg cx = some (.ref C)) (hcl : G.xcl cn = some C) (hc : X.calm = true) (hok : ∀ d, ok d = true → ∃ y, flV d = some y ∧ c y)
  (ha : PF X G a fa) (hdb : (cx == ("__debug__" : Str)) = false := by decide) (he : starEach [a] X.env = [(false, eval a X.env)] := by rfl) (hpl : (backTo cpos (starEach [] X.env)).any (·.1) = false := by rfl) :
  PSZ X G (.Raise (some (.Call (.Name cx np) [a] [] cpos)) none pos) (retF (excF cn f ok fa)) := fun A0 He pins s σ H D I ⟨ρ, o, ⟨A, w⟩, e, k, kx⟩ => by
 unfold retF excF at e
 cases e1 : fa ρ with
 | none => simp [e1] at e
 | some d =>
  rw [e1] at e
  by_cases hd : ok d = true
  ·simp only [Option.bind_some, hd, if_true, Option.map_some] at e
   cases e
   obtain ⟨y, hy, cy⟩ := hok d hd
   have kx : Rz X G A0 He cn [(f, d)] ρ := kx cn [(f, d)] rfl
   have call : wpAny (model X.prog X.w) X.A (eval (.Call (.Name cx np) [a] [] cpos) X.env) (fun v s₁ => ∃ e C od, v = .ref e ∧ ExcP e C od none s₁.heap ∧ X.K.In s₁.heap ∧ excX X.K C = true ∧ X.xe (.ref e) s₁) X.xe s := by
    refine wpAny_Call_Name_kw (Im I hg hm ?_ hdb)
    have pa := Fx (@ha A) JT he cpos pins s σ H (fun vs H1 => vs = [y] ∧ OkW G A0 He A σ H1 ρ) I ⟨ρ, d, w.ok, e1, fun v H1 s1 r1 => ⟨by rw [Xy r1 hy], w.mono s1⟩⟩
    refine PySem.W.callWith_K (h₀ := X.base) I.ok.mod.kin kp (thn pa fun us s1 ⟨vs, H1, I1, r, ev, w1⟩ => ⟨I1.kIn, ?_⟩) he hpl
    ·subst ev
     refine thn (Z8 (Q := fun v H2 => ∃ e dx, v = .ref e ∧ H1 e = none ∧ H1 dx = none ∧ dx ≠ e ∧ H2 = upd (upd H1 dx (.xd [(f, y)])) e (excO e C (some dx) none)) x hi hf n F hr hb I1 r cy fun e dx h1 h2 h3 => ⟨e, dx, rfl, h1, h2, h3, rfl⟩) fun u s2 ⟨v2, H2, I2, r2, e, dx, ev, h1, h2, h3, eH⟩ => ?_
     subst ev eH
     obtain rfl : u = Value.ref e := r2
     refine ⟨e, C, some dx, rfl, (I2.hok e _ Cj).1, I2.kIn, x.obj, ?_⟩
     refine kx pins σ H1 _ s2 e none I2 ⟨A, w1⟩ ⟨⟨C, dx, [(f, y)], hcl, Cj, by rw [Bg h3]; exact Cj, ?_, h2⟩, fun b u q => ?_, h1, fun T z => nomatch z⟩
     ·simp [FsV, hy]
     ·rw [Bg (CT q h1), Bg (CT q h2)]; exact q
   show wpAny _ _ (exec (.Raise (some (.Call (.Name cx np) [a] [] cpos)) none pos) X.env) _ _ _
   rw [arm_exec_Raise]
   refine wpAny_bind (wpAny_standAt (Xw (K := X.K) (I.ok.hd hc) ?_))
   exact wpAny_bind (thn call fun v s1 q => wpAny_bind (wpAny_standAt (wpAny_pure q)))
  ·simp [hd] at e
end
end PV
namespace EX
open PySem PySem.Spec L2
open PyProof.Rows hiding St
abbrev Cx.mk2 (X : Cx) (e : Addr) : Cx := { X with A := X.A.mark (some (.ref e)), calm := false, xe := fun _ _ => False }
section
variable {X : Cx} {pins : List (Addr × Obj)} {σ : St} {H : Hp} {s : Shared} {e C R : Addr} {K : PySem.W.Frag}
theorem T3 (I : Inv X pins σ H s) : Inv (Cx.mk2 X e) pins σ H s :=
 ⟨⟨I.ok.mod, I.ok.kind, I.ok.glob, I.ok.blt, I.ok.above, I.ok.inj, I.ok.has, I.ok.cab, (fun z => nomatch z), I.ok.frames, I.ok.stk, I.ok.exf, I.ok.bs, I.ok.bsz, I.ok.noex, I.ok.exfs, I.ok.funs, I.ok.frf⟩, I.os, I.bare, I.base, I.loc, I.cell, I.free, I.freeC, I.pin, I.hok, I.len⟩
theorem O2 (ok : X.Ok) (I : Inv (Cx.mk2 X e) pins σ H s) : Inv X pins σ H s := ⟨ok, I.os, I.bare, I.base, I.loc, I.cell, I.free, I.freeC, I.pin, I.hok, I.len⟩
abbrev Cx.tr (X : Cx) (E : Value → Shared → Prop) (pn : List (Addr × Obj)) : Cx := { X with xe := E, pn := pn }
theorem g_ {E : Value → Shared → Prop} {pn : List (Addr × Obj)} (ok : X.Ok) : (Cx.tr X E pn).Ok := ⟨ok.mod, ok.kind, ok.glob, ok.blt, ok.above, ok.inj, ok.has, ok.cab, ok.hd, ok.frames, ok.stk, ok.exf, ok.bs, ok.bsz, ok.noex, ok.exfs, ok.funs, ok.frf⟩
theorem dq {E : Value → Shared → Prop} (I : Inv X pins σ H s) : Inv (Cx.tr X E (X.pn ++ pins)) [] σ H s := ⟨g_ I.ok, I.os, I.bare, I.base, I.loc, I.cell, I.free, I.freeC, fun p hp => I.pin p (by simpa using hp), I.hok, I.len⟩
theorem Je {E : Value → Shared → Prop} {pins' : List (Addr × Obj)} (ok : X.Ok) (I : Inv (Cx.tr X E (X.pn ++ pins)) pins' σ H s) : Inv X pins σ H s := ⟨ok, I.os, I.bare, I.base, I.loc, I.cell, I.free, I.freeC, fun p hp => I.pin p (List.mem_append_left _ hp), I.hok, I.len⟩
theorem Nv {E : Value → Shared → Prop} {pins' : List (Addr × Obj)} {D : Ends} {f : Flow} {s' : Shared} (ok : X.Ok) (h : SP (Cx.tr X E (X.pn ++ pins)) pins' D f s') : SP X pins D f s' := by
 cases f with
 | next => obtain ⟨σ', H', I, q⟩ := h; exact ⟨σ', H', Je ok I, q⟩
 | brk => obtain ⟨σ', H', I, q⟩ := h; exact ⟨σ', H', Je ok I, q⟩
 | cont => obtain ⟨σ', H', I, q⟩ := h; exact ⟨σ', H', Je ok I, q⟩
 | ret u => obtain ⟨v, σ', H', I, r, q⟩ := h; exact ⟨v, σ', H', Je ok I, r, q⟩
theorem Xz {M : Model} {A : Around} {E : Value → Shared → Prop} {Q : Unit → Shared → Prop} {od : Option Addr} {T : Addr} (I : Inv X pins σ H s) (he : H e = some (excO e C od (some T))) (ht : H T = some (tbO T .none)) (k : ∀ s', Inv X pins σ H s' → Q () s') : wpAny M A (setFlight (.ref e) none) Q E s := by
 obtain ⟨⟨o, vs, q1, q2, q3, q4, q5, q6⟩, _⟩ := I.hok e _ he
 obtain ⟨⟨oT, ts, r1, r2, r3, r4⟩, _⟩ := I.hok T _ ht
 have z3 : 3 < ts.size := (Array.getElem?_eq_some_iff.mp r3).1
 unfold setFlight
 refine wpAny_bind (wpAny_field q1 q4 q6 ?_)
 rw [if_pos (show (tbV (some T) != Value.none) = true from by simp [tbV])]
 refine wpAny_setField r1 r2 z3 (k _ ?_)
 have I1 := Kp (u' := tbO T .none) (i := 3) (v := (none : Option Addr).elim Value.none fun f => rawInt f) I ht trivial r1 r2 fun h' o' y1 y2 y3 y4 => TbP.ok ⟨o', _, y1, y4, by simp [z3], y2.trans r4⟩
 rwa [Tz ht] at I1
theorem Vv {M : Model} {A : Around} {E : Value → Shared → Prop} {Q : Unit → Shared → Prop} {i : Nat} {n : Str} {pos : Pos} (I : Inv X pins σ H s) (hN : X.N.Nodup) (hi : X.N[i]? = some n) (hk : X.env.kindOf n = some .local)
  (h : ∀ s', Inv X pins (σ.set i none) H s' → Q () s') : wpAny M A (do bindName X.env n .none; unbindBehindTheSuite X.env n pos) Q E s := by
 obtain ⟨m, hn, hl⟩ := I.loc
 have hcls : (X.env.scope.kind == .class || (X.env.scope.kind == .module && X.env.locals != X.env.globals)) = false := by rw [I.ok.kind]; rfl
 have cne := I.cne
 obtain ⟨oL, _, _, hoL, _⟩ := id hn
 refine wpAny_nameGoes_keeps hk hn hcls fun h' v hn' hs => h _ ?_
 have ne : ∀ b o, X.s₀.heap.get? b = some o → b ≠ X.env.locals := fun b o z => Nat.ne_of_lt (Nat.lt_of_lt_of_le (Heap.lt_size z) I.ok.above)
 refine ⟨I.ok, I.os, I.bare, ⟨fun b o z n hb hx => (hs.2 b (ne b o z)).trans (I.base.keep b o z n hb hx), fun b o z n hb hx => ?_, I.base.free, fun b o z hx => ?_, I.base.tups, I.base.frzs, I.base.tbls⟩, ⟨_, hn', fun j y v' e1 e2 e3 => ?_⟩, fun y c z => ?_, I.free, I.freeC, fun p hp => ?_, fun b ob z => ?_, by simpa using I.len⟩
 ·obtain ⟨sl, e1⟩ := I.base.slot b o z n hb hx
  exact ⟨sl, (hs.2 b (ne b o z)).trans e1⟩
 ·obtain ⟨o', e1⟩ := I.base.there b o z hx
  exact ⟨o', (hs.2 b (ne b o z)).trans e1⟩
 ·by_cases hj : j = i
  ·subst hj
   rw [List.getElem?_set] at e2
   split at e2
   ·split at e2 <;> cases e2
   ·rename_i z; exact absurd rfl z
  ·rw [List.getElem?_set_ne (Ne.symm hj)] at e2
   obtain ⟨u', r', q⟩ := hl j y v' e1 e2 e3
   refine ⟨u', r', ?_⟩
   rcases q with ⟨k, z⟩ | ⟨k, c, z, z'⟩
   ·refine .inl ⟨k, ?_⟩
    have : y ≠ n := fun w => hj (N5 hN e1 (w ▸ hi))
    simp [this, z]
   ·exact .inr ⟨k, c, z, z'.sameBut hs (cne y c z)⟩
 ·obtain ⟨w', z'⟩ := I.cell y c z
  exact ⟨w', z'.sameBut hs (cne y c z)⟩
 ·obtain ⟨z, n, ne, nf, d⟩ := I.pin p hp
  exact ⟨(hs.2 p.1 ne).trans z, n, ne, nf, d⟩
 ·refine (I.hok b ob z).stay (fun c w' hc q => (hs.2 c ?_).trans q) (fun _ q => q) fun _ _ q => q
  rintro rfl
  rcases hc with hc | hc
  ·rw [← hc, I.free] at z; cases z
  ·rw [I.free] at hc; cases hc
theorem Ry {M : Model} {A : Around} {E : Value → Shared → Prop} {Q : Bool → Shared → Prop} {oe : Obj} (KI : K.In s.heap) {R' : Addr} (hR : excX K R = true) (xc : XC K C R') (hRR : R = R' ∨ R = C) (he : s.heap.get? e = some oe) (hcls : oe.cls = .ref C) (hq : Q true s) :
  wpAny M A (excMatches (.ref e) (.ref R)) Q E s := by
 obtain ⟨nm, qn, N, bs, bm, hdct, sn, sub, ab, col, dd, k0, k1, k2, k3, k5, hC, T⟩ := K8 KI hR
 obtain ⟨cd, c1, c2, c3⟩ := xc.cls
 have L : PySem.W.Looks M s.heap (isSubtype (.ref C) (.ref R)) true := PySem.W.looks_subIn KI (by show PySem.W.mroIn K C _ = _; unfold PySem.W.mroIn; rw [c1, Option.bind_some, c2]; rcases hRR with rfl | rfl <;> simp)
 have hcB : (Value.ref R :: bm).contains (.type "BaseException") = true := by rw [List.contains_cons, T.hasType (by decide +kernel : bmV.contains (.type "BaseException") = true), Bool.or_true]
 have f := tc_notTuple
 obtain ⟨hp, g, d, t, os⟩ := s
 unfold excMatches
 repeat (first | (with_reducible refine wpAny_loadPart_at he ?_; rw [hcls]) | with_reducible refine wpAny_loadPart_at hC ?_ | (with_reducible refine wpAny_isSubtype_exc hC ?_; rw [hcB]) | with_reducible refine L.at ?_ | wp_step)
 exact hq
end
end EX
namespace PV
open PySem PySem.Spec L2 EX
open PyProof.Rows hiding St
def offO (i : Nat) (o : Option Out) : Option Out := match o with
 | some (.nx ρ) => some (.nx (ρ.set i .un))
 | some (.rt d ρ) => some (.rt d (ρ.set i .un))
 | _ => none
def tryO (cs : List Str) (i : Nat) (h : FS) (o : Option Out) : Option Out := match o with
 | some (.rt d ρ) => (match excOf d with
  | some (c, gs) => if cs.contains c = true then offO i (h (ρ.set i (.fz (.err c gs)))) else none
  | none => some (.rt d ρ))
 | o => o
def tryF (cs : List Str) (i : Nat) (g h : FS) : FS := fun ρ => tryO cs i h (g ρ)
section
variable {X : Cx} {G : Gx} {A0 A : List Addr} {He H : Hp} {σ : St} {ρ : Rho}
theorem OkW.unset (w : OkW G A0 He A σ H ρ) (i : Nat) : OkW G A0 He A (σ.set i none) H (ρ.set i .un) := by
 have key : ∀ (j : Nat) (z : Slot), z ≠ .un → (ρ.set i .un)[j]? = some z → j ≠ i ∧ ρ[j]? = some z := fun j z nz h => by
  by_cases hj : j = i
  ·subst hj
   rw [List.getElem?_set] at h
   split at h
   ·split at h
    ·cases h; exact absurd rfl nz
    ·cases h
   ·rename_i q; exact absurd rfl q
  ·rw [List.getElem?_set_ne (Ne.symm hj)] at h; exact ⟨hj, h⟩
 have ks : ∀ (j : Nat), j ≠ i → (σ.set i none)[j]? = σ[j]? := fun j hj => List.getElem?_set_ne (Ne.symm hj)
 refine ⟨w.same, w.sub, w.fr, w.l0, ⟨by rw [List.length_set, List.length_set]; exact w.ok.len, w.ok.live, fun j d h => ?_, fun j d h => ?_, fun j k d e a h1 h2 h3 h4 => ?_⟩, fun j d a h1 h2 => ?_, fun x d hx h0 => ?_⟩
 ·obtain ⟨hj, h⟩ := key j _ (by simp) h; rw [ks j hj]; exact w.ok.fz j d h
 ·obtain ⟨hj, h⟩ := key j _ (by simp) h; rw [ks j hj]; exact w.ok.ow j d h
 ·obtain ⟨hj, h1⟩ := key j _ (by simp) h1
  obtain ⟨hk, h2⟩ := key k _ (by simp) h2
  rw [ks j hj] at h3
  rw [ks k hk] at h4
  exact w.ok.inj j k d e a h1 h2 h3 h4
 ·obtain ⟨hj, h1⟩ := key j _ (by simp) h1
  rw [ks j hj] at h2
  exact w.ow0 j d a h1 h2
 ·obtain ⟨hj, h0⟩ := key 0 _ (by simp) h0
  rw [ks 0 hj]
  exact w.lt x d hx h0
theorem Z9 {cs : List Str} {i : Nat} {n rx : Str} {R : Addr} {body suite : List Stmt} {b0 : Stmt} {np hpos pos : Pos} {g h : FS} (hst : X.stack = X.env :: X.outer) (hf : X.env.frame = some X.env.locals) (hN : X.N.Nodup) (hi : X.N[i]? = some n) (hk : X.env.kindOf n = some .local) (hg : Gl X rx) (hm : X.mg rx = some (.ref R)) (hR : excX X.K R = true)
  (hcl : ∀ c C, cs.contains c = true → G.xcl c = some C → ∃ R', XC X.K C R' ∧ (R = R' ∨ R = C)) (hb : ∀ E pn, PSZs (Cx.tr X E pn) G body g) (hs : ∀ e, PSDs (Cx.mk2 X e) G (b0 :: suite) h) (hdb : (rx == ("__debug__" : Str)) = false := by decide) :
  PSD X G (.Try body [.ExceptHandler (some (.Name rx np)) (some n) (b0 :: suite) hpos] [] [] pos) (tryF cs i g h) := fun A0 He pins s σ H D I ⟨ρ, o, ok, e, k⟩ => by
 refine wpAny_Try_except ?_
 unfold tryF at e
 cases e1 : g ρ with
 | none => rw [e1] at e; cases e
 | some o1 =>
  rw [e1] at e
  have fin : ∀ {E' : Value → Shared → Prop} (f : Flow) (s1 : Shared), SP (Cx.tr X E' (X.pn ++ pins)) [] D f s1 → (match f with | .next => wpAny (model X.prog X.w) X.A (execs [] X.env) (SP X pins D) X.xe s1 | f => SP X pins D f s1) := fun f s1 q => by
   cases f with
   | next => exact wpAny_execs_nil (Nv I.ok q)
   | brk => exact Nv I.ok q
   | cont => exact Nv I.ok q
   | ret u => exact Nv I.ok q
  refine wpAny_mono (hb (fun e s1 => wpAny (model X.prog X.w) X.A (noteFrame e X.env) (fun _ s2 => wpAny (model X.prog X.w) X.A (setFlight e none) (fun _ s3 => wpAny (model X.prog X.w) X.A (handleBy e X.env [.ExceptHandler (some (.Name rx np)) (some n) (b0 :: suite) hpos]) (SP X pins D) X.xe s3) X.xe s2) X.xe s1) (X.pn ++ pins) He [] s σ H D (dq I) ⟨ρ, o1, ok, e1, ?_, ?_⟩) (fun f s1 q => fin f s1 q) fun e s1 q => q
  ·cases o1 with
   | nx ρ' => cases e; exact k
   | bk ρ' => cases e; exact k
   | ct ρ' => cases e; exact k
   | rt d ρ' =>
    cases e2 : excOf d with
    | none => simp only [tryO, e2] at e; cases e; exact k
    | some q => exact fun v σ' H' A w r => absurd e2 (by rw [MJ r]; simp)
  ·cases o1 with
   | nx ρ' => trivial
   | bk ρ' => trivial
   | ct ρ' => trivial
   | rt d ρ' =>
    intro c gs e2 pins' σ1 H1 H2 s2 ea tb I2 ⟨A1, w1⟩ x
    simp only [tryO, e2] at e
    by_cases hc : cs.contains c = true
    ·rw [if_pos hc] at e
     have I2 := Je I.ok I2
     refine Oz hst hf I2 x fun T H3 s3 I3 x3 => ?_
     obtain ⟨C, dx, fs, y1, y2, y3, y4, y5⟩ := x3.ex
     obtain ⟨R', xc, hRR⟩ := hcl c C hc y1
     have w3 := w1.mono x3.same
     obtain ⟨⟨oe, vs, q1, q2, q3, q4, q5, q6⟩, _⟩ := I3.hok ea _ y2
     refine wpAny_handleBy_cons (codeAny_handlers_test ?_) (by intro q; cases q)
     refine Im (X := Cx.mk2 X ea) (T3 I3) hg hm ?_ hdb
     refine Ry I3.kIn hR xc hRR q1 q2 ?_
     refine codeAny_handlers_suite_as (Xz I3 y2 (x3.tbk T rfl).1 fun s4 I4 => ?_)
     have noA : ∀ b, H1 b = none → b ∉ A1 := fun b z q => (w1.ok.live b q).ne z
     have rp : Rep G (hid A1 H3) (.ref ea) (.err c gs) := .err y1 (by rw [Dt (noA ea x3.new)]; exact y2) (by rw [Dt (noA dx y5)]; exact y3) y4
     refine IV (X := Cx.mk2 X ea) (T3 I4) hN hi (Or.inl hk) (show RelV (.ref ea) (.ref ea) from rfl) (fun s5 I5 => ?_) (.inr hk)
     cases e5 : h (ρ'.set i (.fz (.err c gs))) with
     | none => rw [e5] at e; cases e
     | some o5 =>
      rw [e5] at e
      refine wpAny_mono (hs ea He pins s5 _ H3 { nx := fun σ' H' => D.nx (σ'.set i none) H', rt := D.rt } I5 ⟨_, o5, ⟨A1, w3.set rp i⟩, e5, ?_⟩) (fun f s6 q => ?_) fun _ _ z => z.elim
      ·cases o5 with
       | nx ρ5 => cases e; exact fun σ6 H6 ⟨A6, w6⟩ => k _ _ ⟨A6, w6.unset i⟩
       | rt d5 ρ5 => cases e; exact fun v σ6 H6 A6 w6 r6 => k v _ H6 A6 (w6.unset i) r6
       | bk ρ5 => cases e
       | ct ρ5 => cases e
      ·cases f with
       | next =>
        obtain ⟨σ6, H6, I6, q⟩ := q
        exact Vv (O2 I.ok I6) hN hi hk fun s7 I7 => ⟨_, H6, I7, q⟩
       | ret u =>
        obtain ⟨v, σ6, H6, I6, r, q⟩ := q
        exact Vv (O2 I.ok I6) hN hi hk fun s7 I7 => ⟨v, _, H6, I7, r, q⟩
       | brk => obtain ⟨_, _, _, q⟩ := q; exact q.elim
       | cont => obtain ⟨_, _, _, q⟩ := q; exact q.elim
    ·rw [if_neg hc] at e; cases e
end
end PV
namespace EX
open PySem PySem.W PySem.Spec PyProof.Rows PySem.Calls
section
variable {prog : Program} {w : World} {A : Around} {E : Value → Shared → Prop} {s : Shared} {K : Frag} {x C : Addr} {ox : Obj} {od : Obj}
structure XK2 (K : Frag) (C : Addr) : Prop where
 ha : findIn K (.ref C) "__class__" = some (some (.builtin "object.__class__"))
 hn : specialIn K (.builtin "object.__class__") "__get__" = some (some (.builtin "getset_descriptor.__get__"))
 htk : takesIn K (.builtin "object.__class__") = some true
end
end EX
namespace PV
open PySem PySem.Spec L2 EX
open PyProof.Rows hiding St
structure XT (G : Gx) (cs : List Str) (R : Addr) : Prop where
 xc : ∀ c C, cs.contains c = true → G.xcl c = some C → XC G.K C R
 xk : ∀ c C, cs.contains c = true → G.xcl c = some C → XK2 G.K C
section
variable {X : Cx} {G : Gx} {a sp : Expr} {es : List Expr} {fa : FE} {pos p : Pos} {cs ns : List Str} {cv : List Value} {R : Addr} {Cs : List Addr}
def fldE (cs : List Str) (f : Str) : D → Option D
 | .err c gs => if cs.contains c = true then gs.lookup f else none
 | _ => none
theorem Z_ {fs : List (Str × V)} {gs : List (Str × D)} {f : Str} {d : D} (h : FsV fs gs) (l : gs.lookup f = some d) : ∃ y, fs.lookup f = some y ∧ flV d = some y := by
 unfold FsV at h
 induction fs generalizing gs with
 | nil => cases gs with
  | nil => cases l
  | cons q t => cases h
 | cons q t ih =>
  cases gs with
  | nil => cases l
  | cons q' t' =>
   obtain ⟨k, v⟩ := q; obtain ⟨k', v'⟩ := q'
   simp only [List.map_cons, List.cons.injEq, Prod.mk.injEq] at h
   obtain ⟨⟨rfl, h1⟩, h2⟩ := h
   simp only [List.lookup] at l ⊢
   split at l
   ·cases l; exact ⟨v, rfl, h1.symm⟩
   ·exact ih h2 l
theorem X3 {H : Hp} {d : D} {y : V} (h : flV d = some y) : Rep G H y d := by
 cases d <;> first | (cases h; constructor) | cases h
theorem aA {f : Str} (hG : G.K = X.K) (t : XT G cs R) (ha : PF X G a fa) (n : ∀ c C, cs.contains c = true → G.xcl c = some C → Dy G.K C f)
  (hb : attributeBase a f X.env (eval a X.env) = eval a X.env := by rfl) :
  PF X G (.Attribute a f pos) (uF (fldE cs f) fa) := fun A pins s σ H Q I ⟨ρ, d, o, e, k⟩ => by
 unfold uF at e
 cases e1 : fa ρ with
 | none => simp [e1] at e
 | some d0 =>
  rw [e1] at e
  have e2 : fldE cs f d0 = some d := e
  refine U7 hb (thn (@ha A pins s σ H (fun v H1 => Same H H1 ∧ Rep G (hid A H1) v d0) I ⟨ρ, d0, o, e1, fun v H1 s1 r1 => ⟨s1, r1⟩⟩) fun u s1 ⟨v, H1, I1, rv, s1', rp⟩ => ?_)
  cases rp with
  | @err ae C dx tb c fs gs hC h1 h2 h3 =>
   obtain rfl := (show u = Value.ref ae from rv)
   have e' : (if cs.contains c = true then gs.lookup f else none) = some d := e2
   split at e'
   ·rename_i hc
    obtain ⟨y, l1, l2⟩ := Z_ h3 e'
    exact Z4 I1 (DQ _ _ h1) (DQ _ _ h2) (hG ▸ t.xc c C hc hC) (hG ▸ n c C hc hC) l1 fun u' s2 I2 ru => ⟨y, H1, I2, ru, k y H1 s1' (X3 l2)⟩
   ·cases e'
  | _ => cases e2
end
end PV
namespace PV
open PySem PySem.Spec
section
variable {prog : Program} {w : World} {A : Around} {E : Value → Shared → Prop} {s : Shared} {T : String} {r d : Addr} {n : Nat} {P : Nat → Value → Prop} {OK : Heap → Prop}
end
section
variable {prog : Program} {w : World} {A : Around} {E : Value → Shared → Prop} {s : Shared} {q : Addr}
end
open L2
section
variable {X : Cx} {G : Gx} {a : Expr} {fa : FE} {pos p : Pos}
end
end PV
namespace PV
open PySem PySem.Spec L2 EX
open PyProof.Rows hiding St
theorem h_ {P : Program} {w : World} {G : Gx} {mg : Str → Option Value} {base : Heap} {x qual : Str} {st : Stmt} {f : Addr} {fd : FuncData} {N ps : List Str} {k : Nat} {b : FS} (F : FunD G.K x qual st f fd) (S : FnScope N ps (Ae st)) (hl : ps.length ≤ N.length)
  (hb : ∀ (cdv : Value) (A : Around) (outer : List Env) (s : Shared) (H : Hp) (E : XK), Room k (A.deeper (envOfC qual (Ae st) s.heap.objs.size f cdv)) → PSZs (cxOf (CX1 P w) P w G.K mg base N qual (Ae st) f cdv A outer s H E) G (DG st) b) :
  FnOk P w G.K mg base (CX1 P w) (k + 1) f fd ps (spZ G (runF N.length ps.length b)) := by
 obtain ⟨oc, od, dV, kV, doc, pm, an, cdv, ct, osl, rfl, lk, hcd⟩ := F.ex
 refine U9 lk hcd S (fun vs H Q E h => ?_) (fun A outer s H vs Q E hr h => ?_)
 ·obtain ⟨A, ds, d, lv, r, e, _⟩ := h
  unfold runF at e
  split at e
  ·rename_i hz; rw [r.1]; exact hz
  ·cases e
 ·obtain ⟨A0, ds, d, lv, r, e, k, kx⟩ := h
  unfold runF at e
  split at e
  ·rename_i hz
   have hzz := hb cdv A outer s H E hr
   refine ⟨_, @hzz A0 H, Fy N.length ds, ?_⟩
   cases e1 : b (Fy N.length ds) with
   | none => simp [e1] at e
   | some o =>
    refine ⟨o, Oo lv r (by rw [r.1, hz]; exact hl), rfl, ?_⟩
    cases o with
    | nx ρ =>
     simp only [e1] at e
     cases e
     exact ⟨fun σ H' ⟨A, w⟩ => k _ H' w.same .non, trivial⟩
    | rt d' ρ' =>
     simp only [e1] at e
     cases e
     exact ⟨fun v σ H' A w r' => k v H' w.same (r'.mono (Ff w.sub)), di kx⟩
    | bk ρ => simp [e1] at e
    | ct ρ => simp [e1] at e
  ·cases e
def okSD : D → Bool
 | .str z => decide (z.length ≤ 100000) && z.cps.toList.all fun c => decide (c < 4294967296)
 | _ => false
theorem Jt (d : D) (h : okSD d = true) : ∃ y, flV d = some y ∧ okS y := by
 cases d with
 | str z =>
  simp only [okSD, Bool.and_eq_true, decide_eq_true_eq, List.all_eq_true] at h
  exact ⟨_, rfl, z, rfl, h.1, h.2⟩
 | _ => cases h
structure Mx (K : PySem.W.Frag) (C : Addr) (m qual : Str) (st : Stmt) (ps : List Str) where
 f : Addr
 fd : FuncData
 F : Fun K m qual st f fd
 B : Binds K fd ps []
 me : Meth K C m f
structure Rx (K : PySem.W.Frag) (mg : Str → Option Value) (rn : Str) where
 R : Addr
 m : mg rn = some (.ref R)
 x : excX K R = true
 h1 : PySem.W.specialIn K (.ref R) "__getattribute__" = some (some (.builtin "type.__getattribute__"))
 h2 : PySem.W.readsIn K R (.type "type") = true
 h3 : PySem.W.findCls K (.ref R) (.type "type") "__init__" = some (.val (.builtin "ValueError.__init__"))
structure Xx (G : Gx) (mg : Str → Option Value) (R : Addr) (cn f qual : Str) (st : Stmt) (ps : List Str) where
 C : Addr
 fi : Addr
 fd : FuncData
 g : G.xcl cn = some C
 xc : XC G.K C R
 hi : PySem.W.findIn G.K (.ref C) "__init__" = some (some (.ref fi))
 hf : PySem.W.isFn G.K (.ref fi) = true
 kp : PySem.W.keepIn G.K (.ref C) = true
 na : Dy G.K C f
 m : mg cn = some (.ref C)
 F : Fun G.K "__init__" qual st fi fd
 B : Binds G.K fd ps []
section
variable {X : Cx} {G : Gx} {a ob : Expr} {es : List Expr} {fs : FA} {fa fo : FE} {pos p np cpos apos : Pos}
theorem fZ {k k' : Nat} {x : Str} {st : Stmt} {ps : List Str} {d : Dx X.K X.mg x st ps} {g : List D → Option D} (F : FnOk X.prog X.w X.K X.mg X.base (CX1 X.prog X.w) k d.f d.fd ps (spZ G g)) (hr : Room k' X.A) (ha : PFA X G (a :: es) fs) (hle : k ≤ k' := by omega) (hg : Gl X x := by rfl) (hdb : (x == ("__debug__" : Str)) = false := by decide)
  (he : starEach (a :: es) X.env = (false, eval a X.env) :: starEach es X.env := by rfl) (hpl : (backTo pos (starEach es X.env)).any (·.1) = false := by rfl) : PFZ X G (.Call (.Name x p) (a :: es) [] pos) (Cr g fs) := dh F (hr.mono hle) hg d.m d.F.kp d.B ha hdb he hpl
theorem rZ {R : Addr} {cn f qual : Str} {st : Stmt} {ps : List Str} {x : Xx G X.mg R cn f qual st ps} {k k' : Nat} {c : V → Prop} {ok : D → Bool} (F : FnOk X.prog X.w X.K X.mg X.base CX0 k x.fi x.fd ps (spE X.K f c)) (hr : Room k' X.A) (hok : ∀ d, ok d = true → ∃ y, flV d = some y ∧ c y) (ha : PF X G a fa) (hle : k + 1 ≤ k' := by omega) (hG : G.K = X.K := by rfl) (hg : Gl X cn := by rfl) (hc : X.calm = true := by rfl)
  (hdb : (cn == ("__debug__" : Str)) = false := by decide) (he : starEach [a] X.env = [(false, eval a X.env)] := by rfl) (hpl : (backTo cpos (starEach [] X.env)).any (·.1) = false := by rfl) : PSZ X G (.Raise (some (.Call (.Name cn np) [a] [] cpos)) none pos) (retF (excF cn f ok fa)) :=
 Wf (hG ▸ x.xc) (hG ▸ x.hi) (hG ▸ x.hf) (hG ▸ x.kp) (hG ▸ x.na) F (hr.mono hle) (hG ▸ x.B) hg x.m x.g hc hok ha hdb he hpl
theorem sZ (hN : X.N.Nodup) (i : Nat) {x : Str} (ha : PFZ X G a fa) (hi : X.N[i]? = some x := by rfl) (hx : Loc X.env.scope x := by first | exact Or.inl rfl | exact Or.inr rfl) (hs : swapsWith a (some (.Name x p)) pos.line X.env = pure false := by rfl)
  (hf : X.fn x = true ∨ X.env.scope.names.lookup x = some .local := by first | exact .inl rfl | exact .inr rfl | assumption) : PSZ X G (.Assign [.Name x p] a pos) (setZ i fa) := Z0 (fun _ h => N7 hN hi hx h hs hf) ha
end
section
variable {mg : Str → Option Value} {x : Str} {st : Stmt} {ps : List Str} {P : Program} {w : World} {G : Gx} {base : Heap} {N : List Str} {k : Nat} {b : FS}
theorem fnZ (d : Dx G.K mg x st ps) (S : FnScope N ps (Ae st))
  (hb : ∀ (cdv : Value) (A : Around) (outer : List Env) (s : Shared) (H : Hp) (E : XK), Room k (A.deeper (envOfC x (Ae st) s.heap.objs.size d.f cdv)) → PSZs (cxOf (CX1 P w) P w G.K mg base N x (Ae st) d.f cdv A outer s H E) G (DG st) b) (hl : ps.length ≤ N.length := by decide) :
  FnOk P w G.K mg base (CX1 P w) (k + 1) d.f d.fd ps (spZ G (runF N.length ps.length b)) := h_ d.F S hl hb
end
end PV
namespace PV
open PySem PySem.Spec L2 EX
open PyProof.Rows hiding St
def gx2 (K : PySem.W.Frag) (cn : Str) (C : Addr) (l : List (Str × Addr)) : Gx := { K := K, cl := fun c => if c = cn then some C else none, xcl := fun c => l.lookup c }
section
variable {K : PySem.W.Frag} {h : Heap} {mg : Str → Option Value} {x qual cn m : Str} {st : Stmt} {ps : List Str} {f C R : Addr} {oc : Value} {od an : Option Addr} {osl : Array (Option Value)} {dV kV doc pm cdv ct : Value} {l : List (Str × Addr)}
theorem du : (gx2 K cn C l).cl cn = some C := if_pos rfl
theorem X4 (X : K.In h) (cl : Cls K C) (n : PySem.W.findIn K (.ref C) x = some none) : ∀ c C', (gx2 K cn C l).cl c = some C' → Cls K C' ∧ Dy K C' x := fun c C' h => by
 unfold gx2 at h
 simp only at h
 split at h
 ·cases h; exact ⟨cl, n⟩
 ·cases h
theorem R0 {P : Addr → Prop} : ∀ {l : List (Str × Addr)}, (∀ p ∈ l, P p.2) → ∀ {c : Str} {C : Addr}, l.lookup c = some C → P C
 | [], _, _, _, h => nomatch h
 | (k, v) :: r, hp, c, C, h => by
  simp only [List.lookup] at h
  split at h
  ·cases h; exact hp (k, v) List.mem_cons_self
  ·exact R0 (fun p hm => hp p (List.mem_cons_of_mem _ hm)) h
theorem dw {cs : List Str} (X : K.In h) (hp : ∀ p ∈ l, XC K p.2 R ∧ XK2 K p.2) : XT (gx2 K cn C l) cs R := ⟨fun c C' _ g => (R0 (P := fun C => XC K C R ∧ XK2 K C) hp g).1, fun c C' _ g => (R0 (P := fun C => XC K C R ∧ XK2 K C) hp g).2⟩
theorem dz {cs : List Str} (X : K.In h) (hp : ∀ p ∈ l, PySem.W.findIn K (.ref p.2) x = some none) : ∀ c C', cs.contains c = true → (gx2 K cn C l).xcl c = some C' → Dy (gx2 K cn C l).K C' x := fun c C' _ g => R0 (P := fun C => PySem.W.findIn K (.ref C) x = some none) hp g
def kx2 {g : Addr} {n : Nat} {its : Array Value} {xs : List Str} (X : K.In h) (N : h.Ns mainGlobals mg) (a : PySem.W.nsIn K mainGlobals x = some (some (.ref g))) (lk : K.lookup g = some ⟨.type "tuple", od, .seq its n, osl⟩) (hz : its.size ≤ sizeLine) (r : Vals (xs.map V.str) its.toList) : Kx (gx2 K cn C l) mg x (.tup (xs.map .str)) := ⟨g, PySem.W.mg_of X N a, QW lk hz r⟩
def mx (X : K.In h) (a : PySem.W.findIn K (.ref C) m = some (some (.ref f))) (i : PySem.W.isFn K (.ref f) = true) (lk : K.lookup f = some ⟨oc, od, .func (PySem.W.fnOf m qual (Ea st) (DG st) (Ae st) .none kV doc pm an cdv ct), osl⟩) (c : PySem.W.codeIn K cdv qual = true) (k : PySem.W.keepIn K (.ref f) = true)
  (b : ∀ (kV doc pm : Value) (an : Option Addr) (cdv ct : Value) (us : List Value), us.length = ps.length → bindArgs (PySem.W.fnOf m qual (Ea st) (DG st) (Ae st) .none kV doc pm an cdv ct) ⟨us, []⟩ = pure (ps.zip us)) : Mx K C m qual st ps := ⟨f, _, KQ lk c k, (KQ lk c k).binds b, a, i, k⟩
def rx (X : K.In h) (N : h.Ns mainGlobals mg) (a : PySem.W.nsIn K mainGlobals x = some (some (.ref R))) (e : excX K R = true) (h1 : PySem.W.specialIn K (.ref R) "__getattribute__" = some (some (.builtin "type.__getattribute__"))) (h2 : PySem.W.readsIn K R (.type "type") = true)
  (h3 : PySem.W.findCls K (.ref R) (.type "type") "__init__" = some (.val (.builtin "ValueError.__init__"))) : Rx K mg x := ⟨R, PySem.W.mg_of X N a, e, h1, h2, h3⟩
def xx {fn : Str} {fi : Addr} (X : K.In h) (N : h.Ns mainGlobals mg) (a : PySem.W.nsIn K mainGlobals x = some (some (.ref f))) (g : l.lookup x = some f) (xc : XC K f R) (hi : PySem.W.findIn K (.ref f) "__init__" = some (some (.ref fi))) (i : PySem.W.isFn K (.ref fi) = true) (kp : PySem.W.keepIn K (.ref f) = true) (na : PySem.W.findIn K (.ref f) fn = some none)
  (lk : K.lookup fi = some ⟨oc, od, .func (PySem.W.fnOf "__init__" qual (Ea st) (DG st) (Ae st) .none kV doc pm an cdv ct), osl⟩) (c : PySem.W.codeIn K cdv qual = true) (k : PySem.W.keepIn K (.ref fi) = true)
  (b : ∀ (kV doc pm : Value) (an : Option Addr) (cdv ct : Value) (us : List Value), us.length = ps.length → bindArgs (PySem.W.fnOf "__init__" qual (Ea st) (DG st) (Ae st) .none kV doc pm an cdv ct) ⟨us, []⟩ = pure (ps.zip us)) : Xx (gx2 K cn C l) mg R x fn qual st ps := ⟨f, fi, _, g, xc, hi, i, kp, na, PySem.W.mg_of X N a, KQ lk c k, (KQ lk c k).binds b⟩
end
end PV
namespace PV
open PySem PySem.Spec L2
open PyProof.Rows hiding St
section
variable {X : Cx} {G : Gx} {b : Expr} {fb : FE} {pos p1 : Pos} {es : List Expr} {fs : FA}
end
end PV
namespace PV
open PySem PySem.Spec L2 EX
open PyProof.Rows hiding St
def XWS (G : Gx) (x : Addr) (A : List Addr) (H : Hp) (d so' : D) (E : XK) : Prop := ∀ c gs, excOf d = some (c, gs) → ∀ e T H1 H', Mm x H H1 → Top G A H1 x so' → Exc G H1 H' e (some T) c gs → E (.ref e) none H'
def spSZ (G : Gx) (g : List D → Option (D × D)) : Sp := fun vs H Q E => ∃ A x vs' so ds d so', vs = .ref x :: vs' ∧ (∀ a ∈ A, Nt (H a)) ∧ x ∈ A ∧ Top G A H x so ∧ RepL G (hid A H) vs' ds ∧ g (so :: ds) = some (d, so') ∧
 (∀ v H', Mm x H H' → Top G A H' x so' → Rep G (hid A H') v d → Q v H') ∧ XWS G x A H d so' E
theorem Exc.lend {G : Gx} {x : Addr} {He H : Hp} {e : Addr} {tb : Option Addr} {c : Str} {gs : List (Str × D)} (y : Exc G He H e tb c gs) : Exc (G.lend x) He H e tb c gs := ⟨y.ex, y.same, y.new, y.tbk⟩
theorem Exc.unlend {G : Gx} {x : Addr} {He H : Hp} {e : Addr} {tb : Option Addr} {c : Str} {gs : List (Str × D)} (y : Exc (G.lend x) He H e tb c gs) : Exc G He H e tb c gs := ⟨y.ex, y.same, y.new, y.tbk⟩
theorem Dn {P : Program} {w : World} {K : PySem.W.Frag} {mg : Str → Option Value} {base : Heap} {CX : CXT} {k : Nat} {f : Addr} {fd : FuncData} {ps : List Str} {G : Gx} {g : List D → Option (D × D)} {y : Addr} (F : FnOk P w K mg base CX k f fd ps (spSZ G g)) : FnOk P w K mg base CX k f fd ps (spSZ (G.lend y) g) :=
 F.imp fun vs H Q E ⟨A, x, vs', so, ds, d, so', e0, lv, hx, t, r, e, q, qx⟩ => ⟨A, x, vs', so, ds, d, so', e0, lv, hx, t.unlend, r.unlend, e, fun v H' s t' r' => q v H' s t'.lend r'.lend, fun c gs z e T H1 H' sx t' y => qx c gs z e T H1 H' sx t'.lend y.lend⟩
theorem Wg {P : Program} {w : World} {K : PySem.W.Frag} {mg : Str → Option Value} {base : Heap} {CX : CXT} {k : Nat} {f : Addr} {fd : FuncData} {ps : List Str} {G : Gx} : FnOk P w K mg base CX k f fd ps (spSZ G fun _ => none) :=
 ⟨fun vs H Q E ⟨_, _, _, _, _, _, _, _, _, _, _, _, e, _⟩ => (nomatch e), fun A outer s H args us vs Q E hr he hb hv ⟨_, _, _, _, _, _, _, _, _, _, _, _, e, _⟩ => nomatch e⟩
def Xx.lend {G : Gx} {mg : Str → Option Value} {R y : Addr} {cn f qual : Str} {st : Stmt} {ps : List Str} (x : Xx G mg R cn f qual st ps) : Xx (G.lend y) mg R cn f qual st ps := ⟨x.C, x.fi, x.fd, x.g, x.xc, x.hi, x.hf, x.kp, x.na, x.m, x.F, x.B⟩
theorem aB {P : Program} {w : World} {G : Gx} {mg : Str → Option Value} {base : Heap} {N : List Str} {qual : Str} {scope : Scope} {f : Addr} {cd : Value} {A : Around} {outer : List Env} {s : Shared} {H : Hp} {E : XK} {A1 : List Addr} {x : Addr} {d so' : D} {ρ : Rho} (h : XWS G x A1 H d so' E) (he : endS d ρ = some (d, so')) :
  RzO (cxOf (CX1 P w) P w G.K mg base N qual scope f cd A outer s H E) (G.lend x) (A1.filter fun b => decide (b ≠ x)) (hid [x] H) d ρ := fun c gs z pins σ H1 H2 s2 e tb I ⟨A2, ok⟩ y => by
 show wpAny _ _ (leaving _ _) _ _ _
 unfold leaving
 refine wpAny_bind (Oz (G := G.lend x) (X := cxOf (CX1 P w) P w G.K mg base N qual scope f cd A outer s H E) rfl rfl I y fun T H' s' I' y' => ?_)
 obtain ⟨_, h0⟩ := Js he
 obtain ⟨a, q1, q2, q3⟩ := ok.ok.ow 0 so' h0
 rw [ok.lt x so' rfl h0] at q1
 cases q1
 have sub : ∀ a ∈ A1, a ∈ A2 := fun a ha => by
  by_cases z : a = x
  ·rw [z]; exact q2
  ·exact ok.sub a (by simp [List.mem_filter, ha, z])
 exact ⟨e, H', rfl, I'.os, I'.bare, I'.base, I'.hok, h c gs z e T H1 H' (fun b o hb ho => ok.same b o (by rw [Dt (by simpa using hb)]; exact ho)) (q3.unlend.sub sub) y'.unlend⟩
theorem O3 {P : Program} {w : World} {G : Gx} {mg : Str → Option Value} {base : Heap} {x qual : Str} {st : Stmt} {f : Addr} {fd : FuncData} {N ps : List Str} {k : Nat} {b : FS} (F : FunD G.K x qual st f fd) (S : FnScope N ps (Ae st)) (hl : ps.length ≤ N.length)
  (hb : ∀ (y : Addr) (cdv : Value) (A : Around) (outer : List Env) (s : Shared) (H : Hp) (E : XK), Room k (A.deeper (envOfC qual (Ae st) s.heap.objs.size f cdv)) → PSZs (cxOf (CX1 P w) P w G.K mg base N qual (Ae st) f cdv A outer s H E) (G.lend y) (DG st) b) :
  FnOk P w G.K mg base (CX1 P w) (k + 1) f fd ps (spSZ G (runS N.length ps.length b)) := by
 obtain ⟨oc, od, dV, kV, doc, pm, an, cdv, ct, osl, rfl, lk, hcd⟩ := F.ex
 refine U9 lk hcd S (fun vs H Q E h => ?_) (fun A outer s H vs Q E hr h => ?_)
 ·obtain ⟨A, x, vs', so, ds, d, so', rfl, lv, hx, t, r, e, _⟩ := h
  unfold runS at e
  split at e
  ·rename_i hz; rw [List.length_cons, r.1]; exact hz
  ·cases e
 ·obtain ⟨A1, x, vs', so, ds, d, so', rfl, lv, hx, t, r, e, k, kx⟩ := h
  unfold runS at e
  split at e
  ·rename_i hz
   have hzz := hb x cdv A outer s H E hr
   refine ⟨_, @hzz (A1.filter fun b => decide (b ≠ x)) (hid [x] H), Hy N.length (so :: ds), ?_⟩
   have fin : ∀ (σ' : St) (H' : Hp) (A2 : List Addr) (ρ : Rho) (v : V) (d2 : D), OkW (G.lend x) (A1.filter fun b => decide (b ≠ x)) (hid [x] H) A2 σ' H' ρ → Rep (G.lend x) (hid A2 H') v d2 → endS d2 ρ = some (d, so') → Q v H' := fun σ' H' A2 ρ v d2 w rv he => by
    obtain ⟨rfl, h0⟩ := Js he
    obtain ⟨a, q1, q2, q3⟩ := w.ok.ow 0 so' h0
    rw [w.lt x so' rfl h0] at q1
    cases q1
    have sub : ∀ a ∈ A1, a ∈ A2 := fun a ha => by
     by_cases z : a = x
     ·rw [z]; exact q2
     ·exact w.sub a (by simp [List.mem_filter, ha, z])
    exact k v H' (fun b o hb ho => w.same b o (by rw [Dt (by simpa using hb)]; exact ho)) (q3.unlend.sub sub) (rv.unlend.mono (Ff sub))
   cases e1 : b (Hy N.length (so :: ds)) with
   | none => simp [e1] at e
   | some o =>
    refine ⟨o, ⟨_, Qa lv hx t r (by rw [r.1]; simp at hz; omega)⟩, rfl, ?_⟩
    cases o with
    | nx ρ =>
     simp only [e1] at e
     exact ⟨fun σ H' ⟨A, w⟩ => fin σ H' A ρ .non .non w .non e, trivial⟩
    | rt d' ρ' =>
     simp only [e1] at e
     obtain ⟨ed, _⟩ := Js e
     subst ed
     exact ⟨fun v σ H' A w r' => fin σ H' A ρ' v d w r' e, aB kx e⟩
    | bk ρ => simp [e1] at e
    | ct ρ => simp [e1] at e
  ·cases e
def tXZ (X : Cx) (G : Gx) (A0 : List Addr) (He : Hp) (h : FZ) : TE := fun σ H Q => ∃ ρ d ρ' A, OkW G A0 He A σ H ρ ∧ h ρ = some (d, ρ') ∧ (∀ v H' A', OkW G A0 He A' σ H' ρ' → Same (hid A H) (hid A' H') → Rep G (hid A' H') v d → Q v H') ∧ RzO X G A0 He d ρ'
def PXZ (X : Cx) (G : Gx) (e : Expr) (h : FZ) : Prop := ∀ ⦃A0⦄ He, PE X e (tXZ X G A0 He h)
def excL (ds : List D) : Option (Str × List (Str × D)) := ds.findSome? excOf
def tXAZ (X : Cx) (G : Gx) (A0 : List Addr) (He : Hp) (h : FZA) : TA := fun σ H Q => ∃ ρ ds ρ' A, OkW G A0 He A σ H ρ ∧ h ρ = some (ds, ρ') ∧ (∀ vs H' A', OkW G A0 He A' σ H' ρ' → Same (hid A H) (hid A' H') → RepL G (hid A' H') vs ds → Q vs H') ∧ ∀ c gs, excL ds = some (c, gs) → Rz X G A0 He c gs ρ'
def PXAZ (X : Cx) (G : Gx) (es : List Expr) (h : FZA) : Prop := ∀ ⦃A0⦄ He, PA X es (tXAZ X G A0 He h)
def GR (h : FZ) : FS := fun ρ => (h ρ).map fun r => match excOf r.1 with | some _ => .rt r.1 r.2 | none => .nx r.2
def J2 (i : Nat) (h : FZ) : FS := fun ρ => (h ρ).map fun r => match excOf r.1 with | some _ => .rt r.1 r.2 | none => .nx (r.2.set i (.fz r.1))
def Qd (h : FZA) : FZ := fun ρ => (h ρ).bind fun r => match excL r.1 with | some q => some (.exc q.1 q.2, r.2) | none => if r.1.length ≤ sizeLine then some (.tup r.1, r.2) else none
section
variable {X : Cx} {G : Gx} {a b c : Expr} {fa fb fc : FE} {pos p2 px rp p apos : Pos} {es : List Expr} {fs : FA} {h : FZ} {hs : FZA} {A0 : List Addr} {He : Hp}
theorem PX.x (ha : PX X G a h) : PXZ X G a h := fun A0 He pins s σ H Q I ⟨ρ, d, ρ', A, w, e, k, _⟩ => @ha A0 He pins s σ H Q I ⟨ρ, d, ρ', A, w, e, k⟩
theorem I_ (ha : PXZ X G a h) : PSZ X G (.Return (some a) pos) (retX h) := fun A0 He pins s σ H D I ⟨ρ, o, ⟨A, w⟩, e, k, kx⟩ => by
 refine Wo (@ha A0 He) pins s σ H D I ?_
 unfold retX at e
 cases e1 : h ρ with
 | none => simp [e1] at e
 | some r =>
  simp only [e1, Option.map_some] at e
  cases e
  exact ⟨ρ, _, _, A, w, e1, fun v H' A' w' sm rv => k v σ H' A' w' rv, kx⟩
theorem FJ (ha : PXZ X G a h) (hs : swapsWith a none pos.line X.env = pure false := by rfl) : PSZ X G (.Expr a pos) (GR h) := fun A0 He pins s σ H D I ⟨ρ, o, ⟨A, w⟩, e, k, kx⟩ => by
 refine U0 (@ha A0 He) hs pins s σ H D I ?_
 unfold GR at e
 cases e1 : h ρ with
 | none => simp [e1] at e
 | some r =>
  simp only [e1, Option.map_some] at e
  cases e2 : excOf r.1 with
  | none =>
   simp only [e2] at e
   cases e
   exact ⟨ρ, _, _, A, w, e1, fun v H' A' w' sm rv => k _ _ ⟨A', w'⟩, fun c gs z => by rw [e2] at z; cases z⟩
  | some q =>
   simp only [e2] at e
   cases e
   exact ⟨ρ, _, _, A, w, e1, fun v H' A' w' sm rv => absurd e2 (by rw [MJ rv]; simp), kx⟩
theorem aC {i : Nat} {x : Str} (hp : ∀ te, PE X a te → PS X (.Assign [.Name x p] a pos) (tAsg te (IW i))) (ha : PXZ X G a h) : PSZ X G (.Assign [.Name x p] a pos) (J2 i h) := fun A0 He pins s σ H D I ⟨ρ, o, ⟨A, w⟩, e, k, kx⟩ => by
 refine hp _ (@ha A0 He) pins s σ H D I ?_
 unfold J2 at e
 cases e1 : h ρ with
 | none => simp [e1] at e
 | some r =>
  simp only [e1, Option.map_some] at e
  cases e2 : excOf r.1 with
  | none =>
   simp only [e2] at e
   cases e
   exact ⟨ρ, _, _, A, w, e1, fun v H' A' w' sm rv => k _ _ ⟨A', w'.set rv i⟩, fun c gs z => by rw [e2] at z; cases z⟩
  | some q =>
   simp only [e2] at e
   cases e
   exact ⟨ρ, _, _, A, w, e1, fun v H' A' w' sm rv => absurd e2 (by rw [MJ rv]; simp), kx⟩
theorem MK (ha : PXZ X G a h) (hst : starEach [a] X.env = [(false, eval a X.env)] := by rfl) : PXAZ X G [a] (QS h) := fun A0 He pos pins s σ H Q I ⟨ρ, ds, ρ', A, w, e, k, kx⟩ => by
 refine Fx (@ha A0 He) JT hst pos pins s σ H Q I ?_
 unfold QS at e
 cases e1 : h ρ with
 | none => simp [e1] at e
 | some r =>
  simp only [e1, Option.map_some] at e
  cases e
  exact ⟨ρ, _, _, A, w, e1, fun v H' A' w' sm rv => k _ _ A' w' sm (.cons rv .nil), fun c gs z => kx c gs (by unfold excL; rw [List.findSome?_cons, z])⟩
theorem Ik (ha : PF X G a fa) (hr : PXAZ X G es hs) (hst : starEach (a :: es) X.env = (false, eval a X.env) :: starEach es X.env := by rfl) : PXAZ X G (a :: es) (Mi fa hs) := fun A0 He pos pins s σ H Q I ⟨ρ, ds, ρ', A, w, e, k, kx⟩ => by
 refine Fx (@ha A) (@hr A0 He) hst pos pins s σ H Q I ?_
 unfold Mi at e
 cases e1 : fa ρ with
 | none => simp [e1] at e
 | some d =>
  cases e2 : hs ρ with
  | none => simp [e1, e2] at e
  | some r =>
   simp only [e1, e2, Option.bind_some, Option.map_some] at e
   cases e
   refine ⟨ρ, d, w.ok, e1, fun v H1 s1 r1 => ⟨ρ, r.1, _, A, w.mono s1, e2, fun vs H2 A2 w2 sm rv => k _ _ A2 w2 ((DW s1).trans sm) (.cons (r1.mono sm) rv), fun c gs z => kx c gs (by unfold excL; rw [List.findSome?_cons, MJ r1]; exact z)⟩⟩
theorem X5 {H : Hp} {vs : List V} {ds : List D} (r : RepL G H vs ds) : excL ds = none := by
 unfold excL
 rw [List.findSome?_eq_none_iff]
 intro d hd
 obtain ⟨i, hi⟩ := List.getElem?_of_mem hd
 obtain ⟨x, _, rx⟩ := r.get hi
 exact MJ rx
theorem R1 {x1} (ha : PXAZ X G es hs) : PXZ X G (.Tuple es x1 pos) (Qd hs) := fun A0 He pins s σ H Q I ⟨ρ, d, ρ', A, w, e, k, kx⟩ => by
 refine Wy (@ha A0 He) pins s σ H Q I ?_
 unfold Qd at e
 cases e1 : hs ρ with
 | none => simp [e1] at e
 | some r =>
  simp only [e1, Option.bind_some] at e
  cases e2 : excL r.1 with
  | some q =>
   simp only [e2] at e
   cases e
   refine ⟨ρ, r.1, _, A, w, e1, fun vs H1 A1 w1 sm rv => absurd e2 (by rw [X5 rv]; simp), fun c gs z => ?_⟩
   rw [e2] at z
   cases z
   exact kx c gs rfl
  | none =>
   simp only [e2] at e
   split at e
   ·rename_i hz
    cases e
    refine ⟨ρ, r.1, _, A, w, e1, fun vs H1 A1 w1 sm rv => ⟨by rw [rv.1]; exact hz, fun p hp => ?_⟩, fun c gs z => by rw [e2] at z; cases z⟩
    exact k _ _ A1 (w1.mono (Et hp _)) (sm.trans (DW (Et hp _))) (Jb w1.ok.live hp rv)
   ·cases e
end
end PV
namespace PV
open PySem PySem.Spec L2 EX
open PyProof.Rows hiding St
section
variable {X : Cx} {k : Nat} {f C : Addr} {fd : FuncData} {ps : List Str} {sp : Sp} {m : Str} {pos apos : Pos} {o : Expr} {ta : TE}
theorem Wh {pl : Sem Bool} (he : PE X o ta) (c : Cls X.K C) (hm : Meth X.K C m f) (F : FnOk X.prog X.w X.K X.mg X.base (CX1 X.prog X.w) k f fd ps sp) (hr : Room k X.A) (hb : Binds X.K fd ps [])
  (ht : eval (.Call (.Attribute o m apos) [] [] pos) X.env = (do
   let ov ← eval o X.env
   standAt apos.atName
   let (f, first) ← holding [ov] (getMethod ov m pl)
   callWith pos f first (backTo pos (starEach [] X.env)) (backToKw pos (keywordEach [] X.env))) := by rfl) :
  PE X (.Call (.Attribute o m apos) [] [] pos) (Xn X C m sp ta tNil) := by
 intro pins s σ H Q I h
 refine PySem.W.methodCall_KW (pl := pl) (thn (he pins s σ H _ I h) fun u s1 ⟨y, H1, I1, ry, a, dx, fs, ey, ea, l, q⟩ => ?_) ht
 subst ey
 obtain rfl : u = Value.ref a := ry
 exact Ip I1 ea c hm l (PySem.W.callWith_K0 (first := [.ref a]) I1.kIn hm.kp (Rw (us := [.ref a]) (vs := [.ref a]) F hr hb I1 (.cons rfl .nil) q))
end
section
variable {X : Cx} {G : Gx} {b : Expr} {rp p pos apos : Pos} {es : List Expr} {fs : FA} {A0 : List Addr} {He : Hp}
theorem Up {σ : St} {H1 : Hp} {A : List Addr} {ρ : Rho} {d so so' : D} {i : Nat} {y : Addr} (w : OkW G A0 He A σ H1 ρ) (hi : ρ[i]? = some (.ow so)) (h1 : σ[i]? = some (some (.ref y))) (kx : RzO X G A0 He d (ρ.set i (.ow so'))) : XWS G y A H1 d so' (Tv X σ) := fun c gs z e T H2 H' sx t x pins s' I => kx c gs z pins σ H2 H' s' e (some T) I ⟨A, w.wrX hi h1 sx t⟩ x
theorem X6 {k i : Nat} {f : Addr} {fd : FuncData} {ps : List Str} {g : List D → Option (D × D)} {x r : Str} (F : FnOk X.prog X.w X.K X.mg X.base (CX1 X.prog X.w) k f fd ps (spSZ G g)) (hr : Room k X.A) (hg : Gl X x) (hm : X.mg x = some (.ref f)) (hk : PySem.W.keepIn X.K (.ref f) = true)
  (hb : Binds X.K fd ps []) (hv : PE X (.Name r rp) (tVar i)) (ha : PFA X G es fs) (hdb : (x == ("__debug__" : Str)) = false := by decide) (he : starEach (.Name r rp :: es) X.env = (false, eval (.Name r rp) X.env) :: starEach es X.env := by rfl) (hpl : (backTo pos (starEach es X.env)).any (·.1) = false := by rfl) :
  PXZ X G (.Call (.Name x p) (.Name r rp :: es) [] pos) (Ia g i fs) := fun A0 He pins s σ H Q I ⟨ρ, d, ρ', A, w, e, k, kx⟩ => by
 refine Tw F hr hg hm hk hb (Fx hv (@ha A) he) hdb he hpl pins s σ H Q I ?_
 unfold Ia at e
 cases e1 : fs ρ with
 | none => simp [e1] at e
 | some ds =>
  cases e2 : ownO ρ i with
  | none => simp [e1, e2] at e
  | some so =>
   cases e3 : g (so :: ds) with
   | none => simp [e1, e2, e3] at e
   | some r =>
    simp only [e1, e2, e3, Option.bind_some, Option.map_some] at e
    cases e
    have hi := Ih e2
    obtain ⟨y, h1, hA, t⟩ := w.ok.ow i so hi
    refine ⟨_, h1, ρ, ds, w.ok, e1, fun vs H1 s1 r1 => ?_⟩
    exact ⟨A, y, vs, so, ds, r.1, r.2, rfl, (w.mono s1).ok.live, hA, t.mono s1, r1, e3, fun v H' sx t' rv => k v H' A ((w.mono s1).wrX hi h1 sx t') ((DW s1).trans (Fz hA sx)) rv, Up (w.mono s1) hi h1 kx⟩
theorem O4 {c m : Str} {g : List D → Option (D × D)} {i : Nat} {ρ ρ' : Rho} {d : D} (e : Ep c m g i fs ρ = some (d, ρ')) : ∃ so ds so', ρ[i]? = some (.ow so) ∧ isOb c m so = true ∧ fs ρ = some ds ∧ g (so :: ds) = some (d, so') ∧ ρ' = ρ.set i (.ow so') := by
 unfold Ep at e
 cases e2 : ownO ρ i with
 | none => simp [e2] at e
 | some so =>
  simp only [e2, Option.bind_some] at e
  split at e
  ·rename_i ho
   cases e1 : fs ρ with
   | none => simp [e1] at e
   | some ds =>
    cases e3 : g (so :: ds) with
    | none => simp [e1, e3] at e
    | some r =>
     simp only [e1, e3, Option.bind_some, Option.map_some] at e
     cases e
     exact ⟨so, ds, r.2, Ih e2, ho, rfl, e3, rfl⟩
  ·cases e
theorem X7 {pl : Sem Bool} {k i : Nat} {f C : Addr} {fd : FuncData} {ps : List Str} {g : List D → Option (D × D)} {cn m r : Str} (hcl : G.cl cn = some C) (hc : Cls X.K C) (hme : Meth X.K C m f) (F : FnOk X.prog X.w X.K X.mg X.base (CX1 X.prog X.w) k f fd ps (spSZ G g)) (hr : Room k X.A)
  (hb : Binds X.K fd ps []) (hv : PE X (.Name r rp) (tVar i)) (ha : PFA X G (b :: es) fs) (hst : starEach (b :: es) X.env = (false, eval b X.env) :: starEach es X.env := by rfl) (hpl : (backTo pos (starEach es X.env)).any (·.1) = false := by rfl)
  (ht : eval (.Call (.Attribute (.Name r rp) m apos) (b :: es) [] pos) X.env = (do
   let ov ← eval (.Name r rp) X.env
   standAt apos.atName
   let (f, first) ← holding [ov] (getMethod ov m pl)
   callWith pos f first (backTo pos (starEach (b :: es) X.env)) (backToKw pos (keywordEach [] X.env))) := by rfl) :
  PXZ X G (.Call (.Attribute (.Name r rp) m apos) (b :: es) [] pos) (Ep cn m g i fs) := fun A0 He pins s σ H Q I ⟨ρ, d, ρ', A, w, e, k, kx⟩ => by
 refine Xo (pl := pl) hv hc hme F hr hb (@ha A) hst hpl ht pins s σ H Q I ?_
 obtain ⟨so, ds, so', hi, ho, e1, e3, rfl⟩ := O4 e
 obtain ⟨y, h1, hA, t⟩ := w.ok.ow i so hi
 obtain ⟨dx, xs, q1, q2⟩ := Jc hcl ho t
 refine ⟨_, h1, y, dx, xs, rfl, q1, q2, ρ, ds, w.ok, e1, fun vs H1 s1 r1 => ?_⟩
 exact ⟨A, y, vs, so, ds, d, so', rfl, (w.mono s1).ok.live, hA, t.mono s1, r1, e3, fun v H' sx t' rv => k v H' A ((w.mono s1).wrX hi h1 sx t') ((DW s1).trans (Fz hA sx)) rv, Up (w.mono s1) hi h1 kx⟩
theorem Wi {pl : Sem Bool} {k i : Nat} {f C : Addr} {fd : FuncData} {ps : List Str} {g : List D → Option (D × D)} {cn m r : Str} (hcl : G.cl cn = some C) (hc : Cls X.K C) (hme : Meth X.K C m f) (F : FnOk X.prog X.w X.K X.mg X.base (CX1 X.prog X.w) k f fd ps (spSZ G g)) (hr : Room k X.A)
  (hb : Binds X.K fd ps []) (hv : PE X (.Name r rp) (tVar i))
  (ht : eval (.Call (.Attribute (.Name r rp) m apos) [] [] pos) X.env = (do
   let ov ← eval (.Name r rp) X.env
   standAt apos.atName
   let (f, first) ← holding [ov] (getMethod ov m pl)
   callWith pos f first (backTo pos (starEach [] X.env)) (backToKw pos (keywordEach [] X.env))) := by rfl) :
  PXZ X G (.Call (.Attribute (.Name r rp) m apos) [] [] pos) (Ep cn m g i nilA) := fun A0 He pins s σ H Q I ⟨ρ, d, ρ', A, w, e, k, kx⟩ => by
 refine Wh (pl := pl) hv hc hme F hr hb ht pins s σ H Q I ?_
 obtain ⟨so, ds, so', hi, ho, e1, e3, rfl⟩ := O4 e
 cases e1
 obtain ⟨y, h1, hA, t⟩ := w.ok.ow i so hi
 obtain ⟨dx, xs, q1, q2⟩ := Jc hcl ho t
 refine ⟨_, h1, y, dx, xs, rfl, q1, q2, ?_⟩
 exact ⟨A, y, [], so, [], d, so', rfl, w.ok.live, hA, t, .nil, e3, fun v H' sx t' rv => k v H' A (w.wrX hi h1 sx t') (Fz hA sx) rv, Up w hi h1 kx⟩
end
end PV
namespace PV
open PySem PySem.Spec L2 EX
open PyProof.Rows hiding St
section
variable {P : Program} {w : World} {K : PySem.W.Frag} {mg : Str → Option Value} {base : Heap} {k : Nat} {f : Addr} {fd : FuncData} {ps : List Str} {G : Gx} {sp sp' : Sp}
end
section
variable {X : Cx} {G : Gx} {a b : Expr} {es : List Expr} {fs : FA} {rp p pos apos : Pos} {h : FZ}
theorem fXZ {k k' i : Nat} {x r : Str} {st : Stmt} {ps : List Str} {d : Dx X.K X.mg x st ps} {g : List D → Option (D × D)} (F : FnOk X.prog X.w X.K X.mg X.base (CX1 X.prog X.w) k d.f d.fd ps (spSZ G g)) (hr : Room k' X.A) (hv : PE X (.Name r rp) (tVar i)) (ha : PFA X G es fs) (hle : k ≤ k' := by omega) (hg : Gl X x := by rfl) (hdb : (x == ("__debug__" : Str)) = false := by decide)
  (he : starEach (.Name r rp :: es) X.env = (false, eval (.Name r rp) X.env) :: starEach es X.env := by rfl) (hpl : (backTo pos (starEach es X.env)).any (·.1) = false := by rfl) : PXZ X G (.Call (.Name x p) (.Name r rp :: es) [] pos) (Ia g i fs) := X6 F (hr.mono hle) hg d.m d.F.kp d.B hv ha hdb he hpl
theorem mXZ {k k' i : Nat} {C : Addr} {c m qual r : Str} {st : Stmt} {ps : List Str} {d : Mx X.K C m qual st ps} {g : List D → Option (D × D)} {pl : Sem Bool} (hc : G.cl c = some C) (cl : Cls X.K C) (F : FnOk X.prog X.w X.K X.mg X.base (CX1 X.prog X.w) k d.f d.fd ps (spSZ G g)) (hr : Room k' X.A) (hv : PE X (.Name r rp) (tVar i)) (ha : PFA X G (b :: es) fs) (hle : k ≤ k' := by omega)
  (hst : starEach (b :: es) X.env = (false, eval b X.env) :: starEach es X.env := by rfl) (hpl : (backTo pos (starEach es X.env)).any (·.1) = false := by rfl)
  (ht : eval (.Call (.Attribute (.Name r rp) m apos) (b :: es) [] pos) X.env = (do
   let ov ← eval (.Name r rp) X.env
   standAt apos.atName
   let (f, first) ← holding [ov] (getMethod ov m pl)
   callWith pos f first (backTo pos (starEach (b :: es) X.env)) (backToKw pos (keywordEach [] X.env))) := by rfl) :
  PXZ X G (.Call (.Attribute (.Name r rp) m apos) (b :: es) [] pos) (Ep c m g i fs) := X7 hc cl d.me F (hr.mono hle) d.B hv ha hst hpl ht
theorem mXZ0 {k k' i : Nat} {C : Addr} {c m qual r : Str} {st : Stmt} {ps : List Str} {d : Mx X.K C m qual st ps} {g : List D → Option (D × D)} {pl : Sem Bool} (hc : G.cl c = some C) (cl : Cls X.K C) (F : FnOk X.prog X.w X.K X.mg X.base (CX1 X.prog X.w) k d.f d.fd ps (spSZ G g)) (hr : Room k' X.A) (hv : PE X (.Name r rp) (tVar i)) (hle : k ≤ k' := by omega)
  (ht : eval (.Call (.Attribute (.Name r rp) m apos) [] [] pos) X.env = (do
   let ov ← eval (.Name r rp) X.env
   standAt apos.atName
   let (f, first) ← holding [ov] (getMethod ov m pl)
   callWith pos f first (backTo pos (starEach [] X.env)) (backToKw pos (keywordEach [] X.env))) := by rfl) :
  PXZ X G (.Call (.Attribute (.Name r rp) m apos) [] [] pos) (Ep c m g i nilA) := Wi hc cl d.me F (hr.mono hle) d.B hv ht
theorem sXZ (hN : X.N.Nodup) (i : Nat) {x : Str} (ha : PXZ X G a h) (hi : X.N[i]? = some x := by rfl) (hx : Loc X.env.scope x := by first | exact Or.inl rfl | exact Or.inr rfl) (hs : swapsWith a (some (.Name x p)) pos.line X.env = pure false := by rfl)
  (hf : X.fn x = true ∨ X.env.scope.names.lookup x = some .local := by first | exact .inl rfl | exact .inr rfl | assumption) : PSZ X G (.Assign [.Name x p] a pos) (J2 i h) := aC (fun _ h => N7 hN hi hx h hs hf) ha
end
end PV
namespace PV
open PySem PySem.Spec L2
open PyProof.Rows hiding St
theorem Fun.d {K : PySem.W.Frag} {x qual : Str} {st : Stmt} {f : Addr} {fd : FuncData} (F : Fun K x qual st f fd) : FunD K x qual st f fd := ⟨let ⟨oc, od, kV, q⟩ := F.ex; ⟨oc, od, .none, kV, q⟩, F.kp⟩
end PV
namespace L2
theorem Fun.d {K : PySem.W.Frag} {x qual : PySem.Str} {st : PySem.Stmt} {f : PySem.Addr} {fd : PySem.FuncData} (F : Fun K x qual st f fd) : PV.FunD K x qual st f fd := PV.Fun.d F
end L2
namespace PV
open PySem PySem.Spec L2
section
variable {es l1 l2 : List Expr} {env : Env} {pos : Pos} {a b c : Expr}
theorem Mp {k j} : starEach (.Constant k j pos :: es) env = (false, eval (.Constant k j pos) env) :: starEach es env := rfl
theorem Ah {x} : starEach (.Name x pos :: es) env = (false, eval (.Name x pos) env) :: starEach es env := rfl
theorem Ed {o} : starEach (.BinOp a o b pos :: es) env = (false, eval (.BinOp a o b pos) env) :: starEach es env := rfl
theorem X8 : starEach (.IfExp a b c pos :: es) env = (false, eval (.IfExp a b c pos) env) :: starEach es env := rfl
theorem Ay : starEach (.Subscript a b pos :: es) env = (false, eval (.Subscript a b pos) env) :: starEach es env := rfl
theorem Ft {x} : starEach (.Tuple l1 x pos :: es) env = (false, eval (.Tuple l1 x pos) env) :: starEach es env := rfl
theorem Vw : starEach (.List l1 pos :: es) env = (false, eval (.List l1 pos) env) :: starEach es env := rfl
theorem Ju {k} : starEach (.Call a l1 k pos :: es) env = (false, eval (.Call a l1 k pos) env) :: starEach es env := rfl
theorem T4 {g sc} : starEach (.ListComp a g sc pos :: es) env = (false, eval (.ListComp a g sc pos) env) :: starEach es env := rfl
end
section
variable {X : Cx} {G : Gx} {es : List Expr} {fs : FA} {pos : Pos}
theorem iS {i j} (h : PFA X G es fs) : PFA X G (.Constant (.str i) j pos :: es) (Ab (kF (.str i)) fs) := Aa HJ h Mp
theorem iI {i j} (h : PFA X G es fs) : PFA X G (.Constant (.int i) j pos :: es) (Ab (kF (.int i)) fs) := Aa RX h Mp
end
section
variable {G : Gx} {mg : Str → Option Value} {cs : List Str} {R : Addr} {cn f qual : Str} {st : Stmt} {ps : List Str}
theorem aD (x : Xx G mg R cn f qual st ps) : ∀ c C, [cn].contains c = true → G.xcl c = some C → ∃ R', EX.XC G.K C R' ∧ (x.C = R' ∨ x.C = C) := fun c C h g => by
 have e : c = cn := by simpa using h
 subst e
 rw [x.g] at g
 cases g
 exact ⟨R, x.xc, .inr rfl⟩
end
end PV
namespace PV
open PySem PySem.Spec L2
open PyProof.Rows hiding St
def parO (i j : Nat) (ρ : Rho) (ds : Option (List D)) : Option Out := ds.bind fun ds => match ds with
 | [a, b] => some (.nx ((ρ.set i (.fz a)).set j (.fz b)))
 | _ => none
def parF (i j : Nat) (fs : FA) : FS := fun ρ => parO i j ρ (fs ρ)
theorem O5 (i j : Nat) (fs : FA) (ρ : Rho) : parF i j fs ρ = parO i j ρ (fs ρ) := of_eq_true (eq_self _)
theorem Ka (i j : Nat) (ρ : Rho) (a b : D) : parO i j ρ (some [a, b]) = some (.nx ((ρ.set i (.fz a)).set j (.fz b))) := of_eq_true (eq_self _)
section
variable {X : Cx} {G : Gx} {a b : Expr} {fs : FA} {pos px py pt : Pos}
theorem Vx {i j : Nat} {x y : Str} {kt k2 pt2} (hN : X.N.Nodup) (ha : PFA X G [a, b] fs) (hc : X.calm = true := by rfl) (hi : X.N[i]? = some x := by rfl) (hj : X.N[j]? = some y := by rfl) (hij : i ≠ j := by decide)
  (hx : X.env.scope.names.lookup x = some .local := by rfl) (hy : X.env.scope.names.lookup y = some .local := by rfl)
  (hw : swappedStores [.Tuple [.Name x px, .Name y py] kt pt] (.Tuple [a, b] k2 pt2) X.env = pure (some [x, y]) := by rfl)
  (hs : swapsWithSole [.Tuple [.Name x px, .Name y py] kt pt] (.Tuple [a, b] k2 pt2) pos.line X.env = pure false := by rfl) :
  PSD X G (.Assign [.Tuple [.Name x px, .Name y py] kt pt] (.Tuple [a, b] k2 pt2) pos) (parF i j fs) := fun A0 He pins s σ H D I ⟨ρ, o, ⟨A, w⟩, e, k⟩ => by
 refine cJ hc hN hi hj hij hx hy (@ha A) hw hs pins s σ H D I ?_
 unfold parF parO at e
 cases e1 : fs ρ with
 | none => rw [e1] at e; cases e
 | some ds =>
  rw [e1, Option.bind_some] at e
  split at e
  ·rename_i d1 d2
   cases e
   refine ⟨ρ, [d1, d2], w.ok, e1, fun vs H1 s1 r1 => ?_⟩
   obtain ⟨v, ys, rfl, r2, r3⟩ := r1.uncons
   obtain ⟨u, zs, rfl, r4, r5⟩ := r3.uncons
   have := r5.nil_inv
   subst this
   exact ⟨v, u, rfl, k _ _ ⟨A, (((w.mono s1).set r2 i).set r4 j)⟩⟩
  ·cases e
end
end PV
namespace K23
open PySem PySem.Spec L2 PV EX
open PyProof.Rows hiding St
def c_KEPT_TEXTS : D := (.tup ((["not", "and", "or", "some", "all"] : List Str).map .str))
def c_BINDERS : D := (.tup ((["some", "all"] : List Str).map .str))
def FN : FS := seqF (setF 3 (bF addD (vF 3) (bF ixD (vF 1) (bF modD (bF GJ (vF 2) (kF (.int 7))) (kF (.int 26)))))) (setF 2 (bF GJ (vF 2) (kF (.int 11))))
def HS : FE := bF addD (bF addD (slF (vF 3) (noO) (someO (vF 5))) (bF ixD (vF 1) (bF modD (bF addD (bF GJ (vF 2) (kF (.int 5))) (bF mulD (kF (.int 5)) (vF 7))) (kF (.int 26))))) (slF (vF 3) (someO (vF 5)) (noO))
def HW : FE := bF ixD (vF 1) (bF modD (bF GJ (vF 2) (bF addD (kF (.int 3)) (bF mulD (vF 7) (vF 7)))) (kF (.int 26)))
def HX : FE := slF (vF 3) (noO) (someO (bF addD (vF 7) (kF (.int 1))))
def DP : FT := blF (bF (inD false) (vF 7) (lstF (Ab (kF (.str "not")) (Ab (kF (.str "and")) (Ab (kF (.str "or")) (Ab (kF (.str "some")) (Ab (kF (.str "all")) (nilA))))))))
def Do : FE := vF 7
def GX : FE := bF addD (kF (.str "z")) (vF 7)
def Fg : FS := seqF (setF 1 (kF (.str "abcdefghijklmnopqrstuvwxyz"))) (seqF (setF 2 (bF modD (bF mulD (vF 0) (kF (.int 1000000007))) (bF powD (kF (.int 10)) (kF (.int 18))))) (seqF (setF 3 (kF (.str ""))) (seqF (forS (rngI (bF modD (vF 2) (kF (.int 7)))) (J0 4) (FN)) (seqF (setF 5 (bF modD (bF GJ (vF 2) (kF (.int 7))) (bF addD (uF lenD (vF 3)) (kF (.int 1))))) (seqF (setF 6 (Fq (rngI (kF (.int 6))) (allT) (HS))) (seqF (ifS (blF (bF (eqD false) (bF modD (vF 2) (kF (.int 3))) (kF (.int 0)))) (seqF (setF 3 (bF VD (kF (.str "")) (Fq (rngI (kF (.int 6))) (allT) (HW)))) (setF 6 (Fq (rngI (kF (.int 6))) (allT) (HX)))) (nxF)) (seqF (ifS (blF (bF gtD (uF lenD (Fq (seqI (vF 6)) (DP) (Do))) (kF (.int 0)))) (retF (Fq (seqI (vF 6)) (allT) (GX))) (nxF)) (retF (vF 6)))))))))
def Ek : List D → Option D := runF 7 1 Fg
def HY : FE := bF ixD (vF 1) (bF modD (bF addD (bF modD (vF 0) (kF (.int 26))) (bF mulD (bF addD (kF (.int 7)) (bF mulD (bF modD (bF GJ (vF 0) (kF (.int 26))) (kF (.int 2))) (kF (.int 2)))) (vF 2))) (kF (.int 26)))
def JB : FS := seqF (setF 1 (kF (.str "abcdefghijklmnopqrstuvwxyz"))) (retF (Fq (rngI (kF (.int 3))) (allT) (HY)))
def G8 : List D → Option D := runF 2 1 JB
def Ho : FS := seqF (ifS (blF (bF ltD (vF 1) (uF lenD (vF 0)))) (retF (bF ixD (vF 0) (vF 1))) (nxF)) (retF (kF (.int 0)))
def Dk : List D → Option D := runF 2 2 Ho
def Fv : FS := retF (andF (bF (eqD true) (slF (vF 0) (someO (vF 1)) (someO (bF addD (vF 1) (kF (.int 1))))) (kF (.str ""))) (bF (inD false) (bF ixD (vF 0) (vF 1)) (kF (.str "abcdefghijklmnopqrstuvwxyz"))))
def Cd : List D → Option D := runF 2 2 Fv
def Dp : FT := trF (Cr (Cd) (Ab (vF 0) (Ab (vF 2) (nilA))))
def FP : FS := setF 2 (bF addD (vF 2) (kF (.int 1)))
def Cq : FS := seqF (setF 2 (vF 1)) (seqF (Dz (Dp) (FP) 3000) (seqF (setF 3 (slF (vF 0) (someO (vF 1)) (someO (vF 2)))) (seqF (ifS (andT (blF (bF (eqD false) (uF lenD (vF 3)) (kF (.int 1)))) (andT (blF (bF (eqD false) (slF (vF 0) (someO (vF 2)) (someO (bF addD (vF 2) (kF (.int 1))))) (kF (.str "=")))) (trF (Cr (Cd) (Ab (vF 0) (Ab (bF addD (vF 2) (kF (.int 1))) (nilA))))))) (retF (lstF (Ab (tupF (Ab (kF (.str "same")) (Ab (vF 3) (Ab (bF ixD (vF 0) (bF addD (vF 2) (kF (.int 1)))) (nilA))))) (Ab (bF addD (vF 2) (kF (.int 2))) (nilA))))) (nxF)) (seqF (ifS (orT (blF (bF (inD false) (vF 3) (lstF (Ab (kF (.str "not")) (Ab (kF (.str "and")) (Ab (kF (.str "or")) (Ab (kF (.str "some")) (Ab (kF (.str "all")) (Ab (kF (.str "")) (nilA)))))))))) (orT (blF (bF gtD (uF lenD (vF 3)) (kF (.int 8)))) (blF (bF (eqD true) (slF (vF 0) (someO (vF 2)) (someO (bF addD (vF 2) (kF (.int 1))))) (kF (.str "(")))))) (retF (kF .non)) (nxF)) (seqF (ifS (notT (trF (Cr (Cd) (Ab (vF 0) (Ab (bF addD (vF 2) (kF (.int 1))) (nilA)))))) (retF (kF .non)) (nxF)) (seqF (ifS (blF (bF (eqD false) (slF (vF 0) (someO (bF addD (vF 2) (kF (.int 2)))) (someO (bF addD (vF 2) (kF (.int 3))))) (kF (.str ")")))) (retF (lstF (Ab (tupF (Ab (kF (.str "mark")) (Ab (vF 3) (Ab (bF ixD (vF 0) (bF addD (vF 2) (kF (.int 1)))) (nilA))))) (Ab (bF addD (vF 2) (kF (.int 3))) (nilA))))) (nxF)) (seqF (ifS (orT (blF (bF (eqD true) (slF (vF 0) (someO (bF addD (vF 2) (kF (.int 2)))) (someO (bF addD (vF 2) (kF (.int 3))))) (kF (.str ",")))) (orT (notT (trF (Cr (Cd) (Ab (vF 0) (Ab (bF addD (vF 2) (kF (.int 3))) (nilA)))))) (blF (bF (eqD true) (slF (vF 0) (someO (bF addD (vF 2) (kF (.int 4)))) (someO (bF addD (vF 2) (kF (.int 5))))) (kF (.str ")")))))) (retF (kF .non)) (nxF)) (retF (lstF (Ab (tupF (Ab (kF (.str "tie")) (Ab (vF 3) (Ab (bF ixD (vF 0) (bF addD (vF 2) (kF (.int 1)))) (Ab (bF ixD (vF 0) (bF addD (vF 2) (kF (.int 3)))) (nilA)))))) (Ab (bF addD (vF 2) (kF (.int 5))) (nilA))))))))))))
def CK : List D → Option D := runF 4 2 Cq
def DK (rec__law_read : List D → Option D) : FS := seqF (setF 2 (Cr (rec__law_read) (Ab (vF 0) (Ab (vF 1) (nilA))))) (seqF (ifS (blF (uF (isND false) (vF 2))) (retF (kF .non)) (nxF)) (seqF (parF 3 4 (Ab (kF (.str "both")) (Ab (bF addD (bF ixD (vF 2) (kF (.int 1))) (kF (.int 5))) (nilA)))) (seqF (ifS (blF (bF (eqD true) (slF (vF 0) (someO (bF ixD (vF 2) (kF (.int 1)))) (someO (vF 4))) (kF (.str " and ")))) (seqF (parF 3 4 (Ab (kF (.str "either")) (Ab (bF addD (bF ixD (vF 2) (kF (.int 1))) (kF (.int 4))) (nilA)))) (ifS (blF (bF (eqD true) (slF (vF 0) (someO (bF ixD (vF 2) (kF (.int 1)))) (someO (vF 4))) (kF (.str " or ")))) (retF (kF .non)) (nxF))) (nxF)) (seqF (setF 5 (Cr (rec__law_read) (Ab (vF 0) (Ab (vF 4) (nilA))))) (seqF (ifS (orT (blF (uF (isND false) (vF 5))) (blF (bF (eqD true) (slF (vF 0) (someO (bF ixD (vF 5) (kF (.int 1)))) (someO (bF addD (bF ixD (vF 5) (kF (.int 1))) (kF (.int 1))))) (kF (.str ")"))))) (retF (kF .non)) (nxF)) (retF (lstF (Ab (tupF (Ab (vF 3) (Ab (bF ixD (vF 2) (kF (.int 0))) (Ab (bF ixD (vF 5) (kF (.int 0))) (nilA))))) (Ab (bF addD (bF ixD (vF 5) (kF (.int 1))) (kF (.int 1))) (nilA))))))))))
def Ce (rec__law_read : List D → Option D) : List D → Option D := runF 6 2 (DK rec__law_read)
def Dl (rec__law_read : List D → Option D) : FS := seqF (setF 4 (bF addD (bF addD (vF 1) (uF lenD (vF 3))) (kF (.int 1)))) (ifS (blF (bF (eqD false) (slF (vF 0) (someO (vF 1)) (someO (vF 4))) (bF addD (vF 3) (kF (.str " "))))) (seqF (setF 2 (kF .non)) (seqF (ifS (andT (trF (Cr (Cd) (Ab (vF 0) (Ab (vF 4) (nilA))))) (blF (bF (eqD false) (slF (vF 0) (someO (bF addD (vF 4) (kF (.int 1)))) (someO (bF addD (vF 4) (kF (.int 2))))) (kF (.str " "))))) (setF 2 (Cr (rec__law_read) (Ab (vF 0) (Ab (bF addD (vF 4) (kF (.int 2))) (nilA))))) (nxF)) (seqF (ifS (blF (uF (isND false) (vF 2))) (retF (kF .non)) (nxF)) (retF (lstF (Ab (tupF (Ab (vF 3) (Ab (bF ixD (vF 0) (vF 4)) (Ab (bF ixD (vF 2) (kF (.int 0))) (nilA))))) (Ab (bF ixD (vF 2) (kF (.int 1))) (nilA)))))))) (nxF))
def Dm (rec__law_read : List D → Option D) : FS := seqF (ifS (blF (bF (eqD false) (slF (vF 0) (someO (vF 1)) (someO (bF addD (vF 1) (kF (.int 1))))) (kF (.str "(")))) (retF (Cr (Ce rec__law_read) (Ab (vF 0) (Ab (bF addD (vF 1) (kF (.int 1))) (nilA))))) (nxF)) (seqF (ifS (blF (bF (eqD false) (slF (vF 0) (someO (vF 1)) (someO (bF addD (vF 1) (kF (.int 4))))) (kF (.str "not ")))) (seqF (setF 2 (Cr (rec__law_read) (Ab (vF 0) (Ab (bF addD (vF 1) (kF (.int 4))) (nilA))))) (seqF (ifS (blF (uF (isND false) (vF 2))) (retF (kF .non)) (nxF)) (retF (lstF (Ab (tupF (Ab (kF (.str "not")) (Ab (bF ixD (vF 2) (kF (.int 0))) (nilA)))) (Ab (bF ixD (vF 2) (kF (.int 1))) (nilA))))))) (nxF)) (seqF (forS (seqI (lstF (Ab (kF (.str "some")) (Ab (kF (.str "all")) (nilA))))) (J0 3) ((Dl rec__law_read))) (retF (Cr (CK) (Ab (vF 0) (Ab (vF 1) (nilA)))))))
def Bf : Nat → List D → Option D
 | 0 => fun _ => none
 | n + 1 => runF 5 2 (Dm (Bf n))
def GZ : FS := seqF (fldS "line" 0 (vF 1)) (fldS "at" 0 (kF (.int 0)))
def Ez : List D → Option (D × D) := runS 2 2 GZ
def Ga : FS := retF (bF (eqD false) (slF (uF (fldD "line") (vF 0)) (someO (uF (fldD "at") (vF 0))) (someO (bF addD (uF (fldD "at") (vF 0)) (uF lenD (vF 1))))) (vF 1))
def Bh : List D → Option D := runF 2 2 Ga
def Dq : FS := retF (andF (bF ltD (uF (fldD "at") (vF 0)) (uF lenD (uF (fldD "line") (vF 0)))) (bF (inD false) (bF ixD (uF (fldD "line") (vF 0)) (uF (fldD "at") (vF 0))) (kF (.str "abcdefghijklmnopqrstuvwxyz"))))
def CJ : List D → Option D := runF 1 1 Dq
def CN : FT := trF (Ib "Reader" "is_at_letter" (CJ) 0 (nilA))
def C_ : FS := fldS "at" 0 (bF addD (uF (fldD "at") (vU 0)) (kF (.int 1)))
def Ex : FS := seqF (setF 1 (uF (fldD "at") (vU 0))) (seqF (Dz (CN) (C_) 3000) (retF (slF (uF (fldD "line") (vU 0)) (someO (vF 1)) (someO (uF (fldD "at") (vU 0))))))
def Dr : List D → Option (D × D) := runS 2 1 Ex
def Gs : FS := seqF (ifS (notT (trF (Ib "Reader" "is_ahead" (Bh) 0 (Ab (vF 1) (nilA))))) (retF (excF "NoSaying" "line" okSD (uF (fldD "line") (vU 0)))) (nxF)) (fldS "at" 0 (bF addD (uF (fldD "at") (vU 0)) (uF lenD (vF 1))))
def Bk : List D → Option (D × D) := runS 2 2 Gs
def Be (rec_read_saying : List D → Option (D × D)) : FS := seqF (GR (Ep "Reader" "take" (Bk) 0 (Ab (kF (.str "(")) (nilA)))) (seqF (J2 1 (Ia (rec_read_saying) 0 (nilA))) (seqF (setF 2 (ifF (trF (Ib "Reader" "is_ahead" (Bh) 0 (Ab (kF (.str " and ")) (nilA)))) (kF (.str "both")) (kF (.str "either")))) (seqF (GR (Ep "Reader" "take" (Bk) 0 (Ab (ifF (blF (bF (eqD false) (vF 2) (kF (.str "both")))) (kF (.str " and ")) (kF (.str " or "))) (nilA)))) (seqF (J2 3 (Ia (rec_read_saying) 0 (nilA))) (seqF (GR (Ep "Reader" "take" (Bk) 0 (Ab (kF (.str ")")) (nilA)))) (retF (tupF (Ab (vF 2) (Ab (vF 1) (Ab (vF 3) (nilA)))))))))))
def Ax (rec_read_saying : List D → Option (D × D)) : List D → Option (D × D) := runS 4 1 (Be rec_read_saying)
def El : FS := seqF (ifS (notT (trF (Ib "Reader" "is_at_letter" (CJ) 0 (nilA)))) (retF (excF "NoSaying" "line" okSD (uF (fldD "line") (vU 0)))) (nxF)) (seqF (fldS "at" 0 (bF addD (uF (fldD "at") (vU 0)) (kF (.int 1)))) (retF (bF ixD (uF (fldD "line") (vU 0)) (bF subD (uF (fldD "at") (vU 0)) (kF (.int 1))))))
def CV : List D → Option (D × D) := runS 1 1 El
def Gy : FE := bF (inF false) (vF 1) (kF (.str "abcdefghijklmnopqrstuvwxyz"))
def HF : FS := seqF (ifS (orT (blF (bF (inF false) (vF 0) (kF c_KEPT_TEXTS))) (orT (blF (bF (eqD false) (uF lenE (vF 0)) (kF (.int 0)))) (blF (bF gtD (uF lenE (vF 0)) (kF (.int 8)))))) (retF (kF (.bl false))) (nxF)) (retF (uF allD (Fq (seqA (vF 0)) (allT) (Gy))))
def F_ : List D → Option D := runF 1 1 HF
def B_ : FS := seqF (ifS (notT (trF (Cr (F_) (Ab (vF 1) (nilA))))) (retF (excF "NoSaying" "line" okSD (uF (fldD "line") (vU 0)))) (nxF)) (seqF (GR (Ep "Reader" "take" (Bk) 0 (Ab (kF (.str "(")) (nilA)))) (seqF (J2 2 (Ep "Reader" "take_name" (CV) 0 (nilA))) (seqF (ifS (trF (Ib "Reader" "is_ahead" (Bh) 0 (Ab (kF (.str ")")) (nilA)))) (seqF (GR (Ep "Reader" "take" (Bk) 0 (Ab (kF (.str ")")) (nilA)))) (retF (tupF (Ab (kF (.str "mark")) (Ab (vF 1) (Ab (vF 2) (nilA))))))) (nxF)) (seqF (GR (Ep "Reader" "take" (Bk) 0 (Ab (kF (.str ",")) (nilA)))) (seqF (J2 3 (Ep "Reader" "take_name" (CV) 0 (nilA))) (seqF (GR (Ep "Reader" "take" (Bk) 0 (Ab (kF (.str ")")) (nilA)))) (retF (tupF (Ab (kF (.str "tie")) (Ab (vF 1) (Ab (vF 2) (Ab (vF 3) (nilA)))))))))))))
def Bl : List D → Option (D × D) := runS 4 2 B_
def GC : FS := seqF (ifS (blF (bF (eqD true) (uF lenD (vF 1)) (kF (.int 1)))) (retF (excF "NoSaying" "line" okSD (uF (fldD "line") (vU 0)))) (nxF)) (seqF (GR (Ep "Reader" "take" (Bk) 0 (Ab (kF (.str "=")) (nilA)))) (retX (Qd (Mi (kF (.str "same")) (Mi (vF 1) (QS (Ep "Reader" "take_name" (CV) 0 (nilA))))))))
def Ei : List D → Option (D × D) := runS 2 2 GC
def Cz (rec_read_saying : List D → Option (D × D)) : FS := seqF (GR (Ep "Reader" "take" (Bk) 0 (Ab (kF (.str " ")) (nilA)))) (seqF (J2 2 (Ep "Reader" "take_name" (CV) 0 (nilA))) (seqF (GR (Ep "Reader" "take" (Bk) 0 (Ab (kF (.str " ")) (nilA)))) (retX (Qd (Mi (vF 1) (Mi (vF 2) (QS (Ia (rec_read_saying) 0 (nilA)))))))))
def CW (rec_read_saying : List D → Option (D × D)) : List D → Option (D × D) := runS 3 2 (Cz rec_read_saying)
def CQ (rec_read_saying : List D → Option (D × D)) : FS := seqF (ifS (trF (Ib "Reader" "is_ahead" (Bh) 0 (Ab (kF (.str "(")) (nilA)))) (retX (Ia (Ax rec_read_saying) 0 (nilA))) (nxF)) (seqF (setX 1 (Ep "Reader" "take_letters" (Dr) 0 (nilA))) (seqF (ifS (trF (Ib "Reader" "is_ahead" (Bh) 0 (Ab (kF (.str "(")) (nilA)))) (retX (Ia (Bl) 0 (Ab (vF 1) (nilA)))) (nxF)) (seqF (ifS (trF (Ib "Reader" "is_ahead" (Bh) 0 (Ab (kF (.str "=")) (nilA)))) (retX (Ia (Ei) 0 (Ab (vF 1) (nilA)))) (nxF)) (seqF (ifS (blF (bF (inD false) (vF 1) (kF c_BINDERS))) (retX (Ia (CW rec_read_saying) 0 (Ab (vF 1) (nilA)))) (nxF)) (seqF (ifS (blF (bF (eqD true) (vF 1) (kF (.str "not")))) (retF (excF "NoSaying" "line" okSD (uF (fldD "line") (vU 0)))) (nxF)) (seqF (GR (Ep "Reader" "take" (Bk) 0 (Ab (kF (.str " ")) (nilA)))) (retX (Qd (Mi (kF (.str "not")) (QS (Ia (rec_read_saying) 0 (nilA))))))))))))
def Av : Nat → List D → Option (D × D)
 | 0 => fun _ => none
 | n + 1 => runS 2 1 (CQ (Av n))
def O6 : FS := seqF (setW 1 (mkF "Reader" (Ez) (Ab (vF 0) (nilA)))) (seqF (J2 2 (Ia (Av 105) 1 (nilA))) (seqF (ifS (blF (bF ltD (uF (fldD "at") (vU 1)) (uF lenD (vF 0)))) (retF (excF "NoSaying" "line" okSD (vF 0))) (nxF)) (retF (vF 2))))
def MN : List D → Option D := runF 3 1 O6
def Gz : FS := seqF (setF 1 (Cr (Bf 105) (Ab (vF 0) (Ab (kF (.int 0)) (nilA))))) (seqF (setF 2 (kF .non)) (seqF (setF 3 (kF .non)) (seqF (tryF ["NoSaying"] 4 (setZ 2 (Cr (MN) (Ab (vF 0) (nilA)))) (setF 3 (vF 4))) (seqF (ifS (orT (blF (uF (isND false) (vF 1))) (blF (bF (eqD true) (bF ixD (vF 1) (kF (.int 1))) (uF lenD (vF 0))))) (retF (andF (uF (isND true) (vF 3)) (bF (eqD false) (uF (fldE ["NoSaying"] "line") (vF 3)) (vF 0)))) (nxF)) (retF (andF (uF (isND false) (vF 3)) (andF (uF (isiD "tuple") (vF 2)) (bF (eqD false) (vF 2) (bF ixD (vF 1) (kF (.int 0)))))))))))
def Dv : List D → Option D := runF 5 1 Gz
def DY : FS := seqF (setF 2 (bF ixD (vF 0) (kF (.int 0)))) (seqF (ifS (blF (bF (eqD false) (vF 2) (kF (.str "same")))) (retF (bF addD (bF addD (bF ixD (vF 0) (kF (.int 1))) (kF (.str "="))) (bF ixD (vF 0) (kF (.int 2))))) (nxF)) (seqF (ifS (blF (bF (eqD false) (vF 2) (kF (.str "mark")))) (retF (bF addD (bF addD (bF addD (bF ixD (vF 0) (kF (.int 1))) (kF (.str "("))) (bF ixD (vF 0) (kF (.int 2)))) (kF (.str ")")))) (nxF)) (seqF (ifS (blF (bF (eqD false) (vF 2) (kF (.str "tie")))) (retF (bF addD (bF addD (bF addD (bF addD (bF addD (bF ixD (vF 0) (kF (.int 1))) (kF (.str "("))) (bF ixD (vF 0) (kF (.int 2)))) (kF (.str ","))) (bF ixD (vF 0) (kF (.int 3)))) (kF (.str ")")))) (nxF)) (seqF (ifS (blF (bF (eqD false) (vF 2) (kF (.str "not")))) (retF (bF addD (kF (.str "not ")) (bF ixD (vF 1) (kF (.int 0))))) (nxF)) (seqF (ifS (blF (bF (eqD false) (vF 2) (kF (.str "both")))) (retF (bF addD (bF addD (bF addD (bF addD (kF (.str "(")) (bF ixD (vF 1) (kF (.int 0)))) (kF (.str " and "))) (bF ixD (vF 1) (kF (.int 1)))) (kF (.str ")")))) (nxF)) (seqF (ifS (blF (bF (eqD false) (vF 2) (kF (.str "either")))) (retF (bF addD (bF addD (bF addD (bF addD (kF (.str "(")) (bF ixD (vF 1) (kF (.int 0)))) (kF (.str " or "))) (bF ixD (vF 1) (kF (.int 1)))) (kF (.str ")")))) (nxF)) (retF (bF addD (bF addD (bF addD (bF addD (vF 2) (kF (.str " "))) (bF ixD (vF 0) (kF (.int 1)))) (kF (.str " "))) (bF ixD (vF 1) (kF (.int 0)))))))))))
def Bj : List D → Option D := runF 3 2 DY
def Gb : FE := bF ixD (vF 4) (kF (.int 1))
def Kc : FS := seqF (setF 3 (Cr (Bj) (Ab (vF 1) (Ab (Fq (seqI (slF (vF 0) (someO (bF subD (uF lenD (vF 0)) (vF 2))) (noO))) (allT) (Gb)) (nilA))))) (retF (bF addD (slF (vF 0) (noO) (someO (bF subD (uF lenD (vF 0)) (vF 2)))) (lstF (Ab (lstF (Ab (vF 1) (Ab (vF 3) (nilA)))) (nilA)))))
def EY : List D → Option D := runF 4 3 Kc
def FQ : FS := seqF (setF 4 (bF ixD (vF 3) (bF modD (bF GJ (vF 0) (kF (.int 3))) (kF (.int 3))))) (seqF (setF 5 (bF ixD (vF 3) (bF modD (bF GJ (vF 0) (kF (.int 9))) (kF (.int 3))))) (seqF (ifS (andT (blF (bF (eqD false) (bF modD (vF 0) (kF (.int 3))) (kF (.int 1)))) (blF (bF (eqD true) (vF 1) (lstF (nilA))))) (retF (tupF (Ab (kF (.str "mark")) (Ab (bF ixD (vF 1) (bF modD (bF GJ (vF 0) (kF (.int 27))) (uF lenD (vF 1)))) (Ab (vF 4) (nilA)))))) (nxF)) (seqF (ifS (andT (blF (bF (eqD false) (bF modD (vF 0) (kF (.int 3))) (kF (.int 2)))) (blF (bF (eqD true) (vF 2) (lstF (nilA))))) (retF (tupF (Ab (kF (.str "tie")) (Ab (bF ixD (vF 2) (bF modD (bF GJ (vF 0) (kF (.int 27))) (uF lenD (vF 2)))) (Ab (vF 4) (Ab (vF 5) (nilA))))))) (nxF)) (retF (tupF (Ab (kF (.str "same")) (Ab (vF 4) (Ab (vF 5) (nilA)))))))))
def Dw : List D → Option D := runF 6 4 FQ
def Dh : FS := seqF (setF 4 (bF modD (bF mulD (bF GJ (vF 1) (kF (.int 8))) (kF (.int 1000000007))) (kF (.int 2147483647)))) (seqF (setF 5 (bF ixD (bF ixD (vF 0) (uF negD (kF (.int 1)))) (kF (.int 0)))) (seqF (ifS (blF (bF gtD (bF modD (vF 1) (kF (.int 8))) (kF (.int 5)))) (retF (Cr (EY) (Ab (vF 0) (Ab (tupF (Ab (bF ixD (lstF (Ab (kF (.str "some")) (Ab (kF (.str "all")) (nilA)))) (bF modD (vF 4) (kF (.int 2)))) (Ab (bF ixD (vF 3) (bF modD (bF GJ (vF 4) (kF (.int 2))) (kF (.int 3)))) (Ab (vF 5) (nilA))))) (Ab (kF (.int 1)) (nilA)))))) (nxF)) (seqF (ifS (blF (bF (eqD false) (bF modD (vF 1) (kF (.int 8))) (kF (.int 5)))) (retF (Cr (EY) (Ab (vF 0) (Ab (tupF (Ab (kF (.str "not")) (Ab (vF 5) (nilA)))) (Ab (kF (.int 1)) (nilA)))))) (nxF)) (seqF (ifS (andT (blF (bF gtD (bF modD (vF 1) (kF (.int 8))) (kF (.int 2)))) (blF (bF gtD (uF lenD (vF 0)) (kF (.int 1))))) (retF (Cr (EY) (Ab (vF 0) (Ab (tupF (Ab (bF ixD (lstF (Ab (kF (.str "both")) (Ab (kF (.str "either")) (nilA)))) (bF modD (vF 4) (kF (.int 2)))) (Ab (bF ixD (bF ixD (vF 0) (uF negD (kF (.int 2)))) (kF (.int 0))) (Ab (vF 5) (nilA))))) (Ab (kF (.int 2)) (nilA)))))) (nxF)) (retF (Cr (EY) (Ab (vF 0) (Ab (Cr (Dw) (Ab (vF 4) (Ab (slF (vF 2) (noO) (someO (kF (.int 3)))) (Ab (slF (vF 2) (someO (kF (.int 3))) (noO)) (Ab (vF 3) (nilA)))))) (Ab (kF (.int 0)) (nilA))))))))))
def Dc : List D → Option D := runF 6 4 Dh
def Ge : FS := setF 3 (Cr (Dc) (Ab (vF 3) (Ab (vF 4) (Ab (vF 1) (Ab (vF 2) (nilA))))))
def Eg : FT := blF (bF gtD (uF lenD (vF 3)) (kF (.int 1)))
def Eh : FS := setF 3 (Cr (EY) (Ab (vF 3) (Ab (tupF (Ab (bF ixD (lstF (Ab (kF (.str "either")) (Ab (kF (.str "both")) (nilA)))) (bF modD (uF lenD (vF 3)) (kF (.int 2)))) (Ab (bF ixD (bF ixD (vF 3) (uF negD (kF (.int 2)))) (kF (.int 0))) (Ab (bF ixD (bF ixD (vF 3) (uF negD (kF (.int 1)))) (kF (.int 0))) (nilA))))) (Ab (kF (.int 2)) (nilA)))))
def JC : FS := seqF (setF 3 (Cr (EY) (Ab (lstF (nilA)) (Ab (Cr (Dw) (Ab (uF lenD (vF 0)) (Ab (slF (vF 1) (noO) (someO (kF (.int 3)))) (Ab (slF (vF 1) (someO (kF (.int 3))) (noO)) (Ab (vF 2) (nilA)))))) (Ab (kF (.int 0)) (nilA)))))) (seqF (forS (seqI (vF 0)) (J0 4) (Ge)) (seqF (Dz (Eg) (Eh) 3000) (retF (bF ixD (vF 3) (kF (.int 0))))))
def G9 : List D → Option D := runF 5 3 JC
def Hq : FS := seqF (setF 1 (kF (.str " !\"#$&'()*+,-./0123456789:;<=>?@ABCDEFGHIJKLMNOPQRSTUVWXYZ[\\]^_`"))) (seqF (setF 1 (bF addD (vF 1) (kF (.str "abcdefghijklmnopqrstuvwxyz{|}~")))) (seqF (ifS (blF (bF (eqD false) (bF modD (vF 0) (kF (.int 2))) (kF (.int 0)))) (setF 1 (kF (.str " ()=,adlmnorstexyz"))) (nxF)) (retF (bF ixD (vF 1) (bF modD (bF GJ (vF 0) (kF (.int 2))) (uF lenD (vF 1)))))))
def G3 : List D → Option D := runF 2 1 Hq
def De : FS := seqF (setF 2 (bF modD (bF mulD (bF GJ (vF 1) (kF (.int 8))) (kF (.int 1000000007))) (kF (.int 2147483647)))) (seqF (setF 3 (bF modD (vF 2) (bF addD (uF lenD (vF 0)) (kF (.int 1))))) (seqF (setF 4 (bF addD (vF 3) (bF modD (bF GJ (vF 2) (kF (.int 100003))) (kF (.int 10))))) (seqF (setF 5 (Cr (G3) (Ab (bF GJ (vF 1) (kF (.int 8))) (nilA)))) (seqF (ifS (blF (bF ltD (bF modD (vF 1) (kF (.int 8))) (kF (.int 2)))) (retF (bF addD (bF addD (slF (vF 0) (noO) (someO (vF 3))) (vF 5)) (slF (vF 0) (someO (vF 3)) (noO)))) (nxF)) (seqF (ifS (blF (bF ltD (bF modD (vF 1) (kF (.int 8))) (kF (.int 4)))) (retF (bF addD (slF (vF 0) (noO) (someO (vF 3))) (slF (vF 0) (someO (bF addD (vF 3) (kF (.int 1)))) (noO)))) (nxF)) (seqF (ifS (blF (bF (eqD false) (bF modD (vF 1) (kF (.int 8))) (kF (.int 4)))) (retF (bF addD (bF addD (slF (vF 0) (noO) (someO (vF 3))) (vF 5)) (slF (vF 0) (someO (bF addD (vF 3) (kF (.int 1)))) (noO)))) (nxF)) (seqF (ifS (blF (bF (eqD false) (bF modD (vF 1) (kF (.int 8))) (kF (.int 5)))) (retF (bF addD (bF addD (slF (vF 0) (noO) (someO (vF 4))) (slF (vF 0) (someO (vF 3)) (someO (vF 4)))) (slF (vF 0) (someO (vF 4)) (noO)))) (nxF)) (seqF (ifS (blF (bF (eqD false) (bF modD (vF 1) (kF (.int 8))) (kF (.int 6)))) (retF (bF addD (slF (vF 0) (noO) (someO (vF 3))) (slF (vF 0) (someO (vF 4)) (noO)))) (nxF)) (retF (bF addD (bF addD (slF (vF 0) (noO) (someO (vF 3))) (slF (vF 0) (someO (vF 4)) (noO))) (slF (vF 0) (someO (vF 3)) (someO (vF 4)))))))))))))
def Cv : List D → Option D := runF 6 2 De
def R3 : FS := seqF (setF 6 (Cr (Cv) (Ab (vF 3) (Ab (vF 5) (nilA))))) (seqF (ifS (orT (notT (trF (Cr (Dv) (Ab (vF 6) (nilA))))) (notT (trF (Cr (Dv) (Ab (Cr (Cv) (Ab (vF 6) (Ab (vF 4) (nilA)))) (nilA)))))) (retF (kF (.bl false))) (nxF)) (setF 4 (vF 5)))
def X_ : FS := seqF (setF 1 (Cr (Ek) (Ab (Cr (Dk) (Ab (vF 0) (Ab (kF (.int 0)) (nilA)))) (nilA)))) (seqF (setF 2 (Cr (G8) (Ab (Cr (Dk) (Ab (vF 0) (Ab (kF (.int 1)) (nilA)))) (nilA)))) (seqF (setF 3 (bF ixD (Cr (G9) (Ab (slF (vF 0) (someO (kF (.int 3))) (someO (kF (.int 40)))) (Ab (vF 1) (Ab (vF 2) (nilA))))) (kF (.int 1)))) (seqF (setF 4 (Cr (Dk) (Ab (vF 0) (Ab (kF (.int 2)) (nilA))))) (seqF (forS (seqI (bF addD (lstF (Ab (kF (.int 5)) (Ab (kF (.int 8)) (nilA)))) (slF (vF 0) (someO (kF (.int 2))) (someO (kF (.int 16)))))) (J0 5) (R3)) (retF (Cr (Dv) (Ab (vF 3) (nilA))))))))
def T5 : List D → Option D := runF 7 1 X_
end K23
namespace K23
open PySem PySem.Spec L2 PV EX
open PyProof.Rows hiding St
def top (i : Nat) : Stmt := PySem.Challenge.pw_twinrounds_k23_whole_spoiled.main.body.getD i (.Pass ⟨0, 0, 0, 0⟩)
abbrev Em : Stmt := top 21
abbrev JD : Stmt := top 22
abbrev Mq : Stmt := top 20
abbrev J3 : Stmt := top 28
abbrev K9 : Stmt := top 29
abbrev J4 : Stmt := top 30
abbrev Mr : Stmt := top 31
abbrev Hr : Stmt := inClass (top 12) 0
abbrev Hs : Stmt := inClass (top 12) 1
abbrev Gj : Stmt := inClass (top 12) 2
abbrev Gk : Stmt := inClass (top 12) 5
abbrev K_ : Stmt := inClass (top 2) 0
abbrev J5 : Stmt := inClass (top 12) 3
abbrev Gm : Stmt := top 15
abbrev Ha : Stmt := inClass (top 12) 4
abbrev MP : Stmt := top 7
abbrev Hb : Stmt := top 13
abbrev Ms : Stmt := top 14
abbrev Hd : Stmt := top 16
abbrev J6 : Stmt := top 17
abbrev YB : Stmt := top 18
abbrev Mt : Stmt := top 34
abbrev LC : Stmt := top 24
abbrev Kd : Stmt := top 25
abbrev Mu : Stmt := top 23
abbrev LK : Stmt := top 26
abbrev LQ : Stmt := top 27
abbrev Mv : Stmt := top 32
abbrev Jf : Stmt := top 33
abbrev bN : Stmt := top 35
structure Tx (G : Gx) (mg : Str → Option Value) where
 C_Reader : Addr
 gc_Reader : G.cl "Reader" = some C_Reader
 cl_Reader : Cls G.K C_Reader
 mC_Reader : mg "Reader" = some (.ref C_Reader)
 x__law_words : Dx G.K mg "_law_words" Em ["_law_cell_here"]
 x__law_names : Dx G.K mg "_law_names" JD ["_law_cell_here"]
 x__law_cell : Dx G.K mg "_law_cell" Mq ["_law_script", "_law_k"]
 x__law_letter : Dx G.K mg "_law_letter" J3 ["_law_line", "_law_at"]
 x__law_plain : Dx G.K mg "_law_plain" K9 ["_law_line", "_law_at"]
 x__law_joined : Dx G.K mg "_law_joined" J4 ["_law_line", "_law_at"]
 x__law_read : Dx G.K mg "_law_read" Mr ["_law_line", "_law_at"]
 x_Reader___init__ : Ix G.K C_Reader "Reader.__init__" Hr ["self", "line"]
 x_Reader_is_ahead : Mx G.K C_Reader "is_ahead" "Reader.is_ahead" Hs ["self", "text"]
 x_Reader_is_at_letter : Mx G.K C_Reader "is_at_letter" "Reader.is_at_letter" Gj ["self"]
 x_Reader_take_letters : Mx G.K C_Reader "take_letters" "Reader.take_letters" Gk ["self"]
 x_Reader_take : Mx G.K C_Reader "take" "Reader.take" J5 ["self", "text"]
 x_read_both_or_either : Dx G.K mg "read_both_or_either" Gm ["reader"]
 x_Reader_take_name : Mx G.K C_Reader "take_name" "Reader.take_name" Ha ["self"]
 x_is_word : Dx G.K mg "is_word" MP ["text"]
 x_read_mark_or_tie : Dx G.K mg "read_mark_or_tie" Hb ["reader", "word"]
 x_read_same : Dx G.K mg "read_same" Ms ["reader", "name"]
 x_read_some_or_all : Dx G.K mg "read_some_or_all" Hd ["reader", "sort"]
 x_read_saying : Dx G.K mg "read_saying" J6 ["reader"]
 x_read : Dx G.K mg "read" YB ["line"]
 x__law_good : Dx G.K mg "_law_good" Mt ["_law_line"]
 x__law_shown : Dx G.K mg "_law_shown" LC ["_law_saying", "_law_texts"]
 x__law_put : Dx G.K mg "_law_put" Kd ["_law_row", "_law_saying", "_law_many"]
 x__law_atom : Dx G.K mg "_law_atom" Mu ["_law_number", "_law_marks", "_law_ties", "_law_names_here"]
 x__law_grown : Dx G.K mg "_law_grown" LK ["_law_row", "_law_cell_here", "_law_words_here", "_law_names_here"]
 x__law_whole : Dx G.K mg "_law_whole" LQ ["_law_cells", "_law_words_here", "_law_names_here"]
 x__law_sign : Dx G.K mg "_law_sign" Mv ["_law_cell_here"]
 x__law_spoiled : Dx G.K mg "_law_spoiled" Jf ["_law_line", "_law_cell_here"]
 x_law : Dx G.K mg "law" bN ["_law_script"]
 r : Rx G.K mg "RoundError"
 xt : XT G ["NoSaying"] r.R
 e_NoSaying : Xx G mg r.R "NoSaying" "line" "NoSaying.__init__" K_ ["self", "line"]
 nf_line : ∀ c C, (["NoSaying"] : List Str).contains c = true → G.xcl c = some C → Dy G.K C "line"
 z_all : mg "all" = none
 z_isinstance : mg "isinstance" = none
 z_len : mg "len" = none
 z_range : mg "range" = none
 z_tuple : mg "tuple" = none
 s_LETTERS : Sx mg "LETTERS" (.str "abcdefghijklmnopqrstuvwxyz")
 s_AND : Sx mg "AND" (.str " and ")
 s_OR : Sx mg "OR" (.str " or ")
 s_MOST_LETTERS : Sx mg "MOST_LETTERS" (.int 8)
 fl_line : ∀ c C, G.cl c = some C → Cls G.K C ∧ Dy G.K C "line"
 fl_at : ∀ c C, G.cl c = some C → Cls G.K C ∧ Dy G.K C "at"
 c_KEPT_TEXTS : Kx G mg "KEPT_TEXTS" K23.c_KEPT_TEXTS
 c_BINDERS : Kx G mg "BINDERS" K23.c_BINDERS
section
variable {P : Program} {w : World} {G : Gx} {mg : Str → Option Value} {base : Heap}
abbrev Ck : List Str := ["_law_cell_here", "_law_letters", "_law_number", "_law_base", "_law_k", "_law_at", "_law_found"]
theorem Cw : FnScope Ck ["_law_cell_here"] (Ae Em) := ⟨rfl, rfl, rfl, by decide +kernel, rfl, by decide +kernel, by decide +kernel⟩
theorem Ph (T : Tx G mg) : DOk P w base T.x__law_words 1 (spD G Ek) :=
 fnX (k := 0) (N := Ck) (b := Fg) T.x__law_words Cw fun _ _ _ _ _ _ hr => Ac (sF Cw.nd 1 (HJ)) (Ac (sF Cw.nd 2 (bMod (pU (bMul (vp 0) (iP))) (pU (Lw cT Za (iP) (iP))))) (Ac (sF Cw.nd 3 (HJ)) (Ac (Nu PassesOwn.never rfl (K4 rfl T.z_range (pU (bMod (vp 2) (iP)))) (K5 (gN Cw.nd 4)) (Ac (sF Cw.nd 3 (bAdd (vp 3) (pU (iD (vp 1) (pU (bMod (pU (bDiv (vp 2) (iP))) (iP))))))) (Ai (sF Cw.nd 2 (bDiv (vp 2) (iP)))))) (Ac (sF Cw.nd 5 (bMod (pU (bDiv (vp 2) (iP))) (pU (bAdd (pU (CZ (CG rfl) DN rfl T.z_len Dg (vp 3))) (iP))))) (Ac (Tp (i := 6) ["_law_cell_here", "_law_letters", "_law_number", "_law_base", "", "_law_at", "_law_found", "_law_k"] (by show Es "_law_k" Ck ++ (["_law_k"] : List Str) = _; decide +kernel) (cO (N := Ck) (sc := Ae Em) rfl rfl) rfl Cw.nd rfl (by first | exact Or.inl rfl | exact Or.inr rfl) (K4 rfl T.z_range (iP)) (fun _ _ _ => HQ) (fun _ _ _ => bAdd (pU (bAdd (pU (Bc rfl (vp 3) (Cu) (Ag (vp 5)))) (pU (iD (vp 1) (pU (bMod (pU (bAdd (pU (bDiv (vp 2) (iP))) (pU (bMul (iP) (vp 7))))) (iP))))))) (pU (Bc rfl (vp 3) (Ag (vp 5)) (Cu))))) (Ac (Ca (tEq hr (pU (bMod (vp 2) (iP))) (iP)) (Ac (sF Cw.nd 3 (Zi rfl (sP) (pU (Jr ["_law_cell_here", "_law_letters", "_law_number", "_law_base", "", "_law_at", "_law_found", "_law_k"] (by show Es "_law_k" Ck ++ (["_law_k"] : List Str) = _; decide +kernel) (cO (N := Ck) (sc := Ae Em) rfl rfl) rfl (K4 rfl T.z_range (iP)) (fun _ _ _ => HQ) (fun _ _ _ => iD (vp 1) (pU (bMod (pU (bDiv (vp 2) (pU (bAdd (iP) (pU (bMul (vp 7) (vp 7))))))) (iP)))))))) (Ai (Tp (i := 6) ["_law_cell_here", "_law_letters", "_law_number", "_law_base", "", "_law_at", "_law_found", "_law_k"] (by show Es "_law_k" Ck ++ (["_law_k"] : List Str) = _; decide +kernel) (cO (N := Ck) (sc := Ae Em) rfl rfl) rfl Cw.nd rfl (by first | exact Or.inl rfl | exact Or.inr rfl) (K4 rfl T.z_range (iP)) (fun _ _ _ => HQ) (fun _ _ _ => Bc rfl (vp 3) (Cu) (Ag (pU (bAdd (vp 7) (iP)))))))) (Bx)) (Ac (Ca (tGt (pU (CZ (CG rfl) DN rfl T.z_len Dg (pU (Jr (nT Ck "_law_word") (by show Es "_law_word" Ck ++ (["_law_word"] : List Str) = _; decide +kernel) (cO (N := Ck) (sc := Ae Em) rfl rfl) rfl (Ro rfl (vp 6)) (fun _ _ _ => Xb (Gw KZ (Ly false) (vp 7) (pU (Ew (iS (iS (iS (iS (iS (Ad)))))))) (by with_unfolding_all rfl))) (fun _ _ _ => vr 7))))) (iP)) (Ai (Ar (Jr (nT Ck "_law_word") (by show Es "_law_word" Ck ++ (["_law_word"] : List Str) = _; decide +kernel) (cO (N := Ck) (sc := Ae Em) rfl rfl) rfl (Ro rfl (vp 6)) (fun _ _ _ => HQ) (fun _ _ _ => bAdd (sP) (vp 7))))) (Bx)) (Ai (Ar (vr 6))))))))))
abbrev Gf : List Str := ["_law_cell_here", "_law_letters"]
theorem J7 : FnScope Gf ["_law_cell_here"] (Ae JD) := ⟨rfl, rfl, rfl, by decide +kernel, rfl, by decide +kernel, by decide +kernel⟩
theorem Pj (T : Tx G mg) : DOk P w base T.x__law_names 1 (spD G G8) :=
 fnX (k := 0) (N := Gf) (b := JB) T.x__law_names J7 fun _ _ _ _ _ _ hr => Ac (sF J7.nd 1 (HJ)) (Ai (Ar (Jr (nT Gf "_law_k") (by show Es "_law_k" Gf ++ (["_law_k"] : List Str) = _; decide +kernel) (cO (N := Gf) (sc := Ae JD) rfl rfl) rfl (K4 rfl T.z_range (iP)) (fun _ _ _ => HQ) (fun _ _ _ => iD (vp 1) (pU (bMod (pU (bAdd (pU (bMod (vp 0) (iP))) (pU (bMul (pU (bAdd (iP) (pU (bMul (pU (bMod (pU (bDiv (vp 0) (iP))) (iP))) (iP))))) (vp 2))))) (iP)))))))
abbrev Mw : List Str := ["_law_script", "_law_k"]
theorem R4 : FnScope Mw ["_law_script", "_law_k"] (Ae Mq) := ⟨rfl, rfl, rfl, by decide +kernel, rfl, by decide +kernel, by decide +kernel⟩
theorem JF (T : Tx G mg) : DOk P w base T.x__law_cell 1 (spD G Dk) :=
 fnX (k := 0) (N := Mw) (b := Ho) T.x__law_cell R4 fun _ _ _ _ _ _ hr => Ac (Ca (tLt (vp 1) (pU (CZ (CG rfl) DN rfl T.z_len Dg (vp 0)))) (Ai (Ar (iD (vp 0) (vp 1)))) (Bx)) (Ai (Ar (RX)))
abbrev J8 : List Str := ["_law_line", "_law_at"]
theorem O7 : FnScope J8 ["_law_line", "_law_at"] (Ae J3) := ⟨rfl, rfl, rfl, by decide +kernel, rfl, by decide +kernel, by decide +kernel⟩
theorem FW (T : Tx G mg) : DOk P w base T.x__law_letter 1 (spD G Cd) :=
 fnX (k := 0) (N := J8) (b := Fv) T.x__law_letter O7 fun _ _ _ _ _ _ hr => Ai (Ar (Oj (cNe hr (pU (Bc rfl (vp 0) (Ag (vp 1)) (Ag (pU (bAdd (vp 1) (iP)))))) (sP)) (Rc (Lx KZ (Ly false) (pU (iD (vp 0) (vp 1))) (sP) (by with_unfolding_all rfl)))))
abbrev La : List Str := ["_law_line", "_law_at", "_law_end", "_law_word"]
theorem Gu : FnScope La ["_law_line", "_law_at"] (Ae K9) := ⟨rfl, rfl, rfl, by decide +kernel, rfl, by decide +kernel, by decide +kernel⟩
theorem Pk (T : Tx G mg) : DOk P w base T.x__law_plain 2 (spD G CK) :=
 fnX (k := 1) (N := La) (b := Cq) T.x__law_plain Gu fun _ _ _ _ _ _ hr => Ac (sF Gu.nd 2 (vr 1)) (Ac (MF 3000 PassesOwn.never (Eb (pU (fX (FW T) hr (Aa (vr 0) (Aa (vr 2) (Ad) Ah) Ah))) rfl) (Ai (sF Gu.nd 2 (bAdd (vp 2) (iP))))) (Ac (sF Gu.nd 3 (Bc rfl (vp 0) (Ag (vp 1)) (Ag (vp 2)))) (Ac (Ca (PFW.pt (Jq (tEq hr (pU (CZ (CG rfl) DN rfl T.z_len Dg (vp 3))) (iP)) (Jq (tEq hr (pU (Bc rfl (vp 0) (Ag (vp 2)) (Ag (pU (bAdd (vp 2) (iP)))))) (sP)) (HN (Eb (pU (fX (FW T) hr (Aa (vr 0) (Aa (bAdd (vp 2) (iP)) (Ad) Ed) Ah))) rfl))))) (Ai (Ar (Ew (Aa (Fo (iS (Aa (vr 3) (Aa (iD (vp 0) (pU (bAdd (vp 2) (iP)))) (Ad) Ay) Ah))) (Aa (bAdd (vp 2) (iP)) (Ad) Ed) Ft)))) (Bx)) (Ac (Ca (PFW.pt (Iu (Gw KZ (Ly false) (vp 3) (pU (Ew (iS (iS (iS (iS (iS (iS (Ad))))))))) (by with_unfolding_all rfl)) (Iu (tGt (pU (CZ (CG rfl) DN rfl T.z_len Dg (vp 3))) (iP)) (HD (tNe hr (pU (Bc rfl (vp 0) (Ag (vp 2)) (Ag (pU (bAdd (vp 2) (iP)))))) (sP)))))) (Ai (Ar (HH))) (Bx)) (Ac (Ca (Iv (Eb (pU (fX (FW T) hr (Aa (vr 0) (Aa (bAdd (vp 2) (iP)) (Ad) Ed) Ah))) rfl)) (Ai (Ar (HH))) (Bx)) (Ac (Ca (tEq hr (pU (Bc rfl (vp 0) (Ag (pU (bAdd (vp 2) (iP)))) (Ag (pU (bAdd (vp 2) (iP)))))) (sP)) (Ai (Ar (Ew (Aa (Fo (iS (Aa (vr 3) (Aa (iD (vp 0) (pU (bAdd (vp 2) (iP)))) (Ad) Ay) Ah))) (Aa (bAdd (vp 2) (iP)) (Ad) Ed) Ft)))) (Bx)) (Ac (Ca (PFW.pt (Iu (tNe hr (pU (Bc rfl (vp 0) (Ag (pU (bAdd (vp 2) (iP)))) (Ag (pU (bAdd (vp 2) (iP)))))) (sP)) (Iu (Iv (Eb (pU (fX (FW T) hr (Aa (vr 0) (Aa (bAdd (vp 2) (iP)) (Ad) Ed) Ah))) rfl)) (HD (tNe hr (pU (Bc rfl (vp 0) (Ag (pU (bAdd (vp 2) (iP)))) (Ag (pU (bAdd (vp 2) (iP)))))) (sP)))))) (Ai (Ar (HH))) (Bx)) (Ai (Ar (Ew (Aa (Fo (iS (Aa (vr 3) (Aa (iD (vp 0) (pU (bAdd (vp 2) (iP)))) (Aa (iD (vp 0) (pU (bAdd (vp 2) (iP)))) (Ad) Ay) Ay) Ah))) (Aa (bAdd (vp 2) (iP)) (Ad) Ed) Ft)))))))))))
abbrev J9 : List Str := ["_law_line", "_law_at", "_law_one", "_law_sort", "_law_to", "_law_other"]
theorem Fb : FnScope J9 ["_law_line", "_law_at"] (Ae J4) := ⟨rfl, rfl, rfl, by decide +kernel, rfl, by decide +kernel, by decide +kernel⟩
theorem O8 (T : Tx G mg) {m : Nat} {rec__law_read : List D → Option D} (hm : 2 ≤ m) (hrec : DOk P w base T.x__law_read m (spD G rec__law_read)) : DOk P w base T.x__law_joined (m + 1) (spD G (Ce rec__law_read)) :=
 fnX (k := m + 0) (N := J9) (b := DK rec__law_read) T.x__law_joined Fb fun _ _ _ _ _ _ hr => Ac (sF Fb.nd 2 (fX (hrec) hr (Aa (vr 0) (Aa (vr 1) (Ad) Ah) Ah))) (Ac (Ca (K6 (vp 2)) (Ai (Ar (HH))) (Bx)) (Ac (Vx (i := 3) (j := 4) Fb.nd (iS (Aa (bAdd (pU (iD (vp 2) (iP))) (iP)) (Ad) Ed))) (Ac (Ca (tNe hr (pU (Bc rfl (vp 0) (Ag (pU (iD (vp 2) (iP)))) (Ag (vp 4)))) (sP)) (Ac (Vx (i := 3) (j := 4) Fb.nd (iS (Aa (bAdd (pU (iD (vp 2) (iP))) (iP)) (Ad) Ed))) (Ai (Ca (tNe hr (pU (Bc rfl (vp 0) (Ag (pU (iD (vp 2) (iP)))) (Ag (vp 4)))) (sP)) (Ai (Ar (HH))) (Bx)))) (Bx)) (Ac (sF Fb.nd 5 (fX (hrec) hr (Aa (vr 0) (Aa (vr 4) (Ad) Ah) Ah))) (Ac (Ca (PFW.pt (Iu (K6 (vp 5)) (HD (tNe hr (pU (Bc rfl (vp 0) (Ag (pU (iD (vp 5) (iP)))) (Ag (pU (bAdd (pU (iD (vp 5) (iP))) (iP)))))) (sP))))) (Ai (Ar (HH))) (Bx)) (Ai (Ar (Ew (Aa (Fo (Aa (vr 3) (Aa (iD (vp 2) (iP)) (Aa (iD (vp 5) (iP)) (Ad) Ay) Ay) Ah)) (Aa (bAdd (pU (iD (vp 5) (iP))) (iP)) (Ad) Ed) Ft)))))))))
abbrev My : List Str := ["_law_line", "_law_at", "_law_inner", "_law_sort", "_law_to"]
theorem Fi : FnScope My ["_law_line", "_law_at"] (Ae Mr) := ⟨rfl, rfl, rfl, by decide +kernel, rfl, by decide +kernel, by decide +kernel⟩
theorem G_ (T : Tx G mg) : ∀ n : Nat, DOk P w base T.x__law_read (n * 2 + 2) (spD G (Bf n))
 | 0 => Zk
 | n + 1 => (fnX (k := n * 2 + 3) (N := My) (b := Dm (Bf n)) T.x__law_read Fi fun _ _ _ _ _ _ hr => Ac (Ca (tEq hr (pU (Bc rfl (vp 0) (Ag (vp 1)) (Ag (pU (bAdd (vp 1) (iP)))))) (sP)) (Ai (Ar (fX (O8 T (by omega) (G_ T n)) hr (Aa (vr 0) (Aa (bAdd (vp 1) (iP)) (Ad) Ed) Ah)))) (Bx)) (Ac (Ca (tEq hr (pU (Bc rfl (vp 0) (Ag (vp 1)) (Ag (pU (bAdd (vp 1) (iP)))))) (sP)) (Ac (sF Fi.nd 2 (fX (G_ T n) hr (Aa (vr 0) (Aa (bAdd (vp 1) (iP)) (Ad) Ed) Ah))) (Ac (Ca (K6 (vp 2)) (Ai (Ar (HH))) (Bx)) (Ai (Ar (Ew (Aa (Fo (iS (Aa (iD (vp 2) (iP)) (Ad) Ay))) (Aa (iD (vp 2) (iP)) (Ad) Ay) Ft)))))) (Bx)) (Ac (Nu PassesOwn.never rfl (Nr rfl (Ew (iS (iS (Ad))))) (K5 (gN Fi.nd 3)) (Ac (sF Fi.nd 4 (bAdd (pU (bAdd (vp 1) (pU (CZ (CG rfl) DN rfl T.z_len Dg (vp 3))))) (iP))) (Ai (Ca (tEq hr (pU (Bc rfl (vp 0) (Ag (vp 1)) (Ag (vp 4)))) (pU (bAdd (vp 3) (sP)))) (Ac (sF Fi.nd 2 (HH)) (Ac (Ca (PFW.pt (Jq (Eb (pU (fX (FW T) hr (Aa (vr 0) (Aa (vr 4) (Ad) Ah) Ah))) rfl) (HN (tEq hr (pU (Bc rfl (vp 0) (Ag (pU (bAdd (vp 4) (iP)))) (Ag (pU (bAdd (vp 4) (iP)))))) (sP))))) (Ai (sF Fi.nd 2 (fX (G_ T n) hr (Aa (vr 0) (Aa (bAdd (vp 4) (iP)) (Ad) Ed) Ah)))) (Bx)) (Ac (Ca (K6 (vp 2)) (Ai (Ar (HH))) (Bx)) (Ai (Ar (Ew (Aa (Fo (Aa (vr 3) (Aa (iD (vp 0) (vp 4)) (Aa (iD (vp 2) (iP)) (Ad) Ay) Ay) Ah)) (Aa (iD (vp 2) (iP)) (Ad) Ay) Ft))))))) (Bx))))) (Ai (Ar (fX (Pk T) hr (Aa (vr 0) (Aa (vr 1) (Ad) Ah) Ah))))))).mono (by omega)
abbrev Ht : List Str := ["self", "line"]
theorem Ke : FnScope Ht ["self", "line"] (Ae Hr) := ⟨rfl, rfl, rfl, by decide +kernel, rfl, by decide +kernel, by decide +kernel⟩
theorem Kf (T : Tx G mg) : FnOk P w G.K mg base CX0 1 T.x_Reader___init__.f T.x_Reader___init__.fd ["self", "line"] (spS G Ez) :=
 fn_S (k := 0) (N := Ht) (b := GZ) T.x_Reader___init__.F Ke (by decide) fun y _ _ _ _ _ _ hr => Ac (Jd T.fl_line (pv 0) (vr 1)) (Ai (Jd T.fl_at (pv 0) (RX)))
abbrev Hu : List Str := ["self", "text"]
theorem Kg : FnScope Hu ["self", "text"] (Ae Hs) := ⟨rfl, rfl, rfl, by decide +kernel, rfl, by decide +kernel, by decide +kernel⟩
theorem DX (T : Tx G mg) : FnOk P w G.K mg base CX0 1 T.x_Reader_is_ahead.f T.x_Reader_is_ahead.fd ["self", "text"] (spD G Bh) :=
 fn_D (k := 0) (N := Hu) (b := Ga) T.x_Reader_is_ahead.F Kg (by decide) fun _ _ _ _ _ _ hr => Ai (Ar (cEq hr (pU (Bc rfl (pU (D_ T.fl_line (vp 0))) (Ag (pU (D_ T.fl_at (vp 0)))) (Ag (pU (bAdd (pU (D_ T.fl_at (vp 0))) (pU (CZ (CG rfl) DN rfl T.z_len Dg (vp 1)))))))) (vp 1)))
abbrev Gn : List Str := ["self"]
theorem JG : FnScope Gn ["self"] (Ae Gj) := ⟨rfl, rfl, rfl, by decide +kernel, rfl, by decide +kernel, by decide +kernel⟩
theorem Gg (T : Tx G mg) : FnOk P w G.K mg base CX0 1 T.x_Reader_is_at_letter.f T.x_Reader_is_at_letter.fd ["self"] (spD G CJ) :=
 fn_D (k := 0) (N := Gn) (b := Dq) T.x_Reader_is_at_letter.F JG (by decide) fun _ _ _ _ _ _ hr => Ai (Ar (Oj (Lx ao XN (pU (D_ T.fl_at (vp 0))) (pU (CZ (CG rfl) DN rfl T.z_len Dg (pU (D_ T.fl_line (vp 0))))) (KJ _)) (Rc (Lx KZ (Ly false) (pU (iD (pU (D_ T.fl_line (vp 0))) (pU (D_ T.fl_at (vp 0))))) (pU (G5 (Hl (v := (.str "abcdefghijklmnopqrstuvwxyz")) rfl T.s_LETTERS.m ⟨_, rfl⟩) (.str _))) (by with_unfolding_all rfl)))))
abbrev Gp : List Str := ["self", "start"]
theorem Gh : FnScope Gp ["self"] (Ae Gk) := ⟨rfl, rfl, rfl, by decide +kernel, rfl, by decide +kernel, by decide +kernel⟩
theorem JH (T : Tx G mg) : FnOk P w G.K mg base CX0 2 T.x_Reader_take_letters.f T.x_Reader_take_letters.fd ["self"] (spS G Dr) :=
 fn_S (k := 1) (N := Gp) (b := Ex) T.x_Reader_take_letters.F Gh (by decide) fun y _ _ _ _ _ _ hr => Ac (sF Gh.nd 1 (D_ T.fl_at (vq 0))) (Ac (MF 3000 PassesOwn.never (Eb (pU (Qc T.gc_Reader T.cl_Reader T.x_Reader_is_at_letter.me (K7 (Gg T)) (hr.mono (by omega)) T.x_Reader_is_at_letter.B (pv 0))) rfl) (Ai (Jd T.fl_at (pv 0) (bAdd (pU (D_ T.fl_at (vq 0))) (iP))))) (Ai (Ar (Bc rfl (pU (D_ T.fl_line (vq 0))) (Ag (vp 1)) (Ag (pU (D_ T.fl_at (vq 0))))))))
abbrev R5 : List Str := ["self", "line"]
theorem Pn : FnScope R5 ["self", "line"] (Ae K_) := ⟨rfl, rfl, rfl, by decide +kernel, rfl, by decide +kernel, by decide +kernel⟩
theorem GD (T : Tx G mg) : FnOk P w G.K mg base CX0 1 T.e_NoSaying.fi T.e_NoSaying.fd ["self", "line"] (spE G.K "line" okS) :=
 T.e_NoSaying.F.ok Pn (fun vs H Q E h => Z7 h) fun cdv A outer s H vs Q E hr h => ⟨_, N6 (U0 (Xv rfl T.r.m T.r.h1 T.r.h2 T.r.h3 (Fx (pv 0) (Fx (Xu (Z5 (pv 1)) dj) JT)))) (Qi (Z6 (pv 0) (pv 1) rfl)), We h rfl dm⟩
abbrev J_ : List Str := ["self", "text"]
theorem O9 : FnScope J_ ["self", "text"] (Ae J5) := ⟨rfl, rfl, rfl, by decide +kernel, rfl, by decide +kernel, by decide +kernel⟩
theorem Cp (T : Tx G mg) : FnOk P w G.K mg base (CX1 P w) 3 T.x_Reader_take.f T.x_Reader_take.fd ["self", "text"] (spSZ G Bk) :=
 O3 (k := 2) (N := J_) (b := Gs) T.x_Reader_take.F.d O9 (by decide) fun y _ _ _ _ _ _ hr => By (HR (Iv (Eb (pU (Ii T.gc_Reader T.cl_Reader T.x_Reader_is_ahead.me (K7 (DX T)) (hr.mono (by omega)) T.x_Reader_is_ahead.B (pv 0) (Aa (vr 1) (Ad) Ah))) rfl)) (Df (rZ (x := T.e_NoSaying.lend (y := y)) (GD T) hr Jt (D_ T.fl_line (vq 0)))) (GQ)) (Df (PSD.x (Jd T.fl_at (pv 0) (bAdd (pU (D_ T.fl_at (vq 0))) (pU (CZ (CG rfl) DN rfl T.z_len Dg (vp 1)))))))
abbrev Gq : List Str := ["reader", "first", "sort", "second"]
theorem Di : FnScope Gq ["reader"] (Ae Gm) := ⟨rfl, rfl, rfl, by decide +kernel, rfl, by decide +kernel, by decide +kernel⟩
theorem JK (T : Tx G mg) {m : Nat} {rec_read_saying : List D → Option (D × D)} (hm : 4 ≤ m) (hrec : FnOk P w G.K mg base (CX1 P w) m T.x_read_saying.f T.x_read_saying.fd ["reader"] (spSZ G rec_read_saying)) : FnOk P w G.K mg base (CX1 P w) (m + 1) T.x_read_both_or_either.f T.x_read_both_or_either.fd ["reader"] (spSZ G (Ax rec_read_saying)) :=
 O3 (k := m + 0) (N := Gq) (b := Be rec_read_saying) T.x_read_both_or_either.F Di (by decide) fun y _ _ _ _ _ _ hr => By (FJ (mXZ (d := T.x_Reader_take) T.gc_Reader T.cl_Reader (Dn (Cp T)) hr (pv 0) (iS (Ad)))) (By (sXZ Di.nd 1 (fXZ (Dn (hrec)) hr (pv 0) (Ad))) (By (PSD.x (sF Di.nd 2 (bK (Eb (pU (Ii T.gc_Reader T.cl_Reader T.x_Reader_is_ahead.me (K7 (DX T)) (hr.mono (by omega)) T.x_Reader_is_ahead.B (pv 0) (Aa (G5 (Hl (v := (.str " and ")) rfl T.s_AND.m ⟨_, rfl⟩) (.str _)) (Ad) Ah))) rfl) (HJ) (HJ)))) (By (FJ (mXZ (d := T.x_Reader_take) T.gc_Reader T.cl_Reader (Dn (Cp T)) hr (pv 0) (Aa (bK (tEq hr (vp 2) (sP)) (G5 (Hl (v := (.str " and ")) rfl T.s_AND.m ⟨_, rfl⟩) (.str _)) (G5 (Hl (v := (.str " or ")) rfl T.s_OR.m ⟨_, rfl⟩) (.str _))) (Ad) X8))) (By (sXZ Di.nd 3 (fXZ (Dn (hrec)) hr (pv 0) (Ad))) (By (FJ (mXZ (d := T.x_Reader_take) T.gc_Reader T.cl_Reader (Dn (Cp T)) hr (pv 0) (iS (Ad)))) (Df (PSD.x (Ar (Fo (Aa (vr 2) (Aa (vr 1) (Aa (vr 3) (Ad) Ah) Ah) Ah))))))))))
abbrev Hg : List Str := ["self"]
theorem Jx : FnScope Hg ["self"] (Ae Ha) := ⟨rfl, rfl, rfl, by decide +kernel, rfl, by decide +kernel, by decide +kernel⟩
theorem Ec (T : Tx G mg) : FnOk P w G.K mg base (CX1 P w) 3 T.x_Reader_take_name.f T.x_Reader_take_name.fd ["self"] (spSZ G CV) :=
 O3 (k := 2) (N := Hg) (b := El) T.x_Reader_take_name.F.d Jx (by decide) fun y _ _ _ _ _ _ hr => By (HR (Iv (Eb (pU (Qc T.gc_Reader T.cl_Reader T.x_Reader_is_at_letter.me (K7 (Gg T)) (hr.mono (by omega)) T.x_Reader_is_at_letter.B (pv 0))) rfl)) (Df (rZ (x := T.e_NoSaying.lend (y := y)) (GD T) hr Jt (D_ T.fl_line (vq 0)))) (GQ)) (By (PSD.x (Jd T.fl_at (pv 0) (bAdd (pU (D_ T.fl_at (vq 0))) (iP)))) (Df (PSD.x (Ar (iD (pU (D_ T.fl_line (vq 0))) (pU (bSub (pU (D_ T.fl_at (vq 0))) (iP))))))))
abbrev Il : List Str := ["text"]
theorem Uq : FnScope Il ["text"] (Ae MP) := ⟨rfl, rfl, rfl, by decide +kernel, rfl, by decide +kernel, by decide +kernel⟩
theorem Ur (T : Tx G mg) : DOk P w base T.x_is_word 1 (spD G F_) :=
 fnX (k := 0) (N := Il) (b := HF) T.x_is_word Uq fun _ _ _ _ _ _ hr => Ac (Ca (PFW.pt (Iu (tIn hr (vp 0) (pU (G5 (Hl (v := .ref T.c_KEPT_TEXTS.a) rfl T.c_KEPT_TEXTS.m rfl) T.c_KEPT_TEXTS.r))) (Iu (tEq hr (pU (CZ ((CG rfl).or Ou) Tq rfl T.z_len Dg (vp 0))) (iP)) (HD (tGt (pU (CZ ((CG rfl).or Ou) Tq rfl T.z_len Dg (vp 0))) (pU (G5 (Hl (v := (.int 8)) rfl T.s_MOST_LETTERS.m ⟨_, rfl⟩) (.int _)))))))) (Ai (Ar (bI))) (Bx)) (Ai (Ar (CZ (Wc rfl) Zt rfl T.z_all dY (pU (Jr (nT Il "letter") (by show Es "letter" Il ++ (["letter"] : List Str) = _; decide +kernel) (cO (N := Il) (sc := Ae MP) rfl rfl) rfl (PFI.top (Xj rfl (vr 0))) (fun _ _ _ => HQ) (fun _ _ _ => cIn hr (vp 1) (pU (G5 (Hl (v := (.str "abcdefghijklmnopqrstuvwxyz")) rfl T.s_LETTERS.m ⟨_, rfl⟩) (.str _)))))))))
abbrev Hh : List Str := ["reader", "word", "first", "second"]
theorem Fp : FnScope Hh ["reader", "word"] (Ae Hb) := ⟨rfl, rfl, rfl, by decide +kernel, rfl, by decide +kernel, by decide +kernel⟩
theorem Jy (T : Tx G mg) : FnOk P w G.K mg base (CX1 P w) 4 T.x_read_mark_or_tie.f T.x_read_mark_or_tie.fd ["reader", "word"] (spSZ G Bl) :=
 O3 (k := 3) (N := Hh) (b := B_) T.x_read_mark_or_tie.F Fp (by decide) fun y _ _ _ _ _ _ hr => By (HR (Iv (Eb (pU (fX (K7 (Ur T)) hr (Aa (vr 1) (Ad) Ah))) rfl)) (Df (rZ (x := T.e_NoSaying.lend (y := y)) (GD T) hr Jt (D_ T.fl_line (vq 0)))) (GQ)) (By (FJ (mXZ (d := T.x_Reader_take) T.gc_Reader T.cl_Reader (Dn (Cp T)) hr (pv 0) (iS (Ad)))) (By (sXZ Fp.nd 2 (mXZ0 (d := T.x_Reader_take_name) T.gc_Reader T.cl_Reader (Dn (Ec T)) hr (pv 0))) (By (HR (Eb (pU (Ii T.gc_Reader T.cl_Reader T.x_Reader_is_ahead.me (K7 (DX T)) (hr.mono (by omega)) T.x_Reader_is_ahead.B (pv 0) (iS (Ad)))) rfl) (By (FJ (mXZ (d := T.x_Reader_take) T.gc_Reader T.cl_Reader (Dn (Cp T)) hr (pv 0) (iS (Ad)))) (Df (PSD.x (Ar (Fo (iS (Aa (vr 1) (Aa (vr 2) (Ad) Ah) Ah))))))) (GQ)) (By (FJ (mXZ (d := T.x_Reader_take) T.gc_Reader T.cl_Reader (Dn (Cp T)) hr (pv 0) (iS (Ad)))) (By (sXZ Fp.nd 3 (mXZ0 (d := T.x_Reader_take_name) T.gc_Reader T.cl_Reader (Dn (Ec T)) hr (pv 0))) (By (FJ (mXZ (d := T.x_Reader_take) T.gc_Reader T.cl_Reader (Dn (Cp T)) hr (pv 0) (iS (Ad)))) (Df (PSD.x (Ar (Fo (iS (Aa (vr 1) (Aa (vr 2) (Aa (vr 3) (Ad) Ah) Ah) Ah))))))))))))
abbrev Mz : List Str := ["reader", "name"]
theorem R6 : FnScope Mz ["reader", "name"] (Ae Ms) := ⟨rfl, rfl, rfl, by decide +kernel, rfl, by decide +kernel, by decide +kernel⟩
theorem R7 (T : Tx G mg) : FnOk P w G.K mg base (CX1 P w) 4 T.x_read_same.f T.x_read_same.fd ["reader", "name"] (spSZ G Ei) :=
 O3 (k := 3) (N := Mz) (b := GC) T.x_read_same.F R6 (by decide) fun y _ _ _ _ _ _ hr => By (HR (tNe hr (pU (CZ (CG rfl) DN rfl T.z_len Dg (vp 1))) (iP)) (Df (rZ (x := T.e_NoSaying.lend (y := y)) (GD T) hr Jt (D_ T.fl_line (vq 0)))) (GQ)) (By (FJ (mXZ (d := T.x_Reader_take) T.gc_Reader T.cl_Reader (Dn (Cp T)) hr (pv 0) (iS (Ad)))) (Df (I_ (R1 (Ik (HJ) (Ik (vr 1) (MK (mXZ0 (d := T.x_Reader_take_name) T.gc_Reader T.cl_Reader (Dn (Ec T)) hr (pv 0)))))))))
abbrev Hi : List Str := ["reader", "sort", "name"]
theorem G7 : FnScope Hi ["reader", "sort"] (Ae Hd) := ⟨rfl, rfl, rfl, by decide +kernel, rfl, by decide +kernel, by decide +kernel⟩
theorem Jz (T : Tx G mg) {m : Nat} {rec_read_saying : List D → Option (D × D)} (hm : 4 ≤ m) (hrec : FnOk P w G.K mg base (CX1 P w) m T.x_read_saying.f T.x_read_saying.fd ["reader"] (spSZ G rec_read_saying)) : FnOk P w G.K mg base (CX1 P w) (m + 1) T.x_read_some_or_all.f T.x_read_some_or_all.fd ["reader", "sort"] (spSZ G (CW rec_read_saying)) :=
 O3 (k := m + 0) (N := Hi) (b := Cz rec_read_saying) T.x_read_some_or_all.F G7 (by decide) fun y _ _ _ _ _ _ hr => By (FJ (mXZ (d := T.x_Reader_take) T.gc_Reader T.cl_Reader (Dn (Cp T)) hr (pv 0) (iS (Ad)))) (By (sXZ G7.nd 2 (mXZ0 (d := T.x_Reader_take_name) T.gc_Reader T.cl_Reader (Dn (Ec T)) hr (pv 0))) (By (FJ (mXZ (d := T.x_Reader_take) T.gc_Reader T.cl_Reader (Dn (Cp T)) hr (pv 0) (iS (Ad)))) (Df (I_ (R1 (Ik (vr 1) (Ik (vr 2) (MK (fXZ (Dn (hrec)) hr (pv 0) (Ad))))))))))
abbrev KC : List Str := ["reader", "letters"]
theorem Jg : FnScope KC ["reader"] (Ae J6) := ⟨rfl, rfl, rfl, by decide +kernel, rfl, by decide +kernel, by decide +kernel⟩
theorem Gi (T : Tx G mg) : ∀ n : Nat, FnOk P w G.K mg base (CX1 P w) (n * 2 + 4) T.x_read_saying.f T.x_read_saying.fd ["reader"] (spSZ G (Av n))
 | 0 => Wg
 | n + 1 => (O3 (k := n * 2 + 5) (N := KC) (b := CQ (Av n)) T.x_read_saying.F Jg (by decide) fun y _ _ _ _ _ _ hr => By (HR (Eb (pU (Ii T.gc_Reader T.cl_Reader T.x_Reader_is_ahead.me (K7 (DX T)) (hr.mono (by omega)) T.x_Reader_is_ahead.B (pv 0) (iS (Ad)))) rfl) (Df (I_ (fXZ (Dn (JK T (by omega) (Gi T n))) hr (pv 0) (Ad)))) (GQ)) (By (PSD.x (Zw (i := 1) (fun _ h => N7 Jg.nd rfl (by first | exact Or.inl rfl | exact Or.inr rfl) h) (Xm T.gc_Reader T.cl_Reader T.x_Reader_take_letters.me (gq (JH T)) (hr.mono (by omega)) T.x_Reader_take_letters.B (pv 0)))) (By (HR (Eb (pU (Ii T.gc_Reader T.cl_Reader T.x_Reader_is_ahead.me (K7 (DX T)) (hr.mono (by omega)) T.x_Reader_is_ahead.B (pv 0) (iS (Ad)))) rfl) (Df (I_ (fXZ (Dn (Jy T)) hr (pv 0) (Aa (vr 1) (Ad) Ah)))) (GQ)) (By (HR (Eb (pU (Ii T.gc_Reader T.cl_Reader T.x_Reader_is_ahead.me (K7 (DX T)) (hr.mono (by omega)) T.x_Reader_is_ahead.B (pv 0) (iS (Ad)))) rfl) (Df (I_ (fXZ (Dn (R7 T)) hr (pv 0) (Aa (vr 1) (Ad) Ah)))) (GQ)) (By (HR (Gw KZ (Ly false) (vp 1) (pU (G5 (Hl (v := .ref T.c_BINDERS.a) rfl T.c_BINDERS.m rfl) T.c_BINDERS.r.lend)) (by with_unfolding_all rfl)) (Df (I_ (fXZ (Dn (Jz T (by omega) (Gi T n))) hr (pv 0) (Aa (vr 1) (Ad) Ah)))) (GQ)) (By (HR (tNe hr (vp 1) (sP)) (Df (rZ (x := T.e_NoSaying.lend (y := y)) (GD T) hr Jt (D_ T.fl_line (vq 0)))) (GQ)) (By (FJ (mXZ (d := T.x_Reader_take) T.gc_Reader T.cl_Reader (Dn (Cp T)) hr (pv 0) (iS (Ad)))) (Df (I_ (R1 (Ik (HJ) (MK (fXZ (Dn (Gi T n)) hr (pv 0) (Ad)))))))))))))).mono (by omega)
abbrev YC : List Str := ["line", "reader", "saying"]
theorem R8 : FnScope YC ["line"] (Ae YB) := ⟨rfl, rfl, rfl, by decide +kernel, rfl, by decide +kernel, by decide +kernel⟩
theorem aF (T : Tx G mg) : FnOk P w G.K mg base (CX1 P w) 215 T.x_read.f T.x_read.fd ["line"] (spZ G MN) :=
 fnZ (k := 214) (N := YC) (b := O6) T.x_read R8 fun _ _ _ _ _ _ hr => By (PSD.x (sW R8.nd 1 (Zx T.gc_Reader T.x_Reader___init__.mM (Kf T) (hr.mono (by omega)) rfl T.mC_Reader T.x_Reader___init__.B (Aa (vr 0) (Ad) Ah)))) (By (sXZ R8.nd 2 (fXZ (Gi T 105) hr (pv 1) (Ad))) (By (HR (tLt (pU (D_ T.fl_at (vq 1))) (pU (CZ (CG rfl) DN rfl T.z_len Dg (vp 0)))) (Df (rZ (x := T.e_NoSaying) (GD T) hr Jt (vr 0))) (GQ)) (Df (PSD.x (Ar (vr 2))))))
abbrev M3 : List Str := ["_law_line", "_law_due", "_law_found", "_law_refused", "e"]
theorem En : FnScope M3 ["_law_line"] (Ae Mt) := ⟨rfl, rfl, rfl, by decide +kernel, rfl, by decide +kernel, by decide +kernel⟩
theorem JL (T : Tx G mg) : DOk P w base T.x__law_good 216 (spD G Dv) :=
 fnX (k := 215) (N := M3) (b := Gz) T.x__law_good En fun _ _ _ _ _ _ hr => Ac (sF En.nd 1 (fX (G_ T 105) hr (Aa (vr 0) (iI (Ad)) Ah))) (Ac (sF En.nd 2 (HH)) (Ac (sF En.nd 3 (HH)) (Ac (Z9 (cs := ["NoSaying"]) (i := 4) rfl rfl En.nd rfl rfl rfl T.e_NoSaying.m T.e_NoSaying.xc.obj (aD T.e_NoSaying) (fun _ _ => Df (sZ En.nd 2 (fZ (aF T) hr (Aa (vr 0) (Ad) Ah)))) (fun _ => Ai (sF En.nd 3 (vr 4)))) (Ac (Ca (PFW.pt (Iu (K6 (vp 1)) (HD (tNe hr (pU (iD (vp 1) (iP))) (pU (CZ (CG rfl) DN rfl T.z_len Dg (vp 0))))))) (Ai (Ar (Oj (Zu (vp 3)) (Rc (cEq hr (pU (aA rfl T.xt (vr 3) T.nf_line)) (vp 0)))))) (Bx)) (Ai (Ar (Oj (dZ (vp 3)) (Oj (dU WY rfl rfl T.z_isinstance Pg rfl T.z_tuple Xl (vp 2)) (Rc (cEq hr (vp 2) (pU (iD (vp 1) (iP)))))))))))))
abbrev Lb : List Str := ["_law_saying", "_law_texts", "_law_sort"]
theorem KD : FnScope Lb ["_law_saying", "_law_texts"] (Ae LC) := ⟨rfl, rfl, rfl, by decide +kernel, rfl, by decide +kernel, by decide +kernel⟩
theorem Pq (T : Tx G mg) : DOk P w base T.x__law_shown 1 (spD G Bj) :=
 fnX (k := 0) (N := Lb) (b := DY) T.x__law_shown KD fun _ _ _ _ _ _ hr => Ac (sF KD.nd 2 (iD (vp 0) (iP))) (Ac (Ca (tEq hr (vp 2) (sP)) (Ai (Ar (bAdd (pU (bAdd (pU (iD (vp 0) (iP))) (sP))) (pU (iD (vp 0) (iP)))))) (Bx)) (Ac (Ca (tEq hr (vp 2) (sP)) (Ai (Ar (bAdd (pU (bAdd (pU (bAdd (pU (iD (vp 0) (iP))) (sP))) (pU (iD (vp 0) (iP))))) (sP)))) (Bx)) (Ac (Ca (tEq hr (vp 2) (sP)) (Ai (Ar (bAdd (pU (bAdd (pU (bAdd (pU (bAdd (pU (bAdd (pU (iD (vp 0) (iP))) (sP))) (pU (iD (vp 0) (iP))))) (sP))) (pU (iD (vp 0) (iP))))) (sP)))) (Bx)) (Ac (Ca (tEq hr (vp 2) (sP)) (Ai (Ar (bAdd (sP) (pU (iD (vp 1) (iP)))))) (Bx)) (Ac (Ca (tEq hr (vp 2) (sP)) (Ai (Ar (bAdd (pU (bAdd (pU (bAdd (pU (bAdd (sP) (pU (iD (vp 1) (iP))))) (sP))) (pU (iD (vp 1) (iP))))) (sP)))) (Bx)) (Ac (Ca (tEq hr (vp 2) (sP)) (Ai (Ar (bAdd (pU (bAdd (pU (bAdd (pU (bAdd (sP) (pU (iD (vp 1) (iP))))) (sP))) (pU (iD (vp 1) (iP))))) (sP)))) (Bx)) (Ai (Ar (bAdd (pU (bAdd (pU (bAdd (pU (bAdd (vp 2) (sP))) (pU (iD (vp 0) (iP))))) (sP))) (pU (iD (vp 1) (iP))))))))))))
abbrev Hj : List Str := ["_law_row", "_law_saying", "_law_many", "_law_made"]
theorem M4 : FnScope Hj ["_law_row", "_law_saying", "_law_many"] (Ae Kd) := ⟨rfl, rfl, rfl, by decide +kernel, rfl, by decide +kernel, by decide +kernel⟩
theorem GF (T : Tx G mg) : DOk P w base T.x__law_put 2 (spD G EY) :=
 fnX (k := 1) (N := Hj) (b := Kc) T.x__law_put M4 fun _ _ _ _ _ _ hr => Ac (sF M4.nd 3 (fX (Pq T) hr (Aa (vr 1) (Aa (Jr (nT Hj "_law_one") (by show Es "_law_one" Hj ++ (["_law_one"] : List Str) = _; decide +kernel) (cO (N := Hj) (sc := Ae Kd) rfl rfl) rfl (Ro rfl (pU (Bc rfl (vp 0) (Ag (pU (bSub (pU (CZ (CG rfl) DN rfl T.z_len Dg (vp 0))) (vp 2)))) (Cu)))) (fun _ _ _ => HQ) (fun _ _ _ => iD (vp 4) (iP))) (Ad) T4) Ah))) (Ai (Ar (bAdd (pU (Bc rfl (vp 0) (Cu) (Ag (pU (bSub (pU (CZ (CG rfl) DN rfl T.z_len Dg (vp 0))) (vp 2)))))) (pU (Ew (Aa (Ew (Aa (vr 1) (Aa (vr 3) (Ad) Ah) Ah)) (Ad) Vw))))))
abbrev M5 : List Str := ["_law_number", "_law_marks", "_law_ties", "_law_names_here", "_law_one", "_law_other"]
theorem JM : FnScope M5 ["_law_number", "_law_marks", "_law_ties", "_law_names_here"] (Ae Mu) := ⟨rfl, rfl, rfl, by decide +kernel, rfl, by decide +kernel, by decide +kernel⟩
theorem Ld (T : Tx G mg) : DOk P w base T.x__law_atom 1 (spD G Dw) :=
 fnX (k := 0) (N := M5) (b := FQ) T.x__law_atom JM fun _ _ _ _ _ _ hr => Ac (sF JM.nd 4 (iD (vp 3) (pU (bMod (pU (bDiv (vp 0) (iP))) (iP))))) (Ac (sF JM.nd 5 (iD (vp 3) (pU (bMod (pU (bDiv (vp 0) (iP))) (iP))))) (Ac (Ca (PFW.pt (Jq (tEq hr (pU (bMod (vp 0) (iP))) (iP)) (HN (tNe hr (vp 1) (pU (Ew (Ad))))))) (Ai (Ar (Fo (iS (Aa (iD (vp 1) (pU (bMod (pU (bDiv (vp 0) (iP))) (pU (CZ (CG rfl) DN rfl T.z_len Dg (vp 1)))))) (Aa (vr 4) (Ad) Ah) Ay))))) (Bx)) (Ac (Ca (PFW.pt (Jq (tEq hr (pU (bMod (vp 0) (iP))) (iP)) (HN (tNe hr (vp 2) (pU (Ew (Ad))))))) (Ai (Ar (Fo (iS (Aa (iD (vp 2) (pU (bMod (pU (bDiv (vp 0) (iP))) (pU (CZ (CG rfl) DN rfl T.z_len Dg (vp 2)))))) (Aa (vr 4) (Aa (vr 5) (Ad) Ah) Ah) Ay))))) (Bx)) (Ai (Ar (Fo (iS (Aa (vr 4) (Aa (vr 5) (Ad) Ah) Ah))))))))
abbrev Le : List Str := ["_law_row", "_law_cell_here", "_law_words_here", "_law_names_here", "_law_number", "_law_last"]
theorem H_ : FnScope Le ["_law_row", "_law_cell_here", "_law_words_here", "_law_names_here"] (Ae LK) := ⟨rfl, rfl, rfl, by decide +kernel, rfl, by decide +kernel, by decide +kernel⟩
theorem Pr (T : Tx G mg) : DOk P w base T.x__law_grown 3 (spD G Dc) :=
 fnX (k := 2) (N := Le) (b := Dh) T.x__law_grown H_ fun _ _ _ _ _ _ hr => Ac (sF H_.nd 4 (bMod (pU (bMul (pU (bDiv (vp 1) (iP))) (iP))) (iP))) (Ac (sF H_.nd 5 (iD (pU (iD (vp 0) (pU (Rk (iP))))) (iP))) (Ac (Ca (tGt (pU (bMod (vp 1) (iP))) (iP)) (Ai (Ar (fX (GF T) hr (Aa (vr 0) (Aa (Fo (Aa (iD (pU (Ew (iS (iS (Ad))))) (pU (bMod (vp 4) (iP)))) (Aa (iD (vp 3) (pU (bMod (pU (bDiv (vp 4) (iP))) (iP)))) (Aa (vr 5) (Ad) Ah) Ay) Ay)) (iI (Ad)) Ft) Ah)))) (Bx)) (Ac (Ca (tEq hr (pU (bMod (vp 1) (iP))) (iP)) (Ai (Ar (fX (GF T) hr (Aa (vr 0) (Aa (Fo (iS (Aa (vr 5) (Ad) Ah))) (iI (Ad)) Ft) Ah)))) (Bx)) (Ac (Ca (PFW.pt (Jq (tGt (pU (bMod (vp 1) (iP))) (iP)) (HN (tGt (pU (CZ (CG rfl) DN rfl T.z_len Dg (vp 0))) (iP))))) (Ai (Ar (fX (GF T) hr (Aa (vr 0) (Aa (Fo (Aa (iD (pU (Ew (iS (iS (Ad))))) (pU (bMod (vp 4) (iP)))) (Aa (iD (pU (iD (vp 0) (pU (Rk (iP))))) (iP)) (Aa (vr 5) (Ad) Ah) Ay) Ay)) (iI (Ad)) Ft) Ah)))) (Bx)) (Ai (Ar (fX (GF T) hr (Aa (vr 0) (Aa (fX (Ld T) hr (Aa (vr 4) (Aa (Bc rfl (vp 2) (Cu) (Ag (iP))) (Aa (Bc rfl (vp 2) (Ag (iP)) (Cu)) (Aa (vr 3) (Ad) Ah) Ay) Ay) Ah)) (iI (Ad)) Ju) Ah))))))))
abbrev Lf : List Str := ["_law_cells", "_law_words_here", "_law_names_here", "_law_row", "_law_cell_here"]
theorem Fw : FnScope Lf ["_law_cells", "_law_words_here", "_law_names_here"] (Ae LQ) := ⟨rfl, rfl, rfl, by decide +kernel, rfl, by decide +kernel, by decide +kernel⟩
theorem Pu (T : Tx G mg) : DOk P w base T.x__law_whole 4 (spD G G9) :=
 fnX (k := 3) (N := Lf) (b := JC) T.x__law_whole Fw fun _ _ _ _ _ _ hr => Ac (sF Fw.nd 3 (fX (GF T) hr (Aa (Ew (Ad)) (Aa (fX (Ld T) hr (Aa (CZ (CG rfl) DN rfl T.z_len Dg (vp 0)) (Aa (Bc rfl (vp 1) (Cu) (Ag (iP))) (Aa (Bc rfl (vp 1) (Ag (iP)) (Cu)) (Aa (vr 2) (Ad) Ah) Ay) Ay) Ju)) (iI (Ad)) Ju) Vw))) (Ac (Nu PassesOwn.never rfl (Nr rfl (vr 0)) (K5 (gN Fw.nd 4)) (Ai (sF Fw.nd 3 (fX (Pr T) hr (Aa (vr 3) (Aa (vr 4) (Aa (vr 1) (Aa (vr 2) (Ad) Ah) Ah) Ah) Ah))))) (Ac (MF 3000 PassesOwn.never (tGt (pU (CZ (CG rfl) DN rfl T.z_len Dg (vp 3))) (iP)) (Ai (sF Fw.nd 3 (fX (GF T) hr (Aa (vr 3) (Aa (Fo (Aa (iD (pU (Ew (iS (iS (Ad))))) (pU (bMod (pU (CZ (CG rfl) DN rfl T.z_len Dg (vp 3))) (iP)))) (Aa (iD (pU (iD (vp 3) (pU (Rk (iP))))) (iP)) (Aa (iD (pU (iD (vp 3) (pU (Rk (iP))))) (iP)) (Ad) Ay) Ay) Ay)) (iI (Ad)) Ft) Ah))))) (Ai (Ar (iD (vp 3) (iP))))))
abbrev M6 : List Str := ["_law_cell_here", "_law_some"]
theorem HB : FnScope M6 ["_law_cell_here"] (Ae Mv) := ⟨rfl, rfl, rfl, by decide +kernel, rfl, by decide +kernel, by decide +kernel⟩
theorem R9 (T : Tx G mg) : DOk P w base T.x__law_sign 1 (spD G G3) :=
 fnX (k := 0) (N := M6) (b := Hq) T.x__law_sign HB fun _ _ _ _ _ _ hr => Ac (sF HB.nd 1 (HJ)) (Ac (sF HB.nd 1 (bAdd (vp 1) (sP))) (Ac (Ca (tEq hr (pU (bMod (vp 0) (iP))) (iP)) (Ai (sF HB.nd 1 (HJ))) (Bx)) (Ai (Ar (iD (vp 1) (pU (bMod (pU (bDiv (vp 0) (iP))) (pU (CZ (CG rfl) DN rfl T.z_len Dg (vp 1))))))))))
abbrev Jh : List Str := ["_law_line", "_law_cell_here", "_law_number", "_law_at", "_law_to", "_law_sign_here"]
theorem Eu : FnScope Jh ["_law_line", "_law_cell_here"] (Ae Jf) := ⟨rfl, rfl, rfl, by decide +kernel, rfl, by decide +kernel, by decide +kernel⟩
theorem JR (T : Tx G mg) : DOk P w base T.x__law_spoiled 2 (spD G Cv) :=
 fnX (k := 1) (N := Jh) (b := De) T.x__law_spoiled Eu fun _ _ _ _ _ _ hr => Ac (sF Eu.nd 2 (bMod (pU (bMul (pU (bDiv (vp 1) (iP))) (iP))) (iP))) (Ac (sF Eu.nd 3 (bMod (vp 2) (pU (bAdd (pU (CZ (CG rfl) DN rfl T.z_len Dg (vp 0))) (iP))))) (Ac (sF Eu.nd 4 (bAdd (vp 3) (pU (bMod (pU (bDiv (vp 2) (iP))) (iP))))) (Ac (sF Eu.nd 5 (fX (R9 T) hr (Aa (bDiv (vp 1) (iP)) (Ad) Ed))) (Ac (Ca (tLt (pU (bMod (vp 1) (iP))) (iP)) (Ai (Ar (bAdd (pU (bAdd (pU (Bc rfl (vp 0) (Cu) (Ag (vp 3)))) (vp 5))) (pU (Bc rfl (vp 0) (Ag (vp 3)) (Cu)))))) (Bx)) (Ac (Ca (tLt (pU (bMod (vp 1) (iP))) (iP)) (Ai (Ar (bAdd (pU (Bc rfl (vp 0) (Cu) (Ag (vp 3)))) (pU (Bc rfl (vp 0) (Ag (pU (bAdd (vp 3) (iP)))) (Cu)))))) (Bx)) (Ac (Ca (tEq hr (pU (bMod (vp 1) (iP))) (iP)) (Ai (Ar (bAdd (pU (bAdd (pU (Bc rfl (vp 0) (Cu) (Ag (vp 3)))) (vp 5))) (pU (Bc rfl (vp 0) (Ag (pU (bAdd (vp 3) (iP)))) (Cu)))))) (Bx)) (Ac (Ca (tEq hr (pU (bMod (vp 1) (iP))) (iP)) (Ai (Ar (bAdd (pU (bAdd (pU (Bc rfl (vp 0) (Cu) (Ag (vp 4)))) (pU (Bc rfl (vp 0) (Ag (vp 3)) (Ag (vp 4)))))) (pU (Bc rfl (vp 0) (Ag (vp 4)) (Cu)))))) (Bx)) (Ac (Ca (tEq hr (pU (bMod (vp 1) (iP))) (iP)) (Ai (Ar (bAdd (pU (Bc rfl (vp 0) (Cu) (Ag (vp 3)))) (pU (Bc rfl (vp 0) (Ag (vp 4)) (Cu)))))) (Bx)) (Ai (Ar (bAdd (pU (bAdd (pU (Bc rfl (vp 0) (Cu) (Ag (vp 3)))) (pU (Bc rfl (vp 0) (Ag (vp 4)) (Cu))))) (pU (Bc rfl (vp 0) (Ag (vp 3)) (Ag (vp 4)))))))))))))))
abbrev bO : List Str := ["_law_script", "_law_words_here", "_law_names_here", "_law_line", "_law_last", "_law_cell_here", "_law_made"]
theorem Ji : FnScope bO ["_law_script"] (Ae bN) := ⟨rfl, rfl, rfl, by decide +kernel, rfl, by decide +kernel, by decide +kernel⟩
theorem d7 (T : Tx G mg) : DOk P w base T.x_law 217 (spD G T5) :=
 fnX (k := 216) (N := bO) (b := X_) T.x_law Ji fun _ _ _ _ _ _ hr => Ac (sF Ji.nd 1 (fX (Ph T) hr (Aa (fX (JF T) hr (Aa (vr 0) (iI (Ad)) Ah)) (Ad) Ju))) (Ac (sF Ji.nd 2 (fX (Pj T) hr (Aa (fX (JF T) hr (Aa (vr 0) (iI (Ad)) Ah)) (Ad) Ju))) (Ac (sF Ji.nd 3 (iD (pU (fX (Pu T) hr (Aa (Bc rfl (vp 0) (Ag (iP)) (Ag (iP))) (Aa (vr 1) (Aa (vr 2) (Ad) Ah) Ah) Ay))) (iP))) (Ac (sF Ji.nd 4 (fX (JF T) hr (Aa (vr 0) (iI (Ad)) Ah))) (Ac (Nu PassesOwn.never rfl (Nr rfl (bAdd (pU (Ew (iI (iI (Ad))))) (pU (Bc rfl (vp 0) (Ag (iP)) (Ag (iP)))))) (K5 (gN Ji.nd 5)) (Ac (sF Ji.nd 6 (fX (JR T) hr (Aa (vr 3) (Aa (vr 5) (Ad) Ah) Ah))) (Ac (Ca (PFW.pt (Iu (Iv (Eb (pU (fX (JL T) hr (Aa (vr 6) (Ad) Ah))) rfl)) (HD (Iv (Eb (pU (fX (JL T) hr (Aa (fX (JR T) hr (Aa (vr 6) (Aa (vr 4) (Ad) Ah) Ah)) (Ad) Ju))) rfl))))) (Ai (Ar (bI))) (Bx)) (Ai (sF Ji.nd 4 (vr 5)))))) (Ai (Ar (fX (JL T) hr (Aa (vr 3) (Ad) Ah))))))))
end
abbrev gx (K : PySem.W.Frag) (C_Reader : Addr) (l : List (Str × Addr)) : Gx := gx2 K "Reader" C_Reader l
def bQ (K : PySem.W.Frag) : Sp := fun vs H Q _ => ∃ (a : Addr) (ns : List Int), vs = [.ref a] ∧ SqL K H a (ns.map V.int) ∧ ns.length ≤ 63 ∧ ∀ H', Q (.bl true) H'
theorem d9 (ht : ∀ ns : List Int, ns.length ≤ 63 → T5 [.lst (ns.map .int)] = some (.bl true)) {K : PySem.W.Frag} {C_Reader : Addr} {l : List (Str × Addr)} (vs : List V) (H : Hp) (Q : VK) (E : XK) (h : bQ K vs H Q E) : spD (gx K C_Reader l) T5 vs H Q E := by
 obtain ⟨a, ns, rfl, hs, hl, k⟩ := h
 refine ⟨[], [.lst (ns.map .int)], .bl true, (fun _ z => nomatch z), RepL.cons ?_ RepL.nil, ht ns hl, fun v H2 _ r => ?_⟩
 ·have e : hid [] H = H := by funext b; exact Dt (fun z => nomatch z)
  rw [e]
  refine .lst hs (by simp) fun i x d h1 h2 => ?_
  rw [List.getElem?_map] at h1 h2
  cases e2 : ns[i]? with
  | none => rw [e2] at h1; cases h1
  | some z => rw [e2] at h1 h2; cases h1; cases h2; exact .int z
 ·cases r; exact k H2
end K23
section
open PySem L2 PV
local macro_rules | `(tactic| simp only [cK, $ls,*] $[$l:location]?) => `(tactic| simp only [Hm, e_nx, e_rt, e_bk, e_ct, VL, e_if, VM, VN, G6, Fl, VP, Qo, Qp, Qq, NB, e_b, e_bs, e_u, e_us, Ln, Jl, Lp, Jm, QJ, QK, QL, Qs, Qt, Qu, Lq, Qv, Qw, Qx, Qy, Lr, Qz, Q0, Q3, Q4, e_bl, QM, Q5, NK, NP, VR, Q6, Q7, Q8, Q9, NQ, NT, VV, Q_, RB, RC, NZ, Va, RD, RG, e_sl, Vb, Vc, Nb, Kw, e_v, e_vs, e_vU, Vd, Ve, e_k, RJ, Nf, Ng, RK, Vf, RL, QQ, RM, RN, Vg, RP, Du, Hn, e_tr, RT, Nh, Vi, RV, RW, K3, Jp, Ni, Nj, Nk, Np, Og, e_tg, Te, List.length_cons, List.length_nil, List.map_cons, List.map_nil, List.cons_append, List.nil_append, List.replicate_succ, List.replicate_zero, List.getElem?_cons_zero, List.getElem?_cons_succ, List.set_cons_zero, List.set_cons_succ, Nat.reduceAdd, Nat.reduceSub, Nat.reduceEqDiff, Nat.zero_add, truB, Bool.not_true, Bool.not_false, decide_true, decide_false, List.append_nil, Int.reduceLT, Int.reduceLE, Int.reduceNeg, Int.reduceEq, Int.reduceToNat, Nat.reduceLeDiff, ix0, ix1, ix2, ixt0, ixt1, ixt2, ixt3, $ls,*] $[$l:location]?)
local macro_rules | `(tactic| simp only [cK]) => `(tactic| simp only [Hm, e_nx, e_rt, e_bk, e_ct, VL, e_if, VM, VN, G6, Fl, VP, Qo, Qp, Qq, NB, e_b, e_bs, e_u, e_us, Ln, Jl, Lp, Jm, QJ, QK, QL, Qs, Qt, Qu, Lq, Qv, Qw, Qx, Qy, Lr, Qz, Q0, Q3, Q4, e_bl, QM, Q5, NK, NP, VR, Q6, Q7, Q8, Q9, NQ, NT, VV, Q_, RB, RC, NZ, Va, RD, RG, e_sl, Vb, Vc, Nb, Kw, e_v, e_vs, e_vU, Vd, Ve, e_k, RJ, Nf, Ng, RK, Vf, RL, QQ, RM, RN, Vg, RP, Du, Hn, e_tr, RT, Nh, Vi, RV, RW, K3, Jp, Ni, Nj, Nk, Np, Og, e_tg, Te, List.length_cons, List.length_nil, List.map_cons, List.map_nil, List.cons_append, List.nil_append, List.replicate_succ, List.replicate_zero, List.getElem?_cons_zero, List.getElem?_cons_succ, List.set_cons_zero, List.set_cons_succ, Nat.reduceAdd, Nat.reduceSub, Nat.reduceEqDiff, Nat.zero_add, truB, Bool.not_true, Bool.not_false, decide_true, decide_false, List.append_nil, Int.reduceLT, Int.reduceLE, Int.reduceNeg, Int.reduceEq, Int.reduceToNat, Nat.reduceLeDiff, ix0, ix1, ix2, ixt0, ixt1, ixt2, ixt3])
local macro_rules | `(tactic| simp only [kC, $ls,*] $[$l:location]?) => `(tactic| simp only [$ls,*, Hm, e_nx, e_rt, e_bk, e_ct, VL, e_if, VM, VN, G6, Fl, VP, Qo, Qp, Qq, NB, e_b, e_bs, e_u, e_us, Ln, Jl, Lp, Jm, QJ, QK, QL, Qs, Qt, Qu, Lq, Qv, Qw, Qx, Qy, Lr, Qz, Q0, Q3, Q4, e_bl, QM, Q5, NK, NP, VR, Q6, Q7, Q8, Q9, NQ, NT, VV, Q_, RB, RC, NZ, Va, RD, RG, e_sl, Vb, Vc, Nb, Kw, e_v, e_vs, e_vU, Vd, Ve, e_k, RJ, Nf, Ng, RK, Vf, RL, QQ, RM, RN, Vg, RP, Du, Hn, e_tr, RT, Nh, Vi, RV, RW, K3, Jp, Ni, Nj, Nk, Np, Og, e_tg, Te, List.length_cons, List.length_nil, List.map_cons, List.map_nil, List.cons_append, List.nil_append, List.replicate_succ, List.replicate_zero, List.getElem?_cons_zero, List.getElem?_cons_succ, List.set_cons_zero, List.set_cons_succ, Nat.reduceAdd, Nat.reduceSub, Nat.reduceEqDiff, Nat.zero_add, truB, Bool.not_true, Bool.not_false, decide_true, decide_false, List.append_nil, Int.reduceLT, Int.reduceLE, Int.reduceNeg, Int.reduceEq, Int.reduceToNat, Nat.reduceLeDiff, ix0, ix1, ix2, ixt0, ixt1, ixt2, ixt3] $[$l:location]?)
local macro_rules | `(tactic| simp only [kiC, $ls,*] $[$l:location]?) => `(tactic| simp only [$ls,*, Hm, e_nx, e_rt, e_bk, e_ct, VL, e_if, VM, VN, G6, Fl, VP, Qo, Qp, Qq, NB, e_b, e_bs, e_u, e_us, Ln, Jl, Lp, Jm, QJ, QK, QL, Qs, Qt, Qu, Lq, Qv, Qw, Qx, Qy, Lr, Qz, Q0, Q3, Q4, e_bl, QM, Q5, NK, NP, VR, Q6, Q7, Q8, Q9, NQ, NT, VV, Q_, RB, RC, NZ, Va, RD, RG, e_sl, Vb, Vc, Nb, Kw, e_v, e_vs, e_vU, Vd, Ve, e_k, RJ, Nf, Ng, RK, Vf, RL, QQ, RM, RN, Vg, RP, Du, Hn, e_tr, RT, Nh, Vi, RV, RW, K3, Jp, Ni, Nj, Nk, Np, Og, e_tg, Te, List.length_cons, List.length_nil, List.map_cons, List.map_nil, List.cons_append, List.nil_append, List.replicate_succ, List.replicate_zero, List.getElem?_cons_zero, List.getElem?_cons_succ, List.set_cons_zero, List.set_cons_succ, Nat.reduceAdd, Nat.reduceSub, Nat.reduceEqDiff, Nat.zero_add, truB, Bool.not_true, Bool.not_false, decide_true, decide_false, List.append_nil, Int.reduceLT, Int.reduceLE, Int.reduceNeg, Int.reduceEq, Int.reduceToNat, Nat.reduceLeDiff, ix0, ix1, ix2, ixt0, ixt1, ixt2, ixt3, E_, Ir, Hx, Qn, JV, TQ, W9, W_, Ku, TV, TX] $[$l:location]?)
local macro_rules | `(tactic| simp only [dK, $ls,*] $[$l:location]?) => `(tactic| simp only [cK, e_ixEl, e_ixEt, e_ixEs, e_ixEks, e_ixEki, e_lenEl, e_lenEk, e_inFks, e_inFki, e_inFst, e_inFsl, e_inFil, e_seqA, e_seqAl, e_seqAt, e_seqAk, e_put, e_puts, e_putT, e_putTs, e_fz0, e_fz1, e_frzO, e_frzF, e_items, e_itemss, e_tup2g, kDt_s, kDt_i, $ls,*] $[$l:location]?)
local macro_rules | `(tactic| simp only [ciK, $ls,*] $[$l:location]?) => `(tactic| simp only [cK, E_, Ir, Hx, Qn, JV, TQ, W9, W_, Ku, TV, TX, $ls,*] $[$l:location]?)
local macro_rules | `(tactic| simp only [diK, $ls,*] $[$l:location]?) => `(tactic| simp only [cK, e_ixEl, e_ixEt, e_ixEs, e_ixEks, e_ixEki, e_lenEl, e_lenEk, e_inFks, e_inFki, e_inFst, e_inFsl, e_inFil, e_seqA, e_seqAl, e_seqAt, e_seqAk, e_put, e_puts, e_putT, e_putTs, e_fz0, e_fz1, e_frzO, e_frzF, e_items, e_itemss, e_tup2g, kDt_s, kDt_i, E_, Ir, Hx, Qn, JV, TQ, W9, W_, Ku, TV, TX, $ls,*] $[$l:location]?)
namespace K23
open PySem L2 PV
theorem R_ (ns : List Int) (k : Nat) : ∃ i, Dk [.lst (ns.map .int), .int k] = some (.int i) := by
 by_cases h : k < ns.length
 ·refine ⟨ns[k], ?_⟩
  have e : atI (ns.map D.int) (k : Int) = some (.int ns[k]) := by
   rw [W8 (by omega) (by simpa using h)]
   simp [h]
  simp [Dk, runF, Ho, seqF, ifS, blF, bF, vF, uF, Fy, lenD, JV, h, retF, ixD, e]
 ·refine ⟨0, ?_⟩
  simp [Dk, runF, Ho, seqF, ifS, blF, bF, vF, uF, Fy, lenD, JV, h, retF, nxF, kF]
theorem T6 {α β : Type} (f : α → β) (l : List α) (k : Nat) : cutD (l.map f) none (some (k : Int)) = (l.take k).map f := by rw [Od, List.map_take]
theorem T7 {α β : Type} (f : α → β) (l : List α) (k : Nat) : cutD (l.map f) (some (k : Int)) none = (l.drop k).map f := by rw [Kr, List.map_drop]
abbrev cs (x : Str) : List Nat := x.cps.toList
theorem Fd (x y : Str) : cs (x ++ y) = cs x ++ cs y := by show (x.cps ++ y.cps).toList = _; simp [cs]
theorem Cm (x : Str) : (cs x).length = x.length := by simp [cs, Str.length]
theorem Jj {x y : Str} (h : cs x = cs y) : x = y := by
 cases x with | mk a => cases y with | mk b => simp [cs] at h; rw [h]
theorem IK (x : Str) (lo hi : Option Int) : cs (cutS x lo hi) = cutD (cs x) lo hi := by simp [cs, cutS]
def LET : Str := "abcdefghijklmnopqrstuvwxyz"
theorem SJ : LET.length = 26 := by decide +kernel
def IsL (x : Str) : Prop := ∀ c ∈ cs x, c ∈ cs LET
theorem Nx {x y : Str} (h : IsL x) (k : IsL y) : IsL (x ++ y) := fun c hc => by
 rw [Fd] at hc
 rcases List.mem_append.mp hc with q | q
 ·exact h c q
 ·exact k c q
theorem SM {x : Str} (h : IsL x) (lo hi : Option Int) : IsL (cutS x lo hi) := fun c hc => by
 rw [IK] at hc
 unfold cutD at hc
 exact h c (List.mem_of_mem_drop (List.mem_of_mem_take hc))
theorem Wj : IsL "" := by
 have e : cs ("" : Str) = [] := by decide +kernel
 intro c hc
 rw [e] at hc
 cases hc
def Nm (x : Str) : Prop := ∃ c, c ∈ cs LET ∧ x = ⟨#[c]⟩
theorem Nm.isL {x : Str} (h : Nm x) : IsL x := by obtain ⟨c, hc, rfl⟩ := h; intro d hd; simp [cs] at hd; subst hd; exact hc
theorem Nm.len {x : Str} (h : Nm x) : x.length = 1 := by obtain ⟨c, hc, rfl⟩ := h; rfl
theorem Vy (j : Int) : ∃ x : Str, ixD (.str LET) (.int (j % 26)) = some (.str x) ∧ Nm x := by
 obtain ⟨c, hc, e⟩ := RQ LET 26 j (by rw [SJ]; rfl) (by rw [SJ]; decide) (by rw [SJ]; decide)
 exact ⟨_, e, c, hc, rfl⟩
theorem YD (i : Int) : ∃ ws : List Str, G8 [.int i] = some (.lst (ws.map .str)) ∧ ws.length = 3 ∧ ∀ x ∈ ws, Nm x := by
 obtain ⟨out, h1, h2, h3⟩ := Ky (src := rngI (kF (.int 3))) (fe := HY) (ρ := [.fz (.int i), .fz (.str LET)]) (ds := rngD 3) (P := fun y => ∃ x, y = D.str x ∧ Nm x) (by rfl) (by decide) fun d hd => by
  obtain ⟨k, hk, rfl⟩ := K1 hd
  have e1 := Ks (i / 26 % 2) 2 (by decide)
  have e2 := Ks (7 + i / 26 % 2 * 2) (k : Int) (by omega)
  obtain ⟨x, ex, hx⟩ := Vy (i % 26 + (7 + i / 26 % 2 * 2) * (k : Int))
  refine ⟨.str x, ?_, x, rfl, hx⟩
  simp only [ciK, HY, e1, e2, ex]
 obtain ⟨ws, e, hl, hw⟩ := Jo h3
 refine ⟨ws, ?_, by rw [hl, h2]; rfl, hw⟩
 rw [e] at h1
 have hL : (Str.ofString "abcdefghijklmnopqrstuvwxyz") = LET := rfl
 simp only [ciK, G8, JB, hL, h1]
def KEPT : List Str := ["not", "and", "or", "some", "all"]
structure Wd (x : Str) : Prop where
 lo : 1 ≤ x.length
 hi : x.length ≤ 8
 isL : IsL x
 kept : x ∉ KEPT
def Pre (x : Str) : Prop := 1 ≤ x.length ∧ x.length ≤ 7 ∧ IsL x
theorem z_wd {x : Str} (h : Pre x) : Wd ("z" ++ x) := by
 have z1 : Str.length "z" = 1 := by decide +kernel
 refine ⟨by rw [Af]; omega, by rw [Af]; have := h.2.1; omega, Nx ?_ h.2.2, fun hk => ?_⟩
 ·intro c hc
  have : c = 122 := by
   have e : cs ("z" : Str) = [122] := by decide +kernel
   rw [e] at hc
   simpa using hc
  subst this
  decide +kernel
 ·have e : cs ("z" ++ x) = 122 :: cs x := by
   rw [Fd]
   have e : cs ("z" : Str) = [122] := by decide +kernel
   rw [e]
   rfl
  have n : ∀ y ∈ KEPT, (cs y).head? ≠ some 122 := by decide +kernel
  exact n _ hk (by rw [e]; rfl)
theorem Us (i n : Int) (m : Nat) (hm : m ≤ 6) : ∃ (n' : Int) (b : Str) (z : Slot), forF (tgB (J0 4) FN) (rngD m) [.fz (.int i), .fz (.str LET), .fz (.int n), .fz (.str ""), .un, .un, .un] = some (.nx [.fz (.int i), .fz (.str LET), .fz (.int n'), .fz (.str b), z, .un, .un]) ∧ b.length ≤ 6 ∧ IsL b := by
 obtain ⟨ρ', e, n', b, z, rfl, hb, hL⟩ := Kv (b := tgB (J0 4) FN) (ds := rngD m) (ρ := [.fz (.int i), .fz (.str LET), .fz (.int n), .fz (.str ""), .un, .un, .un])
  (P := fun k ρ => ∃ (n' : Int) (b : Str) (z : Slot), ρ = [.fz (.int i), .fz (.str LET), .fz (.int n'), .fz (.str b), z, .un, .un] ∧ b.length ≤ k ∧ IsL b) 0 ⟨n, "", .un, rfl, by decide, Wj⟩ (by
   rintro k d ρ hd ⟨n', b, z, rfl, hb, hL⟩
   have hk : k < m := by
    have := (List.getElem?_eq_some_iff.mp hd).1
    rw [Td] at this
    exact this
   obtain ⟨x, ex, hx⟩ := Vy (n' / 7)
   have hx1 := hx.len
   have ea := Oe (i := b) (j := x) (by omega)
   refine ⟨[.fz (.int i), .fz (.str LET), .fz (.int (n' / 11)), .fz (.str (b ++ x)), .fz d, .un, .un], ?_, n' / 11, b ++ x, .fz d, rfl, by rw [Af]; omega, Nx hL hx.isL⟩
   show FN [.fz (.int i), .fz (.str LET), .fz (.int n'), .fz (.str b), .fz d, .un, .un] = _
   simp only [ciK, FN, ex, ea])
 rw [Td] at hb
 exact ⟨n', b, z, e, by omega, hL⟩
theorem iB : powD (.int 10) (.int 18) = some (.int 1000000000000000000) := by rfl
theorem iC {w4 : List Str} (h6 : w4.length = 6) (r4 : ∀ x ∈ w4, Nm x) : VD (.str "") (.lst (w4.map .str)) = some (.str (Str.join "" w4)) ∧ (Str.join "" w4).length = 6 ∧ IsL (Str.join "" w4) := by
 have e0 : Str.length "" = 0 := by decide +kernel
 match w4, h6, r4 with
 | [a, b, c, d, e, f], _, r4 =>
  have ha := r4 a (by simp)
  have hb := r4 b (by simp)
  have hc := r4 c (by simp)
  have hd := r4 d (by simp)
  have he := r4 e (by simp)
  have hf := r4 f (by simp)
  refine ⟨?_, ?_, ?_⟩
  ·show (JQ ([a, b, c, d, e, f].map .str)).bind (fun ys => if (ys.map (·.length)).sum + ys.length * (Str.length "") ≤ 16777216 then some (D.str (Str.join "" ys)) else none) = _
   rw [WT, Option.bind_some, if_pos]
   simp only [List.map_cons, List.map_nil, List.sum_cons, List.sum_nil, ha.len, hb.len, hc.len, hd.len, he.len, hf.len, e0, List.length_cons, List.length_nil]
   decide
  ·simp only [Str.join, Af, ha.len, hb.len, hc.len, hd.len, he.len, hf.len, e0]
  ·intro x hx
   have e : cs ("" : Str) = [] := by decide +kernel
   simp only [Str.join, Fd, List.mem_append, e, List.not_mem_nil, or_false, false_or] at hx
   repeat' (rcases hx with hx | hx)
   all_goals first | exact ha.isL x hx | exact hb.isL x hx | exact hc.isL x hx | exact hd.isL x hx | exact he.isL x hx | exact hf.isL x hx
theorem sq6 {k : Nat} (hk : k < 6) : (0 : Int) ≤ (k : Int) * k ∧ (k : Int) * k ≤ 36 := by
 have h1 : k = 0 ∨ k = 1 ∨ k = 2 ∨ k = 3 ∨ k = 4 ∨ k = 5 := by omega
 rcases h1 with rfl | rfl | rfl | rfl | rfl | rfl <;> decide
theorem Qe {ρ : Rho} {ga : FT} {fe : FE} : ∀ {ds : List D}, Eo ρ ga fe ds = some [] → ∀ d ∈ ds, ga (ρ ++ [.fz d]) = some false
 | [], _, d, hd => by cases hd
 | x :: r, h, d, hd => by
  rw [KR] at h
  cases e : ga (ρ ++ [.fz x]) with
  | none => rw [e] at h; cases h
  | some b =>
   rw [e] at h
   cases b with
   | true =>
    cases e2 : fe (ρ ++ [.fz x]) with
    | none => rw [e2] at h; cases h
    | some y =>
     cases e3 : Eo ρ ga fe r with
     | none => rw [e2, e3] at h; cases h
     | some l => rw [e2, e3] at h; cases h
   | false =>
    rw [gZ] at h
    rcases List.mem_cons.mp hd with rfl | hd
    ·exact e
    ·exact Qe h d hd
theorem YF {x : Str} {a : Int} (h0 : 0 ≤ a) (h1 : a ≤ x.length) : (cutS x none (some a)).length + (cutS x (some a) none).length = x.length := by
 obtain ⟨k, rfl⟩ := Int.eq_ofNat_of_zero_le h0
 rw [← Cm, ← Cm, ← Cm, IK, IK]
 have e1 := Od (cs x) k
 have e2 := Kr (cs x) k
 have hl := Cm x
 show (cutD (cs x) none (some (k : Int))).length + (cutD (cs x) (some (k : Int)) none).length = _
 rw [e1, e2, List.length_take, List.length_drop]
 omega
theorem YG (i : Int) : ∃ ws : List Str, Ek [.int i] = some (.lst (ws.map .str)) ∧ ws.length = 6 ∧ ∀ x ∈ ws, Wd x := by
  obtain ⟨n, hn⟩ : ∃ n, modD (.int (i * 1000000007)) (.int 1000000000000000000) = some (.int n) := ⟨_, E_ _ _ (by decide)⟩
  have em := Ks i 1000000007 (by decide)
  have ep := iB
  have hmod : 0 ≤ n % 7 ∧ n % 7 < 7 := by clear hn em ep; omega
  obtain ⟨n', b, z, el, hb, hbL⟩ := Us i n (n % 7).toNat (by omega)
  have lb := JX b (by omega)
  obtain ⟨at', emod, ha0, ha1⟩ : ∃ a, modD (.int (n' / 7)) (.int ((b.length : Int) + 1)) = some (.int a) ∧ 0 ≤ a ∧ a ≤ b.length := ⟨_, E_ _ _ (by omega), Int.emod_nonneg _ (by omega), by have := Int.emod_lt_of_pos (n' / 7) (show (0 : Int) < (b.length : Int) + 1 by omega); omega⟩
  have cb := YF ha0 ha1
  obtain ⟨o1, f1, l1, p1⟩ := Ky (src := rngI (kF (.int 6))) (fe := HS) (ρ := [.fz (.int i), .fz (.str LET), .fz (.int n'), .fz (.str b), z, .fz (.int at'), .un]) (ds := rngD 6) (P := fun y => ∃ x, y = D.str x ∧ Pre x) (by rfl) (by decide) fun d hd => by
    obtain ⟨k, hk, rfl⟩ := K1 hd
    have e1 := VJ 5 (k : Int) (by decide)
    obtain ⟨x, ex, hx⟩ := Vy (n' / 5 + 5 * (k : Int))
    have hx1 := hx.len
    have s1 := sl_s b none (some at') (by omega)
    have s2 := sl_s b (some at') none (by omega)
    have a1 := Oe (i := cutS b none (some at')) (j := x) (by omega)
    have a2 := Oe (i := cutS b none (some at') ++ x) (j := cutS b (some at') none) (by rw [Af]; omega)
    refine ⟨.str (cutS b none (some at') ++ x ++ cutS b (some at') none), ?_, _, rfl, by rw [Af, Af]; omega, by rw [Af, Af]; omega, Nx (Nx (SM hbL _ _) hx.isL) (SM hbL _ _)⟩
    simp only [ciK, HS, e1, ex, s1, s2, a1, a2]
  obtain ⟨w1, q1, k1, r1⟩ := Jo p1
  have fin : ∀ (b' : Str) (w : List Str), w.length = 6 → (∀ x ∈ w, Pre x) → ∃ (o2 : List D) (w3 : List Str), Fq (seqI (vF 6)) (DP) (Do) [.fz (.int i), .fz (.str LET), .fz (.int n'), .fz (.str b'), z, .fz (.int at'), .fz (.lst (w.map .str))] = some (.lst o2)
      ∧ Fq (seqI (vF 6)) (allT) (GX) [.fz (.int i), .fz (.str LET), .fz (.int n'), .fz (.str b'), z, .fz (.int at'), .fz (.lst (w.map .str))] = some (.lst (w3.map .str)) ∧ w3.length = 6 ∧ (∀ x ∈ w3, Wd x) ∧ (¬ (0 : Int) < o2.length → ∀ x ∈ w, Wd x) := by
    intro b' w hw hs
    have tst : ∀ x : Str, DP ([.fz (.int i), .fz (.str LET), .fz (.int n'), .fz (.str b'), z, .fz (.int at'), .fz (.lst (w.map .str))] ++ [.fz (.str x)]) = some (KEPT.any (fun y => y == x)) := fun x => by
      have := Kz x ["not", "and", "or", "some", "all"]
      simp only [List.map_cons, List.map_nil] at this
      simp only [cK, DP, this]
      rfl
    obtain ⟨o2, f2, l2, p2⟩ := XF (src := seqI (vF 6)) (ga := DP) (fe := Do) (ρ := [.fz (.int i), .fz (.str LET), .fz (.int n'), .fz (.str b'), z, .fz (.int at'), .fz (.lst (w.map .str))]) (ds := w.map .str) (P := fun _ => True) (by rfl) (by simp; omega) fun d hd => by
      obtain ⟨x, hx, rfl⟩ := List.mem_map.mp hd
      exact ⟨_, tst x, .str x, by rfl, trivial⟩
    obtain ⟨o3, f3, l3, p3⟩ := Ky (src := seqI (vF 6)) (fe := GX) (ρ := [.fz (.int i), .fz (.str LET), .fz (.int n'), .fz (.str b'), z, .fz (.int at'), .fz (.lst (w.map .str))]) (ds := w.map .str) (P := fun y => ∃ x, y = D.str x ∧ Wd x) (by rfl) (by simp; omega) fun d hd => by
      obtain ⟨x, hx, rfl⟩ := List.mem_map.mp hd
      have hp := hs x hx
      have a := Oe (i := "z") (j := x) (by (have : Str.length "z" = 1 := by decide +kernel); (have := hp.2.1); omega)
      refine ⟨.str ("z" ++ x), ?_, _, rfl, z_wd hp⟩
      simp only [cK, GX, a]
    obtain ⟨w3, q3, k3, g3⟩ := Jo p3
    refine ⟨o2, w3, f2, by rw [f3, q3], by rw [k3, l3]; simp [hw], g3, fun h0 x hx => ?_⟩
    have e0 : o2 = [] := List.length_eq_zero_iff.mp (by omega)
    subst e0
    have hc : Eo [.fz (.int i), .fz (.str LET), .fz (.int n'), .fz (.str b'), z, .fz (.int at'), .fz (.lst (w.map .str))] DP Do (w.map .str) = some [] := by
      have : Fq (seqI (vF 6)) (DP) (Do) [.fz (.int i), .fz (.str LET), .fz (.int n'), .fz (.str b'), z, .fz (.int at'), .fz (.lst (w.map .str))] = (Eo [.fz (.int i), .fz (.str LET), .fz (.int n'), .fz (.str b'), z, .fz (.int at'), .fz (.lst (w.map .str))] DP Do (w.map .str)).map D.lst := by
        show (if _ then _ else _) = _
        rw [if_pos (Fe (by simp; omega))]
      rw [this] at f2
      cases e : Eo [.fz (.int i), .fz (.str LET), .fz (.int n'), .fz (.str b'), z, .fz (.int at'), .fz (.lst (w.map .str))] DP Do (w.map .str) with
      | none => rw [e] at f2; cases f2
      | some l => rw [e] at f2; cases f2; rfl
    have := Qe hc (.str x) (List.mem_map.mpr ⟨x, hx, rfl⟩)
    rw [tst x] at this
    have hp := hs x hx
    refine ⟨hp.1, by have := hp.2.1; omega, hp.2.2, fun hk => ?_⟩
    have : (KEPT.any (fun y => y == x)) = false := Option.some.inj this
    rw [List.any_eq_false] at this
    exact this x hk (by simp)
  have rr := dC (n % 7) (by omega)
  have hL : (Str.ofString "abcdefghijklmnopqrstuvwxyz") = LET := rfl
  rw [q1] at f1
  by_cases h3 : n' % 3 = 0
  · obtain ⟨o4, f4, l4, p4⟩ := Ky (src := rngI (kF (.int 6))) (fe := HW) (ρ := [.fz (.int i), .fz (.str LET), .fz (.int n'), .fz (.str b), z, .fz (.int at'), .fz (.lst (w1.map .str))]) (ds := rngD 6) (P := fun y => ∃ x, y = D.str x ∧ Nm x) (by rfl) (by decide) fun d hd => by
      obtain ⟨k, hk, rfl⟩ := K1 hd
      have e1 := VJ (k : Int) (k : Int) (by omega)
      have hkk := sq6 hk
      have e2 := Ir n' (3 + (k : Int) * k) (by omega) (by omega)
      obtain ⟨x, ex, hx⟩ := Vy (n' / (3 + (k : Int) * k))
      refine ⟨.str x, ?_, x, rfl, hx⟩
      simp only [ciK, HW, e1, e2, ex]
    obtain ⟨w4, q4, k4, r4⟩ := Jo p4
    rw [q4] at f4
    obtain ⟨ej, hj, hjL⟩ := iC (by rw [k4, l4]; rfl) r4
    obtain ⟨o5, f5, l5, p5⟩ := Ky (src := rngI (kF (.int 6))) (fe := HX) (ρ := [.fz (.int i), .fz (.str LET), .fz (.int n'), .fz (.str (Str.join "" w4)), z, .fz (.int at'), .fz (.lst (w1.map .str))]) (ds := rngD 6) (P := fun y => ∃ x, y = D.str x ∧ Pre x) (by rfl) (by decide) fun d hd => by
      obtain ⟨k, hk, rfl⟩ := K1 hd
      have s1 := sl_s (Str.join "" w4) none (some ((k : Int) + 1)) (by omega)
      have hl : (cutS (Str.join "" w4) none (some ((k : Int) + 1))).length = k + 1 := by
        rw [← Cm, IK]
        have := Od (cs (Str.join "" w4)) (k + 1)
        rw [show ((k : Int) + 1) = ((k + 1 : Nat) : Int) by omega, this, List.length_take, Cm]
        omega
      refine ⟨.str (cutS (Str.join "" w4) none (some ((k : Int) + 1))), ?_, _, rfl, by omega, by omega, SM hjL _ _⟩
      simp only [ciK, HX, s1]
    obtain ⟨w5, q5, k5, r5⟩ := Jo p5
    rw [q5] at f5
    obtain ⟨o2, w3, f2, f3, lw, g3, g2⟩ := fin (Str.join "" w4) w5 (by rw [k5, l5]; rfl) r5
    by_cases h0 : (0 : Int) < o2.length
    · refine ⟨w3, ?_, lw, g3⟩
      simp only [ciK, Ek, Fg, hL, em, ep, hn, rr, el, lb, emod, f1, h3, f4, ej, f5, f2, Vh, h0, f3]
    · refine ⟨w5, ?_, by rw [k5, l5]; rfl, g2 h0⟩
      simp only [ciK, Ek, Fg, hL, em, ep, hn, rr, el, lb, emod, f1, h3, f4, ej, f5, f2, Vh, h0, f3]
  · obtain ⟨o2, w3, f2, f3, lw, g3, g2⟩ := fin b w1 (by rw [k1, l1]; rfl) r1
    by_cases h0 : (0 : Int) < o2.length
    · refine ⟨w3, ?_, lw, g3⟩
      simp only [ciK, Ek, Fg, hL, em, ep, hn, rr, el, lb, emod, f1, h3, f2, Vh, h0, f3]
    · refine ⟨w1, ?_, by rw [k1, l1]; rfl, g2 h0⟩
      simp only [ciK, Ek, Fg, hL, em, ep, hn, rr, el, lb, emod, f1, h3, f2, Vh, h0, f3]
end K23
namespace K23
open PySem L2 PV
inductive Say where
 | mark (w x : Str) | tie (w x y : Str) | same (x y : Str) | neg (s : Say) | both (s t : Say) | either (s t : Say) | ex (x : Str) (s : Say) | al (x : Str) (s : Say)
def enc : Say → D
 | .mark w x => .tup [.str "mark", .str w, .str x]
 | .tie w x y => .tup [.str "tie", .str w, .str x, .str y]
 | .same x y => .tup [.str "same", .str x, .str y]
 | .neg s => .tup [.str "not", enc s]
 | .both s t => .tup [.str "both", enc s, enc t]
 | .either s t => .tup [.str "either", enc s, enc t]
 | .ex x s => .tup [.str "some", .str x, enc s]
 | .al x s => .tup [.str "all", .str x, enc s]
def hgt : Say → Nat
 | .mark _ _ => 1 | .tie _ _ _ => 1 | .same _ _ => 1
 | .neg s => hgt s + 1
 | .both s t => max (hgt s) (hgt t) + 1
 | .either s t => max (hgt s) (hgt t) + 1
 | .ex _ s => hgt s + 1
 | .al _ s => hgt s + 1
def txt : Say → Str
 | .mark w x => w ++ "(" ++ x ++ ")"
 | .tie w x y => w ++ "(" ++ x ++ "," ++ y ++ ")"
 | .same x y => x ++ "=" ++ y
 | .neg s => "not " ++ txt s
 | .both s t => "(" ++ txt s ++ " and " ++ txt t ++ ")"
 | .either s t => "(" ++ txt s ++ " or " ++ txt t ++ ")"
 | .ex x s => "some" ++ " " ++ x ++ " " ++ txt s
 | .al x s => "all" ++ " " ++ x ++ " " ++ txt s
def Gd : Say → Prop
 | .mark w x => Wd w ∧ Nm x
 | .tie w x y => Wd w ∧ Nm x ∧ Nm y
 | .same x y => Nm x ∧ Nm y
 | .neg s => Gd s
 | .both s t => Gd s ∧ Gd t
 | .either s t => Gd s ∧ Gd t
 | .ex x s => Nm x ∧ Gd s
 | .al x s => Nm x ∧ Gd s
theorem l_p : Str.length "(" = 1 := by decide +kernel
theorem l_q : Str.length ")" = 1 := by decide +kernel
theorem l_c : Str.length "," = 1 := by decide +kernel
theorem l_e : Str.length "=" = 1 := by decide +kernel
theorem l_b : Str.length " " = 1 := by decide +kernel
theorem bR : Str.length "not " = 4 := by decide +kernel
theorem T8 : Str.length " and " = 5 := by decide +kernel
theorem l_or : Str.length " or " = 4 := by decide +kernel
theorem O_ : Str.length "some" = 4 := by decide +kernel
theorem T9 : Str.length "all" = 3 := by decide +kernel
theorem k1 (a b c : D) : slD (.tup [a, b, c]) (some 1) none = some (.tup [b, c]) := of_eq_true (eq_self _)
theorem k2 (a b c : D) : slD (.tup [a, b, c]) (some 2) none = some (.tup [c]) := of_eq_true (eq_self _)
theorem k3 (a b c d : D) : slD (.tup [a, b, c, d]) (some 2) none = some (.tup [c, d]) := of_eq_true (eq_self _)
theorem eqs (x y : Str) : eqD false (.str x) (.str y) = some (.bl (decide (x = y))) := of_eq_true (eq_self _)
theorem g1 : eqD false (.str "mark") (.str "same") = some (.bl false) := of_eq_true (eq_self _)
theorem g2 : eqD false (.str "mark") (.str "mark") = some (.bl true) := of_eq_true (eq_self _)
theorem g3 : eqD false (.str "tie") (.str "same") = some (.bl false) := of_eq_true (eq_self _)
theorem g4 : eqD false (.str "tie") (.str "mark") = some (.bl false) := of_eq_true (eq_self _)
theorem g5 : eqD false (.str "tie") (.str "tie") = some (.bl true) := of_eq_true (eq_self _)
theorem g6 : eqD false (.str "same") (.str "same") = some (.bl true) := of_eq_true (eq_self _)
theorem g7 : eqD false (.str "not") (.str "same") = some (.bl false) := of_eq_true (eq_self _)
theorem g8 : eqD false (.str "not") (.str "mark") = some (.bl false) := of_eq_true (eq_self _)
theorem g9 : eqD false (.str "not") (.str "tie") = some (.bl false) := of_eq_true (eq_self _)
theorem g10 : eqD false (.str "not") (.str "not") = some (.bl true) := of_eq_true (eq_self _)
theorem g11 : eqD false (.str "both") (.str "same") = some (.bl false) := of_eq_true (eq_self _)
theorem g12 : eqD false (.str "both") (.str "mark") = some (.bl false) := of_eq_true (eq_self _)
theorem g13 : eqD false (.str "both") (.str "tie") = some (.bl false) := of_eq_true (eq_self _)
theorem g14 : eqD false (.str "both") (.str "not") = some (.bl false) := of_eq_true (eq_self _)
theorem g15 : eqD false (.str "both") (.str "both") = some (.bl true) := of_eq_true (eq_self _)
theorem g16 : eqD false (.str "either") (.str "same") = some (.bl false) := of_eq_true (eq_self _)
theorem g17 : eqD false (.str "either") (.str "mark") = some (.bl false) := of_eq_true (eq_self _)
theorem g18 : eqD false (.str "either") (.str "tie") = some (.bl false) := of_eq_true (eq_self _)
theorem g19 : eqD false (.str "either") (.str "not") = some (.bl false) := of_eq_true (eq_self _)
theorem g20 : eqD false (.str "either") (.str "both") = some (.bl false) := of_eq_true (eq_self _)
theorem g21 : eqD false (.str "either") (.str "either") = some (.bl true) := of_eq_true (eq_self _)
theorem g22 : eqD false (.str "some") (.str "same") = some (.bl false) := of_eq_true (eq_self _)
theorem g23 : eqD false (.str "some") (.str "mark") = some (.bl false) := of_eq_true (eq_self _)
theorem g24 : eqD false (.str "some") (.str "tie") = some (.bl false) := of_eq_true (eq_self _)
theorem g25 : eqD false (.str "some") (.str "not") = some (.bl false) := of_eq_true (eq_self _)
theorem g26 : eqD false (.str "some") (.str "both") = some (.bl false) := of_eq_true (eq_self _)
theorem g27 : eqD false (.str "some") (.str "either") = some (.bl false) := of_eq_true (eq_self _)
theorem g32 : eqD false (.str "all") (.str "same") = some (.bl false) := of_eq_true (eq_self _)
theorem g33 : eqD false (.str "all") (.str "mark") = some (.bl false) := of_eq_true (eq_self _)
theorem g34 : eqD false (.str "all") (.str "tie") = some (.bl false) := of_eq_true (eq_self _)
theorem g35 : eqD false (.str "all") (.str "not") = some (.bl false) := of_eq_true (eq_self _)
theorem g36 : eqD false (.str "all") (.str "both") = some (.bl false) := of_eq_true (eq_self _)
theorem g37 : eqD false (.str "all") (.str "either") = some (.bl false) := of_eq_true (eq_self _)
theorem adds (x y : Str) (h : x.length + y.length ≤ 100000) : addD (.str x) (.str y) = some (.str (x ++ y)) := Oe (by omega)
end K23
namespace K23
open PySem L2 PV
def wt : Say → Nat
 | .mark _ _ => 0 | .tie _ _ _ => 0 | .same _ _ => 0
 | .neg s => wt s + 1
 | .both s t => wt s + wt t + 2
 | .either s t => wt s + wt t + 2
 | .ex _ s => wt s + 2
 | .al _ s => wt s + 2
def wto (l : List Say) : Nat := (l.map fun s => wt s + 2).sum
theorem Hv (l r : List Say) : wto (l ++ r) = wto l + wto r := by simp [wto]
theorem wto1 (s : Say) : wto [s] = wt s + 2 := by simp [wto]
theorem wto2 (s t : Say) : wto [s, t] = wt s + 2 + (wt t + 2) := by simp [wto]
abbrev tx (s : Say) : D := .str (txt s)
def pr (s : Say) : D := .lst [enc s, tx s]
theorem pr0 (s : Say) : ixD (pr s) (.int 0) = some (enc s) := of_eq_true (eq_self _)
theorem pr1 (s : Say) : ixD (pr s) (.int 1) = some (tx s) := of_eq_true (eq_self _)
theorem aG (w x : Str) (T : D) (hg : Gd (.mark w x)) : Bj [enc (.mark w x), T] = some (tx (.mark w x)) := by
 have hw := hg.1.hi
 have hx := hg.2.len
 have a1 := adds w "(" (by rw [l_p]; omega)
 have a2 := adds (w ++ "(") x (by rw [Af, l_p]; omega)
 have a3 := adds (w ++ "(" ++ x) ")" (by rw [Af, Af, l_p, l_q]; omega)
 simp only [cK, Bj, enc, txt, tx, DY, g1, g2, a1, a2, a3]
theorem d_ (w x y : Str) (T : D) (hg : Gd (.tie w x y)) : Bj [enc (.tie w x y), T] = some (tx (.tie w x y)) := by
 have hw := hg.1.hi
 have hx := hg.2.1.len
 have hy := hg.2.2.len
 have a1 := adds w "(" (by rw [l_p]; omega)
 have a2 := adds (w ++ "(") x (by simp only [Af, l_p, l_c]; omega)
 have a3 := adds (w ++ "(" ++ x) "," (by simp only [Af, l_p, l_c, l_q]; omega)
 have a4 := adds (w ++ "(" ++ x ++ ",") y (by simp only [Af, l_p, l_c, l_q]; omega)
 have a5 := adds (w ++ "(" ++ x ++ "," ++ y) ")" (by simp only [Af, l_p, l_c, l_q]; omega)
 simp only [cK, Bj, enc, txt, tx, DY, g3, g4, g5, a1, a2, a3, a4, a5]
theorem aH (x y : Str) (T : D) (hg : Gd (.same x y)) : Bj [enc (.same x y), T] = some (tx (.same x y)) := by
 have hx := hg.1.len
 have hy := hg.2.len
 have a1 := adds x "=" (by rw [l_e]; omega)
 have a2 := adds (x ++ "=") y (by simp only [Af, l_e]; omega)
 simp only [cK, Bj, enc, txt, tx, DY, g6, a1, a2]
theorem eE (s : Say) (hl : (txt s).length ≤ 10000) : Bj [enc (.neg s), .lst [tx s]] = some (tx (.neg s)) := by
 have a1 := adds "not " (txt s) (by rw [bR]; omega)
 simp only [cK, Bj, enc, txt, tx, DY, g7, g8, g9, g10, a1]
theorem Vz (s t : Say) (hl : (txt s).length + (txt t).length ≤ 10000) : Bj [enc (.both s t), .lst [tx s, tx t]] = some (tx (.both s t)) := by
 have a1 := adds "(" (txt s) (by rw [l_p]; omega)
 have a2 := adds ("(" ++ txt s) " and " (by simp only [Af, l_p, T8]; omega)
 have a3 := adds ("(" ++ txt s ++ " and ") (txt t) (by simp only [Af, l_p, T8]; omega)
 have a4 := adds ("(" ++ txt s ++ " and " ++ txt t) ")" (by simp only [Af, l_p, T8, l_q]; omega)
 simp only [cK, Bj, enc, txt, tx, DY, g11, g12, g13, g14, g15, a1, a2, a3, a4]
theorem Qf (s t : Say) (hl : (txt s).length + (txt t).length ≤ 10000) : Bj [enc (.either s t), .lst [tx s, tx t]] = some (tx (.either s t)) := by
 have a1 := adds "(" (txt s) (by rw [l_p]; omega)
 have a2 := adds ("(" ++ txt s) " or " (by simp only [Af, l_p, l_or]; omega)
 have a3 := adds ("(" ++ txt s ++ " or ") (txt t) (by simp only [Af, l_p, l_or]; omega)
 have a4 := adds ("(" ++ txt s ++ " or " ++ txt t) ")" (by simp only [Af, l_p, l_or, l_q]; omega)
 simp only [cK, Bj, enc, txt, tx, DY, g16, g17, g18, g19, g20, g21, a1, a2, a3, a4]
theorem iG (x : Str) (s : Say) (hx : Nm x) (hl : (txt s).length ≤ 10000) : Bj [enc (.ex x s), .lst [tx s]] = some (tx (.ex x s)) := by
 have hx := hx.len
 have a1 := adds "some" " " (by rw [O_, l_b]; omega)
 have a2 := adds ("some" ++ " ") x (by simp only [Af, O_, l_b]; omega)
 have a3 := adds ("some" ++ " " ++ x) " " (by simp only [Af, O_, l_b]; omega)
 have a4 := adds ("some" ++ " " ++ x ++ " ") (txt s) (by simp only [Af, O_, l_b]; omega)
 simp only [cK, Bj, enc, txt, tx, DY, g22, g23, g24, g25, g26, g27, a1, a2, a3, a4]
theorem iH (x : Str) (s : Say) (hx : Nm x) (hl : (txt s).length ≤ 10000) : Bj [enc (.al x s), .lst [tx s]] = some (tx (.al x s)) := by
 have hx := hx.len
 have a1 := adds "all" " " (by rw [T9, l_b]; omega)
 have a2 := adds ("all" ++ " ") x (by simp only [Af, T9, l_b]; omega)
 have a3 := adds ("all" ++ " " ++ x) " " (by simp only [Af, T9, l_b]; omega)
 have a4 := adds ("all" ++ " " ++ x ++ " ") (txt s) (by simp only [Af, T9, l_b]; omega)
 simp only [cK, Bj, enc, txt, tx, DY, g32, g33, g34, g35, g36, g37, a1, a2, a3, a4]
theorem aJ (ρ : Rho) (hρ : ρ.length = 4) (S : List Say) : Eo ρ allT Gb (S.map pr) = some (S.map tx) := by
 induction S with
 | nil => rfl
 | cons s r ih =>
  have v : Gb (ρ ++ [.fz (pr s)]) = some (tx s) := by
   have g4 : (ρ ++ [.fz (pr s)])[4]? = some (.fz (pr s)) := by rw [List.getElem?_append_right (by omega), hρ]; rfl
   simp only [Gb, e_b, e_v, g4, e_vs, e_k, e_bs, pr1]
  rw [List.map_cons, KR, QQ, v, ih]
  rfl
theorem Hz (R : List D) (S : List Say) (u : Say) (many : Int) (hm : many = S.length) (hs : Bj [enc u, .lst (S.map tx)] = some (tx u)) (hl : R.length + S.length ≤ 1000) : EY [.lst (R ++ S.map pr), enc u, .int many] = some (.lst (R ++ [pr u])) := by
 have e1 : lenD (.lst (R ++ S.map pr)) = some (.int ((R.length : Int) + S.length)) := by simp [lenD]
 have e2 : subD (.int ((R.length : Int) + S.length)) (.int many) = some (.int R.length) := by rw [Qn, hm, Int.add_sub_cancel]
 have e3 : slD (.lst (R ++ S.map pr)) (some (R.length : Int)) none = some (.lst (S.map pr)) := by
  have := Kr (R ++ S.map pr) R.length
  simp only [List.drop_left'] at this
  exact congrArg (fun z => some (D.lst z)) this
 have e4 : slD (.lst (R ++ S.map pr)) none (some (R.length : Int)) = some (.lst R) := by
  have := Od (R ++ S.map pr) R.length
  exact congrArg (fun z => some (D.lst z)) (by rw [this]; simp)
 have c : Fq (seqI (slF (vF 0) (someO (bF subD (uF lenD (vF 0)) (vF 2))) noO)) allT Gb [.fz (.lst (R ++ S.map pr)), .fz (enc u), .fz (.int many), .un] = some (.lst (S.map tx)) := by
  refine M_ (ds := S.map pr) ?_ (by simp; omega) (aJ _ rfl S)
  simp only [cK, e1, e2, e3]
 have a : addD (.lst R) (.lst [pr u]) = some (.lst (R ++ [pr u])) := XD (by simp; omega)
 have a' : addD (.lst R) (.lst [.lst [enc u, tx u]]) = some (.lst (R ++ [pr u])) := a
 simp only [cK, EY, Kc, c, hs, e1, e2, e4, a']
theorem Jk (xs : List Str) (j n : Int) (hl : n = xs.length) (hx : xs ≠ []) : ∃ x, x ∈ xs ∧ ixD (.lst (xs.map .str)) (.int (j % n)) = some (.str x) := by
 obtain ⟨x, hx, e⟩ := VH (xs := xs.map D.str) j n (by simpa using hl) (by simpa using hx)
 obtain ⟨y, hy, rfl⟩ := List.mem_map.mp hx
 exact ⟨y, hy, e⟩
theorem bT (xs : List Str) : lenD (.lst (xs.map .str)) = some (.int xs.length) := by simp [lenD]
theorem V0 (i : Int) (ms ts ns : List Str) (hn : ns.length = 3) (hms : ∀ x ∈ ms, Wd x) (hts : ∀ x ∈ ts, Wd x) (hns : ∀ x ∈ ns, Nm x) : ∃ s, Dw [.int i, .lst (ms.map .str), .lst (ts.map .str), .lst (ns.map .str)] = some (enc s) ∧ hgt s = 1 ∧ Gd s ∧ (txt s).length ≤ 20 ∧ (∀ T, Bj [enc s, T] = some (tx s)) ∧ wt s = 0 := by
 have hne : ns ≠ [] := by intro z; simp [z] at hn
 obtain ⟨x, mx, ex⟩ := Jk ns (i / 3) 3 (by omega) hne
 obtain ⟨y, my, ey⟩ := Jk ns (i / 9) 3 (by omega) hne
 have nx := hns x mx
 have ny := hns y my
 have lx := nx.len
 have ly := ny.len
 have lm := bT ms
 have lt := bT ts
 have nil_ne : ∀ xs : List Str, xs ≠ [] → eqD true (.lst (xs.map .str)) (.lst []) = some (.bl true) := fun xs h => by
  have : ¬ xs.length = 0 := by simpa using h
  simp [eqD, eqvD, h]
 have nil_eq : eqD true (.lst (([] : List Str).map .str)) (.lst []) = some (.bl false) := rfl
 by_cases h1 : i % 3 = 1 ∧ ms ≠ []
 ·obtain ⟨w, mw, ew⟩ := Jk ms (i / 27) ms.length rfl h1.2
  have m3 := E_ (i / 27) ms.length (by have := List.length_pos_iff.mpr h1.2; omega)
  have hw := hms w mw
  refine ⟨.mark w x, ?_, rfl, ⟨hw, nx⟩, by simp only [txt, Af, l_p, l_q]; have := hw.hi; omega, fun T => aG w x T ⟨hw, nx⟩, rfl⟩
  simp only [ciK, Dw, FQ, ex, ey, h1.1, nil_ne ms h1.2, lm, m3, ew, enc]
 ·by_cases h2 : i % 3 = 2 ∧ ts ≠ []
  ·obtain ⟨w, mw, ew⟩ := Jk ts (i / 27) ts.length rfl h2.2
   have m3 := E_ (i / 27) ts.length (by have := List.length_pos_iff.mpr h2.2; omega)
   have hw := hts w mw
   refine ⟨.tie w x y, ?_, rfl, ⟨hw, nx, ny⟩, by simp only [txt, Af, l_p, l_q, l_c]; have := hw.hi; omega, fun T => d_ w x y T ⟨hw, nx, ny⟩, rfl⟩
   simp only [ciK, Dw, FQ, ex, ey, h2.1, nil_ne ts h2.2, lt, m3, ew, enc]
  ·refine ⟨.same x y, ?_, rfl, ⟨nx, ny⟩, by simp only [txt, Af, l_e]; omega, fun T => aH x y T ⟨nx, ny⟩, rfl⟩
   have g1 : i % 3 = 1 → ms = [] := fun z => by
    by_cases q : ms = []
    ·exact q
    ·exact absurd ⟨z, q⟩ h1
   have g2 : i % 3 = 2 → ts = [] := fun z => by
    by_cases q : ts = []
    ·exact q
    ·exact absurd ⟨z, q⟩ h2
   by_cases c1 : i % 3 = 1
   ·have e1 := g1 c1
    subst e1
    simp only [List.map_nil] at nil_eq
    simp only [ciK, Dw, FQ, ex, ey, c1, nil_eq, enc]
   ·by_cases c2 : i % 3 = 2
    ·have e1 := g2 c2
     subst e1
     simp only [List.map_nil] at nil_eq
     simp only [ciK, Dw, FQ, ex, ey, c2, nil_eq, enc]
    ·simp only [ciK, Dw, FQ, ex, ey, c1, c2, enc]
def tot (l : List Say) : Nat := (l.map fun s => (txt s).length).sum
theorem Gv (l r : List Say) : tot (l ++ r) = tot l + tot r := by simp [tot]
theorem tot1 (s : Say) : tot [s] = (txt s).length := by simp [tot]
theorem tot2 (s t : Say) : tot [s, t] = (txt s).length + (txt t).length := by simp [tot]
structure Row (m : Nat) (l : List Say) : Prop where
 ne : l ≠ []
 len : l.length ≤ m
 hg : ∀ t ∈ l, hgt t + l.length ≤ m + 1
 gd : ∀ t ∈ l, Gd t
 tt : tot l ≤ 20 * m
 wg : wto l ≤ 2 * m
theorem two (x y : D) (n : Int) : ixD (.lst [x, y]) (.int (n % 2)) = some (if n % 2 = 0 then x else y) := by
 have h : n % 2 = 0 ∨ n % 2 = 1 := by omega
 rcases h with h | h
 ·rw [h, if_pos rfl]; exact ix0 x [y]
 ·rw [h, if_neg (by decide)]; exact ix1 x y []
theorem YH {m : Nat} {l : List Say} (h : Row m l) : ∃ r s, l = r ++ [s] := ⟨l.dropLast, l.getLast h.ne, (List.dropLast_concat_getLast h.ne).symm⟩
theorem row1 {m : Nat} {r : List Say} {s u : Say} (h : Row m (r ++ [s])) (hu : hgt u = hgt s + 1) (gu : Gd u) (lu : (txt u).length ≤ (txt s).length + 20) (wu : wt u ≤ wt s + 2) : Row (m + 1) (r ++ [u]) := by
 have hl := h.len
 have ht := h.tt
 have hw := h.wg
 rw [Hv, wto1] at hw
 rw [Gv, tot1] at ht
 simp only [List.length_append, List.length_cons, List.length_nil] at hl
 refine ⟨by simp, by simp; omega, fun t ht => ?_, fun t ht => ?_, by rw [Gv, tot1]; omega, by rw [Hv, wto1]; omega⟩
 ·rcases List.mem_append.mp ht with q | q
  ·have := h.hg t (by simp [q]); simp at this ⊢; omega
  ·simp at q; subst q; have := h.hg s (by simp); simp at this ⊢; omega
 ·rcases List.mem_append.mp ht with q | q
  ·exact h.gd t (by simp [q])
  ·simp at q; subst q; exact gu
theorem row2 {m : Nat} {r : List Say} {s t u : Say} (h : Row m (r ++ [s, t])) (hu : hgt u = max (hgt s) (hgt t) + 1) (gu : Gd u) (lu : (txt u).length ≤ (txt s).length + (txt t).length + 20) (wu : wt u = wt s + wt t + 2) : Row (m + 1) (r ++ [u]) := by
 have hl := h.len
 have ht := h.tt
 have hw := h.wg
 rw [Hv, wto2] at hw
 rw [Gv, tot2] at ht
 simp only [List.length_append, List.length_cons, List.length_nil] at hl
 refine ⟨by simp, by simp; omega, fun v hv => ?_, fun v hv => ?_, by rw [Gv, tot1]; omega, by rw [Hv, wto1]; omega⟩
 ·rcases List.mem_append.mp hv with q | q
  ·have := h.hg v (by simp [q]); simp at this ⊢; omega
  ·simp at q; subst q; have h1 := h.hg s (by simp); have h2 := h.hg t (by simp); simp at h1 h2 ⊢; omega
 ·rcases List.mem_append.mp hv with q | q
  ·exact h.gd v (by simp [q])
  ·simp at q; subst q; exact gu
theorem row0 {m : Nat} {l : List Say} {u : Say} (h : Row m l) (hu : hgt u = 1) (gu : Gd u) (lu : (txt u).length ≤ 20) (wu : wt u = 0) : Row (m + 1) (l ++ [u]) := by
 have hl := h.len
 have ht := h.tt
 have hw := h.wg
 refine ⟨by simp, by simp; omega, fun v hv => ?_, fun v hv => ?_, by rw [Gv, tot1]; omega, by rw [Hv, wto1]; omega⟩
 ·rcases List.mem_append.mp hv with q | q
  ·have := h.hg v q; simp; omega
  ·simp at q; subst q; simp; omega
 ·rcases List.mem_append.mp hv with q | q
  ·exact h.gd v q
  ·simp at q; subst q; exact gu
theorem YJ (m : Nat) (hm : m ≤ 100) (l : List Say) (h : Row m l) (c : Int) (ws ns : List Str) (hn : ns.length = 3) (hws : ∀ x ∈ ws, Wd x) (hns : ∀ x ∈ ns, Nm x) : ∃ l', Dc [.lst (l.map pr), .int c, .lst (ws.map .str), .lst (ns.map .str)] = some (.lst (l'.map pr)) ∧ Row (m + 1) l' := by
 obtain ⟨r, s, rfl⟩ := YH h
 have hlen := h.len
 have htt := h.tt
 rw [Gv, tot1] at htt
 simp only [List.length_append, List.length_cons, List.length_nil] at hlen
 have gs := h.gd s (by simp)
 obtain ⟨N, hN⟩ : ∃ N, modD (.int (c / 8 * 1000000007)) (.int 2147483647) = some (.int N) := ⟨_, E_ _ _ (by decide)⟩
 have hne : ns ≠ [] := by intro z; simp [z] at hn
 obtain ⟨x, mx, ex⟩ := Jk ns (N / 2) 3 (by omega) hne
 have nx := hns x mx
 have lx := nx.len
 have em := Ks (c / 8) 1000000007 (by decide)
 have mp : (r ++ [s]).map pr = r.map pr ++ [s].map pr := List.map_append
 have a1 : ixD (.lst ((r ++ [s]).map pr)) (.int (-1)) = some (pr s) := by rw [mp]; exact VG (r.map pr) (pr s)
 by_cases h1 : 5 < c % 8
 ·by_cases h2 : N % 2 = 0
  ·refine ⟨r ++ [.ex x s], ?_, row1 (u := .ex x s) h rfl (show Gd (.ex x s) from ⟨nx, gs⟩) (by simp only [txt, Af, O_, l_b]; omega) (by simp only [wt]; omega)⟩
   have p := Hz (r.map pr) [s] (.ex x s) 1 rfl (iG x s nx (by omega)) (by simp; omega)
   simp only [enc, ← mp] at p
   simp only [ciK, Dc, Dh, em, hN, a1, pr0, h1, two, h2, if_true, ex, p]
   simp only [List.map_append, List.map_cons, List.map_nil]
  ·refine ⟨r ++ [.al x s], ?_, row1 (u := .al x s) h rfl (show Gd (.al x s) from ⟨nx, gs⟩) (by simp only [txt, Af, T9, l_b]; omega) (by simp only [wt]; omega)⟩
   have p := Hz (r.map pr) [s] (.al x s) 1 rfl (iH x s nx (by omega)) (by simp; omega)
   simp only [enc, ← mp] at p
   simp only [ciK, Dc, Dh, em, hN, a1, pr0, h1, two, h2, if_false, ex, p]
   simp only [List.map_append, List.map_cons, List.map_nil]
 ·by_cases h5 : c % 8 = 5
  ·refine ⟨r ++ [.neg s], ?_, row1 (u := .neg s) h rfl (show Gd (.neg s) from gs) (by simp only [txt, Af, bR]; omega) (by simp only [wt]; omega)⟩
   have p := Hz (r.map pr) [s] (.neg s) 1 rfl (eE s (by omega)) (by simp; omega)
   simp only [enc, ← mp] at p
   simp only [ciK, Dc, Dh, em, hN, a1, pr0, h1, h5, p]
   simp only [List.map_append, List.map_cons, List.map_nil]
  ·have ln2 : lenD (.lst ((r ++ [s]).map pr)) = some (.int ((r.length : Int) + 1)) := by simp [lenD]
   by_cases h6 : 2 < c % 8 ∧ r ≠ []
   ·obtain ⟨q, t, rfl⟩ : ∃ q t, r = q ++ [t] := ⟨r.dropLast, r.getLast h6.2, (List.dropLast_concat_getLast h6.2).symm⟩
    have es : q ++ [t] ++ [s] = q ++ [t, s] := by simp
    have h' := h
    rw [es] at h'
    have ht' := h'.tt
    rw [Gv, tot2] at ht'
    have gt := h.gd t (by simp)
    have g2 : (1 : Int) < ((q ++ [t]).length : Int) + 1 := by simp; omega
    have a2 : ixD (.lst ((q ++ [t] ++ [s]).map pr)) (.int (-2)) = some (pr t) := by
     have := QH (q.map pr) (pr t) (pr s)
     simpa [ixD] using this
    have mp2 : (q ++ [t] ++ [s]).map pr = q.map pr ++ [t, s].map pr := by simp
    simp only [List.length_append, List.length_cons, List.length_nil] at hlen
    by_cases h2 : N % 2 = 0
    ·refine ⟨q ++ [.both t s], ?_, row2 (u := .both t s) h' rfl (show Gd (.both t s) from ⟨gt, gs⟩) (by simp only [txt, Af, l_p, l_q, T8]; omega) rfl⟩
     have p := Hz (q.map pr) [t, s] (.both t s) 2 rfl (Vz t s (by omega)) (by simp; omega)
     simp only [enc, ← mp2] at p
     simp only [ciK, Dc, Dh, em, hN, a1, pr0, h1, h5, h6.1, ln2, g2, a2, two, h2, if_true, p]
     simp only [List.map_append, List.map_cons, List.map_nil]
    ·refine ⟨q ++ [.either t s], ?_, row2 (u := .either t s) h' rfl (show Gd (.either t s) from ⟨gt, gs⟩) (by simp only [txt, Af, l_p, l_q, l_or]; omega) rfl⟩
     have p := Hz (q.map pr) [t, s] (.either t s) 2 rfl (Qf t s (by omega)) (by simp; omega)
     simp only [enc, ← mp2] at p
     simp only [ciK, Dc, Dh, em, hN, a1, pr0, h1, h5, h6.1, ln2, g2, a2, two, h2, if_false, p]
     simp only [List.map_append, List.map_cons, List.map_nil]
   ·have e3 : slD (.lst (ws.map .str)) none (some 3) = some (.lst ((ws.take 3).map .str)) := congrArg (fun z => some (D.lst z)) (T6 D.str ws 3)
    have e4 : slD (.lst (ws.map .str)) (some 3) none = some (.lst ((ws.drop 3).map .str)) := congrArg (fun z => some (D.lst z)) (T7 D.str ws 3)
    obtain ⟨u, eu, hu, gu, lu, su, wu⟩ := V0 N (ws.take 3) (ws.drop 3) ns hn (fun x hx => hws x (List.mem_of_mem_take hx)) (fun x hx => hws x (List.mem_of_mem_drop hx)) hns
    have p := Hz ((r ++ [s]).map pr) [] u 0 rfl (su _) (by simp; omega)
    simp only [List.map_nil, List.append_nil] at p
    refine ⟨r ++ [s] ++ [u], ?_, row0 h hu gu lu wu⟩
    have fin : (r ++ [s] ++ [u]).map pr = (r ++ [s]).map pr ++ [pr u] := by simp
    rw [fin]
    by_cases z2 : 2 < c % 8
    ·have z7 : ¬ ((1 : Int) < (r.length : Int) + 1) := by
      have : r = [] := by
       by_cases q : r = []
       ·exact q
       ·exact absurd ⟨z2, q⟩ h6
      subst this
      simp
     simp only [ciK, Dc, Dh, em, hN, a1, pr0, h1, h5, z2, z7, ln2, e3, e4, eu, p]
    ·simp only [ciK, Dc, Dh, em, hN, a1, pr0, h1, h5, z2, ln2, e3, e4, eu, p]
theorem YK (sc ws ns : D) (z : Slot) (m : Nat) (hm : m ≤ 60) : ∀ (k : Nat) (l : List Say), k ≤ 5000 → l.length ≤ k → l ≠ [] → (∀ t ∈ l, hgt t + l.length ≤ m + 1) → (∀ t ∈ l, Gd t) → l.length ≤ 60 → tot l + 10 * l.length ≤ 1200 → wto l ≤ 76 →
  ∃ s, Dz Eg Eh k [.fz sc, .fz ws, .fz ns, .fz (.lst (l.map pr)), z] = some (.nx [.fz sc, .fz ws, .fz ns, .fz (.lst [pr s]), z]) ∧ hgt s ≤ m ∧ Gd s ∧ (txt s).length ≤ 1200 ∧ wt s ≤ 74 := by
 intro k
 induction k with
 | zero => intro l _ h hne; have := List.length_pos_iff.mpr hne; omega
 | succ k ih =>
  intro l hK hk hne hh hg hl htt hww
  have ln : lenD (.lst (l.map pr)) = some (.int (l.length : Int)) := by simp [lenD]
  by_cases h1 : l.length = 1
  ·obtain ⟨s, rfl⟩ := List.length_eq_one_iff.mp h1
   refine ⟨s, ?_, by have := hh s (by simp); simp at this; omega, hg s (by simp), by rw [tot1] at htt; omega, by rw [wto1] at hww; omega⟩
   have c0 : ¬ (1 : Int) < (([s].length : Nat) : Int) := by simp
   have t0 : Eg [.fz sc, .fz ws, .fz ns, .fz (.lst ([s].map pr)), z] = some false := by
    simp only [Eg, e_bl, e_b, e_u, e_v, List.getElem?_cons_succ, List.getElem?_cons_zero, e_vs, e_us, ln, e_k, e_bs, TQ, QM, c0, decide_false]
   unfold Dz
   rw [t0]
   rfl
  ·have hp := List.length_pos_iff.mpr hne
   obtain ⟨r, s, rfl⟩ : ∃ r s, l = r ++ [s] := ⟨l.dropLast, l.getLast hne, (List.dropLast_concat_getLast hne).symm⟩
   have hr : r ≠ [] := by intro q; subst q; simp at h1
   obtain ⟨q, t, rfl⟩ : ∃ q t, r = q ++ [t] := ⟨r.dropLast, r.getLast hr, (List.dropLast_concat_getLast hr).symm⟩
   have c0 : (1 : Int) < (((q ++ [t] ++ [s]).length : Nat) : Int) := by simp; omega
   have t0 : Eg [.fz sc, .fz ws, .fz ns, .fz (.lst ((q ++ [t] ++ [s]).map pr)), z] = some true := by
    simp only [Eg, e_bl, e_b, e_u, e_v, List.getElem?_cons_succ, List.getElem?_cons_zero, e_vs, e_us, ln, e_k, e_bs, TQ, QM, c0, decide_true]
   have a1 : ixD (.lst ((q ++ [t] ++ [s]).map pr)) (.int (-1)) = some (pr s) := by
    have := VG ((q ++ [t]).map pr) (pr s)
    simpa [ixD] using this
   have a2 : ixD (.lst ((q ++ [t] ++ [s]).map pr)) (.int (-2)) = some (pr t) := by
    have := QH (q.map pr) (pr t) (pr s)
    simpa [ixD] using this
   have mp2 : (q ++ [t] ++ [s]).map pr = q.map pr ++ [t, s].map pr := by simp
   have ht1 := hh t (by simp)
   have hs1 := hh s (by simp)
   have gt := hg t (by simp)
   have gs := hg s (by simp)
   rw [Gv, Gv, tot1, tot1] at htt
   rw [Hv, Hv, wto1, wto1] at hww
   simp only [List.length_append, List.length_cons, List.length_nil] at hk hl htt ht1 hs1
   have nxt : ∀ u : Say, hgt u = max (hgt t) (hgt s) + 1 → Gd u → (txt u).length ≤ (txt t).length + (txt s).length + 7 → wt u = wt t + wt s + 2 → (∀ v ∈ q ++ [u], hgt v + (q ++ [u]).length ≤ m + 1) ∧ (∀ v ∈ q ++ [u], Gd v) ∧ tot (q ++ [u]) + 10 * (q ++ [u]).length ≤ 1200 ∧ wto (q ++ [u]) ≤ 76 := fun u hu gu lu wu => by
    refine ⟨fun v hv => ?_, fun v hv => ?_, by rw [Gv, tot1]; simp; omega, by rw [Hv, wto1]; omega⟩
    ·rcases List.mem_append.mp hv with w | w
     ·have := hh v (by simp [w]); simp at this ⊢; omega
     ·simp at w; subst w; simp; omega
    ·rcases List.mem_append.mp hv with w | w
     ·exact hg v (by simp [w])
     ·simp at w; subst w; exact gu
   by_cases h2 : (((q ++ [t] ++ [s]).length : Nat) : Int) % 2 = 0
   ·obtain ⟨n1, n2, n3, n4⟩ := nxt (.either t s) rfl (show Gd (.either t s) from ⟨gt, gs⟩) (by simp only [txt, Af, l_p, l_q, l_or]; omega) rfl
    obtain ⟨v, e', w1, w2, w3⟩ := ih (q ++ [.either t s]) (by omega) (by simp; omega) (by simp) n1 n2 (by simp; omega) n3 n4
    refine ⟨v, ?_, w1, w2, w3⟩
    have p := Hz (q.map pr) [t, s] (.either t s) 2 rfl (Qf t s (by omega)) (by simp; omega)
    simp only [enc, ← mp2] at p
    have b0 : Eh [.fz sc, .fz ws, .fz ns, .fz (.lst ((q ++ [t] ++ [s]).map pr)), z] = some (.nx [.fz sc, .fz ws, .fz ns, .fz (.lst ((q ++ [Say.either t s]).map pr)), z]) := by
     simp only [Eh, G6, Ln, Lp, QJ, QK, e_b, QL, e_u, e_v, e_k, List.getElem?_cons_succ, List.getElem?_cons_zero, e_vs, e_us, e_bs, ln, E_, show (0 : Int) < 2 by decide, Jm, Lr, two, ix0, h2, if_true, TX, a1, a2, pr0, Lq, Jl, p, Fl, List.set_cons_succ, List.set_cons_zero]
     simp only [List.map_append, List.map_cons, List.map_nil]
    unfold Dz
    rw [t0, b0]
    exact e'
   ·obtain ⟨n1, n2, n3, n4⟩ := nxt (.both t s) rfl (show Gd (.both t s) from ⟨gt, gs⟩) (by simp only [txt, Af, l_p, l_q, T8]; omega) rfl
    obtain ⟨v, e', w1, w2, w3⟩ := ih (q ++ [.both t s]) (by omega) (by simp; omega) (by simp) n1 n2 (by simp; omega) n3 n4
    refine ⟨v, ?_, w1, w2, w3⟩
    have p := Hz (q.map pr) [t, s] (.both t s) 2 rfl (Vz t s (by omega)) (by simp; omega)
    simp only [enc, ← mp2] at p
    have b0 : Eh [.fz sc, .fz ws, .fz ns, .fz (.lst ((q ++ [t] ++ [s]).map pr)), z] = some (.nx [.fz sc, .fz ws, .fz ns, .fz (.lst ((q ++ [Say.both t s]).map pr)), z]) := by
     simp only [Eh, G6, Ln, Lp, QJ, QK, e_b, QL, e_u, e_v, e_k, List.getElem?_cons_succ, List.getElem?_cons_zero, e_vs, e_us, e_bs, ln, E_, show (0 : Int) < 2 by decide, Jm, Lr, two, h2, if_false, TX, a1, a2, pr0, Lq, Jl, p, Fl, List.set_cons_succ, List.set_cons_zero]
     simp only [List.map_append, List.map_cons, List.map_nil]
    unfold Dz
    rw [t0, b0]
    exact e'
end K23
namespace K23
open PySem L2 PV
def rd (x : Str) (i : Int) : D := .ob "Reader" [("line", .str x), ("at", .int i)]
theorem MT (x : Str) (i : Int) : fldD "line" (rd x i) = some (.str x) := by
 show List.lookup ("line" : Str) [("line", D.str x), ("at", .int i)] = _
 rw [List.lookup_cons, show (("line" : Str) == "line") = true by decide +kernel]
theorem f_at (x : Str) (i : Int) : fldD "at" (rd x i) = some (.int i) := by
 show List.lookup ("at" : Str) [("line", D.str x), ("at", .int i)] = _
 rw [List.lookup_cons, show (("at" : Str) == "line") = false by decide +kernel]
 show List.lookup ("at" : Str) [("at", D.int i)] = _
 rw [List.lookup_cons, show (("at" : Str) == "at") = true by decide +kernel]
theorem p_at (x : Str) (i j : Int) : Mj "at" (rd x i) (.int j) = some (rd x j) := by
 show (if 2 < 1000 then some (D.ob "Reader" (putG "at" (.int j) [("line", .str x), ("at", .int i)])) else none) = _
 rw [if_pos (by decide)]
 have e1 : ¬ (("line" : Str) = "at") := by decide +kernel
 unfold putG putG
 rw [if_neg e1, if_pos rfl]
 rfl
theorem PB (x : Str) (i : Int) (m : Str) (h1 : (m == ("line" : Str)) = false) (h2 : (m == ("at" : Str)) = false) : isOb "Reader" m (rd x i) = true := by
 show (decide (("Reader" : Str) = "Reader") && (List.lookup m [("line", D.str x), ("at", .int i)]).isNone) = true
 rw [List.lookup_cons, h1]
 show (decide (("Reader" : Str) = "Reader") && (List.lookup m [("at", D.int i)]).isNone) = true
 rw [List.lookup_cons, h2]
 simp
theorem ob1 (x : Str) (i : Int) : isOb "Reader" "take" (rd x i) = true := PB x i _ (by decide +kernel) (by decide +kernel)
theorem ob2 (x : Str) (i : Int) : isOb "Reader" "take_name" (rd x i) = true := PB x i _ (by decide +kernel) (by decide +kernel)
theorem ob3 (x : Str) (i : Int) : isOb "Reader" "take_letters" (rd x i) = true := PB x i _ (by decide +kernel) (by decide +kernel)
theorem ob4 (x : Str) (i : Int) : isOb "Reader" "is_ahead" (rd x i) = true := PB x i _ (by decide +kernel) (by decide +kernel)
theorem ob5 (x : Str) (i : Int) : isOb "Reader" "is_at_letter" (rd x i) = true := PB x i _ (by decide +kernel) (by decide +kernel)
def At (x : Str) (i : Int) (r : List Nat) : Prop := (x.length ≤ 2500 ∧ ∀ c ∈ cs x, 32 ≤ c ∧ c < 127) ∧ ∃ n : Nat, i = n ∧ n ≤ (cs x).length ∧ (cs x).drop n = r
theorem At.len {x : Str} {i : Int} {r : List Nat} (h : At x i r) : x.length ≤ 2500 := h.1.1
theorem At.rl {x : Str} {i : Int} {r : List Nat} (h : At x i r) : r.length ≤ 2500 := by
 obtain ⟨⟨hl, _⟩, n, rfl, hn, e⟩ := h
 rw [← e, List.length_drop, Cm]
 omega
theorem At.pl {x : Str} {i : Int} {r : List Nat} (h : At x i r) : ∀ c ∈ r, 32 ≤ c ∧ c < 127 := by
 obtain ⟨⟨_, hp⟩, n, rfl, hn, e⟩ := h
 intro c hc
 rw [← e] at hc
 exact hp c (List.mem_of_mem_drop hc)
theorem At.skip {x : Str} {i : Int} {w r : List Nat} (h : At x i (w ++ r)) : At x (i + w.length) r := by
 obtain ⟨hl, n, rfl, hn, e⟩ := h
 have hlen := congrArg List.length e
 rw [List.length_drop, List.length_append] at hlen
 refine ⟨hl, n + w.length, by omega, by omega, ?_⟩
 rw [← List.drop_drop, e, List.drop_left']
 rfl
theorem At.one {x : Str} {i : Int} {c : Nat} {r : List Nat} (h : At x i (c :: r)) : At x (i + 1) r := At.skip (w := [c]) h
theorem At.ok {x : Str} {i : Int} {r : List Nat} (h : At x i r) : okSD (.str x) = true := by
 show (decide (x.length ≤ 100000) && x.cps.toList.all fun c => decide (c < 4294967296)) = true
 rw [Bool.and_eq_true, decide_eq_true_eq, List.all_eq_true]
 exact ⟨by have := h.len; omega, fun c hc => decide_eq_true (by have := (h.1.2 c hc).2; omega)⟩
theorem Ny (T : List Nat) (n k : Nat) (h : n ≤ T.length) : cutD T (some (n : Int)) (some ((n : Int) + k)) = (T.drop n).take k := by
 unfold cutD HT.sIx
 have e1 : ¬ ((n : Int) < 0) := by omega
 have e2 : ¬ ((n : Int) + k < 0) := by omega
 simp only [e1, e2, if_false]
 have q1 : min (n : Int).toNat T.length = n := by omega
 have q2 : min ((n : Int) + k).toNat T.length = min (n + k) T.length := by omega
 first
  | rw [q1, q2]
  | simp only [Int.toNat_natCast, Nat.min_eq_left h]
 rw [List.take_eq_take_iff, List.length_drop]
 omega
theorem T_ {x : Str} {i : Int} {r : List Nat} (y : Str) (hy : y.length ≤ 100) (h : At x i r) : Bh [rd x i, .str y] = some (.bl (decide (r.take y.length = cs y))) := by
 have hl := h.len
 obtain ⟨_, n, rfl, hn, e⟩ := h
 have l1 := JX y (by omega)
 have s1 := sl_s x (some (n : Int)) (some ((n : Int) + y.length)) (by omega)
 have e1 : eqD false (.str (cutS x (some (n : Int)) (some ((n : Int) + y.length)))) (.str y) = some (.bl (decide (r.take y.length = cs y))) := by
  rw [eqs]
  have q : (cutS x (some (n : Int)) (some ((n : Int) + y.length)) = y) ↔ (r.take y.length = cs y) := by
   rw [← e, ← Ny (cs x) n y.length hn, ← IK]
   exact ⟨fun z => by rw [z], fun z => Jj z⟩
  simp only [q]
 simp only [ciK, Bh, Ga, MT, f_at, l1, s1, e1]
def strip (t r : List Nat) : Option (List Nat) := if r.take t.length = t then some (r.drop t.length) else none
theorem Aw {t r r' : List Nat} (h : strip t r = some r') : r = t ++ r' := by
 unfold strip at h
 split at h
 ·rename_i e
  cases h
  have := List.take_append_drop t.length r
  rw [e] at this
  exact this.symm
 ·cases h
theorem Qg (t r : List Nat) : strip t (t ++ r) = some r := by
 unfold strip
 rw [if_pos (by simp)]
 simp
theorem ah_t {x : Str} {i : Int} {r r' : List Nat} (y : Str) (hy : y.length ≤ 100) (h : At x i r) (hs : strip (cs y) r = some r') : Bh [rd x i, .str y] = some (.bl true) := by
 rw [T_ y hy h, Aw hs]
 have : (cs y ++ r').take y.length = cs y := by rw [← Cm y]; simp
 simp [this]
theorem ah_f {x : Str} {i : Int} {r : List Nat} (y : Str) (hy : y.length ≤ 100) (h : At x i r) (hs : strip (cs y) r = none) : Bh [rd x i, .str y] = some (.bl false) := by
 rw [T_ y hy h]
 have : ¬ (r.take y.length = cs y) := fun e => by
  unfold strip at hs
  rw [Cm, if_pos e] at hs
  cases hs
 simp [this]
def E (x : Str) : D := .exc "NoSaying" [("line", .str x)]
theorem PJ {x : Str} (i : Int) (ρ : Rho) (ho : okSD (.str x) = true) : excF "NoSaying" "line" okSD (uF (fldD "line") (vU 0)) (.ow (rd x i) :: ρ) = some (E x) := by
 unfold excF
 have e : uF (fldD "line") (vU 0) (.ow (rd x i) :: ρ) = some (.str x) := MT x i
 rw [e, Option.bind_some, if_pos ho]
 rfl
def dz1 (r : Option (D × Rho)) : Option Out := r.map fun r => match excOf r.1 with | some _ => .rt r.1 r.2 | none => .nx r.2
theorem CP (h : FZ) (ρ : Rho) : GR h ρ = dz1 (h ρ) := of_eq_true (eq_self _)
theorem G4 (x : Str) (ρ : Rho) : dz1 (some (E x, ρ)) = some (.rt (E x) ρ) := of_eq_true (eq_self _)
theorem Fj (ρ : Rho) : dz1 (some (.non, ρ)) = some (.nx ρ) := of_eq_true (eq_self _)
def sz1 (i : Nat) (r : Option (D × Rho)) : Option Out := r.map fun r => match excOf r.1 with | some _ => .rt r.1 r.2 | none => .nx (r.2.set i (.fz r.1))
theorem Dd (i : Nat) (h : FZ) (ρ : Rho) : J2 i h ρ = sz1 i (h ρ) := of_eq_true (eq_self _)
theorem PK (i : Nat) (x : Str) (ρ : Rho) : sz1 i (some (E x, ρ)) = some (.rt (E x) ρ) := of_eq_true (eq_self _)
theorem M7 (i : Nat) (y : Str) (ρ : Rho) : sz1 i (some (.str y, ρ)) = some (.nx (ρ.set i (.fz (.str y)))) := of_eq_true (eq_self _)
theorem Nz (s : Say) : excOf (enc s) = none := by cases s <;> rfl
theorem Lg (i : Nat) (s : Say) (ρ : Rho) : sz1 i (some (enc s, ρ)) = some (.nx (ρ.set i (.fz (enc s)))) := by
 simp [sz1, Nz]
def tz1 (r : Option (List D × Rho)) : Option (D × Rho) := r.bind fun r => match excL r.1 with | some q => some (.exc q.1 q.2, r.2) | none => if r.1.length ≤ sizeLine then some (.tup r.1, r.2) else none
theorem Jv (h : FZA) (ρ : Rho) : Qd h ρ = tz1 (h ρ) := of_eq_true (eq_self _)
theorem YL (a b x : Str) (ρ : Rho) : tz1 (some ([.str a, .str b, E x], ρ)) = some (E x, ρ) := of_eq_true (eq_self _)
theorem eF (a b c : Str) (ρ : Rho) : tz1 (some ([.str a, .str b, .str c], ρ)) = some (.tup [.str a, .str b, .str c], ρ) := of_eq_true (eq_self _)
theorem eG (a b : Str) (s : Say) (ρ : Rho) : tz1 (some ([.str a, .str b, enc s], ρ)) = some (.tup [.str a, .str b, enc s], ρ) := by
 have h : (3 : Nat) ≤ sizeLine := by decide
 have e1 : excOf (.str a) = none := rfl
 have e2 : excOf (.str b) = none := rfl
 simp [tz1, excL, List.findSome?, e1, e2, Nz, h]
theorem eO (a x : Str) (ρ : Rho) : tz1 (some ([.str a, E x], ρ)) = some (E x, ρ) := of_eq_true (eq_self _)
theorem eQ (a : Str) (s : Say) (ρ : Rho) : tz1 (some ([.str a, enc s], ρ)) = some (.tup [.str a, enc s], ρ) := by
 have h : (2 : Nat) ≤ sizeLine := by decide
 have e1 : excOf (.str a) = none := rfl
 simp [tz1, excL, List.findSome?, e1, Nz, h]
theorem Kh {x : Str} {i : Int} {r r' : List Nat} (y : Str) (hy : y.length ≤ 100) (h : At x i r) (hs : strip (cs y) r = some r') : Bk [rd x i, .str y] = some (.non, rd x (i + y.length)) ∧ At x (i + y.length) r' := by
 have a := ah_t y hy h hs
 have l1 := JX y (by omega)
 refine ⟨by simp only [ciK, Bk, Gs, Az, Aj, Cg, A_, Ak, BJ, Al, Bm, Bo, Bp, BK, Am, BL, An, Bq, BP, BR, Br, BV, BW, Ao, Bs, BX, Bt, BZ, Ci, Bu, Bv, Bw, Aq, Ba, Bb, ob4, a, f_at, l1, p_at], ?_⟩
 rw [Aw hs] at h
 have := h.skip
 rwa [Cm] at this
theorem YM {x : Str} {i : Int} {r : List Nat} (y : Str) (hy : y.length ≤ 100) (h : At x i r) (hs : strip (cs y) r = none) : Bk [rd x i, .str y] = some (E x, rd x i) := by
 have a := ah_f y hy h hs
 have ex := fun ρ => PJ i ρ h.ok
 simp only [cK, Bk, Gs, Az, Aj, Cg, A_, Ak, BJ, Al, Bm, Bo, Bp, BK, Am, BL, An, Bq, BP, BR, Br, BV, BW, Ao, Bs, BX, Bt, BZ, Ci, Bu, Bv, Bw, Aq, Ba, Bb, ob4, a, ex]
def isl (c : Nat) : Bool := decide (c ∈ cs LET)
theorem SN (c : Nat) : inD false (.str ⟨#[c]⟩) (.str LET) = some (.bl (!(Builtin.Str.occurrences LET ⟨#[c]⟩ 0 LET.length 1).isEmpty)) := of_eq_true (eq_self _)
theorem Ut : ∀ c < 127, (!(Builtin.Str.occurrences LET ⟨#[c]⟩ 0 LET.length 1).isEmpty) = isl c := by decide +kernel
theorem eU : ∀ c ∈ cs LET, (!(Builtin.Str.occurrences LET ⟨#[c]⟩ 0 LET.length 1).isEmpty) = true := by decide +kernel
theorem V1 {x : Str} {i : Int} {c : Nat} {r : List Nat} (h : At x i (c :: r)) : ixD (.str x) (.int i) = some (.str ⟨#[c]⟩) ∧ i < x.length := by
 have hl := h.len
 obtain ⟨_, n, rfl, hn, e⟩ := h
 have hlt : n < (cs x).length := by
  have := congrArg List.length e
  rw [List.length_drop, List.length_cons] at this
  omega
 have g : (cs x)[n]? = some c := by
  have := List.getElem?_drop (xs := cs x) (i := n) (j := 0)
  rw [e] at this
  simpa using this.symm
 refine ⟨?_, by rw [← Cm]; omega⟩
 show (if x.length ≤ sizeLine then (atI (cs x) (n : Int)).map (fun c => D.str ⟨#[c]⟩) else none) = _
 rw [if_pos (Fe (by omega)), JW, g]
 rfl
theorem YQ {x : Str} {i : Int} (h : At x i []) : i = x.length := by
 obtain ⟨_, n, rfl, hn, e⟩ := h
 have := congrArg List.length e
 rw [List.length_drop, Cm, List.length_nil] at this
 rw [Cm] at hn
 omega
theorem PL {x : Str} {i : Int} {c : Nat} {r : List Nat} (h : At x i (c :: r)) : CJ [rd x i] = some (.bl (isl c)) := by
 obtain ⟨e1, e2⟩ := V1 h
 have l1 := JX x (by have := h.len; omega)
 have e3 : inD false (.str ⟨#[c]⟩) (.str LET) = some (.bl (isl c)) := by rw [SN, Ut c (h.pl c (by simp)).2]
 have hL : (Str.ofString "abcdefghijklmnopqrstuvwxyz") = LET := rfl
 simp only [ciK, CJ, Dq, hL, MT, f_at, l1, e1, e2, e3]
theorem UG {x : Str} {i : Int} (h : At x i []) : CJ [rd x i] = some (.bl false) := by
 have e := YQ h
 have l1 := JX x (by have := h.len; omega)
 have e2 : ¬ (i < (x.length : Int)) := by omega
 simp only [ciK, CJ, Dq, MT, f_at, l1, e2]
def nm : List Nat → Option (Str × List Nat)
 | [] => none
 | c :: r => if isl c = true then some (⟨#[c]⟩, r) else none
theorem Jw {r : List Nat} {a : Str} {r' : List Nat} (h : nm r = some (a, r')) : Nm a ∧ r = cs a ++ r' := by
 cases r with
 | nil => cases h
 | cons c r =>
  simp only [nm] at h
  split at h
  ·rename_i hc
   cases h
   exact ⟨⟨c, of_decide_eq_true hc, rfl⟩, rfl⟩
  ·cases h
theorem SQ {x : Str} {i : Int} {r r' : List Nat} {a : Str} (h : At x i r) (hs : nm r = some (a, r')) : CV [rd x i] = some (.str a, rd x (i + 1)) ∧ At x (i + 1) r' := by
 cases r with
 | nil => cases hs
 | cons c r =>
  simp only [nm] at hs
  split at hs
  ·rename_i hc
   cases hs
   have a := PL h
   rw [hc] at a
   obtain ⟨e1, e2⟩ := V1 h
   have e3 : i + 1 - 1 = i := by omega
   exact ⟨by simp only [ciK, CV, El, Az, Aj, Cg, A_, Ak, BJ, Al, Bm, Bo, Bp, BK, Am, BL, An, Bq, BP, BR, Br, BV, BW, Ao, Bs, BX, Bt, BZ, Ci, Bu, Bv, Bw, Aq, Ba, Bb, ob5, a, f_at, MT, p_at, e3, e1], h.one⟩
  ·cases hs
theorem SX {x : Str} {i : Int} {r : List Nat} (h : At x i r) (hs : nm r = none) : CV [rd x i] = some (E x, rd x i) := by
 have ex := fun ρ => PJ i ρ h.ok
 have a : CJ [rd x i] = some (.bl false) := by
  cases r with
  | nil => exact UG h
  | cons c r =>
   rw [PL h]
   simp only [nm] at hs
   split at hs
   ·cases hs
   ·rename_i hc; rw [Bool.eq_false_iff.mpr hc]
 simp only [cK, CV, El, Az, Aj, Cg, A_, Ak, BJ, Al, Bm, Bo, Bp, BK, Am, BL, An, Bq, BP, BR, Br, BV, BW, Ao, Bs, BX, Bt, BZ, Ci, Bu, Bv, Bw, Aq, Ba, Bb, ob5, a, ex]
theorem Sd {x : Str} (z : Slot) : ∀ (r : List Nat) (i : Int) (k : Nat), At x i r → r.length < k →
  Dz CN C_ k [.ow (rd x i), z] = some (.nx [.ow (rd x (i + (r.takeWhile isl).length)), z]) := by
 intro r
 induction r with
 | nil =>
  intro i k h hk
  obtain ⟨k, rfl⟩ : ∃ m, k = m + 1 := ⟨k - 1, by simp at hk; omega⟩
  have a := UG h
  have t0 : CN [.ow (rd x i), z] = some false := by simp only [cK, CN, Az, Aj, Cg, A_, Ak, BJ, Al, Bm, Bo, Bp, BK, Am, BL, An, Bq, BP, BR, Br, BV, BW, Ao, Bs, BX, Bt, BZ, Ci, Bu, Bv, Bw, Aq, Ba, Bb, ob5, a]
  unfold Dz
  rw [t0]
  simp
 | cons d w ih =>
  intro i k h hk
  obtain ⟨k, rfl⟩ : ∃ m, k = m + 1 := ⟨k - 1, by simp at hk; omega⟩
  have a := PL h
  have t0 : CN [.ow (rd x i), z] = some (isl d) := by simp only [cK, CN, Az, Aj, Cg, A_, Ak, BJ, Al, Bm, Bo, Bp, BK, Am, BL, An, Bq, BP, BR, Br, BV, BW, Ao, Bs, BX, Bt, BZ, Ci, Bu, Bv, Bw, Aq, Ba, Bb, ob5, a]
  unfold Dz
  rw [t0]
  cases hd : isl d with
  | false => simp [List.takeWhile, hd]
  | true =>
   have b0 : C_ [.ow (rd x i), z] = some (.nx [.ow (rd x (i + 1)), z]) := by simp only [ciK, C_, Az, Aj, Cg, A_, Ak, BJ, Al, Bm, Bo, Bp, BK, Am, BL, An, Bq, BP, BR, Br, BV, BW, Ao, Bs, BX, Bt, BZ, Ci, Bu, Bv, Bw, Aq, Ba, Bb, f_at, p_at]
   have e := ih (i + 1) k h.one (by simp at hk; omega)
   rw [b0]
   show Dz CN C_ k [.ow (rd x (i + 1)), z] = _
   rw [e]
   simp only [List.takeWhile, hd, List.length_cons, Int.natCast_add, Int.natCast_one]
   rw [show i + 1 + ((w.takeWhile isl).length : Int) = i + (((w.takeWhile isl).length : Int) + 1) by omega]
def W (r : List Nat) : Str := ⟨(r.takeWhile isl).toArray⟩
theorem cs_W (r : List Nat) : cs (W r) = r.takeWhile isl := by simp [W, cs]
theorem YS (r : List Nat) : IsL (W r) := fun c hc => by
 rw [cs_W] at hc
 have key : ∀ r : List Nat, ∀ c ∈ r.takeWhile isl, isl c = true := by
  intro r
  induction r with
  | nil => intro c hc; cases hc
  | cons d r ih =>
   intro c hc
   rw [List.takeWhile_cons] at hc
   split at hc
   ·rename_i hd
    rcases List.mem_cons.mp hc with rfl | hc
    ·exact hd
    ·exact ih c hc
   ·cases hc
 exact of_decide_eq_true (key r c hc)
theorem JN (r : List Nat) : r = cs (W r) ++ r.dropWhile isl := by rw [cs_W]; exact List.takeWhile_append_dropWhile.symm
theorem PQ {x : Str} {i : Int} {r : List Nat} (h : At x i r) : Dr [rd x i] = some (.str (W r), rd x (i + (W r).length)) ∧ At x (i + (W r).length) (r.dropWhile isl) := by
 have hl := h.rl
 have w := Sd (x := x) (.fz (.int i)) r i 3000 h (by omega)
 rw [← cs_W, Cm] at w
 have s1 := sl_s x (some i) (some (i + (W r).length)) (by have := h.len; omega)
 have e1 : cutS x (some i) (some (i + (W r).length)) = W r := by
  obtain ⟨hx, n, rfl, hn, e⟩ := h
  apply Jj
  rw [IK, Ny _ _ _ hn, e, ← Cm (W r)]
  have := JN r
  have e2 : List.take (cs (W r)).length (cs (W r) ++ r.dropWhile isl) = cs (W r) := by simp
  rw [← this] at e2
  exact e2
 rw [e1] at s1
 refine ⟨by simp only [cK, Dr, Ex, Az, Aj, Cg, A_, Ak, BJ, Al, Bm, Bo, Bp, BK, Am, BL, An, Bq, BP, BR, Br, BV, BW, Ao, Bs, BX, Bt, BZ, Ci, Bu, Bv, Bw, Aq, Ba, Bb, f_at, MT, w, s1], ?_⟩
 rw [JN r] at h
 have := h.skip
 rwa [Cm] at this
theorem aK {x : Str} (h : x ∉ KEPT) : inF false (.str x) c_KEPT_TEXTS = some (.bl false) := by
 have e : inF false (.str x) c_KEPT_TEXTS = inD false (.str x) (.lst (KEPT.map .str)) := rfl
 rw [e, Kz]
 have : (KEPT.any fun y => y == x) = false := by
  rw [List.any_eq_false]
  intro y hy hz
  have := beq_iff_eq.mp hz
  exact h (this ▸ hy)
 rw [this]
theorem YT (x : Str) (h : x.length ≤ 10000000) : lenE (.str x) = some (.int x.length) := JX x h
theorem aL {x : Str} (h : Wd x) : F_ [.str x] = some (.bl true) := by
 have k := aK h.kept
 have h1 := h.lo
 have h2 := h.hi
 have l := YT x (by omega)
 have c0 : ¬ ((x.length : Int) = 0) := by omega
 have c8 : ¬ ((8 : Int) < x.length) := by omega
 have cc : ∀ l : List Nat, (∀ c ∈ l, c ∈ cs LET) → Eo [.fz (.str x)] allT Gy (l.map fun c => .str ⟨#[c]⟩) = some (l.map fun _ => .bl true) := by
  intro l
  induction l with
  | nil => intro _; rfl
  | cons c r ih =>
   intro hl
   have v : Gy ([.fz (.str x)] ++ [.fz (.str ⟨#[c]⟩)]) = some (.bl true) := by
    have e : inF false (.str ⟨#[c]⟩) (.str LET) = some (.bl true) := by
     show inD false (.str ⟨#[c]⟩) (.str LET) = _
     rw [SN, eU c (hl c (by simp))]
    have hL : (Str.ofString "abcdefghijklmnopqrstuvwxyz") = LET := rfl
    simp only [cK, Gy, hL, e]
   rw [List.map_cons, KR, QQ, v, ih fun d hd => hl d (by simp [hd])]
   rfl
 have c1 : Fq (seqA (vF 0)) allT Gy [.fz (.str x)] = some (.lst ((cs x).map fun _ => .bl true)) := by
  refine M_ (ds := (cs x).map fun c => .str ⟨#[c]⟩) (by rfl) (by rw [List.length_map, Cm]; omega) (cc (cs x) h.isL)
 have al : ∀ l : List Nat, allD (.lst (l.map fun _ => .bl true)) = some (.bl true) := by
  intro l
  have q : ∀ l : List Nat, blsD (l.map fun _ => D.bl true) = some (l.map fun _ => true) := by
   intro l
   induction l with
   | nil => rfl
   | cons c r ih => simp [blsD, ih]
  show (blsD (l.map fun _ => D.bl true)).map _ = _
  rw [q]
  simp
 simp only [ciK, F_, HF, k, l, c0, c8, c1, al]
end K23
namespace K23
open PySem L2 PV
theorem c_p : cs "(" = [40] := by decide +kernel
theorem c_q : cs ")" = [41] := by decide +kernel
theorem c_c : cs "," = [44] := by decide +kernel
theorem c_e : cs "=" = [61] := by decide +kernel
theorem c_b : cs " " = [32] := by decide +kernel
theorem bU : cs "not" = [110, 111, 116] := by decide +kernel
theorem eV : cs "not " = [110, 111, 116, 32] := by decide +kernel
theorem eX : cs "some" = [115, 111, 109, 101] := by decide +kernel
theorem iJ : cs "all" = [97, 108, 108] := by decide +kernel
def wd (w : Str) : Bool := !(KEPT.any fun y => y == w) && decide (1 ≤ w.length) && decide (w.length ≤ 8)
theorem bV {w : Str} (hL : IsL w) (h : wd w = true) : Wd w := by
 unfold wd at h
 simp only [Bool.and_eq_true, decide_eq_true_eq, Bool.not_eq_true', List.any_eq_false, beq_iff_eq] at h
 exact ⟨h.1.2, h.2, hL, fun hk => h.1.1 w hk rfl⟩
def Rm (w : Str) (r : List Nat) : Option (Say × List Nat) :=
 if wd w = true then (strip [40] r).bind fun r1 => (nm r1).bind fun a => match strip [41] a.2 with
  | some r3 => some (.mark w a.1, r3)
  | none => (strip [44] a.2).bind fun r3 => (nm r3).bind fun b => (strip [41] b.2).map fun r5 => (.tie w a.1 b.1, r5)
 else none
def Re (w : Str) (r : List Nat) : Option (Say × List Nat) :=
 if w.length = 1 then (strip [61] r).bind fun r1 => (nm r1).map fun a => (.same w a.1, a.2) else none
def Rb (f : List Nat → Option (Say × List Nat)) (r : List Nat) : Option (Say × List Nat) :=
 (strip [40] r).bind fun r1 => (f r1).bind fun s => match strip (cs " and ") s.2 with
  | some r3 => (f r3).bind fun t => (strip [41] t.2).map fun r5 => (.both s.1 t.1, r5)
  | none => (strip (cs " or ") s.2).bind fun r3 => (f r3).bind fun t => (strip [41] t.2).map fun r5 => (.either s.1 t.1, r5)
def Rq (f : List Nat → Option (Say × List Nat)) (w : Str) (r : List Nat) : Option (Say × List Nat) :=
 (strip [32] r).bind fun r1 => (nm r1).bind fun a => (strip [32] a.2).bind fun r3 => (f r3).map fun s => (if w = "some" then .ex a.1 s.1 else .al a.1 s.1, s.2)
def Rn (f : List Nat → Option (Say × List Nat)) (r : List Nat) : Option (Say × List Nat) :=
 (strip [32] r).bind fun r1 => (f r1).map fun s => (.neg s.1, s.2)
def Rt (f : List Nat → Option (Say × List Nat)) (w : Str) (r : List Nat) : Option (Say × List Nat) :=
 if (strip [40] r).isSome = true then Rm w r else if (strip [61] r).isSome = true then Re w r else if w = "some" ∨ w = "all" then Rq f w r else if w = "not" then Rn f r else none
def R : Nat → List Nat → Option (Say × List Nat)
 | 0, _ => none
 | n + 1, r => if (strip [40] r).isSome = true then Rb (R n) r else Rt (R n) (W r) (r.dropWhile isl)
def ctp : Nat → List Nat → Nat
 | _, [] => 0
 | p, c :: r => (if (c = 40 ∧ isl p = false) ∨ (c = 32 ∧ (p = 116 ∨ p = 101 ∨ p = 108)) then 1 else 0) + ctp c r
theorem i0 : isl 0 = false := by decide +kernel
theorem i40 : isl 40 = false := by decide +kernel
theorem i32 : isl 32 = false := by decide +kernel
theorem Hw (p c : Nat) (r : List Nat) : ctp p (c :: r) = (if (c = 40 ∧ isl p = false) ∨ (c = 32 ∧ (p = 116 ∨ p = 101 ∨ p = 108)) then 1 else 0) + ctp c r := rfl
theorem Uu {q : Nat} (hq : q = 40 ∨ q = 32) (r : List Nat) : ctp q r = ctp 0 r := by
 cases r with
 | nil => rfl
 | cons c r =>
  rw [Hw, Hw]
  rcases hq with rfl | rfl <;> simp [i0, i40, i32]
theorem Lh (a : List Nat) : ∀ (p : Nat) (b : List Nat), ctp p (a ++ b) = ctp p a + ctp (a.getLastD p) b := by
 induction a with
 | nil => intro p b; simp [ctp]
 | cons c a ih =>
  intro p b
  rw [List.cons_append, List.getLastD_cons, Hw, Hw, ih c b]
  omega
theorem eY (a : List Nat) (q p : Nat) : (a ++ [q]).getLastD p = q := by simp [List.getLastD_eq_getLast?]
theorem aM (a b : List Nat) (p : Nat) {q : Nat} (hq : q = 40 ∨ q = 32) : ctp 0 b ≤ ctp p (a ++ [q] ++ b) := by
 rw [Lh, eY, Uu hq]
 omega
abbrev ct (r : List Nat) : Nat := ctp 0 r
theorem ct_p (r : List Nat) : ct r + 1 ≤ ct (40 :: r) := by
 show ctp 0 r + 1 ≤ _
 rw [ct, Hw, Uu (.inl rfl), if_pos (.inl ⟨rfl, i0⟩)]
 omega
theorem ct_w (w : Str) (hw : w = "some" ∨ w = "all" ∨ w = "not") (r : List Nat) : ct r + 1 ≤ ct (cs w ++ 32 :: r) := by
 have := Uu (.inr rfl) r
 rcases hw with rfl | rfl | rfl
 ·rw [eX]; simp [ct, ctp, this]; omega
 ·rw [iJ]; simp [ct, ctp, this]; omega
 ·rw [bU]; simp [ct, ctp, this]; omega
theorem YW {w : Str} {r : List Nat} {s : Say} {r' : List Nat} (hL : IsL w) (h : Rm w r = some (s, r')) : cs w ++ r = cs (txt s) ++ r' ∧ Gd s ∧ hgt s = 1 := by
 unfold Rm at h
 split at h
 ·rename_i hw
  have hW := bV hL hw
  cases e1 : strip [40] r with
  | none => rw [e1] at h; cases h
  | some r1 =>
   rw [e1, Option.bind_some] at h
   cases e2 : nm r1 with
   | none => rw [e2] at h; cases h
   | some a =>
    obtain ⟨a, r2⟩ := a
    rw [e2, Option.bind_some] at h
    obtain ⟨na, er1⟩ := Jw e2
    have er := Aw e1
    simp only at h
    cases e3 : strip [41] r2 with
    | some r3 =>
     rw [e3] at h
     cases h
     refine ⟨?_, ⟨hW, na⟩, rfl⟩
     rw [er, er1, Aw e3]
     simp only [txt, Fd, c_p, c_q, List.append_assoc]
    | none =>
     rw [e3] at h
     simp only at h
     cases e4 : strip [44] r2 with
     | none => rw [e4] at h; cases h
     | some r3 =>
      rw [e4, Option.bind_some] at h
      cases e5 : nm r3 with
      | none => rw [e5] at h; cases h
      | some b =>
       obtain ⟨b, r4⟩ := b
       rw [e5, Option.bind_some] at h
       obtain ⟨nb, er3⟩ := Jw e5
       simp only at h
       cases e6 : strip [41] r4 with
       | none => rw [e6] at h; cases h
       | some r5 =>
        rw [e6] at h
        cases h
        refine ⟨?_, ⟨hW, na, nb⟩, rfl⟩
        rw [er, er1, Aw e4, er3, Aw e6]
        simp only [txt, Fd, c_p, c_q, c_c, List.append_assoc]
 ·cases h
theorem YX {w : Str} {r : List Nat} {s : Say} {r' : List Nat} (hL : IsL w) (h : Re w r = some (s, r')) : cs w ++ r = cs (txt s) ++ r' ∧ Gd s ∧ hgt s = 1 := by
 unfold Re at h
 split at h
 ·rename_i hw
  have nw : Nm w := by
   have e : (cs w).length = 1 := by rw [Cm]; exact hw
   match hc : cs w, e with
   | [c], _ =>
    refine ⟨c, hL c (by rw [hc]; simp), Jj ?_⟩
    rw [hc]
  cases e1 : strip [61] r with
  | none => rw [e1] at h; cases h
  | some r1 =>
   rw [e1, Option.bind_some] at h
   cases e2 : nm r1 with
   | none => rw [e2] at h; cases h
   | some a =>
    obtain ⟨a, r2⟩ := a
    rw [e2] at h
    cases h
    obtain ⟨na, er1⟩ := Jw e2
    refine ⟨?_, ⟨nw, na⟩, rfl⟩
    rw [Aw e1, er1]
    simp only [txt, Fd, c_e, List.append_assoc]
 ·cases h
theorem Sg : ∀ (n : Nat) (r : List Nat) (s : Say) (r' : List Nat), R n r = some (s, r') → r = cs (txt s) ++ r' ∧ Gd s ∧ hgt s ≤ n := by
 intro n
 induction n with
 | zero => intro r s r' h; cases h
 | succ n ih =>
  intro r s r' h
  unfold R at h
  split at h
  ·unfold Rb at h
   cases e1 : strip [40] r with
   | none => rw [e1] at h; cases h
   | some r1 =>
    rw [e1, Option.bind_some] at h
    cases e2 : R n r1 with
    | none => rw [e2] at h; cases h
    | some p =>
     obtain ⟨u, r2⟩ := p
     rw [e2, Option.bind_some] at h
     obtain ⟨q1, q2, q3⟩ := ih _ _ _ e2
     simp only at h
     cases e3 : strip (cs " and ") r2 with
     | some r3 =>
      rw [e3] at h
      simp only at h
      cases e4 : R n r3 with
      | none => rw [e4] at h; cases h
      | some p =>
       obtain ⟨t, r4⟩ := p
       rw [e4, Option.bind_some] at h
       obtain ⟨y1, y2, y3⟩ := ih _ _ _ e4
       simp only at h
       cases e5 : strip [41] r4 with
       | none => rw [e5] at h; cases h
       | some r5 =>
        rw [e5] at h
        cases h
        refine ⟨?_, ⟨q2, y2⟩, by simp only [hgt]; omega⟩
        rw [Aw e1, q1, Aw e3, y1, Aw e5]
        simp only [txt, Fd, c_p, c_q, List.append_assoc]
     | none =>
      rw [e3] at h
      simp only at h
      cases e6 : strip (cs " or ") r2 with
      | none => rw [e6] at h; cases h
      | some r3 =>
       rw [e6, Option.bind_some] at h
       cases e4 : R n r3 with
       | none => rw [e4] at h; cases h
       | some p =>
        obtain ⟨t, r4⟩ := p
        rw [e4, Option.bind_some] at h
        obtain ⟨y1, y2, y3⟩ := ih _ _ _ e4
        simp only at h
        cases e5 : strip [41] r4 with
        | none => rw [e5] at h; cases h
        | some r5 =>
         rw [e5] at h
         cases h
         refine ⟨?_, ⟨q2, y2⟩, by simp only [hgt]; omega⟩
         rw [Aw e1, q1, Aw e6, y1, Aw e5]
         simp only [txt, Fd, c_p, c_q, List.append_assoc]
  ·have hs := JN r
   have hL := YS r
   generalize W r = w at h hs hL
   generalize r.dropWhile isl = q at h hs
   unfold Rt at h
   split at h
   ·obtain ⟨y1, y2, y3⟩ := YW hL h
    exact ⟨hs.trans y1, y2, by omega⟩
   ·split at h
    ·obtain ⟨y1, y2, y3⟩ := YX hL h
     exact ⟨hs.trans y1, y2, by omega⟩
    ·split at h
     ·rename_i hw
      unfold Rq at h
      cases e1 : strip [32] q with
      | none => rw [e1] at h; cases h
      | some r1 =>
       rw [e1, Option.bind_some] at h
       cases e2 : nm r1 with
       | none => rw [e2] at h; cases h
       | some a =>
        obtain ⟨a, r2⟩ := a
        rw [e2, Option.bind_some] at h
        obtain ⟨na, er1⟩ := Jw e2
        simp only at h
        cases e3 : strip [32] r2 with
        | none => rw [e3] at h; cases h
        | some r3 =>
         rw [e3, Option.bind_some] at h
         cases e4 : R n r3 with
         | none => rw [e4] at h; cases h
         | some p =>
          obtain ⟨t, r4⟩ := p
          rw [e4] at h
          obtain ⟨y1, y2, y3⟩ := ih _ _ _ e4
          rcases hw with rfl | rfl
          ·cases h
           refine ⟨?_, ⟨na, y2⟩, by simp only [if_pos, hgt]; omega⟩
           rw [hs, Aw e1, er1, Aw e3, y1]
           simp only [if_pos, txt, Fd, c_b, List.append_assoc]
          ·have e : ¬ (("all" : Str) = "some") := by decide +kernel
           simp only [Option.map_some, if_neg e] at h
           cases h
           refine ⟨?_, ⟨na, y2⟩, by simp only [hgt]; omega⟩
           rw [hs, Aw e1, er1, Aw e3, y1]
           simp only [txt, Fd, c_b, List.append_assoc]
     ·split at h
      ·rename_i hw
       subst hw
       unfold Rn at h
       cases e1 : strip [32] q with
       | none => rw [e1] at h; cases h
       | some r1 =>
        rw [e1, Option.bind_some] at h
        cases e4 : R n r1 with
        | none => rw [e4] at h; cases h
        | some p =>
         obtain ⟨t, r4⟩ := p
         rw [e4] at h
         obtain ⟨y1, y2, y3⟩ := ih _ _ _ e4
         cases h
         refine ⟨?_, y2, by simp only [hgt]; omega⟩
         rw [hs, Aw e1, y1]
         simp only [txt, Fd, bU, eV, List.append_assoc, List.cons_append, List.nil_append]
      ·cases h
end K23
namespace K23
open PySem L2 PV
def Res (x : Str) (o : Option (Say × List Nat)) (res : Option (D × D)) : Prop := match o with
 | some p => ∃ j, At x j p.2 ∧ res = some (enc p.1, rd x j)
 | none => ∃ j, res = some (E x, rd x j)
theorem Res.no {x : Str} {res : Option (D × D)} {j : Int} (h : res = some (E x, rd x j)) : Res x none res := ⟨j, h⟩
theorem Res.yes {x : Str} {res : Option (D × D)} {j : Int} {s : Say} {r : List Nat} (a : At x j r) (h : res = some (enc s, rd x j)) : Res x (some (s, r)) res := ⟨j, a, h⟩
theorem aN (w : Str) : inF false (.str w) c_KEPT_TEXTS = some (.bl (KEPT.any fun y => y == w)) := by
 have e : inF false (.str w) c_KEPT_TEXTS = inD false (.str w) (.lst (KEPT.map .str)) := rfl
 rw [e, Kz]
theorem eZ {w : Str} (h : wd w = false) (hl : w.length ≤ 2500) : F_ [.str w] = some (.bl false) := by
 have k := aN w
 have l := YT w (by omega)
 unfold wd at h
 cases hk : (KEPT.any fun y => y == w) with
 | true =>
  rw [hk] at k
  simp only [cK, F_, HF, k]
 | false =>
  rw [hk] at k h
  by_cases h0 : w.length = 0
  ·have c0 : ((w.length : Int) = 0) := by omega
   simp only [ciK, F_, HF, k, l, c0]
  ·have h8 : 8 < w.length := by
    simp only [Bool.not_false, Bool.true_and, Bool.and_eq_false_iff, decide_eq_false_iff_not] at h
    omega
   have c0 : ¬ ((w.length : Int) = 0) := by omega
   have c8 : ((8 : Int) < w.length) := by omega
   simp only [ciK, F_, HF, k, l, c0, c8]
theorem y1 {y : Str} {c : Nat} (h : cs y = [c]) : y.length = 1 := by rw [← Cm, h]; rfl
theorem tk_t {x : Str} {i : Int} {r r' : List Nat} (y : Str) {c : Nat} (hc : cs y = [c]) (h : At x i r) (hs : strip [c] r = some r') : Bk [rd x i, .str y] = some (.non, rd x (i + 1)) ∧ At x (i + 1) r' := by
 have := Kh y (by rw [y1 hc]; decide) h (by rw [hc]; exact hs)
 rw [y1 hc] at this
 exact this
theorem tk_f {x : Str} {i : Int} {r : List Nat} (y : Str) {c : Nat} (hc : cs y = [c]) (h : At x i r) (hs : strip [c] r = none) : Bk [rd x i, .str y] = some (E x, rd x i) :=
 YM y (by rw [y1 hc]; decide) h (by rw [hc]; exact hs)
theorem ad_t {x : Str} {i : Int} {r r' : List Nat} (y : Str) {c : Nat} (hc : cs y = [c]) (h : At x i r) (hs : strip [c] r = some r') : Bh [rd x i, .str y] = some (.bl true) :=
 ah_t y (by rw [y1 hc]; decide) h (by rw [hc]; exact hs)
theorem ad_f {x : Str} {i : Int} {r : List Nat} (y : Str) {c : Nat} (hc : cs y = [c]) (h : At x i r) (hs : strip [c] r = none) : Bh [rd x i, .str y] = some (.bl false) :=
 ah_f y (by rw [y1 hc]; decide) h (by rw [hc]; exact hs)
theorem mt_R {x : Str} {i : Int} {r : List Nat} {w : Str} (h : At x i r) (hL : IsL w) (hl : w.length ≤ 2500) : Res x (Rm w r) (Bl [rd x i, .str w]) := by
 unfold Rm
 cases hw : wd w with
 | false =>
  have k := eZ hw hl
  have ex := fun ρ => PJ i ρ h.ok
  rw [if_neg (by simp)]
  exact .no (j := i) (by simp only [cK, Bl, B_, Az, Aj, Cg, A_, Ak, BJ, Al, Bm, Bo, Bp, BK, Am, BL, An, Bq, BP, BR, Br, BV, BW, Ao, Bs, BX, Bt, BZ, Ci, Bu, Bv, Bw, Aq, Ba, Bb, k, ex])
 | true =>
  have k := aL (bV hL hw)
  rw [if_pos rfl]
  cases e1 : strip [40] r with
  | none =>
   have a1 := tk_f "(" c_p h e1
   exact .no (j := i) (by simp only [cK, Bl, B_, Az, Aj, Cg, A_, Ak, BJ, Al, Bm, Bo, Bp, BK, Am, BL, An, Bq, BP, BR, Br, BV, BW, Ao, Bs, BX, Bt, BZ, Ci, Bu, Bv, Bw, Aq, Ba, Bb, k, ob1, a1, CP, G4])
  | some r1 =>
   obtain ⟨a1, h1⟩ := tk_t "(" c_p h e1
   rw [Option.bind_some]
   cases e2 : nm r1 with
   | none =>
    have a2 := SX h1 e2
    exact .no (j := i + 1) (by simp only [cK, Bl, B_, Az, Aj, Cg, A_, Ak, BJ, Al, Bm, Bo, Bp, BK, Am, BL, An, Bq, BP, BR, Br, BV, BW, Ao, Bs, BX, Bt, BZ, Ci, Bu, Bv, Bw, Aq, Ba, Bb, k, ob1, ob2, a1, a2, CP, Fj, Dd, PK])
   | some a =>
    obtain ⟨a, r2⟩ := a
    obtain ⟨a2, h2⟩ := SQ h1 e2
    rw [Option.bind_some]
    simp only
    cases e3 : strip [41] r2 with
    | some r3 =>
     have a3 := ad_t ")" c_q h2 e3
     obtain ⟨a4, h3⟩ := tk_t ")" c_q h2 e3
     exact .yes h3 (by simp only [cK, Bl, B_, Az, Aj, Cg, A_, Ak, BJ, Al, Bm, Bo, Bp, BK, Am, BL, An, Bq, BP, BR, Br, BV, BW, Ao, Bs, BX, Bt, BZ, Ci, Bu, Bv, Bw, Aq, Ba, Bb, k, ob1, ob2, ob4, a1, a2, a3, a4, CP, Fj, Dd, M7, enc])
    | none =>
     have a3 := ad_f ")" c_q h2 e3
     simp only
     cases e4 : strip [44] r2 with
     | none =>
      have a4 := tk_f "," c_c h2 e4
      exact .no (j := i + 1 + 1) (by simp only [cK, Bl, B_, Az, Aj, Cg, A_, Ak, BJ, Al, Bm, Bo, Bp, BK, Am, BL, An, Bq, BP, BR, Br, BV, BW, Ao, Bs, BX, Bt, BZ, Ci, Bu, Bv, Bw, Aq, Ba, Bb, k, ob1, ob2, ob4, a1, a2, a3, a4, CP, Fj, G4, Dd, M7])
     | some r3 =>
      obtain ⟨a4, h3⟩ := tk_t "," c_c h2 e4
      rw [Option.bind_some]
      cases e5 : nm r3 with
      | none =>
       have a5 := SX h3 e5
       exact .no (j := i + 1 + 1 + 1) (by simp only [cK, Bl, B_, Az, Aj, Cg, A_, Ak, BJ, Al, Bm, Bo, Bp, BK, Am, BL, An, Bq, BP, BR, Br, BV, BW, Ao, Bs, BX, Bt, BZ, Ci, Bu, Bv, Bw, Aq, Ba, Bb, k, ob1, ob2, ob4, a1, a2, a3, a4, a5, CP, Fj, G4, Dd, M7, PK])
      | some b =>
       obtain ⟨b, r4⟩ := b
       obtain ⟨a5, h4⟩ := SQ h3 e5
       rw [Option.bind_some]
       simp only
       cases e6 : strip [41] r4 with
       | none =>
        have a6 := tk_f ")" c_q h4 e6
        exact .no (j := i + 1 + 1 + 1 + 1) (by simp only [cK, Bl, B_, Az, Aj, Cg, A_, Ak, BJ, Al, Bm, Bo, Bp, BK, Am, BL, An, Bq, BP, BR, Br, BV, BW, Ao, Bs, BX, Bt, BZ, Ci, Bu, Bv, Bw, Aq, Ba, Bb, k, ob1, ob2, ob4, a1, a2, a3, a4, a5, a6, CP, Fj, G4, Dd, M7])
       | some r5 =>
        obtain ⟨a6, h5⟩ := tk_t ")" c_q h4 e6
        exact .yes h5 (by simp only [cK, Bl, B_, Az, Aj, Cg, A_, Ak, BJ, Al, Bm, Bo, Bp, BK, Am, BL, An, Bq, BP, BR, Br, BV, BW, Ao, Bs, BX, Bt, BZ, Ci, Bu, Bv, Bw, Aq, Ba, Bb, k, ob1, ob2, ob4, a1, a2, a3, a4, a5, a6, CP, Fj, G4, Dd, M7, enc])
theorem sm_R {x : Str} {i : Int} {r : List Nat} {w : Str} (h : At x i r) (hl : w.length ≤ 2500) : Res x (Re w r) (Ei [rd x i, .str w]) := by
 have l := JX w (by omega)
 unfold Re
 split
 ·rename_i hw
  have c1 : ((w.length : Int) = 1) := by omega
  cases e1 : strip [61] r with
  | none =>
   have a1 := tk_f "=" c_e h e1
   exact .no (j := i) (by simp only [ciK, Ei, GC, Az, Aj, Cg, A_, Ak, BJ, Al, Bm, Bo, Bp, BK, Am, BL, An, Bq, BP, BR, Br, BV, BW, Ao, Bs, BX, Bt, BZ, Ci, Bu, Bv, Bw, Aq, Ba, Bb, l, c1, ob1, a1, CP, G4])
  | some r1 =>
   obtain ⟨a1, h1⟩ := tk_t "=" c_e h e1
   rw [Option.bind_some]
   cases e2 : nm r1 with
   | none =>
    have a2 := SX h1 e2
    exact .no (j := i + 1) (by simp only [ciK, Ei, GC, Az, Aj, Cg, A_, Ak, BJ, Al, Bm, Bo, Bp, BK, Am, BL, An, Bq, BP, BR, Br, BV, BW, Ao, Bs, BX, Bt, BZ, Ci, Bu, Bv, Bw, Aq, Ba, Bb, l, c1, ob1, ob2, a1, a2, CP, Fj, Jv, YL])
   | some a =>
    obtain ⟨a, r2⟩ := a
    obtain ⟨a2, h2⟩ := SQ h1 e2
    exact .yes h2 (by simp only [ciK, Ei, GC, Az, Aj, Cg, A_, Ak, BJ, Al, Bm, Bo, Bp, BK, Am, BL, An, Bq, BP, BR, Br, BV, BW, Ao, Bs, BX, Bt, BZ, Ci, Bu, Bv, Bw, Aq, Ba, Bb, l, c1, ob1, ob2, a1, a2, CP, Fj, Jv, eF, enc])
 ·rename_i hw
  have ex := fun ρ => PJ i ρ h.ok
  have c1 : ¬ ((w.length : Int) = 1) := by omega
  exact .no (j := i) (by simp only [ciK, Ei, GC, Az, Aj, Cg, A_, Ak, BJ, Al, Bm, Bo, Bp, BK, Am, BL, An, Bq, BP, BR, Br, BV, BW, Ao, Bs, BX, Bt, BZ, Ci, Bu, Bv, Bw, Aq, Ba, Bb, l, c1, ex])
end K23
namespace K23
open PySem L2 PV
theorem Kl : Str.length " and " = 5 := by decide +kernel
theorem Qh : Str.length " or " = 4 := by decide +kernel
theorem q_bb : eqD false (.str "both") (.str "both") = some (.bl true) := of_eq_true (eq_self _)
theorem q_eb : eqD false (.str "either") (.str "both") = some (.bl false) := of_eq_true (eq_self _)
def YZ (x : Str) (m : Nat) (f : List Nat → Option (Say × List Nat)) (rec : List D → Option (D × D)) : Prop :=
 (∀ i r, At x i r → ct r < m → Res x (f r) (rec [rd x i])) ∧ ∀ r s r', f r = some (s, r') → r = cs (txt s) ++ r'
theorem bW : cs " and " = [32, 97, 110, 100] ++ [32] := by decide +kernel
theorem a_or : cs " or " = [32, 111, 114] ++ [32] := by decide +kernel
theorem Ma {r r' t a : List Nat} (h : r = a ++ (t ++ [32] ++ r')) : ct r' ≤ ct r := by
 have e : r = a ++ t ++ [32] ++ r' := by rw [h]; simp
 rw [e]
 exact aM (a ++ t) r' 0 (.inr rfl)
theorem bo_R {x : Str} {m : Nat} {f : List Nat → Option (Say × List Nat)} {rec : List D → Option (D × D)} {i : Int} {r : List Nat} (F : YZ x m f rec) (h : At x i r) (hc : ct r < m + 1) : Res x (Rb f r) (Ax rec [rd x i]) := by
 unfold Rb
 cases e1 : strip [40] r with
 | none =>
  have a1 := tk_f "(" c_p h e1
  exact .no (j := i) (by simp only [cK, Ax, Be, Az, Aj, Cg, A_, Ak, BJ, Al, Bm, Bo, Bp, BK, Am, BL, An, Bq, BP, BR, Br, BV, BW, Ao, Bs, BX, Bt, BZ, Ci, Bu, Bv, Bw, Aq, Ba, Bb, ob1, a1, CP, G4])
 | some r1 =>
  obtain ⟨a1, h1⟩ := tk_t "(" c_p h e1
  have m1 : ct r1 < m := by
   have := ct_p r1
   rw [Aw e1] at hc
   have e : ct ([40] ++ r1) = ct (40 :: r1) := rfl
   omega
  rw [Option.bind_some]
  have q := F.1 _ _ h1 m1
  cases e2 : f r1 with
  | none =>
   rw [e2] at q
   obtain ⟨j, q⟩ := q
   exact .no (j := j) (by simp only [cK, Ax, Be, Az, Aj, Cg, A_, Ak, BJ, Al, Bm, Bo, Bp, BK, Am, BL, An, Bq, BP, BR, Br, BV, BW, Ao, Bs, BX, Bt, BZ, Ci, Bu, Bv, Bw, Aq, Ba, Bb, ob1, a1, q, CP, Fj, Dd, PK])
  | some p =>
   obtain ⟨s, r2⟩ := p
   rw [e2] at q
   obtain ⟨j, h2, q⟩ := q
   simp only at h2 q
   have f2 := F.2 _ _ _ e2
   rw [Option.bind_some]
   simp only
   cases e3 : strip (cs " and ") r2 with
   | some r3 =>
    have a2 := ah_t " and " (by rw [Kl]; decide) h2 e3
    obtain ⟨a3, h3⟩ := Kh " and " (by rw [Kl]; decide) h2 e3
    have q2 := F.1 _ _ h3 (Nat.lt_of_le_of_lt (Ma (by rw [f2, Aw e3, bW])) m1)
    simp only
    cases e4 : f r3 with
    | none =>
     rw [e4] at q2
     obtain ⟨k, q2⟩ := q2
     exact .no (j := k) (by simp only [cK, Ax, Be, Az, Aj, Cg, A_, Ak, BJ, Al, Bm, Bo, Bp, BK, Am, BL, An, Bq, BP, BR, Br, BV, BW, Ao, Bs, BX, Bt, BZ, Ci, Bu, Bv, Bw, Aq, Ba, Bb, ob1, ob4, a1, a2, a3, q, q2, q_bb, CP, Fj, Dd, Lg, PK])
    | some p =>
     obtain ⟨t, r4⟩ := p
     rw [e4] at q2
     obtain ⟨k, h4, q2⟩ := q2
     simp only at h4 q2
     rw [Option.bind_some]
     simp only
     cases e5 : strip [41] r4 with
     | none =>
      have a4 := tk_f ")" c_q h4 e5
      exact .no (j := k) (by simp only [cK, Ax, Be, Az, Aj, Cg, A_, Ak, BJ, Al, Bm, Bo, Bp, BK, Am, BL, An, Bq, BP, BR, Br, BV, BW, Ao, Bs, BX, Bt, BZ, Ci, Bu, Bv, Bw, Aq, Ba, Bb, ob1, ob4, a1, a2, a3, a4, q, q2, q_bb, CP, Fj, G4, Dd, Lg])
     | some r5 =>
      obtain ⟨a4, h5⟩ := tk_t ")" c_q h4 e5
      exact .yes h5 (by simp only [cK, Ax, Be, Az, Aj, Cg, A_, Ak, BJ, Al, Bm, Bo, Bp, BK, Am, BL, An, Bq, BP, BR, Br, BV, BW, Ao, Bs, BX, Bt, BZ, Ci, Bu, Bv, Bw, Aq, Ba, Bb, ob1, ob4, a1, a2, a3, a4, q, q2, q_bb, CP, Fj, G4, Dd, Lg, enc])
   | none =>
    have a2 := ah_f " and " (by rw [Kl]; decide) h2 e3
    simp only
    cases e6 : strip (cs " or ") r2 with
    | none =>
     have a3 := YM " or " (by rw [Qh]; decide) h2 e6
     exact .no (j := j) (by simp only [cK, Ax, Be, Az, Aj, Cg, A_, Ak, BJ, Al, Bm, Bo, Bp, BK, Am, BL, An, Bq, BP, BR, Br, BV, BW, Ao, Bs, BX, Bt, BZ, Ci, Bu, Bv, Bw, Aq, Ba, Bb, ob1, ob4, a1, a2, a3, q, q_eb, CP, Fj, G4, Dd, Lg])
    | some r3 =>
     obtain ⟨a3, h3⟩ := Kh " or " (by rw [Qh]; decide) h2 e6
     have q2 := F.1 _ _ h3 (Nat.lt_of_le_of_lt (Ma (by rw [f2, Aw e6, a_or])) m1)
     rw [Option.bind_some]
     cases e4 : f r3 with
     | none =>
      rw [e4] at q2
      obtain ⟨k, q2⟩ := q2
      exact .no (j := k) (by simp only [cK, Ax, Be, Az, Aj, Cg, A_, Ak, BJ, Al, Bm, Bo, Bp, BK, Am, BL, An, Bq, BP, BR, Br, BV, BW, Ao, Bs, BX, Bt, BZ, Ci, Bu, Bv, Bw, Aq, Ba, Bb, ob1, ob4, a1, a2, a3, q, q2, q_eb, CP, Fj, Dd, Lg, PK])
     | some p =>
      obtain ⟨t, r4⟩ := p
      rw [e4] at q2
      obtain ⟨k, h4, q2⟩ := q2
      simp only at h4 q2
      rw [Option.bind_some]
      simp only
      cases e5 : strip [41] r4 with
      | none =>
       have a4 := tk_f ")" c_q h4 e5
       exact .no (j := k) (by simp only [cK, Ax, Be, Az, Aj, Cg, A_, Ak, BJ, Al, Bm, Bo, Bp, BK, Am, BL, An, Bq, BP, BR, Br, BV, BW, Ao, Bs, BX, Bt, BZ, Ci, Bu, Bv, Bw, Aq, Ba, Bb, ob1, ob4, a1, a2, a3, a4, q, q2, q_eb, CP, Fj, G4, Dd, Lg])
      | some r5 =>
       obtain ⟨a4, h5⟩ := tk_t ")" c_q h4 e5
       exact .yes h5 (by simp only [cK, Ax, Be, Az, Aj, Cg, A_, Ak, BJ, Al, Bm, Bo, Bp, BK, Am, BL, An, Bq, BP, BR, Br, BV, BW, Ao, Bs, BX, Bt, BZ, Ci, Bu, Bv, Bw, Aq, Ba, Bb, ob1, ob4, a1, a2, a3, a4, q, q2, q_eb, CP, Fj, G4, Dd, Lg, enc])
theorem sa_R {x : Str} {m : Nat} {f : List Nat → Option (Say × List Nat)} {rec : List D → Option (D × D)} {i : Int} {r : List Nat} {w : Str} (F : YZ x m f rec) (h : At x i r) (hw : w = "some" ∨ w = "all") (hc : ct (cs w ++ r) < m + 1) : Res x (Rq f w r) (CW rec [rd x i, .str w]) := by
 unfold Rq
 cases e1 : strip [32] r with
 | none =>
  have a1 := tk_f " " c_b h e1
  exact .no (j := i) (by simp only [cK, CW, Cz, Az, Aj, Cg, A_, Ak, BJ, Al, Bm, Bo, Bp, BK, Am, BL, An, Bq, BP, BR, Br, BV, BW, Ao, Bs, BX, Bt, BZ, Ci, Bu, Bv, Bw, Aq, Ba, Bb, ob1, a1, CP, G4])
 | some r1 =>
  obtain ⟨a1, h1⟩ := tk_t " " c_b h e1
  have m1 : ct r1 < m := by
   have := ct_w w (by rcases hw with z | z <;> simp [z]) r1
   rw [Aw e1] at hc
   have e : ct (cs w ++ ([32] ++ r1)) = ct (cs w ++ 32 :: r1) := rfl
   omega
  rw [Option.bind_some]
  cases e2 : nm r1 with
  | none =>
   have a2 := SX h1 e2
   exact .no (j := i + 1) (by simp only [cK, CW, Cz, Az, Aj, Cg, A_, Ak, BJ, Al, Bm, Bo, Bp, BK, Am, BL, An, Bq, BP, BR, Br, BV, BW, Ao, Bs, BX, Bt, BZ, Ci, Bu, Bv, Bw, Aq, Ba, Bb, ob1, ob2, a1, a2, CP, Fj, Dd, PK])
  | some a =>
   obtain ⟨a, r2⟩ := a
   obtain ⟨a2, h2⟩ := SQ h1 e2
   have f2 := (Jw e2).2
   rw [Option.bind_some]
   simp only
   cases e3 : strip [32] r2 with
   | none =>
    have a3 := tk_f " " c_b h2 e3
    exact .no (j := i + 1 + 1) (by simp only [cK, CW, Cz, Az, Aj, Cg, A_, Ak, BJ, Al, Bm, Bo, Bp, BK, Am, BL, An, Bq, BP, BR, Br, BV, BW, Ao, Bs, BX, Bt, BZ, Ci, Bu, Bv, Bw, Aq, Ba, Bb, ob1, ob2, a1, a2, a3, CP, Fj, G4, Dd, M7])
   | some r3 =>
    obtain ⟨a3, h3⟩ := tk_t " " c_b h2 e3
    have q := F.1 _ _ h3 (Nat.lt_of_le_of_lt (Ma (t := []) (by rw [f2, Aw e3]; rfl)) m1)
    rw [Option.bind_some]
    cases e4 : f r3 with
    | none =>
     rw [e4] at q
     obtain ⟨k, q⟩ := q
     exact .no (j := k) (by simp only [cK, CW, Cz, Az, Aj, Cg, A_, Ak, BJ, Al, Bm, Bo, Bp, BK, Am, BL, An, Bq, BP, BR, Br, BV, BW, Ao, Bs, BX, Bt, BZ, Ci, Bu, Bv, Bw, Aq, Ba, Bb, ob1, ob2, a1, a2, a3, q, CP, Fj, G4, Dd, M7, Jv, YL])
    | some p =>
     obtain ⟨s, r4⟩ := p
     rw [e4] at q
     obtain ⟨k, h4, q⟩ := q
     simp only at h4 q
     rw [Option.map_some]
     refine .yes h4 ?_
     have e : enc (if w = "some" then Say.ex a s else Say.al a s) = .tup [.str w, .str a, enc s] := by
      rcases hw with rfl | rfl
      ·rw [if_pos rfl]; rfl
      ·rw [if_neg (by decide +kernel)]; rfl
     simp only [cK, e, CW, Cz, Az, Aj, Cg, A_, Ak, BJ, Al, Bm, Bo, Bp, BK, Am, BL, An, Bq, BP, BR, Br, BV, BW, Ao, Bs, BX, Bt, BZ, Ci, Bu, Bv, Bw, Aq, Ba, Bb, ob1, ob2, a1, a2, a3, q, CP, Fj, G4, Dd, M7, Jv, eG]
theorem aO (w : Str) : inD false (.str w) c_BINDERS = some (.bl (decide (w = "some" ∨ w = "all"))) := by
 have e : inD false (.str w) c_BINDERS = inD false (.str w) (.lst ((["some", "all"] : List Str).map .str)) := rfl
 rw [e, Kz]
 congr 2
 rw [Bool.eq_iff_iff]
 simp only [List.any_cons, List.any_nil, Bool.or_false, Bool.or_eq_true, beq_iff_eq, decide_eq_true_eq]
 constructor <;> (rintro (z | z) <;> simp [z])
theorem e_ (w : Str) : eqD true (.str w) (.str "not") = some (.bl (!decide (w = "not"))) := of_eq_true (eq_self _)
theorem bY {x : Str} {i : Int} {r : List Nat} (h : At x i r) : (W r).length ≤ 2500 := by
 have := h.rl
 have e := congrArg List.length (JN r)
 rw [List.length_append, Cm] at e
 omega
theorem fB : ∀ (n : Nat) (x : Str) (i : Int) (r : List Nat), At x i r → ct r < n → Res x (R n r) (Av n [rd x i]) := by
 intro n
 induction n with
 | zero => intro x i r _ h; omega
 | succ n ih =>
  intro x i r h hc
  have F : YZ x n (R n) (Av n) := ⟨fun i r => ih x i r, fun r s r' e => (Sg n r s r' e).1⟩
  show Res x (if (strip [40] r).isSome = true then Rb (R n) r else Rt (R n) (W r) (r.dropWhile isl)) _
  cases e0 : strip [40] r with
  | some r0 =>
   rw [if_pos (show (some _).isSome = true from rfl)]
   have a0 := ad_t "(" c_p h e0
   have q := bo_R F h hc
   have e : Av (n + 1) [rd x i] = Ax (Av n) [rd x i] := by
    cases o : Rb (R n) r with
    | none =>
     rw [o] at q
     obtain ⟨j, q⟩ := q
     simp only [cK, Av, CQ, Az, Aj, Cg, A_, Ak, BJ, Al, Bm, Bo, Bp, BK, Am, BL, An, Bq, BP, BR, Br, BV, BW, Ao, Bs, BX, Bt, BZ, Ci, Bu, Bv, Bw, Aq, Ba, Bb, ob4, a0, q]
    | some p =>
     rw [o] at q
     obtain ⟨j, _, q⟩ := q
     simp only [cK, Av, CQ, Az, Aj, Cg, A_, Ak, BJ, Al, Bm, Bo, Bp, BK, Am, BL, An, Bq, BP, BR, Br, BV, BW, Ao, Bs, BX, Bt, BZ, Ci, Bu, Bv, Bw, Aq, Ba, Bb, ob4, a0, q]
   rw [e]
   exact q
  | none =>
   rw [if_neg (by simp)]
   have a0 := ad_f "(" c_p h e0
   obtain ⟨a1, h1⟩ := PQ h
   have wl := bY h
   have hs := JN r
   have hL := YS r
   generalize W r = w at a1 h1 wl hs hL ⊢
   generalize r.dropWhile isl = r1 at h1 hs ⊢
   generalize i + (w.length : Int) = j1 at a1 h1
   unfold Rt
   cases e1 : strip [40] r1 with
   | some r2 =>
    rw [if_pos (show (some _).isSome = true from rfl)]
    have a2 := ad_t "(" c_p h1 e1
    have q := mt_R h1 hL wl
    have e : Av (n + 1) [rd x i] = Bl [rd x j1, .str w] := by
     cases o : Rm w r1 with
     | none =>
      rw [o] at q
      obtain ⟨j, q⟩ := q
      simp only [cK, Av, CQ, Az, Aj, Cg, A_, Ak, BJ, Al, Bm, Bo, Bp, BK, Am, BL, An, Bq, BP, BR, Br, BV, BW, Ao, Bs, BX, Bt, BZ, Ci, Bu, Bv, Bw, Aq, Ba, Bb, ob3, ob4, a0, a1, a2, q]
     | some p =>
      rw [o] at q
      obtain ⟨j, _, q⟩ := q
      simp only [cK, Av, CQ, Az, Aj, Cg, A_, Ak, BJ, Al, Bm, Bo, Bp, BK, Am, BL, An, Bq, BP, BR, Br, BV, BW, Ao, Bs, BX, Bt, BZ, Ci, Bu, Bv, Bw, Aq, Ba, Bb, ob3, ob4, a0, a1, a2, q]
    rw [e]
    exact q
   | none =>
    rw [if_neg (by simp)]
    have a2 := ad_f "(" c_p h1 e1
    cases e2 : strip [61] r1 with
    | some r2 =>
     rw [if_pos (show (some _).isSome = true from rfl)]
     have a3 := ad_t "=" c_e h1 e2
     have q := sm_R h1 wl
     have e : Av (n + 1) [rd x i] = Ei [rd x j1, .str w] := by
      cases o : Re w r1 with
      | none =>
       rw [o] at q
       obtain ⟨j, q⟩ := q
       simp only [cK, Av, CQ, Az, Aj, Cg, A_, Ak, BJ, Al, Bm, Bo, Bp, BK, Am, BL, An, Bq, BP, BR, Br, BV, BW, Ao, Bs, BX, Bt, BZ, Ci, Bu, Bv, Bw, Aq, Ba, Bb, ob3, ob4, a0, a1, a2, a3, q]
      | some p =>
       rw [o] at q
       obtain ⟨j, _, q⟩ := q
       simp only [cK, Av, CQ, Az, Aj, Cg, A_, Ak, BJ, Al, Bm, Bo, Bp, BK, Am, BL, An, Bq, BP, BR, Br, BV, BW, Ao, Bs, BX, Bt, BZ, Ci, Bu, Bv, Bw, Aq, Ba, Bb, ob3, ob4, a0, a1, a2, a3, q]
     rw [e]
     exact q
    | none =>
     rw [if_neg (by simp)]
     have a3 := ad_f "=" c_e h1 e2
     have ib := aO w
     have nn := e_ w
     split
     ·rename_i hw
      rw [decide_eq_true hw] at ib
      have q := sa_R F h1 hw (by rw [← hs]; exact hc)
      have e : Av (n + 1) [rd x i] = CW (Av n) [rd x j1, .str w] := by
       cases o : Rq (R n) w r1 with
       | none =>
        rw [o] at q
        obtain ⟨j, q⟩ := q
        simp only [cK, Av, CQ, Az, Aj, Cg, A_, Ak, BJ, Al, Bm, Bo, Bp, BK, Am, BL, An, Bq, BP, BR, Br, BV, BW, Ao, Bs, BX, Bt, BZ, Ci, Bu, Bv, Bw, Aq, Ba, Bb, ob3, ob4, a0, a1, a2, a3, ib, q]
       | some p =>
        rw [o] at q
        obtain ⟨j, _, q⟩ := q
        simp only [cK, Av, CQ, Az, Aj, Cg, A_, Ak, BJ, Al, Bm, Bo, Bp, BK, Am, BL, An, Bq, BP, BR, Br, BV, BW, Ao, Bs, BX, Bt, BZ, Ci, Bu, Bv, Bw, Aq, Ba, Bb, ob3, ob4, a0, a1, a2, a3, ib, q]
      rw [e]
      exact q
     ·rename_i hw
      rw [decide_eq_false hw] at ib
      split
      ·rename_i hn
       subst hn
       have nn : eqD true (.str "not") (.str "not") = some (.bl false) := of_eq_true (eq_self _)
       unfold Rn
       cases e3 : strip [32] r1 with
       | none =>
        have a4 := tk_f " " c_b h1 e3
        exact .no (j := j1) (by simp only [cK, Av, CQ, Az, Aj, Cg, A_, Ak, BJ, Al, Bm, Bo, Bp, BK, Am, BL, An, Bq, BP, BR, Br, BV, BW, Ao, Bs, BX, Bt, BZ, Ci, Bu, Bv, Bw, Aq, Ba, Bb, ob1, ob3, ob4, a0, a1, a2, a3, a4, ib, nn, CP, G4])
       | some r2 =>
        obtain ⟨a4, h2⟩ := tk_t " " c_b h1 e3
        have m1 : ct r2 < n := by
         have := ct_w "not" (by simp) r2
         have e : r = cs "not" ++ 32 :: r2 := by rw [hs, Aw e3]; rfl
         rw [e] at hc
         omega
        have q := ih x _ _ h2 m1
        rw [Option.bind_some]
        cases e4 : R n r2 with
        | none =>
         rw [e4] at q
         obtain ⟨k, q⟩ := q
         exact .no (j := k) (by simp only [cK, Av, CQ, Az, Aj, Cg, A_, Ak, BJ, Al, Bm, Bo, Bp, BK, Am, BL, An, Bq, BP, BR, Br, BV, BW, Ao, Bs, BX, Bt, BZ, Ci, Bu, Bv, Bw, Aq, Ba, Bb, ob1, ob3, ob4, a0, a1, a2, a3, a4, ib, nn, q, CP, Fj, Jv, eO])
        | some p =>
         obtain ⟨s, r4⟩ := p
         rw [e4] at q
         obtain ⟨k, h4, q⟩ := q
         simp only at h4 q
         exact .yes h4 (by simp only [cK, Av, CQ, Az, Aj, Cg, A_, Ak, BJ, Al, Bm, Bo, Bp, BK, Am, BL, An, Bq, BP, BR, Br, BV, BW, Ao, Bs, BX, Bt, BZ, Ci, Bu, Bv, Bw, Aq, Ba, Bb, ob1, ob3, ob4, a0, a1, a2, a3, a4, ib, nn, q, CP, Fj, Jv, eQ, enc])
      ·rename_i hn
       rw [decide_eq_false hn] at nn
       have ex := fun ρ => PJ j1 ρ h1.ok
       exact .no (j := j1) (by simp only [cK, Av, CQ, Az, Aj, Cg, A_, Ak, BJ, Al, Bm, Bo, Bp, BK, Am, BL, An, Bq, BP, BR, Br, BV, BW, Ao, Bs, BX, Bt, BZ, Ci, Bu, Bv, Bw, Aq, Ba, Bb, ob3, ob4, a0, a1, a2, a3, ib, nn, ex])
theorem aP (x : Str) : Ez [.ob "Reader" [], .str x] = some (.non, rd x 0) := by
 have e : Mj "line" (.ob "Reader" []) (.str x) = some (.ob "Reader" [("line", .str x)]) := by
  show (if (0 : Nat) < 1000 then some (D.ob "Reader" (putG "line" (.str x) [])) else none) = _
  rw [if_pos (by decide)]
  rfl
 have e2 : Mj "at" (.ob "Reader" [("line", .str x)]) (.int 0) = some (rd x 0) := by
  show (if (1 : Nat) < 1000 then some (D.ob "Reader" (putG "at" (.int 0) [("line", .str x)])) else none) = _
  rw [if_pos (by decide)]
  have e1 : ¬ (("line" : Str) = "at") := by decide +kernel
  unfold putG putG
  rw [if_neg e1]
  rfl
 simp only [cK, Ez, GZ, Az, Aj, Cg, A_, Ak, BJ, Al, Bm, Bo, Bp, BK, Am, BL, An, Bq, BP, BR, Br, BV, BW, Ao, Bs, BX, Bt, BZ, Ci, Bu, Bv, Bw, Aq, Ba, Bb, e, e2]
def Pl (x : Str) : Prop := x.length ≤ 2500 ∧ ∀ c ∈ cs x, 32 ≤ c ∧ c < 127
theorem Pl.at0 {x : Str} (h : Pl x) : At x 0 (cs x) := ⟨h, 0, rfl, Nat.zero_le _, rfl⟩
theorem Yb {x : Str} {j : Int} {r : List Nat} (h : At x j r) : j < x.length ↔ r ≠ [] := by
 have hl := h.len
 obtain ⟨_, n, rfl, hn, e⟩ := h
 have := congrArg List.length e
 rw [List.length_drop, Cm] at this
 rw [Cm] at hn
 constructor
 ·intro q z
  rw [z] at this
  simp at this
  omega
 ·intro q
  have : 0 < r.length := List.length_pos_iff.mpr q
  omega
theorem Yc {x : Str} (h : Pl x) (hc : ct (cs x) < 105) : MN [.str x] = some (match R 105 (cs x) with | some (s, []) => enc s | _ => E x) := by
 have q := fB 105 x 0 (cs x) h.at0 hc
 have i0 := aP x
 have l := JX x (by have := h.1; omega)
 have exl : excF "NoSaying" "line" okSD (vF 0) = fun ρ => (vF 0 ρ).bind fun d => if okSD d = true then some (.exc "NoSaying" [("line", d)]) else none := rfl
 have ex : ∀ ρ, excF "NoSaying" "line" okSD (vF 0) (.fz (.str x) :: ρ) = some (E x) := fun ρ => by
  show (if okSD (.str x) = true then some (D.exc "NoSaying" [("line", .str x)]) else none) = _
  rw [if_pos h.at0.ok]
  rfl
 cases e : R 105 (cs x) with
 | none =>
  rw [e] at q
  obtain ⟨j, q⟩ := q
  simp only [cK, MN, O6, Az, Aj, Cg, A_, Ak, BJ, Al, Bm, Bo, Bp, BK, Am, BL, An, Bq, BP, BR, Br, BV, BW, Ao, Bs, BX, Bt, BZ, Ci, Bu, Bv, Bw, Aq, Ba, Bb, i0, q, Dd, PK]
 | some p =>
  obtain ⟨s, r⟩ := p
  rw [e] at q
  obtain ⟨j, a, q⟩ := q
  simp only at a q
  have an := Yb a
  cases r with
  | nil =>
   have c : ¬ (j < (x.length : Int)) := fun z => an.mp z rfl
   simp only [ciK, MN, O6, Az, Aj, Cg, A_, Ak, BJ, Al, Bm, Bo, Bp, BK, Am, BL, An, Bq, BP, BR, Br, BV, BW, Ao, Bs, BX, Bt, BZ, Ci, Bu, Bv, Bw, Aq, Ba, Bb, i0, q, l, c, f_at, Dd, Lg]
  | cons c0 r =>
   have c : j < (x.length : Int) := an.mpr (by simp)
   simp only [ciK, MN, O6, Az, Aj, Cg, A_, Ak, BJ, Al, Bm, Bo, Bp, BK, Am, BL, An, Bq, BP, BR, Br, BV, BW, Ao, Bs, BX, Bt, BZ, Ci, Bu, Bv, Bw, Aq, Ba, Bb, i0, q, l, c, f_at, ex, Dd, Lg]
end K23
namespace K23
open PySem L2 PV
theorem fC : ∀ c ∈ cs LET, c ≠ 40 ∧ c ≠ 32 := by decide +kernel
theorem Yd : ∀ c ∈ cs LET, 32 ≤ c ∧ c < 127 := by decide +kernel
theorem c_mt : cs ("" : Str) = [] := by decide +kernel
theorem V2 (P : Prop) [Decidable P] : (if P then 1 else 0) ≤ 1 := by split <;> omega
theorem Ye : ∀ (l : List Nat), (∀ c ∈ l, c ∈ cs LET) → ∀ p, ctp p l = 0 := by
 intro l
 induction l with
 | nil => intro _ p; rfl
 | cons c l ih =>
  intro h p
  obtain ⟨n1, n2⟩ := fC c (h c (by simp))
  rw [Hw, ih (fun d hd => h d (by simp [hd])) c, if_neg (by simp [n1, n2])]
theorem Yg (l : List Nat) (p q : Nat) : ctp p l ≤ ctp q l + 1 := by
 cases l with
 | nil => exact Nat.zero_le _
 | cons c l =>
  rw [Hw, Hw]
  have := V2 ((c = 40 ∧ isl p = false) ∨ (c = 32 ∧ (p = 116 ∨ p = 101 ∨ p = 108)))
  omega
theorem Yh (l : List Nat) : ∀ p, ctp p l ≤ l.length := by
 induction l with
 | nil => intro p; exact Nat.zero_le _
 | cons c l ih =>
  intro p
  have := V2 ((c = 40 ∧ isl p = false) ∨ (c = 32 ∧ (p = 116 ∨ p = 101 ∨ p = 108)))
  have := ih c
  rw [Hw, List.length_cons]
  omega
structure Bd (y : Str) (k : Nat) : Prop where
 pl : ∀ c ∈ cs y, 32 ≤ c ∧ c < 127
 ct : ∀ p, ctp p (cs y) ≤ k
theorem Bd.app {x y : Str} {a b : Nat} (h : Bd x a) (k : Bd y b) : Bd (x ++ y) (a + b) := by
 refine ⟨fun c hc => ?_, fun p => ?_⟩
 ·rw [Fd] at hc
  exact (List.mem_append.mp hc).elim (h.pl c) (k.pl c)
 ·rw [Fd, Lh]
  have := h.ct p
  have := k.ct ((cs x).getLastD p)
  omega
theorem Bd.mono {y : Str} {a b : Nat} (h : Bd y a) (k : a ≤ b) : Bd y b := ⟨h.pl, fun p => by have := h.ct p; omega⟩
theorem Km {w : Str} (h : IsL w) : Bd w 0 := ⟨fun c hc => Yd c (h c hc), fun p => by rw [Ye _ h p]; exact Nat.le_refl _⟩
def bdB (y : Str) (k : Nat) : Bool := (cs y).all (fun c => decide (32 ≤ c ∧ c < 127)) && decide (ctp 0 (cs y) ≤ k) && decide (ctp 116 (cs y) ≤ k)
theorem fD (l : List Nat) (p : Nat) : ctp p l ≤ ctp 0 l ∨ ctp p l ≤ ctp 116 l := by
 cases l with
 | nil => exact .inl (Nat.le_refl _)
 | cons c l =>
  by_cases h : c = 40
  ·left
   rw [Hw, Hw]
   have h2 : (if (c = 40 ∧ isl 0 = false) ∨ (c = 32 ∧ ((0 : Nat) = 116 ∨ (0 : Nat) = 101 ∨ (0 : Nat) = 108)) then 1 else 0) = 1 := if_pos (.inl ⟨h, i0⟩)
   have := V2 ((c = 40 ∧ isl p = false) ∨ (c = 32 ∧ (p = 116 ∨ p = 101 ∨ p = 108)))
   omega
  ·right
   rw [Hw, Hw]
   by_cases h3 : c = 32
   ·have h2 : (if (c = 40 ∧ isl 116 = false) ∨ (c = 32 ∧ ((116 : Nat) = 116 ∨ (116 : Nat) = 101 ∨ (116 : Nat) = 108)) then 1 else 0) = 1 := if_pos (.inr ⟨h3, .inl rfl⟩)
    have := V2 ((c = 40 ∧ isl p = false) ∨ (c = 32 ∧ (p = 116 ∨ p = 101 ∨ p = 108)))
    omega
   ·have h2 : (if (c = 40 ∧ isl p = false) ∨ (c = 32 ∧ (p = 116 ∨ p = 101 ∨ p = 108)) then 1 else 0) = 0 := if_neg (by simp [h, h3])
    omega
theorem KH {y : Str} {k : Nat} (h : bdB y k = true) : Bd y k := by
 unfold bdB at h
 simp only [Bool.and_eq_true, List.all_eq_true, decide_eq_true_eq] at h
 exact ⟨h.1.1, fun p => by have := fD (cs y) p; omega⟩
theorem bd_p : Bd "(" 1 := KH (by decide +kernel)
theorem bd_q : Bd ")" 0 := KH (by decide +kernel)
theorem bd_c : Bd "," 0 := KH (by decide +kernel)
theorem bd_e : Bd "=" 0 := KH (by decide +kernel)
theorem bd_b : Bd " " 1 := KH (by decide +kernel)
theorem fG : Bd "not " 1 := KH (by decide +kernel)
theorem fH : Bd " and " 1 := KH (by decide +kernel)
theorem iK : Bd " or " 1 := KH (by decide +kernel)
theorem aQ : Bd "some" 0 := KH (by decide +kernel)
theorem fJ : Bd "all" 0 := KH (by decide +kernel)
theorem bZ {w : Str} (h : IsL w) (h1 : 1 ≤ w.length) : Bd (w ++ "(") 0 := by
 refine ⟨fun c hc => ?_, fun p => ?_⟩
 ·rw [Fd, c_p] at hc
  rcases List.mem_append.mp hc with q | q
  ·exact Yd c (h c q)
  ·rw [List.mem_singleton.mp q]; decide
 ·rw [Fd, c_p, Lh, Ye _ h p]
  have ne : cs w ≠ [] := fun q => by rw [← Cm, q] at h1; simp at h1
  have hl : isl ((cs w).getLastD p) = true := by
   rw [List.getLastD_eq_getLast?, List.getLast?_eq_some_getLast ne]
   exact decide_eq_true (h _ (List.getLast_mem ne))
  have nn : ¬ (((40 : Nat) = 40 ∧ isl ((cs w).getLastD p) = false) ∨ ((40 : Nat) = 32 ∧ ((cs w).getLastD p = 116 ∨ (cs w).getLastD p = 101 ∨ (cs w).getLastD p = 108))) := fun q => by
   rcases q with ⟨_, q⟩ | ⟨q, _⟩
   ·rw [hl] at q; cases q
   ·exact absurd q (by decide)
  rw [Hw, if_neg nn]
  exact Nat.le_refl _
theorem fK : ∀ s : Say, Gd s → Bd (txt s) (wt s) := by
 intro s
 induction s with
 | mark w x => intro h; exact (((bZ h.1.isL h.1.lo).app (Km h.2.isL)).app bd_q).mono (by simp [wt])
 | tie w x y => intro h; exact (((((bZ h.1.isL h.1.lo).app (Km h.2.1.isL)).app bd_c).app (Km h.2.2.isL)).app bd_q).mono (by simp [wt])
 | same x y => intro h; exact (((Km h.1.isL).app bd_e).app (Km h.2.isL)).mono (by simp [wt])
 | neg s ih => intro h; exact (fG.app (ih h)).mono (by simp only [wt]; omega)
 | both s t i1 i2 => intro h; exact ((((bd_p.app (i1 h.1)).app fH).app (i2 h.2)).app bd_q).mono (by simp only [wt]; omega)
 | either s t i1 i2 => intro h; exact ((((bd_p.app (i1 h.1)).app iK).app (i2 h.2)).app bd_q).mono (by simp only [wt]; omega)
 | ex x s ih => intro h; exact ((((aQ.app bd_b).app (Km h.1.isL)).app bd_b).app (ih h.2)).mono (by simp only [wt]; omega)
 | al x s ih => intro h; exact ((((fJ.app bd_b).app (Km h.1.isL)).app bd_b).app (ih h.2)).mono (by simp only [wt]; omega)
theorem bc (y : Str) (k : Nat) : cs (cutS y none (some (k : Int))) = (cs y).take k := by rw [IK, Od]
theorem Sh (y : Str) (k : Nat) : cs (cutS y (some (k : Int)) none) = (cs y).drop k := by rw [IK, Kr]
theorem Li (l : List Nat) (k : Nat) : ctp 0 (l.take k) + ctp 0 (l.drop k) ≤ ctp 0 l + 1 := by
 have e := congrArg (ctp 0) (List.take_append_drop k l)
 rw [Lh] at e
 have := Yg (l.drop k) 0 ((l.take k).getLastD 0)
 omega
theorem aR (a b : List Nat) : ctp 0 (a ++ b) ≤ ctp 0 a + ctp 0 b + 1 := by
 rw [Lh]
 have := Yg b (a.getLastD 0) 0
 omega
structure Sp (y : Str) (n k : Nat) : Prop where
 ln : y.length ≤ n
 pl : ∀ c ∈ cs y, 32 ≤ c ∧ c < 127
 ct : ctp 0 (cs y) ≤ k
theorem V3 {y : Str} {k : Nat} (h : ∀ c ∈ cs y, 32 ≤ c ∧ c < 127) : ∀ c ∈ (cs y).take k, 32 ≤ c ∧ c < 127 := fun c hc => h c (List.mem_of_mem_take hc)
theorem Sq {y : Str} {k : Nat} (h : ∀ c ∈ cs y, 32 ≤ c ∧ c < 127) : ∀ c ∈ (cs y).drop k, 32 ≤ c ∧ c < 127 := fun c hc => h c (List.mem_of_mem_drop hc)
end K23
namespace K23
open PySem L2 PV
theorem neqs (x y : Str) : eqD true (.str x) (.str y) = some (.bl (!decide (x = y))) := of_eq_true (eq_self _)
theorem UJ {x : Str} {i : Int} {r : List Nat} (h : At x i r) (k : Nat) (j : Int) (hj : j = i + k) : ∃ z : Str, slD (.str x) (some i) (some j) = some (.str z) ∧ cs z = r.take k := by
 subst hj
 have hl := h.len
 refine ⟨cutS x (some i) (some (i + k)), sl_s x _ _ (by omega), ?_⟩
 obtain ⟨_, n, rfl, hn, e⟩ := h
 rw [IK, Ny _ _ _ hn, e]
theorem sq_t {x : Str} {i : Int} {r r' : List Nat} (h : At x i r) (y : Str) (hs : strip (cs y) r = some r') (j : Int) (hj : j = i + y.length) : slD (.str x) (some i) (some j) = some (.str y) := by
 obtain ⟨z, e, ez⟩ := UJ h y.length j hj
 rw [e]
 have : z = y := Jj (by rw [ez, Aw hs, ← Cm]; simp)
 rw [this]
theorem sq_f {x : Str} {i : Int} {r : List Nat} (h : At x i r) (y : Str) (hs : strip (cs y) r = none) (j : Int) (hj : j = i + y.length) : ∃ z, slD (.str x) (some i) (some j) = some (.str z) ∧ eqD false (.str z) (.str y) = some (.bl false) ∧ eqD true (.str z) (.str y) = some (.bl true) := by
 obtain ⟨z, e, ez⟩ := UJ h y.length j hj
 have n : ¬ (z = y) := fun q => by
  subst q
  unfold strip at hs
  rw [Cm, if_pos ez.symm] at hs
  cases hs
 exact ⟨z, e, by rw [eqs, decide_eq_false n], by rw [neqs, decide_eq_false n]; rfl⟩
theorem tr_t (y : Str) : eqD false (.str y) (.str y) = some (.bl true) ∧ eqD true (.str y) (.str y) = some (.bl false) := ⟨by rw [eqs, decide_eq_true rfl], by rw [neqs, decide_eq_true rfl]; rfl⟩
theorem s1_t {x : Str} {i : Int} {r r' : List Nat} (h : At x i r) (y : Str) {c : Nat} (hc : cs y = [c]) (hs : strip [c] r = some r') (j : Int) (hj : j = i + 1) : slD (.str x) (some i) (some j) = some (.str y) :=
 sq_t h y (by rw [hc]; exact hs) j (by rw [y1 hc]; exact hj)
theorem s1_f {x : Str} {i : Int} {r : List Nat} (h : At x i r) (y : Str) {c : Nat} (hc : cs y = [c]) (hs : strip [c] r = none) (j : Int) (hj : j = i + 1) : ∃ z, slD (.str x) (some i) (some j) = some (.str z) ∧ eqD false (.str z) (.str y) = some (.bl false) ∧ eqD true (.str z) (.str y) = some (.bl true) :=
 sq_f h y (by rw [hc]; exact hs) j (by rw [y1 hc]; exact hj)
theorem ll_t {x : Str} {i : Int} {r r' : List Nat} {a : Str} (h : At x i r) (hs : nm r = some (a, r')) : Cd [.str x, .int i] = some (.bl true) ∧ ixD (.str x) (.int i) = some (.str a) ∧ At x (i + 1) r' := by
 cases r with
 | nil => cases hs
 | cons c r =>
  simp only [nm] at hs
  split at hs
  ·rename_i hc
   cases hs
   obtain ⟨e1, _⟩ := V1 h
   obtain ⟨z, e2, ez⟩ := UJ h 1 (i + 1) rfl
   have nz : ¬ (z = "") := fun q => by rw [q, c_mt] at ez; simp at ez
   have n2 : eqD true (.str z) (.str "") = some (.bl true) := by rw [neqs, decide_eq_false nz]; rfl
   have e3 : inD false (.str ⟨#[c]⟩) (.str LET) = some (.bl true) := by rw [SN, Ut c (h.pl c (by simp)).2, hc]
   have hL : (Str.ofString "abcdefghijklmnopqrstuvwxyz") = LET := rfl
   exact ⟨by simp only [ciK, Cd, Fv, hL, e1, e2, n2, e3], e1, h.one⟩
  ·cases hs
theorem ll_f {x : Str} {i : Int} {r : List Nat} (h : At x i r) (hs : nm r = none) : Cd [.str x, .int i] = some (.bl false) := by
 obtain ⟨z, e2, ez⟩ := UJ h 1 (i + 1) rfl
 cases r with
 | nil =>
  have nz : z = "" := Jj (by rw [ez, c_mt]; rfl)
  have n2 : eqD true (.str z) (.str "") = some (.bl false) := by rw [neqs, decide_eq_true nz]; rfl
  simp only [ciK, Cd, Fv, e2, n2]
 | cons c r =>
  simp only [nm] at hs
  split at hs
  ·cases hs
  ·rename_i hc
   obtain ⟨e1, _⟩ := V1 h
   have nz : ¬ (z = "") := fun q => by rw [q, c_mt] at ez; simp at ez
   have n2 : eqD true (.str z) (.str "") = some (.bl true) := by rw [neqs, decide_eq_false nz]; rfl
   have e3 : inD false (.str ⟨#[c]⟩) (.str LET) = some (.bl false) := by rw [SN, Ut c (h.pl c (by simp)).2, Bool.eq_false_iff.mpr hc]
   have hL : (Str.ofString "abcdefghijklmnopqrstuvwxyz") = LET := rfl
   simp only [ciK, Cd, Fv, hL, e1, e2, n2, e3]
theorem ll_c {x : Str} {i : Int} {c : Nat} {r : List Nat} (h : At x i (c :: r)) : Cd [.str x, .int i] = some (.bl (isl c)) := by
 cases hc : isl c with
 | true => exact (ll_t h (a := ⟨#[c]⟩) (r' := r) (by simp [nm, hc])).1
 | false => exact ll_f h (by simp [nm, hc])
theorem Uv {x : Str} (s1 s3 : Slot) : ∀ (r : List Nat) (i : Int) (k : Nat), At x i r → r.length < k →
  Dz Dp FP k [.fz (.str x), s1, .fz (.int i), s3] = some (.nx [.fz (.str x), s1, .fz (.int (i + (r.takeWhile isl).length)), s3]) := by
 intro r
 induction r with
 | nil =>
  intro i k h hk
  obtain ⟨k, rfl⟩ : ∃ m, k = m + 1 := ⟨k - 1, by simp at hk; omega⟩
  have a := ll_f h rfl
  have t0 : Dp [.fz (.str x), s1, .fz (.int i), s3] = some false := by simp only [cK, Dp, a]
  unfold Dz
  rw [t0]
  simp
 | cons d w ih =>
  intro i k h hk
  obtain ⟨k, rfl⟩ : ∃ m, k = m + 1 := ⟨k - 1, by simp at hk; omega⟩
  have a := ll_c h
  have t0 : Dp [.fz (.str x), s1, .fz (.int i), s3] = some (isl d) := by simp only [cK, Dp, a]
  unfold Dz
  rw [t0]
  cases hd : isl d with
  | false => simp [List.takeWhile, hd]
  | true =>
   have b0 : FP [.fz (.str x), s1, .fz (.int i), s3] = some (.nx [.fz (.str x), s1, .fz (.int (i + 1)), s3]) := by simp only [ciK, FP]
   have e := ih (i + 1) k h.one (by simp at hk; omega)
   rw [b0]
   show Dz Dp FP k [.fz (.str x), s1, .fz (.int (i + 1)), s3] = _
   rw [e]
   simp only [List.takeWhile, hd, List.length_cons, Int.natCast_add, Int.natCast_one]
   rw [show i + 1 + ((w.takeWhile isl).length : Int) = i + (((w.takeWhile isl).length : Int) + 1) by omega]
def LR (x : Str) (o : Option (Say × List Nat)) (res : Option D) : Prop := match o with
 | some p => ∃ j, At x j p.2 ∧ res = some (.lst [enc p.1, .int j])
 | none => res = some .non
def Rs (w : Str) (r : List Nat) : Option (Str × List Nat) := if w.length = 1 then (strip [61] r).bind nm else none
def Rp (w : Str) (r : List Nat) : Option (Say × List Nat) := match Rs w r with
 | some a => some (.same w a.1, a.2)
 | none => Rm w r
def L6 : List Str := ["not", "and", "or", "some", "all", ""]
theorem in6 (w : Str) : inD false (.str w) (.lst [.str "not", .str "and", .str "or", .str "some", .str "all", .str ""]) = some (.bl (L6.any fun y => y == w)) := by
 have e : inD false (.str w) (.lst [.str "not", .str "and", .str "or", .str "some", .str "all", .str ""]) = inD false (.str w) (.lst (L6.map .str)) := rfl
 rw [e, Kz]
theorem iM {w : Str} (h : wd w = true) : (L6.any fun y => y == w) = false ∧ w.length ≤ 8 := by
 unfold wd at h
 simp only [Bool.and_eq_true, decide_eq_true_eq, Bool.not_eq_true', List.any_eq_false, beq_iff_eq] at h
 refine ⟨?_, h.2⟩
 rw [List.any_eq_false]
 intro y hy q
 have q := beq_iff_eq.mp q
 have : L6 = KEPT ++ [("" : Str)] := rfl
 rw [this] at hy
 rcases List.mem_append.mp hy with z | z
 ·exact h.1.1 y z q
 ·rw [List.mem_singleton.mp z] at q
  have := h.1.2
  rw [← q, show Str.length "" = 0 by decide +kernel] at this
  omega
theorem iQ {w : Str} (h : wd w = false) (h8 : w.length ≤ 8) : (L6.any fun y => y == w) = true := by
 cases hk : (KEPT.any fun y => y == w) with
 | true =>
  have : L6 = KEPT ++ [("" : Str)] := rfl
  rw [this, List.any_append, hk, Bool.true_or]
 | false =>
  unfold wd at h
  rw [hk] at h
  simp only [Bool.not_false, Bool.true_and, Bool.and_eq_false_iff, decide_eq_false_iff_not] at h
  have h0 : w.length = 0 := by omega
  have e : w = "" := Jj (by
   rw [c_mt]
   rw [← Cm] at h0
   exact List.length_eq_zero_iff.mp h0)
  subst e
  decide +kernel
theorem aU {x : Str} {i : Int} {r : List Nat} (h : At x i r) : LR x (Rp (W r) (r.dropWhile isl)) (CK [.str x, .int i]) := by
 have hl := h.rl
 have lp := Uv (x := x) (.fz (.int i)) .un r i 3000 h (by omega)
 rw [← cs_W, Cm] at lp
 have h1 : At x (i + (W r).length) (r.dropWhile isl) := (PQ h).2
 have s0 : slD (.str x) (some i) (some (i + (W r).length)) = some (.str (W r)) := by
  obtain ⟨z, e, ez⟩ := UJ h (W r).length _ rfl
  have : z = W r := Jj (by
   rw [ez, ← Cm]
   have q := JN r
   have e2 : List.take (cs (W r)).length (cs (W r) ++ r.dropWhile isl) = cs (W r) := by simp
   rw [← q] at e2
   exact e2)
  rw [e, this]
 have wl := bY h
 have hL := YS r
 generalize W r = w at lp s0 h1 wl hL ⊢
 generalize r.dropWhile isl = r1 at h1 ⊢
 generalize i + (w.length : Int) = j at lp s0 h1
 have lw := JX w (by omega)
 have i6 := in6 w
 unfold Rp
 cases eS : Rs w r1 with
 | some a =>
  obtain ⟨a, r3⟩ := a
  unfold Rs at eS
  split at eS
  ·rename_i hw
   cases e1 : strip [61] r1 with
   | none => rw [e1] at eS; cases eS
   | some r2 =>
    rw [e1, Option.bind_some] at eS
    have q1 := s1_t h1 "=" c_e e1 (j + 1) rfl
    have h2 : At x (j + 1) r2 := (tk_t "=" c_e h1 e1).2
    obtain ⟨q2, q3, h3⟩ := ll_t h2 eS
    have c1 : ((w.length : Int) = 1) := by omega
    have qe := (tr_t "=").1
    refine ⟨j + 2, by rw [show j + 2 = j + 1 + 1 by omega]; exact h3, ?_⟩
    simp only [ciK, CK, Cq, lp, s0, lw, c1, q1, qe, q2, q3, enc]
  ·cases eS
 | none =>
  simp only
  have key : ∀ g gs : FS, ifS (andT (blF (bF (eqD false) (uF lenD (vF 3)) (kF (.int 1)))) (andT (blF (bF (eqD false) (slF (vF 0) (someO (vF 2)) (someO (bF addD (vF 2) (kF (.int 1))))) (kF (.str "=")))) (trF (Cr (Cd) (Ab (vF 0) (Ab (bF addD (vF 2) (kF (.int 1))) (nilA))))))) g gs [.fz (.str x), .fz (.int i), .fz (.int j), .fz (.str w)] = gs [.fz (.str x), .fz (.int i), .fz (.int j), .fz (.str w)] := by
   intro g gs
   unfold Rs at eS
   by_cases hw : w.length = 1
   ·rw [if_pos hw] at eS
    have c1 : ((w.length : Int) = 1) := by omega
    cases e1 : strip [61] r1 with
    | none =>
     obtain ⟨z, q1, q2, _⟩ := s1_f h1 "=" c_e e1 (j + 1) rfl
     simp only [ciK, lw, c1, q1, q2]
    | some r2 =>
     rw [e1, Option.bind_some] at eS
     have q1 := s1_t h1 "=" c_e e1 (j + 1) rfl
     have h2 : At x (j + 1) r2 := (tk_t "=" c_e h1 e1).2
     have q2 := ll_f h2 eS
     have qe := (tr_t "=").1
     simp only [ciK, lw, c1, q1, qe, q2]
   ·have c1 : ¬ ((w.length : Int) = 1) := by omega
    simp only [ciK, lw, c1]
  unfold Rm
  cases hw : wd w with
  | false =>
   rw [if_neg (by simp)]
   by_cases h8 : w.length ≤ 8
   ·rw [iQ hw h8] at i6
    show _ = _
    simp only [kC, CK, Cq, Hn, Du, Hm, G6, Fl, e_v, e_vs, lp, s0, key, i6]
   ·have c8 : ((8 : Int) < w.length) := by omega
    cases hk : (L6.any fun y => y == w) with
    | true =>
     rw [hk] at i6
     show _ = _
     simp only [kC, CK, Cq, Hn, Du, Hm, G6, Fl, e_v, e_vs, lp, s0, key, i6]
    | false =>
     rw [hk] at i6
     show _ = _
     simp only [kiC, CK, Cq, Hn, Du, Hm, G6, Fl, e_v, e_vs, lp, s0, key, i6, lw, c8]
  | true =>
   rw [if_pos rfl]
   obtain ⟨k6, k8⟩ := iM hw
   rw [k6] at i6
   have c8 : ¬ ((8 : Int) < w.length) := by omega
   have qp := (tr_t "(").2
   have qq := tr_t ")"
   have qc := (tr_t ",").2
   cases e1 : strip [40] r1 with
   | none =>
    obtain ⟨z, q1, _, q2⟩ := s1_f h1 "(" c_p e1 (j + 1) rfl
    show _ = _
    simp only [kiC, CK, Cq, Hn, Du, Hm, G6, Fl, e_v, e_vs, lp, s0, key, i6, lw, c8, q1, q2]
   | some r2 =>
    have q1 := s1_t h1 "(" c_p e1 (j + 1) rfl
    have h2 : At x (j + 1) r2 := (tk_t "(" c_p h1 e1).2
    rw [Option.bind_some]
    cases e2 : nm r2 with
    | none =>
     have q2 := ll_f h2 e2
     show _ = _
     simp only [kiC, CK, Cq, Hn, Du, Hm, G6, Fl, e_v, e_vs, lp, s0, key, i6, lw, c8, q1, qp, q2]
    | some a =>
     obtain ⟨a, r3⟩ := a
     obtain ⟨q2, q3, h3⟩ := ll_t h2 e2
     have h3 : At x (j + 2) r3 := by rw [show j + 2 = j + 1 + 1 by omega]; exact h3
     rw [Option.bind_some]
     simp only
     cases e3 : strip [41] r3 with
     | some r4 =>
      have q4 := s1_t h3 ")" c_q e3 (j + 3) (by omega)
      have h4 : At x (j + 3) r4 := by rw [show j + 3 = j + 2 + 1 by omega]; exact (tk_t ")" c_q h3 e3).2
      refine ⟨j + 3, h4, ?_⟩
      simp only [kiC, CK, Cq, Hn, Du, Hm, G6, Fl, e_v, e_vs, lp, s0, key, i6, lw, c8, q1, qp, q2, q3, q4, qq.1, enc]
     | none =>
      obtain ⟨z, q4, q5, _⟩ := s1_f h3 ")" c_q e3 (j + 3) (by omega)
      simp only
      cases e4 : strip [44] r3 with
      | none =>
       obtain ⟨z', q6, _, q7⟩ := s1_f h3 "," c_c e4 (j + 3) (by omega)
       rw [q4] at q6
       cases q6
       show _ = _
       simp only [kiC, CK, Cq, Hn, Du, Hm, G6, Fl, e_v, e_vs, lp, s0, key, i6, lw, c8, q1, qp, q2, q4, q5, q7]
      | some r4 =>
       have q6 := s1_t h3 "," c_c e4 (j + 3) (by omega)
       rw [q4] at q6
       cases q6
       have h4 : At x (j + 3) r4 := by rw [show j + 3 = j + 2 + 1 by omega]; exact (tk_t "," c_c h3 e4).2
       rw [Option.bind_some]
       cases e5 : nm r4 with
       | none =>
        have q8 := ll_f h4 e5
        show _ = _
        simp only [kiC, CK, Cq, Hn, Du, Hm, G6, Fl, e_v, e_vs, lp, s0, key, i6, lw, c8, q1, qp, q2, q4, q5, qc, q8]
       | some b =>
        obtain ⟨b, r5⟩ := b
        obtain ⟨q8, q9, h5⟩ := ll_t h4 e5
        have h5 : At x (j + 4) r5 := by rw [show j + 4 = j + 3 + 1 by omega]; exact h5
        rw [Option.bind_some]
        simp only
        cases e6 : strip [41] r5 with
        | none =>
         obtain ⟨z', q10, _, q11⟩ := s1_f h5 ")" c_q e6 (j + 5) (by omega)
         show _ = _
         simp only [kiC, CK, Cq, Hn, Du, Hm, G6, Fl, e_v, e_vs, lp, s0, key, i6, lw, c8, q1, qp, q2, q4, q5, qc, q8, q10, q11]
        | some r6 =>
         have q10 := s1_t h5 ")" c_q e6 (j + 5) (by omega)
         have h6 : At x (j + 5) r6 := by rw [show j + 5 = j + 4 + 1 by omega]; exact (tk_t ")" c_q h5 e6).2
         refine ⟨j + 5, h6, ?_⟩
         simp only [kiC, CK, Cq, Hn, Du, Hm, G6, Fl, e_v, e_vs, lp, s0, key, i6, lw, c8, q1, qp, q2, q3, q4, q5, qc, q8, q9, q10, qq.2, enc]
end K23
namespace K23
open PySem L2 PV
theorem ix0' (s : Say) (j : Int) : ixD (.lst [enc s, .int j]) (.int 0) = some (enc s) := of_eq_true (eq_self _)
theorem ix1' (s : Say) (j : Int) : ixD (.lst [enc s, .int j]) (.int 1) = some (.int j) := of_eq_true (eq_self _)
theorem nn_l (l : List D) : isND false (.lst l) = some (.bl false) := of_eq_true (eq_self _)
theorem nn_n : isND false .non = some (.bl true) := of_eq_true (eq_self _)
def Rj (f : List Nat → Option (Say × List Nat)) (r : List Nat) : Option (Say × List Nat) :=
 (f r).bind fun s => match strip (cs " and ") s.2 with
  | some r3 => (f r3).bind fun t => (strip [41] t.2).map fun r5 => (.both s.1 t.1, r5)
  | none => (strip (cs " or ") s.2).bind fun r3 => (f r3).bind fun t => (strip [41] t.2).map fun r5 => (.either s.1 t.1, r5)
def LRec (x : Str) (m : Nat) (f : List Nat → Option (Say × List Nat)) (rec : List D → Option D) : Prop :=
 (∀ i r, At x i r → ct r < m → LR x (f r) (rec [.str x, .int i])) ∧ ∀ r s r', f r = some (s, r') → r = cs (txt s) ++ r'
theorem Yi {x : Str} {m : Nat} {f : List Nat → Option (Say × List Nat)} {rec : List D → Option D} {i : Int} {r1 : List Nat} (F : LRec x m f rec) (h1 : At x i r1) (m1 : ct r1 < m) : LR x (Rj f r1) (Ce rec [.str x, .int i]) := by
 unfold Rj
 have q := F.1 _ _ h1 m1
 have qa := (tr_t " and ").2
 have qo := (tr_t " or ").2
 have qq := (tr_t ")").2
 cases e2 : f r1 with
 | none =>
  rw [e2] at q
  have q : rec [.str x, .int i] = some .non := q
  show _ = _
  simp only [cK, Ce, DK, q, nn_n]
 | some p =>
  obtain ⟨s, r2⟩ := p
  rw [e2] at q
  obtain ⟨j, h2, q⟩ := q
  simp only at h2 q
  have f2 := F.2 _ _ _ e2
  rw [Option.bind_some]
  simp only
  cases e3 : strip (cs " and ") r2 with
  | some r3 =>
   have a2 := sq_t h2 " and " e3 (j + 5) (by rw [Kl]; rfl)
   have h3 : At x (j + 5) r3 := by have := (Kh " and " (by rw [Kl]; decide) h2 e3).2; rwa [Kl] at this
   have q2 := F.1 _ _ h3 (Nat.lt_of_le_of_lt (Ma (by rw [f2, Aw e3, bW])) m1)
   simp only
   cases e4 : f r3 with
   | none =>
    rw [e4] at q2
    have q2 : rec [.str x, .int (j + 5)] = some .non := q2
    show _ = _
    simp only [ciK, Ce, DK, q, nn_l, nn_n, ix1', a2, qa, q2, O5, Ka]
   | some p =>
    obtain ⟨t, r4⟩ := p
    rw [e4] at q2
    obtain ⟨k, h4, q2⟩ := q2
    simp only at h4 q2
    rw [Option.bind_some]
    simp only
    cases e5 : strip [41] r4 with
    | none =>
     obtain ⟨z, b1, _, b2⟩ := s1_f h4 ")" c_q e5 (k + 1) rfl
     show _ = _
     simp only [ciK, Ce, DK, q, nn_l, nn_n, ix1', a2, qa, q2, O5, Ka, b1, b2]
    | some r5 =>
     have b1 := s1_t h4 ")" c_q e5 (k + 1) rfl
     refine ⟨k + 1, (tk_t ")" c_q h4 e5).2, ?_⟩
     simp only [ciK, Ce, DK, q, nn_l, nn_n, ix0', ix1', a2, qa, q2, O5, Ka, b1, qq, enc]
  | none =>
   obtain ⟨z, a2, _, a3⟩ := sq_f h2 " and " e3 (j + 5) (by rw [Kl]; rfl)
   simp only
   cases e6 : strip (cs " or ") r2 with
   | none =>
    obtain ⟨z', a4, _, a5⟩ := sq_f h2 " or " e6 (j + 4) (by rw [Qh]; rfl)
    show _ = _
    simp only [ciK, Ce, DK, q, nn_l, nn_n, ix1', a2, a3, a4, a5, O5, Ka]
   | some r3 =>
    have a4 := sq_t h2 " or " e6 (j + 4) (by rw [Qh]; rfl)
    have h3 : At x (j + 4) r3 := by have := (Kh " or " (by rw [Qh]; decide) h2 e6).2; rwa [Qh] at this
    have q2 := F.1 _ _ h3 (Nat.lt_of_le_of_lt (Ma (by rw [f2, Aw e6, a_or])) m1)
    rw [Option.bind_some]
    cases e4 : f r3 with
    | none =>
     rw [e4] at q2
     have q2 : rec [.str x, .int (j + 4)] = some .non := q2
     show _ = _
     simp only [ciK, Ce, DK, q, nn_l, nn_n, ix1', a2, a3, a4, qo, q2, O5, Ka]
    | some p =>
     obtain ⟨t, r4⟩ := p
     rw [e4] at q2
     obtain ⟨k, h4, q2⟩ := q2
     simp only at h4 q2
     rw [Option.bind_some]
     simp only
     cases e5 : strip [41] r4 with
     | none =>
      obtain ⟨z', b1, _, b2⟩ := s1_f h4 ")" c_q e5 (k + 1) rfl
      show _ = _
      simp only [ciK, Ce, DK, q, nn_l, nn_n, ix1', a2, a3, a4, qo, q2, O5, Ka, b1, b2]
     | some r5 =>
      have b1 := s1_t h4 ")" c_q e5 (k + 1) rfl
      refine ⟨k + 1, (tk_t ")" c_q h4 e5).2, ?_⟩
      simp only [ciK, Ce, DK, q, nn_l, nn_n, ix0', ix1', a2, a3, a4, qo, q2, O5, Ka, b1, qq, enc]
theorem bf : cs "not " = cs "not" ++ [32] := by decide +kernel
theorem Ss : Str.length "not " = 4 := by decide +kernel
theorem some_ : addD (.str "some") (.str " ") = some (.str "some ") := by kernel_rfl
theorem all_ : addD (.str "all") (.str " ") = some (.str "all ") := by kernel_rfl
theorem UL : lenD (.str "some") = some (.int 4) := by kernel_rfl
theorem V4 : lenD (.str "all") = some (.int 3) := by kernel_rfl
theorem Uw : cs "some " = cs "some" ++ [32] := by decide +kernel
theorem k_all : cs "all " = cs "all" ++ [32] := by decide +kernel
theorem V5 : Str.length "some " = 5 := by decide +kernel
theorem Yj : Str.length "all " = 4 := by decide +kernel
theorem Ux {w : Str} (h : ∀ c ∈ cs w, c ∈ cs LET) : IsL w := h
theorem iR {w : Str} (hL : IsL w) {c : Nat} (r : List Nat) (hc : isl c = false) : W (cs w ++ c :: r) = w ∧ (cs w ++ c :: r).dropWhile isl = c :: r := by
 have key : ∀ l : List Nat, (∀ d ∈ l, isl d = true) → (l ++ c :: r).takeWhile isl = l ∧ (l ++ c :: r).dropWhile isl = c :: r := by
  intro l
  induction l with
  | nil => intro _; simp [List.takeWhile_cons, List.dropWhile_cons, hc]
  | cons d l ih =>
   intro h
   obtain ⟨e1, e2⟩ := ih fun y hy => h y (by simp [hy])
   have hd := h d (by simp)
   simp [List.takeWhile_cons, List.dropWhile_cons, hd, e1, e2]
 obtain ⟨e1, e2⟩ := key (cs w) fun d hd => decide_eq_true (hL d hd)
 exact ⟨Jj (by rw [cs_W, e1]), e2⟩
theorem Hk {c d : Nat} {r : List Nat} (h : d ≠ c) : strip [c] (d :: r) = none := by
 unfold strip
 rw [if_neg (by simpa using h)]
theorem strip_eq {c : Nat} {r : List Nat} : strip [c] (c :: r) = some r := Qg [c] r
theorem kw {y w : Str} (hy : cs y = cs w ++ [32]) (hL : IsL w) {r r' : List Nat} (hs : strip (cs y) r = some r') : W r = w ∧ r.dropWhile isl = 32 :: r' ∧ r = cs w ++ 32 :: r' := by
 have e : r = cs w ++ 32 :: r' := by rw [Aw hs, hy]; simp
 obtain ⟨a, b⟩ := iR hL (c := 32) r' i32
 rw [e]
 exact ⟨a, b, rfl⟩
theorem Yk {y w : Str} (hy : cs y = cs w ++ [32]) {r r1 r2 : List Nat} (hs : strip (cs y) r = none) (hr : r = cs w ++ r1) (h1 : strip [32] r1 = some r2) : False := by
 rw [hr, Aw h1, ← List.append_assoc, ← hy] at hs
 rw [Qg] at hs
 cases hs
end K23
namespace K23
open PySem L2 PV
theorem aV : IsL "not" := Ux (by decide +kernel)
theorem Yl : IsL "some" := Ux (by decide +kernel)
theorem aW : IsL "all" := Ux (by decide +kernel)
theorem lb_t {x : Str} {m : Nat} {f : List Nat → Option (Say × List Nat)} {rec : List D → Option D} {i : Int} {r r2 : List Nat} {w y : Str} {L : Nat} (F : LRec x m f rec) (h : At x i r) (hc : ct r < m + 1) (hw : w = "some" ∨ w = "all")
  (l1 : lenD (.str w) = some (.int L)) (l2 : addD (.str w) (.str " ") = some (.str y)) (l3 : cs y = cs w ++ [32]) (l4 : y.length = L + 1) (l5 : L ≤ 50) (hs : strip (cs y) r = some r2) (s2 s4 : Slot) :
  ∃ d ρ', Dl rec [.fz (.str x), .fz (.int i), s2, .fz (.str w), s4] = some (.rt d ρ') ∧ LR x (Rq f w (32 :: r2)) (some d) := by
 have q0 := sq_t h y hs (i + L + 1) (by rw [l4]; omega)
 have qe := (tr_t y).1
 have qb := (tr_t " ").1
 have h2 : At x (i + L + 1) r2 := by
  have := (Kh y (by omega) h hs).2
  rw [l4] at this
  rw [show i + (L : Int) + 1 = i + ((L + 1 : Nat) : Int) by omega]
  exact this
 have m1 : ct r2 < m := by
  have := ct_w w (by rcases hw with z | z <;> simp [z]) r2
  have e : r = cs w ++ 32 :: r2 := by rw [Aw hs, l3]; simp
  rw [e] at hc
  omega
 unfold Rq
 rw [strip_eq, Option.bind_some]
 cases e2 : nm r2 with
 | none =>
  have a2 := ll_f h2 e2
  exact ⟨.non, [.fz (.str x), .fz (.int i), .fz .non, .fz (.str w), .fz (.int (i + L + 1))], by simp only [ciK, Dl, l1, l2, q0, qe, a2, nn_n], rfl⟩
 | some a =>
  obtain ⟨a, r3⟩ := a
  obtain ⟨a2, a3, h3⟩ := ll_t h2 e2
  have f2 := (Jw e2).2
  rw [Option.bind_some]
  simp only
  cases e3 : strip [32] r3 with
  | none =>
   obtain ⟨z, b1, b2, _⟩ := s1_f h3 " " c_b e3 (i + L + 1 + 2) (by omega)
   exact ⟨.non, [.fz (.str x), .fz (.int i), .fz .non, .fz (.str w), .fz (.int (i + L + 1))], by simp only [ciK, Dl, l1, l2, q0, qe, a2, b1, b2, nn_n], rfl⟩
  | some r4 =>
   have b1 := s1_t h3 " " c_b e3 (i + L + 1 + 2) (by omega)
   have h4 : At x (i + L + 1 + 2) r4 := by have := (tk_t " " c_b h3 e3).2; rwa [show i + (L : Int) + 1 + 1 + 1 = i + L + 1 + 2 by omega] at this
   have q := F.1 _ _ h4 (Nat.lt_of_le_of_lt (Ma (t := []) (by rw [f2, Aw e3]; rfl)) m1)
   rw [Option.bind_some]
   cases e4 : f r4 with
   | none =>
    rw [e4] at q
    have q : rec [.str x, .int (i + L + 1 + 2)] = some .non := q
    exact ⟨.non, [.fz (.str x), .fz (.int i), .fz .non, .fz (.str w), .fz (.int (i + L + 1))], by simp only [ciK, Dl, l1, l2, q0, qe, a2, b1, qb, q, nn_n], rfl⟩
   | some p =>
    obtain ⟨s, r5⟩ := p
    rw [e4] at q
    obtain ⟨k, h5, q⟩ := q
    simp only at h5 q
    have e : enc (if w = "some" then Say.ex a s else Say.al a s) = .tup [.str w, .str a, enc s] := by
     rcases hw with rfl | rfl
     ·rw [if_pos rfl]; rfl
     ·rw [if_neg (by decide +kernel)]; rfl
    refine ⟨.lst [.tup [.str w, .str a, enc s], .int k], [.fz (.str x), .fz (.int i), .fz (.lst [enc s, .int k]), .fz (.str w), .fz (.int (i + L + 1))], by simp only [ciK, Dl, l1, l2, q0, qe, a2, a3, b1, qb, q, nn_l, ix0', ix1'], k, h5, ?_⟩
    simp only [e]
theorem lb_f {x : Str} {rec : List D → Option D} {i : Int} {r : List Nat} {w y : Str} {L : Nat} (h : At x i r)
  (l1 : lenD (.str w) = some (.int L)) (l2 : addD (.str w) (.str " ") = some (.str y)) (l4 : y.length = L + 1) (hs : strip (cs y) r = none) (s2 s4 : Slot) :
  Dl rec [.fz (.str x), .fz (.int i), s2, .fz (.str w), s4] = some (.nx [.fz (.str x), .fz (.int i), s2, .fz (.str w), .fz (.int (i + L + 1))]) := by
 obtain ⟨z, b1, b2, _⟩ := sq_f h y hs (i + L + 1) (by rw [l4]; omega)
 simp only [ciK, Dl, l1, l2, b1, b2]
theorem iT {w : Str} {r : List Nat} (h : strip [40] r = none) : Rm w r = none := by
 unfold Rm
 split
 ·rw [h]; rfl
 ·rfl
theorem iU {f : List Nat → Option (Say × List Nat)} {r r1 : List Nat} {w : Str} (hr : r = cs w ++ r1) (h1 : strip (cs "not ") r = none) (h2 : strip (cs "some ") r = none) (h3 : strip (cs "all ") r = none) : Rt f w r1 = Rp w r1 := by
 unfold Rt Rp Rs
 cases e1 : strip [40] r1 with
 | some r2 =>
  have e2 : strip [61] r1 = none := by rw [Aw e1]; exact Hk (by decide)
  rw [if_pos (show (some _).isSome = true from rfl), e2]
  by_cases hw : w.length = 1
  ·rw [if_pos hw]; rfl
  ·rw [if_neg hw]
 | none =>
  rw [if_neg (by simp)]
  have nm0 : Rm w r1 = none := iT e1
  cases e2 : strip [61] r1 with
  | some r2 =>
   rw [if_pos (show (some _).isSome = true from rfl)]
   unfold Re
   by_cases hw : w.length = 1
   ·rw [if_pos hw, if_pos hw, e2, Option.bind_some, Option.bind_some]
    cases e3 : nm r2 with
    | none => exact nm0.symm
    | some a => rfl
   ·rw [if_neg hw, if_neg hw]
    exact nm0.symm
  | none =>
   rw [if_neg (by simp)]
   have rs : (if w.length = 1 then (none : Option (List Nat)).bind nm else none) = none := by split <;> rfl
   rw [rs]
   simp only
   rw [nm0]
   cases e3 : strip [32] r1 with
   | some r2 =>
    have n1 : ¬ (w = "some" ∨ w = "all") := fun q => by
     rcases q with rfl | rfl
     ·exact Yk Uw h2 hr e3
     ·exact Yk k_all h3 hr e3
    have n2 : ¬ (w = "not") := fun q => by subst q; exact Yk bf h1 hr e3
    rw [if_neg n1, if_neg n2]
   | none =>
    unfold Rq Rn
    rw [e3]
    split
    ·rfl
    ·split <;> rfl
theorem iV : ∀ (n : Nat) (x : Str) (i : Int) (r : List Nat), At x i r → ct r < n → LR x (R n r) (Bf n [.str x, .int i]) := by
 intro n
 induction n with
 | zero => intro x i r _ h; omega
 | succ n ih =>
  intro x i r h hc
  have F : LRec x n (R n) (Bf n) := ⟨fun i r => ih x i r, fun r s r' e => (Sg n r s r' e).1⟩
  show LR x (if (strip [40] r).isSome = true then Rb (R n) r else Rt (R n) (W r) (r.dropWhile isl)) _
  cases e0 : strip [40] r with
  | some r0 =>
   rw [if_pos (show (some _).isSome = true from rfl)]
   have a0 := s1_t h "(" c_p e0 (i + 1) rfl
   have h1 : At x (i + 1) r0 := (tk_t "(" c_p h e0).2
   have qp := (tr_t "(").1
   have m1 : ct r0 < n := by
    have := ct_p r0
    have e : r = 40 :: r0 := Aw e0
    rw [e] at hc
    omega
   have q := Yi F h1 m1
   have eb : Rb (R n) r = Rj (R n) r0 := by unfold Rb Rj; rw [e0]; rfl
   rw [eb]
   have e : Bf (n + 1) [.str x, .int i] = Ce (Bf n) [.str x, .int (i + 1)] := by
    cases o : Rj (R n) r0 with
    | none =>
     rw [o] at q
     have q : Ce (Bf n) [.str x, .int (i + 1)] = some .non := q
     simp only [ciK, Bf, Dm, a0, qp, q]
    | some p =>
     rw [o] at q
     obtain ⟨j, _, q⟩ := q
     simp only [ciK, Bf, Dm, a0, qp, q]
   rw [e]
   exact q
  | none =>
   rw [if_neg (by simp)]
   obtain ⟨z0, a0, a1, _⟩ := s1_f h "(" c_p e0 (i + 1) rfl
   cases e1 : strip (cs "not ") r with
   | some r2 =>
    obtain ⟨w1, w2, w3⟩ := kw bf (aV) e1
    rw [w1, w2]
    have b0 := sq_t h "not " e1 (i + 4) (by rw [Ss]; rfl)
    have bq := (tr_t "not ").1
    have h2 : At x (i + 4) r2 := by have := (Kh "not " (by rw [Ss]; decide) h e1).2; rwa [Ss] at this
    have m1 : ct r2 < n := by
     have := ct_w "not" (by simp) r2
     rw [w3] at hc
     omega
    have q := ih x _ _ h2 m1
    have n1 : ¬ (("not" : Str) = "some" ∨ ("not" : Str) = "all") := by decide +kernel
    have er : Rt (R n) "not" (32 :: r2) = (R n r2).map fun s => (.neg s.1, s.2) := by
     unfold Rt Rn
     rw [Hk (by decide), Hk (by decide), if_neg (by simp), if_neg (by simp), if_neg n1, if_pos rfl, strip_eq]
     rfl
    rw [er]
    cases e4 : R n r2 with
    | none =>
     rw [e4] at q
     have q : Bf n [.str x, .int (i + 4)] = some .non := q
     show _ = _
     simp only [ciK, Bf, Dm, a0, a1, b0, bq, q, nn_n]
    | some p =>
     obtain ⟨s, r4⟩ := p
     rw [e4] at q
     obtain ⟨k, h4, q⟩ := q
     simp only at h4 q
     refine ⟨k, h4, ?_⟩
     simp only [ciK, Bf, Dm, a0, a1, b0, bq, q, nn_l, ix0', ix1', enc]
   | none =>
    obtain ⟨z1, b0, b1, _⟩ := sq_f h "not " e1 (i + 4) (by rw [Ss]; rfl)
    cases e2 : strip (cs "some ") r with
    | some r2 =>
     obtain ⟨w1, w2, w3⟩ := kw Uw Yl e2
     rw [w1, w2]
     obtain ⟨d, ρ', g1, g2⟩ := lb_t (y := "some ") F h hc (.inl rfl) UL some_ Uw V5 (by decide) e2 .un .un
     have er : Rt (R n) "some" (32 :: r2) = Rq (R n) "some" (32 :: r2) := by
      unfold Rt
      rw [Hk (by decide), Hk (by decide), if_neg (by simp), if_neg (by simp), if_pos (.inl rfl)]
     rw [er]
     have e : Bf (n + 1) [.str x, .int i] = some d := by
      simp only [ciK, Bf, Dm, a0, a1, b0, b1, g1]
     rw [e]
     exact g2
    | none =>
     have g0 := lb_f (rec := Bf n) (y := "some ") h UL some_ V5 e2 .un .un
     cases e3 : strip (cs "all ") r with
     | some r2 =>
      obtain ⟨w1, w2, w3⟩ := kw k_all aW e3
      rw [w1, w2]
      obtain ⟨d, ρ', g1, g2⟩ := lb_t (y := "all ") F h hc (.inr rfl) V4 all_ k_all Yj (by decide) e3 .un (.fz (.int (i + (4 : Nat) + 1)))
      have na : ¬ (("all" : Str) = "some") := by decide +kernel
      have er : Rt (R n) "all" (32 :: r2) = Rq (R n) "all" (32 :: r2) := by
       unfold Rt
       rw [Hk (by decide), Hk (by decide), if_neg (by simp), if_neg (by simp), if_pos (.inr rfl)]
      rw [er]
      have e : Bf (n + 1) [.str x, .int i] = some d := by
       simp only [ciK, Bf, Dm, a0, a1, b0, b1, g0, g1]
      rw [e]
      exact g2
     | none =>
      have g1 := lb_f (rec := Bf n) (y := "all ") h V4 all_ Yj e3 .un (.fz (.int (i + (4 : Nat) + 1)))
      rw [iU (JN r) e1 e2 e3]
      have q := aU h
      have e : Bf (n + 1) [.str x, .int i] = CK [.str x, .int i] := by
       cases o : Rp (W r) (r.dropWhile isl) with
       | none =>
        rw [o] at q
        have q : CK [.str x, .int i] = some .non := q
        simp only [ciK, Bf, Dm, a0, a1, b0, b1, g0, g1, q]
       | some p =>
        rw [o] at q
        obtain ⟨j, _, q⟩ := q
        simp only [ciK, Bf, Dm, a0, a1, b0, b1, g0, g1, q]
      rw [e]
      exact q
end K23
namespace K23
open PySem L2 PV
def S1 : Str := " !\"#$&'()*+,-./0123456789:;<=>?@ABCDEFGHIJKLMNOPQRSTUVWXYZ[\\]^_`abcdefghijklmnopqrstuvwxyz{|}~"
def S2 : Str := " ()=,adlmnorstexyz"
theorem Ym : addD (.str " !\"#$&'()*+,-./0123456789:;<=>?@ABCDEFGHIJKLMNOPQRSTUVWXYZ[\\]^_`") (.str "abcdefghijklmnopqrstuvwxyz{|}~") = some (.str S1) := by kernel_rfl
theorem iW : ∀ c ∈ cs S1, 32 ≤ c ∧ c < 127 := by decide +kernel
theorem iY : ∀ c ∈ cs S2, 32 ≤ c ∧ c < 127 := by decide +kernel
theorem fL : lenD (.str S1) = some (.int 94) := by kernel_rfl
theorem fM : lenD (.str S2) = some (.int 18) := by kernel_rfl
theorem aX (i : Int) : ∃ c, (32 ≤ c ∧ c < 127) ∧ G3 [.int i] = some (.str ⟨#[c]⟩) := by
 have m2 := E_ i 2 (by decide)
 have d2 := Ir i 2 (by decide) (by decide)
 by_cases h : i % 2 = 0
 ·obtain ⟨c, hc, e⟩ := RQ S2 18 (i / 2) (by decide +kernel) (by decide +kernel) (by decide +kernel)
  have m := E_ (i / 2) 18 (by decide)
  rw [h] at m2
  have hS : (Str.ofString " ()=,adlmnorstexyz") = S2 := rfl
  have l := fM
  exact ⟨c, iY c hc, by simp only [cK, G3, Hq, Ym, m2, Ku, d2, hS, l, m, e]⟩
 ·obtain ⟨c, hc, e⟩ := RQ S1 94 (i / 2) (by decide +kernel) (by decide +kernel) (by decide +kernel)
  have m := E_ (i / 2) 94 (by decide)
  have e0 : eqD false (.int (i % 2)) (.int 0) = some (.bl false) := by rw [Ku, decide_eq_false h]
  have l := fL
  exact ⟨c, iW c hc, by simp only [cK, G3, Hq, Ym, m2, e0, d2, l, m, e]⟩
theorem fO (y : Str) (a b : Nat) (ha : a ≤ y.length) (hb : a ≤ b) : cs (cutS y (some (a : Int)) (some (b : Int))) = ((cs y).drop a).take (b - a) := by
 have := Ny (cs y) a (b - a) (by rw [Cm]; exact ha)
 rw [show (a : Int) + ((b - a : Nat) : Int) = (b : Int) by omega] at this
 rw [IK, this]
theorem Pa {y : Str} {n k : Nat} (h : Sp y n k) (hn : n ≤ 2000) (c : Int) : ∃ z, Cv [.str y, .int c] = some (.str z) ∧ Sp z (n + 9) (k + 13) := by
 have yl := h.ln
 have d8 := Ir c 8 (by decide) (by decide)
 have em := Ks (c / 8) 1000000007 (by decide)
 obtain ⟨N, hN, n0⟩ : ∃ N : Int, modD (.int (c / 8 * 1000000007)) (.int 2147483647) = some (.int N) ∧ 0 ≤ N := ⟨_, E_ _ _ (by decide), Int.emod_nonneg _ (by decide)⟩
 have ly := JX y (by omega)
 have m1 := E_ N ((y.length : Int) + 1) (by omega)
 have q0 : 0 ≤ N % ((y.length : Int) + 1) := Int.emod_nonneg _ (by omega)
 have q1 : N % ((y.length : Int) + 1) < (y.length : Int) + 1 := Int.emod_lt_of_pos _ (by omega)
 obtain ⟨a, ea⟩ : ∃ a : Nat, (a : Int) = N % ((y.length : Int) + 1) := ⟨(N % ((y.length : Int) + 1)).toNat, by omega⟩
 have ha : a ≤ y.length := by omega
 rw [← ea] at m1
 have d1 := Ir N 100003 (by decide) (by decide)
 have m2 := E_ (N / 100003) 10 (by decide)
 have p0 : 0 ≤ N / 100003 % 10 := Int.emod_nonneg _ (by decide)
 have p1 : N / 100003 % 10 < 10 := Int.emod_lt_of_pos _ (by decide)
 obtain ⟨b, eb⟩ : ∃ b : Nat, (b : Int) = (a : Int) + N / 100003 % 10 := ⟨((a : Int) + N / 100003 % 10).toNat, by omega⟩
 have hab : a ≤ b := by omega
 have hb9 : b ≤ a + 9 := by omega
 have ab : addD (.int (a : Int)) (.int (N / 100003 % 10)) = some (.int (b : Int)) := by rw [Hx, ← eb]
 obtain ⟨sg, sgp, es⟩ := aX (c / 8)
 have m8 := E_ c 8 (by decide)
 have t1 := sl_s y none (some (a : Int)) (by omega)
 have t2 := sl_s y (some (a : Int)) none (by omega)
 have t3 := sl_s y (some ((a : Int) + 1)) none (by omega)
 have t4 := sl_s y none (some (b : Int)) (by omega)
 have t5 := sl_s y (some (a : Int)) (some (b : Int)) (by omega)
 have t6 := sl_s y (some (b : Int)) none (by omega)
 have ps := h.pl
 have z1 := bc y a
 have z2 := Sh y a
 have z3 : cs (cutS y (some ((a : Int) + 1)) none) = (cs y).drop (a + 1) := Sh y (a + 1)
 have z4 := bc y b
 have z5 := fO y a b ha hab
 have z6 := Sh y b
 have l0 : (cs y).length = y.length := Cm y
 generalize cutS y none (some (a : Int)) = A at t1 z1
 generalize cutS y (some (a : Int)) none = B at t2 z2
 generalize cutS y (some ((a : Int) + 1)) none = C at t3 z3
 generalize cutS y none (some (b : Int)) = E4 at t4 z4
 generalize cutS y (some (a : Int)) (some (b : Int)) = E5 at t5 z5
 generalize cutS y (some (b : Int)) none = E6 at t6 z6
 have lA : A.length ≤ a := by rw [← Cm, z1, List.length_take]; omega
 have lB : B.length = y.length - a := by rw [← Cm, z2, List.length_drop, l0]
 have lC : C.length = y.length - (a + 1) := by rw [← Cm, z3, List.length_drop, l0]
 have l4 : E4.length ≤ b ∧ E4.length ≤ y.length := by rw [← Cm, z4, List.length_take, l0]; omega
 have l5 : E5.length ≤ 9 := by rw [← Cm, z5, List.length_take]; omega
 have l6 : E6.length = y.length - b := by rw [← Cm, z6, List.length_drop, l0]
 have ls : Str.length ⟨#[sg]⟩ = 1 := rfl
 have cS : cs (⟨#[sg]⟩ : Str) = [sg] := rfl
 have k0 := h.ct
 have c1 := Li (cs y) a
 have c3 : ctp 0 ((cs y).drop (a + 1)) ≤ ctp 0 ((cs y).drop a) + 1 := by
  have := Li ((cs y).drop a) 1
  rw [List.drop_drop] at this
  omega
 have c4 := Li (cs y) b
 have c5 : ctp 0 (((cs y).drop a).take (b - a)) ≤ 9 := by
  have := Yh (((cs y).drop a).take (b - a)) 0
  rw [List.length_take] at this
  omega
 have c6 : ctp 0 ((cs y).drop b) ≤ ctp 0 ((cs y).drop a) + 1 := by
  have := Li ((cs y).drop a) (b - a)
  rw [List.drop_drop, show a + (b - a) = b by omega] at this
  omega
 have cs1 : ctp 0 [sg] ≤ 1 := Yh [sg] 0
 have fin : ∀ (z : Str) (l : List Nat), cs z = l → z.length ≤ n + 9 → (∀ c ∈ l, 32 ≤ c ∧ c < 127) → ctp 0 l ≤ k + 13 → Sp z (n + 9) (k + 13) := fun z l e h1 h2 h3 => ⟨h1, by rw [e]; exact h2, by rw [e]; exact h3⟩
 have pA : ∀ c ∈ cs A, 32 ≤ c ∧ c < 127 := by rw [z1]; exact V3 ps
 have pB : ∀ c ∈ cs B, 32 ≤ c ∧ c < 127 := by rw [z2]; exact Sq ps
 have pC : ∀ c ∈ cs C, 32 ≤ c ∧ c < 127 := by rw [z3]; exact Sq ps
 have p4 : ∀ c ∈ cs E4, 32 ≤ c ∧ c < 127 := by rw [z4]; exact V3 ps
 have p5 : ∀ c ∈ cs E5, 32 ≤ c ∧ c < 127 := by rw [z5]; exact fun c hc => ps c (List.mem_of_mem_drop (List.mem_of_mem_take hc))
 have p6 : ∀ c ∈ cs E6, 32 ≤ c ∧ c < 127 := by rw [z6]; exact Sq ps
 have pS : ∀ c ∈ cs (⟨#[sg]⟩ : Str), 32 ≤ c ∧ c < 127 := by rw [cS]; intro c hc; rw [List.mem_singleton.mp hc]; exact sgp
 have two : ∀ u v : Str, (∀ c ∈ cs u, 32 ≤ c ∧ c < 127) → (∀ c ∈ cs v, 32 ≤ c ∧ c < 127) → ∀ c ∈ cs (u ++ v), 32 ≤ c ∧ c < 127 := fun u v hu hv c hc => by
  rw [Fd] at hc
  exact (List.mem_append.mp hc).elim (hu c) (hv c)
 have ap : ∀ u v : Str, ctp 0 (cs (u ++ v)) ≤ ctp 0 (cs u) + ctp 0 (cs v) + 1 := fun u v => by rw [Fd]; exact aR _ _
 rw [← z1] at c1
 rw [← z2] at c1 c3 c6
 rw [← z3] at c3
 rw [← z4, ← z6] at c4
 rw [← z5] at c5
 rw [← z6] at c6
 rw [← cS] at cs1
 by_cases h2 : c % 8 < 2
 ·have a1 := adds A ⟨#[sg]⟩ (by omega)
  have a2 := adds (A ++ ⟨#[sg]⟩) B (by rw [Af]; omega)
  refine ⟨A ++ ⟨#[sg]⟩ ++ B, by simp only [cK, Cv, De, d8, em, hN, ly, Hx, m1, d1, m2, ab, es, m8, JV, h2, t1, t2, a1, a2], ?_, two _ _ (two _ _ pA pS) pB, ?_⟩
  ·simp only [Af, ls]; omega
  ·have := ap (A ++ ⟨#[sg]⟩) B; have := ap A ⟨#[sg]⟩; omega
 ·by_cases h4 : c % 8 < 4
  ·have a1 := adds A C (by omega)
   refine ⟨A ++ C, by simp only [cK, Cv, De, d8, em, hN, ly, Hx, m1, d1, m2, ab, es, m8, JV, h2, h4, t1, t3, a1], ?_, two _ _ pA pC, ?_⟩
   ·simp only [Af]; omega
   ·have := ap A C; omega
  ·by_cases h5 : c % 8 = 4
   ·have a1 := adds A ⟨#[sg]⟩ (by omega)
    have a2 := adds (A ++ ⟨#[sg]⟩) C (by rw [Af]; omega)
    refine ⟨A ++ ⟨#[sg]⟩ ++ C, by simp only [cK, Cv, De, d8, em, hN, ly, Hx, m1, d1, m2, ab, es, m8, JV, Ku, h2, h4, h5, t1, t3, a1, a2], ?_, two _ _ (two _ _ pA pS) pC, ?_⟩
    ·simp only [Af, ls]; omega
    ·have := ap (A ++ ⟨#[sg]⟩) C; have := ap A ⟨#[sg]⟩; omega
   ·by_cases h6 : c % 8 = 5
    ·have a1 := adds E4 E5 (by omega)
     have a2 := adds (E4 ++ E5) E6 (by rw [Af]; omega)
     refine ⟨E4 ++ E5 ++ E6, by simp only [cK, Cv, De, d8, em, hN, ly, Hx, m1, d1, m2, ab, es, m8, JV, Ku, h2, h4, h5, h6, t4, t5, t6, a1, a2], ?_, two _ _ (two _ _ p4 p5) p6, ?_⟩
     ·simp only [Af]; omega
     ·have := ap (E4 ++ E5) E6; have := ap E4 E5; omega
    ·by_cases h7 : c % 8 = 6
     ·have a1 := adds A E6 (by omega)
      refine ⟨A ++ E6, by simp only [cK, Cv, De, d8, em, hN, ly, Hx, m1, d1, m2, ab, es, m8, JV, Ku, h2, h4, h5, h6, h7, t1, t6, a1], ?_, two _ _ pA p6, ?_⟩
      ·simp only [Af]; omega
      ·have := ap A E6; omega
     ·have a1 := adds A E6 (by omega)
      have a2 := adds (A ++ E6) E5 (by rw [Af]; omega)
      refine ⟨A ++ E6 ++ E5, by simp only [cK, Cv, De, d8, em, hN, ly, Hx, m1, d1, m2, ab, es, m8, JV, Ku, h2, h4, h5, h6, h7, t1, t6, t5, a1, a2], ?_, two _ _ (two _ _ pA p6) p5, ?_⟩
      ·simp only [Af]; omega
      ·have := ap (A ++ E6) E5; have := ap A E6; omega
def szO (i : Nat) (ρ : Rho) (o : Option D) : Option Out := o.map fun d => match excOf d with | some _ => .rt d ρ | none => .nx (ρ.set i (.fz d))
theorem Uy (i : Nat) (f : FE) (ρ : Rho) : setZ i f ρ = szO i ρ (f ρ) := of_eq_true (eq_self _)
theorem bh (i : Nat) (ρ : Rho) (y : Str) : szO i ρ (some (E y)) = some (.rt (E y) ρ) := of_eq_true (eq_self _)
theorem iZ (i : Nat) (ρ : Rho) (s : Say) : szO i ρ (some (enc s)) = some (.nx (ρ.set i (.fz (enc s)))) := by simp [szO, Nz]
theorem Uz (cs : List Str) (i : Nat) (g h : FS) (ρ : Rho) : tryF cs i g h ρ = tryO cs i h (g ρ) := of_eq_true (eq_self _)
theorem fP (cs : List Str) (i : Nat) (h : FS) (ρ : Rho) : tryO cs i h (some (.nx ρ)) = some (.nx ρ) := of_eq_true (eq_self _)
def Er (y : Str) : D := .err "NoSaying" [("line", .str y)]
theorem Yn (i : Nat) (h : FS) (y : Str) (ρ : Rho) : tryO ["NoSaying"] i h (some (.rt (E y) ρ)) = offO i (h (ρ.set i (.fz (Er y)))) := by
 show (if (["NoSaying"] : List Str).contains "NoSaying" = true then offO i (h (ρ.set i (.fz (Er y)))) else none) = _
 rw [if_pos (by decide +kernel)]
theorem Yo (i : Nat) (ρ : Rho) : offO i (some (.nx ρ)) = some (.nx (ρ.set i .un)) := of_eq_true (eq_self _)
theorem f_er (y : Str) : fldE ["NoSaying"] "line" (Er y) = some (.str y) := by
 show (if (["NoSaying"] : List Str).contains "NoSaying" = true then List.lookup ("line" : Str) [("line", D.str y)] else none) = _
 rw [if_pos (by decide +kernel), List.lookup_cons, show (("line" : Str) == "line") = true by decide +kernel]
theorem n_er (y : Str) : isND true (Er y) = some (.bl true) := of_eq_true (eq_self _)
theorem eqy (y : Str) : eqD false (.str y) (.str y) = some (.bl true) := by rw [eqs, decide_eq_true rfl]
theorem ie (s : Say) : isiD "tuple" (enc s) = some (.bl true) := by cases s <;> rfl
theorem aZ : ∀ (s : Say) (n : Nat), hgt s ≤ n → eqK n (enc s) (enc s) = some true := by
 have fs : ∀ (n : Nat) (x : Str), eqK n (.str x) (.str x) = some true := fun n x => by
  have e : flD (.str x) (.str x) = some true := by simp [flD, flV, eqV]
  cases n with
  | zero => exact e
  | succ n => exact e
 intro s
 induction s with
 | mark w x =>
  intro n h
  obtain ⟨n, rfl⟩ : ∃ m, n = m + 1 := ⟨n - 1, by simp only [hgt] at h; omega⟩
  simp [enc, eqK, eqS, allO, fs]
 | tie w x y =>
  intro n h
  obtain ⟨n, rfl⟩ : ∃ m, n = m + 1 := ⟨n - 1, by simp only [hgt] at h; omega⟩
  simp [enc, eqK, eqS, allO, fs]
 | same x y =>
  intro n h
  obtain ⟨n, rfl⟩ : ∃ m, n = m + 1 := ⟨n - 1, by simp only [hgt] at h; omega⟩
  simp [enc, eqK, eqS, allO, fs]
 | neg s ih =>
  intro n h
  obtain ⟨n, rfl⟩ : ∃ m, n = m + 1 := ⟨n - 1, by simp only [hgt] at h; omega⟩
  simp [enc, eqK, eqS, allO, fs, ih n (by simp only [hgt] at h; omega)]
 | ex x s ih =>
  intro n h
  obtain ⟨n, rfl⟩ : ∃ m, n = m + 1 := ⟨n - 1, by simp only [hgt] at h; omega⟩
  simp [enc, eqK, eqS, allO, fs, ih n (by simp only [hgt] at h; omega)]
 | al x s ih =>
  intro n h
  obtain ⟨n, rfl⟩ : ∃ m, n = m + 1 := ⟨n - 1, by simp only [hgt] at h; omega⟩
  simp [enc, eqK, eqS, allO, fs, ih n (by simp only [hgt] at h; omega)]
 | both s t i1 i2 =>
  intro n h
  obtain ⟨n, rfl⟩ : ∃ m, n = m + 1 := ⟨n - 1, by simp only [hgt] at h; omega⟩
  simp [enc, eqK, eqS, allO, fs, i1 n (by simp only [hgt] at h; omega), i2 n (by simp only [hgt] at h; omega)]
 | either s t i1 i2 =>
  intro n h
  obtain ⟨n, rfl⟩ : ∃ m, n = m + 1 := ⟨n - 1, by simp only [hgt] at h; omega⟩
  simp [enc, eqK, eqS, allO, fs, i1 n (by simp only [hgt] at h; omega), i2 n (by simp only [hgt] at h; omega)]
theorem fQ (s : Say) (h : hgt s ≤ 180) : eqD false (enc s) (enc s) = some (.bl true) := by
 have k := aZ s 181 (by omega)
 have key : eqvD (enc s) (enc s) = eqK 181 (enc s) (enc s) := by cases s <;> rfl
 unfold eqD
 rw [key, k]
 rfl
theorem aa {y : Str} (h : Pl y) (hc : ct (cs y) < 105) : Dv [.str y] = some (.bl true) := by
 have q := iV 105 y 0 (cs y) h.at0 hc
 have rd := Yc h hc
 have ly := JX y (by have := h.1; omega)
 have q1 := eqy y
 cases e : R 105 (cs y) with
 | none =>
  rw [e] at q rd
  have q : Bf 105 [.str y, .int 0] = some .non := q
  simp only [cK, Dv, Gz, q, rd, Uz, Uy, bh, Yn, Yo, nn_n, n_er, f_er, q1]
 | some p =>
  obtain ⟨s, r⟩ := p
  rw [e] at q rd
  obtain ⟨j, a, q⟩ := q
  simp only at a q
  have an := Yb a
  cases r with
  | nil =>
   have ej := YQ a
   have nj : eqD true (.int j) (.int (y.length : Int)) = some (.bl false) := by rw [ej, TV]; simp
   have tt := ie s
   have eq := fQ s (by have := (Sg _ _ _ _ e).2.2; omega)
   simp only [cK, Dv, Gz, q, rd, Uz, Uy, iZ, fP, nn_l, nn_n, ix0', ix1', ly, nj, tt, eq]
  | cons c r =>
   have lj : j < (y.length : Int) := an.mpr (by simp)
   have nj : eqD true (.int j) (.int (y.length : Int)) = some (.bl true) := by
    have : ¬ (j = (y.length : Int)) := by omega
    rw [TV]; simp [this]
   simp only [cK, Dv, Gz, q, rd, Uz, Uy, bh, Yn, Yo, nn_l, n_er, f_er, q1, ix1', ly, nj]
theorem Sp.good {y : Str} {n k : Nat} (h : Sp y n k) (hn : n ≤ 2500) (hk : k < 105) : Dv [.str y] = some (.bl true) := aa ⟨by have := h.ln; omega, h.pl⟩ (by have := h.ct; show ctp 0 (cs y) < 105; omega)
theorem Yp (cl : List Int) (hc : cl.length ≤ 37) (ws ns : List Str) (hn : ns.length = 3) (hws : ∀ x ∈ ws, Wd x) (hns : ∀ x ∈ ns, Nm x) : ∃ s, G9 [.lst (cl.map .int), .lst (ws.map .str), .lst (ns.map .str)] = some (pr s) ∧ Gd s ∧ (txt s).length ≤ 1200 ∧ wt s ≤ 74 := by
 have e3 : slD (.lst (ws.map .str)) none (some 3) = some (.lst ((ws.take 3).map .str)) := congrArg (fun z => some (D.lst z)) (T6 D.str ws 3)
 have e4 : slD (.lst (ws.map .str)) (some 3) none = some (.lst ((ws.drop 3).map .str)) := congrArg (fun z => some (D.lst z)) (T7 D.str ws 3)
 obtain ⟨a, ea, ha, ga, la, sa, wa⟩ := V0 (cl.length : Int) (ws.take 3) (ws.drop 3) ns hn (fun x hx => hws x (List.mem_of_mem_take hx)) (fun x hx => hws x (List.mem_of_mem_drop hx)) hns
 have p : EY [.lst [], enc a, .int 0] = some (.lst [pr a]) := Hz [] [] a 0 rfl (sa _) (by simp)
 have ll : lenD (.lst (cl.map .int)) = some (.int (cl.length : Int)) := by simp [lenD]
 obtain ⟨ρ', ef, l, z, rfl, hrow⟩ := Kv (b := tgB (J0 4) Ge) (ds := cl.map .int) (ρ := [.fz (.lst (cl.map .int)), .fz (.lst (ws.map .str)), .fz (.lst (ns.map .str)), .fz (.lst [pr a]), .un])
  (P := fun k ρ => ∃ l z, ρ = [.fz (.lst (cl.map .int)), .fz (.lst (ws.map .str)), .fz (.lst (ns.map .str)), .fz (.lst (l.map pr)), z] ∧ Row (k + 1) l) 0 ⟨[a], _, rfl, by simp, by simp, by simp; omega, by simpa using ga, by rw [tot1]; omega, by rw [wto1, wa]; omega⟩ (by
   rintro k d ρ hk ⟨l, z, rfl, hr⟩
   obtain ⟨hk', e⟩ := List.getElem?_eq_some_iff.mp hk
   rw [List.length_map] at hk'
   rw [List.getElem_map] at e
   subst e
   obtain ⟨l', eg, hr'⟩ := YJ (0 + k + 1) (by omega) l hr cl[k] ws ns hn hws hns
   refine ⟨[.fz (.lst (cl.map .int)), .fz (.lst (ws.map .str)), .fz (.lst (ns.map .str)), .fz (.lst (l'.map pr)), .fz (.int cl[k])], ?_, l', _, rfl, hr'⟩
   show Ge [.fz (.lst (cl.map .int)), .fz (.lst (ws.map .str)), .fz (.lst (ns.map .str)), .fz (.lst (l.map pr)), .fz (.int cl[k])] = _
   simp only [cK, Ge, eg])
 rw [List.length_map] at hrow
 have h1 := hrow.len
 have h2 := hrow.tt
 have h3 := hrow.wg
 obtain ⟨s, e', hs, gs, ls, wls⟩ := YK (.lst (cl.map .int)) (.lst (ws.map .str)) (.lst (ns.map .str)) z (0 + cl.length + 1) (by omega) 3000 l (by omega) (by omega) hrow.ne hrow.hg hrow.gd (by omega) (by omega) (by omega)
 refine ⟨s, ?_, gs, ls, wls⟩
 simp only [cK, G9, JC, ll, e3, e4, ea, p, ef, e']
theorem UT (ns : List Int) (a b : Int) (k : Nat) (hk : ∀ n : Nat, HT.sIx n n (some b) - HT.sIx n 0 (some a) ≤ k) : ∃ xs : List Int, slD (.lst (ns.map .int)) (some a) (some b) = some (.lst (xs.map .int)) ∧ xs.length ≤ k := by
 refine ⟨cutD ns (some a) (some b), ?_, ?_⟩
 ·show some (D.lst (cutD (ns.map D.int) (some a) (some b))) = _
  unfold cutD
  rw [List.length_map, List.map_take, List.map_drop]
 ·unfold cutD
  rw [List.length_take]
  have := hk ns.length
  omega
theorem sx40 (n : Nat) : HT.sIx n n (some 40) - HT.sIx n 0 (some 3) ≤ 37 := by
 unfold HT.sIx
 simp
 omega
theorem sx16 (n : Nat) : HT.sIx n n (some 16) - HT.sIx n 0 (some 2) ≤ 14 := by
 unfold HT.sIx
 simp
 omega
theorem Yq : ∀ ns : List Int, ns.length ≤ 63 → T5 [.lst (ns.map .int)] = some (.bl true) := by
 intro ns hl
 obtain ⟨i0, c0⟩ := R_ ns 0
 obtain ⟨i1, c1⟩ := R_ ns 1
 obtain ⟨i2, c2⟩ := R_ ns 2
 obtain ⟨ws, ew, lw, hws⟩ := YG i0
 obtain ⟨xs, en, ln, hxs⟩ := YD i1
 obtain ⟨cl, ec, cl37⟩ := UT ns 3 40 37 sx40
 obtain ⟨vs, ev, vl⟩ := UT ns 2 16 14 sx16
 obtain ⟨s, e1, gs, ls, wls⟩ := Yp cl cl37 ws xs ln hws hxs
 have b := fK s gs
 have S : Sp (txt s) 1200 74 := ⟨ls, b.pl, by have := b.ct 0; omega⟩
 have c0 : Dk [.lst (ns.map .int), .int 0] = some (.int i0) := c0
 have c1 : Dk [.lst (ns.map .int), .int 1] = some (.int i1) := c1
 have c2 : Dk [.lst (ns.map .int), .int 2] = some (.int i2) := c2
 have a3 := XD (i := [D.int 5, .int 8]) (j := vs.map .int) (by simp only [List.length_cons, List.length_nil, List.length_map]; omega)
 obtain ⟨ys, hys⟩ : ∃ ys : List Int, ys = 5 :: 8 :: vs := ⟨_, rfl⟩
 have e3 : [D.int 5, .int 8] ++ vs.map .int = ys.map .int := by rw [hys]; rfl
 rw [e3] at a3
 obtain ⟨ρ', ef, j, z5, z6, rfl⟩ := Kv (b := tgB (J0 5) R3) (ds := ys.map D.int) (ρ := [.fz (.lst (ns.map .int)), .fz (.lst (ws.map .str)), .fz (.lst (xs.map .str)), .fz (.str (txt s)), .fz (.int i2), .un, .un])
  (P := fun _ ρ => ∃ (j : Int) (z5 z6 : Slot), ρ = [.fz (.lst (ns.map .int)), .fz (.lst (ws.map .str)), .fz (.lst (xs.map .str)), .fz (.str (txt s)), .fz (.int j), z5, z6]) 0 ⟨i2, .un, .un, rfl⟩ (by
   rintro k d ρ hd ⟨j, z5, z6, rfl⟩
   obtain ⟨i, _, rfl⟩ := List.mem_map.mp (List.mem_of_getElem? hd)
   obtain ⟨u, eu, Su⟩ := Pa S (by decide) i
   obtain ⟨v, ev, Sv⟩ := Pa Su (by decide) j
   have g1 := Su.good (by decide) (by decide)
   have g2 := Sv.good (by decide) (by decide)
   refine ⟨[.fz (.lst (ns.map .int)), .fz (.lst (ws.map .str)), .fz (.lst (xs.map .str)), .fz (.str (txt s)), .fz (.int i), .fz (.int i), .fz (.str u)], ?_, i, _, _, rfl⟩
   rw [e_tg, Og, Te]
   simp only [cK, R3, eu, ev, g1, g2])
 have g := S.good (by decide) (by decide)
 have p1 := pr1 s
 simp only [cK, T5, X_, c0, c1, c2, ew, en, ec, e1, p1, ev, a3, ef, g]
end K23
end
open PySem PySem.W PyProof.Rows
theorem L2.both_map {α β γ : Type} {o : Option α} {f : α → β} {g : α → γ} {a : β} {b : γ} (h1 : o.map f = some a) (h2 : o.map g = some b) : o.map (fun s => (f s, g s)) = some (a, b) := by
 cases o with
 | none => cases h1
 | some x => cases h1; cases h2; rfl
theorem L2.head_at {r : OpenRow} {q : Program} {loose : List Str} {d : DefRec} {kwd : List (Str × Expr)} {N : Nat} (H : Hook)
  (l1 : ∀ w : World, (openEnds treeTable r.prog w N).map (fun s => openSeen q loose (importedModules r.prog.main.body) (fun s => xlAt q [] s && recOk r.records s) true s) = some (openGood q loose))
  (l2 : ∀ w : World, (openEnds treeTable r.prog w N).map H.obs = some (H.val w))
  (e1 : defOf q r.name = some (d, kwd)) (e2 : r.prog.theDef r.name = some (d.params, d.body, d.scope)) (e3 : kwWritten? d.params.kwonlyargs d.params.kw_defaults = some kwd)
  (e4 : (!r.writes || r.records.isEmpty) = true) (e5 : r.wellSaid = true) (e6 : (chainsOk q && opensWell r.prog && (frees r.toRowW && r.within.isEmpty)) = true) (e7 : r.prog.bare) (e8 : r.toRowW.promised)
  (e9 : WalkO q loose (XL q []) H.says r.toRowW d kwd fun f vs => PySem.call f vs) : r.Holds :=
 holds_open (XP := XL q []) (fun w => L2.both_map (l1 w) (l2 w)) H.of H.keeps (fun s e => xl_of s (Bool.and_eq_true_iff.mp e).1) XL.keeps e1 e2 e3 (fun _ e => recFacts_of (Bool.and_eq_true_iff.mp e).2) e4 e5 e6 e7 e8 e9
set_option maxRecDepth 100000 in
set_option maxHeartbeats 0 in
theorem PySem.Challenge.cw_twinrounds_k23_whole_spoiled_holds : PySem.Challenge.rw_twinrounds_k23_whole_spoiled.Holds := by
 w_on; o_law; refine L2.head_at (q := K23.vw) (loose := []) (N := 6000) K23.hook K23.look1 K23.look2 (by rfl) (by rfl) (by rfl) (by rfl) (by assumption) (by decide +kernel) ⟨rfl, rfl, rfl, rfl, rfl, by decide +kernel⟩ ?_ ?_
 ·w_witness2
 unfold K23.hook
 k_fill
 refine L2.ZK (l := PySem.Challenge.rw_twinrounds_k23_whole_spoiled) (n := 63) (k := 217) (x := "_law_script") (CX := fun _ => L2.CX0) (sp := fun w => K23.bQ _) rfl (by decide) rfl ⟨rfl, by decide, by decide⟩ (fun w h Y => PySem.W.kIn_of Y) ?F (fun _ _ a ns hl _ hS => ⟨a, ns, rfl, hS, hl, fun _ => rfl⟩) fun _ _ _ _ _ z => z
 case F =>
  intro w mg fa h KX G hmg
  have TT : ∃ C_Reader : Addr, ∃ l : List (Str × Addr), ∃ T : K23.Tx (K23.gx (L2.KOf KX) C_Reader l) mg, ∀ (s : Shared) (u : Value), BindsTo s T.x_law.fd ⟨[u], []⟩ [("_law_script", u)] := by
   dsimp only [L2.KOf]
   refine' ⟨_, [("NoSaying", _)], { C_Reader := _, gc_Reader := PV.du, cl_Reader := (PV.cls KX ?pg_Reader ?hd_Reader ?po_Reader ?sa_Reader :), mC_Reader := PySem.W.mg_of KX G ?aC_Reader, x__law_words := (PV.dx KX G ?a0 ?l0 ?c0 ?k0 ?b0 :), x__law_names := (PV.dx KX G ?a1 ?l1 ?c1 ?k1 ?b1 :), x__law_cell := (PV.dx KX G ?a2 ?l2 ?c2 ?k2 ?b2 :), x__law_letter := (PV.dx KX G ?a3 ?l3 ?c3 ?k3 ?b3 :), x__law_plain := (PV.dx KX G ?a4 ?l4 ?c4 ?k4 ?b4 :), x__law_joined := (PV.dx KX G ?a5 ?l5 ?c5 ?k5 ?b5 :), x__law_read := (PV.dx KX G ?a6 ?l6 ?c6 ?k6 ?b6 :), x_Reader___init__ := (PV.ix KX ?mk_Reader ?kc_Reader ?a7 ?i7 ?l7 ?c7 ?k7 ?b7 :), x_Reader_is_ahead := (PV.mx KX ?a8 ?i8 ?l8 ?c8 ?k8 ?b8 :), x_Reader_is_at_letter := (PV.mx KX ?a9 ?i9 ?l9 ?c9 ?k9 ?b9 :), x_Reader_take_letters := (PV.mx KX ?a10 ?i10 ?l10 ?c10 ?k10 ?b10 :), x_Reader_take := (PV.mx KX ?a11 ?i11 ?l11 ?c11 ?k11 ?b11 :), x_read_both_or_either := (PV.dx KX G ?a12 ?l12 ?c12 ?k12 ?b12 :), x_Reader_take_name := (PV.mx KX ?a13 ?i13 ?l13 ?c13 ?k13 ?b13 :), x_is_word := (PV.dx KX G ?a14 ?l14 ?c14 ?k14 ?b14 :), x_read_mark_or_tie := (PV.dx KX G ?a15 ?l15 ?c15 ?k15 ?b15 :), x_read_same := (PV.dx KX G ?a16 ?l16 ?c16 ?k16 ?b16 :), x_read_some_or_all := (PV.dx KX G ?a17 ?l17 ?c17 ?k17 ?b17 :), x_read_saying := (PV.dx KX G ?a18 ?l18 ?c18 ?k18 ?b18 :), x_read := (PV.dx KX G ?a19 ?l19 ?c19 ?k19 ?b19 :), x__law_good := (PV.dx KX G ?a20 ?l20 ?c20 ?k20 ?b20 :), x__law_shown := (PV.dx KX G ?a21 ?l21 ?c21 ?k21 ?b21 :), x__law_put := (PV.dx KX G ?a22 ?l22 ?c22 ?k22 ?b22 :), x__law_atom := (PV.dx KX G ?a23 ?l23 ?c23 ?k23 ?b23 :), x__law_grown := (PV.dx KX G ?a24 ?l24 ?c24 ?k24 ?b24 :), x__law_whole := (PV.dx KX G ?a25 ?l25 ?c25 ?k25 ?b25 :), x__law_sign := (PV.dx KX G ?a26 ?l26 ?c26 ?k26 ?b26 :), x__law_spoiled := (PV.dx KX G ?a27 ?l27 ?c27 ?k27 ?b27 :), x_law := (PV.dx KX G ?a28 ?l28 ?c28 ?k28 ?b28 :), fl_line := (PV.X4 KX (PV.cls KX ?pg_Reader ?hd_Reader ?po_Reader ?sa_Reader) ?n_Reader_line :), fl_at := (PV.X4 KX (PV.cls KX ?pg_Reader ?hd_Reader ?po_Reader ?sa_Reader) ?n_Reader_at :), z_all := PySem.W.mg_none_of KX G ?z_all, z_isinstance := PySem.W.mg_none_of KX G ?z_isinstance, z_len := PySem.W.mg_none_of KX G ?z_len, z_range := PySem.W.mg_none_of KX G ?z_range, z_tuple := PySem.W.mg_none_of KX G ?z_tuple, s_LETTERS := (PV.sx (f := (.str "abcdefghijklmnopqrstuvwxyz")) KX G ?a_LETTERS :), s_AND := (PV.sx (f := (.str " and ")) KX G ?a_AND :), s_OR := (PV.sx (f := (.str " or ")) KX G ?a_OR :), s_MOST_LETTERS := (PV.sx (f := (.int 8)) KX G ?a_MOST_LETTERS :), c_KEPT_TEXTS := (PV.kx2 (xs := ["not", "and", "or", "some", "all"]) KX G ?a_KEPT_TEXTS ?l_KEPT_TEXTS ?h_KEPT_TEXTS ?v_KEPT_TEXTS :), c_BINDERS := (PV.kx2 (xs := ["some", "all"]) KX G ?a_BINDERS ?l_BINDERS ?h_BINDERS ?v_BINDERS :), r := (PV.rx KX G ?rA ?rE ?r1 ?r2 ?r3 :), xt := (PV.dw KX ?xt :), e_NoSaying := (PV.xx KX G ?eA_NoSaying ?eg_NoSaying ⟨?x1_NoSaying, ?x2_NoSaying, ?x3_NoSaying, ?x4_NoSaying, ?x5_NoSaying⟩ ?hi_NoSaying ?ii_NoSaying ?kp_NoSaying ?na_NoSaying ?el_NoSaying ?ec_NoSaying ?ek_NoSaying ?eb_NoSaying :), nf_line := (PV.dz KX ?nf_line :) }, ?bt⟩
   case aC_Reader | pg_Reader | hd_Reader | po_Reader | sa_Reader | mk_Reader | kc_Reader | n_Reader_line | n_Reader_at | a0 | l0 | c0 | k0 | a1 | l1 | c1 | k1 | a2 | l2 | c2 | k2 | a3 | l3 | c3 | k3 | a4 | l4 | c4 | k4 | a5 | l5 | c5 | k5 | a6 | l6 | c6 | k6 | a7 | i7 | l7 | c7 | k7 | a8 | i8 | l8 | c8 | k8 | a9 | i9 | l9 | c9 | k9 | a10 | i10 | l10 | c10 | k10 | a11 | i11 | l11 | c11 | k11 | a12 | l12 | c12 | k12 | a13 | i13 | l13 | c13 | k13 | a14 | l14 | c14 | k14 | a15 | l15 | c15 | k15 | a16 | l16 | c16 | k16 | a17 | l17 | c17 | k17 | a18 | l18 | c18 | k18 | a19 | l19 | c19 | k19 | a20 | l20 | c20 | k20 | a21 | l21 | c21 | k21 | a22 | l22 | c22 | k22 | a23 | l23 | c23 | k23 | a24 | l24 | c24 | k24 | a25 | l25 | c25 | k25 | a26 | l26 | c26 | k26 | a27 | l27 | c27 | k27 | a28 | l28 | c28 | k28 | z_all | z_isinstance | z_len | z_range | z_tuple | a_LETTERS | a_AND | a_OR | a_MOST_LETTERS | a_KEPT_TEXTS | l_KEPT_TEXTS | a_BINDERS | l_BINDERS | rA | eA_NoSaying | hi_NoSaying | ii_NoSaying | kp_NoSaying | el_NoSaying | ec_NoSaying | ek_NoSaying => k_is
   case b0 | b1 | b9 | b10 | b12 | b13 | b14 | b18 | b19 | b20 | b26 | b28 => exact fun _ _ _ _ _ _ us hl => match us, hl with | [_], _ => rfl
   case b2 | b3 | b4 | b5 | b6 | b7 | b8 | b11 | b15 | b16 | b17 | b21 | b27 | eb_NoSaying => exact fun _ _ _ _ _ _ us hl => match us, hl with | [_, _], _ => rfl
   case b22 | b25 => exact fun _ _ _ _ _ _ us hl => match us, hl with | [_, _, _], _ => rfl
   case b23 | b24 => exact fun _ _ _ _ _ _ us hl => match us, hl with | [_, _, _, _], _ => rfl
   case h_KEPT_TEXTS => decide
   case v_KEPT_TEXTS => exact .cons ⟨_, rfl⟩ (.cons ⟨_, rfl⟩ (.cons ⟨_, rfl⟩ (.cons ⟨_, rfl⟩ (.cons ⟨_, rfl⟩ (.nil)))))
   case h_BINDERS => decide
   case v_BINDERS => exact .cons ⟨_, rfl⟩ (.cons ⟨_, rfl⟩ (.nil))
   case eg_NoSaying => rfl
   case rE | r1 | r2 | r3 | x1_NoSaying | x2_NoSaying | x3_NoSaying | x4_NoSaying | x5_NoSaying | na_NoSaying => kernel_rfl
   case xt => exact fun p hp => by (rcases List.mem_cons.mp hp with rfl | hp; (exact ⟨⟨by kernel_rfl, by kernel_rfl, by kernel_rfl, by kernel_rfl, by kernel_rfl⟩, ⟨by kernel_rfl, by kernel_rfl, by kernel_rfl⟩⟩); cases hp)
   case nf_line => exact fun p hp => by (rcases List.mem_cons.mp hp with rfl | hp; (exact by kernel_rfl); cases hp)
   case bt => exact fun s u => .of_eq rfl
  obtain ⟨C_Reader, l, T, e1⟩ := TT
  have e0 : fa = T.x_law.f := by
   have q := hmg.symm.trans T.x_law.m
   cases q
   rfl
  subst e0
  exact ⟨T.x_law.fd, e1, fun base kb nb => (K23.d7 (w := w) (base := base) T).imp (K23.d9 K23.Yq)⟩
