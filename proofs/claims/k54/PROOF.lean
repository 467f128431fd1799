import PyProof.Rows.All
import Wide.All
import OpenK.AllK
import Wide.FinOn
import Lean
import PyProof.EqAt
import PyProof.EqKinds
import PyProof.TupleCall
import PyProof.EqLayable
import PyProof.StationsW
import PyProof.NsDelKeeps
import PyProof.ExcArgsOwn
import PyProof.ExcAttrAll.ValueError
import PyProof.ZipIter
import PyProof.EnumFor
import PyProof.EnumStmt
import PyProof.EnumMake
import PyProof.ConsumeWalk
import PyProof.Cells
import PyProof.CompUse
import PyProof.DictIter
import PyProof.DictWalks
import PyProof.CollectWalk
import PyProof.WalksS
import PyProof.DictRoadsH
import KE.KSortTup
import PyProof.P3In
import KE.KRevSl
import PyProof.P3Statements
import PySem.Challenge.RW_swaprest_k54_least_trees
set_option Elab.async false
set_option linter.all false
set_option maxRecDepth 100000
set_option maxHeartbeats 4000000
namespace L2
open PySem PySem.Spec PyProof.Rows
abbrev Key := Sum Int Str
def zj9 : Key -> Value -> Bool
 | .inl k, v => Value.isInt k v
 | .inr x, v => Value.isStrOf x v
def zws (w : World) : Key -> Int
 | .inl k => hashInt k
 | .inr x => hashStr w x
theorem za7 : ∀ {k : Key} {v : Value}, zj9 k v = true -> (∃ i t, k = Sum.inl i /\ v = Value.int i t) \/ (∃ x t, k = Sum.inr x /\ v = Value.str x t)
 | .inl i, v, h => by
  obtain ⟨t, e⟩ := Value.isInt_shape (k := i) (v := v) h
  exact .inl ⟨i, t, rfl, e⟩
 | .inr x, v, h => by
  obtain ⟨t, e⟩ := Value.isStrOf_shape (x := x) (v := v) h
  exact .inr ⟨x, t, rfl, e⟩
theorem znn (i : Int) (t : Tok) : zj9 (.inl i) (.int i t) = true := by simp [zj9, Value.isInt]
theorem znm (x : Str) (t : Tok) : zj9 (.inr x) (.str x t) = true := by simp [zj9, Value.isStrOf]
theorem zsD (a b : Int) : decide ((Sum.inl a : Key) = Sum.inl b) = (a == b) := by
 by_cases e : a = b
 ·subst e; simp
 ·have h : ¬ (Sum.inl a : Key) = Sum.inl b := fun q => e (Sum.inl.inj q)
  rw [decide_eq_false h]
  exact (beq_eq_false_iff_ne.mpr e).symm
theorem zsz (a b : Str) : decide ((Sum.inr a : Key) = Sum.inr b) = decide (a = b) := by
 by_cases e : a = b
 ·subst e; simp
 ·have h : ¬ (Sum.inr a : Key) = Sum.inr b := fun q => e (Sum.inr.inj q)
  rw [decide_eq_false h, decide_eq_false e]
theorem zsC (a : Int) (b : Str) : decide ((Sum.inl a : Key) = Sum.inr b) = false := decide_eq_false (fun q => nomatch q)
theorem zsA (a : Str) (b : Int) : decide ((Sum.inr a : Key) = Sum.inl b) = false := decide_eq_false (fun q => nomatch q)
def zaS (prog : Program) (w : World) : PySem.KeyKind prog w Key where
 is := zj9
 hash := zws w
 inj := fun v a b ha hb => by
  rcases za7 ha with ⟨i, t, rfl, rfl⟩ | ⟨x, t, rfl, rfl⟩
  ·rcases za7 hb with ⟨j, u, rfl, e⟩ | ⟨y, u, rfl, e⟩
   ·injection e with e1 _; rw [e1]
   ·exact nomatch e
  ·rcases za7 hb with ⟨j, u, rfl, e⟩ | ⟨y, u, rfl, e⟩
   ·exact nomatch e
   ·injection e with e1 _; rw [e1]
 byValue := fun k v h => by
  rcases za7 h with ⟨i, t, rfl, rfl⟩ | ⟨x, t, rfl, rfl⟩ <;> rfl
 pyHash := fun hv h => by
  rcases za7 hv with ⟨i, t, rfl, rfl⟩ | ⟨x, t, rfl, rfl⟩
  ·exact wpAny_pyHash_int h
  ·exact wpAny_pyHash_str h
 eqBool := fun hu hv h => by
  rcases za7 hu with ⟨i, t, rfl, rfl⟩ | ⟨x, t, rfl, rfl⟩
  ·rcases za7 hv with ⟨j, u, rfl, rfl⟩ | ⟨y, u, rfl, rfl⟩
   ·rw [zsD] at h; exact wpAny_eqBool_int h
   ·rw [zsC] at h; exact SeqAt.EqAt.int_str i t y u _ _ _ _ h
  ·rcases za7 hv with ⟨j, u, rfl, rfl⟩ | ⟨y, u, rfl, rfl⟩
   ·rw [zsA] at h; exact SeqAt.EqAt.str_int x t j u _ _ _ _ h
   ·rw [zsz] at h; exact wpAny_eqBool_str h
 «strs» := fun k x t v h => by
  rcases za7 h with ⟨i, u, rfl, e⟩ | ⟨y, u, rfl, e⟩
  ·exact nomatch e
  ·injection e with e1 _
   subst e1
   cases v <;> rfl
theorem zj3 (prog : Program) (w : World) (i : Int) (t : Tok) : (zaS prog w).is (.inl i) (.int i t) = true := znn i t
theorem zj2 (prog : Program) (w : World) (x : Str) (t : Tok) : (zaS prog w).is (.inr x) (.str x t) = true := znm x t
end L2
namespace L2
open PySem PySem.Spec PyProof.Rows
inductive V where
 | non | bl (b : Bool) | int (i : Int) | str (x : Str) | byt (b : Array UInt8) | flt (b : UInt64) | ref (a : Addr) | ty (n : String)
 deriving DecidableEq
def RelV : V -> Value -> Prop
 | .non, u => u = Value.none
 | .bl b, u => u = Value.bool b
 | .int i, u => ∃ t, u = Value.int i t
 | .str x, u => ∃ t, u = Value.str x t
 | .byt b, u => ∃ t, u = Value.bytes b t
 | .flt b, u => ∃ t, u = Value.float b t
 | .ref a, u => u = Value.ref a
 | .ty n, u => u = Value.type n
abbrev Vals : List V -> List Value -> Prop := Paired RelV
theorem Vals.length {xs : List V} {us : List Value} (r : Vals xs us) : xs.length = us.length := Paired.length r
theorem Vals.get : ∀ {xs : List V} {us : List Value} {i : Nat} {x : V}, Vals xs us -> xs[i]? = some x -> ∃ u, us[i]? = some u /\ RelV x u
 | _, _, _, _, .nil, e => by simp at e
 | _, _, 0, _, .cons r _, e => by simp at e; subst e; exact ⟨_, rfl, r⟩
 | _, _, i + 1, x, .cons _ t, e => by
  obtain ⟨u, h1, h2⟩ := Vals.get (i := i) (x := x) t (by simpa using e)
  exact ⟨u, by simpa using h1, h2⟩
theorem Vals.set {x : V} {u : Value} (r : RelV x u) : ∀ {xs : List V} {us : List Value} (i : Nat), Vals xs us -> Vals (xs.set i x) (us.set i u)
 | _, _, _, .nil => .nil
 | _, _, 0, .cons _ t => .cons r t
 | _, _, i + 1, .cons q t => .cons q (Vals.set r i t)
theorem Vals.append : ∀ {xs ys : List V} {us ws : List Value}, Vals xs us -> Vals ys ws -> Vals (xs ++ ys) (us ++ ws)
 | _, _, _, _, .nil, s => s
 | _, _, _, _, .cons r t, s => .cons r (Vals.append t s)
theorem Vals.take : ∀ {xs : List V} {us : List Value} (n : Nat), Vals xs us -> Vals (xs.take n) (us.take n)
 | _, _, 0, _ => .nil
 | _, _, _ + 1, .nil => .nil
 | _, _, n + 1, .cons r t => .cons r (Vals.take n t)
theorem Vals.drop : ∀ {xs : List V} {us : List Value} (n : Nat), Vals xs us -> Vals (xs.drop n) (us.drop n)
 | _, _, 0, r => r
 | _, _, _ + 1, .nil => .nil
 | _, _, n + 1, .cons _ t => Vals.drop n t
def zl6 : Option V -> Option Value -> Prop
 | some v, some u => RelV v u
 | none, none => True
 | _, _ => False
def KV {κ : Type} : List (κ × V) -> List (κ × Value) -> Prop := Paired fun (p : κ × V) (q : κ × Value) => p.1 = q.1 /\ RelV p.2 q.2
def kV : Key -> V
 | .inl i => .int i
 | .inr x => .str x
inductive HO where
 /-- a list -/
 | lst (xs : List V)
 /-- a tuple (never changes) -/
 | tup (xs : List V)
 /-- a dict whose keys are ints and texts; one whose keys are tuples of ints and texts (the empty one is both) -/
 | dK (kvs : List (Key × V)) | dT (kvs : List (List Key × V))
 /-- a set of ints: its members, its size -/
 | set (S : Int -> Bool) (n : Nat)
 /-- an instance of the class at C, its dict at dx, its attributes -/
 | ins (C dx : Addr) (fs : List (Str × V))
 /-- the dict of the instance at x -/
 | own (x : Addr)
 /-- the dict of an exception -/
 | xd (fs : List (Str × V))
 /-- a bound method, f of x -/
 | met (f x : Addr)
 /-- a range object lo, lo + 1, .. below hi -/
 | rng (lo hi : Int)
 /-- a thing that is known to the object (the script; a dict while a loop walks it): read, never written while it is so -/
 | frz (o : Obj) (u : HO)
 /-- a code object's table -/
 | tbl (ps : Array Value)
 /-- any other thing, by what is true of its one object (a def of one's own: SetO a S n := HO.ext fun h => ..) -/
 | ext (φ : Heap -> Prop)
abbrev Hp := Addr -> Option HO
def upd (H : Hp) (a : Addr) (o : HO) : Hp := fun b => if b = a then some o else H b
theorem zau {H : Hp} {a : Addr} {o : HO} : upd H a o a = some o := by unfold upd; rw [if_pos rfl]
theorem zaE {H : Hp} {a b : Addr} {o : HO} (h : b ≠ a) : upd H a o b = H b := by unfold upd; rw [if_neg h]
theorem zgt {H : Hp} {a : Addr} {o u : HO} : upd (upd H a o) a u = upd H a u := by
 funext b; unfold upd; split <;> rfl
theorem zhl {H : Hp} {a b : Addr} {o u : HO} (h : H a = some o) (h' : H b = some u) (d : o ≠ u) : a ≠ b := by
 intro e; subst e; rw [h] at h'; exact d (Option.some.inj h')
theorem zb5 {H : Hp} {a b : Addr} {o : HO} (h : H a = some o) (h' : H b = none) : a ≠ b := by
 intro e; subst e; rw [h] at h'; cases h'
def TAt (H : Hp) (b : Addr) (xs : List V) : Prop := H b = some (.tup xs) \/ ∃ o, H b = some (.frz o (.tup xs))
theorem TAt.upd {H : Hp} {a b : Addr} {u : HO} {xs : List V} (q : TAt H b xs) (n1 : ∀ ys, H b = some (.tup ys) -> b ≠ a) (n2 : ∀ o ys, H b = some (.frz o (.tup ys)) -> b ≠ a) : TAt (upd H a u) b xs := by
 rcases q with q | ⟨o, q⟩
 ·left; rw [zaE (n1 _ q)]; exact q
 ·right; exact ⟨o, by rw [zaE (n2 _ _ q)]; exact q⟩
section
variable (P : Program) (w : World)
def zbV (H : Hp) (h : Heap) (a : Addr) : HO -> Prop
 | .lst xs => xs.length <= sizeLine /\ ∃ (its : List Value) (n : Nat), Vals xs its /\ h.get? a = some { cls := .type "list", data := .seq its.toArray n }
 | .tup xs => xs.length <= sizeLine /\ ∃ its : List Value, Vals xs its /\ IsTup h a its.toArray
 | .dK kvs => kvs.length <= sizeLine /\ (a == sysModules) = false /\ ∃ vs, KV kvs vs /\ h.DictOf (zaS P w) a vs
 | .dT kvs => kvs.length <= sizeLine /\ (a == sysModules) = false /\ ∃ xs : List (List Key × Addr × Value),
   Paired (fun (p : List Key × V) (q : List Key × Addr × Value) => p.1 = q.1 /\ TAt H q.2.1 (p.1.map kV) /\ RelV p.2 q.2.2) kvs xs /\
   ∃ o es ep, h.get? a = some o /\ o.ExactDict /\ o.data = .dict es ep /\ es.toList = xs.map (entryOfKey (tupleKind (zaS P w))) /\ (xs.map (·.1)).Nodup
 | .set S n => h.SetOf (intKind P w) a S n
 | .ins C dx fs => H dx = some (.own a) /\ fs.length <= 1000 /\ dx ≠ a /\ h.get? a = some (PySem.W.instObj C dx) /\
   ∃ mA, h.Ns1 dx mA /\ (∀ f, zl6 (fs.lookup f) (mA f)) /\ PySem.Within mA (fs.map (·.1))
 | .own _ => ∃ o, h.get? a = some o
 | .xd fs => ∃ mA, h.Ns1 a mA /\ ∀ f, zl6 (fs.lookup f) (mA f)
 | .rng lo hi => ∃ t u v, h.get? a = some { cls := .type "range", data := .fields #[.int lo t, .int hi u, .int 1 v] }
 | .frz o u => h.get? a = some o /\ zbV H h a u
 | .tbl ps => h.get? a = some { cls := .none, data := .fields ps }
 | .met f x => h.get? a = some (PySem.W.methodObj (.ref f) (.ref x))
 | .ext φ => φ h /\ (∃ o, h.get? a = some o) /\ ∀ h1 h2 : Heap, φ h1 -> (∀ o, h1.get? a = some o -> h2.get? a = some o) -> φ h2
def HOk (H : Hp) (h : Heap) : Prop := ∀ a o, H a = some o -> zbV P w H h a o
end
section
variable {P : Program} {w : World} {H H' : Hp} {h h' : Heap} {a : Addr} {o : HO}
theorem zbV.lt (x : zbV P w H h a o) : a < h.objs.size := by
 cases o with
 | lst xs => obtain ⟨_, _, _, _, e⟩ := x; exact Heap.lt_size e
 | tup xs => obtain ⟨_, _, _, p⟩ := x; exact p.lt
 | dK kvs => obtain ⟨_, _, _, _, o, _, _, e, _⟩ := x; exact Heap.lt_size e
 | dT kvs => obtain ⟨_, _, _, _, o, _, _, e, _⟩ := x; exact Heap.lt_size e
 | set S n => obtain ⟨o, _, _, _, e, _⟩ := x; exact Heap.lt_size e
 | ins C dx fs => obtain ⟨_, _, _, e, _⟩ := x; exact Heap.lt_size e
 | own y => obtain ⟨_, e⟩ := x; exact Heap.lt_size e
 | xd fs => obtain ⟨_, ⟨_, _, _, e, _⟩, _⟩ := x; exact Heap.lt_size e
 | rng lo hi => obtain ⟨_, _, _, e⟩ := x; exact Heap.lt_size e
 | frz ob u => obtain ⟨e, _⟩ := x; exact Heap.lt_size e
 | tbl ps => exact Heap.lt_size (show h.get? a = some _ from x)
 | met f y => exact Heap.lt_size (show h.get? a = some _ from x)
 | ext φ => obtain ⟨_, ⟨_, e⟩, _⟩ := x; exact Heap.lt_size e
theorem Paired.zu0 {α β : Type} {F G : α -> β -> Prop} : ∀ {l₁ : List α} {l₂ : List β}, Paired F l₁ l₂ -> (∀ a b, F a b -> G a b) -> Paired G l₁ l₂
 | _, _, .nil, _ => .nil
 | _, _, .cons r t, f => .cons (f _ _ r) (Paired.zu0 t f)
theorem zbV.stay (x : zbV P w H h a o) (k : ∀ b u, (b = a \/ H b = some (.own a)) -> h.get? b = some u -> h'.get? b = some u)
  (ho : ∀ b, H b = some (.own a) -> H' b = some (.own a)) (ht : ∀ b xs, TAt H b xs -> TAt H' b xs) : zbV P w H' h' a o := by
 induction o with
 | lst xs => obtain ⟨z, its, n, r, e⟩ := x; exact ⟨z, its, n, r, k _ _ (.inl rfl) e⟩
 | tup xs => obtain ⟨z, its, r, ob, e, c⟩ := x; exact ⟨z, its, r, ob, k _ _ (.inl rfl) e, c⟩
 | dK kvs => obtain ⟨z, y, vs, r, ob, es, ep, e, c⟩ := x; exact ⟨z, y, vs, r, ob, es, ep, k _ _ (.inl rfl) e, c⟩
 | dT kvs =>
  obtain ⟨z, y, xs, r, ob, es, ep, e, c⟩ := x
  exact ⟨z, y, xs, Paired.zu0 r fun p q z => ⟨z.1, ht _ _ z.2.1, z.2.2⟩, ob, es, ep, k _ _ (.inl rfl) e, c⟩
 | set S n => obtain ⟨ob, es, ep, t, e, c⟩ := x; exact ⟨ob, es, ep, t, k _ _ (.inl rfl) e, c⟩
 | ins C dx fs =>
  obtain ⟨d, z, ne, e, mA, ⟨od, es, ep, e2, c⟩, r⟩ := x
  exact ⟨ho _ d, z, ne, k _ _ (.inl rfl) e, mA, ⟨od, es, ep, k _ _ (.inr d) e2, c⟩, r⟩
 | own y => obtain ⟨ob, e⟩ := x; exact ⟨ob, k _ _ (.inl rfl) e⟩
 | xd fs => obtain ⟨mA, ⟨od, es, ep, e, c⟩, r⟩ := x; exact ⟨mA, ⟨od, es, ep, k _ _ (.inl rfl) e, c⟩, r⟩
 | rng lo hi => obtain ⟨t, u, v, e⟩ := x; exact ⟨t, u, v, k _ _ (.inl rfl) e⟩
 | frz ob u ih => obtain ⟨e, q⟩ := x; exact ⟨k _ _ (.inl rfl) e, ih q⟩
 | tbl ps =>
  have e : h.get? a = some { cls := .none, data := .fields ps } := x
  show h'.get? a = some { cls := .none, data := .fields ps }
  exact k a _ (.inl rfl) e
 | met f y =>
  have e : h.get? a = some (PySem.W.methodObj (.ref f) (.ref y)) := x
  show h'.get? a = some (PySem.W.methodObj (.ref f) (.ref y))
  exact k a _ (.inl rfl) e
 | ext φ => obtain ⟨p, ⟨o, e⟩, st⟩ := x; exact ⟨st _ _ p fun o q => k _ _ (.inl rfl) q, ⟨o, k _ _ (.inl rfl) e⟩, st⟩
theorem HOk.lt (x : HOk P w H h) (e : H a = some o) : a < h.objs.size := (x a o e).lt
theorem HOk.fresh (x : HOk P w H h) (e : h.objs.size <= a) : H a = none := by
 cases q : H a with
 | none => rfl
 | some u => exact absurd (Nat.lt_of_lt_of_le (x.lt q) e) (Nat.lt_irrefl _)
theorem HOk.kept (x : HOk P w H h) (k : ∀ b u, h.get? b = some u -> h'.get? b = some u) : HOk P w H h' := fun a o e =>
 (x a o e).stay (fun b u _ q => k b u q) (fun _ q => q) fun _ _ q => q
theorem HOk.laid (x : HOk P w H h) (k : ∀ b u, h.get? b = some u -> h'.get? b = some u) (hp : h.objs.size <= a) (new : zbV P w (upd H a o) h' a o) : HOk P w (upd H a o) h' := fun b u e => by
 have hn := x.fresh hp
 by_cases hb : b = a
 ·subst hb; rw [zau] at e; cases e; exact new
 ·rw [zaE hb] at e
  exact (x b u e).stay (fun c v _ q => k c v q) (fun c q => by rw [zaE (zb5 q hn)]; exact q) fun c xs q => q.upd (fun _ r => zb5 r hn) fun _ _ r => zb5 r hn
end
def Rd (H : Hp) (a : Addr) (u : HO) : Prop := H a = some u \/ ∃ o, H a = some (.frz o u)
theorem Rd.ok {P : Program} {w : World} {H : Hp} {h : Heap} {a : Addr} {u : HO} (r : Rd H a u) (x : HOk P w H h) : zbV P w H h a u := by
 rcases r with r | ⟨o, r⟩
 ·exact x a u r
 ·obtain ⟨_, q⟩ := x a _ r
  exact q
def Mut : Option HO -> Prop
 | some (.lst _) => True
 | some (.dK _) => True
 | some (.dT _) => True
 | some (.set _ _) => True
 | some (.ins _ _ _) => True
 | some (.ext _) => True
 | _ => False
section
variable {P : Program} {w : World} {H : Hp} {h h' : Heap} {x e : Addr} {o' : HO}
theorem HOk.write (ok : HOk P w H h) (mu : Mut (H x)) (he : e = x \/ H e = some (.own x)) (k : ∀ b u, b ≠ e -> h.get? b = some u -> h'.get? b = some u) (heo : ∃ u, h'.get? e = some u)
  (new : zbV P w (upd H x o') h' x o') : HOk P w (upd H x o') h' := fun b u q => by
 have nown : ∀ c y, H c = some (.own y) -> c ≠ x := fun c y r z => by subst z; rw [r] at mu; exact mu
 have ntup : ∀ c xs, H c = some (.tup xs) -> c ≠ x := fun c xs r z => by subst z; rw [r] at mu; exact mu
 by_cases hb : b = x
 ·subst hb; rw [zau] at q; cases q; exact new
 ·rw [zaE hb] at q
  by_cases hbe : b = e
  ·have q' : H b = some (.own x) := by
    rcases he with z | z
    ·exact absurd (hbe.trans z) hb
    ·rw [hbe]; exact z
   rw [q] at q'; cases q'
   obtain ⟨v, hv⟩ := heo
   exact ⟨v, by rw [hbe]; exact hv⟩
  ·refine (ok b u q).stay (fun c v hc r => k c v ?_ r) (fun c r => by rw [zaE (nown c b r)]; exact r) fun c xs r => r.upd (fun ys z => ntup c ys z) fun o ys z e => by subst e; rw [z] at mu; exact mu
   rcases hc with rfl | hc
   ·exact hbe
   ·rintro rfl
    rcases he with z | z
    ·exact nown c b hc z
    ·rw [hc] at z; cases z; exact hb rfl
end
structure Un (fs ex : List Addr) (H H' : Hp) (h h' : Heap) : Prop where
 keep : ∀ b o, h.get? b = some o -> H b = none -> b ∉ fs -> b ∉ ex -> h'.get? b = some o
 slot : ∀ b o, h.get? b = some o -> H b = none -> b ∈ fs -> b ∉ ex -> ∃ sl, h'.get? b = some { o with slots := sl }
 free : ∀ b o, h.get? b = some o -> H b = none -> b ∉ ex -> H' b = none
 there : ∀ b o, h.get? b = some o -> b ∉ ex -> ∃ o', h'.get? b = some o'
 tups : ∀ b xs, H b = some (.tup xs) -> H' b = some (.tup xs)
 frzs : ∀ b o u, H b = some (.frz o u) -> H' b = some (.frz o u)
 tbls : ∀ b ps, H b = some (.tbl ps) -> ∃ more, H' b = some (.tbl (ps ++ more))
section
variable {fs fs' ex ex' : List Addr} {H H1 H2 : Hp} {h h1 h2 h' : Heap} {a x e : Addr} {o : HO}
theorem Un.any (u : Un fs ex H H1 h h1) {b : Addr} {ob : Obj} (q : h.get? b = some ob) (n : H b = none) (hx : b ∉ ex) : ∃ sl, h1.get? b = some { ob with slots := sl } := by
 by_cases hb : b ∈ fs
 ·exact u.slot b ob q n hb hx
 ·exact ⟨ob.slots, u.keep b ob q n hb hx⟩
theorem Un.kept (k : ∀ b u, h.get? b = some u -> h'.get? b = some u) : Un fs ex H H h h' :=
 ⟨fun b ob q _ _ _ => k b ob q, fun b ob q _ _ _ => ⟨ob.slots, k b ob q⟩, fun _ _ _ n _ => n, fun b ob q _ => ⟨ob, k b ob q⟩, fun _ _ q => q, fun _ _ _ q => q, fun _ ps q => ⟨#[], by rw [q]; simp⟩⟩
theorem Un.refl : Un fs ex H H h h := Un.kept fun _ _ q => q
theorem Un.laid (k : ∀ b u, h.get? b = some u -> h'.get? b = some u) (hp : h.objs.size <= a) (hn : H a = none) : Un fs ex H (upd H a o) h h' where
 keep := fun b u q _ _ _ => k b u q
 slot := fun b u q _ _ _ => ⟨u.slots, k b u q⟩
 free := fun b u q n _ => by rw [zaE (Nat.ne_of_lt (Nat.lt_of_lt_of_le (Heap.lt_size q) hp))]; exact n
 there := fun b u q _ => ⟨u, k b u q⟩
 tups := fun b xs q => by rw [zaE (zb5 q hn)]; exact q
 frzs := fun b u xs q => by rw [zaE (zb5 q hn)]; exact q
 tbls := fun b ps q => ⟨#[], by rw [zaE (zb5 q hn), q]; simp⟩
theorem Un.write (mu : Mut (H x)) (he : e = x \/ H e = some (.own x)) (k : ∀ b u, b ≠ e -> h.get? b = some u -> h'.get? b = some u) (heo : ∃ u, h'.get? e = some u) : Un fs ex H (upd H x o) h h' := by
 have hx : ∀ b, H b = none -> b ≠ x := fun b n z => by subst z; rw [n] at mu; exact mu
 have hb : ∀ b, H b = none -> b ≠ e := fun b n z => by
  subst z
  rcases he with r | r
  ·exact hx b n r
  ·rw [n] at r; cases r
 have hm : ∀ b u, H b = some u -> ¬ Mut (some u) -> b ≠ x := fun b u q nm z => by subst z; rw [q] at mu; exact nm mu
 refine ⟨fun b u q n _ _ => k b u (hb b n) q, fun b u q n _ _ => ⟨u.slots, k b u (hb b n) q⟩, fun b u q n _ => by rw [zaE (hx b n)]; exact n, fun b u q _ => ?_,
  fun b xs q => by rw [zaE (hm b _ q fun z => z)]; exact q, fun b u xs q => by rw [zaE (hm b _ q fun z => z)]; exact q, fun b ps q => ⟨#[], by rw [zaE (hm b _ q fun z => z), q]; simp⟩⟩
 by_cases hbe : b = e
 ·subst hbe; exact heo
 ·exact ⟨u, k b u hbe q⟩
end
def trk (h : Heap) (H : Hp) : List Addr := (List.range h.objs.size).filter fun a => (H a).isSome
def zpb (h : Heap) (H : Hp) : Heap := PySem.W.hideAll h (trk h H)
theorem znv (h : Heap) (H : Hp) : (zpb h H).objs.size = h.objs.size := PySem.W.hideAll_size _ _
theorem zpa {h : Heap} {H : Hp} {b : Addr} {o : Obj} (e : h.get? b = some o) (n : H b = none) : (zpb h H).get? b = some o :=
 PySem.W.hideAll_get _ e fun hm => by
  have q : (H b).isSome = true := (List.mem_filter.mp hm).2
  rw [n] at q; simp at q
theorem zqZ {h : Heap} {H : Hp} {b : Addr} {o : Obj} (e : (zpb h H).get? b = some o) : h.get? b = some o /\ H b = none := by
 have e' : h.get? b = some o := PySem.W.of_hideAll (trk h H) e
 refine ⟨e', ?_⟩
 cases q : H b with
 | none => rfl
 | some x =>
  have hm : b ∈ trk h H := List.mem_filter.mpr ⟨List.mem_range.mpr (Heap.lt_size e'), by simp [q]⟩
  have z : (zpb h H).get? b = none := PySem.W.hideAll_none (trk h H) hm
  rw [z] at e; cases e
def zrt (g h : Heap) (L : Addr) : List (Addr × Obj) := (List.range h.objs.size).filterMap fun a => if a = L \/ (g.get? a).isSome = true then none else (h.get? a).map fun o => (a, o)
def rest (g h : Heap) (L d : Addr) : List (Addr × Obj) := (zrt g h L).filter fun p => decide (p.1 ≠ d)
end L2
namespace L2
open PySem PySem.Spec PyProof.Rows
structure Mod (K : PySem.W.Frag) (mg : Str -> Option Value) (base : Heap) : Prop where
 kin : K.In base
 glob : base.Ns mainGlobals mg
 blt : ∃ mb, base.Ns builtinsNs mb /\ ∀ x : Str, x ≠ "__name__" -> mb x = bootBuiltins x
 nolimit : base.NoLimit
structure Cx where
 prog : Program
 w : World
 K : PySem.W.Frag
 mg : Str -> Option Value
 base : Heap
 A : Around
 N : List Str
 s₀ : Shared
 H₀ : Hp
 env : Env
 outer : List Env
 stack : List Env
 ex : List Addr
 fn : Str -> Bool
 calm : Bool
 pn : List (Addr × Obj)
 xe : Value -> Shared -> Prop
def frs (l : List Env) : List Addr := l.filterMap (·.frame)
abbrev Cx.fs (X : Cx) : List Addr := frs X.outer
def Vis (sc : Scope) (x : Str) : Prop := sc.names.lookup x = some .local \/ sc.names.lookup x = some .cell \/ sc.names.lookup x = some .free
def Loc (sc : Scope) (x : Str) : Prop := sc.names.lookup x = some .local \/ sc.names.lookup x = some .cell
def Look (env : Env) (h : Heap) (m : Str -> Option Value) (x : Str) (u : Value) : Prop :=
 (env.kindOf x = some .local /\ m x = some u) \/ ((env.kindOf x = some .cell \/ env.kindOf x = some .free) /\ ∃ c, env.cells.lookup x = some c /\ h.IsCell c (some u))
structure Cx.Ok (X : Cx) : Prop where
 mod : Mod X.K X.mg X.base
 kind : X.env.scope.kind = .function
 glob : X.env.globals = mainGlobals
 blt : X.env.builtins = builtinsNs
 above : X.s₀.heap.objs.size <= X.env.locals
 inj : ∀ x y c, X.env.cells.lookup x = some c -> X.env.cells.lookup y = some c -> x = y
 has : ∀ x, (X.env.kindOf x = some .cell \/ X.env.kindOf x = some .free) -> ∃ c, X.env.cells.lookup x = some c
 cab : ∀ x c, X.fn x = true -> X.env.cells.lookup x = some c -> X.s₀.heap.objs.size <= c
 hd : X.calm = true -> X.A.handled = none
 frames : X.A.frames = some X.stack
 stk : X.stack = X.outer \/ (X.stack = X.env :: X.outer /\ X.env.frame = some X.env.locals)
 exf : ∀ b ∈ X.ex, b ≠ X.env.locals /\ ∀ x c, X.env.cells.lookup x = some c -> c ≠ b
 bs : ∀ b o, X.base.get? b = some o -> X.s₀.heap.get? b = some o /\ X.H₀ b = none
 bsz : X.base.objs.size <= X.s₀.heap.objs.size
 noex : ∀ b o, X.base.get? b = some o -> b ∉ X.ex
 exfs : ∀ b ∈ X.ex, b ∉ X.fs
 zl0 : X.s₀.heap.FunFrames X.base X.outer
 frf : ∀ b ∈ X.fs, X.H₀ b = none
structure Inv (X : Cx) (pins : List (Addr × Obj)) (σ : List (Option V)) (H : Hp) (s : Shared) : Prop where
 ok : X.Ok
 os : s.os = X.s₀.os
 bare : AllBare s.gens
 base : Un X.fs X.ex X.H₀ H X.s₀.heap s.heap
 loc : ∃ m, s.heap.Ns X.env.locals m /\ ∀ (i : Nat) (x : Str) (v : V), X.N[i]? = some x -> σ[i]? = some (some v) -> Vis X.env.scope x -> ∃ u, RelV v u /\ Look X.env s.heap m x u
 cell : ∀ x c, X.env.cells.lookup x = some c -> ∃ v, s.heap.IsCell c v
 free : H X.env.locals = none
 freeC : ∀ x c, X.env.cells.lookup x = some c -> H c = none
 pin : ∀ p ∈ X.pn ++ pins, s.heap.get? p.1 = some p.2 /\ H p.1 = none /\ p.1 ≠ X.env.locals /\ p.1 ∉ X.fs /\ ∀ v, p.2.data ≠ .cell v
 hok : HOk X.prog X.w H s.heap
 len : σ.length = X.N.length
section
variable {X : Cx} {pins : List (Addr × Obj)} {σ : List (Option V)} {H H' : Hp} {s : Shared} {h' : Heap}
theorem Cx.Ok.zwn (ok : X.Ok) {b : Addr} {o : Obj} (e : X.base.get? b = some o) : b ∉ X.fs := fun hb => by
 have := (ok.zl0.mem hb).1
 rw [e] at this; cases this
theorem Inv.bs (I : Inv X pins σ H s) : ∀ b o, X.base.get? b = some o -> s.heap.get? b = some o /\ H b = none := fun b o e =>
 ⟨I.base.keep b o (I.ok.bs b o e).1 (I.ok.bs b o e).2 (I.ok.zwn e) (I.ok.noex b o e), I.base.free b o (I.ok.bs b o e).1 (I.ok.bs b o e).2 (I.ok.noex b o e)⟩
theorem Inv.bk (I : Inv X pins σ H s) : ∀ b o, X.base.get? b = some o -> s.heap.get? b = some o := fun b o e => (I.bs b o e).1
theorem Inv.mod (I : Inv X pins σ H s) : Mod X.K X.mg X.base := I.ok.mod
theorem Inv.kIn (I : Inv X pins σ H s) : X.K.In s.heap := I.ok.mod.kin.keeps I.bk
theorem Inv.fr (I : Inv X pins σ H s) : ∃ m, Fr X.base X.env.locals s.heap m :=
 let ⟨m, hn, _⟩ := I.loc
 ⟨m, hn, I.bk, Nat.le_trans I.ok.bsz I.ok.above⟩
theorem Inv.lt (I : Inv X pins σ H s) : X.env.locals < s.heap.objs.size := let ⟨_, hn, _⟩ := I.loc; hn.lt
theorem Inv.sz (I : Inv X pins σ H s) : X.s₀.heap.objs.size <= s.heap.objs.size := Nat.le_trans I.ok.above (Nat.le_of_lt I.lt)
theorem Inv.zwm (I : Inv X pins σ H s) {a : Addr} (h : s.heap.objs.size <= a) : a ∉ X.fs := fun hb => by
 obtain ⟨_, o, ho, _⟩ := I.ok.zl0.mem hb
 exact absurd (Nat.lt_of_lt_of_le (Heap.lt_size ho) (Nat.le_trans I.sz h)) (Nat.lt_irrefl _)
theorem Inv.cne (I : Inv X pins σ H s) : ∀ x c, X.env.cells.lookup x = some c -> c ≠ X.env.locals := fun x c e z => by
 obtain ⟨v, o, ho, hd⟩ := I.cell x c e
 obtain ⟨m, ⟨o', es, ep, ho', hd', _⟩, _⟩ := I.loc
 rw [z, ho'] at ho; cases ho; rw [hd'] at hd; cases hd
theorem Inv.zl0 (I : Inv X pins σ H s) : s.heap.FunFrames X.base X.outer := by
 have all : ∀ (l : List Env), (∀ b ∈ frs l, b ∈ X.fs) -> X.s₀.heap.FunFrames X.base l -> s.heap.FunFrames X.base l := by
  intro l
  induction l with
  | nil => intro _ _; trivial
  | cons env r ih =>
   intro hs hl
   obtain ⟨hk, ⟨L, o, hf, hn, ho, hd⟩, hr⟩ := hl
   have hL : L ∈ X.fs := hs L (by unfold frs; rw [List.filterMap_cons, hf]; exact List.mem_cons_self)
   obtain ⟨sl, e⟩ := I.base.slot L o ho (I.ok.frf L hL) hL fun z => I.ok.exfs L z hL
   exact ⟨hk, ⟨L, _, hf, hn, e, hd⟩, ih (fun b hb => hs b (by unfold frs; rw [List.filterMap_cons, hf]; exact List.mem_cons_of_mem _ hb)) hr⟩
 exact all X.outer (fun _ hb => hb) I.ok.zl0
theorem Inv.stack (I : Inv X pins σ H s) : s.heap.FunFrames X.base X.stack := by
 rcases I.ok.stk with e | ⟨e, hf⟩
 ·rw [e]; exact I.zl0
 ·rw [e]
  obtain ⟨m, hn, _⟩ := I.loc
  refine .cons (by rw [I.ok.kind]; decide) hf hn ?_ I.zl0
  exact Heap.get?_none_of_le (Nat.le_trans I.ok.bsz I.ok.above)
theorem Inv.zmh (I : Inv X pins σ H s) : ∀ b ∈ frs X.stack, b ∈ X.env.locals :: X.fs := fun b hb => by
 rcases I.ok.stk with e | ⟨e, hf⟩
 ·rw [e] at hb; exact List.mem_cons_of_mem _ hb
 ·rw [e] at hb
  unfold frs at hb
  rw [List.filterMap_cons, hf] at hb
  exact hb
theorem Inv.zmi (I : Inv X pins σ H s) : ∀ b ∈ frs X.stack, H b = none := fun b hb => by
 rcases List.mem_cons.mp (I.zmh b hb) with e | hb
 ·rw [e]; exact I.free
 ·obtain ⟨_, o, ho, _⟩ := I.ok.zl0.mem hb
  exact I.base.free b o ho (I.ok.frf b hb) fun z => I.ok.exfs b z hb
theorem Inv.step {g' : Array GenState} {t' : Nat} {d' : Drawn} {ch : List Addr} (I : Inv X pins σ H s)
  (hch : ∀ b ∈ ch, (b ∈ X.ex \/ X.s₀.heap.objs.size <= b) /\ b ≠ X.env.locals /\ (∀ x c, X.env.cells.lookup x = some c -> c ≠ b) /\ ∀ p ∈ X.pn ++ pins, p.1 ≠ b)
  (keep : ∀ b o, b ≠ X.env.locals -> b ∉ X.fs -> b ∉ ch -> s.heap.get? b = some o -> H b = none -> h'.get? b = some o)
  (slot : ∀ b o, b ≠ X.env.locals -> b ∈ X.fs -> b ∉ ch -> s.heap.get? b = some o -> H b = none -> ∃ sl, h'.get? b = some { o with slots := sl }) (free : ∀ b o, b ∉ ch -> s.heap.get? b = some o -> H b = none -> H' b = none)
  (there : ∀ b o, b ∉ ch -> s.heap.get? b = some o -> ∃ o', h'.get? b = some o')
  (tups : ∀ b xs, H b = some (.tup xs) -> H' b = some (.tup xs)) (frzs : ∀ b o u, H b = some (.frz o u) -> H' b = some (.frz o u)) (tbls : ∀ b ps, H b = some (.tbl ps) -> ∃ more, H' b = some (.tbl (ps ++ more)))
  (ns : ∀ m, s.heap.Ns X.env.locals m -> h'.Ns X.env.locals m) (hok : HOk X.prog X.w H' h') (hg : AllBare g') :
  Inv X pins σ H' { s with heap := h', gens := g', drawn := d', toks := t' } := by
 have neL : ∀ b o, X.s₀.heap.get? b = some o -> b ≠ X.env.locals := fun b o e => Nat.ne_of_lt (Nat.lt_of_lt_of_le (Heap.lt_size e) I.ok.above)
 have neC : ∀ b o, X.s₀.heap.get? b = some o -> b ∉ X.ex -> b ∉ ch := fun b o e hx hb => by
  rcases (hch b hb).1 with z | z
  ·exact hx z
  ·exact absurd (Nat.lt_of_lt_of_le (Heap.lt_size e) z) (Nat.lt_irrefl _)
 have cellK : ∀ x c, X.env.cells.lookup x = some c -> ∀ v, s.heap.IsCell c v -> h'.IsCell c v := fun x c e v ⟨o, ho, hd⟩ => by
  have nch : c ∉ ch := fun z => (hch c z).2.2.1 x c e rfl
  by_cases hc : c ∈ X.fs
  ·obtain ⟨sl, q⟩ := slot c o (I.cne x c e) hc nch ho (I.freeC x c e)
   exact ⟨_, q, hd⟩
  ·exact ⟨o, keep c o (I.cne x c e) hc nch ho (I.freeC x c e), hd⟩
 refine ⟨I.ok, I.os, hg, ⟨fun b o e n hb hx => ?_, fun b o e n hb hx => ?_, fun b o e n hx => ?_, fun b o e hx => ?_, fun b xs e => tups b xs (I.base.tups b xs e), fun b o xs e => frzs b o xs (I.base.frzs b o xs e), fun b ps e => ?_⟩, ?_, fun x c e => ?_, ?_, fun x c e => ?_, fun p hp => ?_, hok, I.len⟩
 ·exact keep b o (neL b o e) hb (neC b o e hx) (I.base.keep b o e n hb hx) (I.base.free b o e n hx)
 ·obtain ⟨sl, e1⟩ := I.base.slot b o e n hb hx
  obtain ⟨sl', e2⟩ := slot b _ (neL b o e) hb (neC b o e hx) e1 (I.base.free b o e n hx)
  exact ⟨sl', e2⟩
 ·obtain ⟨o', e1⟩ := I.base.there b o e hx
  exact free b o' (neC b o e hx) e1 (I.base.free b o e n hx)
 ·obtain ⟨o', e1⟩ := I.base.there b o e hx
  exact there b o' (neC b o e hx) e1
 ·obtain ⟨m1, e1⟩ := I.base.tbls b ps e
  obtain ⟨m2, e2⟩ := tbls b _ e1
  exact ⟨m1 ++ m2, by rw [e2, Array.append_assoc]⟩
 ·obtain ⟨m, hn, hl⟩ := I.loc
  refine ⟨m, ns m hn, fun i x v e1 e2 e3 => ?_⟩
  obtain ⟨u, r, l⟩ := hl i x v e1 e2 e3
  refine ⟨u, r, ?_⟩
  rcases l with l | ⟨k, c, e, z⟩
  ·exact .inl l
  ·exact .inr ⟨k, c, e, cellK x c e _ z⟩
 ·obtain ⟨v, z⟩ := I.cell x c e
  exact ⟨v, cellK x c e v z⟩
 ·obtain ⟨m, ⟨o, _, _, ho, _⟩, _⟩ := I.loc
  exact free _ o (fun z => (hch _ z).2.1 rfl) ho I.free
 ·obtain ⟨v, o, ho, hd⟩ := I.cell x c e
  exact free c o (fun z => (hch c z).2.2.1 x c e rfl) ho (I.freeC x c e)
 ·obtain ⟨e, n, ne, nf, d⟩ := I.pin p hp
  have nch : p.1 ∉ ch := fun z => (hch p.1 z).2.2.2 p hp rfl
  exact ⟨keep p.1 p.2 ne nf nch e n, free p.1 p.2 nch e n, ne, nf, d⟩
theorem Inv.un {t' : Nat} (I : Inv X pins σ H s) (u : Un X.fs [] H H' s.heap h') (hok : HOk X.prog X.w H' h') : Inv X pins σ H' { s with heap := h', toks := t' } := by
 obtain ⟨m, ⟨o, es, ep, ho, r⟩, _⟩ := id I.loc
 obtain ⟨sl, hL⟩ := u.any ho I.free (by simp)
 exact I.step (g' := s.gens) (d' := s.drawn) (ch := []) (fun _ z => nomatch z) (fun b o _ hb _ e n => u.keep b o e n hb (by simp)) (fun b o _ hb _ e n => u.slot b o e n hb (by simp)) (fun b o _ e n => u.free b o e n (by simp)) (fun b o _ e => u.there b o e (by simp)) u.tups u.frzs u.tbls (fun m' hm => by
  obtain ⟨o', es', ep', ho', r'⟩ := hm
  rw [ho] at ho'; cases ho'
  exact ⟨_, es', ep', hL, r'⟩) hok I.bare
theorem Inv.call {g' : Array GenState} {t' : Nat} {d' : Drawn} {ch : List Addr} (I : Inv X pins σ H s) (u : Un (frs X.stack) ch H H' s.heap h') (hok : HOk X.prog X.w H' h') (hg : AllBare g')
  (hch : ∀ b ∈ ch, (b ∈ X.ex \/ X.s₀.heap.objs.size <= b) /\ b ≠ X.env.locals /\ (∀ x c, X.env.cells.lookup x = some c -> c ≠ b) /\ ∀ p ∈ X.pn ++ pins, p.1 ≠ b) :
  Inv X pins σ H' { s with heap := h', gens := g', drawn := d', toks := t' } := by
 obtain ⟨m, ⟨o, es, ep, ho, r⟩, _⟩ := id I.loc
 obtain ⟨sl, hL⟩ := u.any ho I.free fun z => (hch _ z).2.1 rfl
 exact I.step (ch := ch) hch (fun b o hL hb hc e n => u.keep b o e n (fun z => (List.mem_cons.mp (I.zmh b z)).elim hL hb) hc) (fun b o _ _ hc e n => u.any e n hc) (fun b o hc e n => u.free b o e n hc) (fun b o hc e => u.there b o e hc) u.tups u.frzs u.tbls (fun m' hm => by
  obtain ⟨o', es', ep', ho', r'⟩ := hm
  rw [ho] at ho'; cases ho'
  exact ⟨_, es', ep', hL, r'⟩) hok hg
theorem Inv.turned {t' : Nat} {it : Addr} (I : Inv X pins σ H s) (k : ∀ b o, b ≠ it -> s.heap.get? b = some o -> h'.get? b = some o) (hn : H it = none) (hL : it ≠ X.env.locals)
  (h1 : it ∈ X.ex \/ X.s₀.heap.objs.size <= it) (h2 : ∀ x c, X.env.cells.lookup x = some c -> c ≠ it) (h3 : ∀ p ∈ X.pn ++ pins, p.1 ≠ it) : Inv X pins σ H { s with heap := h', toks := t' } := by
 have nit : ∀ b u, H b = some u -> b ≠ it := fun b u e z => by rw [z, hn] at e; cases e
 refine I.step (g' := s.gens) (d' := s.drawn) (ch := [it]) (fun b hb => ?_) (fun b o _ _ hc e _ => k b o (fun z => hc (by simp [z])) e) (fun b o _ _ hc e _ => ⟨o.slots, k b o (fun z => hc (by simp [z])) e⟩) (fun _ _ _ _ n => n)
  (fun b o hc e => ⟨o, k b o (fun z => hc (by simp [z])) e⟩) (fun _ _ e => e) (fun _ _ _ e => e) (fun b ps e => ⟨#[], by rw [e]; simp⟩) (fun m hm => ?_) (fun b u e => ?_) I.bare
 ·have e : b = it := by simpa using hb
  subst e
  exact ⟨h1, hL, h2, h3⟩
 ·obtain ⟨o, es, ep, ho, r⟩ := hm
  exact ⟨o, es, ep, k _ o (Ne.symm hL) ho, r⟩
 ·refine (I.hok b u e).stay (fun c v hc q => k c v ?_ q) (fun _ q => q) fun _ _ q => q
  rcases hc with z | z
  ·rw [z]; exact nit b u e
  ·exact nit c _ z
theorem Inv.tok (I : Inv X pins σ H s) (t : Nat) : Inv X pins σ H { s with toks := t } := I.un (h' := s.heap) (t' := t) Un.refl I.hok
theorem Inv.kept {t' : Nat} (I : Inv X pins σ H s) (k : ∀ b u, s.heap.get? b = some u -> h'.get? b = some u) : Inv X pins σ H { s with heap := h', toks := t' } := I.un (Un.kept k) (I.hok.kept k)
theorem Inv.laid {a : Addr} {o : HO} {t' : Nat} (I : Inv X pins σ H s) (k : ∀ b u, s.heap.get? b = some u -> h'.get? b = some u) (hp : s.heap.objs.size <= a) (new : zbV X.prog X.w (upd H a o) h' a o) :
  Inv X pins σ (upd H a o) { s with heap := h', toks := t' } := I.un (Un.laid k hp (I.hok.fresh hp)) (I.hok.laid k hp new)
theorem Inv.write {x e : Addr} {o : HO} {t' : Nat} (I : Inv X pins σ H s) (mu : Mut (H x)) (he : e = x \/ H e = some (.own x)) (k : ∀ b u, b ≠ e -> s.heap.get? b = some u -> h'.get? b = some u) (heo : ∃ u, h'.get? e = some u)
  (new : zbV X.prog X.w (upd H x o) h' x o) : Inv X pins σ (upd H x o) { s with heap := h', toks := t' } := I.un (Un.write mu he k heo) (I.hok.write mu he k heo new)
theorem Inv.weak {σ' : List (Option V)} (I : Inv X pins σ H s) (hl : σ'.length = σ.length) (w : ∀ (i : Nat) v, σ'[i]? = some (some v) -> σ[i]? = some (some v)) : Inv X pins σ' H s :=
 ⟨I.ok, I.os, I.bare, I.base, let ⟨m, hn, hl'⟩ := I.loc; ⟨m, hn, fun i x v e1 e2 e3 => hl' i x v e1 (w i v e2) e3⟩, I.cell, I.free, I.freeC, I.pin, I.hok, hl.trans I.len⟩
theorem Inv.zit {pins' : List (Addr × Obj)} (I : Inv X pins σ H s) (h : ∀ p ∈ pins', s.heap.get? p.1 = some p.2 /\ H p.1 = none /\ p.1 ≠ X.env.locals /\ p.1 ∉ X.fs /\ ∀ v, p.2.data ≠ .cell v) : Inv X pins' σ H s :=
 ⟨I.ok, I.os, I.bare, I.base, I.loc, I.cell, I.free, I.freeC, fun p hp => (List.mem_append.mp hp).elim (fun z => I.pin p (List.mem_append_left _ z)) (h p), I.hok, I.len⟩
theorem zkR {N : List Str} (hN : N.Nodup) {i j : Nat} {x : Str} (a : N[i]? = some x) (b : N[j]? = some x) : i = j := by
 obtain ⟨h1, e1⟩ := List.getElem?_eq_some_iff.mp a
 obtain ⟨h2, e2⟩ := List.getElem?_eq_some_iff.mp b
 exact (List.getElem_inj hN).mp (e1.trans e2.symm)
theorem zi0 {M : Model} {A : Around} {E : Value -> Shared -> Prop} {i : Nat} {x : Str} {v : V} {u : Value} {Q : Unit -> Shared -> Prop} (I : Inv X pins σ H s) (hN : X.N.Nodup) (hi : X.N[i]? = some x) (hx : Loc X.env.scope x) (r : RelV v u)
  (h : ∀ s', Inv X pins (σ.set i (some v)) H s' -> (∃ a, Heap.SameBut a s.heap s'.heap /\ (a = X.env.locals \/ X.env.cells.lookup x = some a)) -> Q () s') (hf : X.fn x = true \/ X.env.scope.names.lookup x = some .local := by first | exact .inl rfl | exact .inr rfl | assumption) : wpAny M A (storeName X.env x u) Q E s := by
 obtain ⟨m, hn, hl⟩ := id I.loc
 have hcls : (X.env.scope.kind == .class || (X.env.scope.kind == .module && X.env.locals != X.env.globals)) = false := by rw [I.ok.kind]; rfl
 have hiσ : i < σ.length := by rw [I.len]; exact (List.getElem?_eq_some_iff.mp hi).1
 have cne := I.cne
 have tracked : ∀ {a : Addr} {h' : Heap}, (∃ o, s.heap.get? a = some o /\ H a = none) -> Heap.SameBut a s.heap h' -> HOk X.prog X.w H h' := fun {a h'} ha hs b ob e => by
  obtain ⟨_, _, hfree⟩ := ha
  refine (I.hok b ob e).stay (fun c w' hc q => (hs.2 c ?_).trans q) (fun _ q => q) fun _ _ q => q
  rintro rfl
  rcases hc with rfl | hc
  ·rw [hfree] at e; cases e
  ·rw [hfree] at hc; cases hc
 rcases hx with hk | hk
 ·refine wpAny_storeName_local hk hn (fun h' hn' hs => ?_) hcls
  obtain ⟨oL, _, _, hoL, _⟩ := id hn
  refine h _ ⟨I.ok, I.os, I.bare, ⟨fun b o e n hb hx => ?_, fun b o e n hb hx => ?_, I.base.free, fun b o e hx => ?_, I.base.tups, I.base.frzs, I.base.tbls⟩, ⟨_, hn', fun j y v' e1 e2 e3 => ?_⟩, fun y c e => ?_, I.free, I.freeC, fun p hp => ?_, tracked ⟨oL, hoL, I.free⟩ hs, by simpa using I.len⟩ ⟨_, hs, .inl rfl⟩
  ·exact (hs.2 b (Nat.ne_of_lt (Nat.lt_of_lt_of_le (Heap.lt_size e) I.ok.above))).trans (I.base.keep b o e n hb hx)
  ·obtain ⟨sl, e1⟩ := I.base.slot b o e n hb hx
   exact ⟨sl, (hs.2 b (Nat.ne_of_lt (Nat.lt_of_lt_of_le (Heap.lt_size e) I.ok.above))).trans e1⟩
  ·obtain ⟨o', e1⟩ := I.base.there b o e hx
   exact ⟨o', (hs.2 b (Nat.ne_of_lt (Nat.lt_of_lt_of_le (Heap.lt_size e) I.ok.above))).trans e1⟩
  ·by_cases hj : j = i
   ·subst hj
    rw [hi] at e1; cases e1
    rw [List.getElem?_set_self hiσ] at e2
    cases e2
    exact ⟨u, r, .inl ⟨hk, by simp⟩⟩
   ·rw [List.getElem?_set_ne (Ne.symm hj)] at e2
    obtain ⟨u', r', q⟩ := hl j y v' e1 e2 e3
    refine ⟨u', r', ?_⟩
    rcases q with ⟨k, e⟩ | ⟨k, c, e, z⟩
    ·refine .inl ⟨k, ?_⟩
     have : y ≠ x := fun e => hj (zkR hN e1 (e ▸ hi))
     simp [this, e]
    ·exact .inr ⟨k, c, e, z.sameBut hs (cne y c e)⟩
  ·obtain ⟨w', z⟩ := I.cell y c e
   exact ⟨w', z.sameBut hs (cne y c e)⟩
  ·obtain ⟨e, n, ne, nf, d⟩ := I.pin p hp
   exact ⟨(hs.2 p.1 ne).trans e, n, ne, nf, d⟩
 ·have hfn : X.fn x = true := by
   rcases hf with z | z
   ·exact z
   ·rw [z] at hk; cases hk
  obtain ⟨c, hc⟩ := I.ok.has x (.inl hk)
  obtain ⟨w', z⟩ := I.cell x c hc
  refine wpAny_storeName_cell I.ok.kind hk hc z (fun h' hc' hs => ?_)
  obtain ⟨oc, hoc, hocd⟩ := id z
  refine h { s with heap := h' } ⟨I.ok, I.os, I.bare, ⟨fun b o e n hb hx => ?_, fun b o e n hb hx => ?_, I.base.free, fun b o e hx => ?_, I.base.tups, I.base.frzs, I.base.tbls⟩, ⟨m, hn.sameBut hs (Ne.symm (cne x c hc)), fun j y v' e1 e2 e3 => ?_⟩, fun y c' e => ?_, I.free, I.freeC, fun p hp => ?_, tracked ⟨oc, hoc, I.freeC x c hc⟩ hs, by simpa using I.len⟩ ⟨c, hs, .inr hc⟩
  ·exact (hs.2 b (Nat.ne_of_lt (Nat.lt_of_lt_of_le (Heap.lt_size e) (I.ok.cab x c hfn hc)))).trans (I.base.keep b o e n hb hx)
  ·obtain ⟨sl, e1⟩ := I.base.slot b o e n hb hx
   exact ⟨sl, (hs.2 b (Nat.ne_of_lt (Nat.lt_of_lt_of_le (Heap.lt_size e) (I.ok.cab x c hfn hc)))).trans e1⟩
  ·obtain ⟨o', e1⟩ := I.base.there b o e hx
   exact ⟨o', (hs.2 b (Nat.ne_of_lt (Nat.lt_of_lt_of_le (Heap.lt_size e) (I.ok.cab x c hfn hc)))).trans e1⟩
  ·by_cases hj : j = i
   ·subst hj
    rw [hi] at e1; cases e1
    rw [List.getElem?_set_self hiσ] at e2
    cases e2
    exact ⟨u, r, .inr ⟨.inl hk, c, hc, hc'⟩⟩
   ·rw [List.getElem?_set_ne (Ne.symm hj)] at e2
    obtain ⟨u', r', q⟩ := hl j y v' e1 e2 e3
    refine ⟨u', r', ?_⟩
    rcases q with q | ⟨k, c', e, z'⟩
    ·exact .inl q
    ·refine .inr ⟨k, c', e, z'.sameBut hs ?_⟩
     rintro rfl
     exact hj (zkR hN e1 (I.ok.inj _ _ _ e hc ▸ hi))
  ·by_cases hcc : c' = c
   ·subst hcc; exact ⟨_, hc'⟩
   ·obtain ⟨w2, z2⟩ := I.cell y c' e
    exact ⟨w2, z2.sameBut hs hcc⟩
  ·obtain ⟨e, n, ne, nf, d⟩ := I.pin p hp
   refine ⟨(hs.2 p.1 ?_).trans e, n, ne, nf, d⟩
   intro q
   rw [q, hoc] at e
   have q' : oc = p.2 := Option.some.inj e
   exact d w' (by rw [<- q']; exact hocd)
theorem zgh {M : Model} {A : Around} {E : Value -> Shared -> Prop} {i : Nat} {x : Str} {v : V} {u : Value} {Q : Unit -> Shared -> Prop} (I : Inv X pins σ H s) (hN : X.N.Nodup) (hi : X.N[i]? = some x) (hx : Loc X.env.scope x) (r : RelV v u)
  (h : ∀ s', Inv X pins (σ.set i (some v)) H s' -> Q () s') (hf : X.fn x = true \/ X.env.scope.names.lookup x = some .local := by first | exact .inl rfl | exact .inr rfl | assumption) : wpAny M A (storeName X.env x u) Q E s :=
 zi0 I hN hi hx r (fun s' I' _ => h s' I') hf
theorem Inv.call' {s' : Shared} {ch : List Addr} (I : Inv X pins σ H s) (ho : s'.os = s.os) (u : Un (frs X.stack) ch H H' s.heap s'.heap) (hok : HOk X.prog X.w H' s'.heap) (hg : AllBare s'.gens)
  (hch : ∀ b ∈ ch, (b ∈ X.ex \/ X.s₀.heap.objs.size <= b) /\ b ≠ X.env.locals /\ (∀ x c, X.env.cells.lookup x = some c -> c ≠ b) /\ ∀ p ∈ X.pn ++ pins, p.1 ≠ b) : Inv X pins σ H' s' := by
 obtain ⟨h', g', d', t', o'⟩ := s'
 have e : o' = s.os := ho
 subst e
 exact I.call (g' := g') (t' := t') (d' := d') u hok hg hch
end
abbrev XK := Value -> Option Addr -> Hp -> Prop
abbrev St := List (Option V)
abbrev VK := V -> Hp -> Prop
abbrev TE := St -> Hp -> VK -> Prop
abbrev TT := St -> Hp -> (Bool -> Hp -> Prop) -> Prop
abbrev TA := St -> Hp -> (List V -> Hp -> Prop) -> Prop
structure Ends where
 nx : St -> Hp -> Prop
 rt : VK
 bk : St -> Hp -> Prop := fun _ _ => False
 ct : St -> Hp -> Prop := fun _ _ => False
abbrev TS := Ends -> St -> Hp -> Prop
def EP (X : Cx) (pins : List (Addr × Obj)) (σ : St) (Q : VK) (u : Value) (s' : Shared) : Prop := ∃ v H', Inv X pins σ H' s' /\ RelV v u /\ Q v H'
def TP (X : Cx) (pins : List (Addr × Obj)) (σ : St) (Q : Bool -> Hp -> Prop) (b : Bool) (s' : Shared) : Prop := ∃ H', Inv X pins σ H' s' /\ Q b H'
def AP (X : Cx) (pins : List (Addr × Obj)) (σ : St) (Q : List V -> Hp -> Prop) (us : List Value) (s' : Shared) : Prop := ∃ vs H', Inv X pins σ H' s' /\ Vals vs us /\ Q vs H'
def SP (X : Cx) (pins : List (Addr × Obj)) (D : Ends) (f : Flow) (s' : Shared) : Prop :=
 match f with
 | .next => ∃ σ' H', Inv X pins σ' H' s' /\ D.nx σ' H'
 | .brk => ∃ σ' H', Inv X pins σ' H' s' /\ D.bk σ' H'
 | .cont => ∃ σ' H', Inv X pins σ' H' s' /\ D.ct σ' H'
 | .ret u => ∃ v σ' H', Inv X pins σ' H' s' /\ RelV v u /\ D.rt v H'
def PE (X : Cx) (e : Expr) (t : TE) : Prop :=
 ∀ (pins : List (Addr × Obj)) (s : Shared) (σ : St) (H : Hp) (Q : VK), Inv X pins σ H s -> t σ H Q -> wpAny (model X.prog X.w) X.A (eval e X.env) (EP X pins σ Q) X.xe s
def PT (X : Cx) (e : Expr) (t : TT) : Prop :=
 ∀ (pins : List (Addr × Obj)) (s : Shared) (σ : St) (H : Hp) (Q : Bool -> Hp -> Prop), Inv X pins σ H s -> t σ H Q -> wpAny (model X.prog X.w) X.A (isTrue e X.env (eval e X.env)) (TP X pins σ Q) X.xe s
def PW (X : Cx) (e : Expr) (t : TT) : Prop :=
 ∀ (whole : Sem Value) (pins : List (Addr × Obj)) (s : Shared) (σ : St) (H : Hp) (Q : Bool -> Hp -> Prop), Inv X pins σ H s -> t σ H Q -> wpAny (model X.prog X.w) X.A (isTrue e X.env whole) (TP X pins σ Q) X.xe s
theorem PW.pt {X : Cx} {e : Expr} {t : TT} (h : PW X e t) : PT X e t := h _
def PA (X : Cx) (es : List Expr) (t : TA) : Prop :=
 ∀ (pos : Pos) (pins : List (Addr × Obj)) (s : Shared) (σ : St) (H : Hp) (Q : List V -> Hp -> Prop), Inv X pins σ H s -> t σ H Q -> wpAny (model X.prog X.w) X.A (spliced (backTo pos (starEach es X.env))) (AP X pins σ Q) X.xe s
def PS (X : Cx) (st : Stmt) (t : TS) : Prop :=
 ∀ (pins : List (Addr × Obj)) (s : Shared) (σ : St) (H : Hp) (D : Ends), Inv X pins σ H s -> t D σ H -> wpAny (model X.prog X.w) X.A (exec st X.env) (SP X pins D) X.xe s
def PSs (X : Cx) (st : List Stmt) (t : TS) : Prop :=
 ∀ (pins : List (Addr × Obj)) (s : Shared) (σ : St) (H : Hp) (D : Ends), Inv X pins σ H s -> t D σ H -> wpAny (model X.prog X.w) X.A (execs st X.env) (SP X pins D) X.xe s
theorem thn {α : Type} {t : Sem α} {Q Q' : α -> Shared -> Prop} {M : Model} {A : Around} {E : Value -> Shared -> Prop} {s : Shared} (h : wpAny M A t Q E s) (hQ : ∀ a s, Q a s -> Q' a s) : wpAny M A t Q' E s := wpAny_mono h hQ fun _ _ x => x
end L2
namespace L2
open PySem PySem.Spec PyProof.Rows
section
variable {X : Cx}
theorem bin {a b : Expr} {ta tb : TE} (ha : PE X a ta) (hb : PE X b tb) {pins : List (Addr × Obj)} {s : Shared} {σ : St} {H : Hp} {R : V -> V -> Hp -> Prop} (I : Inv X pins σ H s) (h : ta σ H fun x H1 => tb σ H1 fun y H2 => R x y H2)
  {α : Type} {Q : α -> Shared -> Prop} {f : Value -> Value -> Sem α}
  (hf : ∀ v u s2 x y H2, Inv X pins σ H2 s2 -> RelV x v -> RelV y u -> R x y H2 -> wpAny (model X.prog X.w) X.A (f v u) Q X.xe s2) :
  wpAny (model X.prog X.w) X.A (eval a X.env) (fun v s₁ => wpAny (model X.prog X.w) X.A (eval b X.env) (fun u s₂ => wpAny (model X.prog X.w) X.A (f v u) Q X.xe s₂) X.xe s₁) X.xe s := by
 refine thn (ha pins s σ H _ I h) fun v s1 ⟨x, H1, I1, r1, q1⟩ => ?_
 refine thn (hb pins s1 σ H1 _ I1 q1) fun u s2 ⟨y, H2, I2, r2, q2⟩ => ?_
 exact hf v u s2 x y H2 I2 r1 r2 q2
def zkF (i : Nat) : TE := fun σ H Q => ∃ v, σ[i]? = some (some v) /\ Q v H
def tC (v : V) : TE := fun _ H Q => Q v H
theorem zpJ {i : Nat} {x : Str} {pos : Pos} (hN : X.N[i]? = some x) (hv : Vis X.env.scope x) (hd : (x == ("__debug__" : Str)) = false := by decide) (hcd : (x == ("__classdict__" : Str)) = false := by decide) : PE X (.Name x pos) (zkF i) := by
 intro pins s σ H Q I h
 obtain ⟨v, e, h⟩ := h
 obtain ⟨m, hn, hl⟩ := I.loc
 obtain ⟨u, r, l⟩ := hl i x v hN e hv
 have fin : EP X pins σ Q u s := ⟨v, H, I, r, h⟩
 rcases l with ⟨hk, hm⟩ | ⟨hk, c, hc, hcell⟩
 ·exact wpAny_Name (wpAny_loadName_local I.ok.kind hk hn hm fin) hd
 ·rcases hk with hk | hk
  ·exact wpAny_Name (wpAny_loadName_cell I.ok.kind hk hc hcell fin) hd
  ·exact wpAny_Name (wpAny_loadName_free I.ok.kind hk hc hcell fin hcd) hd
theorem zpL {i j pos} : PE X (.Constant (.int i) j pos) (tC (.int i)) := fun _ _ _ H _ I h => wpAny_Constant_int ⟨.int i, H, I.tok _, ⟨_, rfl⟩, h⟩
theorem zuT {b j pos} : PE X (.Constant (.bool b) j pos) (tC (.bl b)) := fun _ _ _ H _ I h => Constant_bool ⟨.bl b, H, I, rfl, h⟩
theorem zse {j pos} : PE X (.Constant .none j pos) (tC .non) := fun _ _ _ H _ I h => Constant_none ⟨.non, H, I, rfl, h⟩
def Gl (X : Cx) (x : Str) : Prop := X.env.kindOf x = some .globalImplicit
theorem zj7 {E : Value -> Shared -> Prop} {pins : List (Addr × Obj)} {s : Shared} {σ : St} {H : Hp} {x : Str} {u : Value} {pos : Pos} {Q : Value -> Shared -> Prop} (I : Inv X pins σ H s) (hg : Gl X x) (hm : X.mg x = some u) (h : Q u s)
  (hd : (x == ("__debug__" : Str)) = false := by decide) : wpAny (model X.prog X.w) X.A (eval (.Name x pos) X.env) Q E s :=
 Calls.Name_function_global I.ok.kind hg (Calls.loadGlobal_global (by rw [I.ok.glob]; exact I.mod.glob.keeps I.bk) hm h) hd
theorem zhO {E : Value -> Shared -> Prop} {pins : List (Addr × Obj)} {s : Shared} {σ : St} {H : Hp} {x : Str} {u : Value} {pos : Pos} {Q : Value -> Shared -> Prop} (I : Inv X pins σ H s) (hg : Gl X x) (hm : X.mg x = none) (hv : bootBuiltins x = some u) (h : Q u s)
  (hn : x ≠ "__name__" := by decide) (hd : (x == ("__debug__" : Str)) = false := by decide) : wpAny (model X.prog X.w) X.A (eval (.Name x pos) X.env) Q E s := by
 obtain ⟨mb, h1, h2⟩ := I.mod.blt
 exact Calls.Name_function_global I.ok.kind hg (Calls.loadGlobal_builtin (by rw [I.ok.glob]; exact I.mod.glob.keeps I.bk) hm (by rw [I.ok.blt]; exact h1.keeps I.bk) ((h2 x hn).trans hv) h) hd
theorem zmR {x : Str} {v : V} {u : Value} {pos : Pos} (hg : Gl X x) (hm : X.mg x = some u) (r : RelV v u) (hd : (x == ("__debug__" : Str)) = false := by decide) : PE X (.Name x pos) (tC v) :=
 fun _ _ _ H _ I h => zj7 I hg hm ⟨v, H, I, r, h⟩ hd
theorem zqT {x : Str} {v : V} {u : Value} {pos : Pos} (hg : Gl X x) (hm : X.mg x = none) (hv : bootBuiltins x = some u) (r : RelV v u) (hn : x ≠ "__name__" := by decide) (hd : (x == ("__debug__" : Str)) = false := by decide) : PE X (.Name x pos) (tC v) :=
 fun _ _ _ H _ I h => zhO I hg hm hv ⟨v, H, I, r, h⟩ hn hd
variable {a b : Expr} {ta tb : TE} {pos : Pos}
def tB (t : TE) : TT := fun σ H Q => t σ H fun x H1 => ∃ c, x = .bl c /\ Q c H1
variable {tA tB' : TT} {rest : List Expr}
def zuD (t u : TT) : TT := fun σ H Q => t σ H fun c H1 => if c = true then u σ H1 Q else Q false H1
def tOr (t u : TT) : TT := fun σ H Q => t σ H fun c H1 => if c = true then Q true H1 else u σ H1 Q
def zeH (t : TT) : TT := fun σ H Q => t σ H fun c H1 => Q (!c) H1
theorem zr0 (ha : PT X a tA) : PW X (.BoolOp .Or [a] pos) tA := by
 intro wh pins s σ H Q I h
 refine isTrue_or (thn (ha pins s σ H Q I h) fun c s1 e => ?_)
 cases c with
 | false => exact isTrue_or_nil e
 | true => exact e
theorem zuJ (ha : PT X a tA) (hb : PW X (.BoolOp .Or (b :: rest) pos) tB') : PW X (.BoolOp .Or (a :: b :: rest) pos) (tOr tA tB') := by
 intro wh pins s σ H Q I h
 refine isTrue_or (thn (ha pins s σ H _ I h) fun c s1 ⟨H1, I1, q1⟩ => ?_)
 cases c with
 | true => exact ⟨H1, I1, q1⟩
 | false => exact hb wh pins s1 σ H1 Q I1 q1
theorem zr3 (ha : PT X a tA) : PT X (.UnaryOp .Not a pos) (zeH tA) := by
 intro pins s σ H Q I h
 exact isTrue_not (ha pins s σ H (fun c H1 => Q (!c) H1) I h)
def zuC (ta tb : TE) : TE := fun σ H Q => ta σ H fun x H1 => ∃ c, x = .bl c /\ if c = true then tb σ H1 Q else Q (.bl false) H1
def zuy (ta : TE) : TE := fun σ H Q => ta σ H fun x H1 => ∃ c, x = .bl c /\ Q (.bl (!c)) H1
theorem zsc {op} {t : TE} (h : PE X a t) : PE X (.BoolOp op [a] pos) t := fun pins s σ H Q I hw => BoolOp_one (h pins s σ H Q I hw)
theorem zsi (ha : PE X a ta) (hb : PE X (.BoolOp .And (b :: rest) pos) tb) : PE X (.BoolOp .And (a :: b :: rest) pos) (zuC ta tb) := by
 intro pins s σ H Q I h
 refine BoolOp_and (thn (ha pins s σ H _ I h) fun v s1 ⟨x, H1, I1, r1, q1⟩ => ?_)
 obtain ⟨c, rfl, q1⟩ := q1
 cases r1
 refine wpAny_truthy_bool ?_
 cases c with
 | true => exact hb pins s1 σ H1 Q I1 q1
 | false => exact ⟨.bl false, H1, I1, rfl, q1⟩
theorem zsd (ha : PE X a ta) : PE X (.UnaryOp .Not a pos) (zuy ta) := by
 intro pins s σ H Q I h
 refine UnaryOp_ (thn (ha pins s σ H _ I h) fun v s1 ⟨x, H1, I1, r1, q1⟩ => ?_)
 obtain ⟨c, rfl, q1⟩ := q1
 cases r1
 exact not_of (wpAny_truthy_bool ⟨.bl (!c), H1, I1, rfl, q1⟩)
end
end L2
namespace L2
open PySem PySem.Spec PyProof.Rows
def SqL (K : PySem.W.Frag) (H : Hp) (a : Addr) (xs : List V) : Prop :=
 Rd H a (.lst xs) \/
  ∃ (o : Obj) (its : Array Value) (n : Nat), K.lookup a = some o /\ o.cls = .type "list" /\ o.dict = none /\ o.data = .seq its n /\ its.size <= sizeLine /\ Vals xs its.toList
def SqT (K : PySem.W.Frag) (H : Hp) (a : Addr) (xs : List V) : Prop :=
 Rd H a (.tup xs) \/
  ∃ (o : Obj) (its : Array Value) (n : Nat), K.lookup a = some o /\ o.cls = .type "tuple" /\ o.data = .seq its n /\ its.size <= sizeLine /\ Vals xs its.toList
def zwE : Value -> Option V
 | .none => some .non
 | .bool b => some (.bl b)
 | .int i _ => some (.int i)
 | .str x _ => some (.str x)
 | .bytes b _ => some (.byt b)
 | .float b _ => some (.flt b)
 | .ref a => some (.ref a)
 | .type n => some (.ty n)
 | _ => none
theorem RelV.abs {x : V} {u : Value} (r : RelV x u) : zwE u = some x := by
 cases x with
 | non => cases r; rfl
 | bl _ => cases r; rfl
 | int _ => obtain ⟨t, rfl⟩ := r; rfl
 | str _ => obtain ⟨t, rfl⟩ := r; rfl
 | byt _ => obtain ⟨t, rfl⟩ := r; rfl
 | flt _ => obtain ⟨t, rfl⟩ := r; rfl
 | ref _ => cases r; rfl
 | ty _ => cases r; rfl
theorem RelV.inj {x y : V} {u : Value} (r : RelV x u) (q : RelV y u) : x = y := Option.some.inj (r.abs.symm.trans q.abs)
theorem Vals.inj : ∀ {xs ys : List V} {us : List Value}, Vals xs us -> Vals ys us -> xs = ys
 | _, _, _, .nil, .nil => rfl
 | _, _, _, .cons r t, .cons r' t' => by rw [r.inj r', Vals.inj t t']
section
variable {X : Cx} {pins : List (Addr × Obj)} {σ : St} {H : Hp} {s : Shared} {a : Addr} {xs ys : List V}
theorem SqL.of {K : PySem.W.Frag} (h : H a = some (.lst xs)) : SqL K H a xs := .inl (.inl h)
theorem Inv.list (I : Inv X pins σ H s) (h : SqL X.K H a xs) : ∃ its : List Value, Vals xs its /\ PlainL s.heap a its.toArray /\ xs.length <= sizeLine := by
 rcases h with h | ⟨o, its, n, hk, hc, hd, hs, hz, r⟩
 ·obtain ⟨z, its, n, r, e⟩ := h.ok I.hok
  exact ⟨its, r, ⟨_, n, e, rfl, rfl, rfl⟩, z⟩
 ·refine ⟨its.toList, r, ⟨o, n, I.kIn a o hk, hc, hd, by simpa using hs⟩, ?_⟩
  have e := r.length
  simp only [Array.length_toList] at e
  omega
theorem Inv.tuple (I : Inv X pins σ H s) (h : SqT X.K H a xs) : ∃ its : List Value, Vals xs its /\ IsTup s.heap a its.toArray /\ xs.length <= sizeLine := by
 rcases h with h | ⟨o, its, n, hk, hc, hs, hz, r⟩
 ·obtain ⟨z, its, r, p⟩ := h.ok I.hok
  exact ⟨its, r, p, z⟩
 ·refine ⟨its.toList, r, ⟨o, I.kIn a o hk, hc, n, by simpa using hs⟩, ?_⟩
  have e := r.length
  simp only [Array.length_toList] at e
  omega
theorem Inv.zo5 (I : Inv X pins σ H s) (h : SqL X.K H a xs) (h' : SqL X.K H a ys) : xs = ys := by
 obtain ⟨its, r, ⟨o, n, e, _, _, d⟩, _⟩ := I.list h
 obtain ⟨its', r', ⟨o', n', e', _, _, d'⟩, _⟩ := I.list h'
 rw [e] at e'; cases e'
 rw [d] at d'
 injection d' with d1 _
 have : its = its' := by simpa using congrArg Array.toList d1
 subst this
 exact r.inj r'
theorem Inv.zmf (I : Inv X pins σ H s) (h : SqT X.K H a xs) (h' : SqT X.K H a ys) : xs = ys := by
 obtain ⟨its, r, ⟨o, e, _, n, d⟩, _⟩ := I.tuple h
 obtain ⟨its', r', ⟨o', e', _, n', d'⟩, _⟩ := I.tuple h'
 rw [e] at e'; cases e'
 rw [d] at d'
 injection d' with d1 _
 have : its = its' := by simpa using congrArg Array.toList d1
 subst this
 exact r.inj r'
end
abbrev Cx.wish (X : Cx) (E : Value -> Shared -> Prop) : Cx := { X with xe := E }
abbrev Cx.nox (X : Cx) : Cx := X.wish fun _ _ => False
theorem Cx.Ok.wish {X : Cx} (ok : X.Ok) (E : Value -> Shared -> Prop) : (X.wish E).Ok :=
 ⟨ok.mod, ok.kind, ok.glob, ok.blt, ok.above, ok.inj, ok.has, ok.cab, ok.hd, ok.frames, ok.stk, ok.exf, ok.bs, ok.bsz, ok.noex, ok.exfs, ok.zl0, ok.frf⟩
theorem Cx.Ok.zf0 {X : Cx} {E : Value -> Shared -> Prop} (ok : (X.wish E).Ok) : X.Ok :=
 ⟨ok.mod, ok.kind, ok.glob, ok.blt, ok.above, ok.inj, ok.has, ok.cab, ok.hd, ok.frames, ok.stk, ok.exf, ok.bs, ok.bsz, ok.noex, ok.exfs, ok.zl0, ok.frf⟩
section
variable {X : Cx} {pins : List (Addr × Obj)} {σ : St} {H : Hp} {s : Shared} {E : Value -> Shared -> Prop}
theorem Inv.wish (I : Inv X pins σ H s) (E : Value -> Shared -> Prop) : Inv (X.wish E) pins σ H s := ⟨I.ok.wish E, I.os, I.bare, I.base, I.loc, I.cell, I.free, I.freeC, I.pin, I.hok, I.len⟩
theorem Inv.zf0 (I : Inv (X.wish E) pins σ H s) : Inv X pins σ H s := ⟨I.ok.zf0, I.os, I.bare, I.base, I.loc, I.cell, I.free, I.freeC, I.pin, I.hok, I.len⟩
theorem SP.zf0 {D : Ends} {f : Flow} {s' : Shared} (h : SP (X.wish E) pins D f s') : SP X pins D f s' := by
 cases f with
 | next => obtain ⟨σ', H', I, q⟩ := h; exact ⟨σ', H', I.zf0, q⟩
 | brk => obtain ⟨σ', H', I, q⟩ := h; exact ⟨σ', H', I.zf0, q⟩
 | cont => obtain ⟨σ', H', I, q⟩ := h; exact ⟨σ', H', I.zf0, q⟩
 | ret u => obtain ⟨v, σ', H', I, r, q⟩ := h; exact ⟨v, σ', H', I.zf0, r, q⟩
theorem PSs.nox {st : List Stmt} {t : TS} (h : PSs X.nox st t) : PSs X st t := fun pins s σ H D I hw =>
 wpAny_mono (h pins s σ H D (I.wish _) hw) (fun _ _ q => q.zf0) fun _ _ z => False.elim z
end
section
variable {X : Cx} {st : Stmt} {rest : List Stmt} {t u : TS} {e : Expr} {te : TE} {pos : Pos}
def zuz : TS := fun D σ H => D.nx σ H
def zv1 (t u : TS) : TS := fun D σ H => t { D with nx := u D } σ H
theorem zqF : PSs X [] zuz := fun _ _ σ H _ I h => wpAny_execs_nil ⟨σ, H, I, h⟩
theorem zoI (h1 : PS X st t) (h2 : PSs X rest u) : PSs X (st :: rest) (zv1 t u) := by
 intro pins s σ H D I h
 refine wpAny_execs_cons (thn (h1 pins s σ H { D with nx := u D } I h) fun f s1 q => ?_)
 cases f with
 | next =>
  obtain ⟨σ', H', I', q⟩ := q
  exact h2 pins s1 σ' H' D I' q
 | ret v => exact q
 | brk => exact q
 | cont => exact q
theorem zqE (h1 : PS X st t) : PSs X [st] t := by
 intro pins s σ H D I h
 refine wpAny_execs_cons (thn (h1 pins s σ H D I h) fun f s1 q => ?_)
 cases f with
 | next => exact wpAny_execs_nil q
 | ret v => exact q
 | brk => exact q
 | cont => exact q
theorem Inv.quiet {pins : List (Addr × Obj)} {σ : St} {H : Hp} {s : Shared} (I : Inv X pins σ H s) : interactive X.env = false := by simp [interactive, I.ok.kind]
def zuA (te : TE) : TS := fun D σ H => te σ H fun _ H1 => D.nx σ H1
theorem zmJ (he : PE X e te) (hs : swapsWith e none pos.line X.env = pure false := by rfl) : PS X (.Expr e pos) (zuA te) := by
 intro pins s σ H D I h
 exact wpAny_Expr_any (thn (he pins s σ H _ I h) fun v s1 ⟨x, H1, I1, r1, q1⟩ => ⟨σ, H1, I1, q1⟩) I.quiet hs
def zv3 (te : TE) : TS := fun D σ H => te σ H D.rt
theorem zmI (he : PE X e te) : PS X (.Return (some e) pos) (zv3 te) := by
 intro pins s σ H D I h
 exact wpAny_Return_some (thn (he pins s σ H _ I h) fun v s1 ⟨x, H1, I1, r1, q1⟩ => ⟨x, σ, H1, I1, r1, q1⟩)
def zv7 (c : TT) (t u : TS) : TS := fun D σ H => c σ H fun b H1 => if b = true then t D σ H1 else u D σ H1
theorem zuN {c : Expr} {a b : List Stmt} {tc : TT} (hc : PT X c tc) (ha : PSs X a t) (hb : PSs X b u) : PS X (.If c a b pos) (zv7 tc t u) := by
 intro pins s σ H D I h
 refine wpAny_If (thn (hc pins s σ H _ I h) fun d s1 ⟨H1, I1, q1⟩ => ?_)
 cases d with
 | true => exact ha pins s1 σ H1 D I1 q1
 | false => exact hb pins s1 σ H1 D I1 q1
def zrM : TS := fun _ _ _ => False
theorem zoK : PS X st zrM := fun _ _ _ _ _ _ h => h.elim
end
abbrev TG := V -> St -> Hp -> (St -> Hp -> Prop) -> Prop
abbrev TGs := List V -> St -> Hp -> (St -> Hp -> Prop) -> Prop
def PG (X : Cx) (target : Expr) (t : TG) : Prop :=
 ∀ (pins : List (Addr × Obj)) (s : Shared) (σ : St) (H : Hp) (v : V) (u : Value) (Q : St -> Hp -> Prop), Inv X pins σ H s -> RelV v u -> t v σ H Q ->
  wpAny (model X.prog X.w) X.A (assign target X.env u) (fun _ s' => ∃ σ' H', Inv X pins σ' H' s' /\ Q σ' H') X.xe s
def PGs (X : Cx) (ts : List Expr) (t : TGs) : Prop :=
 ∀ (pins : List (Addr × Obj)) (s : Shared) (σ : St) (H : Hp) (vs : List V) (us : List Value) (Q : St -> Hp -> Prop), Inv X pins σ H s -> Vals vs us -> t vs σ H Q ->
  wpAny (model X.prog X.w) X.A (assignInOrder ((assignEach ts X.env).map (·.2)) us) (fun _ s' => ∃ σ' H', Inv X pins σ' H' s' /\ Q σ' H') X.xe s
abbrev zvE := V -> V -> V -> Hp -> (Hp -> Prop) -> Prop
def zvV (X : Cx) (t : zvE) : Prop :=
 ∀ (pins : List (Addr × Obj)) (s : Shared) (σ : St) (H : Hp) (o i v : V) (ov iv u : Value) (Q : Hp -> Prop), Inv X pins σ H s -> RelV o ov -> RelV i iv -> RelV v u -> t o i v H Q ->
  wpAny (model X.prog X.w) X.A (setItem ov iv u) (fun _ s' => ∃ H', Inv X pins σ H' s' /\ Q H') X.xe s
section
variable {X : Cx} {pos : Pos}
def znB (i : Nat) : TG := fun v σ H Q => Q (σ.set i (some v)) H
theorem zqQ {i : Nat} {x : Str} (hN : X.N.Nodup) (hi : X.N[i]? = some x) (hx : Loc X.env.scope x) (hf : X.fn x = true \/ X.env.scope.names.lookup x = some .local := by first | exact .inl rfl | exact .inr rfl | assumption) : PG X (.Name x pos) (znB i) := by
 intro pins s σ H v u Q I r h
 exact wpAny_assign_Name (zgh I hN hi hx r (fun s' I' => ⟨_, H, I', h⟩) hf)
def zwz : TGs := fun vs σ H Q => vs = [] /\ Q σ H
def zu9 (t : TG) (u : TGs) : TGs := fun vs σ H Q => ∃ v r, vs = v :: r /\ t v σ H fun σ' H' => u r σ' H' Q
theorem zqP : PGs X [] zwz := by
 intro pins s σ H vs us Q I r h
 obtain ⟨e, h⟩ := h
 subst e
 cases r
 exact assignInOrder_nil ⟨σ, H, I, h⟩
theorem zoO {e : Expr} {es : List Expr} {t : TG} {u : TGs} (h1 : PG X e t) (h2 : PGs X es u)
  (hs : (assignEach (e :: es) X.env).map (·.2) = assign e X.env :: (assignEach es X.env).map (·.2) := by rfl) : PGs X (e :: es) (zu9 t u) := by
 intro pins s σ H vs us Q I r h
 obtain ⟨v, vr, e1, h⟩ := h
 subst e1
 cases r with
 | cons r rr =>
  rw [hs]
  refine assignInOrder_cons (thn (h1 pins s σ H _ _ _ I r h) fun _ s1 ⟨σ1, H1, I1, q1⟩ => ?_)
  exact h2 pins s1 σ1 H1 _ _ Q I1 rr q1
def zwx (K : PySem.W.Frag) (n : Nat) (t : TGs) : TG := fun v σ H Q => ∃ a xs, v = .ref a /\ SqT K H a xs /\ xs.length = n /\ t xs σ H Q
theorem zr9 {es : List Expr} {k : Nat} {t : TGs} {n : Nat} (hc : X.calm = true) (h : PGs X es t)
  (hn : (assignEach es X.env).length = n := by rfl) (hst : (assignEach es X.env).findIdx? (·.1) = none := by rfl) : PG X (.Tuple es k pos) (zwx X.K n t) := by
 intro pins s σ H v u Q I r hw
 obtain ⟨a, xs, e1, hq, hl, hw⟩ := hw
 subst e1
 cases r
 obtain ⟨its, rv, ht, hz⟩ := I.tuple hq
 refine assign_Tuple_tuple (I.ok.hd hc) ht (by simp [hn, <- hl, rv.length]) hst fun h' hx => ?_
 have I1 : Inv X pins σ H { s with heap := h' } := I.kept (t' := s.toks) fun b o e => hx b o (Nat.ne_of_lt (Heap.lt_size e)) e
 exact h pins _ σ H xs _ Q I1 (by simpa using rv) hw
def zwy (to ti : TE) (t : zvE) : TG := fun v σ H Q => to σ H fun o H1 => ti σ H1 fun i H2 => t o i v H2 fun H3 => Q σ H3
theorem zsa {o i : Expr} {to ti : TE} {t : zvE} (ho : PE X o to) (hi : PE X i ti) (hs : zvV X t)
  (ha : ∀ v, assign (.Subscript o i pos) X.env v = (do
   let ov <- holding [v] (eval o X.env)
   let iv <- holding [v, ov] (eval i X.env)
   standAt pos
   holding [v, ov, iv] (setItem ov iv v)
   release [v, ov, iv] []) := by intro _; rfl) : PG X (.Subscript o i pos) (zwy to ti t) := by
 intro pins s σ H v u Q I r h
 rw [ha]
 refine wpAny_bind (wpAny_holding (thn (ho pins s σ H _ I h) fun ov s1 ⟨x, H1, I1, r1, q1⟩ => ?_))
 refine wpAny_bind (wpAny_holding (thn (hi pins s1 σ H1 _ I1 q1) fun iv s2 ⟨y, H2, I2, r2, q2⟩ => ?_))
 refine wpAny_bind (wpAny_standAt (wpAny_bind (wpAny_holding (thn (hs pins s2 σ H2 x y v ov iv u _ I2 r1 r2 r q2) fun _ s3 ⟨H3, I3, q3⟩ => ?_))))
 exact wpAny_release ⟨σ, H3, I3, q3⟩
def zrQ (te : TE) (g : TG) : TS := fun D σ H => te σ H fun x H1 => g x σ H1 D.nx
theorem zr6 {tg e : Expr} {te : TE} {g : TG} (he : PE X e te) (hg : PG X tg g) (hs : swapsWithSole [tg] e pos.line X.env = pure false := by rfl) (hw : swappedStores [tg] e X.env = pure none := by rfl)
  (h1 : (assignEach [tg] X.env).map (·.2) = [assign tg X.env] := by rfl) : PS X (.Assign [tg] e pos) (zrQ te g) := by
 intro pins s σ H D I h
 refine wpAny_Assign_stores (thn (he pins s σ H _ I h) fun v s1 ⟨x, H1, I1, r1, q1⟩ => ?_) hs hw
 rw [h1]
 exact thn (hg pins s1 σ H1 x v _ I1 r1 q1) fun _ s2 q => q
theorem zpH {i : Nat} {x : Str} {e : Expr} {te : TE} {pos' : Pos} (hN : X.N.Nodup) (hi : X.N[i]? = some x) (hx : Loc X.env.scope x) (he : PE X e te) (hs : swapsWith e (some (.Name x pos')) pos.line X.env = pure false := by rfl) (hf : X.fn x = true \/ X.env.scope.names.lookup x = some .local := by first | exact .inl rfl | exact .inr rfl | assumption) :
  PS X (.Assign [.Name x pos'] e pos) (zrQ te (znB i)) := by
 intro pins s σ H D I h
 refine wpAny_Assign_Name (thn (he pins s σ H _ I h) fun v s1 ⟨y, H1, I1, r1, q1⟩ => ?_) hs
 exact zgh I1 hN hi hx r1 (fun s2 I2 => ⟨_, H1, I2, q1⟩) hf
def zv4 (i j : Nat) (ta : TA) : TS := fun D σ H => ta σ H fun vs H1 => ∃ v w, vs = [v, w] /\ D.nx ((σ.set i (some v)).set j (some w)) H1
theorem zr4 {i j : Nat} {x y : Str} {a b : Expr} {ta : TA} {px py pt : Pos} {kt k2 pt2} (hc : X.calm = true) (hN : X.N.Nodup) (hi : X.N[i]? = some x) (hj : X.N[j]? = some y) (hij : i ≠ j)
  (hx : X.env.scope.names.lookup x = some .local) (hy : X.env.scope.names.lookup y = some .local) (ha : PA X [a, b] ta)
  (hw : swappedStores [.Tuple [.Name x px, .Name y py] kt pt] (.Tuple [a, b] k2 pt2) X.env = pure (some [x, y]))
  (hs : swapsWithSole [.Tuple [.Name x px, .Name y py] kt pt] (.Tuple [a, b] k2 pt2) pos.line X.env = pure false := by rfl) :
  PS X (.Assign [.Tuple [.Name x px, .Name y py] kt pt] (.Tuple [a, b] k2 pt2) pos) (zv4 i j ta) := by
 intro pins s σ H D I h
 rw [exec_Assign_arm]
 refine wpAny_bind (wpAny_standAt ?_)
 rw [hs]
 refine wpAny_bind (wpAny_pure ?_)
 rw [if_neg (by decide)]
 refine wpAny_bind (Tuple_ (thn (ha _ pins s σ H _ I h) fun us s1 ⟨vs, H1, I1, r1, q1⟩ => ?_))
 obtain ⟨v, w, e1, q1⟩ := q1
 subst e1
 obtain ⟨u1, u2, rfl, rv, rw'⟩ : ∃ u1 u2, us = [u1, u2] /\ RelV v u1 /\ RelV w u2 := by
  cases r1 with
  | cons p q =>
   cases q with
   | cons p' q' =>
    cases q'
    exact ⟨_, _, rfl, p, p'⟩
 refine wpAny_newObj_type ?_ (by show 2 <= sizeLine; decide)
 have I2 : Inv X pins σ H1 { s1 with heap := s1.heap.push { cls := .type "tuple", data := .seq [u1, u2].toArray } } := I1.kept (t' := s1.toks) fun b o e => Heap.get?_push_of_some _ e
 rw [hw]
 refine wpAny_bind (wpAny_pure ?_)
 show wpAny (model X.prog X.w) X.A (do rule "assign.swapped-stores"; let items <- unpackItems (.ref s1.heap.objs.size) 2 none; assignInOrder [fun v => bindName X.env y v, fun v => bindName X.env x v] items.reverse; pure Flow.next) _ _ _
 refine wpAny_bind (wpAny_rule (wpAny_bind (unpackItems_tuple (items := #[u1, u2]) (I.ok.hd hc) (IsTup.new s1.heap _) fun h' hx' => ?_)))
 have I3 := I2.kept (h' := h') (t' := s1.toks) fun b o e => hx' b o (Nat.ne_of_lt (Heap.lt_size e)) e
 show wpAny _ _ (assignInOrder [fun v => bindName X.env y v, fun v => bindName X.env x v] [u2, u1] >>= fun _ => pure Flow.next) _ _ _
 refine wpAny_bind (assignInOrder_cons (wpAny_bindName (zgh I3 hN hj (.inl hy) rw' (fun s2 I4 => ?_) (.inr hy))))
 refine assignInOrder_cons (wpAny_bindName (zgh I4 hN hi (.inl hx) rv (fun s3 I5 => assignInOrder_nil (wpAny_pure ?_)) (.inr hx)))
 rw [List.set_comm _ _ (Ne.symm hij)] at I5
 exact ⟨_, H1, I5, q1⟩
end
section
variable {X : Cx} {pos : Pos}
def zrK (c : TT) (tb : TS) : TS := fun D σ H => ∃ W : Nat -> St -> Hp -> Prop, (∃ m, W m σ H) /\ ∀ m σ H, W m σ H ->
 c σ H fun b H1 => if b = true then ∃ N : St -> Hp -> Prop, (∀ σ' H', N σ' H' -> ∃ m', m' < m /\ W m' σ' H') /\ tb { D with nx := N, ct := N, bk := D.nx } σ H1 else D.nx σ H1
theorem zoJ {c : Expr} {body : List Stmt} {tc : TT} {tb : TS} (hp : PassesOwn (model X.prog X.w) X.A X.env X.xe) (hc : PT X c tc) (hb : PSs X body tb) : PS X (.While c body [] pos) (zrK tc tb) := by
 intro pins s σ H D I h
 obtain ⟨W, ⟨m0, w0⟩, turn⟩ := h
 refine wpAny_While (codeAny_whileLoop (fun n s' => ∃ σ' H', Inv X pins σ' H' s' /\ W n σ' H') ?_ m0 ⟨σ, H, I, w0⟩)
 rintro n s1 ⟨σ1, H1, I1, w1⟩
 refine wpAny_passesOwn hp (thn (hc pins s1 σ1 H1 _ I1 (turn n σ1 H1 w1)) fun b s2 ⟨H2, I2, q2⟩ => ?_)
 cases b with
 | true =>
  obtain ⟨N, hN, q2⟩ := q2
  rw [if_pos rfl]
  refine wpAny_passesOwn hp (thn (hb pins s2 σ1 H2 _ I2 q2) fun f s3 q3 => ?_)
  cases f with
  | next =>
   obtain ⟨σ3, H3, I3, n3⟩ := q3
   obtain ⟨m', hm, w3⟩ := hN σ3 H3 n3
   exact ⟨m', hm, σ3, H3, I3, w3⟩
  | cont =>
   obtain ⟨σ3, H3, I3, n3⟩ := q3
   obtain ⟨m', hm, w3⟩ := hN σ3 H3 n3
   exact ⟨m', hm, σ3, H3, I3, w3⟩
  | brk => exact q3
  | ret v => exact q3
 | false =>
  rw [if_neg Bool.false_ne_true]
  exact wpAny_execs_nil ⟨σ1, H2, I2, q2⟩
end
structure It where
 go : Nat -> Hp -> Prop
 yld : Nat -> Hp -> V -> Hp -> Prop
 stop : Nat -> Hp -> Prop
def zh0 (X : Cx) (pins : List (Addr × Obj)) (H : Hp) (b : Addr) : Prop :=
 H b = none /\ b ≠ X.env.locals /\ b ∉ X.fs /\ (b ∈ X.ex \/ X.s₀.heap.objs.size <= b) /\ (∀ x c, X.env.cells.lookup x = some c -> c ≠ b) /\ ∀ p ∈ X.pn ++ pins, p.1 ≠ b
theorem Inv.zph {X : Cx} {pins : List (Addr × Obj)} {σ : St} {H H' : Hp} {s : Shared} {b : Addr} (I : Inv X pins σ H s) (hb : s.heap.objs.size <= b) (hn : H' b = none) : zh0 X pins H' b := by
 refine ⟨hn, Nat.ne_of_gt (Nat.lt_of_lt_of_le I.lt hb), I.zwm hb, .inr (Nat.le_trans I.sz hb), fun x c e z => ?_, fun p hp z => ?_⟩
 ·obtain ⟨v, q⟩ := I.cell x c e
  exact absurd (Nat.lt_of_lt_of_le q.lt (by rw [z]; exact hb)) (Nat.lt_irrefl _)
 ·exact absurd (Nat.lt_of_lt_of_le (Heap.lt_size (I.pin p hp).1) (by rw [z]; exact hb)) (Nat.lt_irrefl _)
structure Turn (P : Program) (w : World) (K : PySem.W.Frag) (tg : Expr) (J : It) (fp : List Addr) (it : Addr) (tn : Nat -> Heap -> Prop) : Prop where
 mem : it ∈ fp
 obj : ∀ i h, tn i h -> ∀ b ∈ fp, ∃ o, h.get? b = some o /\ ∀ v, o.data ≠ .cell v
 keep : ∀ i h h', tn i h -> (∀ b ∈ fp, ∀ o, h.get? b = some o -> h'.get? b = some o) -> tn i h'
 item : ∀ (X : Cx), X.prog = P -> X.w = w -> X.K = K -> X.calm = true -> ∀ (i : Nat) (pins : List (Addr × Obj)) (s : Shared) (σ : St) (H : Hp) (E : Value -> Shared -> Prop), Inv X pins σ H s -> (∀ b ∈ fp, zh0 X pins H b) -> tn i s.heap -> J.go i H ->
  wpAny (model P w) X.A (pyNext (.ref it)) (fun r s1 => ∃ u, r = some u /\
   wpAny (model P w) X.A (letOwnedTupleGo tg (.ref it) u) (fun _ s2 => ∃ x H', Inv X pins σ H' s2 /\ RelV x u /\ J.yld i H x H' /\ tn (i + 1) s2.heap /\ ∀ b ∈ fp, H' b = none) E s1) E s
 done : ∀ (X : Cx), X.prog = P -> X.w = w -> X.K = K -> X.calm = true -> ∀ (i : Nat) (pins : List (Addr × Obj)) (s : Shared) (σ : St) (H : Hp) (E : Value -> Shared -> Prop), Inv X pins σ H s -> (∀ b ∈ fp, zh0 X pins H b) -> tn i s.heap -> J.stop i H ->
  wpAny (model P w) X.A (pyNext (.ref it)) (fun r s1 => r = none /\ Inv X pins σ H s1) E s
 self : ∀ (A : Around) (i : Nat) (s : Shared) (Q : Value -> Shared -> Prop) (E : Value -> Shared -> Prop), tn i s.heap -> Q (.ref it) s -> wpAny (model P w) A (pyIter (.ref it)) Q E s
abbrev TI := St -> Hp -> (It -> Hp -> Prop) -> Prop
def PIE (X : Cx) (pins : List (Addr × Obj)) (σ : St) (tg : Expr) (R : It -> Hp -> Prop) (itv : Value) (s2 : Shared) : Prop :=
 ∃ (it : Addr) (fp : List Addr) (tn : Nat -> Heap -> Prop) (J : It) (H' : Hp), itv = .ref it /\ Inv X pins σ H' s2 /\ Turn X.prog X.w X.K tg J fp it tn /\ tn 0 s2.heap /\ (∀ b ∈ fp, zh0 X pins H' b) /\ R J H'
def PI (X : Cx) (tg iter : Expr) (wi : TI) : Prop :=
 ∀ (pins : List (Addr × Obj)) (s : Shared) (σ : St) (H : Hp) (R : It -> Hp -> Prop), Inv X pins σ H s -> wi σ H R ->
  wpAny (model X.prog X.w) X.A (eval iter X.env) (fun v s1 => wpAny (model X.prog X.w) X.A (pyIter v) (PIE X pins σ tg R) X.xe s1) X.xe s
theorem zny {M : Model} {A : Around} {E : Value -> Shared -> Prop} {s : Shared} {tg : Expr} {it : Addr} {u : Value} {o : Obj} {n : String} {vs : Array Value} {Q : Unit -> Shared -> Prop} (ho : s.heap.get? it = some o) (hc : o.cls = .type n) (hd : o.data = .fields vs)
    (hn : ["enumerate", "zip", "dict_itemiterator", "dict_reverseitemiterator", "odict_iterator", "itertools.zip_longest", "itertools.pairwise"].contains n = false) (hQ : Q () s) : wpAny M A (letOwnedTupleGo tg (.ref it) u) Q E s := by
  unfold letOwnedTupleGo
  cases tg <;> first
    | exact wpAny_pure hQ
    | (cases u <;> first
        | exact wpAny_pure hQ
        | (refine wpAny_bind (wpAny_load ho ?_)
           rw [hc, hd]
           show wpAny M A (if (["enumerate", "zip", "dict_itemiterator", "dict_reverseitemiterator", "odict_iterator", "itertools.zip_longest", "itertools.pairwise"].contains n && vs[0]? == some (rawInt _)) = true then _ else _) Q E s
           rw [if_neg (by intro h; rw [hn, Bool.false_and] at h; cases h)]
           exact wpAny_pure hQ))
def Itl (K : PySem.W.Frag) (a : Addr) : It :=
 ⟨fun i H => ∃ xs x, SqL K H a xs /\ xs[i]? = some x, fun i H x H' => H' = H /\ ∀ xs, SqL K H a xs -> xs[i]? = some x, fun i H => ∃ xs, SqL K H a xs /\ xs.length <= i⟩
def Itt (K : PySem.W.Frag) (a : Addr) : It :=
 ⟨fun i H => ∃ xs x, SqT K H a xs /\ xs[i]? = some x, fun i H x H' => H' = H /\ ∀ xs, SqT K H a xs -> xs[i]? = some x, fun i H => ∃ xs, SqT K H a xs /\ xs.length <= i⟩
def Itr (lo : Int) (n : Nat) : It := ⟨fun i _ => i < n, fun i H x H' => H' = H /\ x = .int (lo + i), fun i _ => n <= i⟩
theorem zmd {P : Program} {w : World} {K : PySem.W.Frag} {tg : Expr} (a it : Addr) : Turn P w K tg (Itl K a) [it] it (fun i h => h.IsListIter it a i) where
 mem := by simp
 obj := fun i h st b hb => by
  have e : b = it := by simpa using hb
  subst e
  obtain ⟨o, e, c, d⟩ := st
  exact ⟨o, e, fun v z => by rw [d] at z; cases z⟩
 keep := fun i h h' st k => st.at fun o e => k it (by simp) o e
 item := by
  intro X hP hw hK hc i pins s σ H E I hf st hg
  subst hP hw hK
  obtain ⟨xs, x, hq, hx⟩ := hg
  obtain ⟨its, rv, p, hz⟩ := I.list hq
  obtain ⟨u, hu, ru⟩ := rv.get hx
  obtain ⟨f0, f1, f2, f3, f4, f5⟩ := hf it (by simp)
  refine wpAny_pyNext_list_item st p.isList (x := u) (by simpa using hu) fun h' st' sb => ?_
  have I1 : Inv X pins σ H { s with heap := h' } := I.turned (t' := s.toks) (fun b o hb e => (sb.2 b hb).trans e) f0 f1 f3 f4 f5
  obtain ⟨o, e, c, d⟩ := id st'
  exact ⟨u, rfl, zny (s := { s with heap := h' }) e c d (by decide) ⟨x, H, I1, ru, ⟨rfl, fun ys hy => by rw [I.zo5 hy hq]; exact hx⟩, st', fun b hb => (hf b hb).1⟩⟩
 done := by
  intro X hP hw hK hc i pins s σ H E I hf st hg
  subst hP hw hK
  obtain ⟨xs, hq, hx⟩ := hg
  obtain ⟨its, rv, p, hz⟩ := I.list hq
  obtain ⟨f0, f1, f2, f3, f4, f5⟩ := hf it (by simp)
  have hl := rv.length
  exact wpAny_pyNext_list_end (I.ok.hd hc) st p.isList (by simp; omega) fun h' eb => ⟨rfl, I.turned (t' := s.toks) (fun b o hb e => eb b o hb e) f0 f1 f3 f4 f5⟩
 self := fun _ _ _ _ _ st h => wpAny_pyIter_listiter st h
theorem zlq {P : Program} {w : World} {K : PySem.W.Frag} {tg : Expr} (a it : Addr) : Turn P w K tg (Itt K a) [it] it (fun i h => h.IsTupleIter it a i) where
 mem := by simp
 obj := fun i h st b hb => by
  have e : b = it := by simpa using hb
  subst e
  obtain ⟨o, e, c, d⟩ := st
  exact ⟨o, e, fun v z => by rw [d] at z; cases z⟩
 keep := fun i h h' st k => st.at fun o e => k it (by simp) o e
 item := by
  intro X hP hw hK hc i pins s σ H E I hf st hg
  subst hP hw hK
  obtain ⟨xs, x, hq, hx⟩ := hg
  obtain ⟨its, rv, p, hz⟩ := I.tuple hq
  obtain ⟨u, hu, ru⟩ := rv.get hx
  obtain ⟨f0, f1, f2, f3, f4, f5⟩ := hf it (by simp)
  refine wpAny_pyNext_tuple_item st (show s.heap.IsTuple a its.toArray from p) (x := u) (by simpa using hu) fun h' st' sb => ?_
  have I1 : Inv X pins σ H { s with heap := h' } := I.turned (t' := s.toks) (fun b o hb e => (sb.2 b hb).trans e) f0 f1 f3 f4 f5
  obtain ⟨o, e, c, d⟩ := id st'
  exact ⟨u, rfl, zny (s := { s with heap := h' }) e c d (by decide) ⟨x, H, I1, ru, ⟨rfl, fun ys hy => by rw [I.zmf hy hq]; exact hx⟩, st', fun b hb => (hf b hb).1⟩⟩
 done := by
  intro X hP hw hK hc i pins s σ H E I hf st hg
  subst hP hw hK
  obtain ⟨xs, hq, hx⟩ := hg
  obtain ⟨its, rv, p, hz⟩ := I.tuple hq
  obtain ⟨f0, f1, f2, f3, f4, f5⟩ := hf it (by simp)
  have hl := rv.length
  exact wpAny_pyNext_tuple_end (I.ok.hd hc) st (show s.heap.IsTuple a its.toArray from p) (by simp; omega) fun h' eb => ⟨rfl, I.turned (t' := s.toks) (fun b o hb e => eb b o hb e) f0 f1 f3 f4 f5⟩
 self := fun _ _ _ _ _ st h => wpAny_pyIter_tupleiter st h
theorem zlr {P : Program} {w : World} {K : PySem.W.Frag} {tg : Expr} (it : Addr) (lo : Int) (n : Nat) : Turn P w K tg (Itr lo n) [it] it (fun i h => IsRangeIter h it (lo + (i : Nat) * 1) ((n : Int) - (i : Nat)) 1) where
 mem := by simp
 obj := fun i h st b hb => by
  have e : b = it := by simpa using hb
  subst e
  exact ⟨_, st, fun v z => by
   have z' : Data.fields _ = Data.cell v := z
   cases z'⟩
 keep := fun i h h' st k => k it (by simp) _ st
 item := by
  intro X hP hw hK hc i pins s σ H E I hf st hg
  subst hP hw hK
  obtain ⟨f0, f1, f2, f3, f4, f5⟩ := hf it (by simp)
  have W := Walks.range (prog := X.prog) (w := X.w) (I.ok.hd hc) it lo 1 n
  refine W.item i s _ _ hg st fun v h' tk hv st' kk => ?_
  obtain ⟨t, rfl⟩ := hv
  have I1 : Inv X pins σ H { s with heap := h', toks := tk } := I.turned (fun b o hb e => kk b o (by simpa using hb) e) f0 f1 f3 f4 f5
  refine ⟨_, rfl, zny (s := { s with heap := h', toks := tk }) (n := "range_iterator") st' rfl rfl (by decide) ⟨.int (lo + i), H, I1, ⟨t, ?_⟩, ⟨rfl, rfl⟩, st', fun b hb => (hf b hb).1⟩⟩
  rw [Int.mul_one]
 done := by
  intro X hP hw hK hc i pins s σ H E I hf st hg
  subst hP hw hK
  obtain ⟨f0, f1, f2, f3, f4, f5⟩ := hf it (by simp)
  exact wpAny_pyNext_range_end (I.ok.hd hc) st (by have : n <= i := hg; omega) fun h' eb => ⟨rfl, I.turned (t' := s.toks) (fun b o hb e => eb b o hb e) f0 f1 f3 f4 f5⟩
 self := fun _ _ _ _ _ st h => wpAny_pyIter_rangeiter st h
end L2
namespace L2
open PySem PySem.Spec PyProof.Rows
section
variable {X : Cx} {tg : Expr}
theorem zkK {pins : List (Addr × Obj)} {σ : St} {H : Hp} {s : Shared} {R : It -> Hp -> Prop} {E : Value -> Shared -> Prop} {lo hi : Int} {t u v : Tok} {tk : Nat} (I : Inv X pins σ H s) (h1 : -(2 ^ 62) <= lo) (h2 : lo < 2 ^ 62) (h3 : -(2 ^ 62) <= hi) (h4 : hi < 2 ^ 62)
  (q : R (Itr lo (hi - lo).toNat) H) : wpAny (model X.prog X.w) X.A (pyIter (.ref s.heap.objs.size)) (PIE X pins σ tg R) E { s with heap := s.heap.push { cls := .type "range", data := .fields #[.int lo t, .int hi u, .int 1 v] }, toks := tk } := by
 refine wpAny_pyIter_range (IsRange.new ..) (small_one h1 h2 h3 h4) ?_
 have I1 : Inv X pins σ H { s with heap := s.heap.push { cls := .type "range", data := .fields #[.int lo t, .int hi u, .int 1 v] }, toks := tk } := I.kept fun b o e => Heap.get?_push_of_some _ e
 refine ⟨(s.heap.push { cls := .type "range", data := .fields #[.int lo t, .int hi u, .int 1 v] }).objs.size, [(s.heap.push { cls := .type "range", data := .fields #[.int lo t, .int hi u, .int 1 v] }).objs.size], _, _, H, rfl,
  I1.kept (t' := tk) fun b o e => Heap.get?_push_of_some _ e, zlr _ lo (hi - lo).toNat, ?_, fun b hb => ?_, q⟩
 ·have e1 : lo + ((0 : Nat) : Int) * 1 = lo := by simp
  have e2 : (((hi - lo).toNat : Nat) : Int) - ((0 : Nat) : Int) = Builtin.Range.rangeSize lo hi 1 := by rw [rangeSize_one]; split <;> omega
  show IsRangeIter _ _ (lo + ((0 : Nat) : Int) * 1) ((((hi - lo).toNat : Nat) : Int) - ((0 : Nat) : Int)) 1
  rw [e1, e2]
  exact Heap.get?_push_size _ rfl
 ·have e : b = (s.heap.push { cls := .type "range", data := .fields #[.int lo t, .int hi u, .int 1 v] }).objs.size := by simpa using hb
  subst e
  exact I1.zph (Nat.le_refl _) (I1.hok.fresh (Nat.le_refl _))
def zu7 (ta : TA) : TI := fun σ H R => ta σ H fun vs H1 => ∃ j : Int, vs = [.int j] /\ -(2 ^ 62) <= j /\ j < 2 ^ 62 /\ R (Itr 0 j.toNat) H1
def zu6 (ta : TA) : TI := fun σ H R => ta σ H fun vs H1 => ∃ i j : Int, vs = [.int i, .int j] /\ (-(2 ^ 62) <= i /\ i < 2 ^ 62 /\ -(2 ^ 62) <= j /\ j < 2 ^ 62) /\ R (Itr i (j - i).toNat) H1
theorem zmQ {a : Expr} {ta : TA} {p pos : Pos} (hg : Gl X "range") (hm : X.mg "range" = none) (ha : PA X [a] ta) (hs : starEach [a] X.env = [(false, eval a X.env)] := by rfl) : PI X tg (.Call (.Name "range" p) [a] [] pos) (zu7 ta) := by
 intro pins s σ H R I h
 refine Call_ (zhO I hg hm boot_range (PyProof.Rows.callWith_type1 (thn (ha pos pins s σ H _ I h) fun us s1 ⟨vs, H1, I1, r1, q1⟩ => ?_) hs rfl))
 obtain ⟨j, e, q1, q2, q⟩ := q1
 subst e
 cases r1 with
 | cons r rr =>
  cases rr
  obtain ⟨t, rfl⟩ := r
  exact call_range_1 (zkK I1 (by omega) (by omega) q1 q2 (by simpa using q))
theorem zmP {a b : Expr} {ta : TA} {p pos : Pos} (hg : Gl X "range") (hm : X.mg "range" = none) (ha : PA X [a, b] ta) (hs : starEach [a, b] X.env = [(false, eval a X.env), (false, eval b X.env)] := by rfl) (hs2 : starEach [b] X.env = [(false, eval b X.env)] := by rfl) :
  PI X tg (.Call (.Name "range" p) [a, b] [] pos) (zu6 ta) := by
 intro pins s σ H R I h
 refine Call_ (zhO I hg hm boot_range (PyProof.Rows.callWith_type1 (thn (ha pos pins s σ H _ I h) fun us s1 ⟨vs, H1, I1, r1, q1⟩ => ?_) (by rw [hs, hs2]) (by rw [hs2]; rfl)))
 obtain ⟨i, j, e, ⟨q1, q2, q3, q4⟩, q⟩ := q1
 subst e
 cases r1 with
 | cons r rr =>
  cases rr with
  | cons r' rr =>
   cases rr
   obtain ⟨t, rfl⟩ := r
   obtain ⟨t', rfl⟩ := r'
   exact call_range_2 (zkK I1 q1 q2 q3 q4 q)
def zv8 (wi : TI) (g : TG) (tb : TS) : TS := fun D σ H => wi σ H fun J H1 => ∃ W : Nat -> Nat -> St -> Hp -> Prop, (∃ m, W 0 m σ H1) /\ ∀ i m σ H, W i m σ H ->
 (J.stop i H /\ D.nx σ H) \/ (J.go i H /\ ∃ N : St -> Hp -> Prop, (∀ σ' H', N σ' H' -> ∃ m', m' < m /\ W (i + 1) m' σ' H') /\ ∀ x H', J.yld i H x H' -> g x σ H' fun σ2 H2 => tb { D with nx := N, ct := N, bk := D.nx } σ2 H2)
def zhL (fp : List Addr) (h : Heap) : List (Addr × Obj) := fp.filterMap fun b => (h.get? b).map fun o => (b, o)
theorem zct {fp : List Addr} {h : Heap} {b : Addr} {o : Obj} (hb : b ∈ fp) (e : h.get? b = some o) : (b, o) ∈ zhL fp h := List.mem_filterMap.mpr ⟨b, hb, by rw [e]; rfl⟩
theorem zmU {fp : List Addr} {h : Heap} {p : Addr × Obj} (hp : p ∈ zhL fp h) : p.1 ∈ fp /\ h.get? p.1 = some p.2 := by
 obtain ⟨b, hb, e⟩ := List.mem_filterMap.mp hp
 cases q : h.get? b with
 | none => rw [q] at e; cases e
 | some o =>
  rw [q] at e
  have e' : (b, o) = p := Option.some.inj e
  subst e'
  exact ⟨hb, q⟩
theorem Inv.pinned {pins : List (Addr × Obj)} {σ : St} {H : Hp} {s : Shared} {fp : List Addr} (I : Inv X pins σ H s) (hf : ∀ b ∈ fp, zh0 X pins H b) (ho : ∀ b ∈ fp, ∃ o, s.heap.get? b = some o /\ ∀ v, o.data ≠ .cell v) : Inv X (pins ++ zhL fp s.heap) σ H s :=
 I.zit fun p hp => (List.mem_append.mp hp).elim (fun z => I.pin p (List.mem_append_right _ z)) fun z => by
  obtain ⟨hb, e⟩ := zmU z
  obtain ⟨f0, f1, f2, _⟩ := hf p.1 hb
  obtain ⟨o, e', d⟩ := ho p.1 hb
  rw [e] at e'; cases e'
  exact ⟨e, f0, f1, f2, d⟩
theorem Inv.zdh {pins pl : List (Addr × Obj)} {σ : St} {H : Hp} {s : Shared} (I : Inv X (pins ++ pl) σ H s) : Inv X pins σ H s := I.zit fun p hp => I.pin p (List.mem_append_right _ (List.mem_append_left _ hp))
theorem zr5 {iter : Expr} {body : List Stmt} {wi : TI} {g : TG} {tb : TS} {pos : Pos} (hp : PassesOwn (model X.prog X.w) X.A X.env X.xe) (hc : X.calm = true) (hi : PI X tg iter wi) (hg : PG X tg g) (hb : PSs X body tb)
  (hs : ∀ x, foldedSetIterable iter X.env x = pure x := by intro _; rfl) : PS X (.For tg iter body [] pos) (zv8 wi g tb) := by
 intro pins s σ H D I h
 refine wpAny_For (thn (hi pins s σ H _ I h) fun v s1 h1 => thn h1 fun itv s2 h2 => ?_) hs
 obtain ⟨it, fp, tn, J, H2, e, I2, T, st2, f2, W, ⟨m0, w0⟩, turn⟩ := h2
 subst e
 have stat : ∀ {H' : Hp}, (∀ b ∈ fp, H' b = none) -> ∀ b ∈ fp, zh0 X pins H' b := fun hn b hb => ⟨hn b hb, (f2 b hb).2⟩
 refine codeAny_forLoop_any (fun n s' => ∃ i σ' H', Inv X pins σ' H' s' /\ tn i s'.heap /\ (∀ b ∈ fp, H' b = none) /\ W i n σ' H') ?_ m0 ⟨0, σ, H2, I2, st2, fun b hb => (f2 b hb).1, w0⟩
 rintro n s3 ⟨i, σ3, H3, I3, st3, fr3, w3⟩
 rcases turn i n σ3 H3 w3 with ⟨stop, qn⟩ | ⟨go, N, hN, step⟩
 ·refine wpAny_passesOwn hp (thn (T.done X rfl rfl rfl hc i pins s3 σ3 H3 X.xe I3 (stat fr3) st3 stop) fun r s4 ⟨hr, I4⟩ => ?_)
  subst hr
  exact wpAny_execs_nil ⟨σ3, H3, I4, qn⟩
 ·refine wpAny_passesOwn hp (thn (T.item X rfl rfl rfl hc i pins s3 σ3 H3 X.xe I3 (stat fr3) st3 go) fun r s4 ⟨u, hr, h4⟩ => ?_)
  subst hr
  refine wpAny_passesOwn hp (thn h4 fun _ s5 ⟨x, H5, I5, r5, y5, st5, fr5⟩ => ?_)
  have I5' := I5.pinned (stat fr5) (T.obj _ _ st5)
  refine wpAny_passesOwn hp (thn (hg _ s5 σ3 H5 x u _ I5' r5 (step x H5 y5)) fun _ s6 ⟨σ6, H6, I6, q6⟩ => ?_)
  refine wpAny_passesOwn hp (thn (hb _ s6 σ6 H6 _ I6 q6) fun f s7 q7 => ?_)
  have again : ∀ {σ7 : St} {H7 : Hp}, Inv X (pins ++ zhL fp s5.heap) σ7 H7 s7 -> N σ7 H7 -> ∃ m, m < n /\ ∃ i σ' H', Inv X pins σ' H' s7 /\ tn i s7.heap /\ (∀ b ∈ fp, H' b = none) /\ W i m σ' H' := fun {σ7 H7} I7 n7 => by
   obtain ⟨m', hm, w7⟩ := hN σ7 H7 n7
   refine ⟨m', hm, i + 1, σ7, H7, I7.zdh, T.keep _ _ _ st5 fun b hb o e => (I7.pin (b, o) (List.mem_append_right _ (List.mem_append_right _ (zct hb e)))).1, fun b hb => ?_, w7⟩
   obtain ⟨o, e, d⟩ := T.obj _ _ st5 b hb
   exact (I7.pin (b, o) (List.mem_append_right _ (List.mem_append_right _ (zct hb e)))).2.1
  cases f with
  | next => obtain ⟨σ7, H7, I7, n7⟩ := q7; exact again I7 n7
  | cont => obtain ⟨σ7, H7, I7, n7⟩ := q7; exact again I7 n7
  | brk => obtain ⟨σ7, H7, I7, q7⟩ := q7; exact ⟨σ7, H7, I7.zdh, q7⟩
  | ret v => obtain ⟨x7, σ7, H7, I7, r7, q7⟩ := q7; exact ⟨x7, σ7, H7, I7.zdh, r7, q7⟩
end
end L2
namespace L2
open PySem PySem.Spec PyProof.Rows
abbrev R2 := V -> V -> Hp -> VK -> Prop
def OpR (X : Cx) (f : Value -> Value -> Sem Value) (r : R2) : Prop :=
 ∀ (pins : List (Addr × Obj)) (s : Shared) (σ : St) (H : Hp) (x y : V) (v u : Value) (Q : VK), Inv X pins σ H s -> RelV x v -> RelV y u -> r x y H Q ->
  wpAny (model X.prog X.w) X.A (f v u) (EP X pins σ Q) X.xe s
def UnR (X : Cx) (f : Value -> Sem Value) (r : V -> Hp -> VK -> Prop) : Prop :=
 ∀ (pins : List (Addr × Obj)) (s : Shared) (σ : St) (H : Hp) (x : V) (v : Value) (Q : VK), Inv X pins σ H s -> RelV x v -> r x H Q ->
  wpAny (model X.prog X.w) X.A (f v) (EP X pins σ Q) X.xe s
def ze5 (X : Cx) (f : Value) (r : List V -> Hp -> VK -> Prop) : Prop :=
 ∀ (pins : List (Addr × Obj)) (s : Shared) (σ : St) (H : Hp) (xs : List V) (us : List Value) (Q : VK), Inv X pins σ H s -> Vals xs us -> r xs H Q ->
  wpAny (model X.prog X.w) X.A (call f us) (EP X pins σ Q) X.xe s
def zvD (X : Cx) (r : V -> Hp -> (Bool -> Hp -> Prop) -> Prop) : Prop :=
 ∀ (pins : List (Addr × Obj)) (s : Shared) (σ : St) (H : Hp) (x : V) (v : Value) (Q : Bool -> Hp -> Prop), Inv X pins σ H s -> RelV x v -> r x H Q ->
  wpAny (model X.prog X.w) X.A (truthy v) (TP X pins σ Q) X.xe s
def tOp (r : R2) (ta tb : TE) : TE := fun σ H Q => ta σ H fun x H1 => tb σ H1 fun y H2 => r x y H2 Q
def tUn (r : V -> Hp -> VK -> Prop) (ta : TE) : TE := fun σ H Q => ta σ H fun x H1 => r x H1 Q
def rI (C : Int -> Int -> Prop) (g : Int -> Int -> V) : R2 := fun x y H Q => ∃ i j, x = .int i /\ y = .int j /\ C i j /\ Q (g i j) H
def rI0 (g : Int -> Int -> V) : R2 := fun x y H Q => ∃ i j, x = .int i /\ y = .int j /\ Q (g i j) H
def rU (g : Int -> V) : V -> Hp -> VK -> Prop := fun x H Q => ∃ i, x = .int i /\ Q (g i) H
section
variable {X : Cx} {a b c : Expr} {ta tb tc : TE} {pos : Pos}
theorem zvA (ha : PE X a ta) (hb : PE X b tb) {pins : List (Addr × Obj)} {s : Shared} {σ : St} {H : Hp} {R : V -> V -> Hp -> Prop} (I : Inv X pins σ H s)
  (h : ta σ H fun x H1 => tb σ H1 fun y H2 => R x y H2) {Q : Value -> Shared -> Prop} {f : Value -> Value -> Sem Value}
  (hf : ∀ v u s2 x y H2, Inv X pins σ H2 s2 -> RelV x v -> RelV y u -> R x y H2 -> wpAny (model X.prog X.w) X.A (f v u) Q X.xe s2) :
  wpAny (model X.prog X.w) X.A (eval a X.env) (fun v s₁ => wpAny (model X.prog X.w) X.A (eval b X.env) (fun u s₂ => wpAny (model X.prog X.w) X.A (f v u) Q X.xe s₂) X.xe s₁) X.xe s := by
 refine thn (ha pins s σ H _ I h) fun v s1 ⟨x, H1, I1, r1, q1⟩ => ?_
 refine thn (hb pins s1 σ H1 _ I1 q1) fun u s2 ⟨y, H2, I2, r2, q2⟩ => ?_
 exact hf v u s2 x y H2 I2 r1 r2 q2
theorem zuQ {op : Operator} {r : R2} (ho : OpR X (binaryOp op) r) (ha : PE X a ta) (hb : PE X b tb) : PE X (.BinOp a op b pos) (tOp r ta tb) := by
 intro pins s σ H Q I h
 exact wpAny_BinOp (zvA ha hb I h fun v u s2 x y H2 I2 rx ry q => ho pins s2 σ H2 x y v u Q I2 rx ry q)
theorem zuO {op : UnaryOp} {r : V -> Hp -> VK -> Prop} (ho : UnR X (unaryOp op) r) (ha : PE X a ta) : PE X (.UnaryOp op a pos) (tUn r ta) := by
 intro pins s σ H Q I h
 exact UnaryOp_ (thn (ha pins s σ H _ I h) fun v s1 ⟨x, H1, I1, r1, q1⟩ => ho pins s1 σ H1 x v Q I1 r1 q1)
theorem opI {f : Value -> Value -> Sem Value} {C : Int -> Int -> Prop} {g : Int -> Int -> Int}
  (rule : ∀ (i j : Int) (t u : Tok) (s : Shared) (Q : Value -> Shared -> Prop) (E : Value -> Shared -> Prop), C i j -> Q (.int (g i j) s.toks) { s with toks := s.toks + 1 } -> wpAny (model X.prog X.w) X.A (f (.int i t) (.int j u)) Q E s) :
  OpR X f (rI C fun i j => .int (g i j)) := by
 intro pins s σ H x y v u Q I rx ry h
 obtain ⟨i, j, rfl, rfl, hc, q⟩ := h
 obtain ⟨t, rfl⟩ := rx
 obtain ⟨t', rfl⟩ := ry
 exact rule i j t t' s _ _ hc ⟨.int (g i j), H, I.tok _, ⟨_, rfl⟩, q⟩
theorem zvN {f : Value -> Value -> Sem Value} {g : Int -> Int -> Int}
  (rule : ∀ (i j : Int) (t u : Tok) (s : Shared) (Q : Value -> Shared -> Prop) (E : Value -> Shared -> Prop), Q (.int (g i j) s.toks) { s with toks := s.toks + 1 } -> wpAny (model X.prog X.w) X.A (f (.int i t) (.int j u)) Q E s) :
  OpR X f (rI0 fun i j => .int (g i j)) := by
 intro pins s σ H x y v u Q I rx ry h
 obtain ⟨i, j, rfl, rfl, q⟩ := h
 obtain ⟨t, rfl⟩ := rx
 obtain ⟨t', rfl⟩ := ry
 exact rule i j t t' s _ _ ⟨.int (g i j), H, I.tok _, ⟨_, rfl⟩, q⟩
theorem zum {f : Value -> Value -> Sem Value} {g : Int -> Int -> Bool}
  (rule : ∀ (i j : Int) (t u : Tok) (s : Shared) (Q : Value -> Shared -> Prop) (E : Value -> Shared -> Prop), Q (.bool (g i j)) s -> wpAny (model X.prog X.w) X.A (f (.int i t) (.int j u)) Q E s) :
  OpR X f (rI0 fun i j => .bl (g i j)) := by
 intro pins s σ H x y v u Q I rx ry h
 obtain ⟨i, j, rfl, rfl, q⟩ := h
 obtain ⟨t, rfl⟩ := rx
 obtain ⟨t', rfl⟩ := ry
 exact rule i j t t' s _ _ ⟨.bl (g i j), H, I, rfl, q⟩
def zvY (i j : Int) : Prop := 0 <= j /\ j <= 1000000 /\ i.natAbs < 2 ^ 64
theorem zsr : OpR X (binaryOp .Add) (rI0 fun i j => .int (i + j)) := zvN fun _ _ _ _ _ _ _ q => add_int q
theorem zsk : OpR X (binaryOp .Sub) (rI0 fun i j => .int (i - j)) := zvN fun _ _ _ _ _ _ _ q => sub_int q
theorem zqX : OpR X (binaryOp .Mod) (rI (fun _ j => j ≠ 0) fun i j => .int (i.fmod j)) := opI fun _ _ _ _ _ _ _ hc q => mod_int' hc q
theorem zsl : OpR X (binaryOp .Pow) (rI zvY fun i j => .int (i ^ j.toNat)) := opI fun _ _ _ _ _ _ _ hc q => pow_int_small hc.1 hc.2.1 hc.2.2 q
theorem unI {f : Value -> Sem Value} {g : Int -> Int}
  (rule : ∀ (i : Int) (t : Tok) (s : Shared) (Q : Value -> Shared -> Prop) (E : Value -> Shared -> Prop), Q (.int (g i) s.toks) { s with toks := s.toks + 1 } -> wpAny (model X.prog X.w) X.A (f (.int i t)) Q E s) :
  UnR X f (rU fun i => .int (g i)) := by
 intro pins s σ H x v Q I rx h
 obtain ⟨i, rfl, q⟩ := h
 obtain ⟨t, rfl⟩ := rx
 exact rule i t s _ _ ⟨.int (g i), H, I.tok _, ⟨_, rfl⟩, q⟩
theorem zrG : UnR X (unaryOp .USub) (rU fun i => .int (-i)) := unI fun _ _ _ _ _ q => neg_int q
end
section
variable {X : Cx} {a b c : Expr} {ta tb tc : TE} {pos : Pos}
theorem zsT {pins : List (Addr × Obj)} {σ : St} {H : Hp} {s : Shared} {Q : VK} {k k' : Bool} (I : Inv X pins σ H s) (q : Q (.bl k) H) (e : k = k') : EP X pins σ Q (.bool k') s := by
 subst e
 exact ⟨.bl k, H, I, rfl, q⟩
theorem zuU : OpR X (compareOp .Lt) (rI0 fun i j => .bl (decide (i < j))) := zum fun _ _ _ _ _ _ _ q => lt_int q
theorem zuV : OpR X (compareOp .LtE) (rI0 fun i j => .bl (decide (i <= j))) := zum fun _ _ _ _ _ _ _ q => le_int q
theorem zuW : OpR X (compareOp .Gt) (rI0 fun i j => .bl (decide (j < i))) := zum fun _ _ _ _ _ _ _ q => gt_int q
theorem zuX : OpR X (compareOp .GtE) (rI0 fun i j => .bl (decide (j <= i))) := zum fun _ _ _ _ _ _ _ q => ge_int q
theorem zsn : OpR X (compareOp .Is) (fun x y H Q => y = .non /\ Q (.bl (decide (x = .non))) H) := by
 intro pins s σ H x y v u Q I rx ry h
 obtain ⟨rfl, q⟩ := h
 cases ry
 refine is_none_gen (zsT I q ?_)
 cases x <;> first
  | (cases rx; rfl)
  | (obtain ⟨t, rfl⟩ := rx; rfl)
theorem zbh (b : Expr) {op : CmpOp} (h : op ≠ .In := by decide) (h2 : op ≠ .NotIn := by decide) : behindInMarks op b = false := by
 have e1 : (op == CmpOp.In) = false := by cases op <;> first | rfl | exact absurd rfl h
 have e2 : (op == CmpOp.NotIn) = false := by cases op <;> first | rfl | exact absurd rfl h2
 cases b <;> simp [behindInMarks, e1, e2]
theorem zqR {op : CmpOp} {r : R2} (ho : OpR X (compareOp op) r) (ha : PE X a ta) (hb : PE X b tb) (hm : behindInMarks op b = false) : PE X (.Compare a [op] [b] pos) (tOp r ta tb) := by
 intro pins s σ H Q I h
 exact wpAny_Compare1 (zvA ha hb I h fun v u s2 x y H2 I2 rx ry q => ho pins s2 σ H2 x y v u Q I2 rx ry q) hm
def zrL (t : TE) : TT := fun σ H Q => t σ H fun x H' => ∃ k, x = .bl k /\ Q k H'
theorem zmH {op : CmpOp} {r : R2} (ho : OpR X (compareOp op) r) (ha : PE X a ta) (hb : PE X b tb) (hm : behindInMarks op b = false) : PT X (.Compare a [op] [b] pos) (zrL (tOp r ta tb)) := by
 intro pins s σ H Q I h
 refine wpAny_isTrue_Compare1 (thn (ha pins s σ H _ I h) fun v s1 ⟨x, H1, I1, r1, q1⟩ => thn (hb pins s1 σ H1 _ I1 q1) fun u s2 ⟨y, H2, I2, r2, q2⟩ =>
  thn (ho pins s2 σ H2 x y v u _ I2 r1 r2 q2) fun c s3 ⟨z, H3, I3, r3, k, e, q3⟩ => ?_) hm
 subst e
 cases r3
 exact wpAny_truthy_bool ⟨H3, I3, q3⟩
def zmg (r r' : R2) (ta tb tc : TE) : TE := fun σ H Q => ta σ H fun x H1 => tb σ H1 fun y H2 => r x y H2 fun z H3 => ∃ k, z = .bl k /\
 (if k = true then tc σ H3 fun w' H4 => r' y w' H4 Q else Q (.bl false) H3)
theorem zoV {op op' : CmpOp} {r r' : R2} (ho : OpR X (compareOp op) r) (ho' : OpR X (compareOp op') r') (ha : PE X a ta) (hb : PE X b tb) (hc : PE X c tc)
  (hm : lastMarks [op, op'] [b, c] = false := by with_unfolding_all rfl) : PE X (.Compare a [op, op'] [b, c] pos) (zmg r r' ta tb tc) := by
 intro pins s σ H Q I h
 refine Compare_chain (thn (ha pins s σ H _ I h) fun v s1 ⟨x, H1, I1, r1, q1⟩ => chain_link (thn (hb pins s1 σ H1 _ I1 q1) fun u s2 ⟨y, H2, I2, r2, q2⟩ =>
  thn (ho pins s2 σ H2 x y v u _ I2 r1 r2 q2) fun d s3 ⟨z, H3, I3, r3, k, e, q3⟩ => ?_)) hm
 subst e
 cases r3
 refine wpAny_truthy_bool ?_
 cases k with
 | false => exact ite_ff ⟨.bl false, H3, I3, rfl, q3⟩
 | true => exact ite_tt (chain_last (thn (hc pins s3 σ H3 _ I3 q3) fun w' s4 ⟨z', H4, I4, r4, q4⟩ => ho' pins s4 σ H4 y z' u w' Q I4 r2 r4 q4))
theorem zoH {op op' : CmpOp} {r r' : R2} (ho : OpR X (compareOp op) r) (ho' : OpR X (compareOp op') r') (ha : PE X a ta) (hb : PE X b tb) (hc : PE X c tc)
  (hm : lastMarks [op, op'] [b, c] = false := by with_unfolding_all rfl) : PT X (.Compare a [op, op'] [b, c] pos) (zrL (zmg r r' ta tb tc)) := by
 intro pins s σ H Q I h
 refine isTrue_chain (thn (ha pins s σ H _ I h) fun v s1 ⟨x, H1, I1, r1, q1⟩ => test_link (thn (hb pins s1 σ H1 _ I1 q1) fun u s2 ⟨y, H2, I2, r2, q2⟩ =>
  thn (ho pins s2 σ H2 x y v u _ I2 r1 r2 q2) fun d s3 ⟨z, H3, I3, r3, k, e, q3⟩ => ?_)) hm
 subst e
 cases r3
 refine wpAny_truthy_bool ?_
 cases k with
 | false =>
  obtain ⟨k', e', q'⟩ := q3
  cases e'
  exact ite_ff ⟨H3, I3, q'⟩
 | true =>
  refine ite_tt (test_last (thn (hc pins s3 σ H3 _ I3 q3) fun w' s4 ⟨z', H4, I4, r4, q4⟩ => thn (ho' pins s4 σ H4 y z' u w' _ I4 r2 r4 q4) fun d' s5 ⟨z2, H5, I5, r5, k2, e2, q5⟩ => ?_))
  subst e2
  cases r5
  exact wpAny_truthy_bool ⟨H5, I5, q5⟩
def zwF (K : PySem.W.Frag) (x : V) (H : Hp) (k : Bool) : Prop :=
 match x with
 | .non => k = false
 | .bl b => k = b
 | .int i => k = (i != 0)
 | .str y => y.length <= sizeLine /\ k = ((y.length : Int) != 0)
 | .byt y => y.size <= sizeLine /\ k = ((y.size : Int) != 0)
 | .ref p => (∃ xs, SqL K H p xs /\ k = !xs.isEmpty) \/ (∃ xs, SqT K H p xs /\ k = !xs.isEmpty) \/ ∃ kvs, H p = some (.dK kvs) /\ k = !kvs.isEmpty
 | _ => False
theorem zlX {κ : Type} {kvs : List (κ × V)} {vs : List (κ × Value)} (r : KV kvs vs) : (!vs.isEmpty) = !kvs.isEmpty := by
 cases r <;> rfl
theorem zhR {xs : List V} {its : List Value} (r : Vals xs its) : (!its.toArray.isEmpty) = !xs.isEmpty := by
 cases r <;> simp
theorem zjh : (sizeLine : Nat) < 2 ^ 63 := by rw [sizeLine_eq]; decide
theorem zrI : zvD X (fun x H Q => ∃ k, zwF X.K x H k /\ Q k H) := by
 intro pins s σ H x v Q I rx h
 obtain ⟨k, e, q⟩ := h
 have hl := zjh
 have hs : sizeLine = 16777216 := sizeLine_eq
 cases x with
 | non =>
  cases rx
  have e' : k = false := e
  subst e'
  exact truthy_none ⟨H, I, q⟩
 | bl b =>
  cases rx
  have e' : k = b := e
  subst e'
  exact wpAny_truthy_bool ⟨H, I, q⟩
 | int i =>
  obtain ⟨t, rfl⟩ := rx
  have e' : k = (i != 0) := e
  subst e'
  exact PySem.P.truthy_int ⟨H, I, q⟩
 | str y =>
  obtain ⟨t, rfl⟩ := rx
  obtain ⟨hy, e'⟩ : y.length <= sizeLine /\ k = ((y.length : Int) != 0) := e
  subst e'
  exact PySem.P.truthy_str (by omega) ⟨H, I.tok _, q⟩
 | byt y =>
  obtain ⟨t, rfl⟩ := rx
  obtain ⟨hy, e'⟩ : y.size <= sizeLine /\ k = ((y.size : Int) != 0) := e
  subst e'
  exact PySem.W.truthy_bytes (by omega) ⟨H, I.tok _, q⟩
 | ref p =>
  cases rx
  have e' : (∃ xs, SqL X.K H p xs /\ k = !xs.isEmpty) \/ (∃ xs, SqT X.K H p xs /\ k = !xs.isEmpty) \/ ∃ kvs, H p = some (.dK kvs) /\ k = !kvs.isEmpty := e
  rcases e' with ⟨xs, hx, e'⟩ | ⟨xs, hx, e'⟩ | ⟨kvs, hx, e'⟩
  ·subst e'
   obtain ⟨its, r, pl, hz⟩ := I.list hx
   have hlen := r.length
   exact wpAny_truthy_list pl.isList (by simp only [List.size_toArray]; omega) ⟨H, I.tok _, by rw [zhR r]; exact q⟩
  ·subst e'
   obtain ⟨its, r, pl, hz⟩ := I.tuple hx
   have hlen := r.length
   exact truthy_tuple pl (by simp only [List.size_toArray]; omega) ⟨H, I.tok _, by rw [zhR r]; exact q⟩
  ·subst e'
   obtain ⟨hz, hS, vs, r, m⟩ : kvs.length <= sizeLine /\ (p == sysModules) = false /\ ∃ vs, KV kvs vs /\ s.heap.DictOf (zaS X.prog X.w) p vs := I.hok p _ hx
   have hlen : kvs.length = vs.length := Paired.length r
   exact wpAny_truthy_dict hS m (by omega) ⟨H, I.tok _, by rw [zlX r]; exact q⟩
 | _ => exact (show False from e).elim
theorem vals1 {x : V} {us : List Value} (r : Vals [x] us) : ∃ u, us = [u] /\ RelV x u := by
 cases r with
 | cons r1 r2 => cases r2; exact ⟨_, rfl, r1⟩
theorem vals2 {x y : V} {us : List Value} (r : Vals [x, y] us) : ∃ u w', us = [u, w'] /\ RelV x u /\ RelV y w' := by
 cases r with
 | cons r1 r2 =>
  cases r2 with
  | cons r3 r4 => cases r4; exact ⟨_, _, rfl, r1, r3⟩
theorem zpx : ze5 X (.builtin "abs") (fun xs H Q => ∃ i, xs = [.int i] /\ Q (.int (if i < 0 then -i else i)) H) := by
 intro pins s σ H xs us Q I r h
 obtain ⟨i, rfl, q⟩ := h
 obtain ⟨u, rfl, t, rfl⟩ := vals1 r
 exact call_abs_int fun u tk => ⟨.int (if i < 0 then -i else i), H, I.tok _, ⟨_, rfl⟩, q⟩
end
end L2
namespace L2
open PySem PySem.Spec PyProof.Rows
structure zwH (h : Heap) (x dx C : Addr) (mA : Str -> Option Value) : Prop where
 obj : h.get? x = some (PySem.W.instObj C dx)
 ns : h.Ns1 dx mA
 ne : dx ≠ x
theorem zl6.some_of {v : V} {o : Option Value} (r : zl6 (some v) o) : ∃ u, o = some u /\ RelV v u := by
 cases o with
 | none => exact (show False from r).elim
 | some u => exact ⟨u, rfl, r⟩
structure Cls (K : PySem.W.Frag) (C : Addr) : Prop where
 pg : PySem.W.plainGet K C Str.empty = true
 hd : PySem.W.hasDictIn K C = true
 po : PySem.W.plainOver K C = true
 sa : PySem.W.findIn K (.ref C) "__setattr__" = some (some (.builtin "object.__setattr__"))
structure Con (K : PySem.W.Frag) (C : Addr) (f : Str) (v : V) (u : Value) : Prop where
 at_ : PySem.W.findIn K (.ref C) f = some (some u)
 rel : RelV v u
 get : PySem.W.specialIn K u "__get__" = some none
 cp : PySem.W.copiedNames.contains f = false
structure Meth (K : PySem.W.Frag) (C : Addr) (m : Str) (f : Addr) : Prop where
 at_ : PySem.W.findIn K (.ref C) m = some (some (.ref f))
 fn : PySem.W.isFn K (.ref f) = true
 kp : PySem.W.keepIn K (.ref f) = true
section
variable {X : Cx} {pins : List (Addr × Obj)} {σ : St} {H : Hp} {s : Shared} {A : Around} {E : Value -> Shared -> Prop} {Q : Value -> Shared -> Prop} {c : Value} {b : Bool}
inductive zn8 (K : PySem.W.Frag) (H : Hp) : V -> Value -> Prop where
 | non : zn8 K H .non (.type "NoneType")
 | bl (x : Bool) : zn8 K H (.bl x) (.type "bool")
 | int (i : Int) : zn8 K H (.int i) (.type "int")
 | str (x : Str) : zn8 K H (.str x) (.type "str")
 | flt (x : UInt64) : zn8 K H (.flt x) (.type "float")
 | lst {a : Addr} {xs : List V} (e : H a = some (.lst xs)) : zn8 K H (.ref a) (.type "list")
 | frz {a : Addr} {o : Obj} {xs : List V} (e : H a = some (.frz o (.lst xs))) : zn8 K H (.ref a) (.type "list")
 | tup {a : Addr} {xs : List V} (e : H a = some (.tup xs)) : zn8 K H (.ref a) (.type "tuple")
 | dK {a : Addr} {kvs : List (Key × V)} (e : H a = some (.dK kvs)) : zn8 K H (.ref a) (.type "dict")
 | dT {a : Addr} {kvs : List (List Key × V)} (e : H a = some (.dT kvs)) : zn8 K H (.ref a) (.type "dict")
 | ins {a C dx : Addr} {fs : List (Str × V)} (e : H a = some (.ins C dx fs)) (cl : Cls K C) (ha : PySem.W.findIn K (.ref C) "__class__" = some (some (.builtin "object.__class__")))
   (hn : PySem.W.specialIn K (.builtin "object.__class__") "__get__" = some (some (.builtin "getset_descriptor.__get__"))) (htk : PySem.W.takesIn K (.builtin "object.__class__") = some true)
   (hm : PySem.W.mroIn K C (.type "object") = some true) : zn8 K H (.ref a) (.ref C)
end
end L2
namespace L2
open PySem PySem.Spec PyProof.Rows
structure zeF (k : Nat) (A : Around) : Prop where
 hd : A.handled = none
 dp : A.depth + 3 * k + 5 < recursionLimit
 un : A.units + 16 * k + 200 < cLine
theorem zeF.mono {j k : Nat} {A : Around} (r : zeF k A) (h : j <= k) : zeF j A := ⟨r.hd, by have := r.dp; omega, by have := r.un; omega⟩
theorem zeF.deeper {k : Nat} {A : Around} (r : zeF (k + 1) A) (env : Env) : zeF k (A.deeper env) :=
 ⟨r.hd, by have := r.dp; show A.depth + 1 + 3 * k + 5 < _; omega, by have := r.un; show A.units + 3 + 16 * k + 200 < _; omega⟩
theorem zeF.in1 {k : Nat} {A : Around} (r : zeF (k + 1) A) : zeF k A.in1 :=
 ⟨r.hd, by have := r.dp; show A.depth + 3 * k + 5 < _; omega, by have := r.un; show A.units + 1 + 16 * k + 200 < _; omega⟩
theorem zeF.depth {k : Nat} {A : Around} (r : zeF k A) : A.depth < recursionLimit := by have := r.dp; omega
theorem zeF.units {k : Nat} {A : Around} (r : zeF k A) : A.units + 64 < cLine := by have := r.un; omega
def zv5 : TA := fun _ H Q => Q [] H
def zuB (ta : TE) (tr : TA) : TA := fun σ H Q => ta σ H fun x H1 => tr σ H1 fun xs H2 => Q (x :: xs) H2
section
variable {X : Cx} {e : Expr} {es : List Expr} {te : TE} {t : TA} {pos : Pos}
theorem zjc : PA X [] zv5 := fun _ _ _ _ H Q I h => Calls.spliced_nil ⟨[], H, I, .nil, h⟩
theorem zdo (ha : PE X e te) (hr : PA X es t) (hs : starEach (e :: es) X.env = (false, eval e X.env) :: starEach es X.env := by rfl) : PA X (e :: es) (zuB te t) := by
 intro pos pins s σ H Q I h
 rw [hs]
 show wpAny _ _ (spliced ((false, eval e X.env) :: backTo pos (starEach es X.env))) _ _ s
 refine Calls.spliced_cons (thn (ha pins s σ H _ I h) fun u s1 ⟨x, H1, I1, r1, q1⟩ => ?_)
 exact thn (hr pos pins s1 σ H1 _ I1 q1) fun us s2 ⟨xs, H2, I2, r2, q2⟩ => ⟨x :: xs, H2, I2, .cons r1 r2, q2⟩
def zv0 (t : TA) : TE := fun σ H Q => t σ H fun xs H1 => xs.length <= sizeLine /\ ∀ p, H1 p = none -> Q (.ref p) (upd H1 p (.tup xs))
def zv6 (t : TA) : TE := fun σ H Q => t σ H fun xs H1 => xs.length <= sizeLine /\ ∀ p, H1 p = none -> Q (.ref p) (upd H1 p (.lst xs))
theorem zsb {x1} (h : PA X es t) : PE X (.Tuple es x1 pos) (zv0 t) := by
 intro pins s σ H Q I hq
 refine wpAny_Tuple_spliced (thn (h pos pins s σ H _ I hq) fun us s1 ⟨xs, H1, I1, r, z, q⟩ => ⟨by rw [<- r.length]; exact z, ?_⟩)
 have hf : H1 s1.heap.objs.size = none := I1.hok.fresh (Nat.le_refl _)
 refine ⟨.ref s1.heap.objs.size, upd H1 s1.heap.objs.size (.tup xs), I1.laid (t' := s1.toks) (fun b u e => Heap.get?_push_of_some _ e) (Nat.le_refl _) ?_, rfl, q _ hf⟩
 exact ⟨z, us, r, ⟨_, Heap.get?_push_size _ rfl, rfl, _, rfl⟩⟩
theorem zsg (h : PA X es t) : PE X (.List es pos) (zv6 t) := by
 intro pins s σ H Q I hq
 refine wpAny_List_spliced (thn (h pos pins s σ H _ I hq) fun us s1 ⟨xs, H1, I1, r, z, q⟩ => ⟨by rw [<- r.length]; exact z, ?_⟩)
 have hf : H1 s1.heap.objs.size = none := I1.hok.fresh (Nat.le_refl _)
 refine ⟨.ref s1.heap.objs.size, upd H1 s1.heap.objs.size (.lst xs), I1.laid (t' := s1.toks) (fun b u e => Heap.get?_push_of_some _ e) (Nat.le_refl _) ?_, rfl, q _ hf⟩
 exact ⟨z, us, 0, r, Heap.get?_push_size _ rfl⟩
end
abbrev Sp := List V -> Hp -> VK -> XK -> Prop
abbrev CXT := List Env -> Hp -> Shared -> XK -> Value -> Shared -> Prop
structure zuv (P : Program) (w : World) (K : PySem.W.Frag) (mg : Str -> Option Value) (base : Heap) (A : Around) (outer : List Env) (s : Shared) (H : Hp) : Prop where
 frames : A.frames = some outer
 mod : Mod K mg base
 bs : ∀ b o, base.get? b = some o -> s.heap.get? b = some o /\ H b = none
 bsz : base.objs.size <= s.heap.objs.size
 zl0 : s.heap.FunFrames base outer
 frf : ∀ b ∈ frs outer, H b = none
 hok : HOk P w H s.heap
 bare : AllBare s.gens
def CE (outer : List Env) (P : Program) (w : World) (H : Hp) (s : Shared) (Q : VK) (u : Value) (s' : Shared) : Prop :=
 ∃ v H', s'.os = s.os /\ AllBare s'.gens /\ Un (frs outer) [] H H' s.heap s'.heap /\ HOk P w H' s'.heap /\ RelV v u /\ Q v H'
def CR (CX : CXT) (outer : List Env) (P : Program) (w : World) (H : Hp) (s : Shared) (Q : VK) (E : XK) (r : Result) (s' : Shared) : Prop :=
 match r with
 | .ok (.ret u) => CE outer P w H s Q u s'
 | .ok _ => False
 | .error e => CX outer H s E e s'
structure zh1 (P : Program) (w : World) (K : PySem.W.Frag) (mg : Str -> Option Value) (base : Heap) (CX : CXT) (k : Nat) (f : Addr) (fd : FuncData) (ps : List Str) (sp : Sp) : Prop where
 len : ∀ vs H Q E, sp vs H Q E -> vs.length = ps.length
 run : ∀ (A : Around) (outer : List Env) (s : Shared) (H : Hp) (args : Args) (us : List Value) (vs : List V) (Q : VK) (E : XK), zeF k A -> zuv P w K mg base A outer s H -> BindsTo s fd args (ps.zip us) -> Vals vs us -> sp vs H Q E ->
  codeAny (model P w) A (.call (.ref f) args) (CR CX outer P w H s Q E) s
theorem zh1.imp {P : Program} {w : World} {K : PySem.W.Frag} {mg : Str -> Option Value} {base : Heap} {CX : CXT} {k : Nat} {f : Addr} {fd : FuncData} {ps : List Str} {sp sp' : Sp} (F : zh1 P w K mg base CX k f fd ps sp)
  (h : ∀ vs H Q E, sp' vs H Q E -> sp vs H Q E) : zh1 P w K mg base CX k f fd ps sp' :=
 ⟨fun vs H Q E q => F.len vs H Q E (h _ _ _ _ q), fun A outer s H args us vs Q E hr he hb hv hs => F.run A outer s H args us vs Q E hr he hb hv (h _ _ _ _ hs)⟩
section
variable {X : Cx} {pins : List (Addr × Obj)} {σ : St} {H : Hp} {s s' : Shared}
theorem Inv.env0 (I : Inv X pins σ H s) : zuv X.prog X.w X.K X.mg X.base X.A X.stack s H :=
 ⟨I.ok.frames, I.ok.mod, I.bs, Nat.le_trans I.ok.bsz I.sz, I.stack, I.zmi, I.hok, I.bare⟩
theorem Inv.after {Q : VK} {u : Value} (I : Inv X pins σ H s) (h : CE X.stack X.prog X.w H s Q u s') : EP X pins σ Q u s' := by
 obtain ⟨v, H', os, bare, un, hok, r, q⟩ := h
 obtain ⟨hh, g, d, t, os'⟩ := s'
 obtain rfl : os' = s.os := os
 exact ⟨v, H', I.call (h' := hh) (g' := g) (d' := d) (t' := t) (ch := []) un hok bare (fun b z => absurd z (by simp)), r, q⟩
end
def zqp (sp : Sp) (dvs : List V) (E : XK) (t : TA) : TE := fun σ H Q => t σ H fun vs H1 => sp (vs ++ dvs) H1 Q E
def Binds (K : PySem.W.Frag) (fd : FuncData) (ps : List Str) (ds : List Value) : Prop :=
 ∀ (s : Shared) (us : List Value), K.In s.heap -> (us ++ ds).length = ps.length -> BindsTo s fd ⟨us, []⟩ (ps.zip (us ++ ds))
theorem Binds.all {K : PySem.W.Frag} {fd : FuncData} {ps : List Str} (h : ∀ us : List Value, us.length = ps.length -> bindArgs fd ⟨us, []⟩ = pure (ps.zip us)) : Binds K fd ps [] := fun s us _ hl => by
 rw [List.append_nil] at hl ⊢
 exact .of_eq (h us hl)
def Passes (CX : CXT) (X : Cx) (E : XK) : Prop := ∀ (pins : List (Addr × Obj)) (σ : St) (H : Hp) (s : Shared) (e : Value) (s' : Shared), Inv X pins σ H s -> CX X.stack H s E e s' -> X.xe e s'
section
variable {X : Cx} {CX : CXT} {k : Nat} {f C : Addr} {fd : FuncData} {ps : List Str} {sp : Sp} {dvs : List V} {ds : List Value} {E : XK} {x m : Str} {p pos apos : Pos} {e o : Expr} {es : List Expr} {ta : TE} {t : TA}
theorem zrU {pins : List (Addr × Obj)} {σ : St} {H : Hp} {s : Shared} {Q : VK} {us : List Value} {vs : List V} (F : zh1 X.prog X.w X.K X.mg X.base CX k f fd ps sp) (hr : zeF k X.A) (hb : Binds X.K fd ps ds) (hd : Vals dvs ds) (hx : Passes CX X E)
  (I : Inv X pins σ H s) (r : Vals vs us) (h : sp (vs ++ dvs) H Q E) : wpAny (model X.prog X.w) X.A (call (.ref f) us) (EP X pins σ Q) X.xe s := by
 have r2 : Vals (vs ++ dvs) (us ++ ds) := r.append hd
 have hl : (us ++ ds).length = ps.length := by rw [<- r2.length]; exact F.len _ _ _ _ h
 refine wpAny_call (codeAny_mono (F.run X.A X.stack s H ⟨us, []⟩ (us ++ ds) (vs ++ dvs) Q E hr I.env0 (hb s us I.kIn hl) r2 h) fun r s' hq => ?_)
 cases r with
 | error e => exact hx pins σ H s e s' I hq
 | ok fl =>
  cases fl with
  | ret u => exact I.after hq
  | next => exact False.elim hq
  | brk => exact False.elim hq
  | cont => exact False.elim hq
theorem zqS (F : zh1 X.prog X.w X.K X.mg X.base CX k f fd ps sp) (hr : zeF k X.A) (hg : Gl X x) (hm : X.mg x = some (.ref f)) (hk : PySem.W.keepIn X.K (.ref f) = true) (hb : Binds X.K fd ps ds) (hd : Vals dvs ds) (hx : Passes CX X E)
  (ha : PA X (e :: es) t) (hdb : (x == ("__debug__" : Str)) = false := by decide) (he : starEach (e :: es) X.env = (false, eval e X.env) :: starEach es X.env := by rfl) (hpl : (backTo pos (starEach es X.env)).any (·.1) = false := by rfl) :
  PE X (.Call (.Name x p) (e :: es) [] pos) (zqp sp dvs E t) := by
 intro pins s σ H Q I h
 refine wpAny_Call_Name_kw (zj7 I hg hm ?_ hdb)
 refine PySem.W.callWith_K (h₀ := X.base) I.ok.mod.kin hk (thn (ha pos pins s σ H _ I h) fun us s1 ⟨vs, H1, I1, r, q⟩ => ⟨I1.kIn, ?_⟩) he hpl
 exact zrU F hr hb hd hx I1 r q
structure Mk (K : PySem.W.Frag) (C f : Addr) : Prop where
 makes : PySem.W.makesIn K C = true
 init : PySem.W.findIn K (.ref C) "__init__" = some (some (.ref f))
 fn : PySem.W.isFn K (.ref f) = true
 kp : PySem.W.keepIn K (.ref C) = true
end
section
variable {X : Cx} {CX : CXT} {k : Nat} {f C : Addr} {fd : FuncData} {ps ks : List Str} {sp : Sp} {E : XK} {x m : Str} {p pos apos kpos : Pos} {e o : Expr} {es : List Expr} {kws : List Keyword} {te ta : TE} {t tk : TA} {nm : Option Str}
structure zvW (K : PySem.W.Frag) (fd : FuncData) (ps ks : List Str) (g : List Value -> List Value -> List Value) (gV : List V -> List V -> List V) : Prop where
 to : ∀ (s : Shared) (us ws : List Value), K.In s.heap -> (g us ws).length = ps.length -> BindsTo s fd ⟨us, ks.zip ws⟩ (ps.zip (g us ws))
 rel : ∀ {vs : List V} {us : List Value} {zs : List V} {ws : List Value}, Vals vs us -> Vals zs ws -> Vals (gV vs zs) (g us ws)
variable {g : List Value -> List Value -> List Value} {gV : List V -> List V -> List V}
end
structure zaz (N P : List Str) (sc : Scope) : Prop where
 kind : sc.kind = .function
 co : sc.isCoroutine = false
 gen : sc.isGenerator = false
 nd : N.Nodup
 pre : N.take P.length = P
 par : ∀ x ∈ P, sc.names.lookup x = some .local \/ sc.names.lookup x = some .cell
 nofree : ∀ y ∈ sc.names, y.2 ≠ .free
theorem zjC {kindOf : Str -> Option NameKind} {x : Str} : ∀ {binds : List (Str × Value)} {m : Str -> Option Value}, (∀ v, (x, v) ∉ binds) -> bindL kindOf binds m x = m x
 | [], _, _ => rfl
 | (n, v) :: r, m, h => by
  unfold bindL
  rw [zjC fun w hw => h w (List.mem_cons_of_mem _ hw)]
  split
  ·have : x ≠ n := by rintro rfl; exact h v List.mem_cons_self
   simp [this]
  ·rfl
theorem zjE {kindOf : Str -> Option NameKind} {x : Str} : ∀ {binds : List (Str × Value)} {m : Str -> Option Value}, (∀ v, (x, v) ∉ binds) -> bindC kindOf binds m x = m x
 | [], _, _ => rfl
 | (n, v) :: r, m, h => by
  unfold bindC
  rw [zjE fun w hw => h w (List.mem_cons_of_mem _ hw)]
  split
  ·rfl
  ·have : x ≠ n := by rintro rfl; exact h v List.mem_cons_self
   simp [this]
theorem zjD {kindOf : Str -> Option NameKind} {x : Str} {v : Value} : ∀ {P : List Str} {vs : List Value} {i : Nat} {m : Str -> Option Value}, P.Nodup -> P[i]? = some x -> vs[i]? = some v -> kindOf x = some .local ->
  bindL kindOf (P.zip vs) m x = some v
 | [], _, _, _, _, h, _, _ => by simp at h
 | _ :: _, [], _, _, _, _, h, _ => by simp at h
 | p :: P, w :: vs, 0, m, nd, h1, h2, hk => by
  simp at h1 h2; subst h1; subst h2
  show bindL kindOf ((p, w) :: P.zip vs) m p = _
  unfold bindL
  rw [zjC fun v hv => (List.nodup_cons.mp nd).1 (List.of_mem_zip hv).1, if_pos hk]
  simp
 | p :: P, w :: vs, i + 1, m, nd, h1, h2, hk => by
  show bindL kindOf ((p, w) :: P.zip vs) m x = _
  unfold bindL
  exact zjD (i := i) (List.nodup_cons.mp nd).2 (by simpa using h1) (by simpa using h2) hk
theorem zjF {kindOf : Str -> Option NameKind} {x : Str} {v : Value} : ∀ {P : List Str} {vs : List Value} {i : Nat} {m : Str -> Option Value}, P.Nodup -> P[i]? = some x -> vs[i]? = some v -> kindOf x ≠ some .local ->
  bindC kindOf (P.zip vs) m x = some v
 | [], _, _, _, _, h, _, _ => by simp at h
 | _ :: _, [], _, _, _, _, h, _ => by simp at h
 | p :: P, w :: vs, 0, m, nd, h1, h2, hk => by
  simp at h1 h2; subst h1; subst h2
  show bindC kindOf ((p, w) :: P.zip vs) m p = _
  unfold bindC
  rw [zjE fun v hv => (List.nodup_cons.mp nd).1 (List.of_mem_zip hv).1, if_neg hk]
  simp
 | p :: P, w :: vs, i + 1, m, nd, h1, h2, hk => by
  show bindC kindOf ((p, w) :: P.zip vs) m x = _
  unfold bindC
  exact zjF (i := i) (List.nodup_cons.mp nd).2 (by simpa using h1) (by simpa using h2) hk
def start (N : List Str) (vs : List V) : St := vs.map some ++ List.replicate (N.length - vs.length) none
def zp8 (CX : CXT) (P : Program) (w : World) (K : PySem.W.Frag) (mg : Str -> Option Value) (base : Heap) (N : List Str) (qual : Str) (scope : Scope) (f : Addr) (cd : Value) (A : Around) (outer : List Env) (s : Shared) (H : Hp) (E : XK) : Cx where
 prog := P
 w := w
 K := K
 mg := mg
 base := base
 A := A.deeper (envOfC qual scope s.heap.objs.size f cd)
 N := N
 s₀ := s
 H₀ := H
 env := envOfC qual scope s.heap.objs.size f cd
 outer := outer
 stack := envOfC qual scope s.heap.objs.size f cd :: outer
 ex := []
 calm := true
 fn := fun _ => true
 pn := []
 xe := fun e s' => wpAny (model P w) (A.deeper (envOfC qual scope s.heap.objs.size f cd)) (leaving (envOfC qual scope s.heap.objs.size f cd) e) (fun _ s'' => CX outer H s E e s'') (fun e' s'' => CX outer H s E e' s'') s'
theorem zli {sc : Scope} {n : Nat} {x : Str} (h : sc.names.lookup x = some .cell) : ∃ c, (cellsFrom n sc.names []).lookup x = some c := by
 have q := PySem.W.cellsFrom_some sc.names n [] (.inl h)
 exact Option.isSome_iff_exists.mp q
theorem znt {CX : CXT} {P : Program} {w : World} {K : PySem.W.Frag} {mg : Str -> Option Value} {base : Heap} {N ps : List Str} {qual : Str} {scope : Scope} {f : Addr} {cd : Value} {A : Around} {outer : List Env} {s s1 : Shared} {H : Hp} {E : XK} {us : List Value} {vs : List V}
  (S : zaz N ps scope) (hd : A.handled = none) (e0 : zuv P w K mg base A outer s H) (hl : vs.length = ps.length) (r : Vals vs us)
  (x : InCallC s s.heap.objs.size (bindL (envOfC qual scope s.heap.objs.size f cd).kindOf (ps.zip us) fun _ => none) (cellsFrom (s.heap.objs.size + 1) scope.names []) (bindC (envOfC qual scope s.heap.objs.size f cd).kindOf (ps.zip us) fun _ => none) s1) :
  Inv (zp8 CX P w K mg base N qual scope f cd A outer s H E) [] (start N vs) H s1 := by
 have hpl : ps.length <= N.length := by have := congrArg List.length S.pre; rw [List.length_take] at this; omega
 obtain ⟨h1, tk, rfl, hk⟩ := x.done
 have noA : ∀ b : Addr, b ∉ (zp8 CX P w K mg base N qual scope f cd A outer s H E).ex := fun b z => absurd (show b ∈ ([] : List Addr) from z) (by simp)
 refine ⟨⟨e0.mod, S.kind, rfl, rfl, Nat.le_refl _, fun y z c h1 h2 => ?_, fun y hy => ?_, fun y c _ h => ?_, fun _ => hd, Around.frames_deeper e0.frames, .inr ⟨rfl, rfl⟩, fun b z => absurd z (noA b), e0.bs, e0.bsz, fun b _ _ => noA b, fun b z => absurd z (noA b), e0.zl0, e0.frf⟩,
  rfl, e0.bare, Un.kept hk, ⟨_, x.toInCall.ns, fun i y v h1 h2 h3 => ?_⟩, fun y c h => ⟨_, x.cell y c h⟩, e0.hok.fresh (Nat.le_refl _), fun y c h => ?_, fun p hp => absurd (show p ∈ ([] : List (Addr × Obj)) from hp) (by simp), e0.hok.kept hk, ?_⟩
 ·exact name_of_addr x.apart (PySem.mem_of_lookup h1) (PySem.mem_of_lookup h2)
 ·have hy : scope.names.lookup y = some .cell \/ scope.names.lookup y = some .free := hy
  rcases hy with hy | hy
  ·exact zli hy
  ·exact absurd rfl (S.nofree _ (PySem.mem_of_lookup hy))
 ·exact Nat.le_of_lt (x.above y c (PySem.mem_of_lookup h))
 ·have hi : i < vs.length := by
   unfold start at h2
   by_cases hi : i < vs.length
   ·exact hi
   ·rw [List.getElem?_append_right (by simpa using hi)] at h2
    rw [List.getElem?_replicate] at h2
    split at h2 <;> cases h2
  have ha : vs[i]? = some v := by
   unfold start at h2
   rw [List.getElem?_append_left (by simpa using hi), List.getElem?_map] at h2
   cases e : vs[i]? with
   | none => rw [e] at h2; cases h2
   | some a => rw [e] at h2; cases h2; rfl
  obtain ⟨u, hu, rv⟩ := r.get ha
  have hp : ps[i]? = some y := by
   rw [<- S.pre, List.getElem?_take_of_lt (by omega)]; exact h1
  have ndP : ps.Nodup := by rw [<- S.pre]; exact S.nd.sublist (List.take_sublist _ _)
  refine ⟨u, rv, ?_⟩
  rcases S.par y (List.mem_of_getElem? hp) with k | k
  ·exact .inl ⟨k, zjD ndP hp hu k⟩
  ·obtain ⟨c, e⟩ := zli (n := s.heap.objs.size + 1) k
   refine .inr ⟨.inl k, c, e, ?_⟩
   have q := x.cell y c e
   rw [zjF ndP hp hu (by show scope.names.lookup y ≠ _; rw [k]; decide)] at q
   exact q
 ·exact e0.hok.fresh (Nat.le_of_lt (x.above y c (PySem.mem_of_lookup h)))
 ·unfold start
  show _ = N.length
  rw [List.length_append, List.length_map, List.length_replicate]
  omega
theorem zvb {CX : CXT} {P : Program} {w : World} {K : PySem.W.Frag} {mg : Str -> Option Value} {base : Heap} {k : Nat} {f : Addr} {name qual : Str} {params : Arguments} {body : List Stmt} {scope : Scope} {dV kV doc pm cdv ct oc : Value} {an od : Option Addr}
  {osl : Array (Option Value)} {N ps : List Str} {sp : Sp} (lk : K.lookup f = some ⟨oc, od, .func (PySem.W.fnOf name qual params body scope dV kV doc pm an cdv ct), osl⟩) (hcd : PySem.W.codeIn K cdv qual = true) (S : zaz N ps scope)
  (len : ∀ vs H Q E, sp vs H Q E -> vs.length = ps.length)
  (hbody : ∀ (A : Around) (outer : List Env) (s : Shared) (H : Hp) (vs : List V) (Q : VK) (E : XK), zeF k (A.deeper (envOfC qual scope s.heap.objs.size f cdv)) -> sp vs H Q E ->
   ∃ t, PSs (zp8 CX P w K mg base N qual scope f cdv A outer s H E) body t /\ t { nx := fun _ H' => Q .non H', rt := Q } (start N vs) H) :
  zh1 P w K mg base CX (k + 1) f (PySem.W.fnOf name qual params body scope dV kV doc pm an cdv ct) ps sp := by
 refine ⟨len, fun A outer s H args us vs Q E hr e0 hb r hsp => ?_⟩
 have hl := len _ _ _ _ hsp
 have KX : K.In s.heap := e0.mod.kin.keeps fun b o e => (e0.bs b o e).1
 have lim : s.heap.NoLimit := e0.mod.nolimit.keeps fun b o e => (e0.bs b o e).1
 have hkind : ∀ y ∈ ps.zip us, scope.names.lookup y.1 = some .local \/ (scope.names.lookup y.1 = some .cell /\ ((cellsFrom (s.heap.objs.size + 1) scope.names []).lookup y.1).isSome = true) := fun ⟨n, v⟩ hy => by
  rcases S.par n (List.of_mem_zip hy).1 with q | q
  ·exact .inl q
  ·exact .inr ⟨q, PySem.W.cellsFrom_some _ _ _ (.inl q)⟩
 refine codeAny_call_function hr.depth (KX _ _ lk) rfl S.co S.gen rfl (PySem.W.codeRec_of KX hcd) (hb _ _ _ _ ?_)
 refine wpAny_newFunctionEnv_cells S.kind hkind fun env he s1 x => ?_
 subst he
 refine ⟨lim.keeps x.toInCall.keep, codeAny_func ?_⟩
 obtain ⟨t, ht, hq⟩ := hbody A outer s H vs Q E (hr.deeper _) hsp
 have I : Inv (zp8 CX P w K mg base N qual scope f cdv A outer s H E) [] (start N vs) H s1 := znt S hr.hd e0 hl r x
 refine wpAny_mono (ht [] s1 (start N vs) H _ I hq) (fun fl s' hs => ?_) fun e s' hs => hs
 have fin : ∀ {σ' : St} {H' : Hp} {v : V} {u : Value}, Inv (zp8 CX P w K mg base N qual scope f cdv A outer s H E) [] σ' H' s' -> RelV v u -> Q v H' -> CE outer P w H s Q u s' :=
  fun {σ' H' v u} J rv q => ⟨v, H', J.os, J.bare, J.base, J.hok, rv, q⟩
 cases fl with
 | ret u =>
  obtain ⟨v, σ', H', J, rv, q⟩ := hs
  exact fin J rv q
 | next =>
  obtain ⟨σ', H', J, q⟩ := hs
  exact fin (v := V.non) (u := Value.none) J rfl q
 | brk =>
  obtain ⟨_, _, _, q⟩ := hs
  exact False.elim q
 | cont =>
  obtain ⟨_, _, _, q⟩ := hs
  exact False.elim q
end L2
namespace L2
open PySem PySem.Spec PyProof.Rows
section
variable {X : Cx} {x : Str} {p pos : Pos} {e : Expr} {es : List Expr} {t : TA} {id T : String} {r : List V -> Hp -> VK -> Prop}
def tCB (r : List V -> Hp -> VK -> Prop) (t : TA) : TE := fun σ H Q => t σ H fun vs H1 => r vs H1 Q
theorem zkO (hc : ze5 X (.builtin id) r) (hg : Gl X x) (hm : X.mg x = none) (hv : bootBuiltins x = some (.builtin id)) (ha : PA X (e :: es) t) (hn : x ≠ "__name__" := by decide) (hdb : (x == ("__debug__" : Str)) = false := by decide)
  (he : starEach (e :: es) X.env = (false, eval e X.env) :: starEach es X.env := by rfl) (hpl : (backTo pos (starEach es X.env)).any (·.1) = false := by rfl) : PE X (.Call (.Name x p) (e :: es) [] pos) (tCB r t) := by
 intro pins s σ H Q I h
 refine wpAny_Call_Name_kw (zhO I hg hm hv ?_ hn hdb)
 exact PyProof.Rows.callWith_builtin1 (thn (ha pos pins s σ H _ I h) fun us s1 ⟨vs, H1, I1, r1, q1⟩ => hc pins s1 σ H1 vs us Q I1 r1 q1) he hpl
theorem zmS (hc : ze5 X (.type T) r) (hg : Gl X x) (hm : X.mg x = none) (hv : bootBuiltins x = some (.type T)) (ha : PA X (e :: es) t) (hn : x ≠ "__name__" := by decide) (hdb : (x == ("__debug__" : Str)) = false := by decide)
  (he : starEach (e :: es) X.env = (false, eval e X.env) :: starEach es X.env := by rfl) (hpl : (backTo pos (starEach es X.env)).any (·.1) = false := by rfl) : PE X (.Call (.Name x p) (e :: es) [] pos) (tCB r t) := by
 intro pins s σ H Q I h
 refine wpAny_Call_Name_kw (zhO I hg hm hv ?_ hn hdb)
 exact PyProof.Rows.callWith_type1 (thn (ha pos pins s σ H _ I h) fun us s1 ⟨vs, H1, I1, r1, q1⟩ => hc pins s1 σ H1 vs us Q I1 r1 q1) he hpl
end
end L2
namespace HT
open PySem PyProof.Rows
def lexLt : List Int -> List Int -> Bool
 | [], [] => false
 | [], _ :: _ => true
 | _ :: _, [] => false
 | x :: xs, y :: ys => if x = y then lexLt xs ys else decide (x < y)
theorem zlL (x y : Int) (xs ys : List Int) : lexLt (x :: xs) (y :: ys) = if x = y then lexLt xs ys else decide (x < y) := rfl
theorem ziv : lexLt [] [] = false := rfl
theorem zhm (y : Int) (ys : List Int) : lexLt [] (y :: ys) = true := rfl
theorem zhn (x : Int) (xs : List Int) : lexLt (x :: xs) [] = false := rfl
theorem zgm (A : Around) (s : Shared) (a : Int) (t : Tok) (c : Int) (u : Tok) : ∃ e, SeqAt.EqAt A s (.int a t) (.int c u) e /\ (e = true ↔ a = c) :=
 ⟨(a == c), SeqAt.EqAt.int_int a t c u, by simp⟩
theorem zov (A : Around) (s : Shared) (a : Int) (t : Tok) (c : Int) (u : Tok) (prog : Program) (w : World) (E : Value -> Shared -> Prop) (Q : Value -> Shared -> Prop) (h : Q (.bool (decide (a < c))) s) :
  wpAny (model prog w) A (richCompare .Lt (.int a t) (.int c u)) Q E s :=
 (PyProof.Rows.lt_int h : wpAny (model prog w) A (compareOp .Lt (.int a t) (.int c u)) Q E s)
section
open PySem.SeqAt
open PySem.AutoSeq1 (wpAny_loadPart')
open PySem.MeetsSeq PySem.MeetsSeq2 PySem.MeetsSeq3
theorem zh6 (l b : Addr) (items items2 : Array Value) (n n2 : Nat) (dd dd2 : Option Addr) (sl sl2 : Array (Option Value)) (ns ms : List Int) (hi : IntsAre items.toList ns) (hj : IntsAre items2.toList ms) :
  Meets (Builtin.«tuple.__lt__» ⟨[.ref l, .ref b], []⟩)
   (fun _ R s => s.heap.get? l = some { cls := .type "tuple", dict := dd, data := .seq items n, slots := sl } /\ s.heap.get? b = some { cls := .type "tuple", dict := dd2, data := .seq items2 n2, slots := sl2 } /\
    R (.ok (.ret (.bool (lexLt ns ms)))) s) :=
 .of_wp fun prog w A R s h => by
  obtain ⟨hp, g, d, tk, os⟩ := s; obtain ⟨hl, hb, h⟩ := h
  have f2 := AutoSeq1.sub_tuple_tuple
  have z1 : items.size = ns.length := by rw [<- hi.length]; simp
  have z2 : items2.size = ms.length := by rw [<- hj.length]; simp
  wp_walk using wpAny_loadPart' hl, wpAny_loadPart' hb, wpAny_forIn_list _ (fun rest b s' => b.1 = none /\ s' = ⟨hp, g, d, tk, os⟩ /\ ∃ (vs ws : List Value) (ns' ms' : List Int), rest = vs.zip ws /\
   IntsAre vs ns' /\ IntsAre ws ms' /\ ns'.length + items2.size = ms'.length + items.size /\ R (.ok (.ret (.bool (lexLt ns' ms')))) ⟨hp, g, d, tk, os⟩) _
  case turn =>
   rintro ⟨y, x⟩ rest b s' ⟨hb', rfl, vs, ws, ns', ms', hz, hvi, hwi, hlen, hR⟩
   cases hvi with
   | nil => rw [List.zip_nil_left] at hz; cases hz
   | cons a t hvi' =>
    cases hwi with
    | nil => rw [List.zip_nil_right] at hz; cases hz
    | cons c u hwi' =>
     rw [List.zip_cons_cons] at hz
     injection hz with hyx hrest
     injection hyx with hy hx
     subst hy hx
     rw [zlL] at hR
     simp only [List.length_cons] at hlen
     obtain ⟨e, he, hiff⟩ := zgm A.in1 ⟨hp, g, d, tk, os⟩ a t c u
     refine wpAny_bind (he prog w _ _ ?_)
     cases e with
     | true =>
      rw [if_pos (hiff.mp rfl)] at hR
      wp_walk
      exact ⟨rfl, rfl, _, _, _, _, hrest, hvi', hwi', by omega, hR⟩
     | false =>
      rw [if_neg (fun q => absurd (hiff.mpr q) Bool.false_ne_true)] at hR
      have hri := zov A.in1 ⟨hp, g, d, tk, os⟩ a t c u prog w
      wp_walk using hri
      exact ⟨_, rfl, by simpa using hR⟩
  case fin =>
   rintro ⟨b1, b2⟩ s' ⟨hb', rfl, vs, ws, ns', ms', hz, hvi, hwi, hlen, hR⟩
   simp only at hb'
   subst hb'
   have hv : lexLt ns' ms' = decide (items.size < items2.size) := by
    cases hvi with
    | nil =>
     cases hwi with
     | nil =>
      simp only [List.length_nil] at hlen
      rw [ziv]
      exact (decide_eq_false (by omega)).symm
     | cons c u hw =>
      simp only [List.length_nil, List.length_cons] at hlen
      rw [zhm]
      exact (decide_eq_true (by omega)).symm
    | cons a t hv =>
     cases hwi with
     | nil =>
      simp only [List.length_nil, List.length_cons] at hlen
      rw [zhn]
      exact (decide_eq_false (by omega)).symm
     | cons c u hw =>
      rw [List.zip_cons_cons] at hz
      cases hz
   rw [hv] at hR
   wp_walk
   exact ⟨_, rfl, by simpa [Builtin.Tuple.tupleCompareSizes] using hR⟩
  case h =>
   exact ⟨rfl, rfl, items.toList, items2.toList, ns, ms, rfl, hi, hj, by omega, h⟩
end
section
variable {prog : Program} {w : World} {A : Around} {E : Value -> Shared -> Prop} {s : Shared}
theorem zhM {l b : Addr} {items items2 : Array Value} {ns ms : List Int} {Q : Value -> Shared -> Prop} (hl : IsTup s.heap l items) (hb : IsTup s.heap b items2) (hi : IntsAre items.toList ns) (hj : IntsAre items2.toList ms)
  (hu : A.units < cLine) (h : Q (.bool (lexLt ns ms)) s) : wpAny (model prog w) A (compareOp .Lt (.ref l) (.ref b)) Q E s := by
 obtain ⟨⟨cls, dd, data, sl⟩, ho, hc, n, hd⟩ := id hl
 obtain ⟨⟨cls2, dd2, data2, sl2⟩, ho2, hc2, n2, hd2⟩ := id hb
 simp only at hc hd hc2 hd2
 subst hc hd hc2 hd2
 exact richCompare_meets_room (op := .Lt) ⟨_, ho, rfl⟩ ⟨_, ho2, rfl⟩ PySem.F.slot_tuple_lt PySem.F.entry_tuple_lt (PySem.F.args_tuple_lt_2 _ _) (zh6 l b items items2 n n2 dd dd2 sl sl2 ns ms hi hj)
  ⟨ho, ho2, show Value.bool (lexLt ns ms) ≠ Value.notImplemented /\ Q (.bool (lexLt ns ms)) s from ⟨(fun x => nomatch x), h⟩⟩ hu
theorem zro {t b : Addr} {vs ws : List Value} {Q : Value -> Shared -> Prop} (ht : IsTup s.heap t vs.toArray) (hb : IsTup s.heap b ws.toArray) (hv : vs ≠ [])
  (h1 : ws = [] -> Q (.ref t) s) (h2 : ws ≠ [] -> Q (.ref s.heap.objs.size) { s with heap := s.heap.push { cls := .type "tuple", data := .seq (vs ++ ws).toArray } })
  (hsz : vs.length + ws.length <= sizeLine) : wpAny (model prog w) A (binaryOp .Add (.ref t) (.ref b)) Q E s := by
 obtain ⟨⟨cls, dd, data, sl⟩, ho, hc, n, hd⟩ := id ht
 obtain ⟨⟨cls2, dd2, data2, sl2⟩, ho2, hc2, n2, hd2⟩ := id hb
 simp only at hc hd hc2 hd2
 subst hc hd hc2 hd2
 have e : vs.toArray ++ ws.toArray = (vs ++ ws).toArray := by simp
 by_cases hw : ws = []
 ·exact concat_meets ⟨_, ho, rfl⟩ ⟨_, ho2, rfl⟩ noFill_tuple_add seq_tuple_add PySem.F.slot_tuple_add PySem.F.entry_tuple_add (PySem.F.args_tuple_add_2 _ _)
   (tuple_addW1 t b vs.toArray ws.toArray n n2 dd dd2 sl sl2 (by simpa using hv) (by simp [hw])) ⟨ho, ho2, h1 hw⟩
 ·refine concat_meets ⟨_, ho, rfl⟩ ⟨_, ho2, rfl⟩ noFill_tuple_add seq_tuple_add PySem.F.slot_tuple_add PySem.F.entry_tuple_add (PySem.F.args_tuple_add_2 _ _)
   (tuple_addW2 t b vs.toArray ws.toArray n n2 dd dd2 sl sl2 (by simpa using hv) (by simpa using hw) (by rw [List.size_toArray, List.size_toArray]; exact hsz)) ⟨ho, ho2, ?_⟩
  rw [e]
  exact h2 hw
def sIx (n d : Nat) : Option Int -> Nat
 | none => d
 | some v => if v < 0 then (v + (n : Int)).toNat else min v.toNat n
theorem zrT (n d : Nat) (hd : d <= n) (o : Option Int) : sIx n d o <= n := by
 cases o with
 | none => exact hd
 | some v =>
  show (if v < 0 then (v + (n : Int)).toNat else min v.toNat n) <= n
  by_cases hv : v < 0
  ·rw [if_pos hv]; omega
  ·rw [if_neg hv]; exact Nat.min_le_right _ _
theorem znS (v : Int) (n d : Nat) : (if v < 0 then max (v + (n : Int)) 0 else min v (n : Int)) = ((sIx n d (some v) : Nat) : Int) := by
 show (if v < 0 then max (v + (n : Int)) 0 else min v (n : Int)) = (((if v < 0 then (v + (n : Int)).toNat else min v.toNat n) : Nat) : Int)
 by_cases hv : v < 0
 ·simp only [if_pos hv]; omega
 ·simp only [if_neg hv]; omega
theorem zl5 (lo hi : Option Int) (n : Nat) : Builtin.Slice.sliceAdjust lo hi 1 (n : Int) = (((sIx n 0 lo : Nat) : Int), ((sIx n n hi : Nat) : Int)) := by
 have h1 : ¬ ((1 : Int) < 0) := by omega
 unfold Builtin.Slice.sliceAdjust
 simp only [h1, if_false]
 refine Prod.ext ?_ ?_
 ·cases lo with
  | none => rfl
  | some v => exact znS v n 0
 ·cases hi with
  | none => rfl
  | some v => exact znS v n n
theorem zlD (i j : Nat) : Builtin.Slice.slicePlaces (i : Int) (j : Int) 1 = j - i := by
 unfold Builtin.Slice.slicePlaces
 have h1 : (1 : Int) > 0 := by omega
 simp only [h1, if_true, Int.ediv_one]
 split <;> omega
theorem zhF {v : Value} {o : Option Int} {Q : Option Int -> Shared -> Prop} (p : IsPart v o) (h : Q o s) : wpAny (model prog w) A (Builtin.Slice.slicePartIndex v) Q E s := by
 cases p with
 | none => exact slicePart_none h
 | int i t => exact slicePart_int h
theorem zdG {sl : Addr} {vl vu : Value} {lo hi : Option Int} {n : Nat} {Q : Int × Int × Nat -> Shared -> Prop} (hs : s.heap.IsSliceOf sl vl vu .none) (pl : IsPart vl lo) (pu : IsPart vu hi)
  (h : Q (((sIx n 0 lo : Nat) : Int), 1, sIx n n hi - sIx n 0 lo) s) : wpAny (model prog w) A (Builtin.Slice.sliceApplied (.ref sl) (pure (n : Int))) Q E s := by
 obtain ⟨os, hos, hcs, hds⟩ := id hs
 unfold Builtin.Slice.sliceApplied Builtin.Slice.sliceFields
 refine wpAny_bind (wpAny_bind (wpAny_field hos hds (x := vl) rfl (wpAny_bind (wpAny_field hos hds (x := vu) rfl (wpAny_bind (wpAny_field hos hds (x := .none) rfl (wpAny_pure ?_)))))))
 refine wpAny_bind (slicePart_none ?_)
 show wpAny _ _ (if ((1 : Int) == 0) = true then _ else _) _ _ s
 rw [if_neg (by decide)]
 refine wpAny_bind (zhF pl (wpAny_bind (zhF pu (wpAny_bind (wpAny_pure ?_)))))
 show wpAny _ _ (match Builtin.Slice.sliceAdjust lo hi 1 (n : Int) with | (lo, hi) => pure (lo, (1 : Int), Builtin.Slice.slicePlaces lo hi 1)) _ _ s
 rw [zl5 lo hi n]
 show wpAny _ _ (pure (((sIx n 0 lo : Nat) : Int), (1 : Int), Builtin.Slice.slicePlaces ((sIx n 0 lo : Nat) : Int) ((sIx n n hi : Nat) : Int) 1)) _ _ s
 rw [zlD]
 exact wpAny_pure h
theorem zoN (xs : Array Value) (i k : Nat) : ((List.range k).filterMap fun (m : Nat) => xs[((i : Int) + (m : Int) * 1).toNat]?).toArray = ((xs.toList.drop i).take k).toArray := by
 have e : (fun (m : Nat) => xs[((i : Int) + (m : Int) * 1).toNat]?) = fun m => xs[i + m]? := by
  funext m
  have : ((i : Int) + (m : Int) * 1).toNat = i + m := by omega
  rw [this]
 rw [e]
 have := pick_run xs i k
 rw [List.filterMap_map] at this
 have e2 : ((fun x => xs[x]?) ∘ fun x => i + x) = fun m => xs[i + m]? := rfl
 rw [e2] at this
 rw [this]
theorem zfJ {t sl : Addr} {items : Array Value} {vl vu : Value} {lo hi : Option Int} {Q : Value -> Shared -> Prop} (ht : IsTup s.heap t items) (hs : s.heap.IsSliceOf sl vl vu .none) (pl : IsPart vl lo) (pu : IsPart vu hi)
  (hw : ¬ (sIx items.size 0 lo = 0 /\ sIx items.size items.size hi = items.size))
  (h : Q (.ref s.heap.objs.size) { s with heap := s.heap.push { cls := .type "tuple", data := .seq ((items.toList.drop (sIx items.size 0 lo)).take (sIx items.size items.size hi - sIx items.size 0 lo)).toArray } })
  (hsz : items.size <= sizeLine) : wpAny (model prog w) A (getItem (.ref t) (.ref sl)) Q E s := by
 have htake : sizeOk (.seq ((items.toList.drop (sIx items.size 0 lo)).take (sIx items.size items.size hi - sIx items.size 0 lo)).toArray) := by
  show ((items.toList.drop (sIx items.size 0 lo)).take (sIx items.size items.size hi - sIx items.size 0 lo)).toArray.size <= sizeLine
  rw [List.size_toArray, List.length_take, List.length_drop, Array.length_toList]
  omega
 have hj : sIx items.size items.size hi <= items.size := zrT _ _ (Nat.le_refl _) hi
 obtain ⟨os, hos, hcs, hds⟩ := id hs
 have hTs : s.TypeIs (.ref sl) "slice" := ⟨os, hos, hcs⟩
 unfold getItem
 try with_reducible refine wpAny_holding ?_
 first | refine wpAny_bind (wpAny_pure ?_) | skip
 refine wpAny_bind (wpAny_sequenceKey ht.typeIs (by decide) ?_)
 refine wpAny_bind (wpAny_callSpecial?_slot (name := Str.ofString "__getitem__") ht.typeIs PyProof.Rows.slot_tuple_getitem
  (wpAny_call_entry PyProof.Rows.slot_tuple_getitem ht.typeIs entry_tuple_getitem ?_ (args_tuple_getitem _ _)))
 show wpAny _ _ (Builtin.Tuple.tupleItemsOf (.ref t) >>= _) _ _ s
 refine wpAny_bind (tupleItemsOf_ ht ?_)
 refine wpAny_bind (wpAny_typeOf hTs ?_)
 rw [if_pos (by decide)]
 refine wpAny_bind (zdG hs pl pu ?_)
 have hno : ¬ ((((sIx items.size 0 lo : Nat) : Int) == 0 && (1 : Int) == 1 && (sIx items.size items.size hi - sIx items.size 0 lo) == items.size) = true) := by
  intro q
  rw [Bool.and_eq_true, Bool.and_eq_true] at q
  have q1 : ((sIx items.size 0 lo : Nat) : Int) = 0 := eq_of_beq q.1.1
  have q2 : sIx items.size items.size hi - sIx items.size 0 lo = items.size := eq_of_beq q.2
  exact hw ⟨by omega, by omega⟩
 show wpAny _ _ (if (((sIx items.size 0 lo : Nat) : Int) == 0 && (1 : Int) == 1 && (sIx items.size items.size hi - sIx items.size 0 lo) == items.size) = true then _ else _) _ _ s
 rw [if_neg hno, zoN]
 first
  | exact wpAny_bind (m := Builtin.Tuple.tupleExact _) (wpAny_newObj_type (wpAny_pure ⟨_, rfl, wpAny_pure h⟩) htake)
  | exact wpAny_bind (m := Builtin.Tuple.tupleExact _) (wpAny_newObj_type (wpAny_bind (wpAny_pure (wpAny_pure ⟨_, rfl, wpAny_pure h⟩))) htake)
  | exact wpAny_bind (wpAny_bind (m := Builtin.Tuple.tupleExact _) (wpAny_newObj_type (wpAny_pure (wpAny_pure ⟨_, rfl, wpAny_pure h⟩)) htake))
  | exact wpAny_bind (wpAny_bind (m := Builtin.Tuple.tupleExact _) (wpAny_newObj_type (wpAny_pure ⟨_, rfl, wpAny_pure h⟩) htake))
end
end HT
namespace L2
open PySem PySem.Spec PyProof.Rows
abbrev TO := St -> Hp -> (Option Int -> Hp -> Prop) -> Prop
def PO (X : Cx) (e : Option Expr) (t : TO) : Prop :=
 ∀ (pins : List (Addr × Obj)) (s : Shared) (σ : St) (H : Hp) (Q : Option Int -> Hp -> Prop), Inv X pins σ H s -> t σ H Q ->
  wpAny (model X.prog X.w) X.A (evalPart e X.env) (fun u s' => ∃ o H', Inv X pins σ H' s' /\ IsPart u o /\ Q o H') X.xe s
def zqo : TO := fun _ H Q => Q none H
def zux (t : TE) : TO := fun σ H Q => t σ H fun x H1 => ∃ i, x = .int i /\ Q (some i) H1
theorem intsAre_of {ns : List Int} : ∀ {us : List Value}, Vals (ns.map V.int) us -> IntsAre us ns := by
 induction ns with
 | nil => intro us r; rw [List.map_nil] at r; cases r; exact .nil
 | cons n ns ih =>
  intro us r
  rw [List.map_cons] at r
  cases r with
  | cons r1 r2 =>
   obtain ⟨t, e⟩ := r1
   subst e
   exact .cons n t (ih r2)
section
variable {X : Cx} {e : Expr} {te : TE} {lo hi : Option Expr} {tl th : TO} {pos p2 : Pos}
theorem zqM : PO X none zqo := by
 intro pins s σ H Q I h
 rw [evalPart_none]
 exact wpAny_pure ⟨none, H, I, .none, h⟩
theorem zqL (h : PE X e te) : PO X (some e) (zux te) := by
 intro pins s σ H Q I hw
 rw [evalPart_some]
 refine thn (h pins s σ H _ I hw) fun u s1 ⟨x, H1, I1, r1, q1⟩ => ?_
 obtain ⟨i, rfl, q⟩ := q1
 obtain ⟨t, rfl⟩ := r1
 exact ⟨some i, H1, I1, .int i t, q⟩
def SlR (X : Cx) (r : V -> Option Int -> Option Int -> Hp -> VK -> Prop) : Prop :=
 ∀ (pins : List (Addr × Obj)) (s : Shared) (σ : St) (H : Hp) (x : V) (v vl vu : Value) (lo hi : Option Int) (sl : Addr) (Q : VK), Inv X pins σ H s -> RelV x v -> s.heap.IsSliceOf sl vl vu .none -> IsPart vl lo -> IsPart vu hi -> r x lo hi H Q ->
  ∃ T id, typeLookup (.type T) "__getitem__" = pure (some (.builtin id)) /\ s.TypeIs v T /\ wpAny (model X.prog X.w) X.A (getItem v (.ref sl)) (EP X pins σ Q) X.xe s
def tSl (r : V -> Option Int -> Option Int -> Hp -> VK -> Prop) (te : TE) (tl th : TO) : TE := fun σ H Q => te σ H fun x H1 => tl σ H1 fun l H2 => th σ H2 fun u H3 => r x l u H3 Q
theorem zoP {r : V -> Option Int -> Option Int -> Hp -> VK -> Prop} (hr : SlR X r) (he : PE X e te) (hl : PO X lo tl) (hu : PO X hi th) : PE X (.Subscript e (.Slice lo hi none p2) pos) (tSl r te tl th) := by
 intro pins s σ H Q I h
 refine Subscript_ (thn (he pins s σ H _ I h) fun v s1 ⟨x, H1, I1, r1, q1⟩ => ?_)
 refine wpAny_Slice (thn (hl pins s1 σ H1 _ I1 q1) fun vl s2 ⟨l, H2, I2, pl, q2⟩ => thn (hu pins s2 σ H2 _ I2 q2) fun vu s3 ⟨u, H3, I3, pu, q3⟩ => ?_)
 rw [evalPart_none]
 refine wpAny_pure ?_
 have I4 : Inv X pins σ H3 { s3 with heap := s3.heap.push { cls := .type "slice", data := .fields #[vl, vu, .none] } } := I3.kept (t' := s3.toks) fun b ob q => Heap.get?_push_of_some _ q
 obtain ⟨T, id, hT, ht, hg⟩ := hr pins { s3 with heap := s3.heap.push { cls := .type "slice", data := .fields #[vl, vu, .none] } } σ H3 x v vl vu l u s3.heap.objs.size Q I4 r1 (Heap.IsSliceOf.new ..) pl pu q3
 show wpAny (model X.prog X.w) X.A (subscriptTail e (.Slice lo hi none p2) v (.ref s3.heap.objs.size)) (EP X pins σ Q) X.xe { s3 with heap := s3.heap.push { cls := .type "slice", data := .fields #[vl, vu, .none] } }
 exact tail_any (ops := [.ref s3.heap.objs.size, v]) ht hT hg (by with_unfolding_all rfl)
def zpo (xs : List V) (lo hi : Option Int) : List V := (xs.drop (HT.sIx xs.length 0 lo)).take (HT.sIx xs.length xs.length hi - HT.sIx xs.length 0 lo)
theorem zg7 (xs : List V) (lo hi : Option Int) : (zpo xs lo hi).length <= xs.length := by
 unfold zpo
 rw [List.length_take, List.length_drop]
 omega
def zwa (K : PySem.W.Frag) : V -> Option Int -> Option Int -> Hp -> VK -> Prop := fun x lo hi H Q => ∃ a xs, x = .ref a /\ SqT K H a xs /\
 ¬ (HT.sIx xs.length 0 lo = 0 /\ HT.sIx xs.length xs.length hi = xs.length) /\ ∀ p, H p = none -> Q (.ref p) (upd H p (.tup (zpo xs lo hi)))
theorem zrR : SlR X (zwa X.K) := by
 intro pins s σ H x v vl vu lo hi sl Q I rx hs pl pu h
 obtain ⟨a, xs, rfl, hx, hw, q⟩ := h
 cases rx
 obtain ⟨its, r, ht, hz⟩ := I.tuple hx
 have hlen : its.toArray.size = xs.length := by rw [List.size_toArray]; exact r.length.symm
 refine ⟨"tuple", _, PyProof.Rows.slot_tuple_getitem.lookup, ht.typeIs, ?_⟩
 refine HT.zfJ ht hs pl pu (by rw [hlen]; exact hw) ?_ (by rw [hlen]; exact hz)
 rw [hlen]
 refine ⟨.ref s.heap.objs.size, _, I.laid (t' := s.toks) (o := .tup (zpo xs lo hi)) (fun b ob q => Heap.get?_push_of_some _ q) (Nat.le_refl _) ?_, rfl, q _ (I.hok.fresh (Nat.le_refl _))⟩
 exact ⟨Nat.le_trans (zg7 xs lo hi) hz, _, (r.drop (HT.sIx xs.length 0 lo)).take (HT.sIx xs.length xs.length hi - HT.sIx xs.length 0 lo), IsTup.new _ _⟩
def zuI (K : PySem.W.Frag) : R2 := fun x y H Q => ∃ a b xs ys, x = .ref a /\ y = .ref b /\ SqT K H a xs /\ SqT K H b ys /\ xs ≠ [] /\ xs.length + ys.length <= sizeLine /\
 (ys = [] -> Q (.ref a) H) /\ (ys ≠ [] -> ∀ p, H p = none -> Q (.ref p) (upd H p (.tup (xs ++ ys))))
theorem Vals.zjY {xs : List V} {us : List Value} (r : Vals xs us) : us = [] ↔ xs = [] := by
 cases r with
 | nil => simp
 | cons _ _ => simp
theorem zqY : OpR X (binaryOp .Add) (zuI X.K) := by
 intro pins s σ H x y v u Q I rx ry h
 obtain ⟨a, b, xs, ys, rfl, rfl, ha, hb, hx, hz, q1, q2⟩ := h
 cases rx
 cases ry
 obtain ⟨its, r1, p1, _⟩ := I.tuple ha
 obtain ⟨its2, r2, p2, _⟩ := I.tuple hb
 refine HT.zro p1 p2 (fun z => hx (r1.zjY.mp z)) (fun z => ⟨.ref a, H, I, rfl, q1 (r2.zjY.mp z)⟩) (fun z => ?_) (by rw [<- r1.length, <- r2.length]; exact hz)
 refine ⟨.ref s.heap.objs.size, _, I.laid (t' := s.toks) (o := .tup (xs ++ ys)) (fun b ob q => Heap.get?_push_of_some _ q) (Nat.le_refl _) ?_, rfl, q2 (fun w => z (r2.zjY.mpr w)) _ (I.hok.fresh (Nat.le_refl _))⟩
 exact ⟨by rw [List.length_append]; exact hz, _, r1.append r2, IsTup.new _ _⟩
end
end L2
namespace L2
open PySem PySem.Spec PyProof.Rows
def ixN (n : Nat) (i : Int) : Option Nat := if 0 <= i then (if i < n then some i.toNat else none) else if -(n : Int) <= i then some (i + n).toNat else none
def atI {α : Type} (xs : List α) (i : Int) : Option α := (ixN xs.length i).bind fun j => xs[j]?
theorem znq {n : Nat} {i : Int} {j : Nat} (h : ixN n i = some j) : seqIndex? i n = some j /\ j < n /\ -(n : Int) <= i /\ i < n := by
 unfold ixN at h
 by_cases h0 : 0 <= i
 ·rw [if_pos h0] at h
  by_cases h1 : i < n
  ·rw [if_pos h1] at h
   have e : i.toNat = j := Option.some.inj h
   exact ⟨by rw [seqIndex_of h0 h1, e], by omega, by omega, h1⟩
  ·rw [if_neg h1] at h; cases h
 ·rw [if_neg h0] at h
  by_cases h1 : -(n : Int) <= i
  ·rw [if_pos h1] at h
   have e : (i + n).toNat = j := Option.some.inj h
   exact ⟨by rw [seqIndex_neg (by omega) h1, e], by omega, h1, by omega⟩
  ·rw [if_neg h1] at h; cases h
theorem zn3 {α : Type} {xs : List α} {i : Int} {v : α} (h : atI xs i = some v) : ∃ j, seqIndex? i xs.length = some j /\ xs[j]? = some v /\ j < xs.length /\ -(xs.length : Int) <= i /\ i < xs.length := by
 unfold atI at h
 cases e : ixN xs.length i with
 | none => rw [e] at h; cases h
 | some j =>
  rw [e] at h
  obtain ⟨h1, h2, h3, h4⟩ := znq e
  exact ⟨j, h1, h, h2, h3, h4⟩
def zkt (b : Expr) : Prop := ∀ o i, subscripted b false o i = operate [o, i] (getItem o i)
def IxR (X : Cx) (r : R2) : Prop :=
 ∀ (value slice : Expr) (pins : List (Addr × Obj)) (s : Shared) (σ : St) (H : Hp) (x y : V) (v u : Value) (Q : VK), Inv X pins σ H s -> RelV x v -> RelV y u -> r x y H Q ->
  subscripted slice false v u = operate [v, u] (getItem v u) -> wpAny (model X.prog X.w) X.A (subscriptTail value slice v u) (EP X pins σ Q) X.xe s
def MtR (X : Cx) (id : String) (r : V -> List V -> Hp -> VK -> Prop) : Prop :=
 ∀ (pins : List (Addr × Obj)) (s : Shared) (σ : St) (H : Hp) (x : V) (xs : List V) (v : Value) (us : List Value) (Q : VK), Inv X pins σ H s -> RelV x v -> Vals xs us -> r x xs H Q ->
  wpAny (model X.prog X.w) X.A (call (.builtin id) (v :: us)) (EP X pins σ Q) X.xe s
section
variable {X : Cx} {a b : Expr} {ta tb : TE} {pos : Pos}
theorem zsh {r : R2} (hr : IxR X r) (ha : PE X a ta) (hb : PE X b tb) (hs : zkt b) : PE X (.Subscript a b pos) (tOp r ta tb) := by
 intro pins s σ H Q I h
 exact Subscript_ (zvA ha hb I h fun v u s2 x y H2 I2 rx ry q => hr a b pins s2 σ H2 x y v u Q I2 rx ry q (hs _ _))
def zwe (K : PySem.W.Frag) : R2 := fun x y H Q => ∃ p xs i v, x = .ref p /\ y = .int i /\ SqL K H p xs /\ atI xs i = some v /\ Q v H
def zwd (K : PySem.W.Frag) : R2 := fun x y H Q => ∃ p xs i v, x = .ref p /\ y = .int i /\ SqT K H p xs /\ atI xs i = some v /\ Q v H
theorem zrc : IxR X (zwe X.K) := by
 intro value slice pins s σ H x y v u Q I rx ry h hs
 obtain ⟨p, xs, i, z, rfl, rfl, hq, he, q⟩ := h
 cases rx
 obtain ⟨t, rfl⟩ := ry
 obtain ⟨its, r, pl, hz⟩ := I.list hq
 obtain ⟨j, h1, h2, h3, h4, h5⟩ := zn3 he
 obtain ⟨w, ew, rw'⟩ := r.get h2
 have hl := r.length
 have hn := zjh
 have fin : EP X pins σ Q w s := ⟨z, H, I, rw', q⟩
 by_cases h0 : 0 <= i
 ·have hj : i.toNat = j := by
   rw [seqIndex_of h0 h5] at h1
   exact Option.some.inj h1
  exact item_listR pl.isList h0 (by omega) (by rw [hj]; simpa using ew) fin hs
 ·have hj : (i + (its.toArray.size : Int)).toNat = j := by
   rw [seqIndex_neg (by omega) h4] at h1
   rw [List.size_toArray, <- hl]
   exact Option.some.inj h1
  exact subscriptTail_builtinR (x := w) pl.isList.typeIs slot_list_getitem.lookup
   (wpAny_getItem_list_neg (Q := fun r s' => r = w /\ EP X pins σ Q r s') pl.isList (by omega) (by rw [List.size_toArray] <;> omega) (by omega) (by rw [hj]; simpa using ew) ⟨rfl, fin⟩) hs
theorem zsH : IxR X (zwd X.K) := by
 intro value slice pins s σ H x y v u Q I rx ry h hs
 obtain ⟨p, xs, i, z, rfl, rfl, hq, he, q⟩ := h
 cases rx
 obtain ⟨t, rfl⟩ := ry
 obtain ⟨its, r, pl, hz⟩ := I.tuple hq
 obtain ⟨j, h1, h2, h3, h4, h5⟩ := zn3 he
 obtain ⟨w, ew, rw'⟩ := r.get h2
 have hl := r.length
 have hn := zjh
 have fin : EP X pins σ Q w s := ⟨z, H, I, rw', q⟩
 exact subscriptTail_builtinR (x := w) pl.typeIs slot_tuple_getitem.lookup
  (getItem_tuple (j := j) (Q := fun r s' => r = w /\ EP X pins σ Q r s') pl (by omega) (by omega) (by rw [List.size_toArray, <- hl]; exact h1) (by simpa using ew) ⟨rfl, fin⟩) hs
theorem zlK (its : List Value) (n j : Nat) (u : Value) : Obj.mapSeq (·.setIfInBounds j u) { cls := .type "list", data := .seq its.toArray n } = { cls := .type "list", data := .seq (its.set j u).toArray n } := by
 simp [Obj.mapSeq]
theorem Inv.lst {pins : List (Addr × Obj)} {σ : St} {H : Hp} {s : Shared} {p : Addr} {xs : List V} (I : Inv X pins σ H s) (h : H p = some (.lst xs)) :
  ∃ (its : List Value) (n : Nat), Vals xs its /\ s.heap.get? p = some { cls := .type "list", data := .seq its.toArray n } /\ xs.length <= sizeLine := by
 obtain ⟨z, its, n, r, e⟩ := I.hok p _ h
 exact ⟨its, n, r, e, z⟩
theorem Inv.zsw {pins : List (Addr × Obj)} {σ : St} {H : Hp} {s : Shared} {p : Addr} {xs ys : List V} {its its' : List Value} {n n' : Nat} {f : Obj -> Obj} (I : Inv X pins σ H s) (h : H p = some (.lst xs))
  (ho : s.heap.get? p = some { cls := .type "list", data := .seq its.toArray n }) (hf : f { cls := .type "list", data := .seq its.toArray n } = { cls := .type "list", data := .seq its'.toArray n' }) (r : Vals ys its') (hz : ys.length <= sizeLine) (t : Nat) :
  Inv X pins σ (upd H p (.lst ys)) { s with heap := s.heap.update p f, toks := t } := by
 have e : (s.heap.update p f).get? p = some { cls := .type "list", data := .seq its'.toArray n' } := by
  rw [Heap.get?_update_self f ho (by rw [hf] <;> rfl), hf]
 refine I.write (x := p) (e := p) (by rw [h]; trivial) (.inl rfl) (fun b u hb q => (Heap.get?_update_other _ _ (Ne.symm hb)).trans q) ⟨_, e⟩ ?_
 exact ⟨hz, its', n', r, e⟩
def zuH : V -> V -> V -> Hp -> (Hp -> Prop) -> Prop := fun o i v H Q => ∃ p xs k j, o = .ref p /\ i = .int k /\ H p = some (.lst xs) /\ ixN xs.length k = some j /\ Q (upd H p (.lst (xs.set j v)))
theorem set_list : zvV X zuH := by
 intro pins s σ H o i v ov iv u Q I ro ri rv h
 obtain ⟨p, xs, k, j, rfl, rfl, hp, hj, q⟩ := h
 cases ro
 obtain ⟨t, rfl⟩ := ri
 obtain ⟨its, n, r, ho, hz⟩ := I.lst hp
 obtain ⟨h1, h2, h3, h4⟩ := znq hj
 have hl := r.length
 have hn := zjh
 have I' : Inv X pins σ (upd H p (.lst (xs.set j v))) { s with heap := s.heap.update p (Obj.mapSeq (·.setIfInBounds j u)) } :=
  I.zsw hp ho (zlK its n j u) (r.set rv j) (by rw [List.length_set]; exact hz) s.toks
 by_cases h0 : 0 <= k
 ·have hk : k.toNat = j := by
   rw [seqIndex_of h0 h4] at h1
   exact Option.some.inj h1
  exact PySem.W.ki_setAt ho h0 (by omega) (by rw [List.size_toArray, <- hl]; exact h4) (by rw [hk]; exact ⟨_, I', q⟩)
 ·have hk : (k + (its.toArray.size : Int)).toNat = j := by
   rw [seqIndex_neg (by omega) h3] at h1
   rw [List.size_toArray, <- hl]
   exact Option.some.inj h1
  exact PySem.W.ki_setBack ho (by omega) (by rw [List.size_toArray, <- hl]; exact h3) (by omega) (by rw [hk]; exact ⟨_, I', q⟩)
theorem zi1 (lo hi : Option Int) (n : Nat) : (sliceBounds lo hi none n).1 = ((HT.sIx n 0 lo : Nat) : Int) /\ (sliceBounds lo hi none n).2.1 = ((HT.sIx n n hi : Nat) : Int) /\ (sliceBounds lo hi none n).2.2 = 1 := by
 refine ⟨?_, ?_, rfl⟩
 ·cases lo with
  | none => simp [sliceBounds, HT.sIx]
  | some i =>
   simp only [sliceBounds, HT.sIx, Option.getD_none, show (1 : Int) > 0 by decide, if_true]
   by_cases h : i < 0
   ·simp only [h, if_true] <;> omega
   ·simp only [h, if_false] <;> omega
 ·cases hi with
  | none => simp [sliceBounds, HT.sIx]
  | some i =>
   simp only [sliceBounds, HT.sIx, Option.getD_none, show (1 : Int) > 0 by decide, if_true]
   by_cases h : i < 0
   ·simp only [h, if_true] <;> omega
   ·simp only [h, if_false] <;> omega
theorem zic (its : List Value) (lo hi : Option Int) : slicePick its.toArray lo hi none = ((its.drop (HT.sIx its.length 0 lo)).take (HT.sIx its.length its.length hi - HT.sIx its.length 0 lo)).toArray := by
 obtain ⟨h1, h2, h3⟩ := zi1 lo hi its.toArray.size
 unfold slicePick
 rw [h1, h2, h3]
 simp only [sliceRange_one, pick_run, List.size_toArray] <;> rfl
def zwb (K : PySem.W.Frag) : V -> Option Int -> Option Int -> Hp -> VK -> Prop := fun x lo hi H Q => ∃ a xs, x = .ref a /\ SqL K H a xs /\ ∀ p, H p = none -> Q (.ref p) (upd H p (.lst (zpo xs lo hi)))
theorem zqs : SlR X (zwb X.K) := by
 intro pins s σ H x v vl vu lo hi sl Q I rx hs pl pu h
 obtain ⟨a, xs, rfl, hx, q⟩ := h
 cases rx
 obtain ⟨its, r, ht, hz⟩ := I.list hx
 have hlen := r.length
 refine ⟨"list", _, slot_list_getitem.lookup, ht.isList.typeIs, ?_⟩
 refine wpAny_getItem_list_slice ht.isList hs pl pu .none (by simp) ?_ (by rw [List.size_toArray] <;> omega)
 rw [zic, <- hlen]
 refine ⟨.ref s.heap.objs.size, _, I.laid (t' := s.toks) (o := .lst (zpo xs lo hi)) (fun b ob q => Heap.get?_push_of_some _ q) (Nat.le_refl _) ?_, rfl, q _ (I.hok.fresh (Nat.le_refl _))⟩
 exact ⟨Nat.le_trans (zg7 xs lo hi) hz, _, 0, (r.drop (HT.sIx xs.length 0 lo)).take (HT.sIx xs.length xs.length hi - HT.sIx xs.length 0 lo), Heap.get?_push_size _ rfl⟩
theorem zf6 : ze5 X (.builtin "len") (fun xs H Q => ∃ p ys, xs = [.ref p] /\ (SqL X.K H p ys \/ SqT X.K H p ys) /\ Q (.int ys.length) H) := by
 intro pins s σ H xs us Q I r h
 obtain ⟨p, ys, rfl, hq, q⟩ := h
 obtain ⟨u, rfl, rx⟩ := vals1 r
 cases rx
 have hn := zjh
 rcases hq with hq | hq
 ·obtain ⟨its, r', pl, hz⟩ := I.list hq
  have hlen := r'.length
  exact Calls.call_len_list pl.isList (by simp only [List.size_toArray] <;> omega) ⟨.int ys.length, H, I.tok _, ⟨s.toks + 1, by rw [List.size_toArray, hlen]⟩, q⟩
 ·obtain ⟨its, r', pl, hz⟩ := I.tuple hq
  have hlen := r'.length
  exact len_tuple pl (by simp only [List.size_toArray] <;> omega) ⟨.int ys.length, H, I.tok _, ⟨s.toks + 1, by rw [List.size_toArray, hlen]⟩, q⟩
theorem zft : ze5 X (.type "tuple") (fun xs H Q => ∃ p ys, xs = [.ref p] /\ ((SqL X.K H p ys /\ ∀ l, H l = none -> Q (.ref l) (upd H l (.tup ys))) \/ (SqT X.K H p ys /\ Q (.ref p) H))) := by
 intro pins s σ H xs us Q I r h
 obtain ⟨p, ys, rfl, h⟩ := h
 obtain ⟨u, rfl, rx⟩ := vals1 r
 cases rx
 rcases h with ⟨hq, q⟩ | ⟨hq, q⟩
 ·obtain ⟨its, r', pl, hz⟩ := I.list hq
  have hlen := r'.length
  refine call_tuple_list pl.isList (fun h' kp => ?_) (by simp only [List.size_toArray] <;> omega)
  have I1 : Inv X pins σ H { s with heap := h' } := I.kept (t' := s.toks) kp
  have I2 : Inv X pins σ (upd H h'.objs.size (.tup ys)) { s with heap := h'.push { cls := .type "tuple", data := .seq its.toArray } } :=
   I1.laid (t' := s.toks) (fun b o e => Heap.get?_push_of_some _ e) (Nat.le_refl _) (show zbV X.prog X.w _ _ _ (.tup ys) from ⟨hz, its, r', IsTup.new _ _⟩)
  exact ⟨.ref h'.objs.size, _, I2, rfl, q _ (I1.hok.fresh (Nat.le_refl _))⟩
 ·obtain ⟨its, r', pl, hz⟩ := I.tuple hq
  exact call_tuple_same pl ⟨.ref p, H, I, rfl, q⟩
def tyV (K : PySem.W.Frag) (T : String) (x : V) (H : Hp) : Prop := match x with
 | .str _ => T = "str"
 | .int _ => T = "int"
 | .ref p => (T = "list" /\ ∃ xs, SqL K H p xs) \/ (T = "tuple" /\ ∃ o, K.lookup p = some o /\ o.cls = .type "tuple" /\ o.dict = none) \/
   (T = "dict" /\ ((∃ kvs, H p = some (.dK kvs)) \/ ∃ kvs, H p = some (.dT kvs))) \/ (T = "set" /\ ∃ S n, H p = some (.set S n))
 | _ => False
theorem zrH {pins : List (Addr × Obj)} {σ : St} {H : Hp} {s : Shared} {T : String} {x : V} {v : Value} (I : Inv X pins σ H s) (r : RelV x v) (ty : tyV X.K T x H) :
  s.TypeIs v T /\ ∀ a, v = .ref a -> ∃ ob, s.heap.get? a = some ob /\ ob.dict = none := by
 cases x with
 | str z =>
  obtain ⟨t, rfl⟩ := r
  cases (show T = "str" from ty)
  exact ⟨typeIs_str s z t, fun _ e => nomatch e⟩
 | int i =>
  obtain ⟨t, rfl⟩ := r
  cases (show T = "int" from ty)
  exact ⟨typeIs_int s i t, fun _ e => nomatch e⟩
 | ref p =>
  cases r
  rcases ty with ⟨rfl, xs, hq⟩ | ⟨rfl, o, hk, hc, hd⟩ | ⟨rfl, hk⟩ | ⟨rfl, S, n, hk⟩
  ·obtain ⟨its, _, pl, _⟩ := I.list hq
   refine ⟨pl.isList.typeIs, fun a e => ?_⟩
   cases e
   obtain ⟨o, n, e, c, hd, _⟩ := pl
   exact ⟨o, e, hd⟩
  ·refine ⟨⟨o, I.kIn p o hk, hc⟩, fun a e => ?_⟩
   cases e
   exact ⟨o, I.kIn _ o hk, hd⟩
  ·have z : ∃ o, s.heap.get? p = some o /\ o.ExactDict := by
    rcases hk with ⟨kvs, hk⟩ | ⟨kvs, hk⟩
    ·obtain ⟨_, _, _, _, o, _, _, e, ex, _⟩ := I.hok p _ hk
     exact ⟨o, e, ex⟩
    ·obtain ⟨_, _, _, _, o, _, _, e, ex, _⟩ := I.hok p _ hk
     exact ⟨o, e, ex⟩
   obtain ⟨o, e, ex⟩ := z
   refine ⟨⟨o, e, ex.1⟩, fun a e2 => ?_⟩
   cases e2
   exact ⟨o, e, ex.2.1⟩
  ·obtain ⟨o, _, _, _, e, ex, _⟩ := I.hok p _ hk
   refine ⟨⟨o, e, ex.1⟩, fun a e2 => ?_⟩
   cases e2
   exact ⟨o, e, ex.2.1⟩
 | _ => exact False.elim ty
def tBM (K : PySem.W.Frag) (T : String) (r : V -> List V -> Hp -> VK -> Prop) (to : TE) (t : TA) : TE := fun σ H Q => to σ H fun x H1 => tyV K T x H1 /\ t σ H1 fun xs H2 => r x xs H2 Q
variable {o e : Expr} {es : List Expr} {to : TE} {t : TA} {name : Str} {apos cpos : Pos} {T id : String} {r : V -> List V -> Hp -> VK -> Prop}
theorem zuS (pa : PlainAttrs T) (slot : Slot T name id) (hty : typeOf (.builtin id) = pure (.type "method_descriptor")) (hm : MtR X id r) (ho : PE X o to) (ha : PA X (e :: es) t)
  (hbase : attributeBase o name X.env (eval o X.env) = eval o X.env := by rfl)
  (hfew : ((backTo cpos (starEach (e :: es) X.env)).all (fun x => !x.1) && (backToKw cpos (keywordEach [] X.env)).all (fun x => x.1.isSome)
   && decide ((e :: es).length + ([] : List Keyword).length + (if ([] : List Keyword).isEmpty then 0 else 1) < 30)) = true := by rfl)
  (hline : (apos.endLine == cpos.line) = true := by rfl) (hs : starEach (e :: es) X.env = (false, eval e X.env) :: starEach es X.env := by rfl) (hplain : (backTo cpos (starEach es X.env)).any (·.1) = false := by rfl) :
  PE X (.Call (.Attribute o name apos) (e :: es) [] cpos) (tBM X.K T r to t) := by
 intro pins s σ H Q I h
 refine wpAny_Call_method_late hbase hfew hline rfl (thn (ho pins s σ H _ I h) fun v s1 ⟨x, H1, I1, r1, ty, q1⟩ => ?_)
 obtain ⟨h1, h2⟩ := zrH I1 r1 ty
 refine ⟨T, id, pa, slot, hty, h1, h2, ?_⟩
 have hA := ha cpos pins s1 σ H1 _ I1 q1
 rw [hs] at hA ⊢
 refine Calls.callWith_builtin (by show (false || (backTo cpos (starEach es X.env)).any (·.1)) = false; rw [hplain] <;> rfl) (Calls.evalArgs_plain ?_)
 exact thn hA fun us s2 ⟨vs, H2, I2, r2, q2⟩ => hm pins s2 σ H2 x vs v us Q I2 r1 r2 q2
/- xs.append(e), list.index on a module's tuple .. are MtR facts of 06m -/
end
end L2
namespace L2
open PySem PySem.Spec PyProof.Rows
def MtM (X : Cx) (id : String) (r : V -> List V -> Hp -> VK -> Prop) : Prop :=
 ∀ (pins : List (Addr × Obj)) (s : Shared) (σ : St) (H : Hp) (x : V) (xs : List V) (v : Value) (us : List Value) (Q : VK), Inv X pins σ H s -> RelV x v -> Vals xs us -> r x xs H Q ->
  wpAny (model X.prog X.w) X.A (call (.builtin id) (v :: us)) (EP X pins σ Q) X.xe s
theorem Vals.one : ∀ {x : V} {us : List Value}, Vals [x] us -> ∃ u, us = [u] /\ RelV x u
 | _, _, .cons r .nil => ⟨_, rfl, r⟩
theorem Vals.rep {xs : List V} {us : List Value} (h : Vals xs us) : ∀ k : Nat, Vals (List.replicate k xs).flatten (List.replicate k us).flatten
 | 0 => .nil
 | k + 1 => by
  rw [List.replicate_succ, List.replicate_succ, List.flatten_cons, List.flatten_cons]
  exact Vals.append h (Vals.rep h k)
theorem foldl_rep (its : List Value) : ∀ (k : Nat) (acc : List Value),
  List.foldl (fun x1 x2 => x1 ++ x2) acc.toArray (List.replicate k its.toArray) = (acc ++ (List.replicate k its).flatten).toArray
 | 0, acc => by simp
 | k + 1, acc => by
  have e : acc.toArray ++ its.toArray = (acc ++ its).toArray := by simp
  have e2 : (acc ++ its) ++ (List.replicate k its).flatten = acc ++ (List.replicate (k + 1) its).flatten := by
   rw [List.replicate_succ, List.flatten_cons, List.append_assoc]
  rw [<- e2, <- foldl_rep its k (acc ++ its), <- e, List.replicate_succ, List.foldl_cons]
section
variable {X : Cx} {pins : List (Addr × Obj)} {σ : St} {H : Hp} {s : Shared} {l b : Addr} {xs ys zs : List V}
theorem Inv.zwq {its its' : List Value} {n : Nat} {f : Array Value -> Array Value} {t' : Nat} (I : Inv X pins σ H s) (hH : H l = some (.lst xs))
  (e : s.heap.get? l = some { cls := .type "list", data := .seq its.toArray n }) (hf : f its.toArray = its'.toArray) (hv : Vals ys its') (hz : ys.length <= sizeLine) :
  Inv X pins σ (upd H l (.lst ys)) { s with heap := s.heap.update l (Obj.mapSeq f), toks := t' } := by
 have q := PySem.IsL.update e f
 rw [hf] at q
 refine I.write (x := l) (e := l) (by rw [hH]; exact trivial) (.inl rfl) (fun b' u hb hu => (Heap.get?_update_other s.heap (Obj.mapSeq f) (Ne.symm hb)).trans hu) ⟨_, q⟩ ?_
 exact ⟨hz, its', _, hv, q⟩
theorem Inv.zwr {its : List Value} {t' : Nat} (I : Inv X pins σ H s) (hv : Vals ys its) (hz : ys.length <= sizeLine) :
  Inv X pins σ (upd H s.heap.objs.size (.lst ys)) { s with heap := s.heap.push { cls := .type "list", data := .seq its.toArray }, toks := t' } :=
 I.laid (fun _ _ q => Heap.get?_push_of_some _ q) (Nat.le_refl _) ⟨hz, its, 0, hv, Heap.get?_push_size _ rfl⟩
theorem Inv.fresh (I : Inv X pins σ H s) : H s.heap.objs.size = none := I.hok.fresh (Nat.le_refl _)
theorem Inv.zwp (I : Inv X pins σ H s) (hH : H l = some (.lst xs)) : xs.length <= sizeLine /\ ∃ (its : List Value) (n : Nat), Vals xs its /\ xs.length = its.length /\ s.heap.get? l = some { cls := .type "list", data := .seq its.toArray n } := by
 obtain ⟨z, its, n, r, e⟩ := I.hok l _ hH
 exact ⟨z, its, n, r, r.length, e⟩
end
section
variable {X : Cx}
def zqx : V -> List V -> Hp -> VK -> Prop := fun x vs H Q => ∃ l xs y, x = .ref l /\ vs = [y] /\ H l = some (.lst xs) /\ xs.length < sizeLine /\ Q .non (upd H l (.lst (xs ++ [y])))
theorem zgK : MtM X "list.append" zqx := by
 intro pins s σ H x vs v us Q I rx rv h
 obtain ⟨l, xs, y, rfl, rfl, hH, hz, q⟩ := h
 cases rx
 obtain ⟨u, rfl, ru⟩ := rv.one
 obtain ⟨z, its, n, r, hl, e⟩ := I.zwp hH
 refine call_meets F.slot_list_append ⟨_, e, rfl⟩ F.entry_list_append (F.args_list_append_2 _ _) (PySem.list_append l its.toArray n u (by rw [List.size_toArray]; omega)) ⟨e, ?_⟩
 refine ⟨.non, _, I.zwq (its' := its ++ [u]) hH e (by simp) (r.append (.cons ru .nil)) ?_, rfl, q⟩
 rw [List.length_append, List.length_singleton]
 omega
theorem len_rep {α : Type} (xs : List α) (k : Nat) : (List.replicate k xs).flatten.length = k * xs.length := by
 induction k with
 | zero => simp
 | succ k ih => rw [List.replicate_succ, List.flatten_cons, List.length_append, ih, Nat.succ_mul, Nat.add_comm]
end
end L2
namespace Att
open PySem PySem.W PySem.Calls PyProof.Rows
theorem zgS {P : Params} {h : Heap} : ∀ (ns : List Int) (vs : List Value), WellAll P h vs (ns.map WData.int) -> IntsAre vs ns := by
 intro ns
 induction ns with
 | nil =>
  intro vs w
  rw [List.map_nil] at w
  cases w
  exact .nil
 | cons n ns ih =>
  intro vs w
  rw [List.map_cons] at w
  cases w with
  | cons a b =>
   cases a
   exact .cons _ _ (ih _ b)
theorem zmn {l : OpenLaw} {n : Nat} (hn : l.most = some n) {P : Params} {h : Heap} {args : List WData} {vals : List Value}
  (hpre : l.row.toRowW.claim.pre args = true) (hwl : WellAll P h vals args) :
  ∃ a vs ns, vals = [Value.ref a] /\ args = [WData.list (ns.map WData.int)] /\ h.get? a = some { cls := .type "list", data := .seq vs.toArray } /\ IntsAre vs ns /\ ns.length <= n := by
 have hsh : WShape.hasAll [] args [.list .int] = true := (pre_splitW hpre).1
 have hc : l.pre.holds [] { args := args } = true := (pre_splitW hpre).2
 obtain ⟨d, r, rfl, h1, h2⟩ := hasAllW_cons hsh
 obtain rfl := hasAllW_nil h2
 obtain ⟨xs, rfl, h3⟩ := hasW_list h1
 obtain ⟨ns, rfl⟩ := items_int h3
 have hlen : ns.length <= n := by
  unfold OpenLaw.pre at hc
  have h4 : (WTm.not (.lt (.lit (.int (n : Int))) (.len (.arg 0)))).holds [] { args := [.list (ns.map .int)] } = true := by
   have h4 := (holds_andW hc).1
   rw [hn] at h4
   exact h4
  have h5 := condW_of h4 (w_not (w_lt w_lit (w_len_list (w_arg rfl))))
  rw [List.length_map] at h5
  refine Nat.le_of_not_lt fun q => ?_
  have q' : (n : Int) < ((ns.length : Nat) : Int) := by omega
  first
   | (rw [decide_eq_true q'] at h5; exact absurd h5 (by decide))
   | (simp at h5; omega)
 cases hwl with
 | cons w1 w2 =>
  cases w2
  cases w1 with
  | list ho hall => exact ⟨_, _, ns, rfl, rfl, ho, zgS ns _ hall, hlen⟩
theorem zmK (l : OpenLaw) (args : List WData) : l.row.toRowW.claim.post args (.bool true) args = true :=
 postW_of (r := l.row.toRowW) (X := (true == true))
  (show WShape.has [] (.bool true) .bool = true by first | rfl | decide | simp [WShape.has, WShape.arms, WShape.armsAll])
  (show (WTm.eq .res (.lit (.bool true))).value [] { args := args, res := some (.bool true), after := args } = some (.bool (true == true)) from w_eq_bool (w_res rfl) w_lit) rfl
theorem zkr {l : OpenLaw} {n : Nat} {q : Program} {loose : List Str} {XP : (Str -> Option Value) -> Heap -> Prop} {YP : World -> Heap -> Prop} {d : DefRec}
  (hn : l.most = some n) (hdf : d.params.defaults = [])
  (call : ∀ (w : World) (s₀ s₁ : Shared) (mg mb : Str -> Option Value) (fa : Addr) (o : Obj) (pm cd doc : Value) (a : Addr) (vs : List Value) (ns : List Int),
   Ground q loose [] XP w s₀ mg mb s₁.heap -> YP w s₁.heap ->
   s₁.heap.get? fa = some o -> o.data = .func (docDef d.name d.params d.body d.scope pm cd doc) -> s₁.heap.CodeRec cd d.name -> mg d.name = some (.ref fa) ->
   s₁.heap.get? a = some { cls := .type "list", data := .seq vs.toArray } -> IntsAre vs ns -> ns.length <= n -> s₁.gens = #[] ->
   codeAny (model l.prog w) callerA (.call (.ref fa) ⟨[.ref a], []⟩) (fun r s' => r = .ok (.ret (.bool true)) /\ OldK s₁.heap s'.heap /\ s'.os = s₁.os /\ AllBare s'.gens) s₁) :
  WalkO q loose XP YP l.row.toRowW d [] (fun f vs => PySem.call f vs) := by
 intro w s₀ s₁ mg mb G Y fa o pm cd doc dV kV ho hd hcd hD hmg hg args vals as hpre hlay hrd hwl hlo
 obtain rfl : dV = .none := Dflts.none hD hdf
 obtain rfl : kV = .none := Dflts.noKw hD
 obtain ⟨a, vs, ns, rfl, rfl, hobj, hints, hlen⟩ := zmn hn hpre hwl
 refine enter_call (codeAny_mono (call w s₀ s₁ mg mb fa o pm cd doc a vs ns G Y ho (fd_plain hd) hcd hmg hobj hints hlen hg) fun r s' hq => ?_)
 obtain ⟨rfl, h2, h3, h4⟩ := hq
 exact ⟨.inl ⟨.bool true, .bool true, [], rfl, fun _ => rfl, .bool true, zmK l _, fun _ => ⟨List.Pairwise.nil, fun _ hm => (nomatch hm)⟩⟩, h2, h3, h4⟩
end Att
namespace L2
open PySem PySem.Spec PyProof.Rows
theorem ziY : ∀ {vs : List Value} {ns : List Int}, IntsAre vs ns -> Vals (ns.map V.int) vs
 | _, _, .nil => .nil
 | _, _, .cons n t h => .cons ⟨t, rfl⟩ (ziY h)
end L2
namespace L2
open PySem PySem.Spec PyProof.Rows
abbrev KOf {K : PySem.W.Frag} {h : Heap} (_ : K.In h) : PySem.W.Frag := K
end L2
/- THE LAST THEOREM (shape; LID, My.* are yours):
  My.Adr: a structure of the addresses that your layer names (classes, functions); My.Txt K t: a structure (Prop) of the equations over K;
  My.txt_mk : {K} {implicit addresses ..} (e1 : nsIn K mainGlobals "law" = some (some (.ref f))) (e2 : K.lookup f = some ⟨oc, od, .func (fnOf "law" "law" params body scope dV kV doc pm an cdv ct), sl⟩) (e3 : codeIn K cdv "law" = true) .. : ∃ t, My.Txt K t
set_option maxRecDepth 100000 in
set_option maxHeartbeats 0 in
theorem PySem.Challenge.zp9 : PySem.Challenge.rw_LID.Holds := by
 w_on; o_law; k_head; (case hw => w_witness2)
 k_fill
 refine L2.walk_of (l := PySem.Challenge.rw_LID) (n := 63) (k := 40) (x := "script") (CX := fun w => ..) (sp := fun _ => My.sp_law) rfl (by decide) rfl ⟨rfl, by decide, by decide⟩ (fun w h Y => PySem.W.kIn_of Y) ?F ?S ?C
 case F =>
  intro w mg fa h KX G hmg
  have T : ∃ t, My.Txt (L2.KOf KX) t := by
   dsimp only [L2.KOf]                          -- K must stand as «<heap const> w.params» for k_is
   refine' My.txt_mk ?e1 ?e2 ?e3 ..
   (case e1 => PySem.W.k_is)                    -- in the order: a name -> its address -> its object -> its parts
   (case e2 => PySem.W.k_is)
   ..
  obtain ⟨t, T⟩ := T
  have e0 := hmg.symm.trans (PySem.W.mg_of KX G T.law)
  cases e0                                       -- fa is the law's own address
  exact ⟨_, fun s u => .of_eq rfl, fun base kb nb => My.law_fn T kb nb⟩     -- if «.of_eq rfl» comes too early: refine' ⟨_, ?b, fun base kb nb => My.law_fn T kb nb⟩; exact fun s u => .of_eq rfl
 case S => exact fun w H a ns hl hO hS => ..
 case C => exact ..
(the tactic k_is has no namespace: write k_is) -/
/-! SHORT WORDS over the layer: a def of the text, its body, what a loop and a test want. -/
namespace L2
open PySem PySem.Spec PyProof.Rows
def zd5 (s : Stmt) : Arguments := match s with
 | .FunctionDef _ a _ _ _ _ _ _ _ _ => a
 | _ => { posonlyargs := [], args := [], vararg := none, kwonlyargs := [], kw_defaults := [], kwarg := none, defaults := [] }
def zcD (s : Stmt) : List Stmt := match s with
 | .FunctionDef _ _ b _ _ _ _ _ _ _ => b
 | _ => []
def zao (s : Stmt) : Scope := match s with
 | .FunctionDef _ _ _ _ _ _ sc _ _ _ => sc
 | _ => { kind := .function, names := [], isGenerator := false, isCoroutine := false }
abbrev E0 : XK := fun _ _ _ => False
structure Fun (K : PySem.W.Frag) (x qual : Str) (st : Stmt) (f : Addr) (fd : FuncData) : Prop where
 ex : ∃ (oc : Value) (od : Option Addr) (kV doc pm : Value) (an : Option Addr) (cdv ct : Value) (osl : Array (Option Value)),
  fd = PySem.W.fnOf x qual (zd5 st) (zcD st) (zao st) .none kV doc pm an cdv ct /\ K.lookup f = some ⟨oc, od, .func fd, osl⟩ /\ PySem.W.codeIn K cdv qual = true
 kp : PySem.W.keepIn K (.ref f) = true
section
variable {P : Program} {w : World} {K : PySem.W.Frag} {mg : Str -> Option Value} {base : Heap}
theorem Fun.binds {x qual : Str} {st : Stmt} {f : Addr} {fd : FuncData} {ps : List Str} (F : Fun K x qual st f fd)
  (h : ∀ (kV doc pm : Value) (an : Option Addr) (cdv ct : Value) (us : List Value), us.length = ps.length -> bindArgs (PySem.W.fnOf x qual (zd5 st) (zcD st) (zao st) .none kV doc pm an cdv ct) ⟨us, []⟩ = pure (ps.zip us)) : Binds K fd ps [] := by
 obtain ⟨oc, od, kV, doc, pm, an, cdv, ct, osl, rfl, lk, hcd⟩ := F.ex
 exact .all (h kV doc pm an cdv ct)
theorem zsP {x qual : Str} {st : Stmt} {f : Addr} {oc : Value} {od an : Option Addr} {osl : Array (Option Value)} {kV doc pm cdv ct : Value} (l : K.lookup f = some ⟨oc, od, .func (PySem.W.fnOf x qual (zd5 st) (zcD st) (zao st) .none kV doc pm an cdv ct), osl⟩)
  (c : PySem.W.codeIn K cdv qual = true) (k : PySem.W.keepIn K (.ref f) = true) : Fun K x qual st f (PySem.W.fnOf x qual (zd5 st) (zcD st) (zao st) .none kV doc pm an cdv ct) := ⟨⟨oc, od, kV, doc, pm, an, cdv, ct, osl, rfl, l, c⟩, k⟩
end
theorem zmm {n : Nat} (h : n <= 1000) : n < sizeLine := Nat.lt_of_le_of_lt h (by decide)
section
variable {X : Cx}
theorem pv (i : Nat) {x : Str} {pos : Pos} (hN : X.N[i]? = some x := by rfl) (hv : Vis X.env.scope x := by first | exact Or.inl rfl | exact Or.inr (Or.inl rfl) | exact Or.inr (Or.inr rfl)) (hd : (x == ("__debug__" : Str)) = false := by decide)
  (hcd : (x == ("__classdict__" : Str)) = false := by decide) : PE X (.Name x pos) (zkF i) := zpJ hN hv hd hcd
end
theorem zrz {A B : Prop} (h : B) : if false = true then A else B := by
 rw [if_neg Bool.false_ne_true]
 exact h
theorem zry {A B : Prop} (h : A) : if true = true then A else B := by
 rw [if_pos rfl]
 exact h
def zba (H H' : Hp) : Prop := ∀ b o, H b = some o -> H' b = some o
theorem zba.refl (H : Hp) : zba H H := fun _ _ h => h
end L2
namespace L2
open PySem PySem.Spec PyProof.Rows
theorem bits_le {k : Int} {a : Nat} (h : k.natAbs < 2 ^ a) : Builtin.Int.intBits k <= a := by
 unfold Builtin.Int.intBits
 split
 ·exact Nat.zero_le _
 ·rename_i h0
  have hp : k.natAbs ≠ 0 := by
   intro z
   apply h0
   have : k = 0 := by omega
   subst this
   rfl
  have := (Nat.log2_lt hp).mpr h
  omega
theorem mulOk_of {i j : Int} {a b : Nat} (hi : i.natAbs < 2 ^ a) (hj : j.natAbs < 2 ^ b) (h : a + b <= 134217728) : IntMulOk i j := by
 have h1 := bits_le hi
 have h2 := bits_le hj
 have h3 : Builtin.Int.intTooBig ((Builtin.Int.intBits i : Int) + (Builtin.Int.intBits j : Int)) = false := by
  unfold Builtin.Int.intTooBig
  rw [bitsLine_eq]
  simp
  omega
 unfold IntMulOk
 rw [h3]
 simp
section
variable {X : Cx}
theorem zqW : OpR X (binaryOp .Mult) (rI IntMulOk fun i j => .int (i * j)) := opI fun _ _ _ _ _ _ _ hc q => mul_int q hc
end
mutual
/-- the value v is the thing d in the abstract heap -/
def Is (K : PySem.W.Frag) (H : Hp) : PyData -> V -> Prop
 | .none, v => v = .non
 | .bool b, v => v = .bl b
 | .int i, v => v = .int i
 | .str x, v => v = .str x
 | .list xs, v => ∃ a vs, v = .ref a /\ SqL K H a vs /\ zfT K H xs vs
 | .tuple xs, v => ∃ a vs, v = .ref a /\ SqT K H a vs /\ zfT K H xs vs
 | .dict _, _ => False
def zfT (K : PySem.W.Frag) (H : Hp) : List PyData -> List V -> Prop
 | [], vs => vs = []
 | d :: ds, vs => ∃ v r, vs = v :: r /\ Is K H d v /\ zfT K H ds r
end
section
variable {X : Cx} {pins : List (Addr × Obj)} {σ : St} {H : Hp} {s : Shared}
mutual
theorem Is.reads (I : Inv X pins σ H s) : ∀ (d : PyData) (v : V) (u : Value), Is X.K H d v -> RelV v u -> ∃ as, Reads s.heap u d as
 | .none, v, u, h, r => by
  simp only [Is] at h; subst h
  cases (show u = Value.none from r)
  exact ⟨_, .none⟩
 | .bool b, v, u, h, r => by
  simp only [Is] at h; subst h
  cases (show u = Value.bool b from r)
  exact ⟨_, .bool b⟩
 | .int i, v, u, h, r => by
  simp only [Is] at h; subst h
  obtain ⟨t, rfl⟩ := (show ∃ t, u = Value.int i t from r)
  exact ⟨_, .int i t⟩
 | .str x, v, u, h, r => by
  simp only [Is] at h; subst h
  obtain ⟨t, rfl⟩ := (show ∃ t, u = Value.str x t from r)
  exact ⟨_, .str x t⟩
 | .list xs, v, u, h, r => by
  simp only [Is] at h
  obtain ⟨a, vs, rfl, h1, h2⟩ := h
  cases (show u = Value.ref a from r)
  obtain ⟨its, rv, ⟨o, n, ho, hc, _, hd⟩, _⟩ := I.list h1
  obtain ⟨as, ra⟩ := zfT.reads I xs vs its h2 rv
  exact ⟨_, .list ho hc hd (by simpa using ra)⟩
 | .tuple xs, v, u, h, r => by
  simp only [Is] at h
  obtain ⟨a, vs, rfl, h1, h2⟩ := h
  cases (show u = Value.ref a from r)
  obtain ⟨its, rv, ⟨o, ho, hc, n, hd⟩, _⟩ := I.tuple h1
  obtain ⟨as, ra⟩ := zfT.reads I xs vs its h2 rv
  exact ⟨_, .tuple ho hc hd (by simpa using ra)⟩
 | .dict _, v, u, h, r => by simp only [Is] at h
theorem zfT.reads (I : Inv X pins σ H s) : ∀ (ds : List PyData) (vs : List V) (us : List Value), zfT X.K H ds vs -> Vals vs us -> ∃ as, ReadsAll s.heap us ds as
 | [], vs, us, h, r => by
  simp only [zfT] at h; subst h
  cases r
  exact ⟨_, .nil⟩
 | d :: ds, vs, us, h, r => by
  simp only [zfT] at h
  obtain ⟨v, rr, rfl, h1, h2⟩ := h
  cases r with
  | cons r1 r2 =>
   obtain ⟨as, q1⟩ := Is.reads I d v _ h1 r1
   obtain ⟨bs, q2⟩ := zfT.reads I ds rr _ h2 r2
   exact ⟨_, .cons q1 q2⟩
end
end
section
variable {X : Cx}
def zwg (K : PySem.W.Frag) : R2 := fun x y H Q => ∃ d e, Is K H d x /\ Is K H e y /\ SeqAt.shaped d = true /\ SeqAt.shaped e = true /\ Q (.bl (PyData.eqv d e)) H
def zwc (K : PySem.W.Frag) : R2 := fun x y H Q => ∃ d e, Is K H d x /\ Is K H e y /\ SeqAt.shaped d = true /\ SeqAt.shaped e = true /\ Q (.bl (!PyData.eqv d e)) H
theorem zsq (hu : X.A.units + 64 < cLine) : OpR X (compareOp .Eq) (zwg X.K) := by
 intro pins s σ H x y v u Q I rx ry h
 obtain ⟨d, e, h1, h2, c1, c2, q⟩ := h
 obtain ⟨as, ra⟩ := Is.reads I d x v h1 rx
 obtain ⟨bs, rb⟩ := Is.reads I e y u h2 ry
 exact SeqAt.compareEq_shaped ra rb c1 c2 hu ⟨.bl _, H, I, rfl, q⟩
theorem zsm (hu : X.A.units + 64 < cLine) : OpR X (compareOp .NotEq) (zwc X.K) := by
 intro pins s σ H x y v u Q I rx ry h
 obtain ⟨d, e, h1, h2, c1, c2, q⟩ := h
 obtain ⟨as, ra⟩ := Is.reads I d x v h1 rx
 obtain ⟨bs, rb⟩ := Is.reads I e y u h2 ry
 exact SeqAt.compareNe_shaped ra rb c1 c2 hu ⟨.bl _, H, I, rfl, q⟩
end
end L2
namespace L2
open PySem PySem.Spec PyProof.Rows
inductive Ty (K : PySem.W.Frag) (H : Hp) : V -> Value -> Prop where
 | non : Ty K H .non (.type "NoneType")
 | bl (x : Bool) : Ty K H (.bl x) (.type "bool")
 | int (i : Int) : Ty K H (.int i) (.type "int")
 | str (x : Str) : Ty K H (.str x) (.type "str")
 | lst {a : Addr} {xs : List V} (e : SqL K H a xs) : Ty K H (.ref a) (.type "list")
 | tup {a : Addr} {xs : List V} (e : SqT K H a xs) : Ty K H (.ref a) (.type "tuple")
def zur : V -> Value
 | .ty n => .type n
 | .ref a => .ref a
 | _ => .none
theorem zrn {y : V} {u : Value} (r : RelV y u) (h : zur y ≠ .none) : u = zur y := by
 cases y with
 | ty n => exact r
 | ref a => exact r
 | _ => exact absurd rfl h
section
variable {X : Cx}
theorem zsJ {pins : List (Addr × Obj)} {σ : St} {H : Hp} {s : Shared} {A : Around} {E : Value -> Shared -> Prop} {Q : Value -> Shared -> Prop} {c : Value} {b : Bool} {x : V} {u t : Value} (I : Inv X pins σ H s) (rx : RelV x u) (ty : Ty X.K H x t) (e : PySem.W.kitOne X.K t c = some b) (h : ∀ tk, Q (.bool b) { s with toks := tk }) :
  wpAny (model X.prog X.w) A (call (.builtin "isinstance") [u, c]) Q E s := by
 cases ty with
 | non => cases (show u = Value.none from rx); exact PySem.W.kia_one PySem.W.kitx_none I.kIn True.intro e (fun z => nomatch z) h
 | bl y => cases (show u = Value.bool y from rx); exact PySem.W.kia_one PySem.W.kitx_bool I.kIn True.intro e (fun z => nomatch z) h
 | int i => obtain ⟨t, q⟩ := (show ∃ t, u = Value.int i t from rx); cases q; exact PySem.W.kia_one PySem.W.kitx_int I.kIn True.intro e (fun z => nomatch z) h
 | str y => obtain ⟨t, q⟩ := (show ∃ t, u = Value.str y t from rx); cases q; exact PySem.W.kia_one PySem.W.kitx_str I.kIn True.intro e (fun z => nomatch z) h
 | @lst a xs ea =>
  cases (show u = Value.ref a from rx)
  obtain ⟨its, _, ⟨o, n, ho, hc, _⟩, _⟩ := I.list ea
  exact PySem.W.kia_one PySem.W.kitx_list I.kIn ⟨o, ho, hc⟩ e (fun z => nomatch z) h
 | @tup a xs ea =>
  cases (show u = Value.ref a from rx)
  obtain ⟨its, _, ⟨o, ho, hc, _⟩, _⟩ := I.tuple ea
  exact PySem.W.kia_one PySem.W.kitx_tuple I.kIn ⟨o, ho, hc⟩ e (fun z => nomatch z) h
def zwf (K : PySem.W.Frag) : List V -> Hp -> VK -> Prop := fun xs H Q => ∃ x y t b, xs = [x, y] /\ zur y ≠ .none /\ Ty K H x t /\ PySem.W.kitOne K t (zur y) = some b /\ Q (.bl b) H
theorem zpv : ze5 X (.builtin "isinstance") (zwf X.K) := by
 intro pins s σ H xs us Q I r h
 obtain ⟨x, y, t, b, rfl, hy, ty, e, q⟩ := h
 obtain ⟨u, v, rfl, ru, rv⟩ := vals2 r
 cases zrn rv hy
 exact zsJ I ru ty e fun tk => ⟨.bl b, H, I.tok tk, rfl, q⟩
theorem zuP {x : Str} {n : String} {pos : Pos} (hg : Gl X x) (hm : X.mg x = none) (hv : bootBuiltins x = some (.type n)) (hn : x ≠ "__name__" := by decide) (hd : (x == ("__debug__" : Str)) = false := by decide) : PE X (.Name x pos) (tC (.ty n)) := zqT hg hm hv rfl hn hd
theorem zpu (hc : X.calm = true) : ze5 X (.builtin "sum") (fun xs H Q => ∃ (a : Addr) (ns : List Int), xs = [.ref a] /\ SqL X.K H a (ns.map V.int) /\ Q (.int ns.sum) H) := by
 intro pins s σ H xs us Q I r h
 obtain ⟨a, ns, rfl, hq, q⟩ := h
 obtain ⟨u, rfl, ru⟩ := vals1 r
 cases (show u = Value.ref a from ru)
 obtain ⟨its, rv, p, hz⟩ := I.list hq
 have hi := intsAre_of rv
 obtain ⟨xs, e⟩ := hi.allInts.items
 have en : ns = List.map (fun x => x.fst) xs.toList := by
  have h1 := nums_intItems xs
  rw [<- e] at h1
  rw [<- h1, show its.toArray.toList = its from rfl, hi.numsOf]
 refine sum_intListG (xs := xs) (I.ok.hd hc) (by rw [<- e]; exact p.isList) fun h' tk t' hk => ⟨.int ns.sum, H, I.kept hk, ?_, q⟩
 refine ⟨t', ?_⟩
 rw [preSum_eq, List.take_of_length_le (by simp), en]
end
end L2
namespace L2
open PySem PySem.Spec PyProof.Rows
def zhy (cells : List (Str × Addr)) : List (Str × NameKind) -> List (Str × Addr) -> List (Str × Addr)
 | [], acc => acc
 | (n, k) :: r, acc => if k = .free then (match cells.lookup n with | some a => zhy cells r ((n, a) :: acc) | none => zhy cells r acc) else zhy cells r acc
theorem zgo {cells : List (Str × Addr)} : ∀ {names : List (Str × NameKind)} {acc : List (Str × Addr)}, (∀ p ∈ acc, cells.lookup p.1 = some p.2) -> ∀ p ∈ zhy cells names acc, cells.lookup p.1 = some p.2
 | [], acc, h, p, hp => h p hp
 | (n, k) :: r, acc, h, p, hp => by
  unfold zhy at hp
  split at hp
  ·split at hp
   ·rename_i a e
    exact zgo (names := r) (acc := (n, a) :: acc) (fun q hq => by
     rcases List.mem_cons.mp hq with rfl | hq
     ·exact e
     ·exact h q hq) p hp
   ·exact zgo h p hp
  ·exact zgo h p hp
theorem zgp {cells : List (Str × Addr)} : ∀ {names : List (Str × NameKind)} {acc : List (Str × Addr)}, ∀ p ∈ acc, p ∈ zhy cells names acc
 | [], acc, p, hp => hp
 | (n, k) :: r, acc, p, hp => by
  unfold zhy
  split
  ·split
   ·exact zgp p (List.mem_cons_of_mem _ hp)
   ·exact zgp p hp
  ·exact zgp p hp
theorem zfs {cells : List (Str × Addr)} {x : Str} {a : Addr} (e : cells.lookup x = some a) : ∀ {names : List (Str × NameKind)} {acc : List (Str × Addr)}, (x, NameKind.free) ∈ names -> (x, a) ∈ zhy cells names acc
 | (n, k) :: r, acc, h => by
  unfold zhy
  rcases List.mem_cons.mp h with h | h
  ·cases h
   rw [if_pos rfl, e]
   exact zgp _ (List.mem_cons_self ..)
  ·split
   ·split
    ·exact zfs e h
    ·exact zfs e h
   ·exact zfs e h
theorem zbX {α : Type} {x : Str} {a : α} : ∀ {l : List (Str × α)}, (x, a) ∈ l -> ∃ b, l.lookup x = some b
 | (y, b) :: r, h => by
  by_cases e : (x == y) = true
  ·exact ⟨b, by simp [List.lookup_cons, e]⟩
  ·rcases List.mem_cons.mp h with h | h
   ·cases h
    exact absurd (beq_self_eq_true _) e
   ·obtain ⟨c, hc⟩ := zbX h
    refine ⟨c, ?_⟩
    have e' : (x == y) = false := by simpa using e
    simp only [List.lookup_cons, e']
    exact hc
theorem zfr {scope : Scope} {env : Env} (h : ∀ y ∈ scope.names, y.2 = .free -> ∃ a, env.cells.lookup y.1 = some a) : closureFor scope env = pure (zhy env.cells scope.names []) := by
 have key : ∀ (names : List (Str × NameKind)) (acc : List (Str × Addr)), (∀ y ∈ names, y.2 = .free -> ∃ a, env.cells.lookup y.1 = some a) ->
   (forIn names acc (fun x r => match x with
    | (name, kind) => if (kind == NameKind.free) = true then do let a <- cellOf env name; pure (ForInStep.yield ((name, a) :: r)) else pure (ForInStep.yield r)) : Sem (List (Str × Addr))) = pure (zhy env.cells names acc) := by
  intro names
  induction names with
  | nil => intro acc _; rfl
  | cons p r ih =>
   intro acc hh
   obtain ⟨n, k⟩ := p
   rw [List.forIn_cons]
   by_cases hk : k = .free
   ·subst hk
    obtain ⟨a, ea⟩ := hh (n, .free) (List.mem_cons_self ..) rfl
    have e1 : cellOf env n = pure a := by unfold cellOf; rw [ea]
    simp only [beq_self_eq_true, if_true, e1, pure_bind, zhy, ea]
    exact ih _ fun y hy => hh y (List.mem_cons_of_mem _ hy)
   ·have hk' : (k == NameKind.free) = false := by simpa using hk
    simp only [hk', Bool.false_eq_true, if_false, pure_bind, zhy, hk]
    exact ih _ fun y hy => hh y (List.mem_cons_of_mem _ hy)
 unfold closureFor
 exact (bind_pure _).trans (key scope.names [] h)
theorem zbx {scope : Scope} {env : Env} {x : Str} {k : NameKind} : ∀ {names : List (Str × NameKind)},
  (names.map fun (n, k) => if (k == NameKind.free && env.scope.kind == .function && env.kindOf n == some .cell) then (n, NameKind.cell) else (n, k)).lookup x = some k ->
  ∃ k0, names.lookup x = some k0 /\ (x, k0) ∈ names /\ (k0 = k \/ (k0 = .free /\ k = .cell))
 | [], h => by simp at h
 | (n, k0) :: r, h => by
  by_cases e : (x == n) = true
  ·have en : x = n := by simpa using e
   subst en
   refine ⟨k0, by simp [List.lookup_cons], List.mem_cons_self .., ?_⟩
   rw [List.map_cons] at h
   by_cases hc : (k0 == NameKind.free && env.scope.kind == .function && env.kindOf x == some .cell) = true
   ·simp only [hc, if_true, List.lookup_cons, beq_self_eq_true] at h
    simp only [Bool.and_eq_true, beq_iff_eq] at hc
    exact .inr ⟨hc.1.1, (Option.some.inj h).symm⟩
   ·simp only [hc, Bool.false_eq_true, if_false, List.lookup_cons, beq_self_eq_true] at h
    exact .inl (Option.some.inj h)
  ·have e' : (x == n) = false := by simpa using e
   rw [List.map_cons] at h
   have h' : (r.map fun (n, k) => if (k == NameKind.free && env.scope.kind == .function && env.kindOf n == some .cell) then (n, NameKind.cell) else (n, k)).lookup x = some k := by
    by_cases hc : (k0 == NameKind.free && env.scope.kind == .function && env.kindOf n == some .cell) = true
    ·simp only [hc, if_true, List.lookup_cons, e'] at h
     exact h
    ·simp only [hc, Bool.false_eq_true, if_false, List.lookup_cons, e'] at h
     exact h
   obtain ⟨k1, h1, h2, h3⟩ := zbx (scope := scope) h'
   exact ⟨k1, by simp only [List.lookup_cons, e']; exact h1, List.mem_cons_of_mem _ h2, h3⟩
structure zud (X : Cx) (scope : Scope) (cap : List Str) : Prop where
 kind : scope.kind = .function
 nocell : ∀ y ∈ scope.names, y.2 ≠ .cell
 cell : ∀ y ∈ scope.names, y.2 = .free -> X.env.kindOf y.1 = some .cell
 loc : ∀ y ∈ scope.names, y.2 = .local -> scope.names.lookup y.1 = some .local
 cap : ∀ x ∈ cap, scope.names.lookup x ≠ some .local
def zgq (X : Cx) (ix : List Nat) : List Str := ix.map fun i => X.N.getD i ""
def zgg (k : Nat) (ix : List Nat) (σ : St) : St := List.replicate k none ++ ix.map fun i => (σ[i]?).getD none
end L2
namespace L2
open PySem PySem.Spec PyProof.Rows
section
variable {prog : Program} {w : World} {A : Around} {R : Result -> Shared -> Prop} {s : Shared}
theorem zg9 {elt target iter : Expr} {ifs : List Expr} {scope : Scope} {pos : Pos} {it acc : Value} {env : Env} (I : Nat -> Shared -> Prop)
  (turn : ∀ n s, I n s -> wpAny (model prog w) A (pyNext it) (fun r s₁ => match r with
   | none => R (.ok .next) s₁
   | some v => wpAny (model prog w) A (letOwnedTupleGo target it v) (fun _ s₀ => wpAny (model prog w) A (assign target env v) (fun _ s₂ =>
     wpAny (model prog w) A (forIn ifs true fun c r => if r = true then do let ok <- isTrue c env (eval c env); pure (ForInStep.yield ok) else pure (ForInStep.yield r)) (fun ok s₃ =>
      if ok = true then wpAny (model prog w) A (eval elt env) (fun x s₄ =>
       wpAny (model prog w) A (call (.builtin "list.append") [acc, x]) (fun _ s₅ => ∃ m, m < n /\ I m s₅) (notedBy (model prog w) A env fun e s' => R (.error e) s') s₄) (notedBy (model prog w) A env fun e s' => R (.error e) s') s₃
      else ∃ m, m < n /\ I m s₃) (notedBy (model prog w) A env fun e s' => R (.error e) s') s₂) (notedBy (model prog w) A env fun e s' => R (.error e) s') s₀) (notedBy (model prog w) A env fun e s' => R (.error e) s') s₁) (notedBy (model prog w) A env fun e s' => R (.error e) s') s)
  (n : Nat) (h : I n s) :
  codeAny (model prog w) A (.compLoop (.ListComp elt [⟨target, iter, ifs, 0⟩] scope pos) 0 it acc env) R s := by
 refine codeAny_loop rfl I (fun n s hI => ?_) n h
 show wpAny _ A ((compTurn (.ListComp elt [⟨target, iter, ifs, 0⟩] scope pos) 0 it acc env).onRaise (fun x => do noteFrame x env; theTreesLotGoes x)) _ _ s
 refine wpAny_noted ?_
 rw [compTurn_list]
 refine wpAny_bind (wpAny_standAt (wpAny_bind (wpAny_mono (turn n s hI) (fun r s₁ h₁ => ?_) fun _ _ h' => h')))
 cases r with
 | none => exact wpAny_pure h₁
 | some v =>
  refine wpAny_bind (wpAny_mono h₁ (fun _ s₀ h₀ => ?_) fun _ _ h' => h')
  refine wpAny_bind (wpAny_mono h₀ (fun _ s₂ h₂ => wpAny_bind (wpAny_mono h₂ (fun ok s₃ h₃ => ?_) fun _ _ h' => h')) fun _ _ h' => h')
  cases ok with
  | false => exact wpAny_pure ⟨rfl, h₃⟩
  | true =>
   exact wpAny_bind (wpAny_bind (wpAny_mono h₃ (fun x s₄ h₄ => wpAny_bind (wpAny_mono h₄ (fun _ s₅ h₅ => wpAny_pure (wpAny_pure ⟨rfl, h₅⟩)) fun _ _ h' => h')) fun _ _ h' => h'))
end
def PTs (X : Cx) (ifs : List Expr) (t : TT) : Prop :=
 ∀ (pins : List (Addr × Obj)) (s : Shared) (σ : St) (H : Hp) (Q : Bool -> Hp -> Prop), Inv X pins σ H s -> t σ H Q ->
  wpAny (model X.prog X.w) X.A (forIn ifs true fun c r => if r = true then do let ok <- isTrue c X.env (eval c X.env); pure (ForInStep.yield ok) else pure (ForInStep.yield r)) (TP X pins σ Q) X.xe s
def zv9 : TT := fun _ H Q => Q true H
theorem zqD {X : Cx} : PTs X [] zv9 := fun _ _ _ H _ I h => wpAny_tests_nil ⟨H, I, h⟩
theorem zqC {X : Cx} {c : Expr} {t : TT} (hc : PT X c t) : PTs X [c] t := fun pins s σ H Q I h => wpAny_tests_one (hc pins s σ H Q I h)
def zod (k : Nat) (g : TG) : Prop := ∀ x σ H Q, g x σ H Q -> g x σ H fun σ2 H2 => (σ2.length = σ.length /\ ∀ i : Nat, k <= i -> σ2[i]? = σ[i]?) /\ Q σ2 H2
def zlu (k : Nat) (ix : List Nat) (wi : TI) (g : TG) (tc : TT) (te : TE) : TE := fun σ H Q => wi σ H fun J H1 => ∀ l, H1 l = none ->
 ∃ W : Nat -> Nat -> List V -> Hp -> Prop, (∃ m, W 0 m [] (upd H1 l (.lst []))) /\ ∀ i m ys H2, W i m ys H2 -> H2 l = some (.lst ys) /\
  ((J.stop i H2 /\ Q (.ref l) H2) \/ (J.go i H2 /\ ∀ x H3, J.yld i H2 x H3 -> g x (zgg k ix σ) H3 fun σ2 H4 => tc σ2 H4 fun b H5 =>
   if b = true then te σ2 H5 fun v H6 => H6 l = some (.lst ys) /\ ys.length < sizeLine /\ ∃ m', m' < m /\ W (i + 1) m' (ys ++ [v]) (upd H6 l (.lst (ys ++ [v]))) else ∃ m', m' < m /\ W (i + 1) m' ys H5))
end L2
namespace L2
open PySem PySem.Spec PyProof.Rows
def Fl (h : Heap) (e : Addr) (cls : Value) (dd : Option Addr) (T : Addr) (fl : Value) : Prop :=
 ∃ oe vs oT ts, h.get? e = some oe /\ oe.cls = cls /\ oe.dict = dd /\ oe.data = .fields vs /\ vs[1]? = some (.ref T) /\ T ≠ e /\ h.get? T = some oT /\ oT.data = .fields ts /\ ts[3]? = some fl
end L2
namespace L2
open PySem PySem.Spec PyProof.Rows
theorem zbV.some {P : Program} {w : World} {H : Hp} {h : Heap} {a : Addr} {o : HO} (x : zbV P w H h a o) : ∃ ob, h.get? a = some ob := by
 cases o with
 | lst xs => obtain ⟨_, _, _, _, e⟩ := x; exact ⟨_, e⟩
 | tup xs => obtain ⟨_, _, _, ob, e, _⟩ := x; exact ⟨_, e⟩
 | dK kvs => obtain ⟨_, _, _, _, ob, _, _, e, _⟩ := x; exact ⟨_, e⟩
 | dT kvs => obtain ⟨_, _, _, _, ob, _, _, e, _⟩ := x; exact ⟨_, e⟩
 | set S n => obtain ⟨ob, _, _, _, e, _⟩ := x; exact ⟨_, e⟩
 | ins C dx fs => obtain ⟨_, _, _, e, _⟩ := x; exact ⟨_, e⟩
 | own y => exact x
 | xd fs => obtain ⟨_, ⟨od, _, _, e, _⟩, _⟩ := x; exact ⟨_, e⟩
 | met f y => exact ⟨_, x⟩
 | rng lo hi => obtain ⟨_, _, _, e⟩ := x; exact ⟨_, e⟩
 | frz ob u => exact ⟨_, x.1⟩
 | tbl ps => exact ⟨_, x⟩
 | ext φ => exact x.2.1
def CXe (P : Program) (w : World) : CXT := fun outer H s E ev s' => ∃ (e : Addr) (cls : Value) (dd : Option Addr) (T : Addr) (H' : Hp), ev = .ref e /\ s'.os = s.os /\ AllBare s'.gens /\ Un (frs outer) [] H H' s.heap s'.heap /\ HOk P w H' s'.heap /\
 Fl s'.heap e cls dd T .none /\ H' e = none /\ H' T = none /\ s.heap.get? e = none /\ s.heap.get? T = none /\ E cls dd H'
theorem zas {P : Program} {w : World} {X : Cx} : Passes (CXe P w) X E0 := fun _ _ _ _ _ _ _ ⟨_, _, _, _, _, _, _, _, _, _, _, _, _, _, _, q⟩ => q.elim
section
variable {P : Program} {w : World} {K : PySem.W.Frag} {mg : Str -> Option Value} {base : Heap} {N : List Str} {qual : Str} {scope : Scope} {f : Addr} {cd : Value} {A : Around} {outer : List Env} {s : Shared} {H : Hp} {E : XK}
theorem Fun.okE {x : Str} {st : Stmt} {fd : FuncData} {ps : List Str} {k : Nat} {sp : Sp} (F : Fun K x qual st f fd) (S : zaz N ps (zao st)) (len : ∀ vs H Q E, sp vs H Q E -> vs.length = ps.length)
  (hbody : ∀ (cdv : Value) (A : Around) (outer : List Env) (s : Shared) (H : Hp) (vs : List V) (Q : VK) (E : XK), zeF k (A.deeper (envOfC qual (zao st) s.heap.objs.size f cdv)) -> sp vs H Q E ->
   ∃ t, PSs (zp8 (CXe P w) P w K mg base N qual (zao st) f cdv A outer s H E) (zcD st) t /\ t { nx := fun _ H' => Q .non H', rt := Q } (start N vs) H) : zh1 P w K mg base (CXe P w) (k + 1) f fd ps sp := by
 obtain ⟨oc, od, kV, doc, pm, an, cdv, ct, osl, rfl, lk, hcd⟩ := F.ex
 exact zvb lk hcd S len fun A outer s H vs Q E hr hsp => hbody cdv A outer s H vs Q E hr hsp
end
end L2
namespace L2
open PySem PySem.Spec PyProof.Rows
def Nw (X : Cx) (pins : List (Addr × Obj)) (b : Addr) : Prop :=
 X.s₀.heap.get? b = none /\ b ≠ X.env.locals /\ b ∉ X.fs /\ (∀ x c, X.env.cells.lookup x = some c -> c ≠ b) /\ ∀ p ∈ X.pn ++ pins, p.1 ≠ b
def XP (X : Cx) (pins : List (Addr × Obj)) (σ : St) (E : XK) (ev : Value) (s' : Shared) : Prop :=
 ∃ (e : Addr) (cls : Value) (dd : Option Addr) (T : Addr) (H' : Hp), ev = .ref e /\ Inv X pins σ H' s' /\ Fl s'.heap e cls dd T .none /\ H' e = none /\ H' T = none /\ Nw X pins e /\ Nw X pins T /\ E cls dd H'
abbrev TSX := Ends -> (St -> XK) -> St -> Hp -> Prop
structure zvX (K : PySem.W.Frag) (C : Addr) : Prop where
 ty : PySem.W.typeIn K (.ref C) = some (.type "type")
 cl : (PySem.W.clsIn K C).isSome = true
 be : PySem.W.subIn K (.ref C) (.type "BaseException") = some true
end L2
namespace L2
open PySem PySem.Spec PyProof.Rows
end L2
namespace L2
open PySem PySem.Spec PyProof.Rows
structure zwI (K : PySem.W.Frag) (D : Addr) : Prop where
 ga : PySem.W.findIn K (.ref D) "__getattribute__" = some (some (.builtin "BaseException.__getattribute__"))
 gn : PySem.W.findIn K (.ref D) "__getattr__" = some none
 cl : PySem.W.findIn K (.ref D) "__class__" = some (some (.builtin "object.__class__"))
 be : PySem.W.subIn K (.ref D) (.type "BaseException") = some true
 ob : PySem.W.mroIn K D (.type "object") = some true
 is : (PySem.W.clsIn K D).isSome = true
end L2
namespace L2
open PySem PySem.Spec PyProof.Rows
def Has (K : PySem.W.Frag) (mg : Str -> Option Value) (x : Str) (st : Stmt) : Prop := ∃ (f : Addr) (fd : FuncData), mg x = some (.ref f) /\ Fun K x x st f fd
def Callee (P : Program) (w : World) (K : PySem.W.Frag) (mg : Str -> Option Value) (base : Heap) (x : Str) (k : Nat) (ps : List Str) (sp : Sp) : Prop :=
 ∃ (f : Addr) (fd : FuncData), mg x = some (.ref f) /\ PySem.W.keepIn K (.ref f) = true /\ Binds K fd ps [] /\ zh1 P w K mg base (CXe P w) k f fd ps sp
section
variable {X : Cx} {k j : Nat} {ps : List Str} {sp : Sp} {E : XK} {x : Str} {p pos : Pos} {e : Expr} {es : List Expr} {t : TA}
theorem zgF (c : Callee X.prog X.w X.K X.mg X.base x k ps sp) (hr : zeF j X.A) (hg : Gl X x) (hx : Passes (CXe X.prog X.w) X E) (ha : PA X (e :: es) t) (hj : k <= j := by decide) (hdb : (x == ("__debug__" : Str)) = false := by decide)
  (he : starEach (e :: es) X.env = (false, eval e X.env) :: starEach es X.env := by rfl) (hpl : (backTo pos (starEach es X.env)).any (·.1) = false := by rfl) : PE X (.Call (.Name x p) (e :: es) [] pos) (zqp sp [] E t) := by
 obtain ⟨f, fd, hm, hk, hb, F⟩ := c
 exact zqS F (hr.mono hj) hg hm hk hb .nil hx ha hdb he hpl
end
end L2
namespace L2
open PySem PySem.Spec PyProof.Rows
end L2
namespace L2
open PySem PySem.Spec PyProof.Rows
theorem nd {M : List Str} (h : M.Nodup) : M.Nodup := h
end L2
namespace L2
open PySem PySem.Spec PyProof.Rows
theorem zba.upd {H : Hp} {l : Addr} {o : HO} (h : H l = none) : zba H (upd H l o) := fun b u e => by rw [zaE (zb5 e h)]; exact e
end L2
namespace L2
open PySem PySem.Spec PyProof.Rows
end L2
namespace L2
open PySem PySem.Spec PyProof.Rows
end L2
namespace L2
open PySem PySem.Spec PyProof.Rows
section
variable {X : Cx} {pins : List (Addr × Obj)} {σ : List (Option V)} {H H' : Hp} {s : Shared} {h' : Heap}
theorem Inv.zmc {t' : Nat} {fp : List Addr} (I : Inv X pins σ H s) (k : ∀ b o, b ∉ fp -> s.heap.get? b = some o -> h'.get? b = some o) (hf : ∀ b ∈ fp, zh0 X pins H b) : Inv X pins σ H { s with heap := h', toks := t' } := by
 have nit : ∀ b u, H b = some u -> b ∉ fp := fun b u e z => by
  have := (hf b z).1
  rw [e] at this
  cases this
 have hL : X.env.locals ∉ fp := fun z => (hf _ z).2.1 rfl
 refine I.step (g' := s.gens) (d' := s.drawn) (ch := fp) (fun b hb => ?_) (fun b o _ _ hc e _ => k b o hc e) (fun b o _ _ hc e _ => ⟨o.slots, k b o hc e⟩) (fun _ _ _ _ n => n)
  (fun b o hc e => ⟨o, k b o hc e⟩) (fun _ _ e => e) (fun _ _ _ e => e) (fun b ps e => ⟨#[], by rw [e]; simp⟩) (fun m hm => ?_) (fun b u e => ?_) I.bare
 ·obtain ⟨_, h1, _, h3, h4, h5⟩ := hf b hb
  exact ⟨h3, h1, h4, h5⟩
 ·obtain ⟨o, es, ep, ho, r⟩ := hm
  exact ⟨o, es, ep, k _ o hL ho, r⟩
 ·refine (I.hok b u e).stay (fun c v hc q => k c v ?_ q) (fun _ q => q) fun _ _ q => q
  rcases hc with z | z
  ·rw [z]; exact nit b u e
  ·exact nit c _ z
end
section
variable {X : Cx}
theorem zpy {bs : List Bool} : ∀ {us : List Value}, Vals (bs.map V.bl) us -> us = bs.map Value.bool := by
 induction bs with
 | nil => intro us h; cases h; rfl
 | cons b r ih =>
  intro us h
  cases h with
  | cons h1 h2 =>
   have := ih h2
   cases h1
   rw [this]
   rfl
theorem zpw (hc : X.calm = true) : ze5 X (.builtin "all") (fun xs H Q => ∃ (a : Addr) (bs : List Bool), xs = [.ref a] /\ SqL X.K H a (bs.map V.bl) /\ Q (.bl (bs.all id)) H) := by
 intro pins s σ H xs us Q I r h
 obtain ⟨a, bs, rfl, hq, q⟩ := h
 obtain ⟨u, rfl, rx⟩ := vals1 r
 cases rx
 obtain ⟨its, rv, p, hz⟩ := I.list hq
 have e := zpy rv
 subst e
 have hne : a ≠ s.heap.objs.size := by
  obtain ⟨o, eo, _⟩ := p.isList
  exact Nat.ne_of_lt (Heap.lt_size eo)
 have W := Walks.list (prog := X.prog) (w := X.w) (A := X.A.in1) (show X.A.in1.handled = none from I.ok.hd hc) s.heap.objs.size a hne (bs.map Value.bool).toArray
 refine call_all_walk (wpAny_pyIter_list p.isList ⟨_, _, _, _, _, _, fun i => bs.getD i true, rfl, W, ⟨⟨_, Heap.get?_push_size _ rfl, rfl, rfl⟩, p.isList.push _⟩, ?_, fun h' tk hk => ⟨.bl (bs.all id), H, ?_, ?_, q⟩⟩)
 ·intro i v s' Q' E' hP hQ
  have hP' : (bs.map Value.bool)[i]? = some v := by simpa using hP
  rw [List.getElem?_map] at hP'
  cases e : bs[i]? with
  | none => rw [e] at hP'; cases hP'
  | some b =>
   rw [e] at hP'
   cases hP'
   have : bs.getD i true = b := by simp [List.getD, e]
   have hQ2 : Q' (bs.getD i true) s' := hQ
   rw [this] at hQ2
   exact wpAny_pure hQ2
 ·refine Inv.zmc (s := { s with heap := s.heap.push { cls := .type "list_iterator", data := .fields #[.ref a, .int 0 0] }, toks := s.toks }) (t' := tk) (fp := [s.heap.objs.size]) (I.kept (t' := s.toks) fun b o e => Heap.get?_push_of_some _ e) (fun b o hb e => hk b o hb e) fun b hb => ?_
  have e : b = s.heap.objs.size := by simpa using hb
  subst e
  exact I.zph (Nat.le_refl _) (I.hok.fresh (Nat.le_refl _))
 ·show Value.bool _ = Value.bool _
  congr 1
  simp only [List.size_toArray, List.length_map]
  rw [Bool.eq_iff_iff, List.all_eq_true, List.all_eq_true]
  constructor
  ·intro h b hb
   obtain ⟨i, hi, e⟩ := List.getElem_of_mem hb
   have := h i (List.mem_range.mpr hi)
   simpa [List.getD, hi, e] using this
  ·intro h i hi
   have hi' := List.mem_range.mp hi
   have := h bs[i] (List.getElem_mem hi')
   simpa [List.getD, hi'] using this
end
end L2
namespace L2
open PySem PySem.Spec PyProof.Rows
theorem zhb : ∀ (names : List (Str × NameKind)) (n : Nat) (acc : List (Str × Addr)), cellsFrom n names acc = cellsFrom n names [] ++ acc
 | [], n, acc => rfl
 | (x, k) :: r, n, acc => by
  unfold cellsFrom
  split
  ·rw [zhb r (n + 1) ((x, n) :: acc), zhb r (n + 1) [(x, n)]]
   simp
  ·exact zhb r n acc
theorem ziO : ∀ (names : List (Str × NameKind)) (n : Nat) (p : Str × Addr), p ∈ cellsFrom n names [] -> (p.1, NameKind.cell) ∈ names
 | [], n, p, h => nomatch h
 | (x, k) :: r, n, p, h => by
  unfold cellsFrom at h
  split at h
  ·rename_i hk
   rw [zhb] at h
   rcases List.mem_append.mp h with h | h
   ·exact List.mem_cons_of_mem _ (ziO r _ p h)
   ·have e : p = (x, n) := by simpa using h
    have hk' : k = .cell := by simpa using hk
    subst e hk'
    exact List.mem_cons_self ..
  ·exact List.mem_cons_of_mem _ (ziO r _ p h)
theorem znT {x : Str} : ∀ (names : List (Str × NameKind)) (n : Nat), (x, NameKind.cell) ∈ names -> ∃ c, (x, c) ∈ cellsFrom n names []
 | (y, k) :: r, n, h => by
  unfold cellsFrom
  rcases List.mem_cons.mp h with e | h
  ·cases e
   rw [if_pos (by rfl), zhb]
   exact ⟨n, List.mem_append_right _ (List.mem_singleton.mpr rfl)⟩
  ·split
   ·obtain ⟨c, hc⟩ := znT r (n + 1) h
    exact ⟨c, by rw [zhb]; exact List.mem_append_left _ hc⟩
   ·exact znT r n h
theorem zhN {α : Type} {x : Str} {c : α} : ∀ {l m : List (Str × α)}, (l ++ m).lookup x = some c -> l.lookup x = some c \/ (l.lookup x = none /\ m.lookup x = some c)
 | [], m, h => .inr ⟨rfl, h⟩
 | (y, b) :: r, m, h => by
  rw [List.cons_append, List.lookup_cons] at h
  rw [List.lookup_cons]
  split at h
  ·exact .inl h
  ·exact zhN h
theorem zeB {α : Type} {x : Str} {c : α} : ∀ {l m : List (Str × α)}, m.lookup x = some c -> ∃ d, (l ++ m).lookup x = some d
 | [], m, h => ⟨c, h⟩
 | (y, b) :: r, m, h => by
  rw [List.cons_append, List.lookup_cons]
  split
  ·exact ⟨_, rfl⟩
  ·exact zeB h
theorem zdX {α : Type} {x : Str} : ∀ {l m : List (Str × α)}, l.lookup x = none -> (l ++ m).lookup x = m.lookup x
 | [], m, h => rfl
 | (y, b) :: r, m, h => by
  rw [List.lookup_cons] at h
  rw [List.cons_append, List.lookup_cons]
  split at h
  ·cases h
  ·exact zdX h
theorem zeA {α : Type} {x : Str} : ∀ {l : List (Str × α)}, (∀ p ∈ l, p.1 ≠ x) -> l.lookup x = none
 | [], _ => rfl
 | (y, b) :: r, h => by
  rw [List.lookup_cons]
  have : (x == y) = false := by
   have := h (y, b) (List.mem_cons_self ..)
   simpa using fun e => this e.symm
  rw [this]
  exact zeA fun p hp => h p (List.mem_cons_of_mem _ hp)
def zjW (C : Addr) (scope : Scope) : List (Str × Addr) := cellsFrom (C + 1) scope.names []
def za8 (X : Cx) (M : List Str) (scope : Scope) (C : Addr) (s₃ : Shared) (H₃ : Hp) (fp : List Addr) : Cx :=
 { X with N := M, s₀ := s₃, H₀ := H₃, env := compEnvC scope (zjW C scope ++ zhy X.env.cells scope.names []) C X.env, outer := X.stack, stack := X.stack, ex := fp, fn := fun x => scope.names.contains (x, NameKind.cell), pn := [], xe := fun _ _ => False }
structure zfZ (X : Cx) (scope : Scope) (cap : List Str) : Prop where
 kind : scope.kind = .function
 cell : ∀ y ∈ scope.names, y.2 = .free -> X.env.kindOf y.1 = some .cell
 loc : ∀ y ∈ scope.names, y.2 = .local -> scope.names.lookup y.1 = some .local
 cap : ∀ x ∈ cap, scope.names.lookup x ≠ some .local /\ (x, NameKind.cell) ∉ scope.names
 dis : ∀ y ∈ scope.names, y.2 = .free -> (y.1, NameKind.cell) ∉ scope.names
theorem zjd {C : Addr} {m : Str -> Option Value} : ∀ (names : List (Str × NameKind)) {h : Heap}, h.Ns C m -> (pushCells h names).Ns C m := fun names h hn => by
 obtain ⟨o, es, ep, ho, r⟩ := hn
 exact ⟨o, es, ep, pushCells_keeps names h C o ho, r⟩
section
variable {X : Cx} {pins : List (Addr × Obj)} {σ : St} {H : Hp} {s : Shared}
theorem zjr {scope : Scope} {L : List Str} {ix : List Nat} {h' : Heap} {fp : List Addr} {t' : Nat} (S : zfZ X scope (zgq X ix)) (I : Inv X pins σ H s) (hf : ∀ b ∈ fp, zh0 X pins H b) (hfp : ∀ b ∈ fp, b < s.heap.objs.size)
  (hix : ∀ i ∈ ix, i < X.N.length) (hn : h'.Ns s.heap.objs.size fun _ => none) (hk : ∀ b u, s.heap.get? b = some u -> h'.get? b = some u) (hcs : CellsOk h' (s.heap.objs.size + 1) (zjW s.heap.objs.size scope)) :
  Inv (za8 X (L ++ zgq X ix) scope s.heap.objs.size s H fp) [] (zgg L.length ix σ) H { s with heap := h', toks := t' } := by
 have cl : ∀ x c, (zhy X.env.cells scope.names []).lookup x = some c -> X.env.cells.lookup x = some c := fun x c e =>
  zgo (acc := []) (fun p hp => nomatch hp) (x, c) (PySem.mem_of_lookup e)
 have old : ∀ x c, X.env.cells.lookup x = some c -> c < s.heap.objs.size := fun x c e => by
  obtain ⟨v, q⟩ := I.cell x c e
  exact q.lt
 have own : ∀ x c, (zjW s.heap.objs.size scope).lookup x = some c -> h'.IsCell c none /\ s.heap.objs.size + 1 <= c /\ (x, NameKind.cell) ∈ scope.names := fun x c e => by
  have m := PySem.mem_of_lookup e
  exact ⟨(hcs.empty x c m).1, (hcs.empty x c m).2, ziO _ _ _ m⟩
 have al : ∀ x c, (zjW s.heap.objs.size scope ++ zhy X.env.cells scope.names []).lookup x = some c -> (zjW s.heap.objs.size scope).lookup x = some c \/ ((zjW s.heap.objs.size scope).lookup x = none /\ X.env.cells.lookup x = some c) := fun x c e => by
  rcases zhN e with h | ⟨h1, h2⟩
  ·exact .inl h
  ·exact .inr ⟨h1, cl x c h2⟩
 have ownHas : ∀ x, (x, NameKind.cell) ∈ scope.names -> ∃ c, (zjW s.heap.objs.size scope).lookup x = some c := fun x hx => by
  obtain ⟨c, hc⟩ := znT scope.names (s.heap.objs.size + 1) hx
  exact zbX hc
 refine ⟨⟨I.ok.mod, S.kind, I.ok.glob, I.ok.blt, Nat.le_refl _, fun x y c e1 e2 => ?_, fun x hx => ?_, fun x c e1 e2 => ?_, I.ok.hd, I.ok.frames, .inl rfl, fun b hb => ⟨Nat.ne_of_lt (hfp b hb), fun x c e => ?_⟩,
  fun b o e => I.bs b o e, Nat.le_trans I.ok.bsz I.sz, fun b o e hb => ?_, fun b hb hz => ?_, I.stack, I.zmi⟩,
  rfl, I.bare, Un.kept hk, ⟨_, hn, fun i x v h1 h2 h3 => ?_⟩, fun x c e => ?_, I.hok.fresh (Nat.le_refl _), fun x c e => ?_, fun p hp => absurd (show p ∈ ([] : List (Addr × Obj)) from hp) (by simp), I.hok.kept hk, ?_⟩
 ·rcases al x c e1 with a1 | ⟨_, a1⟩ <;> rcases al y c e2 with a2 | ⟨_, a2⟩
  ·exact name_of_addr hcs.apart (PySem.mem_of_lookup a1) (PySem.mem_of_lookup a2)
  ·exact absurd (old y c a2) (Nat.not_lt.mpr (Nat.le_of_succ_le (own x c a1).2.1))
  ·exact absurd (old x c a1) (Nat.not_lt.mpr (Nat.le_of_succ_le (own y c a2).2.1))
  ·exact I.ok.inj x y c a1 a2
 ·have hx' : (relabel scope X.env).names.lookup x = some .cell \/ (relabel scope X.env).names.lookup x = some .free := hx
  have fr : (x, NameKind.cell) ∈ scope.names \/ (x, NameKind.free) ∈ scope.names := by
   rcases hx' with q | q
   ·obtain ⟨k0, _, h2, h3⟩ := zbx (scope := scope) q
    rcases h3 with rfl | ⟨rfl, _⟩
    ·exact .inl h2
    ·exact .inr h2
   ·obtain ⟨k0, _, h2, h3⟩ := zbx (scope := scope) q
    rcases h3 with rfl | ⟨_, z⟩
    ·exact .inr h2
    ·cases z
  rcases fr with fr | fr
  ·obtain ⟨c, hc⟩ := ownHas x fr
   show ∃ c, (zjW s.heap.objs.size scope ++ zhy X.env.cells scope.names []).lookup x = some c
   exact zbX (List.mem_append_left _ (PySem.mem_of_lookup hc))
  ·obtain ⟨c, hc⟩ := I.ok.has x (.inl (S.cell _ fr rfl))
   obtain ⟨d, hd⟩ := zbX (zfs (names := scope.names) (acc := []) hc fr)
   exact zeB hd
 ·have hx : (x, NameKind.cell) ∈ scope.names := by
   have e1' : scope.names.contains (x, NameKind.cell) = true := e1
   simpa using e1'
  rcases al x c e2 with a1 | ⟨a1, _⟩
  ·exact Nat.le_of_succ_le (own x c a1).2.1
  ·obtain ⟨d, hd⟩ := ownHas x hx
   rw [a1] at hd
   cases hd
 ·rcases al x c e with a1 | ⟨_, a1⟩
  ·exact Nat.ne_of_gt (Nat.lt_of_lt_of_le (hfp b hb) (Nat.le_of_succ_le (own x c a1).2.1))
  ·exact (hf b hb).2.2.2.2.1 x c a1
 ·rcases (hf b hb).2.2.2.1 with z | z
  ·exact I.ok.noex b o e z
  ·exact absurd (Heap.lt_size (I.ok.bs b o e).1) (Nat.not_lt.mpr z)
 ·rcases List.mem_cons.mp (I.zmh b hz) with z | z
  ·exact (hf b hb).2.1 z
  ·exact (hf b hb).2.2.1 z
 ·-- a name that is drawn in
  have hi : L.length <= i := by
   by_cases hi : i < L.length
   ·unfold zgg at h2
    rw [List.getElem?_append_left (by simpa using hi), List.getElem?_replicate, if_pos hi] at h2
    cases h2
   ·omega
  unfold zgg at h2
  rw [List.getElem?_append_right (by simpa using hi), List.length_replicate, List.getElem?_map] at h2
  have h1' : (L ++ zgq X ix)[i]? = some x := h1
  rw [List.getElem?_append_right hi] at h1'
  unfold zgq at h1'
  rw [List.getElem?_map] at h1'
  cases ej : ix[i - L.length]? with
  | none => rw [ej] at h1'; cases h1'
  | some j =>
   rw [ej] at h1' h2
   have hj : j < X.N.length := hix j (List.mem_of_getElem? ej)
   have e1 : X.N[j]? = some x := by
    have : X.N.getD j "" = x := Option.some.inj h1'
    rw [<- this]
    simp [List.getD, hj]
   have e2 : σ[j]? = some (some v) := by
    have z : (σ[j]?).getD none = some v := Option.some.inj h2
    cases q : σ[j]? with
    | none => rw [q] at z; cases z
    | some o => rw [q] at z; exact congrArg some z
   have hx : x ∈ zgq X ix := by
    unfold zgq
    refine List.mem_map.mpr ⟨j, List.mem_of_getElem? ej, ?_⟩
    exact Option.some.inj h1'
   have h3' : (relabel scope X.env).names.lookup x = some .local \/ (relabel scope X.env).names.lookup x = some .cell \/ (relabel scope X.env).names.lookup x = some .free := h3
   have fr : (x, NameKind.free) ∈ scope.names := by
    rcases h3' with q | q | q
    ·obtain ⟨k0, g1, g2, g3⟩ := zbx (scope := scope) q
     rcases g3 with rfl | ⟨_, z⟩
     ·exact absurd g1 (S.cap x hx).1
     ·cases z
    ·obtain ⟨k0, _, g2, g3⟩ := zbx (scope := scope) q
     rcases g3 with rfl | ⟨rfl, _⟩
     ·exact absurd g2 (S.cap x hx).2
     ·exact g2
    ·obtain ⟨k0, _, g2, g3⟩ := zbx (scope := scope) q
     rcases g3 with rfl | ⟨_, z⟩
     ·exact g2
     ·cases z
   have hc : X.env.kindOf x = some .cell := S.cell _ fr rfl
   obtain ⟨m, _, hl⟩ := I.loc
   obtain ⟨u, ru, lk⟩ := hl j x v e1 e2 (.inr (.inl hc))
   refine ⟨u, ru, ?_⟩
   rcases lk with ⟨z, _⟩ | ⟨_, c, ec, ic⟩
   ·rw [hc] at z; cases z
   ·have k3 : (relabel scope X.env).names.lookup x = some .cell \/ (relabel scope X.env).names.lookup x = some .free := by
     rcases h3' with q | q | q
     ·obtain ⟨k0, g1, g2, g3⟩ := zbx (scope := scope) q
      rcases g3 with rfl | ⟨_, z⟩
      ·exact absurd g1 (S.cap x hx).1
      ·cases z
     ·exact .inl q
     ·exact .inr q
    obtain ⟨c', ec'⟩ := zbX (zfs (names := scope.names) (acc := []) ec fr)
    have e3 := cl x c' ec'
    rw [ec] at e3
    cases e3
    obtain ⟨oc, g1, g2⟩ := ic
    have no : (zjW s.heap.objs.size scope).lookup x = none := zeA fun p hp z => (S.cap x hx).2 (by rw [<- z]; exact ziO _ _ _ hp)
    exact .inr ⟨k3, c, (zdX no).trans ec', oc, hk _ _ g1, g2⟩
 ·rcases al x c e with a1 | ⟨_, a1⟩
  ·exact ⟨none, (own x c a1).1⟩
  ·obtain ⟨v, oc, g1, g2⟩ := I.cell x c a1
   exact ⟨v, oc, hk _ _ g1, g2⟩
 ·rcases al x c e with a1 | ⟨_, a1⟩
  ·exact I.hok.fresh (Nat.le_of_succ_le (own x c a1).2.1)
  ·exact I.freeC x c a1
 ·show (zgg L.length ix σ).length = (L ++ zgq X ix).length
  unfold zgg zgq
  simp
end
theorem zmW {M : Model} {A : Around} {E : Value -> Shared -> Prop} {s : Shared} {scope : Scope} {globals : Addr} {cl : List (Str × Addr)} {qual : Str} {outer : Env} {Q : Env -> Shared -> Prop}
  (hQ : ∀ h', h'.Ns s.heap.objs.size (fun _ => none) -> (∀ b u, s.heap.get? b = some u -> h'.get? b = some u) -> CellsOk h' (s.heap.objs.size + 1) (zjW s.heap.objs.size scope) ->
   Q { scope := scope, locals := s.heap.objs.size, globals := globals, cells := zjW s.heap.objs.size scope ++ cl, qual := qual, func := none, code := outer.code, frame := outer.frame, builtins := outer.builtins } { s with heap := h' }) :
  wpAny M A (newFunctionEnv scope globals cl [] qual none .none (some outer)) Q E s := by
 simp only [newFunctionEnv, Option.isSome_some, if_true]
 refine wpAny_bind (wpAny_alloc ?_)
 refine wpAny_bind (wpAny_layCells _ (fun name kind cells => by cases hkc : kind == NameKind.cell <;> simp [hkc]) _ _ _ _ ?_)
 have ok := cellsFrom_ok scope.names (s.heap.push { cls := .type "dict", data := .dict #[] }) (s.heap.objs.size + 1) [] ⟨fun _ _ hm => (nomatch hm), List.Pairwise.nil⟩ (by rw [Heap.size_push]; exact Nat.le_refl _)
 rw [Heap.size_push] at ok
 rw [show ({ s with heap := s.heap.push { cls := .type "dict", data := .dict #[] } } : Shared).heap.objs.size = s.heap.objs.size + 1 from Heap.size_push .., zhb]
 refine wpAny_bind ?_
 rw [List.forIn_nil]
 refine wpAny_pure (wpAny_pure ?_)
 exact hQ _ (zjd _ (Heap.Ns.new ..)) (fun b u e => pushCells_keeps _ _ _ _ (Heap.get?_push_of_some _ e)) ok
section
variable {X : Cx}
theorem zoU {elt tg iter : Expr} {ifs : List Expr} {scope : Scope} {pos : Pos} {L : List Str} {ix : List Nat} {wi : TI} {g : TG} {tc : TT} {te : TE} (hc : X.calm = true) (S : zfZ X scope (zgq X ix)) (hix : ∀ i ∈ ix, i < X.N.length) (hi : PI X tg iter wi)
  (hg : ∀ C s₃ H₃ fp, PG (za8 X (L ++ zgq X ix) scope C s₃ H₃ fp) tg g) (hgo : zod L.length g)
  (ht : ∀ C s₃ H₃ fp, PTs (za8 X (L ++ zgq X ix) scope C s₃ H₃ fp) ifs tc) (he : ∀ C s₃ H₃ fp, PE (za8 X (L ++ zgq X ix) scope C s₃ H₃ fp) elt te)
  (hs : ∀ x, foldedSetIterable iter X.env x = pure x := by intro _; rfl) :
  PE X (.ListComp elt [⟨tg, iter, ifs, 0⟩] scope pos) (zlu L.length ix wi g tc te) := by
 intro pins s σ H Q I h
 rw [eval_ListComp]
 refine wpAny_comprehension_free (use := none) rfl hs (zfr fun y hy e => I.ok.has y.1 (.inl (S.cell y hy e))) S.kind S.loc (thn (hi pins s σ H _ I h) fun xv s1 h1 => thn h1 fun itv s2 h2 => ?_)
 obtain ⟨it, fp, tn, J, H2, rfl, I2, T, st2, f2, q⟩ := h2
 have nD : H2 s2.heap.objs.size = none := I2.hok.fresh (Nat.le_refl _)
 obtain ⟨W, ⟨m0, w0⟩, turn⟩ := q _ nD
 generalize hD : s2.heap.objs.size = D at nD w0 turn
 have fD : ∀ b ∈ fp, b < D := fun b hb => by
  obtain ⟨o, e, _⟩ := T.obj _ _ st2 b hb
  rw [<- hD]
  exact Heap.lt_size e
 have I3 : Inv X pins σ (upd H2 D (.lst [])) { s2 with heap := s2.heap.push { cls := .type "list", data := .seq ([] : List Value).toArray }, toks := s2.toks } := by
  rw [<- hD]
  exact I2.laid (t' := s2.toks) (fun b u e => Heap.get?_push_of_some _ e) (Nat.le_refl _) ⟨by simp, [], 0, .nil, Heap.get?_push_size _ rfl⟩
 refine wpAny_newObj_type (zmW (fun h₁ hns₁ hsb₁ hcs₁ => ?_)) (by show 0 <= sizeLine; exact Nat.zero_le _)
 rw [hD]
 have st3 : tn 0 (s2.heap.push { cls := .type "list", data := .seq ([] : List Value).toArray }) := T.keep _ _ _ st2 fun b hb o e => Heap.get?_push_of_some _ e
 generalize hp3 : s2.heap.push { cls := .type "list", data := .seq ([] : List Value).toArray } = h3 at I3 st3 hns₁ hsb₁ hcs₁
 dsimp only at hns₁ hsb₁ hcs₁ ⊢
 have sz3 : h3.objs.size = D + 1 := by rw [<- hp3, Heap.size_push, hD]
 have old : ∀ b u, h3.get? b = some u -> h₁.get? b = some u := fun b u e => hsb₁ b u e
 have f3 : ∀ b ∈ fp, zh0 X pins (upd H2 D (.lst [])) b := fun b hb => ⟨by rw [zaE (Nat.ne_of_lt (fD b hb))]; exact (f2 b hb).1, (f2 b hb).2⟩
 have I4 := zjr (L := L) (ix := ix) (t' := s2.toks) S I3 f3 (fun b hb => by show b < h3.objs.size; rw [sz3]; exact Nat.lt_succ_of_lt (fD b hb)) hix (h' := h₁) hns₁ old hcs₁
 have st4 : tn 0 h₁ := T.keep _ _ _ st3 fun b hb o e => old b o e
 generalize hC : (za8 X (L ++ zgq X ix) scope h3.objs.size { s2 with heap := h3, toks := s2.toks } (upd H2 D (.lst [])) fp) = Y at I4
 have eEnv : Y.env = compEnvC scope (zjW h3.objs.size scope ++ zhy X.env.cells scope.names []) h3.objs.size X.env := by rw [<- hC]; rfl
 have hcY : Y.calm = true := by rw [<- hC]; exact hc
 have xeY : Y.xe = fun _ _ => False := by rw [<- hC]; rfl
 have eP : Y.prog = X.prog := by rw [<- hC]; rfl
 have eW : Y.w = X.w := by rw [<- hC]; rfl
 have eK : Y.K = X.K := by rw [<- hC]; rfl
 have eA : Y.A = X.A := by rw [<- hC]; rfl
 have gY : PG Y tg g := by rw [<- hC]; exact hg _ _ _ _
 have tY : PTs Y ifs tc := by rw [<- hC]; exact ht _ _ _ _
 have pY : PE Y elt te := by rw [<- hC]; exact he _ _ _ _
 have stat : ∀ {H' : Hp}, (∀ b ∈ fp, H' b = none) -> ∀ b ∈ fp, zh0 Y [] H' b := fun {H'} hn b hb => by
  have z1 : b ∈ Y.ex := by rw [<- hC]; exact hb
  have zp : Y.pn = [] := by rw [<- hC]; rfl
  refine ⟨hn b hb, (I4.ok.exf b z1).1, I4.ok.exfs b z1, .inl z1, (I4.ok.exf b z1).2, fun p hp => ?_⟩
  rw [zp] at hp
  exact absurd hp (by simp)
 have fin : ∀ {H' : Hp} {s' : Shared}, Inv Y [] (zgg L.length ix σ) H' s' -> Q (.ref D) H' -> compPost (model X.prog X.w) X.A X.xe none (EP X pins σ Q) (.ref D) h3.objs.size (.ok .next) s' := by
  intro H' s' J' qe
  obtain ⟨m, hm, _⟩ := J'.loc
  rw [eEnv] at hm
  refine ⟨m, hm, fun h' sb => ⟨.ref D, H', ?_, rfl, qe⟩⟩
  have hfr : H' h3.objs.size = none := by
   have := J'.free
   rw [eEnv] at this
   exact this
  have neC : ∀ b u, H' b = some u -> b ≠ h3.objs.size := fun b u e z => by rw [z, hfr] at e; cases e
  have base : Un (frs X.stack) fp (upd H2 D (.lst [])) H' h3 s'.heap := by
   have := J'.base
   rw [<- hC] at this
   exact this
  have to' : ∀ b o, b ≠ h3.objs.size -> s'.heap.get? b = some o -> h'.get? b = some o := fun b o hb e => sb.extBut b o hb e
  have lt3 : ∀ b o, h3.get? b = some o -> b ≠ h3.objs.size := fun b o e => Nat.ne_of_lt (Heap.lt_size e)
  have un : Un (frs X.stack) fp (upd H2 D (.lst [])) H' h3 h' :=
   ⟨fun b o e n hb hx => to' b o (lt3 b o e) (base.keep b o e n hb hx),
    fun b o e n hb hx => by
    obtain ⟨sl, z⟩ := base.slot b o e n hb hx
    exact ⟨sl, to' _ _ (lt3 b o e) z⟩,
    base.free,
    fun b o e hx => by
    obtain ⟨o', z⟩ := base.there b o e hx
    exact ⟨o', to' _ _ (lt3 b o e) z⟩,
    base.tups, base.frzs, base.tbls⟩
  have hok : HOk X.prog X.w H' h' := fun b u e => by
   have z := J'.hok b u e
   rw [eP, eW] at z
   refine z.stay (fun c v hcv qv => to' c v ?_ qv) (fun _ qq => qq) fun _ _ qq => qq
   rcases hcv with zz | zz
   ·rw [zz]; exact neC b u e
   ·exact neC c _ zz
  refine I3.call' (s' := { s' with heap := h' }) (ch := fp) ?_ un hok J'.bare fun b hb => ?_
  ·have := J'.os
   rw [<- hC] at this
   exact this
  ·obtain ⟨_, g1, g2, g3, g4, g5⟩ := f2 b hb
   exact ⟨g3, g1, g4, g5⟩
 have key : ∀ s5 : Shared, s5 = { s2 with heap := h₁, toks := s2.toks } ->
   codeAny (model X.prog X.w) X.A (.compLoop (.ListComp elt [⟨tg, iter, ifs, 0⟩] scope pos) 0 (.ref it) (.ref D) (compEnvC scope (zjW h3.objs.size scope ++ zhy X.env.cells scope.names []) h3.objs.size X.env))
    (compPost (model X.prog X.w) X.A X.xe none (EP X pins σ Q) (.ref D) h3.objs.size) s5 := by
  rintro s5 rfl
  rw [<- eEnv, <- eP, <- eW, <- eA]
  refine zg9 (fun n s' => ∃ i ys H', Inv Y [] (zgg L.length ix σ) H' s' /\ tn i s'.heap /\ (∀ b ∈ fp, H' b = none) /\ W i n ys H') ?_ m0 ⟨0, [], _, ?_, st4, fun b hb => (f3 b hb).1, w0⟩
  ·rintro n s6 ⟨i, ys, H6, I6, st6, fr6, w6⟩
   obtain ⟨hl6, alt⟩ := turn i n ys H6 w6
   rcases alt with ⟨stop, qe⟩ | ⟨go, step⟩
   ·have Td := T.done Y eP eW eK hcY i [] s6 _ H6 (fun _ _ => False) I6 (stat fr6) st6 stop
    rw [<- eP, <- eW] at Td
    refine wpAny_mono Td (fun r s7 hr7 => ?_) fun _ _ f => f.elim
    obtain ⟨hr, I7⟩ := hr7
    subst hr
    rw [eP, eW, eA]
    exact fin I7 qe
   ·have Ti := T.item Y eP eW eK hcY i [] s6 _ H6 (fun _ _ => False) I6 (stat fr6) st6 go
    rw [<- eP, <- eW] at Ti
    refine wpAny_mono Ti (fun r s7 hr7 => ?_) fun _ _ f => f.elim
    obtain ⟨u, hr, h7⟩ := hr7
    subst hr
    refine wpAny_mono h7 (fun _ s8 hr8 => ?_) fun _ _ f => f.elim
    obtain ⟨x, H8, I8, r8, y8, st8, fr8⟩ := hr8
    have I8' := I8.pinned (stat fr8) (T.obj _ _ st8)
    have stp := hgo _ _ _ _ (step x H8 y8)
    refine wpAny_mono (gY _ s8 _ H8 x u _ I8' r8 stp) (fun _ s9 ⟨σ9, H9, I9, ⟨k1, k2⟩, q9⟩ => ?_) fun _ _ f => by rw [xeY] at f; exact f.elim
    have weak : ∀ {Hz : Hp} {sz : Shared}, Inv Y ([] ++ zhL fp s8.heap) σ9 Hz sz -> Inv Y [] (zgg L.length ix σ) Hz sz /\ tn (i + 1) sz.heap /\ ∀ b ∈ fp, Hz b = none := fun {Hz sz} Iz => by
     refine ⟨Iz.zdh.weak k1.symm fun j v e => ?_, T.keep _ _ _ st8 fun b hb o e => (Iz.pin (b, o) (List.mem_append_right _ (List.mem_append_right _ (zct hb e)))).1, fun b hb => ?_⟩
     ·by_cases hj : L.length <= j
      ·rw [k2 j hj]; exact e
      ·unfold zgg at e
       rw [List.getElem?_append_left (by simpa using Nat.lt_of_not_le hj), List.getElem?_replicate, if_pos (Nat.lt_of_not_le hj)] at e
       cases e
     ·obtain ⟨o, e, d⟩ := T.obj _ _ st8 b hb
      exact (Iz.pin (b, o) (List.mem_append_right _ (List.mem_append_right _ (zct hb e)))).2.1
    refine wpAny_mono (tY _ s9 σ9 H9 _ I9 q9) (fun ok s10 ⟨H10, I10, q10⟩ => ?_) fun _ _ f => by rw [xeY] at f; exact f.elim
    cases ok with
    | false =>
     have q10' : ∃ m', m' < n /\ W (i + 1) m' ys H10 := q10
     obtain ⟨m', hm', w10⟩ := q10'
     obtain ⟨z1, z2, z3⟩ := weak I10
     exact ⟨m', hm', i + 1, ys, H10, z1, z2, z3, w10⟩
    | true =>
     refine wpAny_mono (pY _ s10 σ9 H10 _ I10 q10) (fun xv s11 ⟨v, H11, I11, r11, hl11, hz11, m', hm', w11⟩ => ?_) fun _ _ f => by rw [xeY] at f; exact f.elim
     refine wpAny_mono (zgK (X := Y) _ s11 σ9 H11 (.ref D) [v] (.ref D) [xv] (fun _ Hq => Hq = upd H11 D (.lst (ys ++ [v]))) I11 rfl (.cons r11 .nil) ⟨D, ys, v, rfl, rfl, hl11, hz11, rfl⟩) (fun _ s12 ⟨_, H12, I12, _, e12⟩ => ?_) fun _ _ f => by rw [xeY] at f; exact f.elim
     subst e12
     obtain ⟨z1, z2, z3⟩ := weak I12
     exact ⟨m', hm', i + 1, ys ++ [v], _, z1, z2, z3, w11⟩
  ·exact I4
 exact codeAny_compStart_list (key _ rfl) (T.self _ 0 _ _ _ st4 (key _ rfl))
end
end L2
namespace L2
open PySem PySem.Spec PyProof.Rows
def zfM (sc scope : Scope) (N : List Str) (ix : List Nat) : Bool :=
 (scope.names.all fun y => (y.2 != .free || sc.names.lookup y.1 == some .cell) && (y.2 != .local || scope.names.lookup y.1 == some .local) && (y.2 != .free || !(scope.names.contains (y.1, NameKind.cell)))) &&
 ((ix.map fun i => N.getD i "").all fun x => scope.names.lookup x != some .local && !(scope.names.contains (x, NameKind.cell))) && ix.all (fun i => decide (i < N.length))
section
variable {X : Cx}
theorem zoT {elt tg iter : Expr} {ifs : List Expr} {scope : Scope} {pos : Pos} {wi : TI} {g : TG} {tc : TT} {te : TE} (L : List Str) (ix : List Nat) (M : List Str) (hc : X.calm = true) (hk : scope.kind = .function)
  (hd : zfM X.env.scope scope X.N ix = true) (hM : M = L ++ ix.map fun i => X.N.getD i "") (hi : PI X tg iter wi)
  (hg : ∀ C s₃ H₃ fp, PG (za8 X M scope C s₃ H₃ fp) tg g) (hgo : zod L.length g)
  (ht : ∀ C s₃ H₃ fp, PTs (za8 X M scope C s₃ H₃ fp) ifs tc) (he : ∀ C s₃ H₃ fp, PE (za8 X M scope C s₃ H₃ fp) elt te)
  (hs : ∀ x, foldedSetIterable iter X.env x = pure x := by intro _; rfl) :
  PE X (.ListComp elt [⟨tg, iter, ifs, 0⟩] scope pos) (zlu L.length ix wi g tc te) := by
 unfold zfM at hd
 simp only [Bool.and_eq_true, List.all_eq_true, bne_iff_ne, ne_eq, Bool.or_eq_true, beq_iff_eq, decide_eq_true_eq, Bool.not_eq_true', List.contains_eq_mem, decide_eq_false_iff_not] at hd
 obtain ⟨⟨d1, d2⟩, d3⟩ := hd
 have eM : M = L ++ zgq X ix := by rw [hM]; unfold zgq; rfl
 subst eM
 refine zoU (L := L) (ix := ix) hc ⟨hk, fun y hy e => ?_, fun y hy e => ?_, fun x hx => ?_, fun y hy e => ?_⟩ d3 hi hg hgo ht he hs
 ·rcases (d1 y hy).1.1 with z | z
  ·exact absurd e z
  ·exact z
 ·rcases (d1 y hy).1.2 with z | z
  ·exact absurd e z
  ·exact z
 ·unfold zgq at hx
  exact d2 x hx
 ·rcases (d1 y hy).2 with z | z
  ·exact absurd e z
  ·exact z
end
end L2
namespace L2
open PySem PySem.Spec PyProof.Rows
end L2
namespace L2
open PySem PySem.Spec PyProof.Rows
section
variable {X : Cx}
theorem zqH {elt tg iter : Expr} {ifs : List Expr} {scope : Scope} {pos : Pos} {L : List Str} {ix : List Nat} {wi : TI} {g : TG} {tc : TT} {te : TE} {i0 : Nat} {x0 : Str} {pos' spos : Pos} (hN : X.N.Nodup) (hii : X.N[i0]? = some x0) (hx0 : Loc X.env.scope x0) (hf0 : X.fn x0 = true \/ X.env.scope.names.lookup x0 = some .local)
  (hsw : swapsWith (.ListComp elt [⟨tg, iter, ifs, 0⟩] scope pos) (some (.Name x0 pos')) spos.line X.env = pure true) (hc : X.calm = true) (S : zfZ X scope (zgq X ix)) (hix : ∀ i ∈ ix, i < X.N.length) (hi : PI X tg iter wi)
  (hg : ∀ C s₃ H₃ fp, PG (za8 X (L ++ zgq X ix) scope C s₃ H₃ fp) tg g) (hgo : zod L.length g)
  (ht : ∀ C s₃ H₃ fp, PTs (za8 X (L ++ zgq X ix) scope C s₃ H₃ fp) ifs tc) (he : ∀ C s₃ H₃ fp, PE (za8 X (L ++ zgq X ix) scope C s₃ H₃ fp) elt te)
  (hs : ∀ x, foldedSetIterable iter X.env x = pure x := by intro _; rfl) :
  PS X (.Assign [.Name x0 pos'] (.ListComp elt [⟨tg, iter, ifs, 0⟩] scope pos) spos) (zrQ (zlu L.length ix wi g tc te) (znB i0)) := by
 intro pins s σ H Dn I h
 have h : zlu L.length ix wi g tc te σ H (fun v H1 => Dn.nx (σ.set i0 (some v)) H1) := h
 generalize hQ : (fun v H1 => Dn.nx (σ.set i0 (some v)) H1 : VK) = Q at h
 rw [exec_Assign_Name_used _ _ _ _ hsw]
 refine wpAny_bind (wpAny_standAt (wpAny_bind ?_))
 show wpAny _ _ (do let _ <- comprehension (.ListComp elt [⟨tg, iter, ifs, 0⟩] scope pos) scope X.env _ (newList []) false (eval iter X.env) (some (assign (.Name x0 pos') X.env))) _ _ s
 refine wpAny_bind (wpAny_mono (wpAny_comprehension_free (use := some (assign (.Name x0 pos') X.env)) (Q := fun _ s' => SP X pins Dn .next s') rfl hs (zfr fun y hy e => I.ok.has y.1 (.inl (S.cell y hy e))) S.kind S.loc (thn (hi pins s σ H _ I h) fun xv s1 h1 => thn h1 fun itv s2 h2 => ?_)) (fun _ s' hq => wpAny_pure (wpAny_pure hq)) fun _ _ e => e)
 obtain ⟨it, fp, tn, J, H2, rfl, I2, T, st2, f2, q⟩ := h2
 have nD : H2 s2.heap.objs.size = none := I2.hok.fresh (Nat.le_refl _)
 obtain ⟨W, ⟨m0, w0⟩, turn⟩ := q _ nD
 generalize hD : s2.heap.objs.size = D at nD w0 turn
 have fD : ∀ b ∈ fp, b < D := fun b hb => by
  obtain ⟨o, e, _⟩ := T.obj _ _ st2 b hb
  rw [<- hD]
  exact Heap.lt_size e
 have I3 : Inv X pins σ (upd H2 D (.lst [])) { s2 with heap := s2.heap.push { cls := .type "list", data := .seq ([] : List Value).toArray }, toks := s2.toks } := by
  rw [<- hD]
  exact I2.laid (t' := s2.toks) (fun b u e => Heap.get?_push_of_some _ e) (Nat.le_refl _) ⟨by simp, [], 0, .nil, Heap.get?_push_size _ rfl⟩
 refine wpAny_newObj_type (zmW (fun h₁ hns₁ hsb₁ hcs₁ => ?_)) (by show 0 <= sizeLine; exact Nat.zero_le _)
 rw [hD]
 have st3 : tn 0 (s2.heap.push { cls := .type "list", data := .seq ([] : List Value).toArray }) := T.keep _ _ _ st2 fun b hb o e => Heap.get?_push_of_some _ e
 generalize hp3 : s2.heap.push { cls := .type "list", data := .seq ([] : List Value).toArray } = h3 at I3 st3 hns₁ hsb₁ hcs₁
 dsimp only at hns₁ hsb₁ hcs₁ ⊢
 have sz3 : h3.objs.size = D + 1 := by rw [<- hp3, Heap.size_push, hD]
 have old : ∀ b u, h3.get? b = some u -> h₁.get? b = some u := fun b u e => hsb₁ b u e
 have f3 : ∀ b ∈ fp, zh0 X pins (upd H2 D (.lst [])) b := fun b hb => ⟨by rw [zaE (Nat.ne_of_lt (fD b hb))]; exact (f2 b hb).1, (f2 b hb).2⟩
 have I4 := zjr (L := L) (ix := ix) (t' := s2.toks) S I3 f3 (fun b hb => by show b < h3.objs.size; rw [sz3]; exact Nat.lt_succ_of_lt (fD b hb)) hix (h' := h₁) hns₁ old hcs₁
 have st4 : tn 0 h₁ := T.keep _ _ _ st3 fun b hb o e => old b o e
 generalize hC : (za8 X (L ++ zgq X ix) scope h3.objs.size { s2 with heap := h3, toks := s2.toks } (upd H2 D (.lst [])) fp) = Y at I4
 have eEnv : Y.env = compEnvC scope (zjW h3.objs.size scope ++ zhy X.env.cells scope.names []) h3.objs.size X.env := by rw [<- hC]; rfl
 have hcY : Y.calm = true := by rw [<- hC]; exact hc
 have xeY : Y.xe = fun _ _ => False := by rw [<- hC]; rfl
 have eP : Y.prog = X.prog := by rw [<- hC]; rfl
 have eW : Y.w = X.w := by rw [<- hC]; rfl
 have eK : Y.K = X.K := by rw [<- hC]; rfl
 have eA : Y.A = X.A := by rw [<- hC]; rfl
 have gY : PG Y tg g := by rw [<- hC]; exact hg _ _ _ _
 have tY : PTs Y ifs tc := by rw [<- hC]; exact ht _ _ _ _
 have pY : PE Y elt te := by rw [<- hC]; exact he _ _ _ _
 have stat : ∀ {H' : Hp}, (∀ b ∈ fp, H' b = none) -> ∀ b ∈ fp, zh0 Y [] H' b := fun {H'} hn b hb => by
  have z1 : b ∈ Y.ex := by rw [<- hC]; exact hb
  have zp : Y.pn = [] := by rw [<- hC]; rfl
  refine ⟨hn b hb, (I4.ok.exf b z1).1, I4.ok.exfs b z1, .inl z1, (I4.ok.exf b z1).2, fun p hp => ?_⟩
  rw [zp] at hp
  exact absurd hp (by simp)
 have fin : ∀ {H' : Hp} {s' : Shared}, Inv Y [] (zgg L.length ix σ) H' s' -> Q (.ref D) H' -> compPost (model X.prog X.w) X.A X.xe (some (assign (.Name x0 pos') X.env)) (fun _ s' => SP X pins Dn .next s') (.ref D) h3.objs.size (.ok .next) s' := by
  intro H' s' J' qe
  obtain ⟨m, hm, _⟩ := J'.loc
  rw [eEnv] at hm
  have hfr : H' h3.objs.size = none := by
   have := J'.free
   rw [eEnv] at this
   exact this
  have mk : ∀ h', Heap.SameBut h3.objs.size s'.heap h' -> Inv X pins σ H' { s' with heap := h' } := by
   intro h' sb
   have hfr : H' h3.objs.size = none := by
    have := J'.free
    rw [eEnv] at this
    exact this
   have neC : ∀ b u, H' b = some u -> b ≠ h3.objs.size := fun b u e z => by rw [z, hfr] at e; cases e
   have base : Un (frs X.stack) fp (upd H2 D (.lst [])) H' h3 s'.heap := by
    have := J'.base
    rw [<- hC] at this
    exact this
   have to' : ∀ b o, b ≠ h3.objs.size -> s'.heap.get? b = some o -> h'.get? b = some o := fun b o hb e => sb.extBut b o hb e
   have lt3 : ∀ b o, h3.get? b = some o -> b ≠ h3.objs.size := fun b o e => Nat.ne_of_lt (Heap.lt_size e)
   have un : Un (frs X.stack) fp (upd H2 D (.lst [])) H' h3 h' :=
    ⟨fun b o e n hb hx => to' b o (lt3 b o e) (base.keep b o e n hb hx),
     fun b o e n hb hx => by
     obtain ⟨sl, z⟩ := base.slot b o e n hb hx
     exact ⟨sl, to' _ _ (lt3 b o e) z⟩,
     base.free,
     fun b o e hx => by
     obtain ⟨o', z⟩ := base.there b o e hx
     exact ⟨o', to' _ _ (lt3 b o e) z⟩,
     base.tups, base.frzs, base.tbls⟩
   have hok : HOk X.prog X.w H' h' := fun b u e => by
    have z := J'.hok b u e
    rw [eP, eW] at z
    refine z.stay (fun c v hcv qv => to' c v ?_ qv) (fun _ qq => qq) fun _ _ qq => qq
    rcases hcv with zz | zz
    ·rw [zz]; exact neC b u e
    ·exact neC c _ zz
   refine I3.call' (s' := { s' with heap := h' }) (ch := fp) ?_ un hok J'.bare fun b hb => ?_
   ·have := J'.os
    rw [<- hC] at this
    exact this
   ·obtain ⟨_, g1, g2, g3, g4, g5⟩ := f2 b hb
    exact ⟨g3, g1, g4, g5⟩
  have I5 : Inv X pins σ H' s' := mk s'.heap (Heap.SameBut.refl ..)
  show wpAny _ _ (assign (.Name x0 pos') X.env (.ref D)) _ _ s'
  refine wpAny_assign_Name (zi0 (v := .ref D) I5 hN hii hx0 rfl (fun s'' I6 hh => ?_) hf0)
  obtain ⟨a6, sb6, ha6⟩ := hh
  have neC : a6 ≠ h3.objs.size := by
   rcases ha6 with z | z
   ·rw [z]; exact Nat.ne_of_lt I3.lt
   ·obtain ⟨v6, q6⟩ := I3.cell x0 a6 z
    exact Nat.ne_of_lt q6.lt
  refine ⟨m, hm.sameBut sb6 (Ne.symm neC), fun h'' sb2 => ⟨_, H', ?_, by rw [<- hQ] at qe; exact qe⟩⟩
  refine Inv.zmc (t' := s''.toks) (fp := [h3.objs.size]) I6 (fun b o hb e => sb2.extBut b o (by simpa using hb) e) fun b hb => ?_
  have e : b = h3.objs.size := by simpa using hb
  subst e
  exact I3.zph (Nat.le_refl _) hfr
 have key : ∀ s5 : Shared, s5 = { s2 with heap := h₁, toks := s2.toks } ->
   codeAny (model X.prog X.w) X.A (.compLoop (.ListComp elt [⟨tg, iter, ifs, 0⟩] scope pos) 0 (.ref it) (.ref D) (compEnvC scope (zjW h3.objs.size scope ++ zhy X.env.cells scope.names []) h3.objs.size X.env))
    (compPost (model X.prog X.w) X.A X.xe (some (assign (.Name x0 pos') X.env)) (fun _ s' => SP X pins Dn .next s') (.ref D) h3.objs.size) s5 := by
  rintro s5 rfl
  rw [<- eEnv, <- eP, <- eW, <- eA]
  refine zg9 (fun n s' => ∃ i ys H', Inv Y [] (zgg L.length ix σ) H' s' /\ tn i s'.heap /\ (∀ b ∈ fp, H' b = none) /\ W i n ys H') ?_ m0 ⟨0, [], _, ?_, st4, fun b hb => (f3 b hb).1, w0⟩
  ·rintro n s6 ⟨i, ys, H6, I6, st6, fr6, w6⟩
   obtain ⟨hl6, alt⟩ := turn i n ys H6 w6
   rcases alt with ⟨stop, qe⟩ | ⟨go, step⟩
   ·have Td := T.done Y eP eW eK hcY i [] s6 _ H6 (fun _ _ => False) I6 (stat fr6) st6 stop
    rw [<- eP, <- eW] at Td
    refine wpAny_mono Td (fun r s7 hr7 => ?_) fun _ _ f => f.elim
    obtain ⟨hr, I7⟩ := hr7
    subst hr
    rw [eP, eW, eA]
    exact fin I7 qe
   ·have Ti := T.item Y eP eW eK hcY i [] s6 _ H6 (fun _ _ => False) I6 (stat fr6) st6 go
    rw [<- eP, <- eW] at Ti
    refine wpAny_mono Ti (fun r s7 hr7 => ?_) fun _ _ f => f.elim
    obtain ⟨u, hr, h7⟩ := hr7
    subst hr
    refine wpAny_mono h7 (fun _ s8 hr8 => ?_) fun _ _ f => f.elim
    obtain ⟨x, H8, I8, r8, y8, st8, fr8⟩ := hr8
    have I8' := I8.pinned (stat fr8) (T.obj _ _ st8)
    have stp := hgo _ _ _ _ (step x H8 y8)
    refine wpAny_mono (gY _ s8 _ H8 x u _ I8' r8 stp) (fun _ s9 ⟨σ9, H9, I9, ⟨k1, k2⟩, q9⟩ => ?_) fun _ _ f => by rw [xeY] at f; exact f.elim
    have weak : ∀ {Hz : Hp} {sz : Shared}, Inv Y ([] ++ zhL fp s8.heap) σ9 Hz sz -> Inv Y [] (zgg L.length ix σ) Hz sz /\ tn (i + 1) sz.heap /\ ∀ b ∈ fp, Hz b = none := fun {Hz sz} Iz => by
     refine ⟨Iz.zdh.weak k1.symm fun j v e => ?_, T.keep _ _ _ st8 fun b hb o e => (Iz.pin (b, o) (List.mem_append_right _ (List.mem_append_right _ (zct hb e)))).1, fun b hb => ?_⟩
     ·by_cases hj : L.length <= j
      ·rw [k2 j hj]; exact e
      ·unfold zgg at e
       rw [List.getElem?_append_left (by simpa using Nat.lt_of_not_le hj), List.getElem?_replicate, if_pos (Nat.lt_of_not_le hj)] at e
       cases e
     ·obtain ⟨o, e, d⟩ := T.obj _ _ st8 b hb
      exact (Iz.pin (b, o) (List.mem_append_right _ (List.mem_append_right _ (zct hb e)))).2.1
    refine wpAny_mono (tY _ s9 σ9 H9 _ I9 q9) (fun ok s10 ⟨H10, I10, q10⟩ => ?_) fun _ _ f => by rw [xeY] at f; exact f.elim
    cases ok with
    | false =>
     have q10' : ∃ m', m' < n /\ W (i + 1) m' ys H10 := q10
     obtain ⟨m', hm', w10⟩ := q10'
     obtain ⟨z1, z2, z3⟩ := weak I10
     exact ⟨m', hm', i + 1, ys, H10, z1, z2, z3, w10⟩
    | true =>
     refine wpAny_mono (pY _ s10 σ9 H10 _ I10 q10) (fun xv s11 ⟨v, H11, I11, r11, hl11, hz11, m', hm', w11⟩ => ?_) fun _ _ f => by rw [xeY] at f; exact f.elim
     refine wpAny_mono (zgK (X := Y) _ s11 σ9 H11 (.ref D) [v] (.ref D) [xv] (fun _ Hq => Hq = upd H11 D (.lst (ys ++ [v]))) I11 rfl (.cons r11 .nil) ⟨D, ys, v, rfl, rfl, hl11, hz11, rfl⟩) (fun _ s12 ⟨_, H12, I12, _, e12⟩ => ?_) fun _ _ f => by rw [xeY] at f; exact f.elim
     subst e12
     obtain ⟨z1, z2, z3⟩ := weak I12
     exact ⟨m', hm', i + 1, ys ++ [v], _, z1, z2, z3, w11⟩
  ·exact I4
 exact codeAny_compStart_list (key _ rfl) (T.self _ 0 _ _ _ st4 (key _ rfl))
theorem zqG {elt tg iter : Expr} {ifs : List Expr} {scope : Scope} {pos : Pos} {wi : TI} {g : TG} {tc : TT} {te : TE} {x0 : Str} {pos' spos : Pos} (i0 : Nat) (L : List Str) (ix : List Nat) (M : List Str) (hN : X.N.Nodup) (hii : X.N[i0]? = some x0) (hx0 : X.env.scope.names.lookup x0 = some .local)
  (hsw : swapsWith (.ListComp elt [⟨tg, iter, ifs, 0⟩] scope pos) (some (.Name x0 pos')) spos.line X.env = pure true) (hc : X.calm = true) (hk : scope.kind = .function)
  (hd : zfM X.env.scope scope X.N ix = true) (hM : M = L ++ ix.map fun i => X.N.getD i "") (hi : PI X tg iter wi)
  (hg : ∀ C s₃ H₃ fp, PG (za8 X M scope C s₃ H₃ fp) tg g) (hgo : zod L.length g)
  (ht : ∀ C s₃ H₃ fp, PTs (za8 X M scope C s₃ H₃ fp) ifs tc) (he : ∀ C s₃ H₃ fp, PE (za8 X M scope C s₃ H₃ fp) elt te)
  (hs : ∀ x, foldedSetIterable iter X.env x = pure x := by intro _; rfl) :
  PS X (.Assign [.Name x0 pos'] (.ListComp elt [⟨tg, iter, ifs, 0⟩] scope pos) spos) (zrQ (zlu L.length ix wi g tc te) (znB i0)) := by
 unfold zfM at hd
 simp only [Bool.and_eq_true, List.all_eq_true, bne_iff_ne, ne_eq, Bool.or_eq_true, beq_iff_eq, decide_eq_true_eq, Bool.not_eq_true', List.contains_eq_mem, decide_eq_false_iff_not] at hd
 obtain ⟨⟨d1, d2⟩, d3⟩ := hd
 have eM : M = L ++ zgq X ix := by rw [hM]; unfold zgq; rfl
 subst eM
 refine zqH (L := L) (ix := ix) hN hii (.inl hx0) (.inr hx0) hsw hc ⟨hk, fun y hy e => ?_, fun y hy e => ?_, fun x hx => ?_, fun y hy e => ?_⟩ d3 hi hg hgo ht he hs
 ·rcases (d1 y hy).1.1 with z | z
  ·exact absurd e z
  ·exact z
 ·rcases (d1 y hy).1.2 with z | z
  ·exact absurd e z
  ·exact z
 ·unfold zgq at hx
  exact d2 x hx
 ·rcases (d1 y hy).2 with z | z
  ·exact absurd e z
  ·exact z
end
end L2
namespace L2
open PySem PySem.Spec PyProof.Rows
def Itd (d : Addr) (o : Obj) (kvs : List (Key × V)) : It :=
 ⟨fun i H => H d = some (.frz o (.dK kvs)) /\ i < kvs.length, fun i H x H' => H' = H /\ ∃ k v, kvs[i]? = some (k, v) /\ x = kV k, fun i H => H d = some (.frz o (.dK kvs)) /\ kvs.length <= i⟩
theorem zkJ {k : Key} {u : Value} (h : zj9 k u = true) : RelV (kV k) u := by
 rcases za7 h with ⟨i, t, rfl, rfl⟩ | ⟨x, t, rfl, rfl⟩
 ·exact ⟨t, rfl⟩
 ·exact ⟨t, rfl⟩
theorem KV.len {kvs : List (Key × V)} {vs : List (Key × Value)} (h : KV kvs vs) : kvs.length = vs.length := Paired.length h
theorem zeh {α β : Type} {R : α -> β -> Prop} : ∀ {xs : List α} {ys : List β} {i : Nat} {x : α}, Paired R xs ys -> xs[i]? = some x -> ∃ y, ys[i]? = some y /\ R x y
 | _ :: _, _ :: _, 0, _, .cons r _, e => by
  simp only [List.getElem?_cons_zero, Option.some.injEq] at e
  subst e
  exact ⟨_, rfl, r⟩
 | _ :: _, _ :: _, i + 1, _, .cons _ t, e => by
  simp only [List.getElem?_cons_succ] at e ⊢
  exact zeh t e
 | [], _, _, _, _, e => by simp at e
theorem znD {P : Program} {w : World} {H : Hp} {h : Heap} {d : Addr} {o : Obj} {kvs : List (Key × V)} {es : Array DictEntry} {ep : Nat} (ok : zbV P w H h d (.frz o (.dK kvs))) (hd : o.data = .dict es ep) :
  ∃ vs, KV kvs vs /\ h.DictAt (zaS P w) d vs ep /\ (d == sysModules) = false := by
 obtain ⟨e, _, sy, vs, kv, o', es', ep', e', r1, r2, r3⟩ := ok
 rw [e] at e'
 cases e'
 rw [hd] at r2
 cases r2
 exact ⟨vs, kv, ⟨o, es, e, r1, hd, r3⟩, sy⟩
theorem zme {P : Program} {w : World} {K : PySem.W.Frag} {tg : Expr} {o : Obj} {es : Array DictEntry} {ep : Nat} {kvs : List (Key × V)} (d it : Addr) (hdat : o.data = .dict es ep) :
  Turn P w K tg (Itd d o kvs) [it] it (fun i h => h.IsKeyIter it d i kvs.length ep) where
 mem := by simp
 obj := fun i h st b hb => by
  have e : b = it := by simpa using hb
  subst e
  obtain ⟨o, e, c, d⟩ := st
  exact ⟨o, e, fun v z => by rw [d] at z; cases z⟩
 keep := fun i h h' st k => st.at fun o e => k it (by simp) o e
 item := by
  intro X hP hw hK hc i pins s σ H E I hf st hg
  subst hP hw hK
  obtain ⟨hd, hi⟩ := hg
  obtain ⟨vs, kv, da, _⟩ := znD (I.hok d _ hd) hdat
  obtain ⟨⟨k', v'⟩, ev, rk, rv⟩ := zeh kv (List.getElem?_eq_getElem hi)
  obtain ⟨f0, f1, f2, f3, f4, f5⟩ := hf it (by simp)
  have st' : s.heap.IsKeyIter it d i vs.length ep := by rw [<- kv.len]; exact st
  refine wpAny_pyNext_dict_item st' da ev fun key h' hk st2 sb => ?_
  have I1 : Inv X pins σ H { s with heap := h' } := I.turned (t' := s.toks) (fun b o hb e => (sb.2 b hb).trans e) f0 f1 f3 f4 f5
  rw [<- kv.len] at st2
  obtain ⟨o, e, c, dd⟩ := id st2
  exact ⟨key, rfl, zny (s := { s with heap := h' }) e c dd (by decide) ⟨kV k', H, I1, zkJ hk, ⟨rfl, kvs[i].1, kvs[i].2, List.getElem?_eq_getElem hi, congrArg kV rk.symm⟩, st2, fun b hb => (hf b hb).1⟩⟩
 done := by
  intro X hP hw hK hc i pins s σ H E I hf st hg
  subst hP hw hK
  obtain ⟨hd, hi⟩ := hg
  obtain ⟨vs, kv, da, _⟩ := znD (I.hok d _ hd) hdat
  obtain ⟨f0, f1, f2, f3, f4, f5⟩ := hf it (by simp)
  have st' : s.heap.IsKeyIter it d i vs.length ep := by rw [<- kv.len]; exact st
  exact wpAny_pyNext_dict_end (I.ok.hd hc) st' da (List.getElem?_eq_none (by rw [<- kv.len]; exact hi)) fun h' eb => ⟨rfl, I.turned (t' := s.toks) (fun b o hb e => eb b o hb e) f0 f1 f3 f4 f5⟩
 self := fun _ _ _ _ _ st h => wpAny_pyIter_keyiter st h
end L2
namespace L2
open PySem PySem.Spec PyProof.Rows
section
variable {κ : Type} [DecidableEq κ]
def zhC (kvs : List (κ × V)) (k : κ) : Option V := (kvs.find? fun kv => decide (kv.1 = k)).map (·.2)
def putK (kvs : List (κ × V)) (k : κ) (v : V) : List (κ × V) :=
 if (kvs.any fun kv => decide (kv.1 = k)) = true then kvs.map (fun kv => if kv.1 = k then (kv.1, v) else kv) else kvs ++ [(k, v)]
def zch (kvs : List (κ × V)) (k : κ) : List (κ × V) := kvs.filter fun kv => decide (kv.1 ≠ k)
theorem ze9 {p : κ × V} {r : List (κ × V)} {k : κ} (e : p.1 = k) : zhC (p :: r) k = some p.2 := by simp [zhC, List.find?_cons, e]
theorem zfa {p : κ × V} {r : List (κ × V)} {k : κ} (e : ¬ p.1 = k) : zhC (p :: r) k = zhC r k := by simp [zhC, List.find?_cons, e]
theorem zkA (k : κ) : ∀ kvs : List (κ × V), (kvs.any fun kv => decide (kv.1 = k)) = (zhC kvs k).isSome
 | [] => rfl
 | p :: r => by
  rw [List.any_cons]
  by_cases e : p.1 = k
  ·simp only [ze9 e, decide_eq_true e, Bool.true_or, Option.isSome_some]
  ·rw [zfa e, decide_eq_false e, Bool.false_or]; exact zkA k r
theorem zdr (kvs : List (κ × V)) (k : κ) (v : V) : (putK kvs k v).length <= kvs.length + 1 := by
 unfold putK
 split
 ·rw [List.length_map]; omega
 ·rw [List.length_append, List.length_cons, List.length_nil]; omega
theorem zl6.zfn {o : Option V} {u : Option Value} (r : zl6 o u) : o.isSome = u.isSome := by
 cases o with
 | none => cases u with
  | none => rfl
  | some _ => exact (show False from r).elim
 | some _ => cases u with
  | none => exact (show False from r).elim
  | some _ => rfl
theorem zl6.getD {o : Option V} {u : Option Value} {d : V} {d' : Value} (r : zl6 o u) (rd : RelV d d') : RelV (o.getD d) (u.getD d') := by
 cases o with
 | none => cases u with
  | none => exact rd
  | some _ => exact (show False from r).elim
 | some _ => cases u with
  | none => exact (show False from r).elim
  | some _ => exact r
theorem KV.val {kvs : List (κ × V)} {vs : List (κ × Value)} (r : KV kvs vs) (k : κ) : zl6 (zhC kvs k) (valueAt vs k) := by
 unfold KV at r
 induction r with
 | nil => exact True.intro
 | @cons p q ps qs h t ih =>
  obtain ⟨h1, h2⟩ := h
  by_cases e : p.1 = k
  ·have e' : q.1 = k := h1.symm.trans e
   have b : valueAt (q :: qs) k = some q.2 := by simp [valueAt, List.find?_cons, e']
   rw [ze9 e, b]; exact h2
  ·have e' : ¬ q.1 = k := fun z => e (h1.trans z)
   have b : valueAt (q :: qs) k = valueAt qs k := by simp [valueAt, List.find?_cons, e']
   rw [zfa e, b]; exact ih
theorem KV.any {kvs : List (κ × V)} {vs : List (κ × Value)} (r : KV kvs vs) (k : κ) : (kvs.any fun kv => decide (kv.1 = k)) = vs.any fun kv => decide (kv.1 = k) := by
 unfold KV at r
 induction r with
 | nil => rfl
 | cons h t ih => rw [List.any_cons, List.any_cons, ih, h.1]
theorem KV.repl {kvs : List (κ × V)} {vs : List (κ × Value)} (r : KV kvs vs) (k : κ) {y : V} {u : Value} (ry : RelV y u) :
  KV (kvs.map fun kv => if kv.1 = k then (kv.1, y) else kv) (vs.map fun kv => if kv.1 = k then (kv.1, u) else kv) := by
 unfold KV at r ⊢
 induction r with
 | nil => exact .nil
 | @cons p q ps qs h t ih =>
  rw [List.map_cons, List.map_cons]
  refine .cons ?_ ih
  obtain ⟨h1, h2⟩ := h
  by_cases e : p.1 = k
  ·rw [if_pos e, if_pos (h1.symm.trans e)]; exact ⟨h1, ry⟩
  ·rw [if_neg e, if_neg (fun z => e (h1.trans z))]; exact ⟨h1, h2⟩
theorem KV.put {kvs : List (κ × V)} {vs : List (κ × Value)} (r : KV kvs vs) (k : κ) {y : V} {u : Value} (ry : RelV y u) : KV (putK kvs k y) (stored vs k u) := by
 unfold putK stored
 rw [r.any k]
 by_cases e : (vs.any fun kv => decide (kv.1 = k)) = true
 ·rw [if_pos e, if_pos e]; exact r.repl k ry
 ·rw [if_neg e, if_neg e]; exact Paired.snoc r ⟨rfl, ry⟩
theorem KV.drop {kvs : List (κ × V)} {vs : List (κ × Value)} (r : KV kvs vs) (k : κ) : KV (zch kvs k) (without vs k) := by
 unfold KV at r ⊢
 unfold zch without
 induction r with
 | nil => exact .nil
 | @cons p q ps qs h t ih =>
  obtain ⟨h1, h2⟩ := h
  rw [List.filter_cons, List.filter_cons]
  by_cases e : p.1 = k
  ·have a : ¬ decide (p.1 ≠ k) = true := by simp [e]
   have b : ¬ decide (q.1 ≠ k) = true := by simp [h1.symm.trans e]
   rw [if_neg a, if_neg b]; exact ih
  ·have e' : ¬ q.1 = k := fun z => e (h1.trans z)
   have a : decide (p.1 ≠ k) = true := by simp [e]
   have b : decide (q.1 ≠ k) = true := by simp [e']
   rw [if_pos a, if_pos b]; exact .cons ⟨h1, h2⟩ ih
theorem KV.length {kvs : List (κ × V)} {vs : List (κ × Value)} (r : KV kvs vs) : kvs.length = vs.length := Paired.length r
theorem zle (kvs : List (κ × V)) (k : κ) : (zch kvs k).length <= kvs.length := List.length_filter_le _ _
end
theorem ziD {P : Program} {w : World} {k : Key} {u : Value} (r : RelV (kV k) u) : (zaS P w).is k u = true := by
 cases k with
 | inl i => obtain ⟨t, e⟩ := (show ∃ t, u = Value.int i t from r); subst e; exact zj3 P w i t
 | inr x => obtain ⟨t, e⟩ := (show ∃ t, u = Value.str x t from r); subst e; exact zj2 P w x t
theorem zjq {P : Program} {w : World} : ∀ {ks : List Key} {us : List Value}, Vals (ks.map kV) us -> ItemsAre (zaS P w) ks us
 | [], _, r => by rw [List.map_nil] at r; cases r; exact .nil
 | k :: ks, _, r => by
  rw [List.map_cons] at r
  cases r with
  | cons h t => exact .cons (ziD h) (zjq t)
abbrev KT (H : Hp) : List (List Key × V) -> List (List Key × Addr × Value) -> Prop := Paired fun p q => p.1 = q.1 /\ TAt H q.2.1 (p.1.map kV) /\ RelV p.2 q.2.2
theorem KT.val {H : Hp} {kvs : List (List Key × V)} {xs : List (List Key × Addr × Value)} (r : KT H kvs xs) (k : List Key) : zl6 (zhC kvs k) ((atKey xs k).map (·.2)) := by
 induction r with
 | nil => exact True.intro
 | @cons p q ps qs h t ih =>
  obtain ⟨h1, _, h2⟩ := h
  by_cases e : p.1 = k
  ·have e' : q.1 = k := h1.symm.trans e
   have b : atKey (q :: qs) k = some q.2 := by simp [atKey, List.find?_cons, e']
   rw [ze9 e, b]; exact h2
  ·have e' : ¬ q.1 = k := fun z => e (h1.trans z)
   have b : atKey (q :: qs) k = atKey qs k := by simp [atKey, List.find?_cons, e']
   rw [zfa e, b]; exact ih
theorem KT.repl {H : Hp} {kvs : List (List Key × V)} {xs : List (List Key × Addr × Value)} (r : KT H kvs xs) (k : List Key) {y : V} {u : Value} (ry : RelV y u) :
  KT H (kvs.map fun kv => if kv.1 = k then (kv.1, y) else kv) (xs.map (putAt k u)) := by
 induction r with
 | nil => exact .nil
 | @cons p q ps qs h t ih =>
  rw [List.map_cons, List.map_cons]
  refine .cons ?_ ih
  obtain ⟨h1, h2, h3⟩ := h
  unfold putAt
  by_cases e : p.1 = k
  ·rw [if_pos e, if_pos (h1.symm.trans e)]; exact ⟨h1, h2, ry⟩
  ·rw [if_neg e, if_neg (fun z => e (h1.trans z))]; exact ⟨h1, h2, h3⟩
theorem KT.put {H : Hp} {kvs : List (List Key × V)} {xs : List (List Key × Addr × Value)} (r : KT H kvs xs) (k : List Key) {b : Addr} {y : V} {u : Value} (hb : TAt H b (k.map kV)) (ry : RelV y u) :
  KT H (putK kvs k y) (storedH xs k b u) := by
 have e : (kvs.any fun kv => decide (kv.1 = k)) = (atKey xs k).isSome := by
  rw [zkA, (r.val k).zfn, Option.isSome_map]
 unfold putK storedH
 rw [e]
 by_cases q : (atKey xs k).isSome = true
 ·rw [if_pos q, if_pos q]; exact r.repl k ry
 ·rw [if_neg q, if_neg q]; exact Paired.snoc r ⟨rfl, hb, ry⟩
theorem KT.keeps {H H' : Hp} {kvs : List (List Key × V)} {xs : List (List Key × Addr × Value)} (r : KT H kvs xs) (ht : ∀ b ys, TAt H b ys -> TAt H' b ys) : KT H' kvs xs :=
 Paired.zu0 r fun _ _ z => ⟨z.1, ht _ _ z.2.1, z.2.2⟩
section
variable {P : Program} {w : World} {H : Hp} {h : Heap} {a : Addr}
theorem zrX {u : HO} (ok : HOk P w H h) (e : Rd H a u) : zbV P w H h a u := e.ok ok
theorem zjx {kvs : List (Key × V)} (ok : HOk P w H h) (e : Rd H a (.dK kvs)) : kvs.length <= sizeLine /\ (a == sysModules) = false /\ ∃ vs, KV kvs vs /\ h.DictOf (zaS P w) a vs :=
 show zbV P w H h a (.dK kvs) from zrX ok e
theorem zpk {kvs : List (Key × V)} (ok : HOk P w H h) (e : H a = some (.dK kvs)) : kvs.length <= sizeLine /\ (a == sysModules) = false /\ ∃ vs, KV kvs vs /\ h.DictOf (zaS P w) a vs := zjx ok (.inl e)
theorem zdY {ks : List Key} (ok : HOk P w H h) (e : TAt H a (ks.map kV)) : (tupleKind (zaS P w)).is h ks a := by
 obtain ⟨_, its, r, o, h1, h2, n, h3⟩ := (show zbV P w H h a (.tup (ks.map kV)) from Rd.ok e ok)
 exact ⟨o, its.toArray, n, h1, h2, h3, by simpa using zjq r⟩
theorem zju {kvs : List (List Key × V)} (ok : HOk P w H h) (e : Rd H a (.dT kvs)) : kvs.length <= sizeLine /\ (a == sysModules) = false /\
  ∃ xs, KT H kvs xs /\ h.DictOfH (tupleKind (zaS P w)) a xs := by
 obtain ⟨z, y, xs, r, o, es, ep, h1, h2, h3, h4, h5⟩ := (show zbV P w H h a (.dT kvs) from zrX ok e)
 refine ⟨z, y, xs, r, o, es, ep, h1, h2, h3, h4, fun x hx => ?_, h5⟩
 have all : ∀ {l : List (List Key × V)} {m : List (List Key × Addr × Value)}, KT H l m -> ∀ x ∈ m, (tupleKind (zaS P w)).is h x.1 x.2.1 := by
  intro l m q
  induction q with
  | nil => intro x hx; exact nomatch hx
  | @cons p q ps qs hq t ih =>
   intro x hx
   rcases List.mem_cons.mp hx with e | hx
   ·subst e
    exact zdY ok (by rw [<- hq.1]; exact hq.2.1)
   ·exact ih x hx
 exact all r x hx
theorem zrj {kvs : List (List Key × V)} (ok : HOk P w H h) (e : H a = some (.dT kvs)) : kvs.length <= sizeLine /\ (a == sysModules) = false /\
  ∃ xs, KT H kvs xs /\ h.DictOfH (tupleKind (zaS P w)) a xs := zju ok (.inl e)
end
def zuc (H : Hp) (a : Addr) (y : V) (r : Option V) : Prop :=
 (∃ kvs k, Rd H a (.dK kvs) /\ y = kV k /\ r = zhC kvs k) \/ ∃ kvs k b, Rd H a (.dT kvs) /\ y = .ref b /\ TAt H b (k.map kV) /\ r = zhC kvs k
def zof (H : Hp) (a : Addr) (y v : V) (H' : Hp) : Prop :=
 (∃ kvs k, H a = some (.dK kvs) /\ y = kV k /\ kvs.length < sizeLine /\ H' = upd H a (.dK (putK kvs k v))) \/
 ∃ kvs k b, H a = some (.dT kvs) /\ y = .ref b /\ TAt H b (k.map kV) /\ kvs.length < sizeLine /\ H' = upd H a (.dT (putK kvs k v))
theorem zof.k {H : Hp} {a : Addr} {kvs : List (Key × V)} {k : Key} {v : V} (e : H a = some (.dK kvs)) (hl : kvs.length < sizeLine) : zof H a (kV k) v (upd H a (.dK (putK kvs k v))) := .inl ⟨kvs, k, e, rfl, hl, rfl⟩
theorem zof.t {H : Hp} {a b : Addr} {kvs : List (List Key × V)} {k : List Key} {v : V} (e : H a = some (.dT kvs)) (eb : TAt H b (k.map kV)) (hl : kvs.length < sizeLine) :
  zof H a (.ref b) v (upd H a (.dT (putK kvs k v))) := .inr ⟨kvs, k, b, e, rfl, eb, hl, rfl⟩
section
variable {X : Cx} {pins : List (Addr × Obj)} {σ : St} {H : Hp} {s : Shared} {a : Addr} {y v : V} {u r : Value} {o : Option V} {A : Around} {E : Value -> Shared -> Prop}
theorem Inv.big (I : Inv X pins σ H s) : sysModules < s.heap.objs.size := by
 have h : mainGlobals < s.heap.objs.size := (I.mod.glob.keeps I.bk).lt
 exact Nat.lt_trans (by decide) h
theorem znM {Q : Value -> Shared -> Prop} (hu : A.units + 1 < cLine) (I : Inv X pins σ H s) (g : zuc H a y (some v)) (ry : RelV y u) (h : ∀ w' s', Inv X pins σ H s' -> RelV v w' -> Q w' s') :
  wpAny (model X.prog X.w) A (getItem (.ref a) u) Q E s := by
 rcases g with ⟨kvs, k, e, ey, l⟩ | ⟨kvs, k, b, e, ey, eb, l⟩
 ·subst ey
  obtain ⟨z, hd, vs, rel, dd⟩ := zjx I.hok e
  obtain ⟨w', hw, rw'⟩ := zl6.some_of (v := v) (o := valueAt vs k) (by rw [l]; exact rel.val k)
  exact wpAny_getItem_of (ziD ry) dd.mapOf hw (h w' _ (I.tok _) rw')
 ·subst ey
  cases (show u = Value.ref b from ry)
  obtain ⟨z, hd, xs, rel, dd⟩ := zju I.hok e
  obtain ⟨w', hw, rw'⟩ := zl6.some_of (v := v) (o := (atKey xs k).map (·.2)) (by rw [l]; exact rel.val k)
  obtain ⟨p, hp, hp2⟩ := Option.map_eq_some_iff.mp hw
  refine wpAny_getItem_heap (tupleKind_room_in1 hu) (zdY I.hok eb) dd hp ?_
  rw [hp2]
  exact h w' _ (I.tok _) rw'
theorem zwC {Q : Value -> Shared -> Prop} (hu : A.units + 1 < cLine) (I : Inv X pins σ H s) (g : zuc H a y o) (ry : RelV y u) (h : ∀ s', Inv X pins σ H s' -> Q (.bool o.isSome) s') :
  wpAny (model X.prog X.w) A (compareOp .In u (.ref a)) Q E s := by
 rcases g with ⟨kvs, k, e, ey, l⟩ | ⟨kvs, k, b, e, ey, eb, l⟩
 ·subst ey
  obtain ⟨z, hd, vs, rel, dd⟩ := zjx I.hok e
  refine wpAny_in_of (ziD ry) hd dd.mapOf ?_
  rw [<- (rel.val k).zfn, <- l]
  exact h _ (I.tok _)
 ·subst ey
  cases (show u = Value.ref b from ry)
  obtain ⟨z, hd, xs, rel, dd⟩ := zju I.hok e
  refine wpAny_in_heap (tupleKind_room_in1 hu) (zdY I.hok eb) hd dd ?_
  have q := (rel.val k).zfn
  rw [Option.isSome_map] at q
  rw [<- q, <- l]
  exact h _ (I.tok _)
theorem zd6 {h' : Heap} {t' : Nat} {ob : HO} (I : Inv X pins σ H s) (mu : Mut (H a)) (hs : Heap.SameBut a s.heap h') (he : ∃ q, h'.get? a = some q) (new : zbV X.prog X.w (upd H a ob) h' a ob) :
  Inv X pins σ (upd H a ob) { s with heap := h', toks := t' } :=
 I.write (x := a) (e := a) mu (.inl rfl) (fun b q hb z => (hs.2 b hb).trans z) he new
theorem znL {P : Program} {w : World} {H' : Hp} {h' : Heap} {kvs : List (Key × V)} {vs : List (Key × Value)} (z : kvs.length <= sizeLine) (hd : (a == sysModules) = false) (rel : KV kvs vs) (dd : h'.DictOf (zaS P w) a vs) :
  zbV P w H' h' a (.dK kvs) := ⟨z, hd, vs, rel, dd⟩
theorem zg5 {H' : Hp} {Q : Unit -> Shared -> Prop} (hu : A.units + 1 < cLine) (I : Inv X pins σ H s) (g : zof H a y v H') (ry : RelV y u) (rv : RelV v r) (h : ∀ s', Inv X pins σ H' s' -> Q () s') :
  wpAny (model X.prog X.w) A (setItem (.ref a) u r) Q E s := by
 rcases g with ⟨kvs, k, e, ey, l, eH⟩ | ⟨kvs, k, b, e, ey, eb, l, eH⟩
 ·subst ey eH
  obtain ⟨z, hd, vs, rel, dd⟩ := zpk I.hok e
  have hz : vs.length <= sizeLine := by rw [<- rel.length]; exact z
  have hl : (putK kvs k v).length <= sizeLine := by have := zdr kvs k v; omega
  refine wpAny_setItem_pairs (hsz := hz) (ziD ry) dd fun h' dd' hs => h _ ?_
  have he : ∃ q, h'.get? a = some q := let ⟨q, _, _, hq, _⟩ := dd'; ⟨q, hq⟩
  exact zd6 I (by rw [e]; exact True.intro) hs he (znL hl hd (rel.put k rv) dd')
 ·subst ey eH
  cases (show u = Value.ref b from ry)
  obtain ⟨z, hd, xs, rel, dd⟩ := zrj I.hok e
  have hz : xs.length <= sizeLine := by rw [<- Paired.length rel]; exact z
  have hl : (putK kvs k v).length <= sizeLine := by have := zdr kvs k v; omega
  refine wpAny_setItem_heap (hsz := hz) (tupleKind_room_in1 hu) (zdY I.hok eb) dd fun h' dd' hs => h _ ?_
  obtain ⟨q, es, ep, hq, h2, h3, h4, _, h5⟩ := dd'
  refine zd6 I (by rw [e]; exact True.intro) hs ⟨q, hq⟩ ⟨hl, hd, _, (rel.put k eb rv).keeps fun c ys ec => ?_, q, es, ep, hq, h2, h3, h4, h5⟩
  exact ec.upd (fun _ z => zhl z e (fun z => nomatch z)) fun _ _ z => zhl z e (fun z => nomatch z)
end
section
variable {X : Cx} {pins : List (Addr × Obj)} {σ : St} {H : Hp} {s : Shared} {a : Addr} {kvs : List (Key × V)} {k : Key} {u : Value} {A : Around} {E : Value -> Shared -> Prop}
theorem znN {Q : Unit -> Shared -> Prop} (I : Inv X pins σ H s) (e : H a = some (.dK kvs)) (ry : RelV (kV k) u) (l : (zhC kvs k).isSome = true) (h : ∀ s', Inv X pins σ (upd H a (.dK (zch kvs k))) s' -> Q () s') :
  wpAny (model X.prog X.w) A (delItem (.ref a) u) Q E s := by
 obtain ⟨z, hd, vs, rel, dd⟩ := zpk I.hok e
 refine wpAny_delItem_slot dd.typeIs (by decide) PySem.F.slot_dict_delitem
  (call_meetsIn PySem.F.slot_dict_delitem dd.typeIs PySem.F.entry_dict_delitem (PySem.F.args_dict_delitem_2 _ _) (meets_dict_delitem_pairs (zaS X.prog X.w) a (ziD ry)) ⟨vs, dd, by rw [<- rel.length]; exact z, by rw [<- (rel.val k).zfn]; exact l, fun h' dd' hs => h _ ?_⟩)
 have he : ∃ q, h'.get? a = some q := let ⟨q, _, _, hq, _⟩ := dd'; ⟨q, hq⟩
 exact zd6 I (by rw [e]; exact True.intro) hs he (znL (Nat.le_trans (zle kvs k) z) hd (rel.drop k) dd')
end
theorem zki {X : Cx} {pins : List (Addr × Obj)} {σ : St} {H : Hp} {s : Shared} {a : Addr} {y : V} {o : Option V} (I : Inv X pins σ H s) (g : zuc H a y o) : s.TypeIs (.ref a) "dict" := by
 rcases g with ⟨kvs, k, e, _, _⟩ | ⟨kvs, k, b, e, _, _, _⟩
 ·obtain ⟨_, _, vs, _, dd⟩ := zjx I.hok e
  exact dd.typeIs
 ·obtain ⟨_, _, xs, _, dd⟩ := zju I.hok e
  exact dd.typeIs
theorem zlc {P : Program} {w : World} {H : Hp} (h : Heap) (hb : sysModules < h.objs.size) : zbV P w H (h.push { cls := .type "dict", data := .dict #[] }) h.objs.size (.dT []) :=
 ⟨Nat.zero_le _, beq_eq_false_iff_ne.mpr (Ne.symm (Nat.ne_of_lt hb)), [], .nil, _, #[], 0, Heap.get?_push_size _ rfl, ⟨rfl, rfl, rfl⟩, rfl, rfl, List.nodup_nil⟩
def zrP : TE := fun _ H Q => ∀ p, H p = none -> Q (.ref p) (upd H p (.dT []))
section
variable {X : Cx} {pos : Pos}
theorem zoR : PE X (.Dict [] [] pos) zrP := fun pins s σ H Q I h =>
 wpAny_Dict_empty ⟨.ref s.heap.objs.size, _, I.laid (a := s.heap.objs.size) (o := .dT []) (t' := s.toks) (fun _ _ q => Heap.get?_push_of_some _ q) (Nat.le_refl _) (zlc s.heap I.big), rfl, h _ (I.hok.fresh (Nat.le_refl _))⟩
end
def zpD : List (TE × TE) -> St -> Hp -> (List (V × V) -> Hp -> Prop) -> Prop
 | [], _, H, Q => Q [] H
 | (tk, tv) :: r, σ, H, Q => tk σ H fun x H1 => tv σ H1 fun y H2 => zpD r σ H2 fun ps H3 => Q ((x, y) :: ps) H3
abbrev VV : List (V × V) -> List (Value × Value) -> Prop := Paired fun p q => RelV p.1 q.1 /\ RelV p.2 q.2
def PPs (X : Cx) (pos : Pos) (keys : List (Option Expr)) (values : List Expr) (trs : List (TE × TE)) : Prop :=
 ∀ (pins : List (Addr × Obj)) (s : Shared) (σ : St) (H : Hp) (Q : List (V × V) -> Hp -> Prop), Inv X pins σ H s -> zpD trs σ H Q ->
  wpAny (model X.prog X.w) X.A (evalPairs (pairTrees keys values X.env pos)) (fun vs s' => ∃ ps H', Inv X pins σ H' s' /\ VV ps vs /\ Q ps H') X.xe s
theorem zqK {X : Cx} {pos : Pos} : PPs X pos [] [] [] := fun pins s σ H Q I h => pairTrees_nil_walk ⟨[], H, I, .nil, h⟩
theorem zoL {X : Cx} {pos : Pos} {k v : Expr} {ks : List (Option Expr)} {vs : List Expr} {tk tv : TE} {trs : List (TE × TE)} (hk : PE X k tk) (hv : PE X v tv) (hr : PPs X pos ks vs trs) :
  PPs X pos (some k :: ks) (v :: vs) ((tk, tv) :: trs) := fun pins s σ H Q I h =>
 pairTrees_cons_walk (thn (hk pins s σ H _ I h) fun u s1 ⟨x, H1, I1, rx, q1⟩ => thn (hv pins s1 σ H1 _ I1 q1) fun w2 s2 ⟨y, H2, I2, ry, q2⟩ =>
  thn (hr pins s2 σ H2 _ I2 q2) fun ws s3 ⟨ps, H3, I3, rel, q3⟩ => ⟨(x, y) :: ps, H3, I3, .cons ⟨rx, ry⟩ rel, q3⟩)
structure M1 (X : Cx) (o : Expr) (m : Str) (apos : Pos) (e : Expr) (cpos : Pos) : Prop where
 base : attributeBase o m X.env (eval o X.env) = eval o X.env
 few : ((backTo cpos (starEach [e] X.env)).all (fun x => !x.1) && (backToKw cpos (keywordEach [] X.env)).all (fun x => x.1.isSome)
  && decide (([e] : List Expr).length + ([] : List Keyword).length + (if ([] : List Keyword).isEmpty then 0 else 1) < 30)) = true
 line : (apos.endLine == cpos.line) = true
 trees : backTo cpos (starEach [e] X.env) = [(false, eval e X.env)]
structure M2 (X : Cx) (o : Expr) (m : Str) (apos : Pos) (e f : Expr) (cpos : Pos) : Prop where
 base : attributeBase o m X.env (eval o X.env) = eval o X.env
 few : ((backTo cpos (starEach [e, f] X.env)).all (fun x => !x.1) && (backToKw cpos (keywordEach [] X.env)).all (fun x => x.1.isSome)
  && decide (([e, f] : List Expr).length + ([] : List Keyword).length + (if ([] : List Keyword).isEmpty then 0 else 1) < 30)) = true
 line : (apos.endLine == cpos.line) = true
 trees : backTo cpos (starEach [e, f] X.env) = [(false, eval e X.env), (false, eval f X.env)]
def IsD (H : Hp) (a : Addr) : Prop := (∃ kvs, Rd H a (.dK kvs)) \/ ∃ kvs, Rd H a (.dT kvs)
theorem zsK {X : Cx} {pins : List (Addr × Obj)} {σ : St} {H : Hp} {s : Shared} {a : Addr} (I : Inv X pins σ H s) (d : IsD H a) :
  s.TypeIs (.ref a) "dict" /\ (∀ b, Value.ref a = .ref b -> ∃ ob, s.heap.get? b = some ob /\ ob.dict = none) /\ (a == sysModules) = false := by
 rcases d with ⟨kvs, e⟩ | ⟨kvs, e⟩
 ·obtain ⟨_, hd, vs, _, dd⟩ := zjx I.hok e
  refine ⟨dd.typeIs, fun b q => ?_, hd⟩
  cases q
  obtain ⟨ob, _, _, h1, h2, _⟩ := dd
  exact ⟨ob, h1, h2.2.1⟩
 ·obtain ⟨_, hd, xs, _, dd⟩ := zju I.hok e
  refine ⟨dd.typeIs, fun b q => ?_, hd⟩
  cases q
  obtain ⟨ob, _, _, h1, h2, _⟩ := dd
  exact ⟨ob, h1, h2.2.1⟩
section
variable {X : Cx} {pins : List (Addr × Obj)} {σ : St} {H : Hp} {s : Shared} {a : Addr} {y d : V} {u r : Value} {o : Option V} {A : Around} {E : Value -> Shared -> Prop}
theorem zt0 {Q : Value -> Shared -> Prop} (hu : A.units + 1 < cLine) (I : Inv X pins σ H s) (g : zuc H a y o) (ry : RelV y u) (rd : RelV d r) (h : ∀ w' s', Inv X pins σ H s' -> RelV (o.getD d) w' -> Q w' s') :
  wpAny (model X.prog X.w) A (call (.builtin "dict.get") [.ref a, u, r]) Q E s := by
 rcases g with ⟨kvs, k, e, ey, l⟩ | ⟨kvs, k, b, e, ey, eb, l⟩
 ·subst ey
  obtain ⟨z, hd, vs, rel, dd⟩ := zjx I.hok e
  refine call_meetsIn PySem.F.slot_dict_get dd.typeIs PySem.F.entry_dict_get (PySem.F.args_dict_get_3 _ _ _) (meets_dict_get_default (zaS X.prog X.w) a (ziD ry) hd r) ⟨_, dd.mapOf, h _ _ (I.tok _) ?_⟩
  rw [l]
  exact (rel.val k).getD rd
 ·subst ey
  cases (show u = Value.ref b from ry)
  obtain ⟨z, hd, xs, rel, dd⟩ := zju I.hok e
  refine call_meetsIn PySem.F.slot_dict_get dd.typeIs PySem.F.entry_dict_get (PySem.F.args_dict_get_3 _ _ _) (meetsH_dict_get_default (tupleKind (zaS X.prog X.w)) a b hd r) ⟨tupleKind_room_in1 hu, k, xs, zdY I.hok eb, dd, h _ _ (I.tok _) ?_⟩
  rw [l]
  exact (rel.val k).getD rd
end
end L2
namespace L2
open PySem PySem.Spec PyProof.Rows
section
variable {κ : Type} [DecidableEq κ]
theorem zjv {p : κ × V} {r : List (κ × V)} {k : κ} (e : p.1 = k) : zch (p :: r) k = zch r k := by
 unfold zch
 rw [List.filter_cons, if_neg (by simp [e])]
theorem zjw {p : κ × V} {r : List (κ × V)} {k : κ} (e : ¬ p.1 = k) : zch (p :: r) k = p :: zch r k := by
 unfold zch
 rw [List.filter_cons, if_pos (by simp [e])]
end
end L2
namespace L2
open PySem PySem.Spec PyProof.Rows
end L2
namespace L2
open PySem PySem.Spec PyProof.Rows
end L2
namespace L2
open PySem PySem.Spec PyProof.Rows
end L2
namespace L2
open PySem PySem.Spec PyProof.Rows
section
variable {prog : Program} {w : World} {A : Around} {E : Value -> Shared -> Prop} {s : Shared} {K : Type} [DecidableEq K] {knd : PySem.KeyKind prog w K}
theorem zjy {d : Addr} {kvs : List (K × Value)} {ep : Nat} {Q : List Value -> Shared -> Prop} (hh : A.handled = none) (sy : (d == sysModules) = false) (hm : s.heap.DictAt knd d kvs ep) (hn : kvs.length <= 1000)
  (hQ : ∀ s' (acc : Array Value), (∀ b o, s.heap.get? b = some o -> s'.heap.get? b = some o) -> s'.gens = s.gens -> s'.drawn = s.drawn -> s'.os = s.os -> s.heap.objs.size <= s'.heap.objs.size -> ItemsOf (fun i v => ∃ k x, kvs[i]? = some (k, x) /\ knd.is k v = true) acc kvs.length -> Q acc.toList s') :
  wpAny (model prog w) A (collect (.ref d)) Q E s := by
 unfold collect
 refine wpAny_bind (wpAny_runValue (codeAny_builtin F.entry_proto_collect ?_))
 rw [Around.under_plainId F.plain_proto_collect _]
 show wpAny _ A.in1 (newList [] >>= fun l => again (.builtin "list.__iadd__" ⟨[l, .ref d], []⟩)) _ _ s
 refine wpAny_bind (wpAny_newObj_type ?_)
 refine wpAny_pure ⟨plainId_quiet F.plain_list_iadd _, codeAny_builtin F.entry_list_iadd ?_⟩
 rw [Around.under_plainId F.plain_list_iadd _]
 have dl := hm.lt_size
 have hm1 := hm.push { cls := .type "list", data := .seq ([] : List Value).toArray }
 have hSd : s.heap.objs.size ≠ d := Nat.ne_of_gt dl
 have h1 : Builtin.List.listSameRef (.ref s.heap.objs.size) (.ref d) = false := by simp [Builtin.List.listSameRef, hSd]
 show wpAny _ A.in1 (Builtin.List.listExtendWith (.ref s.heap.objs.size) (.ref d) (.ref s.heap.objs.size)) _ _ _
 unfold Builtin.List.listExtendWith
 refine wpAny_bind (wpAny_typeOf (s := { s with heap := s.heap.push { cls := .type "list", data := .seq ([] : List Value).toArray } }) hm1.dictOf.typeIs ?_)
 rw [if_neg (by rw [h1]; decide)]
 refine wpAny_bind (wpAny_pyIter_dict (s := { s with heap := s.heap.push { cls := .type "list", data := .seq ([] : List Value).toArray } }) sy hm1 ?_)
 refine wpAny_bind (wpAny_holding ?_)
 have I2 : s.heap.objs.size + 1 = (s.heap.push { cls := .type "list", data := .seq ([] : List Value).toArray }).objs.size := (Heap.size_push ..).symm
 have hm2 := hm1.push { cls := .type "dict_keyiterator", data := .fields #[.ref d, .int 0 0, .int kvs.length 0, .int ep 0] }
 unfold Builtin.List.listLengthHint
 refine wpAny_bind (wpAny_specialOf hm2.dictOf.typeIs F.slot_dict_len.lookup ?_)
 generalize hid : ("dict.__len__" : String) = id0
 wp_delta
 rw [show splitId id0 = some ("dict", "__len__") from by subst hid; decide +kernel]
 subst hid
 refine wpAny_bind (wpAny_isInstance (b := true) hm2.dictOf.typeIs (by rw [isSubtype_type]; kernel_rfl) ?_)
 rw [if_neg (by decide)]
 dsimp only
 rw [if_pos (by decide +kernel)]
 refine wpAny_bind (wpAny_typeOf hm2.dictOf.typeIs ?_)
 refine wpAny_pure ?_
 rw [if_pos (by decide +kernel)]
 refine wpAny_bind (wpAny_rule ?_)
 unfold Builtin.List.listTouch
 have hS0 : ((s.heap.push { cls := .type "list", data := .seq ([] : List Value).toArray }).push { cls := .type "dict_keyiterator", data := .fields #[.ref d, .int 0 0, .int kvs.length 0, .int ep 0] }).get? s.heap.objs.size = some (seqObj "list" #[] 0) := Heap.get?_push_of_some _ (Heap.get?_push_size _ rfl)
 refine wpAny_bind (wpAny_bind (listUpdate_at hS0 rfl ?_ (Nat.zero_le _) (by show 1 <= sizeLine + 1; omega)))
 have hS1 := get?_update_seq hS0 (·.push .none)
 refine listUpdate_at hS1 rfl ?_ (by show 1 <= sizeLine; rw [sizeLine_eq]; decide) (by show 0 <= sizeLine + 1; omega)
 have hS2 := get?_update_seq hS1 (·.pop)
 have up : ∀ b o, b ≠ s.heap.objs.size -> ((s.heap.push { cls := .type "list", data := .seq ([] : List Value).toArray }).push { cls := .type "dict_keyiterator", data := .fields #[.ref d, .int 0 0, .int kvs.length 0, .int ep 0] }).get? b = some o ->
   ((((s.heap.push { cls := .type "list", data := .seq ([] : List Value).toArray }).push { cls := .type "dict_keyiterator", data := .fields #[.ref d, .int 0 0, .int kvs.length 0, .int ep 0] }).update s.heap.objs.size (Obj.mapSeq fun x => x.push Value.none)).update s.heap.objs.size (Obj.mapSeq fun x => x.pop)).get? b = some o := fun b o hb e =>
  (((Heap.SameBut.update ..).2 b hb).trans ((Heap.SameBut.update ..).2 b hb)).trans e
 have hI : ((s.heap.push { cls := .type "list", data := .seq ([] : List Value).toArray }).push { cls := .type "dict_keyiterator", data := .fields #[.ref d, .int 0 0, .int kvs.length 0, .int ep 0] }).get? (s.heap.push { cls := .type "list", data := .seq ([] : List Value).toArray }).objs.size = some { cls := .type "dict_keyiterator", data := .fields #[.ref d, .int 0 0, .int kvs.length 0, .int ep 0] } := Heap.get?_push_size _ rfl
 have neI : (s.heap.push { cls := .type "list", data := .seq ([] : List Value).toArray }).objs.size ≠ s.heap.objs.size := by rw [<- I2]; omega
 have old : ∀ b o, s.heap.get? b = some o -> ((s.heap.push { cls := .type "list", data := .seq ([] : List Value).toArray }).push { cls := .type "dict_keyiterator", data := .fields #[.ref d, .int 0 0, .int kvs.length 0, .int ep 0] }).get? b = some o := fun b o e => Heap.get?_push_of_some _ (Heap.get?_push_of_some _ e)
 generalize ((((s.heap.push { cls := .type "list", data := .seq ([] : List Value).toArray }).push { cls := .type "dict_keyiterator", data := .fields #[.ref d, .int 0 0, .int kvs.length 0, .int ep 0] }).update s.heap.objs.size (Obj.mapSeq fun x => x.push Value.none)).update s.heap.objs.size (Obj.mapSeq fun x => x.pop)) = h5 at hS2 up ⊢
 have st : h5.IsKeyIter (s.heap.push { cls := .type "list", data := .seq ([] : List Value).toArray }).objs.size d 0 kvs.length ep := ⟨_, up _ _ neI hI, rfl, rfl⟩
 have da : h5.DictAt knd d kvs ep := hm2.at' fun o e => up d o (Ne.symm hSd) e
 generalize hIa : (s.heap.push { cls := .type "list", data := .seq ([] : List Value).toArray }).objs.size = Ia at st neI hI ⊢
 have ia : Ia = s.heap.objs.size + 1 := by rw [<- hIa]; exact I2.symm
 have ne : d ≠ Ia := by rw [ia]; exact Nat.ne_of_lt (Nat.lt_succ_of_lt dl)
 have nS : s.heap.objs.size ∉ [Ia, d] := fun h => by
  rcases List.mem_cons.mp h with c | c
  ·exact neI c.symm
  ·exact hSd (List.mem_singleton.mp c)
 have W := (Walks.dictKeys (knd := knd) (A := A.in1) hh Ia d ne kvs ep).toS
 refine wpAny_pure ⟨plainId_quiet F.plain_extend_loop _, codeAny_extend_loopS W (by rw [sizeLine_eq]; omega) s.heap.objs.size nS _ kvs.length 0 _ _ _ rfl (Nat.zero_le _) ⟨st, da⟩ hS2 (ItemsOf.nil _) fun s' acc' c' mv hS' hacc => ?_⟩
 show wpAny _ A (load s.heap.objs.size >>= _) _ _ s'
 refine wpAny_bind (wpAny_load hS' ?_)
 refine wpAny_pure (hQ s' acc' (fun b o e => ?_) mv.gens mv.drawn mv.os (Nat.le_of_lt (Heap.lt_size hS')) hacc)
 have lt := Heap.lt_size e
 have b1 : b ≠ s.heap.objs.size := Nat.ne_of_lt lt
 have b2 : b ≠ Ia := by rw [ia]; exact Nat.ne_of_lt (Nat.lt_succ_of_lt lt)
 refine mv.heap b o (fun h => ?_) (up b o b1 (old b o e))
 rcases List.mem_cons.mp h with c | c
 ·exact b1 c
 ·exact b2 (List.mem_singleton.mp c)
end
end L2
namespace L2
open PySem PySem.Spec PyProof.Rows
theorem zhB : ∀ {us : List Value} {ns : List Int}, IntsAre us ns -> Vals (ns.map V.int) us
 | _, _, .nil => .nil
 | _, _, .cons _ _ t => .cons ⟨_, rfl⟩ (zhB t)
theorem zjL : ∀ {xs : List V} {us : List Value}, xs.length = us.length -> (∀ (j : Nat) x u, xs[j]? = some x -> us[j]? = some u -> RelV x u) -> Vals xs us
 | [], [], _, _ => .nil
 | x :: xs, u :: us, l, h => .cons (h 0 x u rfl rfl) (zjL (by simpa using l) fun j y v e1 e2 => h (j + 1) y v (by simpa using e1) (by simpa using e2))
end L2
namespace L2
open PySem PySem.Spec PyProof.Rows
end L2
namespace L2
open PySem PySem.Spec PyProof.Rows
end L2
namespace PySem
open Spec
section
variable {prog : Program} {w : World} {A : Around} {E : Value -> Shared -> Prop} {s : Shared} {K : Type} [DecidableEq K] {knd : HeapKind prog w K}
def zd4 (xs : List (K × Addr × Value)) (k : K) : List (K × Addr × Value) := xs.filter fun x => decide (x.1 ≠ k)
theorem zgZ {k : K} {p : Addr × Value} : ∀ {xs : List (K × Addr × Value)} {j : Nat}, (xs.map (·.1)).Nodup -> xs[j]? = some (k, p) -> xs.eraseIdx j = zd4 xs k
 | [], j, _, h => by simp at h
 | x :: xs, 0, hn, h => by
  have hx : x = (k, p) := by simpa using h
  subst hx
  rw [List.map_cons, List.nodup_cons] at hn
  have hf : zd4 ((k, p) :: xs) k = zd4 xs k := by simp [zd4]
  rw [hf]
  show xs = _
  unfold zd4
  rw [List.filter_eq_self.mpr]
  intro y hy
  refine decide_eq_true fun e => hn.1 ?_
  show k ∈ _
  rw [<- e]
  exact List.mem_map_of_mem hy
 | x :: xs, j + 1, hn, h => by
  rw [List.map_cons, List.nodup_cons] at hn
  have h' : xs[j]? = some (k, p) := by simpa using h
  have hne : x.1 ≠ k := fun e => hn.1 (by rw [e]; exact List.mem_map.mpr ⟨(k, p), List.mem_of_getElem? h', rfl⟩)
  have hf : zd4 (x :: xs) k = x :: zd4 xs k := by simp [zd4, hne]
  rw [List.eraseIdx_cons_succ, zgZ hn.2 h', hf]
theorem zjt {α β : Type} (f : α -> β) : ∀ (l : List α) (j : Nat), (l.map f).eraseIdx j = (l.eraseIdx j).map f
 | [], _ => rfl
 | _ :: _, 0 => rfl
 | x :: l, j + 1 => by rw [List.map_cons, List.eraseIdx_cons_succ, List.eraseIdx_cons_succ, List.map_cons, zjt f l j]
theorem zop {d a : Addr} {xs : List (K × Addr × Value)} {k : K} {Q : Option DictEntry -> Shared -> Prop} (hu : knd.room A) (hkey : knd.is s.heap k a) (hm : s.heap.DictOfH knd d xs) (there : ∃ p, (k, p) ∈ xs)
  (hQ : ∀ e h', h'.DictOfH knd d (zd4 xs k) -> Heap.SameBut d s.heap h' -> Q (some e) { s with heap := h', toks := s.toks + knd.draws k }) (hsz : xs.length <= sizeLine) :
  wpAny (model prog w) A (Builtin.Dict.takeOut d (.ref a)) Q E s := by
 obtain ⟨o, es, ep, ho, hc, hd, he, his, hn⟩ := hm
 unfold Builtin.Dict.takeOut
 try with_reducible refine wpAny_holding ?_
 refine wpAny_bind (knd.pyHash hu hkey ?_)
 refine wpAny_bind (wpAny_dictFind_heap (s := { s with toks := s.toks + knd.draws k }) hu hkey ho hd he his hn ?_ ?_)
 ·intro hno
  obtain ⟨p, hp⟩ := there
  obtain ⟨j, hj⟩ := List.getElem?_of_mem hp
  exact absurd hj (hno j p)
 ·intro j p hj
  refine wpAny_bind (wpAny_dictEntries (s := { s with toks := s.toks + knd.draws k }) ho hd ?_)
  rw [entry_at he j, hj]
  refine wpAny_bind (wpAny_updateDictKeys (hz := by have e := size_of_entries he; omega) (s := { s with toks := s.toks + knd.draws k }) ho hd (wpAny_pure (hQ _ _ ⟨_, _, ep + 1, Heap.get?_update_self _ ho (Obj.isFreed_of_dict (Obj.data_mapDictKeys hd _)),
   hc.mapDictKeys _, Obj.data_mapDictKeys hd _, ?_, ?_, ?_⟩ (Heap.SameBut.update ..))))
  ·rw [<- zgZ hn hj]
   have : (es.eraseIdxIfInBounds j).toList = es.toList.eraseIdx j := by
    obtain ⟨l⟩ := es
    simp
   rw [this, he, zjt]
  ·intro x hx
   exact knd.keeps (his x (List.mem_filter.mp hx).1) ho hd (Heap.SameBut.update ..)
  ·exact List.Nodup.sublist (List.Sublist.map _ List.filter_sublist) hn
theorem zpl {d a : Addr} {xs : List (K × Addr × Value)} {k : K} {Q : Unit -> Shared -> Prop} (hu : knd.room A.in1) (hkey : knd.is s.heap k a) (hm : s.heap.DictOfH knd d xs) (there : ∃ p, (k, p) ∈ xs)
  (hQ : ∀ h', h'.DictOfH knd d (zd4 xs k) -> Heap.SameBut d s.heap h' -> Q () { s with heap := h', toks := s.toks + knd.draws k }) (hsz : xs.length <= sizeLine) :
  wpAny (model prog w) A (delItem (.ref d) (.ref a)) Q E s := by
 refine wpAny_delItem_slot hm.typeIs (by decide) PySem.F.slot_dict_delitem (wpAny_call_entry PySem.F.slot_dict_delitem hm.typeIs PySem.F.entry_dict_delitem ?_ (PySem.F.args_dict_delitem_2 _ _))
 unfold Builtin.«dict.__delitem__»
 refine wpAny_bind ?_
 unfold Builtin.Dict.dictSlotArgs
 refine wpAny_bind (wpAny_notOrdered_dict hm.typeIs ?_)
 show wpAny _ _ (pure (Value.ref d, Value.ref a)) _ _ s
 refine wpAny_pure ?_
 show wpAny _ _ (Builtin.Dict.takeOut d (.ref a) >>= _) _ _ s
 refine wpAny_bind (zop hu hkey hm there (fun e h' hm' hs' => ?_) hsz)
 exact wpAny_bind (wpAny_letGo (wpAny_pure ⟨.none, rfl, hQ h' hm' hs'⟩))
end
end PySem
namespace L2
open PySem PySem.Spec PyProof.Rows
theorem KT.drop {H : Hp} {kvs : List (List Key × V)} {xs : List (List Key × Addr × Value)} (r : KT H kvs xs) (k : List Key) : KT H (zch kvs k) (zd4 xs k) := by
 induction r with
 | nil => exact .nil
 | @cons p q ps qs hq t ih =>
  by_cases e : p.1 = k
  ·have e2 : q.1 = k := by rw [<- hq.1]; exact e
   have d1 : zch (p :: ps) k = zch ps k := by simp [zch, e]
   have d2 : zd4 (q :: qs) k = zd4 qs k := by simp [zd4, e2]
   rw [d1, d2]; exact ih
  ·have e2 : ¬ q.1 = k := by rw [<- hq.1]; exact e
   have d1 : zch (p :: ps) k = p :: zch ps k := by simp [zch, e]
   have d2 : zd4 (q :: qs) k = q :: zd4 qs k := by simp [zd4, e2]
   rw [d1, d2]; exact .cons hq ih
section
variable {X : Cx} {pins : List (Addr × Obj)} {σ : St} {H : Hp} {s : Shared} {a b : Addr} {kvs : List (List Key × V)} {k : List Key} {A : Around} {E : Value -> Shared -> Prop}
theorem zt1 {Q : Unit -> Shared -> Prop} (hu : A.units + 1 < cLine) (I : Inv X pins σ H s) (e : H a = some (.dT kvs)) (eb : TAt H b (k.map kV)) (l : (zhC kvs k).isSome = true) (h : ∀ s', Inv X pins σ (upd H a (.dT (zch kvs k))) s' -> Q () s') :
  wpAny (model X.prog X.w) A (delItem (.ref a) (.ref b)) Q E s := by
 obtain ⟨z, hd, xs, rel, dd⟩ := zrj I.hok e
 have hz : xs.length <= sizeLine := by rw [<- Paired.length rel]; exact z
 have there : ∃ p, (k, p) ∈ xs := by
  have hv := rel.val k
  obtain ⟨v, ev⟩ := Option.isSome_iff_exists.mp l
  rw [ev] at hv
  obtain ⟨w', hw, _⟩ := zl6.some_of (v := v) (o := (atKey xs k).map (·.2)) hv
  obtain ⟨p, hp, _⟩ := Option.map_eq_some_iff.mp hw
  unfold atKey at hp
  obtain ⟨x, hx, ex⟩ := Option.map_eq_some_iff.mp hp
  have h0 := List.find?_some hx
  have h1 : x.1 = k := of_decide_eq_true h0
  exact ⟨x.2, by rw [<- h1]; exact List.mem_of_find?_eq_some hx⟩
 refine zpl (tupleKind_room_in1 hu) (zdY I.hok eb) dd there (fun h' dd' hs => h _ ?_) hz
 obtain ⟨q, es, ep, hq, h2, h3, h4, _, h5⟩ := dd'
 refine zd6 I (by rw [e]; exact True.intro) hs ⟨q, hq⟩ ⟨Nat.le_trans (zle kvs k) z, hd, _, (rel.drop k).keeps fun c ys ec => ?_, q, es, ep, hq, h2, h3, h4, h5⟩
 exact ec.upd (fun _ z => zhl z e (fun z => nomatch z)) fun _ _ z => zhl z e (fun z => nomatch z)
end
section
variable {X : Cx} {o i : Expr} {td ty : TE} {pos tpos : Pos}
variable {pins : List (Addr × Obj)} {σ : St} {H : Hp} {s : Shared} {a : Addr}
theorem Inv.kt (I : Inv X pins σ H s) (e : H a = some (.dK [])) : Inv X pins σ (upd H a (.dT [])) s := by
 obtain ⟨z, hd, vs, rel, dd⟩ := zpk I.hok e
 have ev : vs = [] := by cases rel; rfl
 subst ev
 obtain ⟨q, es, ep, hq, h2, h3, h4, h5, h6⟩ := dd
 have := zd6 (t' := s.toks) I (by rw [e]; exact True.intro) (Heap.SameBut.refl a s.heap) ⟨q, hq⟩ (ob := .dT []) ⟨Nat.zero_le _, hd, [], .nil, q, es, ep, hq, h2, h3, ?_, ?_⟩
 ·exact this
 ·exact List.eq_nil_of_length_eq_zero (by have := h5.length; simpa using this)
 ·exact List.nodup_nil
end
end L2
namespace PySem
open Spec
section
variable {prog : Program} {w : World} {A : Around} {E : Value -> Shared -> Prop} {s : Shared}
structure DEs (h : Heap) (d : Addr) (es : Array DictEntry) (ep : Nat) : Prop where
 ex : ∃ o, h.get? d = some o /\ o.ExactDict /\ o.data = .dict es ep
theorem DEs.typ {d : Addr} {es : Array DictEntry} {ep : Nat} (x : DEs s.heap d es ep) : s.TypeIs (.ref d) "dict" := by
 obtain ⟨o, ho, hc, _⟩ := x.ex
 exact ⟨o, ho, hc.1⟩
theorem zsI {d : Addr} {es : Array DictEntry} {ep : Nat} {Q : Value -> Shared -> Prop} (hd : (d == sysModules) = false) (x : DEs s.heap d es ep)
  (hQ : Q (.ref s.heap.objs.size) { s with heap := s.heap.push { cls := .type "dict_keyiterator", data := .fields #[.ref d, .int 0 0, .int es.size 0, .int ep 0] } }) : wpAny (model prog w) A (pyIter (.ref d)) Q E s := by
 obtain ⟨o, ho, hc, hdat⟩ := x.ex
 have hT := x.typ
 refine wpAny_pyIter_slot hT F.slot_dict_iter (wpAny_call_entry F.slot_dict_iter hT F.entry_dict_iter ?_ (F.args_dict_iter_1 _))
 unfold Builtin.«dict.__iter__» Builtin.Dict.dictSlotNone
 refine wpAny_bind (wpAny_bind (wpAny_notOrdered_dict hT ?_))
 show wpAny _ _ (pure (Value.ref d)) _ _ s
 refine wpAny_pure ?_
 show wpAny _ _ (Builtin.Dict.showsAll d >>= _) _ _ s
 unfold Builtin.Dict.showsAll
 rw [if_neg (by rw [hd]; exact Bool.false_ne_true)]
 refine wpAny_bind (wpAny_pure (wpAny_bind (wpAny_dictEntries ho hdat (wpAny_bind (wpAny_dictEpoch ho hdat ?_)))))
 refine wpAny_bind (wpAny_newObj_type (wpAny_pure ⟨_, rfl, "dict_keyiterator", _, ⟨_, Heap.get?_push_size _ rfl, rfl⟩, F.slot_dict_keyiterator_next.lookup, ?_⟩))
 simpa [rawInt] using hQ
theorem zsu {it d : Addr} {i ep : Nat} {es : Array DictEntry} {Q : Option Value -> Shared -> Prop} (hit : s.heap.IsKeyIter it d i es.size ep) (x : DEs s.heap d es ep) (hi : i < es.size)
  (hQ : ∀ h', h'.IsKeyIter it d (i + 1) es.size ep -> Heap.SameBut it s.heap h' -> Q (some es[i].key) { s with heap := h' }) : wpAny (model prog w) A (pyNext (.ref it)) Q E s := by
 obtain ⟨o, ho, hc, hd⟩ := id hit
 obtain ⟨od, hod, hcd, hdd⟩ := x.ex
 unfold pyNext
 refine wpAny_bind (wpAny_attempt (wpAny_callSpecial?_slot (name := Str.ofString "__next__") hit.typeIs F.slot_dict_keyiterator_next (wpAny_call_entry F.slot_dict_keyiterator_next hit.typeIs F.entry_dict_keyiterator_next ?_ (F.args_dict_keyiterator_next_1 _))))
 refine wpAny_bind (wpAny_pure (wpAny_bind (wpAny_bind ?_)))
 first | refine wpAny_bind (wpAny_typeNameOfWhole_keyiter hit.typeIs (wpAny_pure ?_)) | refine wpAny_bind (wpAny_typeNameOf_keyiter hit.typeIs (wpAny_pure ?_))
 refine wpAny_bind (wpAny_fieldsOf ho hd ?_)
 have hown : Builtin.Dict_items.ownsTuple "dict_keyiterator" = false := by decide
 simp only [hown, Bool.false_eq_true, if_false]
 show wpAny _ _ (if (Value.ref d == Value.none) = true then _ else _) _ _ s
 rw [if_neg (show ¬ ((Value.ref d == Value.none) = true) from Bool.false_ne_true)]
 refine wpAny_bind (wpAny_pure (wpAny_bind (wpAny_dictEntries hod hdd ?_)))
 rw [if_neg (by simp)]
 refine wpAny_bind (wpAny_pure (wpAny_bind (wpAny_dictEpoch hod hdd ?_)))
 rw [if_neg (by simp)]
 refine wpAny_pure ?_
 simp only [show ¬ ((i : Int) < 0) from by omega, if_false, Int.toNat_natCast, Array.getElem?_eq_getElem hi]
 refine wpAny_bind ?_
 first | refine wpAny_bind (wpAny_typeNameOfWhole_keyiter hit.typeIs (wpAny_pure ?_)) | refine wpAny_bind (wpAny_typeNameOf_keyiter hit.typeIs (wpAny_pure ?_))
 refine wpAny_bind (wpAny_isOneOf_keyiter hit.typeIs ?_)
 show wpAny _ _ (setField (.ref it) 1 (rawInt ((i : Int) + 1)) >>= _) _ _ s
 refine wpAny_bind (wpAny_setField ho hd (by simp) ?_)
 have hit' : (s.heap.update it (Obj.mapFields (·.setIfInBounds 1 (rawInt ((i : Int) + 1))))).IsKeyIter it d (i + 1) es.size ep :=
  ⟨_, Heap.get?_update_self _ ho (Obj.isFreed_of_fields (Obj.data_mapFields hd _)), (Obj.cls_mapFields ..).trans hc, by rw [Obj.data_mapFields hd]; simp [rawInt]⟩
 refine wpAny_bind (wpAny_holding (wpAny_bind (wpAny_isOneOf_keyiter (s := { s with heap := s.heap.update it (Obj.mapFields (·.setIfInBounds 1 (rawInt ((i : Int) + 1)))) }) hit'.typeIs ?_)))
 show wpAny _ _ (pure es[i].key) _ _ _
 exact wpAny_pure (wpAny_pure ⟨_, rfl, wpAny_pure (hQ _ hit' (Heap.SameBut.update ..))⟩)
theorem zvT {it d : Addr} {i ep : Nat} {es : Array DictEntry} {Q : Option Value -> Shared -> Prop} (hh : A.handled = none) (hit : s.heap.IsKeyIter it d i es.size ep) (x : DEs s.heap d es ep) (hge : es.size <= i)
  (hQ : ∀ h', Heap.ExtBut it s.heap h' -> Q none { s with heap := h' }) : wpAny (model prog w) A (pyNext (.ref it)) Q E s := by
 obtain ⟨o, ho, hc, hd⟩ := id hit
 obtain ⟨od, hod, hcd, hdd⟩ := x.ex
 unfold pyNext
 refine wpAny_bind (wpAny_attempt (wpAny_callSpecial?_slot (name := Str.ofString "__next__") hit.typeIs F.slot_dict_keyiterator_next (wpAny_call_entry F.slot_dict_keyiterator_next hit.typeIs F.entry_dict_keyiterator_next ?_ (F.args_dict_keyiterator_next_1 _))))
 refine wpAny_bind (wpAny_pure (wpAny_bind (wpAny_bind ?_)))
 first | refine wpAny_bind (wpAny_typeNameOfWhole_keyiter hit.typeIs (wpAny_pure ?_)) | refine wpAny_bind (wpAny_typeNameOf_keyiter hit.typeIs (wpAny_pure ?_))
 refine wpAny_bind (wpAny_fieldsOf ho hd ?_)
 have hown : Builtin.Dict_items.ownsTuple "dict_keyiterator" = false := by decide
 simp only [hown, Bool.false_eq_true, if_false]
 show wpAny _ _ (if (Value.ref d == Value.none) = true then _ else _) _ _ s
 rw [if_neg (show ¬ ((Value.ref d == Value.none) = true) from Bool.false_ne_true)]
 refine wpAny_bind (wpAny_pure (wpAny_bind (wpAny_dictEntries hod hdd ?_)))
 rw [if_neg (by simp)]
 refine wpAny_bind (wpAny_pure (wpAny_bind (wpAny_dictEpoch hod hdd ?_)))
 rw [if_neg (by simp)]
 refine wpAny_pure ?_
 simp only [show ¬ ((i : Int) < 0) from by omega, if_false, Int.toNat_natCast, Array.getElem?_eq_none hge]
 refine wpAny_bind ?_
 first | refine wpAny_bind (wpAny_typeNameOfWhole_keyiter hit.typeIs (wpAny_pure ?_)) | refine wpAny_bind (wpAny_typeNameOf_keyiter hit.typeIs (wpAny_pure ?_))
 show wpAny _ _ (setField (.ref it) 0 .none >>= _) _ _ s
 refine wpAny_bind (wpAny_setField ho hd (by simp) ?_)
 show wpAny _ _ (newExc (.type "StopIteration") [] >>= _) _ _ _
 refine wpAny_bind ?_
 simp only [newExc, newTuple]
 refine wpAny_bind (wpAny_newObj_type ?_ (by size_fits))
 refine wpAny_bind (m := firstArgMember _ _) (wpAny_of_eq (a := Value.none) (by first | rfl | (simp only [firstArgMember]; rfl)) ?_)
 refine wpAny_newObj_type ?_ (by size_fits)
 simp only [raiseNew]
 refine wpAny_bind (wpAny_handled ?_)
 rw [show A.in1.handled = none from hh]
 refine wpAny_bind (wpAny_pure (wpAny_throw ?_))
 refine wpAny_bind (wpAny_isInstance (T := "StopIteration") (b := true) ⟨_, Heap.get?_push_size _ rfl, rfl⟩ isSubtype_stop ?_)
 exact wpAny_pure (hQ _ (((Heap.SameBut.update ..).extBut.push _).push _))
end
end PySem
namespace L2
open PySem PySem.Spec PyProof.Rows
def zvH (d : Addr) (o : Obj) (kvs : List (List Key × V)) : It :=
 ⟨fun i H => H d = some (.frz o (.dT kvs)) /\ i < kvs.length, fun i H x H' => H' = H /\ ∃ k v b, kvs[i]? = some (k, v) /\ x = .ref b /\ TAt H b (k.map kV), fun i H => H d = some (.frz o (.dT kvs)) /\ kvs.length <= i⟩
theorem zkg {P : Program} {w : World} {H : Hp} {h : Heap} {d : Addr} {o : Obj} {kvs : List (List Key × V)} {es : Array DictEntry} {ep : Nat} (ok : zbV P w H h d (.frz o (.dT kvs))) (hd : o.data = .dict es ep) :
  ∃ xs, KT H kvs xs /\ DEs h d es ep /\ es.toList = xs.map (entryOfKey (tupleKind (zaS P w))) /\ (d == sysModules) = false := by
 obtain ⟨e, _, sy, xs, kt, o', es', ep', e', r1, r2, r3, r4⟩ := ok
 rw [e] at e'
 cases e'
 rw [hd] at r2
 cases r2
 exact ⟨xs, kt, ⟨o, e, r1, hd⟩, r3, sy⟩
theorem zls {P : Program} {w : World} {K : PySem.W.Frag} {tg : Expr} {o : Obj} {es : Array DictEntry} {ep : Nat} {kvs : List (List Key × V)} (d it : Addr) (hdat : o.data = .dict es ep) :
  Turn P w K tg (zvH d o kvs) [it] it (fun i h => h.IsKeyIter it d i es.size ep) where
 mem := by simp
 obj := fun i h st b hb => by
  have e : b = it := by simpa using hb
  subst e
  obtain ⟨o, e, c, d⟩ := st
  exact ⟨o, e, fun v z => by rw [d] at z; cases z⟩
 keep := fun i h h' st k => st.at fun o e => k it (by simp) o e
 item := by
  intro X hP hw hK hc i pins s σ H E I hf st hg
  subst hP hw hK
  obtain ⟨hd, hi⟩ := hg
  obtain ⟨xs, kt, da, he, _⟩ := zkg (I.hok d _ hd) hdat
  have hl : kvs.length = xs.length := Paired.length kt
  have hsz : es.size = xs.length := size_of_entries he
  obtain ⟨⟨k', b, v'⟩, ev, rk, rb, rv⟩ := zeh kt (List.getElem?_eq_getElem hi)
  obtain ⟨f0, f1, f2, f3, f4, f5⟩ := hf it (by simp)
  have hi' : i < es.size := by omega
  have hk : es[i].key = .ref b := by
   have := entry_at he i
   rw [ev, Array.getElem?_eq_getElem hi'] at this
   simp only [Option.map_some, Option.some.injEq] at this
   rw [this]
   rfl
  refine zsu st da hi' fun h' st2 sb => ?_
  have I1 : Inv X pins σ H { s with heap := h' } := I.turned (t' := s.toks) (fun b o hb e => (sb.2 b hb).trans e) f0 f1 f3 f4 f5
  obtain ⟨o, e, c, dd⟩ := id st2
  rw [hk]
  exact ⟨.ref b, rfl, zny (s := { s with heap := h' }) e c dd (by decide) ⟨.ref b, H, I1, rfl, ⟨rfl, kvs[i].1, kvs[i].2, b, List.getElem?_eq_getElem hi, rfl, rb⟩, st2, fun b hb => (hf b hb).1⟩⟩
 done := by
  intro X hP hw hK hc i pins s σ H E I hf st hg
  subst hP hw hK
  obtain ⟨hd, hi⟩ := hg
  obtain ⟨xs, kt, da, he, _⟩ := zkg (I.hok d _ hd) hdat
  have hl : kvs.length = xs.length := Paired.length kt
  have hsz : es.size = xs.length := size_of_entries he
  obtain ⟨f0, f1, f2, f3, f4, f5⟩ := hf it (by simp)
  exact zvT (I.ok.hd hc) st da (by omega) fun h' eb => ⟨rfl, I.turned (t' := s.toks) (fun b o hb e => eb b o hb e) f0 f1 f3 f4 f5⟩
 self := fun _ _ _ _ _ st h => wpAny_pyIter_keyiter st h
end L2
namespace L2
open PySem PySem.Spec PyProof.Rows
theorem zp4 {P : Program} {w : World} {H : Hp} {h : Heap} {a : Addr} (ok : HOk P w H h) (e : Rd H a (.dK [])) : (a == sysModules) = false /\ h.DictOfH (tupleKind (zaS P w)) a [] := by
 obtain ⟨z, hd, vs, rel, dd⟩ := zjx ok e
 have ev : vs = [] := by cases rel; rfl
 subst ev
 obtain ⟨q, es, ep, hq, h2, h3, h4, h5, h6⟩ := dd
 exact ⟨hd, q, es, ep, hq, h2, h3, List.eq_nil_of_length_eq_zero (by have := h5.length; simpa using this), (fun x hx => nomatch hx), List.nodup_nil⟩
theorem znJ {P : Program} {w : World} {H : Hp} {h : Heap} {a : Addr} (ok : HOk P w H h) (e : Rd H a (.dT [])) : (a == sysModules) = false /\ h.DictOf (zaS P w) a [] := by
 obtain ⟨z, hd, xs, rel, dd⟩ := zju ok e
 have ev : xs = [] := by cases rel; rfl
 subst ev
 obtain ⟨q, es, ep, hq, h2, h3, h4, h5, h6⟩ := dd
 have he : es = #[] := by
  apply Array.ext'
  rw [h4]; rfl
 subst he
 exact ⟨hd, q, #[], ep, hq, h2, h3, fun e he => by simp at he, .nil, List.nodup_nil⟩
def DG (H : Hp) (a : Addr) (y : V) (r : Option V) : Prop :=
 zuc H a y r \/ (r = none /\ Rd H a (.dK []) /\ ∃ (b : Addr) (k : List Key), y = .ref b /\ TAt H b (k.map kV)) \/ (r = none /\ Rd H a (.dT []) /\ ∃ k : Key, y = kV k)
section
variable {X : Cx} {pins : List (Addr × Obj)} {σ : St} {H : Hp} {s : Shared} {a : Addr} {y v d : V} {u r : Value} {o : Option V} {A : Around} {E : Value -> Shared -> Prop}
theorem zvv {Q : Value -> Shared -> Prop} (hu : A.units + 1 < cLine) (I : Inv X pins σ H s) (g : DG H a y o) (ry : RelV y u) (h : ∀ s', Inv X pins σ H s' -> Q (.bool o.isSome) s') :
  wpAny (model X.prog X.w) A (compareOp .In u (.ref a)) Q E s := by
 rcases g with g | ⟨rfl, e, b, k, rfl, eb⟩ | ⟨rfl, e, k, rfl⟩
 ·exact zwC hu I g ry h
 ·cases (show u = Value.ref b from ry)
  obtain ⟨hd, dd⟩ := zp4 I.hok e
  exact wpAny_in_heap (tupleKind_room_in1 hu) (zdY I.hok eb) hd dd (h _ (I.tok _))
 ·obtain ⟨hd, dd⟩ := znJ I.hok e
  exact wpAny_in_of (ziD ry) hd dd.mapOf (h _ (I.tok _))
theorem zrm {Q : Value -> Shared -> Prop} (hu : A.units + 1 < cLine) (I : Inv X pins σ H s) (g : DG H a y o) (ry : RelV y u) (rd : RelV d r) (h : ∀ w' s', Inv X pins σ H s' -> RelV (o.getD d) w' -> Q w' s') :
  wpAny (model X.prog X.w) A (call (.builtin "dict.get") [.ref a, u, r]) Q E s := by
 rcases g with g | ⟨rfl, e, b, k, rfl, eb⟩ | ⟨rfl, e, k, rfl⟩
 ·exact zt0 hu I g ry rd h
 ·cases (show u = Value.ref b from ry)
  obtain ⟨hd, dd⟩ := zp4 I.hok e
  exact call_meetsIn PySem.F.slot_dict_get dd.typeIs PySem.F.entry_dict_get (PySem.F.args_dict_get_3 _ _ _) (meetsH_dict_get_default (tupleKind (zaS X.prog X.w)) a b hd r) ⟨tupleKind_room_in1 hu, k, [], zdY I.hok eb, dd, h _ _ (I.tok _) rd⟩
 ·obtain ⟨hd, dd⟩ := znJ I.hok e
  exact call_meetsIn PySem.F.slot_dict_get dd.typeIs PySem.F.entry_dict_get (PySem.F.args_dict_get_3 _ _ _) (meets_dict_get_default (zaS X.prog X.w) a (ziD ry) hd r) ⟨_, dd.mapOf, h _ _ (I.tok _) rd⟩
def DP (H : Hp) (a : Addr) (y v : V) (H' : Hp) : Prop :=
 zof H a y v H' \/ (∃ (k : List Key) (b : Addr), H a = some (.dK []) /\ y = .ref b /\ TAt H b (k.map kV) /\ H' = upd H a (.dT [(k, v)])) \/ ∃ k : Key, H a = some (.dT []) /\ y = kV k /\ H' = upd H a (.dK [(k, v)])
theorem Inv.tk (I : Inv X pins σ H s) (e : H a = some (.dT [])) : Inv X pins σ (upd H a (.dK [])) s := by
 obtain ⟨hd, dd⟩ := znJ I.hok (.inl e)
 obtain ⟨q, es, ep, hq, rest⟩ := id dd
 exact zd6 (t' := s.toks) I (by rw [e]; exact True.intro) (Heap.SameBut.refl a s.heap) ⟨q, hq⟩ (ob := .dK []) ⟨Nat.zero_le _, hd, [], .nil, dd⟩
theorem ztY {H' : Hp} {Q : Unit -> Shared -> Prop} (hu : A.units + 1 < cLine) (I : Inv X pins σ H s) (g : DP H a y v H') (ry : RelV y u) (rv : RelV v r) (h : ∀ s', Inv X pins σ H' s' -> Q () s') :
  wpAny (model X.prog X.w) A (setItem (.ref a) u r) Q E s := by
 rcases g with g | ⟨k, b, e, rfl, eb, rfl⟩ | ⟨k, e, rfl, rfl⟩
 ·exact zg5 hu I g ry rv h
 ·have eb' : TAt (upd H a (.dT [])) b (k.map kV) := eb.upd (fun _ z => zhl z e (fun z => nomatch z)) fun _ _ z => zhl z e (fun z => nomatch z)
  have g := zof.t (H := upd H a (.dT [])) (a := a) (v := v) zau eb' (by decide)
  rw [zgt] at g
  exact zg5 hu (I.kt e) g ry rv h
 ·have g := zof.k (H := upd H a (.dK [])) (a := a) (k := k) (v := v) zau (by decide)
  rw [zgt] at g
  exact zg5 hu (I.tk e) g ry rv h
end
section
variable {X : Cx} {o i e f value : Expr} {apos cpos pos pos' : Pos} {td ty tx tv : TE}
def zrN (td ty tx : TE) : TE := fun σ H Q => td σ H fun x H1 => ∃ a, x = .ref a /\ IsD H1 a /\ ty σ H1 fun y H2 => tx σ H2 fun z H3 => ∃ o, DG H3 a y o /\ Q (o.getD z) H3
def zuE (td ty tv : TE) : TS := fun D σ H => tv σ H fun v H1 => td σ H1 fun x H2 => ty σ H2 fun y H3 => ∃ a H4, x = .ref a /\ DP H3 a y v H4 /\ D.nx σ H4
theorem zoQ (hu : X.A.units + 1 < cLine) (ho : PE X o td) (he : PE X e ty) (hf : PE X f tx) (m : M2 X o "get" apos e f cpos) : PE X (.Call (.Attribute o "get" apos) [e, f] [] cpos) (zrN td ty tx) := by
 intro pins s σ H Q I h
 refine wpAny_Call_method m.base m.few m.line PySem.F.plainAttrs_dict PySem.F.slot_dict_get PySem.F.type_dict_get (thn (ho pins s σ H _ I h) fun u s1 ⟨x, H1, I1, rx, a, ex, d, q1⟩ => ?_)
 subst ex
 obtain rfl : u = Value.ref a := rx
 obtain ⟨t1, t2, _⟩ := zsK I1 d
 refine ⟨t1, t2, ?_⟩
 rw [m.trees]
 exact Calls.callWith_builtin rfl (Calls.evalArgs_plain (Calls.spliced_cons (thn (he pins s1 σ H1 _ I1 q1) fun iv s2 ⟨y, H2, I2, ry, q2⟩ =>
  Calls.spliced_cons (thn (hf pins s2 σ H2 _ I2 q2) fun fv s3 ⟨z, H3, I3, rz, ov, g, q3⟩ => Calls.spliced_nil (zrm hu I3 g ry rz fun w' s4 I4 rw' => ⟨_, H3, I4, rw', q3⟩)))))
theorem zqI (hu : X.A.units + 1 < cLine) (ho : PE X o td) (hi : PE X i ty) (hv : PE X value tv) (hs : swapsWith value (some (.Subscript o i pos')) pos.line X.env = pure false) :
  PS X (.Assign [.Subscript o i pos'] value pos) (zuE td ty tv) := by
 intro pins s σ H D I h
 refine wpAny_Assign_Subscript (thn (hv pins s σ H _ I h) fun r s1 ⟨v, H1, I1, rv, q1⟩ => thn (ho pins s1 σ H1 _ I1 q1) fun u s2 ⟨x, H2, I2, rx, q2⟩ => thn (hi pins s2 σ H2 _ I2 q2) fun iv s3 ⟨y, H3, I3, ry, a, H4, ex, g, q3⟩ => ?_) hs
 subst ex
 obtain rfl : u = Value.ref a := rx
 exact ztY hu I3 g ry rv fun s4 I4 => ⟨σ, H4, I4, q3⟩
end
end L2
namespace L2
open PySem PySem.Spec PyProof.Rows PySem.W
abbrev gp (p : Array Nat) (i : Nat) : Nat := p.getD i 0
theorem znx {p q : Array Nat} {i j : Nat} (h : p[i]? = q[j]?) : gp p i = gp q j := by
 simp only [gp, Array.getD_eq_getD_getElem?, h]
section
variable {lt : Nat -> Nat -> Bool} {n : Nat} {cmp : Nat -> Nat -> (Bool -> Shared -> Prop) -> Shared -> Prop} {P : Shared -> Prop}
structure Ord (lt : Nat -> Nat -> Bool) : Prop where
 tr : ∀ i j k, lt j i = false -> lt k j = false -> lt k i = false
 as : ∀ i j, lt i j = true -> lt j i = false
def Asks (lt : Nat -> Nat -> Bool) (n : Nat) (P : Shared -> Prop) (cmp : Nat -> Nat -> (Bool -> Shared -> Prop) -> Shared -> Prop) : Prop :=
 ∀ i j (C : Bool -> Shared -> Prop) s, i < n -> j < n -> P s -> (∀ s', P s' -> C (lt i j) s') -> cmp i j C s
theorem Ord.refl (o : Ord lt) (i : Nat) : lt i i = false := by
 cases h : lt i i with
 | false => rfl
 | true => exact h.symm.trans (o.as i i h)
def Up (lt : Nat -> Nat -> Bool) (p : Array Nat) (m : Nat) : Prop := ∀ i j, i <= j -> j < m -> lt (gp p j) (gp p i) = false
def Dn (lt : Nat -> Nat -> Bool) (p : Array Nat) (m : Nat) : Prop := ∀ i j, i <= j -> j < m -> lt (gp p i) (gp p j) = false
def Eb (lt : Nat -> Nat -> Bool) (p : Array Nat) (a b : Nat) : Prop := ∀ i j, a <= i -> i < b -> a <= j -> j < b -> lt (gp p i) (gp p j) = false
structure Arr (n : Nat) (p : Array Nat) : Prop where
 sz : p.size = n
 pm : p.Perm (List.toArray (List.range n))
theorem Arr.lim {p : Array Nat} (h : Arr n p) (hn : 0 < n) (i : Nat) : gp p i < n := by
 by_cases c : i < p.size
 ·have e : gp p i = p[i] := by simp [gp, Array.getD, c]
  rw [e]
  have m : p[i] ∈ p.toList := Array.getElem_mem_toList c
  have m2 := (Array.perm_iff_toList_perm.mp h.pm).mem_iff.mp m
  simpa using m2
 ·have e : gp p i = 0 := by simp [gp, Array.getD, c]
  rw [e]; exact hn
theorem Up.next (o : Ord lt) {p : Array Nat} {m : Nat} (h : Up lt p m) (hm : 1 <= m) (e : lt (gp p m) (gp p (m - 1)) = false) : Up lt p (m + 1) := fun i j hij hj => by
 by_cases c : j < m
 ·exact h i j hij c
 ·have : j = m := by omega
  subst this
  by_cases c2 : i = j
  ·subst c2; exact o.refl _
  ·exact o.tr _ _ _ (h i (j - 1) (by omega) (by omega)) e
theorem Dn.next (o : Ord lt) {p : Array Nat} {m : Nat} (h : Dn lt p m) (hm : 1 <= m) (e : lt (gp p (m - 1)) (gp p m) = false) : Dn lt p (m + 1) := fun i j hij hj => by
 by_cases c : j < m
 ·exact h i j hij c
 ·have : j = m := by omega
  subst this
  by_cases c2 : i = j
  ·subst c2; exact o.refl _
  ·exact o.tr _ _ _ e (h i (j - 1) (by omega) (by omega))
theorem zhT {p : Array Nat} {a b : Nat} (hb : b <= p.size) (k : Nat) : gp (kas_rev p a b) k = if a <= k /\ k < b then gp p (a + b - 1 - k) else gp p k := by
 have e := getElem?_mirror_all (xs := p) (i := a) hb k
 unfold kas_rev
 split
 ·rename_i c; rw [if_pos c] at e; exact znx e
 ·rename_i c; rw [if_neg c] at e; exact znx e
theorem Arr.rev {p : Array Nat} (h : Arr n p) (a b : Nat) : Arr n (kas_rev p a b) := ⟨by unfold kas_rev; rw [mirror_size]; exact h.sz, (mirror_perm _ _ _ _).trans h.pm⟩
theorem Dn.rev (o : Ord lt) {p : Array Nat} {a b m : Nat} (hb : b <= p.size) (h : Dn lt p m) (e : Eb lt p a b) (hbm : b <= m) : Dn lt (kas_rev p a b) m := fun i j hij hj => by
 rw [zhT hb, zhT hb]
 split
 ·rename_i c1
  split
  ·rename_i c2; exact e _ _ (by omega) (by omega) (by omega) (by omega)
  ·rename_i c2; exact h _ _ (by omega) (by omega)
 ·rename_i c1
  split
  ·rename_i c2; exact h _ _ (by omega) (by omega)
  ·exact h _ _ hij hj
theorem zn4 (o : Ord lt) (hc : Asks lt n P cmp) (hn : 0 < n) {p : Array Nat} (ar : Arr n p) : ∀ (f m : Nat) {Q : Nat -> Shared -> Prop} {s : Shared}, 1 <= m -> Up lt p m -> P s ->
  (∀ m' s', P s' -> m <= m' -> m' <= m + f -> Up lt p m' -> (m' = m + f \/ lt (gp p m') (gp p (m' - 1)) = true) -> Q m' s') -> (kas_asc p f m).kasWp cmp Q s
 | 0, m, Q, s, h1, hu, hp, h => h m s hp (Nat.le_refl _) (Nat.le_refl _) hu (.inl rfl)
 | f + 1, m, Q, s, h1, hu, hp, h => by
  refine hc _ _ _ s (ar.lim hn _) (ar.lim hn _) hp fun s' hp' => ?_
  cases e : lt (p.getD m 0) (p.getD (m - 1) 0) with
  | true => exact h m s' hp' (Nat.le_refl _) (by omega) hu (.inr e)
  | false =>
   refine zn4 o hc hn ar f (m + 1) (by omega) (hu.next o h1 e) hp' fun m' s'' hp'' a b c d => h m' s'' hp'' (by omega) (by omega) c ?_
   rcases d with d | d
   ·exact .inl (by omega)
   ·exact .inr d
theorem ziM (o : Ord lt) (hc : Asks lt n P cmp) (hn : 0 < n) : ∀ (f : Nat) (p : Array Nat) (m q : Nat) {Q : Array Nat × Nat × Nat -> Shared -> Prop} {s : Shared}, Arr n p -> q + 1 <= m -> m + f <= n -> Dn lt p m -> Eb lt p (m - (q + 1)) m -> P s ->
  (∀ p' m' q' s', P s' -> Arr n p' -> m <= m' -> m' <= n -> q' + 1 <= m' -> Dn lt p' m' -> Eb lt p' (m' - (q' + 1)) m' -> Q (p', m', q') s') -> (kas_desc f p m q).kasWp cmp Q s
 | 0, p, m, q, Q, s, ar, h1, h2, hd, he, hp, h => h p m q s hp ar (Nat.le_refl _) (by omega) h1 hd he
 | f + 1, p, m, q, Q, s, ar, h1, h2, hd, he, hp, h => by
  refine hc _ _ _ s (ar.lim hn _) (ar.lim hn _) hp fun s' hp' => ?_
  cases e : lt (p.getD m 0) (p.getD (m - 1) 0) with
  | true =>
   have hd2 : Dn lt p (m + 1) := hd.next o (by omega) (o.as _ _ e)
   show (if q > 0 then kas_desc f (kas_rev p (m - (q + 1)) m) (m + 1) 0 else kas_desc f p (m + 1) 0).kasWp cmp Q s'
   split
   ·refine ziM o hc hn f _ (m + 1) 0 (ar.rev _ _) (by omega) (by omega) (hd2.rev o (by rw [ar.sz]; omega) he (by omega)) (fun i j a b c d => ?_) hp' fun p' m' q' s'' a b c => h p' m' q' s'' a b (by omega)
    have e1 : i = m := by omega
    have e2 : j = m := by omega
    subst e1; subst e2; exact o.refl _
   ·refine ziM o hc hn f _ (m + 1) 0 ar (by omega) (by omega) hd2 (fun i j a b c d => ?_) hp' fun p' m' q' s'' a b c => h p' m' q' s'' a b (by omega)
    have e1 : i = m := by omega
    have e2 : j = m := by omega
    subst e1; subst e2; exact o.refl _
  | false =>
   refine hc _ _ _ s' (ar.lim hn _) (ar.lim hn _) hp' fun s'' hp'' => ?_
   cases e2 : lt (p.getD (m - 1) 0) (p.getD m 0) with
   | true => exact h p m q s'' hp'' ar (Nat.le_refl _) (by omega) h1 hd he
   | false =>
    refine ziM o hc hn f p (m + 1) (q + 1) ar (by omega) (by omega) (hd.next o (by omega) e2) (fun i j a b c d => ?_) hp'' fun p' m' q' s3 a b c => h p' m' q' s3 a b (by omega)
    have eq1 : ∀ x, m - (q + 1) <= x -> x < m -> lt (gp p m) (gp p x) = false /\ lt (gp p x) (gp p m) = false := fun x x1 x2 =>
     ⟨o.tr _ _ _ (he (m - 1) x (by omega) (by omega) x1 x2) e, o.tr _ _ _ e2 (he x (m - 1) x1 x2 (by omega) (by omega))⟩
    by_cases c1 : i = m
    ·by_cases c2 : j = m
     ·subst c1; subst c2; exact o.refl _
     ·subst c1; exact (eq1 j (by omega) (by omega)).1
    ·by_cases c2 : j = m
     ·subst c2; exact (eq1 i (by omega) (by omega)).2
     ·exact he i j (by omega) (by omega) (by omega) (by omega)
theorem zkE (o : Ord lt) (hc : Asks lt n P cmp) (hn : 0 < n) {p : Array Nat} (ar : Arr n p) {m : Nat} {Q : Nat × Array Nat -> Shared -> Prop} {s : Shared} (h1 : 1 <= m) (hm : m <= n) (hd : Dn lt p m) (hp : P s)
  (h : ∀ m' p' s', P s' -> Arr n p' -> 1 <= m' -> m' <= n -> Up lt p' m' -> Q (m', p') s') : (kas_tail3 m n p).kasWp cmp Q s := by
 unfold kas_tail3
 rw [KasT.kasWp_bind]
 refine zn4 o hc hn (ar.rev 0 m) (n - m) m h1 (fun i j hij hj => ?_) hp fun m' s' hp' a b c _ => h m' _ s' hp' (ar.rev 0 m) (by omega) (by omega) c
 rw [zhT (by rw [ar.sz]; exact hm), zhT (by rw [ar.sz]; exact hm), if_pos (by omega), if_pos (by omega)]
 exact hd _ _ (by omega) (by omega)
theorem zg4 (o : Ord lt) (hc : Asks lt n P cmp) (hn : 0 < n) {p : Array Nat} (ar : Arr n p) {m : Nat} {Q : Nat × Array Nat -> Shared -> Prop} {s : Shared} (hm : m + 1 <= n) (hd : Dn lt p (m + 1)) (hp : P s)
  (h : ∀ m' p' s', P s' -> Arr n p' -> 1 <= m' -> m' <= n -> Up lt p' m' -> Q (m', p') s') : (kas_descPart m n p).kasWp cmp Q s := by
 unfold kas_descPart
 rw [KasT.kasWp_bind]
 refine ziM o hc hn _ p (m + 1) 0 ar (by omega) (by omega) hd (fun i j a b c d => ?_) hp fun p' m' q' s' hp' ar' a b c hd' he' => ?_
 ·have e1 : i = m := by omega
  have e2 : j = m := by omega
  subst e1; subst e2; exact o.refl _
 ·show (if q' > 0 then kas_tail3 m' n (kas_rev p' (m' - (q' + 1)) m') else kas_tail3 m' n p').kasWp cmp Q s'
  split
  ·exact zkE o hc hn (ar'.rev _ _) (by omega) b (hd'.rev o (by rw [ar'.sz]; exact b) he' (Nat.le_refl _)) hp' h
  ·exact zkE o hc hn ar' (by omega) b hd' hp' h
theorem zpp (o : Ord lt) (hc : Asks lt n P cmp) (hn : 0 < n) {p : Array Nat} (ar : Arr n p) {Q : Nat × Array Nat -> Shared -> Prop} {s : Shared} (hp : P s)
  (h : ∀ m' p' s', P s' -> Arr n p' -> 1 <= m' -> m' <= n -> Up lt p' m' -> Q (m', p') s') : (kas_count n p).kasWp cmp Q s := by
 unfold kas_count
 rw [KasT.kasWp_bind]
 refine zn4 o hc hn ar (n - 1) 1 (Nat.le_refl _) (fun i j a b => ?_) hp fun m s' hp' a b hu hl => ?_
 ·have e1 : i = 0 := by omega
  have e2 : j = 0 := by omega
  subst e1; subst e2; exact o.refl _
 by_cases c : m = n
 ·subst c
  rw [if_pos (by simp)]
  exact h m p s' hp' ar a (Nat.le_refl _) hu
 ·rw [if_neg (by simpa using c)]
  have hl2 : lt (gp p m) (gp p (m - 1)) = true := by
   rcases hl with hl | hl
   ·omega
   ·exact hl
  by_cases c1 : m > 1
  ·rw [if_pos c1]
   refine hc _ _ _ s' (ar.lim hn _) (ar.lim hn _) hp' fun s'' hp'' => ?_
   cases e : lt (p.getD 0 0) (p.getD (m - 1) 0) with
   | true => exact h m p s'' hp'' ar a (by omega) hu
   | false =>
    have hs : m <= p.size := by rw [ar.sz]; omega
    have all : ∀ i j, i < m -> j < m -> lt (gp p i) (gp p j) = false := fun i j hi hj =>
     o.tr _ _ _ (hu j (m - 1) (by omega) (by omega)) (o.tr _ _ _ e (hu 0 i (Nat.zero_le _) hi))
    refine zg4 o hc hn (ar.rev 0 m) (by omega) (fun i j hij hj => ?_) hp'' h
    rw [zhT hs, zhT hs]
    by_cases cj : j < m
    ·rw [if_pos (by omega), if_pos (by omega)]
     exact all _ _ (by omega) (by omega)
    ·have ej : j = m := by omega
     subst ej
     rw [if_neg (by omega : ¬ (0 <= j /\ j < j))]
     split
     ·exact o.tr _ _ _ (o.as _ _ hl2) (all _ _ (by omega) (by omega))
     ·have ei : i = j := by omega
      subst ei; exact o.refl _
  ·rw [if_neg c1]
   have e1 : m = 1 := by omega
   subst e1
   refine zg4 o hc hn ar (by omega) ?_ hp' h
   refine Dn.next o (fun i j hij hj => ?_) (Nat.le_refl _) (o.as _ _ hl2)
   have e1 : i = 0 := by omega
   have e2 : j = 0 := by omega
   subst e1; subst e2; exact o.refl _
theorem zir (o : Ord lt) (hc : Asks lt n P cmp) (hn : 0 < n) {p : Array Nat} (ar : Arr n p) {k : Nat} (hu : Up lt p k) : ∀ (f l r : Nat) {Q : Nat -> Shared -> Prop} {s : Shared}, l <= r -> r <= k -> r - l <= f ->
  (∀ i, i < l -> lt (gp p k) (gp p i) = false) -> (∀ i, r <= i -> i < k -> lt (gp p i) (gp p k) = false) -> P s ->
  (∀ l' s', P s' -> l' <= k -> (∀ i, i < l' -> lt (gp p k) (gp p i) = false) -> (∀ i, l' <= i -> i < k -> lt (gp p i) (gp p k) = false) -> Q l' s') -> (kas_place p k f l r).kasWp cmp Q s
 | 0, l, r, Q, s, h1, h2, h3, a, b, hp, h => h l s hp (by omega) a (by
   have : l = r := by omega
   subst this; exact b)
 | f + 1, l, r, Q, s, h1, h2, h3, a, b, hp, h => by
  unfold kas_place
  by_cases c : l ≥ r
  ·rw [if_pos c]
   have : l = r := by omega
   subst this
   exact h l s hp h2 a b
  ·rw [if_neg c]
   refine hc _ _ _ s (ar.lim hn _) (ar.lim hn _) hp fun s' hp' => ?_
   cases e : lt (p.getD k 0) (p.getD ((l + r) / 2) 0) with
   | true =>
    refine zir o hc hn ar hu f l ((l + r) / 2) (by omega) (by omega) (by omega) a (fun i i1 i2 => ?_) hp' h
    exact o.tr _ _ _ (o.as _ _ e) (hu _ _ i1 i2)
   | false =>
    refine zir o hc hn ar hu f ((l + r) / 2 + 1) r (by omega) h2 (by omega) (fun i i1 => ?_) b hp' h
    exact o.tr _ _ _ (hu i ((l + r) / 2) (by omega) (by omega)) e
theorem zqc (o : Ord lt) (hc : Asks lt n P cmp) (hn : 0 < n) : ∀ (f : Nat) (p : Array Nat) (k : Nat) {Q : Array Nat -> Shared -> Prop} {s : Shared}, Arr n p -> k + f = n -> Up lt p k -> P s ->
    (∀ p' s', P s' -> Arr n p' -> Up lt p' n -> Q p' s') -> (kas_bin f p k).kasWp cmp Q s
  | 0, p, k, Q, s, ar, h1, hu, hp, h => h p s hp ar (by have : k = n := by omega
                                                        subst this; exact hu)
  | f + 1, p, k, Q, s, ar, h1, hu, hp, h => by
    unfold kas_bin
    rw [KasT.kasWp_bind]
    refine zir o hc hn ar hu k 0 k (Nat.zero_le _) (Nat.le_refl _) (by omega) (fun i hi => by omega) (fun i a b => by omega) hp fun l s' hp' hl ha hb => ?_
    have hk : k < p.size := by rw [ar.sz]; omega
    have gb : ∀ i, gp (bubble p k (k - l)) i = if i = l then gp p k else if l < i /\ i <= k then gp p (i - 1) else gp p i := fun i => by
      have e := getElem?_bubble hk (k - l) (by omega) i
      rw [show k - (k - l) = l by omega] at e
      by_cases c1 : i = l
      · rw [if_pos c1] at e ⊢; exact znx e
      · rw [if_neg c1] at e ⊢
        by_cases c2 : l < i /\ i <= k
        · rw [if_pos c2] at e ⊢; exact znx e
        · rw [if_neg c2] at e ⊢; exact znx e
    refine zqc o hc hn f _ (k + 1) ⟨by rw [bubble_size]; exact ar.sz, (bubble_perm _ _ _).trans ar.pm⟩ (by omega) (fun i j hij hj => ?_) hp' h
    rw [gb i, gb j]
    by_cases c1 : i = l
    · rw [if_pos c1]
      by_cases c2 : j = l
      · rw [if_pos c2]; exact o.refl _
      · rw [if_neg c2, if_pos (by omega)]
        exact hb _ (by omega) (by omega)
    · rw [if_neg c1]
      by_cases c2 : j = l
      · rw [if_pos c2, if_neg (by omega)]
        exact ha _ (by omega)
      · rw [if_neg c2]
        by_cases c3 : l < i /\ i <= k
        · rw [if_pos c3, if_pos (by omega)]
          exact hu _ _ (by omega) (by omega)
        · rw [if_neg c3]
          split
          · exact hu _ _ (by omega) (by omega)
          · exact hu _ _ (by omega) (by omega)
theorem zqq (o : Ord lt) (hc : Asks lt n P cmp) (hn : 0 < n) {Q : Array Nat -> Shared -> Prop} {s : Shared} (hp : P s) (h : ∀ p s', P s' -> Arr n p -> Up lt p n -> Q p s') : (kas_sort n).kasWp cmp Q s := by
 unfold kas_sort
 rw [KasT.kasWp_bind]
 refine zpp o hc hn ⟨by simp, Array.Perm.refl _⟩ hp fun m p s' hp' ar h1 h2 hu => ?_
 show (if m < n then kas_bin (n - max m 1) p (max m 1) else KasT.ret p).kasWp cmp Q s'
 split
 ·have e : max m 1 = m := by omega
  rw [e]
  exact zqc o hc hn _ p m ar (by omega) hu hp' h
 ·have : m = n := by omega
  subst this
  exact h p s' hp' ar hu
end
end L2
namespace PySem
open Spec PyProof.Rows
section
variable {prog : Program} {w : World} {A : Around} {E : Value -> Shared -> Prop} {s : Shared}
theorem DEs.at {h h' : Heap} {d : Addr} {es : Array DictEntry} {ep : Nat} (x : DEs h d es ep) (k : ∀ o, h.get? d = some o -> h'.get? d = some o) : DEs h' d es ep := by
 obtain ⟨o, e, r⟩ := x.ex
 exact ⟨o, k o e, r⟩
theorem zrF (hh : A.handled = none) (I d : Addr) (hne : d ≠ I) (es : Array DictEntry) (ep : Nat) :
  Walks prog w A I [I, d] [I] es.size (fun i v => ∃ h : i < es.size, v = es[i].key) (fun i h => h.IsKeyIter I d i es.size ep /\ DEs h d es ep) where
 sub := fun b hb => by simp at hb; simp [hb]
 frame := fun _ _ _ st hk => ⟨st.1.at fun o e => hk I (by simp) o e, st.2.at fun o e => hk d (by simp) o e⟩
 item := fun i s Q E hi st hQ => by
  refine zsu st.1 st.2 hi fun h' hit' hs' => ?_
  exact hQ _ h' s.toks ⟨hi, rfl⟩ ⟨hit', st.2.at fun o e => hs'.extBut d o hne e⟩ fun b o hb e => hs'.extBut b o (fun h => hb (by simp [h])) e
 done := fun s Q E st hQ => zvT hh st.1 st.2 (Nat.le_refl _) fun h' he' => hQ h' s.toks fun b o hb e => he' b o (fun h => hb (by simp [h])) e
 self := fun _ _ _ _ st hQ => wpAny_pyIter_keyiter st.1 hQ
theorem zpr {d : Addr} {es : Array DictEntry} {ep : Nat} {Q : List Value -> Shared -> Prop} (hh : A.handled = none) (sy : (d == sysModules) = false) (hm : DEs s.heap d es ep) (hn : es.size <= 1000)
  (hQ : ∀ s' (acc : Array Value), (∀ b o, s.heap.get? b = some o -> s'.heap.get? b = some o) -> s'.gens = s.gens -> s'.drawn = s.drawn -> s'.os = s.os -> s.heap.objs.size <= s'.heap.objs.size -> ItemsOf (fun i v => ∃ h : i < es.size, v = es[i].key) acc es.size -> Q acc.toList s') :
  wpAny (model prog w) A (collect (.ref d)) Q E s := by
 obtain ⟨od, hod, hxd, hdd⟩ := hm.ex
 have dl := Heap.lt_size hod
 unfold collect
 refine wpAny_bind (wpAny_runValue (codeAny_builtin F.entry_proto_collect ?_))
 rw [Around.under_plainId F.plain_proto_collect _]
 show wpAny _ A.in1 (newList [] >>= fun l => again (.builtin "list.__iadd__" ⟨[l, .ref d], []⟩)) _ _ s
 refine wpAny_bind (wpAny_newObj_type ?_)
 refine wpAny_pure ⟨plainId_quiet F.plain_list_iadd _, codeAny_builtin F.entry_list_iadd ?_⟩
 rw [Around.under_plainId F.plain_list_iadd _]
 have hm1 : DEs (s.heap.push { cls := .type "list", data := .seq ([] : List Value).toArray }) d es ep := hm.at fun o e => Heap.get?_push_of_some _ e
 have hSd : s.heap.objs.size ≠ d := Nat.ne_of_gt dl
 have h1 : Builtin.List.listSameRef (.ref s.heap.objs.size) (.ref d) = false := by simp [Builtin.List.listSameRef, hSd]
 show wpAny _ A.in1 (Builtin.List.listExtendWith (.ref s.heap.objs.size) (.ref d) (.ref s.heap.objs.size)) _ _ _
 unfold Builtin.List.listExtendWith
 refine wpAny_bind (wpAny_typeOf (s := { s with heap := s.heap.push { cls := .type "list", data := .seq ([] : List Value).toArray } }) hm1.typ ?_)
 rw [if_neg (by rw [h1]; decide)]
 refine wpAny_bind (zsI (s := { s with heap := s.heap.push { cls := .type "list", data := .seq ([] : List Value).toArray } }) sy hm1 ?_)
 refine wpAny_bind (wpAny_holding ?_)
 have I2 : s.heap.objs.size + 1 = (s.heap.push { cls := .type "list", data := .seq ([] : List Value).toArray }).objs.size := (Heap.size_push ..).symm
 have hm2 : DEs ((s.heap.push { cls := .type "list", data := .seq ([] : List Value).toArray }).push { cls := .type "dict_keyiterator", data := .fields #[.ref d, .int 0 0, .int es.size 0, .int ep 0] }) d es ep := hm1.at fun o e => Heap.get?_push_of_some _ e
 have ty2 := DEs.typ (s := { s with heap := (s.heap.push { cls := .type "list", data := .seq ([] : List Value).toArray }).push { cls := .type "dict_keyiterator", data := .fields #[.ref d, .int 0 0, .int es.size 0, .int ep 0] } }) hm2
 unfold Builtin.List.listLengthHint
 refine wpAny_bind (wpAny_specialOf ty2 F.slot_dict_len.lookup ?_)
 generalize hid : ("dict.__len__" : String) = id0
 wp_delta
 rw [show splitId id0 = some ("dict", "__len__") from by subst hid; decide +kernel]
 subst hid
 refine wpAny_bind (wpAny_isInstance (b := true) ty2 (by rw [isSubtype_type]; kernel_rfl) ?_)
 rw [if_neg (by decide)]
 dsimp only
 rw [if_pos (by decide +kernel)]
 refine wpAny_bind (wpAny_typeOf ty2 ?_)
 refine wpAny_pure ?_
 rw [if_pos (by decide +kernel)]
 refine wpAny_bind (wpAny_rule ?_)
 unfold Builtin.List.listTouch
 have hS0 : ((s.heap.push { cls := .type "list", data := .seq ([] : List Value).toArray }).push { cls := .type "dict_keyiterator", data := .fields #[.ref d, .int 0 0, .int es.size 0, .int ep 0] }).get? s.heap.objs.size = some (seqObj "list" #[] 0) := Heap.get?_push_of_some _ (Heap.get?_push_size _ rfl)
 refine wpAny_bind (wpAny_bind (listUpdate_at hS0 rfl ?_ (Nat.zero_le _) (by show 1 <= sizeLine + 1; omega)))
 have hS1 := get?_update_seq hS0 (·.push .none)
 refine listUpdate_at hS1 rfl ?_ (by show 1 <= sizeLine; rw [sizeLine_eq]; decide) (by show 0 <= sizeLine + 1; omega)
 have hS2 := get?_update_seq hS1 (·.pop)
 have up : ∀ b o, b ≠ s.heap.objs.size -> ((s.heap.push { cls := .type "list", data := .seq ([] : List Value).toArray }).push { cls := .type "dict_keyiterator", data := .fields #[.ref d, .int 0 0, .int es.size 0, .int ep 0] }).get? b = some o ->
   ((((s.heap.push { cls := .type "list", data := .seq ([] : List Value).toArray }).push { cls := .type "dict_keyiterator", data := .fields #[.ref d, .int 0 0, .int es.size 0, .int ep 0] }).update s.heap.objs.size (Obj.mapSeq fun x => x.push Value.none)).update s.heap.objs.size (Obj.mapSeq fun x => x.pop)).get? b = some o := fun b o hb e =>
  (((Heap.SameBut.update ..).2 b hb).trans ((Heap.SameBut.update ..).2 b hb)).trans e
 have hI : ((s.heap.push { cls := .type "list", data := .seq ([] : List Value).toArray }).push { cls := .type "dict_keyiterator", data := .fields #[.ref d, .int 0 0, .int es.size 0, .int ep 0] }).get? (s.heap.push { cls := .type "list", data := .seq ([] : List Value).toArray }).objs.size = some { cls := .type "dict_keyiterator", data := .fields #[.ref d, .int 0 0, .int es.size 0, .int ep 0] } := Heap.get?_push_size _ rfl
 have neI : (s.heap.push { cls := .type "list", data := .seq ([] : List Value).toArray }).objs.size ≠ s.heap.objs.size := by rw [<- I2]; omega
 have old : ∀ b o, s.heap.get? b = some o -> ((s.heap.push { cls := .type "list", data := .seq ([] : List Value).toArray }).push { cls := .type "dict_keyiterator", data := .fields #[.ref d, .int 0 0, .int es.size 0, .int ep 0] }).get? b = some o := fun b o e => Heap.get?_push_of_some _ (Heap.get?_push_of_some _ e)
 generalize ((((s.heap.push { cls := .type "list", data := .seq ([] : List Value).toArray }).push { cls := .type "dict_keyiterator", data := .fields #[.ref d, .int 0 0, .int es.size 0, .int ep 0] }).update s.heap.objs.size (Obj.mapSeq fun x => x.push Value.none)).update s.heap.objs.size (Obj.mapSeq fun x => x.pop)) = h5 at hS2 up ⊢
 have st : h5.IsKeyIter (s.heap.push { cls := .type "list", data := .seq ([] : List Value).toArray }).objs.size d 0 es.size ep := ⟨_, up _ _ neI hI, rfl, rfl⟩
 have da : DEs h5 d es ep := hm2.at fun o e => up d o (Ne.symm hSd) e
 generalize hIa : (s.heap.push { cls := .type "list", data := .seq ([] : List Value).toArray }).objs.size = Ia at st neI hI ⊢
 have ia : Ia = s.heap.objs.size + 1 := by rw [<- hIa]; exact I2.symm
 have ne : d ≠ Ia := by rw [ia]; exact Nat.ne_of_lt (Nat.lt_succ_of_lt dl)
 have nS : s.heap.objs.size ∉ [Ia, d] := fun h => by
  rcases List.mem_cons.mp h with c | c
  ·exact neI c.symm
  ·exact hSd (List.mem_singleton.mp c)
 have W := (zrF (prog := prog) (w := w) (A := A.in1) hh Ia d ne es ep).toS
 refine wpAny_pure ⟨plainId_quiet F.plain_extend_loop _, codeAny_extend_loopS W (by rw [sizeLine_eq]; omega) s.heap.objs.size nS _ es.size 0 _ _ _ rfl (Nat.zero_le _) ⟨st, da⟩ hS2 (ItemsOf.nil _) fun s' acc' c' mv hS' hacc => ?_⟩
 show wpAny _ A (load s.heap.objs.size >>= _) _ _ s'
 refine wpAny_bind (wpAny_load hS' ?_)
 refine wpAny_pure (hQ s' acc' (fun b o e => ?_) mv.gens mv.drawn mv.os (Nat.le_of_lt (Heap.lt_size hS')) hacc)
 have lt := Heap.lt_size e
 have b1 : b ≠ s.heap.objs.size := Nat.ne_of_lt lt
 have b2 : b ≠ Ia := by rw [ia]; exact Nat.ne_of_lt (Nat.lt_succ_of_lt lt)
 refine mv.heap b o (fun h => ?_) (up b o b1 (old b o e))
 rcases List.mem_cons.mp h with c | c
 ·exact b1 c
 ·exact b2 (List.mem_singleton.mp c)
end
end PySem
namespace L2
open PySem PySem.Spec PyProof.Rows PySem.W
def Cx.in1 (X : Cx) : Cx := { X with A := X.A.in1 }
section
variable {X : Cx} {pins : List (Addr × Obj)} {σ : L2.St} {H : Hp} {s : Shared}
theorem Cx.Ok.in1 (o : X.Ok) : X.in1.Ok := ⟨o.mod, o.kind, o.glob, o.blt, o.above, o.inj, o.has, o.cab, o.hd, o.frames, o.stk, o.exf, o.bs, o.bsz, o.noex, o.exfs, o.zl0, o.frf⟩
theorem Cx.Ok.zul (o : X.in1.Ok) : X.Ok := ⟨o.mod, o.kind, o.glob, o.blt, o.above, o.inj, o.has, o.cab, o.hd, o.frames, o.stk, o.exf, o.bs, o.bsz, o.noex, o.exfs, o.zl0, o.frf⟩
theorem Inv.in1 (I : Inv X pins σ H s) : Inv X.in1 pins σ H s := ⟨I.ok.in1, I.os, I.bare, I.base, I.loc, I.cell, I.free, I.freeC, I.pin, I.hok, I.len⟩
theorem Inv.zul (I : Inv X.in1 pins σ H s) : Inv X pins σ H s := ⟨I.ok.zul, I.os, I.bare, I.base, I.loc, I.cell, I.free, I.freeC, I.pin, I.hok, I.len⟩
end
end L2
namespace L2
open PySem PySem.Spec PyProof.Rows PySem.W
theorem zpU : ∀ a b c : List Int, HT.lexLt b a = false -> HT.lexLt c b = false -> HT.lexLt c a = false
 | [], _, [], _, _ => rfl
 | [], [], _ :: _, _, _ => rfl
 | [], _ :: _, _ :: _, _, _ => rfl
 | _ :: _, [], _, h, _ => by cases h
 | _ :: _, _ :: _, [], _, h => by cases h
 | x :: xs, y :: ys, z :: zs, h1, h2 => by
  simp only [HT.lexLt] at h1 h2 ⊢
  by_cases c1 : y = x
  ·subst c1
   rw [if_pos rfl] at h1
   by_cases c2 : z = y
   ·subst c2; rw [if_pos rfl] at h2 ⊢; exact zpU xs ys zs h1 h2
   ·rw [if_neg c2] at h2 ⊢; exact h2
  ·rw [if_neg c1] at h1
   have h1' := of_decide_eq_false h1
   by_cases c2 : z = y
   ·subst c2; rw [if_neg c1]; exact h1
   ·rw [if_neg c2] at h2
    have h2' := of_decide_eq_false h2
    rw [if_neg (by omega)]
    exact decide_eq_false (by omega)
theorem znd : ∀ a b : List Int, HT.lexLt a b = true -> HT.lexLt b a = false
 | [], [], h => by cases h
 | [], _ :: _, _ => rfl
 | _ :: _, [], h => by cases h
 | x :: xs, y :: ys, h => by
  simp only [HT.lexLt] at h ⊢
  by_cases c : x = y
  ·subst c; rw [if_pos rfl] at h ⊢; exact znd xs ys h
  ·rw [if_neg c] at h
   have h' := of_decide_eq_true h
   rw [if_neg (by omega)]
   exact decide_eq_false (by omega)
abbrev WK := Int × List Int
def ltK (p q : WK) : Bool := if p.1 = q.1 then HT.lexLt p.2 q.2 else decide (p.1 < q.1)
theorem zpS (a b c : WK) (h1 : ltK b a = false) (h2 : ltK c b = false) : ltK c a = false := by
 unfold ltK at h1 h2 ⊢
 by_cases c1 : b.1 = a.1
 ·rw [if_pos c1] at h1
  by_cases c2 : c.1 = b.1
  ·rw [if_pos c2] at h2; rw [if_pos (c2.trans c1)]; exact zpU _ _ _ h1 h2
  ·rw [if_neg c2] at h2; rw [if_neg (by rw [<- c1]; exact c2), <- c1]; exact h2
 ·rw [if_neg c1] at h1
  have h1' := of_decide_eq_false h1
  by_cases c2 : c.1 = b.1
  ·rw [c2, if_neg c1]; exact h1
  ·rw [if_neg c2] at h2
   have h2' := of_decide_eq_false h2
   rw [if_neg (by omega)]
   exact decide_eq_false (by omega)
theorem zpT (a b : WK) (h : ltK a b = true) : ltK b a = false := by
 unfold ltK at h ⊢
 by_cases c : a.1 = b.1
 ·rw [if_pos c] at h; rw [if_pos c.symm]; exact znd _ _ h
 ·rw [if_neg c] at h
  have h' := of_decide_eq_true h
  rw [if_neg (by omega)]
  exact decide_eq_false (by omega)
def ltP (kd : List WK) (i j : Nat) : Bool := ltK (kd.getD i (0, [])) (kd.getD j (0, []))
theorem zvM (kd : List WK) : Ord (ltP kd) := ⟨fun _ _ _ h1 h2 => zpS _ _ _ h1 h2, fun _ _ h => zpT _ _ h⟩
def zfS (H : Hp) (k : WK) (v : V) : Prop := ∃ b c, v = .ref b /\ TAt H b [.int k.1, .ref c] /\ TAt H c (k.2.map V.int)
def zhX (H : Hp) : List WK -> List V -> Prop
 | [], vs => vs = []
 | k :: r, vs => ∃ v t, vs = v :: t /\ zfS H k v /\ zhX H r t
theorem TAt.same {H H' : Hp} {b : Addr} {xs : List V} (s : zba H H') (h : TAt H b xs) : TAt H' b xs := by
 rcases h with h | ⟨o, h⟩
 ·exact .inl (s _ _ h)
 ·exact .inr ⟨o, s _ _ h⟩
theorem zfS.same {H H' : Hp} {k : WK} {v : V} (s : zba H H') (h : zfS H k v) : zfS H' k v := by
 obtain ⟨b, c, e, h1, h2⟩ := h
 exact ⟨b, c, e, h1.same s, h2.same s⟩
theorem zhX.same {H H' : Hp} (s : zba H H') : ∀ {ks : List WK} {vs : List V}, zhX H ks vs -> zhX H' ks vs
 | [], vs, h => h
 | k :: r, vs, h => by
  obtain ⟨v, t, e, h1, h2⟩ := h
  exact ⟨v, t, e, h1.same s, zhX.same s h2⟩
theorem zhX.snoc {H : Hp} {k : WK} {v : V} (h : zfS H k v) : ∀ {ks : List WK} {vs : List V}, zhX H ks vs -> zhX H (ks ++ [k]) (vs ++ [v])
 | [], vs, e => by
  have : vs = [] := e
  subst this
  exact ⟨v, [], rfl, h, rfl⟩
 | k0 :: r, vs, e => by
  obtain ⟨v0, t, rfl, h1, h2⟩ := e
  exact ⟨v0, t ++ [v], rfl, h1, zhX.snoc h h2⟩
theorem zhX.len {H : Hp} : ∀ {ks : List WK} {vs : List V}, zhX H ks vs -> vs.length = ks.length
 | [], vs, e => by
  have : vs = [] := e
  subst this; rfl
 | k0 :: r, vs, e => by
  obtain ⟨v0, t, rfl, h1, h2⟩ := e
  simp [zhX.len h2]
theorem zhX.get {H : Hp} : ∀ {ks : List WK} {vs : List V} {i : Nat} {v : V}, zhX H ks vs -> vs[i]? = some v -> zfS H (ks.getD i (0, [])) v
 | [], vs, i, v, e, h => by
  have : vs = [] := e
  subst this; simp at h
 | k0 :: r, vs, i, v, e, h => by
  obtain ⟨v0, t, rfl, h1, h2⟩ := e
  cases i with
  | zero => simp at h; subst h; exact h1
  | succ i => simpa using zhX.get h2 (i := i) (by simpa using h)
section
variable {X : Cx} {pins : List (Addr × Obj)} {σ : L2.St} {H : Hp} {s : Shared}
theorem zj8 (I : Inv X pins σ H s) {k : WK} {v : V} {u : Value} (h : zfS H k v) (r : RelV v u) :
  ∃ b o n0 c, ∃ tk : Tok, u = .ref b /\ s.heap.get? b = some o /\ o.cls = .type "tuple" /\ o.data = .seq #[.int k.1 tk, .ref c] n0 /\ TAt H c (k.2.map V.int) := by
 obtain ⟨b, c, rfl, h1, h2⟩ := h
 cases r
 obtain ⟨its, rv, ⟨o, ho, hc, n, hd⟩, _⟩ := I.tuple (.inl h1)
 cases rv with
 | cons r1 rv =>
  cases rv with
  | cons r2 rv =>
   cases rv
   obtain ⟨tk, rfl⟩ := r1
   cases r2
   exact ⟨b, o, n, c, tk, rfl, ho, hc, hd, h2⟩
theorem znl (I : Inv X pins σ H s) {c : Addr} {w : List Int} (h : TAt H c (w.map V.int)) : ∃ its : Array Value, IsTup s.heap c its /\ IntsAre its.toList w := by
 obtain ⟨its, rv, p, _⟩ := I.tuple (.inl h)
 exact ⟨its.toArray, p, by simpa using intsAre_of rv⟩
theorem map_inl (w : List Int) : (w.map (Sum.inl (β := Str))).map kV = w.map V.int := by simp [kV]
theorem zsB (hu : X.A.units + 1 < cLine) (I : Inv X pins σ H s) {k k' : WK} {v v' : V} {u u' : Value} {C : Bool -> Shared -> Prop} {E : Value -> Shared -> Prop} (h : zfS H k v) (h' : zfS H k' v') (r : RelV v u) (r' : RelV v' u')
  (q : C (ltK k k') s) : wpAny (model X.prog X.w) X.A (keyLt' (tuples' true) u u') C E s := by
 obtain ⟨b, o, n0, c, tk, rfl, ho, hc, hd, hw⟩ := zj8 I h r
 obtain ⟨b', o', n0', c', tk', rfl, ho', hc', hd', hw'⟩ := zj8 I h' r'
 refine kat_lt ho hd ho' hd' ?_
 refine kat_cons (wpAny_eqBool_int ?_)
 unfold ltK at q
 by_cases e1 : k.1 = k'.1
 ·rw [if_pos e1] at q
  rw [show (k.1 == k'.1) = true from by simpa using e1]
  refine kat_yes (kat_cons ?_)
  have i1 := zdY (ks := k.2.map (Sum.inl (β := Str))) I.hok (by rw [map_inl]; exact hw)
  have i2 := zdY (ks := k'.2.map (Sum.inl (β := Str))) I.hok (by rw [map_inl]; exact hw')
  refine wpAny_eqBool_tuple (by omega) i1 i2 ?_
  by_cases e2 : k.2 = k'.2
  ·rw [show decide (k.2.map (Sum.inl (β := Str)) = k'.2.map Sum.inl) = true from by rw [e2]; simp]
   refine kat_yes (kat_nil ?_)
   rw [e2] at q
   have z : HT.lexLt k'.2 k'.2 = false := by
    cases hz : HT.lexLt k'.2 k'.2 with
    | false => rfl
    | true => exact hz.symm.trans (znd _ _ hz)
   rw [z] at q
   simpa using q
  ·rw [show decide (k.2.map (Sum.inl (β := Str)) = k'.2.map Sum.inl) = false from decide_eq_false fun z => e2 (by
    have := congrArg (List.map (Sum.elim id fun _ => (0 : Int))) z
    simpa [List.map_map, Function.comp_def] using this)]
   refine kat_no ?_
   obtain ⟨its, p1, j1⟩ := znl I hw
   obtain ⟨its', p2, j2⟩ := znl I hw'
   exact kat_one _ _ (HT.zhM p1 p2 j1 j2 (by omega) q)
 ·rw [if_neg e1] at q
  rw [show (k.1 == k'.1) = false from by simpa using e1]
  exact kat_no (oneLt_int q)
end
end L2
namespace L2
open PySem PySem.Spec PyProof.Rows PySem.W
section
variable {X : Cx} {pins : List (Addr × Obj)} {σ : L2.St} {H : Hp} {s : Shared} {h' : Heap}
theorem Inv.adopt {a : Addr} {o : HO} {t' : Nat} (I : Inv X pins σ H s) (k : ∀ b u, b ≠ a -> s.heap.get? b = some u -> h'.get? b = some u) (hf : zh0 X pins H a) (new : zbV X.prog X.w (upd H a o) h' a o) :
  Inv X pins σ (upd H a o) { s with heap := h', toks := t' } := by
 obtain ⟨hn, hL, hfs, h1, h2, h3⟩ := hf
 have ne : ∀ b u, H b = some u -> b ≠ a := fun b u e z => by rw [z, hn] at e; cases e
 refine I.step (g' := s.gens) (d' := s.drawn) (ch := [a]) (fun b hb => ?_) (fun b o _ _ hc e _ => k b o (fun z => hc (by simp [z])) e) (fun b o _ _ hc e _ => ⟨o.slots, k b o (fun z => hc (by simp [z])) e⟩) (fun b o hc _ n => ?_)
  (fun b o hc e => ⟨o, k b o (fun z => hc (by simp [z])) e⟩) (fun b xs e => ?_) (fun b o u e => ?_) (fun b ps e => ⟨#[], ?_⟩) (fun m hm => ?_) (fun b u e => ?_) I.bare
 ·have e : b = a := by simpa using hb
  subst e
  exact ⟨h1, hL, h2, h3⟩
 ·rw [zaE fun z => hc (by simp [z])]; exact n
 ·rw [zaE (ne b _ e)]; exact e
 ·rw [zaE (ne b _ e)]; exact e
 ·rw [zaE (ne b _ e), e]; simp
 ·obtain ⟨o, es, ep, ho, r⟩ := hm
  exact ⟨o, es, ep, k _ o (Ne.symm hL) ho, r⟩
 ·by_cases c : b = a
  ·subst c
   rw [zau] at e
   cases e
   exact new
  ·rw [zaE c] at e
   refine (I.hok b u e).stay (fun d v hc q => k d v ?_ q) (fun b' q => by rw [zaE (ne b' _ q)]; exact q) fun b' xs q => q.upd (fun _ r => ne b' _ r) fun _ _ r => ne b' _ r
   rcases hc with z | z
   ·rw [z]; exact ne b u e
   ·exact ne d _ z
variable {f kS a : Addr} {oa : Obj} {H0 : Hp} {E : Value -> Shared -> Prop} {Q : Shared -> Prop}
def KCall (X : Cx) (σ : L2.St) (H0 : Hp) (f : Addr) (x : V) (kk : WK) : Prop := ∀ (u : Value) (pins' : List (Addr × Obj)) (H' : Hp) (s' : Shared), RelV x u -> zba H0 H' -> Inv X pins' σ H' s' ->
 wpAny (model X.prog X.w) X.A (call (.ref f) [u]) (EP X pins' σ fun k H'' => zba H' H'' /\ zfS H'' kk k) (fun _ _ => False) s'
def zhY (X : Cx) (σ : L2.St) (H0 : Hp) (f : Addr) : List V -> List WK -> Prop
 | [], kd => kd = []
 | x :: r, kd => ∃ k t, kd = k :: t /\ KCall X σ H0 f x k /\ zhY X σ H0 f r t
theorem zhG {H1 H2 H3 : Hp} (a : zba H1 H2) (b : zba H2 H3) : zba H1 H3 := fun c o e => b c o (a c o e)
theorem zkY {body : Value -> PUnit -> Sem (ForInStep PUnit)}
  (hb : ∀ (x : Value) (s : Shared) (C : Shared -> Prop), wpAny (model X.prog X.w) X.A (call (.ref f) [x]) (fun k s' => wpAny (model X.prog X.w) X.A (Builtin.List.listUpdate (.ref kS) (·.push k)) (fun _ s'' => C s'') E s') (fun _ _ => False) s ->
   wpAny (model X.prog X.w) X.A (body x ⟨⟩) (fun r s'' => r = .yield ⟨⟩ /\ C s'') E s) :
  ∀ (us : List Value) (xs : List V) (kd : List WK) (done : List Value) (kvs : List V) (dk : List WK) (e : Nat) (H : Hp) (s : Shared), Vals xs us -> done.length + us.length < 64 -> Inv X (pins ++ [(a, oa)]) σ H s -> zba H0 H ->
   zh0 X (pins ++ [(a, oa)]) H kS -> s.heap.get? kS = some (seqObj "list" done.toArray e) -> Vals kvs done -> zhX H dk kvs -> zhY X σ H0 f xs kd ->
   (∀ H' s' done' kvs' e', Inv X (pins ++ [(a, oa)]) σ H' s' -> zba H0 H' -> zh0 X (pins ++ [(a, oa)]) H' kS -> s'.heap.get? kS = some (seqObj "list" (List.toArray done') e') -> Vals kvs' done' -> zhX H' (dk ++ kd) kvs' -> Q s') ->
   wpAny (model X.prog X.w) X.A (forIn us PUnit.unit body) (fun _ s' => Q s') E s
 | [], xs, kd, done, kvs, dk, e, H, s, rv, hl, I, sm, fp, hk, rk, ks, kc, fin => by
  rw [List.forIn_nil]
  cases rv
  have : kd = [] := kc
  subst this
  refine wpAny_pure (fin H s done kvs e I sm fp hk rk ?_)
  rw [List.append_nil]; exact ks
 | u :: us, xs, kd, done, kvs, dk, e, H, s, rv, hl, I, sm, fp, hk, rk, ks, kc, fin => by
  rw [List.forIn_cons]
  cases rv with
  | @cons x _ xr _ rx rv =>
   obtain ⟨k, t, rfl, c1, kc⟩ := kc
   rw [List.length_cons] at hl
   have I2 : Inv X ((pins ++ [(a, oa)]) ++ [(kS, seqObj "list" done.toArray e)]) σ H s := I.zit fun p hp => by
    rcases List.mem_append.mp hp with z | z
    ·exact I.pin p (List.mem_append_right _ z)
    ·have e : p = (kS, seqObj "list" done.toArray e) := by simpa using z
     subst e
     exact ⟨hk, fp.1, fp.2.1, fp.2.2.1, fun v z => nomatch z⟩
   refine wpAny_bind (wpAny_mono (hb u s (fun s2 => ∃ H2 k2 v2 e2, Inv X (pins ++ [(a, oa)]) σ H2 s2 /\ zba H H2 /\ zh0 X (pins ++ [(a, oa)]) H2 kS /\ s2.heap.get? kS = some (seqObj "list" (done ++ [k2]).toArray e2) /\ RelV v2 k2 /\ zfS H2 k v2) ?_) (fun r s2 ⟨er, H2, k2, v2, e2, I5, sm2, fp2, hk2, rk2, ka⟩ => ?_) fun _ _ z => z)
   ·refine wpAny_mono (c1 u _ H s rx sm I2) (fun k2 s3 ⟨v2, H3, I3, r3, sm3, ka⟩ => ?_) fun _ _ z => z
    obtain ⟨p1, p2, _⟩ := I3.pin (kS, seqObj "list" done.toArray e) (List.mem_append_right _ (List.mem_append_right _ (by simp)))
    have hlen : done.toArray.size < 64 := by rw [List.size_toArray]; omega
    have ea : (done.toArray).push k2 = (done ++ [k2]).toArray := by simp
    refine listUpdate_at p1 rfl ?_ (by rw [sizeLine_eq]; omega) (by rw [Array.size_push, sizeLine_eq]; omega)
    have I4 := I3.zdh
    refine ⟨H3, k2, v2, (if ((done.toArray).push k2).size == done.toArray.size then e else e + 1), I4.turned (t' := s3.toks) (fun b o hb e => ((Heap.SameBut.update ..).2 b hb).trans e) p2 fp.2.1 fp.2.2.2.1 fp.2.2.2.2.1 fp.2.2.2.2.2, sm3, ⟨p2, fp.2⟩, ?_, r3, ka⟩
    rw [<- ea]
    exact get?_update_seq p1 (·.push k2)
   ·subst er
    show wpAny _ _ (forIn us PUnit.unit body) _ _ s2
    refine zkY hb us xr t (done ++ [k2]) (kvs ++ [v2]) (dk ++ [k]) e2 H2 s2 rv (by rw [List.length_append, List.length_singleton]; omega) I5 (zhG sm sm2) fp2 hk2 (rk.append (.cons rk2 .nil)) (zhX.snoc ka (ks.same sm2)) kc fun H' s' d' kv' e' a1 a2 a3 a4 a5 a6 => fin H' s' d' kv' e' a1 a2 a3 a4 a5 ?_
    rw [List.append_assoc] at a6
    exact a6
theorem zkz : ∀ {xs : List V} {us : List Value} (p : List Nat), Vals xs us -> (∀ i ∈ p, i < us.length) -> Vals (p.map fun i => xs.getD i .non) (p.map fun i => us.getD i Value.none)
 | xs, us, [], _, _ => .nil
 | xs, us, i :: p, r, h => by
  refine .cons ?_ (zkz p r fun j hj => h j (List.mem_cons_of_mem _ hj))
  have hi := h i (List.mem_cons_self ..)
  have hl := r.length
  obtain ⟨w, ew, rw'⟩ := r.get (i := i) (x := xs[i]) (List.getElem?_eq_getElem (by omega))
  have e1 : xs.getD i .non = xs[i] := by simp [List.getD_eq_getElem?_getD, List.getElem?_eq_getElem (show i < xs.length by omega)]
  have e2 : us.getD i Value.none = w := by rw [List.getD_eq_getElem?_getD, ew]; rfl
  show RelV (xs.getD i .non) (us.getD i Value.none)
  rw [e1, e2]
  exact rw'
theorem zt6 (n : Nat) : Arr n (List.toArray (List.range n)) := ⟨by simp, Array.Perm.refl _⟩
theorem zmk {us : List Value} {xs : List V} {kd : List WK} {n0 : Nat} {P : PySem.Fin -> Shared -> Prop} (hu : X.A.units + 1 < cLine) (I : Inv X pins σ H s) (ho : s.heap.get? a = some (seqObj "list" us.toArray n0)) (hf : zh0 X pins H a) (rv : Vals xs us) (hl : us.length < 64)
  (hc : zhY X σ H f xs kd)
  (hQ : ∀ (p : Array Nat) (H' : Hp) (s' : Shared), Arr us.length p -> Up (ltP kd) p us.length -> zba H H' -> H' a = none -> Inv X pins σ (upd H' a (.lst (p.toList.map fun i => xs.getD i .non))) s' -> P (.done (.ret .none)) s') :
  wpAny (model X.prog X.w) X.A (ksk_tree a (.ref f) false) P E s := by
 have hk : ∀ {xs : List V} {kd : List WK}, zhY X σ H f xs kd -> kd.length = xs.length := by
  intro xs
  induction xs with
  | nil => intro kd h; have : kd = [] := h; subst this; rfl
  | cons x r ih => intro kd h; obtain ⟨k, t, rfl, _, h2⟩ := h; simp [ih h2]
 have hkl := hk hc
 have hxl := rv.length
 have s1 := Heap.SameBut.update s.heap a (Obj.mapSeq fun _ => (#[] : Array Value))
 obtain ⟨e1, ho1⟩ : ∃ e1, (s.heap.update a (Obj.mapSeq fun _ => (#[] : Array Value))).get? a = some (seqObj "list" #[] e1) := ⟨_, get?_update_seq ho fun _ => #[]⟩
 unfold ksk_tree
 refine wpAny_bind (listItems_at ho rfl ?_)
 refine wpAny_bind (listUpdate_at ho rfl ?_ (by rw [List.size_toArray, sizeLine_eq]; omega) (Nat.zero_le _))
 refine wpAny_bind (seqEpoch_at ho1 rfl ?_)
 refine wpAny_bind (wpAny_newTuple ?_ (by show us.length <= _; rw [sizeLine_eq]; omega))
 refine wpAny_bind (wpAny_newList ?_ (Nat.zero_le _))
 refine wpAny_holding ?_
 have I1 : Inv X pins σ H { s with heap := s.heap.update a (Obj.mapSeq fun _ => (#[] : Array Value)) } := I.turned (t' := s.toks) (fun b o hb e => (s1.2 b hb).trans e) hf.1 hf.2.1 hf.2.2.2.1 hf.2.2.2.2.1 hf.2.2.2.2.2
 have k2 : ∀ b u, (s.heap.update a (Obj.mapSeq fun _ => (#[] : Array Value))).get? b = some u -> (((s.heap.update a (Obj.mapSeq fun _ => (#[] : Array Value))).push (seqObj "tuple" us.toArray 0)).push (seqObj "list" #[] 0)).get? b = some u := fun b u e => Heap.get?_push_of_some _ (Heap.get?_push_of_some _ e)
 have I2 : Inv X pins σ H { s with heap := ((s.heap.update a (Obj.mapSeq fun _ => (#[] : Array Value))).push (seqObj "tuple" us.toArray 0)).push (seqObj "list" #[] 0) } := I1.kept (t' := s.toks) k2
 have ho2 := k2 a _ ho1
 have hkS : (((s.heap.update a (Obj.mapSeq fun _ => (#[] : Array Value))).push (seqObj "tuple" us.toArray 0)).push (seqObj "list" #[] 0)).get? ((s.heap.update a (Obj.mapSeq fun _ => (#[] : Array Value))).push (seqObj "tuple" us.toArray 0)).objs.size = some (seqObj "list" ([] : List Value).toArray 0) := Heap.get?_push_size _ rfl
 have hge : s.heap.objs.size <= ((s.heap.update a (Obj.mapSeq fun _ => (#[] : Array Value))).push (seqObj "tuple" us.toArray 0)).objs.size := by rw [size_push', Heap.size_update]; omega
 have I3 : Inv X (pins ++ [(a, seqObj "list" #[] e1)]) σ H { s with heap := ((s.heap.update a (Obj.mapSeq fun _ => (#[] : Array Value))).push (seqObj "tuple" us.toArray 0)).push (seqObj "list" #[] 0) } := I2.zit fun p hp => by
  rcases List.mem_append.mp hp with z | z
  ·exact I2.pin p (List.mem_append_right _ z)
  ·have e : p = (a, seqObj "list" #[] e1) := by simpa using z
   subst e
   exact ⟨ho2, hf.1, hf.2.1, hf.2.2.1, fun v z => nomatch z⟩
 have fkS : zh0 X (pins ++ [(a, seqObj "list" #[] e1)]) H ((s.heap.update a (Obj.mapSeq fun _ => (#[] : Array Value))).push (seqObj "tuple" us.toArray 0)).objs.size := by
  obtain ⟨f0, f1, f2, f3, f4, f5⟩ := I.zph hge (I.hok.fresh hge)
  refine ⟨f0, f1, f2, f3, f4, fun p hp => ?_⟩
  rw [<- List.append_assoc] at hp
  rcases List.mem_append.mp hp with z | z
  ·exact f5 p z
  ·have e : p = (a, seqObj "list" #[] e1) := by simpa using z
   subst e
   exact Nat.ne_of_lt (Nat.lt_of_lt_of_le (Heap.lt_size ho) hge)
 generalize hks : ((s.heap.update a (Obj.mapSeq fun _ => (#[] : Array Value))).push (seqObj "tuple" us.toArray 0)).objs.size = kS at hkS fkS ⊢
 have nka : kS ≠ a := fun z => fkS.2.2.2.2.2 (a, seqObj "list" #[] e1) (List.mem_append_right _ (List.mem_append_right _ (by simp))) z.symm
 clear hge hks k2 I2 I1
 unfold ksk_rest
 refine wpAny_bind (wpAny_rule ?_)
 first
  | rw [List.forIn_toArray]
  | (rw [<- Array.forIn_toList]; simp only [List.toList_toArray])
  | rw [<- Array.forIn_toList]
 refine wpAny_bind (wpAny_mono (zkY (E := E) (H0 := H) (a := a) (oa := seqObj "list" #[] e1) (kS := kS) (f := f) (Q := fun s' => ∃ H' done kvs e', Inv X (pins ++ [(a, seqObj "list" #[] e1)]) σ H' s' /\ zba H H' /\ zh0 X (pins ++ [(a, seqObj "list" #[] e1)]) H' kS /\ s'.heap.get? kS = some (seqObj "list" (List.toArray done) e') /\ Vals kvs done /\ zhX H' kd kvs)
  (fun x s' C hx => ?_) us xs kd [] [] [] 0 H _ rv (by simpa using hl) I3 (zba.refl _) fkS hkS .nil rfl hc fun H' s' d' kv' e' a1 a2 a3 a4 a5 a6 => ⟨H', d', kv', e', a1, a2, a3, a4, a5, a6⟩) (fun _ s' hd => ?_) fun _ _ z => z)
 ·refine wpAny_bind (wpAny_attempt (wpAny_mono hx (fun k s'' hk => ?_) fun _ _ hF => hF.elim))
  try dsimp only
  exact wpAny_bind (wpAny_mono hk (fun _ s3 h3 => wpAny_pure ⟨rfl, h3⟩) fun _ _ z => z)
 ·obtain ⟨H', done, kvs, e', I4, sm, fk, hk4, rk, ks⟩ := hd
  try dsimp only
  refine wpAny_bind (listItems_at hk4 rfl ?_)
  have hdl : done.length = us.length := by rw [<- rk.length, ks.len, hkl, hxl]
  obtain ⟨pa1, pa2, _⟩ := I4.pin (a, seqObj "list" #[] e1) (List.mem_append_right _ (List.mem_append_right _ (by simp)))
  have tail : ∀ (st : SortSt) (p : Array Nat), Arr us.length p -> Up (ltP kd) p us.length -> (arrOf st).map (·.2) = List.toArray (p.toList.map fun i => us.getD i Value.none) -> failedOf st = none ->
    wpAny (model X.prog X.w) X.A (ksk_tail a false e1 (.ref kS) st) P E s' := fun st p ar up har hfl => by
   have hps : p.size = us.length := ar.sz
   have hout : (List.toArray (p.toList.map fun i => us.getD i Value.none)).size = us.length := by rw [List.size_toArray, List.length_map, Array.length_toList, hps]
   have t1 := Heap.SameBut.update s'.heap kS (Obj.mapSeq fun _ => (#[] : Array Value))
   have na1 : (s'.heap.update kS (Obj.mapSeq fun _ => (#[] : Array Value))).get? a = some (seqObj "list" #[] e1) := (t1.2 a nka.symm).trans pa1
   have t2 := Heap.SameBut.update (s'.heap.update kS (Obj.mapSeq fun _ => (#[] : Array Value))) a (Obj.mapSeq fun _ => List.toArray (p.toList.map fun i => us.getD i Value.none))
   obtain ⟨c2, hc2⟩ : ∃ c2, ((s'.heap.update kS (Obj.mapSeq fun _ => (#[] : Array Value))).update a (Obj.mapSeq fun _ => List.toArray (p.toList.map fun i => us.getD i Value.none))).get? a = some (seqObj "list" (List.toArray (p.toList.map fun i => us.getD i Value.none)) c2) :=
    ⟨_, get?_update_seq na1 fun _ => List.toArray (p.toList.map fun i => us.getD i Value.none)⟩
   unfold ksk_tail
   try dsimp only
   rw [har]
   refine wpAny_bind (listUpdate_at hk4 rfl ?_ (by rw [List.size_toArray, sizeLine_eq]; omega) (Nat.zero_le _))
   refine wpAny_bind (wpAny_letGo ?_)
   refine wpAny_bind (seqEpoch_at na1 rfl ?_)
   refine wpAny_bind (listUpdate_at na1 rfl ?_ (Nat.zero_le _) (by simp only [Bool.false_eq_true, if_false]; rw [hout, sizeLine_eq]; omega))
   rw [hfl]
   simp only [bne_self_eq_false, Bool.false_eq_true, if_false]
   have I5 := I4.turned (t' := s'.toks) (fun b o hb e => (t1.2 b hb).trans e) fk.1 fk.2.1 fk.2.2.2.1 fk.2.2.2.2.1 fk.2.2.2.2.2
   have I6 : Inv X pins σ H' { s' with heap := s'.heap.update kS (Obj.mapSeq fun _ => (#[] : Array Value)) } := I5.zdh
   refine wpAny_pure (hQ p H' _ ar up sm pa2 (I6.adopt (t' := s'.toks) (fun b u hb e => (t2.2 b hb).trans e) ⟨pa2, hf.2⟩ ?_))
   have mem : ∀ i ∈ p.toList, i < us.length := fun i hi => by
    have := (Array.perm_iff_toList_perm.mp ar.pm).mem_iff.mp hi
    simpa using this
   exact ⟨by rw [List.length_map, Array.length_toList, hps, sizeLine_eq]; omega, p.toList.map fun i => us.getD i Value.none, c2, zkz p.toList rv mem, hc2⟩
  unfold ksk_end
  try dsimp only
  simp only [Bool.false_eq_true, if_false]
  by_cases h2 : us.toArray.size < 2
  ·rw [if_pos h2, if_pos h2]
   rw [List.size_toArray] at h2
   refine wpAny_bind (wpAny_pure ?_)
   rw [StateT.run_pure]
   refine wpAny_bind (wpAny_pure ?_)
   try dsimp only
   refine tail _ (List.toArray (List.range us.length)) (zt6 _) (fun i j hij hj => ?_) ?_ rfl
   ·have : i = j := by omega
    subst this
    exact (zvM kd).refl _
   ·show ((done.toArray.zip us.toArray).map (·.2)) = _
    apply Array.toList_inj.mp
    rw [Array.toList_map, ksk_zip]
    simp only [List.toList_toArray]
    rw [List.map_snd_zip (by omega)]
    apply List.ext_getElem (by simp)
    intro i h3 h4
    simp [List.getD_eq_getElem?_getD, List.getElem?_eq_getElem h3]
  ·rw [if_neg h2, if_neg h2]
   rw [List.size_toArray] at h2
   have tups : ∀ {ks : List WK} {kv : List V} {ds : List Value}, zhX H' ks kv -> Vals kv ds -> ∃ fs : List Value, KatTups s'.heap ds fs /\ fs.length = ds.length /\ ∀ v ∈ fs, ∃ i t, v = Value.int i t := by
    intro ks
    induction ks with
    | nil => intro kv ds h r; have : kv = [] := h; subst this; cases r; exact ⟨[], .nil, rfl, fun v hv => by simp at hv⟩
    | cons k r0 ih =>
     intro kv ds h r
     obtain ⟨v, t, rfl, h1, h2⟩ := h
     cases r with
     | cons r1 r2 =>
      obtain ⟨fs, t1, t2, t3⟩ := ih h2 r2
      obtain ⟨b, o, n0, c, tk, rfl, g1, g2, g3, _⟩ := zj8 I4 h1 r1
      refine ⟨.int k.1 tk :: fs, .cons g1 g2 g3 rfl t1, by simp [t2], fun v hv => ?_⟩
      rcases List.mem_cons.mp hv with rfl | hv
      ·exact ⟨_, _, rfl⟩
      ·exact t3 v hv
   obtain ⟨fs, kt, lfs, hfs⟩ := tups ks rk
   refine wpAny_bind (kat_kind (T := .type "int") kt (by omega) (fun v hv => by obtain ⟨i, t, rfl⟩ := hfs v hv; exact Looks.of_pure rfl) (by decide) ?_)
   rw [show ((Value.type "int" != Value.type "tuple") : Bool) = true from by decide]
   refine wpAny_bind (wpAny_mono (kat_run (E := E) (vs := us) (ks := done) (κ := tuples' true) (Q := fun st' s2 => s2 = s' /\ ∃ p : Array Nat, Arr us.length p /\ Up (ltP kd) p us.length /\ arrOf st' = p.map (kas_item (done.toArray.zip us.toArray)) /\ failedOf st' = none) hdl (by omega) hl
    (G := fun p s2 => s2 = s' /\ Arr us.length p /\ Up (ltP kd) p us.length) (fun p st' s2 a1 a2 a3 a4 => ⟨a4.1, p, a4.2.1, a4.2.2, a2, a3⟩) ?_) ?_ fun _ _ z => z)
   ·refine zqq (P := fun s2 => s2 = s') (zvM kd) (fun i j C s2 hi hj es hC => ?_) (by omega) rfl fun p s2 es ar up => ⟨es, ar, up⟩
    subst es
    have hget : ∀ i, i < us.length -> ∃ v u, kvs[i]? = some v /\ RelV v u /\ done.getD i Value.none = u := fun i hi => by
     have hi' : i < kvs.length := by rw [rk.length]; omega
     obtain ⟨u, eu, ru⟩ := rk.get (List.getElem?_eq_getElem hi')
     exact ⟨_, u, List.getElem?_eq_getElem hi', ru, by rw [List.getD_eq_getElem?_getD, eu]; rfl⟩
    obtain ⟨v, u, g1, g2, g3⟩ := hget i hi
    obtain ⟨v', u', g1', g2', g3'⟩ := hget j hj
    show wpAny _ _ (keyLt' (tuples' true) (done.getD i Value.none) (done.getD j Value.none)) _ _ _
    rw [g3, g3']
    exact zsB hu I4 (ks.get g1) (ks.get g1') g2 g2' (hC _ rfl)
   ·rintro ⟨⟨⟩, st'⟩ s2 ⟨es, p, ar, up, har, hfl⟩
    have es' : s2 = s' := es
    subst es'
    try dsimp only
    exact tail st' p ar up (kat_snds hdl har) hfl
end
end L2
namespace L2
open PySem PySem.Spec PyProof.Rows PySem.W
def KTs (H : Hp) : List (List Key × V) -> List V -> Prop
 | [], xs => xs = []
 | kv :: r, xs => ∃ b t, xs = .ref b :: t /\ TAt H b (kv.1.map kV) /\ KTs H r t
def zog (H : Hp) (d : Addr) (xs : List V) : Prop := (∃ kvs, Rd H d (.dT kvs) /\ KTs H kvs xs) \/ ∃ kvs : List (Key × V), Rd H d (.dK kvs) /\ xs = kvs.map fun kv => kV kv.1
section
variable {X : Cx} {pins : List (Addr × Obj)} {σ : L2.St} {H : Hp} {s : Shared} {d f : Addr}
theorem zpV : ∀ {kvs : List (List Key × V)} {ys : List (List Key × Addr × Value)}, KT H kvs ys -> KTs H kvs (ys.map fun y => V.ref y.2.1)
 | [], _, .nil => rfl
 | kv :: r, _, .cons h t => ⟨_, _, rfl, h.2.1, zpV t⟩
theorem zps {A : Around} {E : Value -> Shared -> Prop} {Q : List Value -> Shared -> Prop} (hh : A.handled = none) (I : Inv X pins σ H s) (rd : IsD H d) (hn : ∀ xs, zog H d xs -> xs.length < 64)
  (hQ : ∀ xs us s', zog H d xs -> Vals xs us -> Inv X pins σ H s' -> Q us s') : wpAny (model X.prog X.w) A (collect (.ref d)) Q E s := by
 have fin : ∀ (s' : Shared), (∀ b o, s.heap.get? b = some o -> s'.heap.get? b = some o) -> s'.gens = s.gens -> s'.drawn = s.drawn -> s'.os = s.os -> Inv X pins σ H s' := fun s' k g dr os => by
  obtain ⟨h, g', dr', tk, os'⟩ := s'
  simp only at g dr os
  subst g; subst dr; subst os
  exact I.kept (t' := tk) k
 rcases rd with ⟨kvs, rd⟩ | ⟨kvs, rd⟩
 ·obtain ⟨z, sy, vs, rel, dd⟩ := zjx I.hok rd
  obtain ⟨ep, da⟩ := dd.dictAt
  have lk := hn _ (.inr ⟨kvs, rd, rfl⟩)
  rw [List.length_map] at lk
  have lv : kvs.length = vs.length := rel.length
  refine zjy hh sy da (by omega) fun s' acc hk hg hd ho hsz hacc => hQ (kvs.map fun kv => kV kv.1) _ s' (.inr ⟨kvs, rd, rfl⟩) ?_ (fin s' hk hg hd ho)
  have la : acc.toList.length = vs.length := by rw [Array.length_toList]; exact hacc.1
  refine zjL (by rw [List.length_map]; omega) fun j x v ex ev => ?_
  rw [Array.getElem?_toList] at ev
  obtain ⟨k, y, e1, e2⟩ := hacc.2 j v ev
  have lj : j < vs.length := Nat.lt_of_not_le fun c => by rw [List.getElem?_eq_none c] at e1; cases e1
  have lj' : j < kvs.length := lv ▸ lj
  obtain ⟨⟨k', y'⟩, e3, e4, _⟩ := zeh rel (List.getElem?_eq_getElem lj')
  rw [e1] at e3
  cases e3
  rw [List.getElem?_map, List.getElem?_eq_getElem lj'] at ex
  cases ex
  show RelV (kV kvs[j].1) v
  rw [show kvs[j].1 = k from e4]
  exact zkJ e2
 ·obtain ⟨z, sy, ys, kt, o, es, ep, e', r1, r2, r3, r4⟩ := zju I.hok rd
  have ks := zpV kt
  have lk := hn _ (.inl ⟨kvs, rd, ks⟩)
  have ly : kvs.length = ys.length := Paired.length kt
  have hsz : es.size = ys.length := size_of_entries r3
  rw [List.length_map] at lk
  refine zpr hh sy ⟨o, e', r1, r2⟩ (by omega) fun s' acc hk hg hd ho hs hacc => hQ _ _ s' (.inl ⟨kvs, rd, ks⟩) ?_ (fin s' hk hg hd ho)
  have la : acc.toList.length = es.size := by rw [Array.length_toList]; exact hacc.1
  refine zjL (by rw [List.length_map]; omega) fun j x v ex ev => ?_
  rw [Array.getElem?_toList] at ev
  obtain ⟨hj, rfl⟩ := hacc.2 j v ev
  have lj : j < ys.length := by omega
  rw [List.getElem?_map, List.getElem?_eq_getElem lj] at ex
  cases ex
  have := entry_at r3 j
  rw [List.getElem?_eq_getElem lj, Array.getElem?_eq_getElem hj] at this
  simp only [Option.map_some, Option.some.injEq] at this
  rw [this]
  rfl
theorem zjz {Q : VK} {E : Value -> Shared -> Prop} (hu : X.A.units + 3 < cLine) (hc : X.calm = true) (I : Inv X pins σ H s) (rd : IsD H d) (hn : ∀ xs, zog H d xs -> xs.length < 64)
  (h : ∀ xs, zog H d xs -> ∃ kd, zhY X.in1.in1 σ H f xs kd /\ ∀ (p : Array Nat) (a : Addr) (H' : Hp), Arr xs.length p -> Up (ltP kd) p xs.length -> zba H H' -> H' a = none -> Q (.ref a) (upd H' a (.lst (p.toList.map fun i => xs.getD i .non)))) :
  wpAny (model X.prog X.w) X.A (call (.builtin "sorted") [.ref d] [(Str.ofString "key", .ref f)]) (EP X pins σ Q) E s := by
 refine call_function_entry_kw kind_sorted plain_sorted entry_sorted (ksk_s1 _ _) ?_
 unfold Builtin.«sorted»
 refine wpAny_bind (m := checkCount "sorted" 1 1 _) (wpAny_pure ?_)
 refine wpAny_bind (zps (show X.A.in1.handled = none from I.ok.hd hc) I rd hn fun xs us s1 dk rv I1 => ?_)
 have hx := hn xs dk
 have hxl := rv.length
 obtain ⟨kd, kc, hq⟩ := h xs dk
 refine wpAny_bind (wpAny_newList ?_ (by rw [sizeLine_eq]; omega))
 have hoL : (s1.heap.push (seqObj "list" us.toArray 0)).get? s1.heap.objs.size = some (seqObj "list" us.toArray 0) := Heap.get?_push_size _ rfl
 have I2 : Inv X pins σ H { s1 with heap := s1.heap.push (seqObj "list" us.toArray 0) } := I1.kept (t' := s1.toks) fun b u e => Heap.get?_push_of_some _ e
 have fa : zh0 X pins H s1.heap.objs.size := I1.zph (Nat.le_refl _) (I1.hok.fresh (Nat.le_refl _))
 refine wpAny_bind (wpAny_holding (wpAny_call_entry_kw slot_list_sort ⟨_, hoL, rfl⟩ entry_list_sort ?body (ksk_l1 _ _)))
 case body =>
  show wpAny (model X.prog X.w) X.in1.in1.A (Builtin.«list.sort» ⟨[.ref s1.heap.objs.size], [(Str.ofString "key", .ref f)]⟩) _ _ _
  rw [ksk_t1]
  refine zmk (X := X.in1.in1) (by show X.A.units + 1 + 1 + 1 < cLine; omega) I2.in1.in1 hoL fa rv (by omega) kc fun p H' s' ar up sm ha I3 => ⟨_, rfl, ?_⟩
  refine wpAny_pure ⟨_, rfl, .ref s1.heap.objs.size, _, I3.zul.zul, rfl, hq p _ H' (by rw [hxl]; exact ar) (by rw [hxl]; exact up) sm ha⟩
end
end L2
namespace L2
open PySem PySem.Spec PyProof.Rows PySem.W
section
variable {X : Cx} {pins : List (Addr × Obj)} {σ : L2.St} {H : Hp} {s : Shared} {a : Addr} {y v : V} {u r : Value} {A : Around} {E : Value -> Shared -> Prop}
theorem zl2 {H' : Hp} {Q : Unit -> Shared -> Prop} (hu : A.units < cLine) (I : Inv X pins σ H s) (g : DP H a y v H') (ry : RelV y u) (rv : RelV v r) (h : ∀ s', Inv X pins σ H' s' -> Q () s') :
  wpAny (model X.prog X.w) A (dictSet a u r) Q E s := by
 have base : ∀ {H : Hp} {s : Shared}, Inv X pins σ H s -> zof H a y v H' -> (∀ s', Inv X pins σ H' s' -> Q () s') -> wpAny (model X.prog X.w) A (dictSet a u r) Q E s := by
  intro H s I g h
  rcases g with ⟨kvs, k, e, ey, l, eH⟩ | ⟨kvs, k, b, e, ey, eb, l, eH⟩
  ·subst ey eH
   obtain ⟨z, hd, vs, rel, dd⟩ := zpk I.hok e
   have hz : vs.length <= sizeLine := by rw [<- rel.length]; exact z
   have hl : (putK kvs k v).length <= sizeLine := by have := zdr kvs k v; omega
   refine wpAny_dictSet_pairs (hsz := hz) (ziD ry) dd fun h' dd' hs => h _ ?_
   have he : ∃ q, h'.get? a = some q := let ⟨q, _, _, hq, _⟩ := dd'; ⟨q, hq⟩
   exact zd6 I (by rw [e]; exact True.intro) hs he (znL hl hd (rel.put k rv) dd')
  ·subst ey eH
   cases (show u = Value.ref b from ry)
   obtain ⟨z, hd, xs, rel, dd⟩ := zrj I.hok e
   have hz : xs.length <= sizeLine := by rw [<- Paired.length rel]; exact z
   have hl : (putK kvs k v).length <= sizeLine := by have := zdr kvs k v; omega
   refine wpAny_dictSet_heap (hsz := hz) (knd := tupleKind (zaS X.prog X.w)) hu (zdY I.hok eb) dd fun h' dd' hs => h _ ?_
   obtain ⟨q, es, ep, hq, h2, h3, h4, _, h5⟩ := dd'
   refine zd6 I (by rw [e]; exact True.intro) hs ⟨q, hq⟩ ⟨hl, hd, _, (rel.put k eb rv).keeps fun c ys ec => ?_, q, es, ep, hq, h2, h3, h4, h5⟩
   exact ec.upd (fun _ z => zhl z e (fun z => nomatch z)) fun _ _ z => zhl z e (fun z => nomatch z)
 rcases g with g | ⟨k, b, e, rfl, eb, rfl⟩ | ⟨k, e, rfl, rfl⟩
 ·exact base I g h
 ·have eb' : TAt (upd H a (.dT [])) b (k.map kV) := eb.upd (fun _ z => zhl z e (fun z => nomatch z)) fun _ _ z => zhl z e (fun z => nomatch z)
  have g := zof.t (H := upd H a (.dT [])) (a := a) (v := v) zau eb' (by decide)
  rw [zgt] at g
  exact base (I.kt e) g h
 ·have g := zof.k (H := upd H a (.dK [])) (a := a) (k := k) (v := v) zau (by decide)
  rw [zgt] at g
  exact base (I.tk e) g h
end
def zrO (tk tv : TE) : TE := fun σ H Q => ∀ p, H p = none -> tk σ (upd H p (.dT [])) fun x H1 => tv σ H1 fun y H2 => ∃ H3, DP H2 p x y H3 /\ Q (.ref p) H3
section
variable {X : Cx} {k v e : Expr} {tk tv te : TE} {pos p2 : Pos}
theorem zoS (hu : X.A.units + 1 < cLine) (hk : PE X k tk) (hv : PE X v tv) : PE X (.Dict [some k] [v] pos) (zrO tk tv) := by
 intro pins s σ H Q I q
 have hn := I.hok.fresh (Nat.le_refl s.heap.objs.size)
 have I1 := I.laid (a := s.heap.objs.size) (o := .dT []) (h' := s.heap.push { cls := .type "dict", data := .dict #[] }) (t' := s.toks) (fun _ _ q => Heap.get?_push_of_some _ q) (Nat.le_refl _) (zlc s.heap I.big)
 refine wpAny_Dict_any rfl rfl (by simp) (Nat.le_of_ble_eq_true rfl) (thn ((zoL hk hv zqK : PPs X pos [some k] [v] _) pins _ σ _ (fun ps H2 => match ps with
  | [(x, y)] => ∃ H3, DP H2 s.heap.objs.size x y H3 /\ Q (.ref s.heap.objs.size) H3
  | _ => False) I1 (q _ hn)) fun ws s2 ⟨ps, H2, I2, rel, q1⟩ => ?_)
 match ps, rel, q1 with
 | [(x, y)], .cons r1 .nil, ⟨H3, dp, q2⟩ =>
  unfold storeAll
  rw [List.forIn_cons]
  refine wpAny_bind (wpAny_bind (zl2 (by omega) I2 dp r1.1 r1.2 fun s3 I3 => wpAny_pure ?_))
  show wpAny _ _ (forIn ([] : List (Value × Value)) PUnit.unit _) _ _ s3
  rw [List.forIn_nil]
  exact wpAny_pure ⟨.ref s.heap.objs.size, H3, I3, rfl, q2⟩
def zv2 (K : PySem.W.Frag) (te : TE) : TE := fun σ H Q => te σ H fun x H1 => ∃ a xs, x = .ref a /\ SqL K H1 a xs /\ ∀ p, H1 p = none -> Q (.ref p) (upd H1 p (.lst xs.reverse))
theorem zky : ∀ {xs : List V} {us : List Value}, Vals xs us -> Vals xs.reverse us.reverse
 | _, _, .nil => .nil
 | _, _, .cons r t => by
  rw [List.reverse_cons, List.reverse_cons]
  exact (zky t).append (.cons r .nil)
theorem zpK {st : Expr} (he : PE X e te) (hst : PE X st (tC (.int (-1)))) : PE X (.Subscript e (.Slice none none (some st) p2) pos) (zv2 X.K te) := by
 intro pins s σ H Q I h
 refine Subscript_ (thn (he pins s σ H _ I h) fun v s1 ⟨x, H1, I1, r1, a, xs, ex, hx, q1⟩ => ?_)
 subst ex
 cases r1
 refine wpAny_Slice ?_
 rw [evalPart_none]
 refine wpAny_pure (wpAny_pure ?_)
 rw [evalPart_some]
 refine thn (hst pins s1 σ H1 (fun x H' => x = .int (-1) /\ H' = H1) I1 ⟨rfl, rfl⟩) fun w s3 ⟨z, H3, I3, rz, ez, eH⟩ => ?_
 subst ez; subst eH
 obtain ⟨t, rfl⟩ := rz
 have I4 : Inv X pins σ H3 { s3 with heap := s3.heap.push { cls := .type "slice", data := .fields #[.none, .none, .int (-1) t] } } := I3.kept (t' := s3.toks) fun b ob q => Heap.get?_push_of_some _ q
 obtain ⟨its, r, ht, hz⟩ := I4.list hx
 have hlen := r.length
 refine tail_any (ops := [.ref a, .ref s3.heap.objs.size]) ht.isList.typeIs slot_list_getitem.lookup ?_ (by with_unfolding_all rfl)
 refine wpAny_getItem_list_slice ht.isList (Heap.IsSliceOf.new ..) .none .none (.int _ _) (by simp) ?_ (by rw [List.size_toArray] <;> omega)
 rw [krv_pick]
 refine ⟨.ref (s3.heap.push { cls := .type "slice", data := .fields #[.none, .none, .int (-1) t] }).objs.size, _, I4.laid (t' := s3.toks) (o := .lst xs.reverse) (fun b ob q => Heap.get?_push_of_some _ q) (Nat.le_refl _) ?_, rfl, q1 _ (I4.hok.fresh (Nat.le_refl _))⟩
 exact ⟨by rw [List.length_reverse]; exact hz, _, 0, by simpa using zky r, Heap.get?_push_size _ rfl⟩
end
section
variable {prog : Program} {w : World} {A : Around} {E : Value -> Shared -> Prop} {s : Shared}
theorem zpq {l : Addr} {us : List Value} {Q : List Value -> Shared -> Prop} (hl : IsTup s.heap l us.toArray) (hsz : us.length <= sizeLine)
  (h : Q us { s with heap := (s.heap.push (seqObj "list" #[] 0)).update s.heap.objs.size (Obj.mapSeq (· ++ us.toArray)) }) : wpAny (model prog w) A (collect (.ref l)) Q E s := by
 obtain ⟨o, ho, hc, n, hd⟩ := id hl
 unfold collect
 refine wpAny_bind (wpAny_runValue (codeAny_builtin entry_proto_collect' ?_))
 show wpAny _ _ (do again (.builtin "list.__iadd__" ⟨[<- newList [], .ref l], []⟩)) _ _ s
 refine wpAny_bind (wpAny_newList (wpAny_pure ⟨Code.quiet_builtin _ (by decide +kernel), codeAny_builtin entry_list_iadd' ?_⟩))
 show wpAny _ _ (Builtin.List.listExtendWith (.ref s.heap.objs.size) (.ref l) (.ref s.heap.objs.size)) _ _ { s with heap := s.heap.push (seqObj "list" #[] 0) }
 unfold Builtin.List.listExtendWith
 have ho' : (s.heap.push (seqObj "list" #[] 0)).get? l = some o := Heap.get?_push_of_some _ ho
 refine wpAny_bind (wpAny_typeOf (T := "tuple") ⟨o, ho', hc⟩ ?_)
 have ht : (Value.type "tuple" == Value.type "tuple") = true := by rfl
 rw [if_pos (by rw [ht]; simp)]
 refine wpAny_bind (listItems_at ho' hd ?_)
 refine wpAny_bind (listItems_at (xs := #[]) (n := 0) (Heap.get?_push_size _ rfl) rfl ?_)
 rw [if_neg (by simp)]
 refine wpAny_bind (listUpdate_at (xs := #[]) (n := 0) (Heap.get?_push_size _ rfl) rfl ?_ (Nat.zero_le _) (by show (#[] ++ us.toArray).size <= sizeLine + 1; simp only [Array.size_append, List.size_toArray, List.length_nil]; omega))
 refine wpAny_pure ?_
 show wpAny (model prog w) A (do
   let o <- load s.heap.objs.size
   match o.data with
   | .seq xs _ => pure xs.toList
   | _ => unsupported "internal:collect") Q E { s with heap := (s.heap.push (seqObj "list" #[] 0)).update s.heap.objs.size (Obj.mapSeq (· ++ us.toArray)) }
 refine wpAny_bind (wpAny_load (get?_update_seq (Heap.get?_push_size _ rfl) _) ?_)
 show wpAny _ _ (pure ((#[] : Array Value) ++ us.toArray).toList) Q E _
 rw [show ((#[] : Array Value) ++ us.toArray).toList = us by simp]
 exact wpAny_pure h
end
theorem zjA {X : Cx} : ze5 X (.builtin "sorted") (fun xs H Q => ∃ (d : Addr) (ks : List Int), xs = [V.ref d] /\ (SqT X.K H d (ks.map V.int) \/ SqL X.K H d (ks.map V.int)) /\ ks.length < 64 /\
  ∀ (l : Addr) (ns : List Int), H l = none -> ns.Perm ks -> ns.Pairwise (· <= ·) -> Q (.ref l) (upd H l (.lst (ns.map V.int)))) := by
 intro pins s σ H xs us Q I r h
 obtain ⟨d, ks, rfl, hsq, lk, q⟩ := h
 obtain ⟨u, rfl, ru⟩ := vals1 r
 cases ru
 have coll : ∃ its : List Value, IntsAre its ks /\ ∀ {A : Around} {E : Value -> Shared -> Prop} {Q : List Value -> Shared -> Prop}, Q its { s with heap := (s.heap.push (seqObj "list" #[] 0)).update s.heap.objs.size (Obj.mapSeq (· ++ its.toArray)) } -> wpAny (model X.prog X.w) A (collect (.ref d)) Q E s := by
  rcases hsq with hsq | hsq
  ·obtain ⟨its, rv, p, hz⟩ := I.tuple hsq
   exact ⟨its, intsAre_of rv, fun hq => zpq p (by rw [<- rv.length]; exact hz) hq⟩
  ·obtain ⟨its, rv, p, hz⟩ := I.list hsq
   exact ⟨its, intsAre_of rv, fun hq => collect_list p.isList hq (by rw [<- rv.length]; exact hz)⟩
 obtain ⟨its, hI, coll⟩ := coll
 have li : its.length = ks.length := by have := hI.length; omega
 refine Calls.call_function_entry kind_sorted plain_sorted entry_sorted (args_sorted1 _) ?_
 unfold Builtin.«sorted»
 refine wpAny_bind (m := checkCount "sorted" 1 1 _) (wpAny_pure ?_)
 refine wpAny_bind (coll ?_)
 refine wpAny_bind (wpAny_newList ?_ (by rw [sizeLine_eq]; omega))
 have keep : ∀ b o, s.heap.get? b = some o -> ((s.heap.push (seqObj "list" #[] 0)).update s.heap.objs.size (Obj.mapSeq (· ++ its.toArray))).get? b = some o := fun b o e =>
  ((Heap.SameBut.update ..).2 b (Nat.ne_of_lt (Heap.lt_size e))).trans (Heap.get?_push_of_some _ e)
 have hsz : s.heap.objs.size <= ((s.heap.push (seqObj "list" #[] 0)).update s.heap.objs.size (Obj.mapSeq (· ++ its.toArray))).objs.size := by rw [Heap.size_update, size_push']; omega
 generalize (s.heap.push (seqObj "list" #[] 0)).update s.heap.objs.size (Obj.mapSeq (· ++ its.toArray)) = h1 at keep hsz ⊢
 have hoL : (h1.push (seqObj "list" its.toArray 0)).get? h1.objs.size = some (seqObj "list" its.toArray 0) := Heap.get?_push_size _ rfl
 refine wpAny_bind (wpAny_holding (wpAny_call_entry slot_list_sort ⟨_, hoL, rfl⟩ entry_list_sort (list_sort_tree hoL hI (by omega) fun out ns' a1 a2 a3 => ⟨_, rfl, ?_⟩) (args_list_sort _)))
 refine wpAny_pure ⟨_, rfl, .ref h1.objs.size, upd H h1.objs.size (.lst (ns'.map V.int)), ?_, rfl, q _ ns' (I.hok.fresh hsz) a2 a3⟩
 obtain ⟨e, he⟩ := sortedHeap_at (out := out) hoL
 have va := zhB a1
 refine I.laid (t' := s.toks) (fun b u eb => ?_) hsz ⟨by rw [List.length_map, a2.length_eq, sizeLine_eq]; omega, out.toList, e, va, by simpa [seqObj] using he⟩
 have lt := Heap.lt_size (keep b u eb)
 rw [sortedHeap_old (Nat.ne_of_lt lt) (by rw [Heap.size_push]; exact Nat.lt_succ_of_lt lt)]
 exact Heap.get?_push_of_some _ (keep b u eb)
end L2
namespace Q1
def fr (t b : Int) : Int × Int := if b < 0 then (t / -(Int.gcd t b : Int), b / -(Int.gcd t b : Int)) else (t / (Int.gcd t b : Int), b / (Int.gcd t b : Int))
structure Low (p q : Int) : Prop where
 pos : 0 < q
 cop : Int.gcd p q = 1
theorem zgW {t b : Int} (h : b ≠ 0) : 0 < (Int.gcd t b : Int) := by
 have : 0 < Int.gcd t b := Int.gcd_pos_of_ne_zero_right _ h
 omega
theorem zvu {t b : Int} : ((Int.gcd t b : Nat) : Int) ∣ t := Int.gcd_dvd_left ..
theorem zrk {t b : Int} : ((Int.gcd t b : Nat) : Int) ∣ b := Int.gcd_dvd_right ..
theorem zg8 {t b : Int} (h : b ≠ 0) : Int.gcd (t / (Int.gcd t b : Int)) (b / (Int.gcd t b : Int)) = 1 := by
 have hp : 0 < Int.gcd t b := Int.gcd_pos_of_ne_zero_right _ h
 exact Int.gcd_ediv_gcd_ediv_gcd hp
theorem zsS {t b : Int} (h : b ≠ 0) : Low (fr t b).1 (fr t b).2 := by
 have hg := zgW (t := t) h
 have c := zg8 (t := t) h
 unfold fr
 split
 ·rename_i hb
  refine ⟨?_, ?_⟩
  ·show 0 < b / -(Int.gcd t b : Int)
   rw [Int.ediv_neg]
   have := Int.ediv_mul_cancel (zrk (t := t) (b := b))
   have h1 : b / (Int.gcd t b : Int) < 0 := by
    rcases Int.lt_trichotomy (b / (Int.gcd t b : Int)) 0 with z | z | z
    ·exact z
    ·rw [z] at this; omega
    ·have := Int.mul_pos z hg; omega
   omega
  ·show Int.gcd (t / -(Int.gcd t b : Int)) (b / -(Int.gcd t b : Int)) = 1
   rw [Int.ediv_neg, Int.ediv_neg, Int.gcd_neg, Int.neg_gcd]
   exact c
 ·rename_i hb
  refine ⟨?_, c⟩
  show 0 < b / (Int.gcd t b : Int)
  have := Int.ediv_mul_cancel (zrk (t := t) (b := b))
  rcases Int.lt_trichotomy (b / (Int.gcd t b : Int)) 0 with z | z | z
  ·have := Int.mul_neg_of_neg_of_pos z hg; omega
  ·rw [z] at this; omega
  ·exact z
theorem zva {t b : Int} (h : b ≠ 0) : (fr t b).1 * b = t * (fr t b).2 := by
 have e1 := Int.ediv_mul_cancel (zvu (t := t) (b := b))
 have e2 := Int.ediv_mul_cancel (zrk (t := t) (b := b))
 have key : t / (Int.gcd t b : Int) * b = t * (b / (Int.gcd t b : Int)) := by
  calc t / (Int.gcd t b : Int) * b = t / (Int.gcd t b : Int) * (b / (Int.gcd t b : Int) * (Int.gcd t b : Int)) := by rw [e2]
   _ = t / (Int.gcd t b : Int) * (Int.gcd t b : Int) * (b / (Int.gcd t b : Int)) := by rw [Int.mul_assoc, Int.mul_comm (b / _)]
   _ = t * (b / (Int.gcd t b : Int)) := by rw [e1]
 unfold fr
 split
 ·show t / -(Int.gcd t b : Int) * b = t * (b / -(Int.gcd t b : Int))
  rw [Int.ediv_neg, Int.ediv_neg, Int.neg_mul, Int.mul_neg, key]
 ·exact key
theorem zg1 {q p r : Int} (h : q ∣ p * r) (c : Int.gcd p q = 1) : q ∣ r := by
 have h1 : q.natAbs ∣ p.natAbs * r.natAbs := by
  rw [<- Int.natAbs_mul]
  exact Int.natAbs_dvd_natAbs.mpr h
 have c' : Nat.Coprime q.natAbs p.natAbs := by
  show Nat.gcd q.natAbs p.natAbs = 1
  rw [Nat.gcd_comm]
  exact c
 exact Int.natAbs_dvd_natAbs.mp (Nat.Coprime.dvd_of_dvd_mul_left c' h1)
theorem zo4 {p q p' q' : Int} (a : Low p q) (b : Low p' q') (h : p * q' = p' * q) : p = p' /\ q = q' := by
 have d1 : q ∣ q' := by
  have : q ∣ p * q' := ⟨p', by rw [h, Int.mul_comm]⟩
  exact zg1 this a.cop
 have d2 : q' ∣ q := by
  have : q' ∣ p' * q := ⟨p, by rw [<- h, Int.mul_comm]⟩
  exact zg1 this b.cop
 have e : q = q' := Int.dvd_antisymm (Int.le_of_lt a.pos) (Int.le_of_lt b.pos) d1 d2
 refine ⟨?_, e⟩
 subst e
 exact Int.eq_of_mul_eq_mul_right (Int.ne_of_gt a.pos) h
theorem zsR {t b p q : Int} (hb : b ≠ 0) (l : Low p q) (h : p * b = t * q) : fr t b = (p, q) := by
 have e := zva (t := t) hb
 have l' := zsS (t := t) hb
 have : (fr t b).1 * q = p * (fr t b).2 := by
  have h2 : (fr t b).1 * q * b = p * (fr t b).2 * b := by
   calc (fr t b).1 * q * b = (fr t b).1 * b * q := by rw [Int.mul_assoc, Int.mul_comm q, Int.mul_assoc]
    _ = t * (fr t b).2 * q := by rw [e]
    _ = t * q * (fr t b).2 := by rw [Int.mul_assoc, Int.mul_comm (fr t b).2, Int.mul_assoc]
    _ = p * b * (fr t b).2 := by rw [h]
    _ = p * (fr t b).2 * b := by rw [Int.mul_assoc, Int.mul_comm b, Int.mul_assoc]
  exact Int.eq_of_mul_eq_mul_right hb h2
 obtain ⟨a1, a2⟩ := zo4 l' l this
 exact Prod.ext a1 a2
theorem zsQ {t b : Int} (h : 0 < b) : fr t b = (t / (Int.gcd t b : Int), b / (Int.gcd t b : Int)) := by
 unfold fr
 rw [if_neg (by omega)]
end Q1
namespace Q1
theorem Low.ne {p q : Int} (l : Low p q) : q ≠ 0 := Int.ne_of_gt l.pos
theorem gcd_one {a b : Int} (h : ∀ d : Int, d ∣ a -> d ∣ b -> d ∣ 1) : Int.gcd a b = 1 := by
 have := h (Int.gcd a b : Int) (Int.gcd_dvd_left ..) (Int.gcd_dvd_right ..)
 have h2 : (Int.gcd a b) ∣ 1 := by
  have := Int.natAbs_dvd_natAbs.mpr this
  simpa using this
 exact Nat.dvd_one.mp h2
theorem dvd_one {a b d : Int} (h : Int.gcd a b = 1) (h1 : d ∣ a) (h2 : d ∣ b) : d ∣ 1 := by
 have := Int.dvd_coe_gcd h1 h2
 rw [h] at this
 exact this
theorem zgX {a b : Int} (h : Int.gcd a b = 1) : Int.gcd b a = 1 := by rw [Int.gcd_comm]; exact h
theorem gcd_mul {a b c : Int} (h1 : Int.gcd a b = 1) (h2 : Int.gcd a c = 1) : Int.gcd a (b * c) = 1 := by
 refine gcd_one fun d da db => ?_
 have c1 : Int.gcd b d = 1 := gcd_one fun e e1 e2 => dvd_one h1 (Int.dvd_trans e2 da) e1
 exact dvd_one h2 da (zg1 db c1)
theorem zk2 {a b a' b' : Int} (h : Int.gcd a b = 1) (h1 : a' ∣ a) (h2 : b' ∣ b) : Int.gcd a' b' = 1 :=
 gcd_one fun d da db => dvd_one h (Int.dvd_trans da h1) (Int.dvd_trans db h2)
theorem zgn {a b : Int} (h : b ∣ a) : a / b ∣ a := by
 obtain ⟨c, rfl⟩ := h
 by_cases z : b = 0
 ·subst z; simp
 ·rw [Int.mul_ediv_cancel_left _ z]; exact ⟨b, Int.mul_comm _ _⟩
theorem zc8 {a b : Int} (h : 0 < a * b) (hb : 0 < b) : 0 < a := by
 rcases Int.lt_trichotomy a 0 with z | z | z
 ·have := Int.mul_neg_of_neg_of_pos z hb; omega
 ·subst z; simp at h
 ·exact z
def zlC (p q r s : Int) : Int × Int :=
 let g := (Int.gcd q s : Int)
 let top := p * (s / g) + r * (q / g)
 let e := (Int.gcd top g : Int)
 (top / e, q / g * (s / e))
def zkD (p q r s : Int) : Int × Int :=
 (p / (Int.gcd p s : Int) * (r / (Int.gcd r q : Int)), q / (Int.gcd r q : Int) * (s / (Int.gcd p s : Int)))
theorem zmL {p q r s g m t e top T G : Int} (l1 : Low p q) (l2 : Low r s) (g0 : 0 < g) (e0 : 0 < e) (hq : q = m * g) (hs : s = t * g) (hmt : Int.gcd m t = 1)
  (ht : top = p * t + r * m) (hT : top = T * e) (hG : g = G * e) (hTG : Int.gcd T G = 1) : Low T (m * (t * G)) /\ T * (q * s) = (p * s + r * q) * (m * (t * G)) := by
 have hm : 0 < m := zc8 (by rw [<- hq]; exact l1.pos) g0
 have htt : 0 < t := zc8 (by rw [<- hs]; exact l2.pos) g0
 have hGG : 0 < G := zc8 (by rw [<- hG]; exact g0) e0
 refine ⟨⟨Int.mul_pos hm (Int.mul_pos htt hGG), ?_⟩, ?_⟩
 ·have dT : T ∣ top := ⟨e, hT⟩
  have c1 : Int.gcd T m = 1 := by
   refine gcd_one fun d da db => ?_
   have h1 : d ∣ p * t := by
    have h2 : d ∣ p * t + r * m := by rw [<- ht]; exact Int.dvd_trans da dT
    exact (Int.dvd_add_left (Int.dvd_mul_of_dvd_right db)).mp h2
   have h3 : Int.gcd p d = 1 := zk2 l1.cop (Int.dvd_refl _) (by rw [hq]; exact Int.dvd_trans db (Int.dvd_mul_right ..))
   exact dvd_one hmt db (zg1 h1 h3)
  have c2 : Int.gcd T t = 1 := by
   refine gcd_one fun d da db => ?_
   have h1 : d ∣ r * m := by
    have h2 : d ∣ p * t + r * m := by rw [<- ht]; exact Int.dvd_trans da dT
    exact (Int.dvd_add_right (Int.dvd_mul_of_dvd_right db)).mp h2
   have h3 : Int.gcd r d = 1 := zk2 l2.cop (Int.dvd_refl _) (by rw [hs]; exact Int.dvd_trans db (Int.dvd_mul_right ..))
   exact dvd_one hmt (zg1 h1 h3) db
  exact gcd_mul c1 (gcd_mul c2 hTG)
 ·have k1 : p * s + r * q = top * g := by
   rw [hq, hs, ht, Int.add_mul, Int.mul_assoc, Int.mul_assoc]
  rw [k1, hT, hq, hs]
  rw [show m * g * (t * g) = m * (t * G) * (e * g) by rw [show t * g = t * (G * e) by rw [hG]]; ac_rfl]
  ac_rfl
theorem zqO {p q r s : Int} (l1 : Low p q) (l2 : Low r s) : zlC p q r s = fr (p * s + r * q) (q * s) := by
 have g0 : 0 < (Int.gcd q s : Int) := zgW l2.ne
 have d1 : (Int.gcd q s : Int) ∣ q := Int.gcd_dvd_left ..
 have d2 : (Int.gcd q s : Int) ∣ s := Int.gcd_dvd_right ..
 have e0 : 0 < (Int.gcd (p * (s / (Int.gcd q s : Int)) + r * (q / (Int.gcd q s : Int))) (Int.gcd q s : Int) : Int) := zgW (Int.ne_of_gt g0)
 have d3 := Int.gcd_dvd_left (a := p * (s / (Int.gcd q s : Int)) + r * (q / (Int.gcd q s : Int))) (b := (Int.gcd q s : Int))
 have d4 := Int.gcd_dvd_right (a := p * (s / (Int.gcd q s : Int)) + r * (q / (Int.gcd q s : Int))) (b := (Int.gcd q s : Int))
 have core := zmL l1 l2 g0 e0 (Int.ediv_mul_cancel d1).symm (Int.ediv_mul_cancel d2).symm (zg8 l2.ne) rfl (Int.ediv_mul_cancel d3).symm (Int.ediv_mul_cancel d4).symm (zg8 (Int.ne_of_gt g0))
 have e : zlC p q r s = (_, _) := rfl
 have hs : s / (Int.gcd (p * (s / (Int.gcd q s : Int)) + r * (q / (Int.gcd q s : Int))) (Int.gcd q s : Int) : Int) = s / (Int.gcd q s : Int) * ((Int.gcd q s : Int) / (Int.gcd (p * (s / (Int.gcd q s : Int)) + r * (q / (Int.gcd q s : Int))) (Int.gcd q s : Int) : Int)) := by
  refine Int.ediv_eq_of_eq_mul_left (Int.ne_of_gt e0) ?_
  rw [Int.mul_assoc, Int.ediv_mul_cancel d4, Int.ediv_mul_cancel d2]
 symm
 refine zsR (Int.ne_of_gt (Int.mul_pos l1.pos l2.pos)) (p := (zlC p q r s).1) (q := (zlC p q r s).2) ?_ ?_
 ·have : (zlC p q r s).2 = _ := rfl
  rw [this]
  show Low _ (q / (Int.gcd q s : Int) * (s / _))
  rw [hs]
  exact core.1
 ·show _ * (q * s) = _ * (q / (Int.gcd q s : Int) * (s / _))
  rw [hs]
  exact core.2
theorem zoo {p q r s : Int} (l1 : Low p q) (l2 : Low r s) : zkD p q r s = fr (p * r) (q * s) := by
 have m0 : 0 < (Int.gcd p s : Int) := zgW l2.ne
 have i0 : 0 < (Int.gcd r q : Int) := zgW l1.ne
 have a1 : (Int.gcd p s : Int) ∣ p := Int.gcd_dvd_left ..
 have a2 : (Int.gcd p s : Int) ∣ s := Int.gcd_dvd_right ..
 have b1 : (Int.gcd r q : Int) ∣ r := Int.gcd_dvd_left ..
 have b2 : (Int.gcd r q : Int) ∣ q := Int.gcd_dvd_right ..
 symm
 refine zsR (Int.ne_of_gt (Int.mul_pos l1.pos l2.pos)) (p := (zkD p q r s).1) (q := (zkD p q r s).2) ⟨?_, ?_⟩ ?_
 ·refine Int.mul_pos ?_ ?_
  ·exact zc8 (by rw [Int.ediv_mul_cancel b2]; exact l1.pos) i0
  ·exact zc8 (by rw [Int.ediv_mul_cancel a2]; exact l2.pos) m0
 ·show Int.gcd (p / _ * (r / _)) (q / _ * (s / _)) = 1
  have x1 : Int.gcd (p / (Int.gcd p s : Int)) (q / (Int.gcd r q : Int)) = 1 := zk2 l1.cop (zgn a1) (zgn b2)
  have x2 : Int.gcd (p / (Int.gcd p s : Int)) (s / (Int.gcd p s : Int)) = 1 := zg8 l2.ne
  have x3 : Int.gcd (r / (Int.gcd r q : Int)) (q / (Int.gcd r q : Int)) = 1 := zg8 l1.ne
  have x4 : Int.gcd (r / (Int.gcd r q : Int)) (s / (Int.gcd p s : Int)) = 1 := zk2 l2.cop (zgn b1) (zgn a2)
  exact zgX (gcd_mul (zgX (gcd_mul x1 x2)) (zgX (gcd_mul x3 x4)))
 ·show p / (Int.gcd p s : Int) * (r / (Int.gcd r q : Int)) * (q * s) = p * r * (q / (Int.gcd r q : Int) * (s / (Int.gcd p s : Int)))
  have y1 := Int.ediv_mul_cancel a1
  have y2 := Int.ediv_mul_cancel a2
  have y3 := Int.ediv_mul_cancel b1
  have y4 := Int.ediv_mul_cancel b2
  generalize (Int.gcd p s : Int) = m at *
  generalize (Int.gcd r q : Int) = i at *
  generalize p / m = P at *
  generalize s / m = S at *
  generalize r / i = R at *
  generalize q / i = Q at *
  rw [<- y1, <- y2, <- y3, <- y4]
  ac_rfl
end Q1
namespace QR
open Q1
theorem low (r : Rat) : Low r.num r.den := ⟨by have := r.den_nz; omega, by
 have := r.reduced
 unfold Nat.Coprime at this
 show Nat.gcd r.num.natAbs (r.den : Int).natAbs = 1
 simpa using this⟩
theorem zww (t : Int) (d : Nat) : (Int.gcd t (d : Int)) = Nat.gcd t.natAbs d := by
 show Nat.gcd t.natAbs (d : Int).natAbs = _
 simp
theorem norm {t : Int} {d : Nat} (h : d ≠ 0) : fr t (d : Int) = ((Rat.normalize t d h).num, ((Rat.normalize t d h).den : Int)) := by
 rw [zsQ (by omega), Rat.normalize_eq, zww]
 simp
theorem add (r s : Rat) : fr (r.num * s.den + s.num * r.den) ((r.den : Int) * s.den) = ((r + s).num, ((r + s).den : Int)) := by
 rw [Rat.add_def, <- norm]
 congr 1
theorem mul (r s : Rat) : fr (r.num * s.num) ((r.den : Int) * s.den) = ((r * s).num, ((r * s).den : Int)) := by
 rw [Rat.mul_def, <- norm]
 congr 1
def Bd (n : Nat) (r : Rat) : Prop := r.num.natAbs < 2 ^ n /\ r.den < 2 ^ n
def part (xs ys : List Rat) : Nat -> Rat
 | 0 => 0
 | i + 1 => part xs ys i + xs.getD i 0 * ys.getD i 0
end QR
namespace KC
open PySem L2 PySem.Spec PyProof.Rows
structure Blt (mg : Str -> Option Value) : Prop where
 zj1 : mg "abs" = none
 zaL : mg "isinstance" = none
 zlH : mg "int" = none
 zgI : mg "bool" = none
 zcZ : mg "tuple" = none
 zdK : mg "len" = none
 zj0 : mg "all" = none
 zjf : mg "list" = none
 zcx : mg "range" = none
 zmX : mg "zip" = none
 zcy : mg "enumerate" = none
namespace Bt
theorem isinstance : bootBuiltins "isinstance" = some (.builtin "isinstance") := by decide +kernel
end Bt
def isInt : PyData -> Bool
 | .int _ | .bool _ => true | _ => false
def zgc (T c : String) : Option Bool := if (Value.type T == Value.type c) = true then some true else if PySem.W.kitMeta c = true then (fastBuiltinMro T).map (·.contains (.type c)) else none
end KC
namespace KC
open PySem L2 PySem.Spec PyProof.Rows
end KC
namespace KC
open PySem L2 PySem.Spec PyProof.Rows
end KC
namespace FL
open PySem
abbrev D := PyData
inductive R (α : Type) where
 | bad
 | err (c : String) (fs : List D)
 | ok (a : α)
def R.bind {α β : Type} (r : R α) (k : α -> R β) : R β := match r with
 | .bad => .bad
 | .err c f => .err c f
 | .ok a => k a
theorem zaf {α β : Type} (a : α) (k : α -> R β) : (R.ok a).bind k = k a := rfl
def chk {α : Type} (c : Bool) (r : R α) : R α := if c = true then r else .bad
theorem zaQ {α : Type} {c : Bool} {r : R α} (h : c = true) : chk c r = r := if_pos h
inductive Sl where
 | no
 | val (d : D)
 | ow (p : Bool) (d : D)
abbrev En := List Sl
inductive Fl where
 | nx | bk | ct
 | rt (d : D)
 | rf (d : D)
abbrev EF := En -> R (D × En)
abbrev TF := En -> R (Bool × En)
abbrev AF := En -> R (List D × En)
abbrev SF := En -> R (Fl × En)
abbrev GF := D -> En -> R En
def tyOf : D -> String
 | .none => "NoneType" | .bool _ => "bool" | .int _ => "int" | .str _ => "str" | .list _ => "list" | .tuple _ => "tuple" | .dict _ => "dict"
def isI (T : String) (d : D) : Bool := match d with
 | .bool _ => T == "bool" || T == "int"
 | d => tyOf d == T
def lim : Nat := 1000000
def intsOf : List D -> Option (List Int)
 | [] => some []
 | .int i :: r => (intsOf r).map (i :: ·)
 | _ :: _ => none
def boolsOf : List D -> Option (List Bool)
 | [] => some []
 | .bool i :: r => (boolsOf r).map (i :: ·)
 | _ :: _ => none
def R.of {α : Type} : Option α -> R α
 | none => .bad
 | some a => .ok a
def leB (a b : Nat) : Bool := Nat.ble a b
theorem leB_iff {a b : Nat} : leB a b = true ↔ a <= b := Iff.of_eq Nat.ble_eq
theorem zcO {a b : Nat} (h : a <= b) : leB a b = true := leB_iff.mpr h
theorem zhu {a b : Nat} (h : leB a b = true) : a <= b := leB_iff.mp h
def zm1 (i j : Int) : Bool := leB (i.natAbs.log2 + j.natAbs.log2 + 2) 134217728
def zbw : D -> D -> R D
 | .int i, .int j => .ok (.int (i + j))
 | .list a, .list b => chk (leB (a.length + b.length) lim) (.ok (.list (a ++ b)))
 | .tuple a, .tuple b => chk (leB (a.length + b.length) lim) (.ok (.tuple (a ++ b)))
 | _, _ => .bad
def zkG : D -> D -> R D
 | .int i, .int j => .ok (.int (i - j))
 | _, _ => .bad
def zcz : D -> D -> R D
 | .int i, .int j => chk (zm1 i j) (.ok (.int (i * j)))
 | .tuple a, .int k => chk (!a.isEmpty && leB 2 k.toNat && leB k.toNat 1000000 && leB (a.length * k.toNat) lim) (.ok (.tuple (List.replicate k.toNat a).flatten))
 | _, _ => .bad
def zbg : D -> D -> R D
 | .int i, .int j => chk (decide (j ≠ 0) && leB (j.natAbs.log2 + 1) 9000) (.ok (.int (i.fdiv j)))
 | _, _ => .bad
def zgM : D -> D -> R D
 | .int i, .int j => chk (decide (j ≠ 0)) (.ok (.int (i.fmod j)))
 | _, _ => .bad
def zhk : D -> D -> R D
 | .int i, .int j => chk (decide (0 <= j) && leB j.toNat 1000000 && leB i.natAbs 18446744073709551615) (.ok (.int (i ^ j.toNat)))
 | _, _ => .bad
def zvJ : D -> D -> R D
 | .int i, .int j => chk (decide (0 <= j) && leB j.toNat 1000000 && leB i.natAbs 18446744073709551615) (.ok (.int (i * 2 ^ j.toNat)))
 | _, _ => .bad
def zwG : D -> R D
 | .int i => .ok (.int (-i))
 | _ => .bad
def eqD (a b : D) : R D := chk (SeqAt.shaped a && SeqAt.shaped b) (.ok (.bool (PyData.eqv a b)))
def neD (a b : D) : R D := chk (SeqAt.shaped a && SeqAt.shaped b) (.ok (.bool (!PyData.eqv a b)))
def lexLt : List Int -> List Int -> Bool
 | [], [] => false
 | [], _ :: _ => true
 | _ :: _, [] => false
 | x :: xs, y :: ys => if x = y then lexLt xs ys else decide (x < y)
def lexLe : List Int -> List Int -> Bool
 | [], [] => true
 | [], _ :: _ => true
 | _ :: _, [] => false
 | x :: xs, y :: ys => if x = y then lexLe xs ys else decide (x <= y)
def zfG : List Int -> List Int -> Bool
 | [], [] => false
 | [], _ :: _ => false
 | _ :: _, [] => true
 | x :: xs, y :: ys => if x = y then zfG xs ys else decide (y < x)
def zfH : List Int -> List Int -> Bool
 | [], [] => true
 | [], _ :: _ => false
 | _ :: _, [] => true
 | x :: xs, y :: ys => if x = y then zfH xs ys else decide (y <= x)
def zt2 (p : Int -> Int -> Bool) (q : List Int -> List Int -> Bool) : D -> D -> R D
 | .int i, .int j => .ok (.bool (p i j))
 | .tuple a, .tuple b => (R.of (intsOf a)).bind fun x => (R.of (intsOf b)).bind fun y => .ok (.bool (q x y))
 | _, _ => .bad
def ltD : D -> D -> R D := zt2 (fun i j => decide (i < j)) lexLt
def leD : D -> D -> R D := zt2 (fun i j => decide (i <= j)) lexLe
def gtD : D -> D -> R D := zt2 (fun i j => decide (j < i)) zfG
def geD : D -> D -> R D := zt2 (fun i j => decide (j <= i)) zfH
def zwt : D -> R D
 | .none => .ok (.bool true)
 | _ => .ok (.bool false)
def isD (a b : D) : R D := match b with
 | .none => zwt a
 | _ => .bad
def ixN (n : Nat) (i : Int) : Option Nat := if 0 <= i then (if i < n then some i.toNat else none) else if -(n : Int) <= i then some (i + n).toNat else none
def atI {α : Type} (xs : List α) (i : Int) : Option α := (ixN xs.length i).bind fun j => xs[j]?
def ixD : D -> D -> R D
 | .list a, .int i => R.of (atI a i)
 | .tuple a, .int i => R.of (atI a i)
 | _, _ => .bad
def sIx (n d : Nat) : Option Int -> Nat
 | none => d
 | some v => if v < 0 then (v + (n : Int)).toNat else min v.toNat n
def cut {α : Type} (xs : List α) (lo hi : Option Int) : List α := (xs.drop (sIx xs.length 0 lo)).take (sIx xs.length xs.length hi - sIx xs.length 0 lo)
def zc5 (d : D) (lo hi : Option Int) : R D := match d with
 | .list a => .ok (.list (cut a lo hi))
 | .tuple a => .ok (.tuple (cut a lo hi))
 | _ => .bad
def zia : D -> R Bool
 | .none => .ok false
 | .bool b => .ok b
 | .int i => .ok (i != 0)
 | .list a => .ok (!a.isEmpty)
 | .tuple a => .ok (!a.isEmpty)
 | _ => .bad
def zc4 : D -> R D
 | .list a => .ok (.int a.length)
 | .tuple a => .ok (.int a.length)
 | _ => .bad
def zqe : D -> R D
 | .int i => .ok (.int (if i < 0 then -i else i))
 | _ => .bad
def zuZ : D -> D -> R D
 | .int i, .int j => .ok (.int (if j > i then j else i))
 | _, _ => .bad
def zm5 : List Int -> Option Int
 | [] => none
 | x :: xs => some (xs.foldl (fun m y => if y > m then y else m) x)
def zoi : List Int -> Option Int
 | [] => none
 | x :: xs => some (xs.foldl (fun m y => if y < m then y else m) x)
def maxD : D -> R D
 | .list a => (R.of (intsOf a)).bind fun x => (R.of (zm5 x)).bind fun m => .ok (.int m)
 | _ => .bad
def minD : D -> R D
 | .list a => (R.of (intsOf a)).bind fun x => (R.of (zoi x)).bind fun m => .ok (.int m)
 | _ => .bad
def zuh : D -> R D
 | .list a => (R.of (intsOf a)).bind fun x => .ok (.int x.sum)
 | _ => .bad
def zrC : D -> R D
 | .list a => (R.of (boolsOf a)).bind fun x => .ok (.bool (x.all id))
 | _ => .bad
def zu3 : D -> R D
 | .list a => .ok (.list a)
 | .tuple a => .ok (.list a)
 | _ => .bad
def ziZ : D -> R D
 | .list a => .ok (.tuple a)
 | .tuple a => .ok (.tuple a)
 | _ => .bad
def zvI (d : D) : Bool := match d with
 | .dict _ => false
 | _ => true
def zcr (T : String) (d : D) : R D := chk (zvI d) (.ok (.bool (isI T d)))
def one (g : D -> R D) : List D -> R D
 | [d] => g d
 | _ => .bad
def two (g : D -> D -> R D) : List D -> R D
 | [d, e] => g d e
 | _ => .bad
def zf4 : D -> R (List D)
 | .list a => .ok a
 | .tuple a => .ok a
 | _ => .bad
def rng (lo hi : Int) : List D := (List.range (hi - lo).toNat).map fun (i : Nat) => .int (lo + (i : Int))
def zhj (i : Int) : Bool := leB i.natAbs 1000000000
def zjT : List D -> R (List D)
 | [.int j] => chk (zhj j && leB j.toNat lim) (.ok (rng 0 j))
 | _ => .bad
def zmB : List D -> R (List D)
 | [.int i, .int j] => chk (zhj i && zhj j && leB (j - i).toNat lim) (.ok (rng i j))
 | _ => .bad
def eC (d : D) : EF := fun ρ => .ok (d, ρ)
def eV (i : Nat) : EF := fun ρ => match ρ[i]? with
 | some (.val d) => .ok (d, ρ)
 | _ => .bad
def e1 (g : D -> R D) (f : EF) : EF := fun ρ => (f ρ).bind fun x => (g x.1).bind fun d => .ok (d, x.2)
def e2 (g : D -> D -> R D) (f h : EF) : EF := fun ρ => (f ρ).bind fun x => (h x.2).bind fun y => (g x.1 y.1).bind fun d => .ok (d, y.2)
def zkh (f h : EF) : EF := fun ρ => (f ρ).bind fun x => match x.1 with
 | .bool true => h x.2
 | .bool false => .ok (.bool false, x.2)
 | _ => .bad
def zvt (f : EF) : EF := fun ρ => (f ρ).bind fun x => match x.1 with
 | .bool b => .ok (.bool (!b), x.2)
 | _ => .bad
def zeD (g h : D -> D -> R D) (f1 f2 f3 : EF) : EF := fun ρ => (f1 ρ).bind fun x => (f2 x.2).bind fun y => (g x.1 y.1).bind fun c => match c with
 | .bool true => (f3 y.2).bind fun z => (h y.1 z.1).bind fun d => .ok (d, z.2)
 | .bool false => .ok (.bool false, y.2)
 | _ => .bad
def zar : AF := fun ρ => .ok ([], ρ)
def zac (f : EF) (a : AF) : AF := fun ρ => (f ρ).bind fun x => (a x.2).bind fun y => .ok (x.1 :: y.1, y.2)
def zek (a : AF) : EF := fun ρ => (a ρ).bind fun x => chk (leB x.1.length lim) (.ok (.tuple x.1, x.2))
def zel (a : AF) : EF := fun ρ => (a ρ).bind fun x => chk (leB x.1.length lim) (.ok (.list x.1, x.2))
def zal (G : List D -> R D) (a : AF) : EF := fun ρ => (a ρ).bind fun x => (G x.1).bind fun d => .ok (d, x.2)
abbrev OF := En -> R (Option Int × En)
def zbb : OF := fun ρ => .ok (none, ρ)
def za4 (f : EF) : OF := fun ρ => (f ρ).bind fun x => match x.1 with
 | .int i => .ok (some i, x.2)
 | _ => .bad
def eSl (f : EF) (lo hi : OF) : EF := fun ρ => (f ρ).bind fun x => (lo x.2).bind fun l => (hi l.2).bind fun u => (zc5 x.1 l.1 u.1).bind fun d => .ok (d, u.2)
def zbf (ρ : En) (i : Nat) : R D := match ρ[i]? with
 | some (.ow _ d) => .ok d
 | _ => .bad
def zeQ (ρ : En) (i : Nat) : R (List D) := match ρ[i]? with
 | some (.ow _ (.list a)) => .ok a
 | _ => .bad
def m1 (g : D -> R D) (i : Nat) : EF := fun ρ => (zbf ρ i).bind fun c => (g c).bind fun d => .ok (d, ρ)
def m2 (g : D -> D -> R D) (i : Nat) (h : EF) : EF := fun ρ => (zbf ρ i).bind fun _ => (h ρ).bind fun y => (zbf y.2 i).bind fun c => (g c y.1).bind fun d => .ok (d, y.2)
def m2r (g : D -> D -> R D) (f : EF) (i : Nat) : EF := fun ρ => (f ρ).bind fun x => (zbf x.2 i).bind fun c => (g x.1 c).bind fun d => .ok (d, x.2)
def zu1 (g : D -> D -> R D) (i : Nat) (h : EF) : EF := fun ρ => (zbf ρ i).bind fun _ => (h ρ).bind fun y => (zbf y.2 i).bind fun c => (g (.list [c]) y.1).bind fun d => .ok (d, y.2)
inductive Ar where
 | v (f : EF)
 | m (i : Nat)
 | t (f : EF)
inductive Itm where
 | vd (d : D)
 | mi (i : Nat)
 | td (d : D)
def zl9 : List Ar -> En -> R (List Itm × En)
 | [], ρ => .ok ([], ρ)
 | .v f :: r, ρ => (f ρ).bind fun x => (zl9 r x.2).bind fun y => .ok (.vd x.1 :: y.1, y.2)
 | .m i :: r, ρ => (zbf ρ i).bind fun _ => (zl9 r ρ).bind fun y => .ok (.mi i :: y.1, y.2)
 | .t f :: r, ρ => (f ρ).bind fun x => (zl9 r x.2).bind fun y => .ok (.td x.1 :: y.1, y.2)
def zlm (ρ : En) : List Itm -> R (List D)
 | [] => .ok []
 | .vd d :: r => (zlm ρ r).bind fun ds => .ok (d :: ds)
 | .mi i :: r => (zbf ρ i).bind fun d => (zlm ρ r).bind fun ds => .ok (d :: ds)
 | .td d :: r => (zlm ρ r).bind fun ds => .ok (d :: ds)
def zbE (ρ : En) (i : Nat) (d : D) : En := match ρ[i]? with
 | some (.ow p _) => ρ.set i (.ow p d)
 | _ => ρ
def zjK : List Itm -> List D -> List (Nat × Sl)
 | .mi i :: r, d :: ds => (i, .ow true d) :: zjK r ds
 | .vd _ :: r, _ :: ds => zjK r ds
 | .td _ :: r, _ :: ds => zjK r ds
 | _, _ => []
def bk1 (m : List (Nat × Sl)) (i : Nat) (x : Sl) : Sl := match x, m.lookup i with
 | .ow p _, some (.ow _ d) => .ow p d
 | x, _ => x
def bkL (m : List (Nat × Sl)) : Nat -> En -> En
 | _, [] => []
 | n, x :: r => bk1 m n x :: bkL m (n + 1) r
def zn6 (ρ : En) (a : List Itm) (os : List D) : En := bkL (zjK a os) 0 ρ
def za1 (F : List D -> R (D × List D)) (a : List Ar) : EF := fun ρ => (zl9 a ρ).bind fun x => (zlm x.2 x.1).bind fun ds => (F ds).bind fun y => .ok (y.1, zn6 x.2 x.1 y.2)
def tE (f : EF) : TF := fun ρ => (f ρ).bind fun x => (zia x.1).bind fun b => .ok (b, x.2)
def tB (f : EF) : TF := fun ρ => (f ρ).bind fun x => match x.1 with
 | .bool b => .ok (b, x.2)
 | _ => .bad
def zuD (t u : TF) : TF := fun ρ => (t ρ).bind fun c => if c.1 = true then u c.2 else .ok (false, c.2)
def tOr (t u : TF) : TF := fun ρ => (t ρ).bind fun c => if c.1 = true then .ok (true, c.2) else u c.2
def zeH (t : TF) : TF := fun ρ => (t ρ).bind fun c => .ok (!c.1, c.2)
def zdJ : TF := fun ρ => .ok (true, ρ)
abbrev IF := En -> R (List D × En)
def iE (f : EF) : IF := fun ρ => (f ρ).bind fun x => (zf4 x.1).bind fun l => .ok (l, x.2)
def iR1 (a : AF) : IF := fun ρ => (a ρ).bind fun x => (zjT x.1).bind fun l => .ok (l, x.2)
def iR2 (a : AF) : IF := fun ρ => (a ρ).bind fun x => (zmB x.1).bind fun l => .ok (l, x.2)
def gN (i : Nat) : GF := fun d ρ => match ρ[i]? with
 | some (.ow true _) => .bad
 | some _ => .ok (ρ.set i (.val d))
 | none => .bad
def zpg : List GF -> List D -> En -> R En
 | [], [], ρ => .ok ρ
 | g :: r, d :: ds, ρ => (g d ρ).bind fun ρ1 => zpg r ds ρ1
 | _, _, _ => .bad
def gT (gs : List GF) : GF := fun d ρ => match d with
 | .tuple ds => zpg gs ds ρ
 | _ => .bad
def blk (k : Nat) (ix : List Nat) (ρ : En) : En := List.replicate k .no ++ ix.map fun i => (ρ[i]?).getD .no
def back (ρ : En) (ix : List Nat) (cs : En) : En := bkL (ix.zip cs) 0 ρ
def zfO (k : Nat) (ix : List Nat) (g : GF) (t : TF) (f : EF) : List D -> En -> List D -> R (List D × En)
 | [], ρ, acc => .ok (acc, ρ)
 | x :: xs, ρ, acc => (g x (blk k ix ρ)).bind fun β => (t β).bind fun c =>
   if c.1 = true then (f c.2).bind fun y => chk (leB (acc.length + 1) lim) (zfO k ix g t f xs (back ρ ix (y.2.drop k)) (acc ++ [y.1]))
   else zfO k ix g t f xs (back ρ ix (c.2.drop k)) acc
def zbY (k : Nat) (ix : List Nat) (it : IF) (g : GF) (t : TF) (f : EF) : EF := fun ρ => (it ρ).bind fun x => (zfO k ix g t f x.1 x.2 []).bind fun y => .ok (.list y.1, y.2)
def zp5 (k : Nat) (ix : List Nat) (io : Nat) (g : GF) (t : TF) (f : EF) : EF := fun ρ => (zeQ ρ io).bind fun l => (zfO k ix g t f l ρ []).bind fun y => .ok (.list y.1, y.2)
def sNx : SF := fun ρ => .ok (.nx, ρ)
def zaB (s t : SF) : SF := fun ρ => (s ρ).bind fun x => match x.1 with
 | .nx => t x.2
 | _ => .ok x
def sE (f : EF) : SF := fun ρ => (f ρ).bind fun x => .ok (.nx, x.2)
def zbD (g : GF) (f : EF) : SF := fun ρ => (f ρ).bind fun x => (g x.1 x.2).bind fun ρ1 => .ok (.nx, ρ1)
def ze6 (i : Nat) (f : EF) : SF := fun ρ => (f ρ).bind fun x => match x.2[i]? with
 | some (.ow true _) => .bad
 | some _ => .ok (.nx, x.2.set i (.ow false x.1))
 | none => .bad
def zga (i : Nat) (s : SF) : SF := fun ρ => (s ρ).bind fun x => match x.1 with
 | .nx => (match x.2[i]? with
  | some (.ow false d) => .ok (.nx, x.2.set i (.val d))
  | _ => .bad)
 | _ => .ok x
def ziU (i j : Nat) (f h : EF) : SF := fun ρ => (f ρ).bind fun x => (h x.2).bind fun y => (gN i x.1 y.2).bind fun ρ1 => (gN j y.1 ρ1).bind fun ρ2 => .ok (.nx, ρ2)
def zvK (i : Nat) (s : SF) : SF := fun ρ => match ρ[i]? with
 | some (.ow false d) => s (ρ.set i (.val d))
 | _ => .bad
def zaX (f : EF) : SF := fun ρ => (f ρ).bind fun x => .ok (.rt x.1, x.2)
def zcY (f : EF) : SF := fun ρ => (f ρ).bind fun x => .ok (.rf x.1, x.2)
def zif (i : Nat) : SF := fun ρ => match ρ[i]? with
 | some (.ow false d) => .ok (.rf d, ρ)
 | _ => .bad
def sIf (t : TF) (a b : SF) : SF := fun ρ => (t ρ).bind fun c => if c.1 = true then a c.2 else b c.2
def zpE : SF := fun _ => .bad
def forL (g : GF) (b : SF) : List D -> En -> R (Fl × En)
 | [], ρ => .ok (.nx, ρ)
 | x :: xs, ρ => (g x ρ).bind fun ρ1 => (b ρ1).bind fun y => match y.1 with
  | .nx | .ct => forL g b xs y.2
  | .bk => .ok (.nx, y.2)
  | .rt d => .ok (.rt d, y.2)
  | .rf d => .ok (.rf d, y.2)
def zi3 (it : IF) (g : GF) (b : SF) : SF := fun ρ => (it ρ).bind fun x => forL g b x.1 x.2
def zew (t : TF) (b : SF) : Nat -> En -> R (Fl × En)
 | 0, _ => .bad
 | n + 1, ρ => (t ρ).bind fun c => if c.1 = true then (b c.2).bind fun y => match y.1 with
   | .nx | .ct => zew t b n y.2
   | .bk => .ok (.nx, y.2)
   | .rt d => .ok (.rt d, y.2)
   | .rf d => .ok (.rf d, y.2)
  else .ok (.nx, c.2)
def zhH (fuel : En -> Nat) (t : TF) (b : SF) : SF := fun ρ => zew t b (fuel ρ) ρ
def zkB (i : Nat) (u : List D -> D -> R (List D)) (f : EF) : SF := fun ρ => (zeQ ρ i).bind fun _ => (f ρ).bind fun x => (zeQ x.2 i).bind fun c => (u c x.1).bind fun c' => .ok (.nx, zbE x.2 i (.list c'))
def zln (a : List D) (d : D) : R (List D) := chk (leB (a.length + 1) lim) (.ok (a ++ [d]))
def setM (i : Nat) (f k : EF) : SF := fun ρ => (f ρ).bind fun x => (zeQ x.2 i).bind fun _ => (k x.2).bind fun y => (zeQ y.2 i).bind fun c => match y.1 with
 | .int j => (R.of (ixN c.length j)).bind fun n => .ok (.nx, zbE y.2 i (.list (c.set n x.1)))
 | _ => .bad
def slots : List Bool -> List D -> En
 | m :: ms, d :: ds => (if m = true then .ow true d else .val d) :: slots ms ds
 | _, _ => []
def outD (m : Bool) (d : D) (x : Option Sl) : D := match m, x with
 | true, some (.ow _ d') => d'
 | _, _ => d
def outs : List Bool -> List D -> En -> List D
 | m :: ms, d :: ds, ρ => outD m d ρ.head? :: outs ms ds ρ.tail
 | _, _, _ => []
def run (ms : List Bool) (fr : Bool) (n : Nat) (b : SF) (ds : List D) : R (D × List D) :=
 if ds.length = ms.length then (b (slots ms ds ++ List.replicate (n - ds.length) .no)).bind fun x => match x.1, fr with
  | .rt d, false => .ok (d, outs ms ds x.2)
  | .rf d, true => .ok (d, outs ms ds x.2)
  | .nx, false => .ok (.none, outs ms ds x.2)
  | _, _ => .bad
 else .bad
def zbo (fr : Bool) (k n : Nat) (b : SF) (ds : List D) : R D := (run (List.replicate k false) fr n b ds).bind fun x => .ok x.1
end FL
namespace FL
open PySem
end FL
namespace FL
open PySem
abbrev K1 := Int ⊕ Str
abbrev KQ := List K1 ⊕ K1
def kOf : D -> Option K1
 | .int i => some (.inl i)
 | .str x => some (.inr x)
 | _ => none
def zoj : List D -> Option (List K1)
 | [] => some []
 | d :: r => (kOf d).bind fun k => (zoj r).map fun ks => k :: ks
def keyOf : D -> Option KQ
 | .tuple xs => (zoj xs).map .inl
 | .int i => some (.inr (.inl i))
 | .str x => some (.inr (.inr x))
 | _ => none
def form : KQ -> Bool
 | .inl _ => true
 | .inr _ => false
def keysOk (f : Bool) (kvs : List (D × D)) : Bool := kvs.all fun kv => match keyOf kv.1 with
 | some q => form q == f
 | none => false
def look (kvs : List (D × D)) (q : KQ) : Option D := (kvs.find? fun kv => decide (keyOf kv.1 = some q)).map (·.2)
def zoD (kvs : List (D × D)) (k : D) (q : KQ) (v : D) : List (D × D) :=
 if (kvs.any fun kv => decide (keyOf kv.1 = some q)) = true then kvs.map fun kv => if keyOf kv.1 = some q then (kv.1, v) else kv else kvs ++ [(k, v)]
def zdu (kvs : List (D × D)) (q : KQ) : List (D × D) := kvs.filter fun kv => decide (keyOf kv.1 ≠ some q)
def dictAt (d k : D) : R (List (D × D) × KQ) := match d with
 | .dict kvs => (R.of (keyOf k)).bind fun q => chk (keysOk (form q) kvs) (.ok (kvs, q))
 | _ => .bad
def zfp (d k : D) : R (Option D) := (dictAt d k).bind fun x => .ok (look x.1 x.2)
def zrd (d k x : D) : R D := (zfp d k).bind fun o => .ok (o.getD x)
def inD (k d : D) : R D := (zfp d k).bind fun o => .ok (.bool o.isSome)
def ziL (d k : D) : R D := (zfp d k).bind fun o => R.of o
def zl1 (d k v : D) : R D := (dictAt d k).bind fun x => chk (leB (x.1.length + 1) lim) (.ok (.dict (zoD x.1 k x.2 v)))
def zpn (d k : D) : R D := (dictAt d k).bind fun x => chk (look x.1 x.2).isSome (.ok (.dict (zdu x.1 x.2)))
def zlQ : D -> R (List D)
 | .dict kvs => .ok (kvs.map (·.1))
 | _ => .bad
def zm7 (i : Nat) (k x : EF) : EF := fun ρ => (zbf ρ i).bind fun c0 => (zlQ c0).bind fun _ => (k ρ).bind fun a => (x a.2).bind fun b => (zbf b.2 i).bind fun c => (zrd c a.1 b.1).bind fun d => .ok (d, b.2)
def e3 (g : D -> D -> D -> R D) (d k x : EF) : EF := fun ρ => (d ρ).bind fun c => (k c.2).bind fun a => (x a.2).bind fun b => (g c.1 a.1 b.1).bind fun r => .ok (r, b.2)
def znO (i : Nat) (k f : EF) : SF := fun ρ => (f ρ).bind fun v => (zbf v.2 i).bind fun _ => (k v.2).bind fun a => (zbf a.2 i).bind fun c => (zl1 c a.1 v.1).bind fun d => .ok (.nx, zbE a.2 i d)
def znP (i : Nat) (k : EF) : SF := fun ρ => (zbf ρ i).bind fun _ => (k ρ).bind fun a => (zbf a.2 i).bind fun c => (zpn c a.1).bind fun d => .ok (.nx, zbE a.2 i d)
def iD (f : EF) : IF := fun ρ => (f ρ).bind fun x => (zlQ x.1).bind fun l => .ok (l, x.2)
def zhU (k v : EF) : EF := fun ρ => (k ρ).bind fun x => (v x.2).bind fun y => (zl1 (.dict []) x.1 y.1).bind fun d => .ok (d, y.2)
def zlb : EF := fun ρ => .ok (.dict [], ρ)
end FL
namespace FL
open PySem
def zib (i : Nat) (ρ : En) : Nat := match ρ[i]? with
 | some (.val (.int n)) => n.natAbs + 1
 | _ => 0
abbrev WK := Int × List Int
def zuf : D -> Option WK
 | .tuple [.int n, .tuple xs] => (intsOf xs).map fun w => (n, w)
 | _ => none
def zgN (G : List D -> R D) : List D -> R (List WK)
 | [] => .ok []
 | d :: r => (G [d]).bind fun k => (R.of (zuf k)).bind fun w => (zgN G r).bind fun ws => .ok (w :: ws)
def ltW (p q : WK) : Bool := if p.1 = q.1 then lexLt p.2 q.2 else decide (p.1 < q.1)
def znu (x : WK × D) : List (WK × D) -> List (WK × D)
 | [] => [x]
 | y :: r => if ltW y.1 x.1 = true then y :: znu x r else x :: y :: r
def zf5 : List (WK × D) -> List (WK × D)
 | [] => []
 | x :: r => znu x (zf5 r)
def zhE (G : List D -> R D) (d : D) : R D := (zlQ d).bind fun ks => chk (leB (ks.length + 1) 64) ((zgN G ks).bind fun ws => chk (decide ws.Nodup) (.ok (.list ((zf5 (ws.zip ks)).map (·.2)))))
theorem zgU (x : WK × D) : ∀ l, (znu x l).Perm (x :: l)
 | [] => .refl _
 | y :: r => by
  unfold znu
  split
  ·exact ((zgU x r).cons y).trans (.swap x y r)
  ·exact .refl _
theorem zgQ : ∀ l : List (WK × D), (zf5 l).Perm l
 | [] => .refl _
 | x :: r => (zgU x _).trans ((zgQ r).cons x)
def insI (x : Int) : List Int -> List Int
 | [] => [x]
 | y :: r => if y < x then y :: insI x r else x :: y :: r
def zcg : List Int -> List Int
 | [] => []
 | x :: r => insI x (zcg r)
def zoq : D -> R D
 | .list a => (R.of (intsOf a)).bind fun ns => chk (leB (ns.length + 1) 64) (.ok (.list ((zcg ns).map .int)))
 | .tuple a => (R.of (intsOf a)).bind fun ns => chk (leB (ns.length + 1) 64) (.ok (.list ((zcg ns).map .int)))
 | _ => .bad
def zly : D -> R D
 | .list a => .ok (.list a.reverse)
 | _ => .bad
def zup (k d : D) : R D := match d with
 | .list xs => chk (SeqAt.shaped (.list xs) && SeqAt.shaped k) (.ok (.bool (xs.any fun y => PyData.eqv y k)))
 | .tuple xs => chk (SeqAt.shaped (.tuple xs) && SeqAt.shaped k) (.ok (.bool (xs.any fun y => PyData.eqv y k)))
 | _ => .bad
theorem insI_perm (x : Int) : ∀ l, (insI x l).Perm (x :: l)
 | [] => .refl _
 | y :: r => by
  unfold insI
  split
  ·exact ((insI_perm x r).cons y).trans (.swap x y r)
  ·exact .refl _
theorem zgR : ∀ l : List Int, (zcg l).Perm l
 | [] => .refl _
 | x :: r => (insI_perm x _).trans ((zgR r).cons x)
theorem zgV (x : Int) : ∀ l : List Int, l.Pairwise (· <= ·) -> (insI x l).Pairwise (· <= ·)
 | [], _ => by simp [insI]
 | y :: r, h => by
  unfold insI
  rw [List.pairwise_cons] at h
  split
  ·rw [List.pairwise_cons]
   refine ⟨fun z hz => ?_, zgV x r h.2⟩
   have := (insI_perm x r).mem_iff.mp hz
   rcases List.mem_cons.mp this with rfl | hz
   ·omega
   ·exact h.1 z hz
  ·rw [List.pairwise_cons]
   refine ⟨fun z hz => ?_, List.pairwise_cons.mpr h⟩
   rcases List.mem_cons.mp hz with rfl | hz
   ·omega
   ·have := h.1 z hz; omega
theorem zfm : ∀ l : List Int, (zcg l).Pairwise (· <= ·)
 | [] => .nil
 | x :: r => zgV x _ (zfm r)
end FL
namespace FL
open PySem L2 PySem.Spec
open PyProof.Rows hiding St
class Cs where
 C : Hp
 st : ∀ a u, C a = some u -> ∃ o xs, u = .frz o (.tup xs)
def FzL (K : PySem.W.Frag) (H : Hp) (a : Addr) (xs : List V) : Prop := (∃ o, H a = some (.frz o (.lst xs))) \/
 ∃ (o : Obj) (its : Array Value) (n : Nat), K.lookup a = some o /\ o.cls = .type "list" /\ o.dict = none /\ o.data = .seq its n /\ its.size <= sizeLine /\ Vals xs its.toList
def kD : Key -> PyData
 | .inl i => .int i
 | .inr x => .str x
def zlR (k : List Key) : PyData := .tuple (k.map kD)
mutual
def Fz (K : PySem.W.Frag) (H : Hp) : PyData -> V -> Prop
 | .none, v => v = .non
 | .bool b, v => v = .bl b
 | .int i, v => v = .int i
 | .str x, v => v = .str x
 | .list xs, v => ∃ a vs, v = .ref a /\ FzL K H a vs /\ zak K H xs vs
 | .tuple xs, v => ∃ a vs, v = .ref a /\ TAt H a vs /\ zak K H xs vs
 | .dict kvs, v => ∃ a o, v = .ref a /\ ((∃ kk, H a = some (.frz o (.dT kk)) /\ zb0 K H kvs kk) \/ ∃ kk, H a = some (.frz o (.dK kk)) /\ zb2 K H kvs kk)
def zak (K : PySem.W.Frag) (H : Hp) : List PyData -> List V -> Prop
 | [], vs => vs = []
 | d :: ds, vs => ∃ v r, vs = v :: r /\ Fz K H d v /\ zak K H ds r
def zb0 (K : PySem.W.Frag) (H : Hp) : List (PyData × PyData) -> List (List Key × V) -> Prop
 | [], kk => kk = []
 | (k, d) :: r, kk => ∃ q v t, kk = (q, v) :: t /\ k = zlR q /\ Fz K H d v /\ zb0 K H r t
def zb2 (K : PySem.W.Frag) (H : Hp) : List (PyData × PyData) -> List (Key × V) -> Prop
 | [], kk => kk = []
 | (k, d) :: r, kk => ∃ q v t, kk = (q, v) :: t /\ k = kD q /\ Fz K H d v /\ zb2 K H r t
end
def zvF : HO -> Prop
 | .tup _ => True
 | .frz _ _ => True
 | _ => False
def Fzn (H H' : Hp) : Prop := ∀ a o, H a = some o -> zvF o -> H' a = some o
theorem Fzn.refl (H : Hp) : Fzn H H := fun _ _ h _ => h
theorem Fzn.trans {H H1 H2 : Hp} (a : Fzn H H1) (b : Fzn H1 H2) : Fzn H H2 := fun c o h s => b c o (a c o h s) s
theorem Fzn.of {H H' : Hp} (s : zba H H') : Fzn H H' := fun a o h _ => s a o h
section
variable {K : PySem.W.Frag} {H H' : Hp}
theorem Fzn.zui {a : Addr} {xs : List V} (e : Fzn H H') (h : TAt H a xs) : TAt H' a xs := by
 rcases h with h | ⟨o, h⟩
 ·exact .inl (e _ _ h trivial)
 ·exact .inr ⟨o, e _ _ h trivial⟩
theorem Fzn.zuj {a : Addr} {xs : List V} (e : Fzn H H') (h : FzL K H a xs) : FzL K H' a xs := by
 rcases h with ⟨o, h⟩ | h
 ·exact .inl ⟨o, e _ _ h trivial⟩
 ·exact .inr h
theorem FzL.sq {a : Addr} {xs : List V} (h : FzL K H a xs) : SqL K H a xs := by
 rcases h with ⟨o, h⟩ | h
 ·exact .inl (.inr ⟨o, h⟩)
 ·exact .inr h
mutual
theorem Fz.mono (e : Fzn H H') : ∀ (d : PyData) (v : V), Fz K H d v -> Fz K H' d v
 | .none, v, h => by simp only [Fz] at h ⊢; exact h
 | .bool b, v, h => by simp only [Fz] at h ⊢; exact h
 | .int i, v, h => by simp only [Fz] at h ⊢; exact h
 | .str x, v, h => by simp only [Fz] at h ⊢; exact h
 | .list xs, v, h => by
  simp only [Fz] at h ⊢
  obtain ⟨a, vs, e1, h1, h2⟩ := h
  exact ⟨a, vs, e1, e.zuj h1, zak.mono e xs vs h2⟩
 | .tuple xs, v, h => by
  simp only [Fz] at h ⊢
  obtain ⟨a, vs, e1, h1, h2⟩ := h
  exact ⟨a, vs, e1, e.zui h1, zak.mono e xs vs h2⟩
 | .dict kvs, v, h => by
  simp only [Fz] at h ⊢
  obtain ⟨a, o, e1, h⟩ := h
  rcases h with ⟨kk, h1, h2⟩ | ⟨kk, h1, h2⟩
  ·exact ⟨a, o, e1, .inl ⟨kk, e _ _ h1 trivial, zb0.mono e kvs kk h2⟩⟩
  ·exact ⟨a, o, e1, .inr ⟨kk, e _ _ h1 trivial, zb2.mono e kvs kk h2⟩⟩
theorem zak.mono (e : Fzn H H') : ∀ (ds : List PyData) (vs : List V), zak K H ds vs -> zak K H' ds vs
 | [], vs, h => by simp only [zak] at h ⊢; exact h
 | d :: ds, vs, h => by
  simp only [zak] at h ⊢
  obtain ⟨v, r, e1, h1, h2⟩ := h
  exact ⟨v, r, e1, Fz.mono e d v h1, zak.mono e ds r h2⟩
theorem zb0.mono (e : Fzn H H') : ∀ (kvs : List (PyData × PyData)) (kk : List (List Key × V)), zb0 K H kvs kk -> zb0 K H' kvs kk
 | [], kk, h => by simp only [zb0] at h ⊢; exact h
 | (k, d) :: r, kk, h => by
  simp only [zb0] at h ⊢
  obtain ⟨q, v, t, e1, e2, h1, h2⟩ := h
  exact ⟨q, v, t, e1, e2, Fz.mono e d v h1, zb0.mono e r t h2⟩
theorem zb2.mono (e : Fzn H H') : ∀ (kvs : List (PyData × PyData)) (kk : List (Key × V)), zb2 K H kvs kk -> zb2 K H' kvs kk
 | [], kk, h => by simp only [zb2] at h ⊢; exact h
 | (k, d) :: r, kk, h => by
  simp only [zb2] at h ⊢
  obtain ⟨q, v, t, e1, e2, h1, h2⟩ := h
  exact ⟨q, v, t, e1, e2, Fz.mono e d v h1, zb2.mono e r t h2⟩
end
theorem zak.len : ∀ {ds : List PyData} {vs : List V}, zak K H ds vs -> vs.length = ds.length
 | [], vs, h => by simp only [zak] at h; subst h; rfl
 | d :: ds, vs, h => by
  simp only [zak] at h
  obtain ⟨v, r, rfl, _, h2⟩ := h
  simp [zak.len h2]
theorem zak.get : ∀ {ds : List PyData} {vs : List V} {i : Nat} {d : PyData}, zak K H ds vs -> ds[i]? = some d -> ∃ v, vs[i]? = some v /\ Fz K H d v
 | [], vs, i, d, h, e => by simp at e
 | d0 :: ds, vs, i, d, h, e => by
  simp only [zak] at h
  obtain ⟨v, r, rfl, h1, h2⟩ := h
  cases i with
  | zero => simp at e; subst e; exact ⟨v, by simp, h1⟩
  | succ i =>
   obtain ⟨w, e1, f⟩ := zak.get h2 (by simpa using e)
   exact ⟨w, by simpa using e1, f⟩
theorem zak.app : ∀ {ds es : List PyData} {vs ws : List V}, zak K H ds vs -> zak K H es ws -> zak K H (ds ++ es) (vs ++ ws)
 | [], es, vs, ws, h, g => by simp only [zak] at h; subst h; exact g
 | d :: ds, es, vs, ws, h, g => by
  simp only [zak] at h
  obtain ⟨v, r, rfl, h1, h2⟩ := h
  simp only [List.cons_append, zak]
  exact ⟨v, r ++ ws, rfl, h1, zak.app h2 g⟩
theorem zak.take : ∀ {ds : List PyData} {vs : List V} (n : Nat), zak K H ds vs -> zak K H (ds.take n) (vs.take n)
 | ds, vs, 0, h => by simp [zak]
 | [], vs, n + 1, h => by simp only [zak] at h; subst h; simp [zak]
 | d :: ds, vs, n + 1, h => by
  simp only [zak] at h
  obtain ⟨v, r, rfl, h1, h2⟩ := h
  simp only [List.take_succ_cons, zak]
  exact ⟨v, _, rfl, h1, zak.take n h2⟩
theorem zak.drop : ∀ {ds : List PyData} {vs : List V} (n : Nat), zak K H ds vs -> zak K H (ds.drop n) (vs.drop n)
 | ds, vs, 0, h => by simpa using h
 | [], vs, n + 1, h => by simp only [zak] at h; subst h; simp [zak]
 | d :: ds, vs, n + 1, h => by
  simp only [zak] at h
  obtain ⟨v, r, rfl, h1, h2⟩ := h
  simpa using zak.drop n h2
theorem zak.set : ∀ {ds : List PyData} {vs : List V} {d : PyData} {v : V} (n : Nat), zak K H ds vs -> Fz K H d v -> zak K H (ds.set n d) (vs.set n v)
 | [], vs, d, v, n, h, f => by simp only [zak] at h; subst h; simp [zak]
 | d0 :: ds, vs, d, v, n, h, f => by
  simp only [zak] at h
  obtain ⟨v0, r, rfl, h1, h2⟩ := h
  cases n with
  | zero => simp only [List.set_cons_zero, zak]; exact ⟨v, r, rfl, f, h2⟩
  | succ n => simp only [List.set_cons_succ, zak]; exact ⟨v0, _, rfl, h1, zak.set n h2 f⟩
theorem zak.rev : ∀ {ds : List PyData} {vs : List V}, zak K H ds vs -> zak K H ds.reverse vs.reverse
 | [], vs, h => by simp only [zak] at h; subst h; simp [zak]
 | d :: ds, vs, h => by
  simp only [zak] at h
  obtain ⟨v, r, rfl, h1, h2⟩ := h
  simp only [List.reverse_cons]
  exact zak.app (zak.rev h2) (by simp only [zak]; exact ⟨v, [], rfl, h1, rfl⟩)
theorem zak.rep {ds : List PyData} {vs : List V} (h : zak K H ds vs) : ∀ k : Nat, zak K H (List.replicate k ds).flatten (List.replicate k vs).flatten
 | 0 => by simp [zak]
 | k + 1 => by simp only [List.replicate_succ, List.flatten_cons]; exact zak.app h (zak.rep h k)
theorem zak.ints : ∀ {ds : List PyData} {vs : List V} {ns : List Int}, zak K H ds vs -> intsOf ds = some ns -> vs = ns.map V.int /\ ds = ns.map PyData.int
 | [], vs, ns, h, e => by simp only [zak] at h; simp only [intsOf, Option.some.injEq] at e; subst h; subst e; exact ⟨rfl, rfl⟩
 | d :: ds, vs, ns, h, e => by
  simp only [zak] at h
  obtain ⟨v, r, rfl, h1, h2⟩ := h
  cases d with
  | int i =>
   simp only [intsOf, Option.map_eq_some_iff] at e
   obtain ⟨ms, e1, rfl⟩ := e
   obtain ⟨a, b⟩ := zak.ints h2 e1
   simp only [Fz] at h1
   subst h1; subst a; subst b
   exact ⟨rfl, rfl⟩
  | _ => simp [intsOf] at e
theorem zak.bools : ∀ {ds : List PyData} {vs : List V} {ns : List Bool}, zak K H ds vs -> boolsOf ds = some ns -> vs = ns.map V.bl /\ ds = ns.map PyData.bool
 | [], vs, ns, h, e => by simp only [zak] at h; simp only [boolsOf, Option.some.injEq] at e; subst h; subst e; exact ⟨rfl, rfl⟩
 | d :: ds, vs, ns, h, e => by
  simp only [zak] at h
  obtain ⟨v, r, rfl, h1, h2⟩ := h
  cases d with
  | bool i =>
   simp only [boolsOf, Option.map_eq_some_iff] at e
   obtain ⟨ms, e1, rfl⟩ := e
   obtain ⟨a, b⟩ := zak.bools h2 e1
   simp only [Fz] at h1
   subst h1; subst a; subst b
   exact ⟨rfl, rfl⟩
  | _ => simp [boolsOf] at e
theorem zak.ofInts : ∀ (ns : List Int), zak K H (ns.map PyData.int) (ns.map V.int)
 | [] => by simp [zak]
 | i :: r => by simp only [List.map_cons, zak]; exact ⟨_, _, rfl, by simp [Fz], zak.ofInts r⟩
end
def zbP (K : PySem.W.Frag) (H : Hp) (a : Addr) : PyData -> Prop
 | .list ds => ∃ vs, H a = some (.lst vs) /\ zak K H ds vs
 | .dict kvs => (∃ kk, H a = some (.dT kk) /\ zb0 K H kvs kk) \/ ∃ kk, H a = some (.dK kk) /\ zb2 K H kvs kk
 | _ => False
def Tp (K : PySem.W.Frag) (H : Hp) : PyData -> V -> Prop
 | .list ds, v => ∃ a vs, v = .ref a /\ SqL K H a vs /\ zak K H ds vs
 | .dict kvs, v => ∃ a, v = .ref a /\ ((∃ kk, Rd H a (.dT kk) /\ zb0 K H kvs kk) \/ ∃ kk, Rd H a (.dK kk) /\ zb2 K H kvs kk)
 | d, v => Fz K H d v
section
variable {K : PySem.W.Frag} {H H' : Hp}
theorem Fz.tp {d : PyData} {v : V} (h : Fz K H d v) : Tp K H d v := by
 cases d with
 | list ds =>
  simp only [Fz] at h
  obtain ⟨a, vs, e, h1, h2⟩ := h
  exact ⟨a, vs, e, h1.sq, h2⟩
 | dict kvs =>
  simp only [Fz] at h
  obtain ⟨a, o, e, h⟩ := h
  rcases h with ⟨kk, h1, h2⟩ | ⟨kk, h1, h2⟩
  ·exact ⟨a, e, .inl ⟨kk, .inr ⟨o, h1⟩, h2⟩⟩
  ·exact ⟨a, e, .inr ⟨kk, .inr ⟨o, h1⟩, h2⟩⟩
 | _ => exact h
theorem zbP.tp {d : PyData} {a : Addr} (h : zbP K H a d) : Tp K H d (.ref a) := by
 cases d with
 | list ds =>
  obtain ⟨vs, h1, h2⟩ := h
  exact ⟨a, vs, rfl, SqL.of h1, h2⟩
 | dict kvs =>
  rcases h with ⟨kk, h1, h2⟩ | ⟨kk, h1, h2⟩
  ·exact ⟨a, rfl, .inl ⟨kk, .inl h1, h2⟩⟩
  ·exact ⟨a, rfl, .inr ⟨kk, .inl h1, h2⟩⟩
 | _ => exact h.elim
def Own : HO -> Prop
 | .lst _ => True
 | .dT _ => True
 | .dK _ => True
 | _ => False
theorem zbP.own {d : PyData} {a : Addr} (h : zbP K H a d) : ∃ o, H a = some o /\ Own o := by
 cases d with
 | list ds => obtain ⟨vs, h1, _⟩ := h; exact ⟨_, h1, trivial⟩
 | dict kvs =>
  rcases h with ⟨kk, h1, h2⟩ | ⟨kk, h1, h2⟩
  ·exact ⟨_, h1, trivial⟩
  ·exact ⟨_, h1, trivial⟩
 | _ => exact h.elim
theorem Own.zez {o : HO} (h : Own o) : ¬ zvF o := by cases o <;> first | exact fun z => z | exact h.elim
theorem zbP.mono {d : PyData} {a : Addr} (e : Fzn H H') (k : H' a = H a) (h : zbP K H a d) : zbP K H' a d := by
 cases d with
 | list ds => obtain ⟨vs, h1, h2⟩ := h; exact ⟨vs, by rw [k]; exact h1, h2.mono e⟩
 | dict kvs =>
  rcases h with ⟨kk, h1, h2⟩ | ⟨kk, h1, h2⟩
  ·exact .inl ⟨kk, by rw [k]; exact h1, h2.mono e⟩
  ·exact .inr ⟨kk, by rw [k]; exact h1, h2.mono e⟩
 | _ => exact h.elim
end
def zru (K : PySem.W.Frag) (H : Hp) : Sl -> Option V -> Prop
 | .no, _ => True
 | .val d, some v => Fz K H d v
 | .ow _ d, some (.ref a) => zbP K H a d
 | _, _ => False
def At (ρ : En) (σ : St) (i : Nat) (a : Addr) : Prop := (∃ p d, ρ[i]? = some (.ow p d)) /\ σ[i]? = some (some (.ref a))
def zqg [Cs] (H : Hp) : Prop := ∀ a u, Cs.C a = some u -> H a = some u
theorem zqg.mono [Cs] {H H' : Hp} (h : zqg H) (e : Fzn H H') : zqg H' := fun a u q => e a u (h a u q) (by
 obtain ⟨o, xs, rfl⟩ := Cs.st a u q
 trivial)
structure Rel [Cs] (K : PySem.W.Frag) (ρ : En) (σ : St) (H : Hp) : Prop where
 len : ρ.length = σ.length
 ok : ∀ (i : Nat) x v, ρ[i]? = some x -> σ[i]? = some v -> zru K H x v
 sep : ∀ i j a, At ρ σ i a -> At ρ σ j a -> i = j
 cst : zqg H
variable [Cs]
def MA (ρ : En) (σ : St) (a : Addr) : Prop := ∃ i, At ρ σ i a
structure Stp (ρ ρ' : En) (σ : St) (H H' : Hp) : Prop where
 md : ∀ (i : Nat) p, (∃ d, ρ[i]? = some (.ow p d)) ↔ ∃ d, ρ'[i]? = some (.ow p d)
 kp : ∀ a o, H a = some o -> ¬ MA ρ σ a -> H' a = some o
section
variable {K : PySem.W.Frag} {ρ ρ' ρ'' : En} {σ : St} {H H' H'' : Hp}
theorem Rel.zt5 (r : Rel K ρ σ H) {i : Nat} {a : Addr} (h : At ρ σ i a) : ∃ p d, ρ[i]? = some (.ow p d) /\ zbP K H a d := by
 obtain ⟨⟨p, d, e⟩, e2⟩ := h
 exact ⟨p, d, e, r.ok i _ _ e e2⟩
theorem Rel.zbR (r : Rel K ρ σ H) {a : Addr} (h : MA ρ σ a) : ∃ o, H a = some o /\ Own o := by
 obtain ⟨i, h⟩ := h
 obtain ⟨p, d, _, m⟩ := r.zt5 h
 exact m.own
theorem Stp.refl : Stp ρ ρ σ H H := ⟨fun _ _ => Iff.rfl, fun _ _ h _ => h⟩
theorem Stp.ma (s : Stp ρ ρ' σ H H') {a : Addr} : MA ρ σ a ↔ MA ρ' σ a := by
 constructor
 ·rintro ⟨i, ⟨p, h⟩, e⟩; exact ⟨i, ⟨p, (s.md i p).mp h⟩, e⟩
 ·rintro ⟨i, ⟨p, h⟩, e⟩; exact ⟨i, ⟨p, (s.md i p).mpr h⟩, e⟩
theorem Stp.trans (a : Stp ρ ρ' σ H H') (b : Stp ρ' ρ'' σ H' H'') : Stp ρ ρ'' σ H H'' :=
 ⟨fun i p => (a.md i p).trans (b.md i p), fun c o h n => b.kp c o (a.kp c o h n) fun z => n (a.ma.mpr z)⟩
theorem Stp.of (s : zba H H') : Stp ρ ρ σ H H' := ⟨fun _ _ => Iff.rfl, fun a o h _ => s a o h⟩
theorem Stp.fzn (s : Stp ρ ρ' σ H H') (r : Rel K ρ σ H) : Fzn H H' := fun a o h st => s.kp a o h fun m => by
 obtain ⟨o', e, w⟩ := r.zbR m
 rw [h] at e
 cases e
 exact w.zez st
theorem zru.mono {x : Sl} {v : Option V} (f : Fzn H H') (k : ∀ a, v = some (.ref a) -> (∃ p d, x = .ow p d) -> H' a = H a) (h : zru K H x v) : zru K H' x v := by
 cases x with
 | no => trivial
 | val d => cases v with
  | none => exact h.elim
  | some v => exact Fz.mono f d v h
 | ow p d => cases v with
  | none => exact h.elim
  | some v => cases v with
   | ref a => exact zbP.mono f (k a rfl ⟨p, d, rfl⟩) h
   | _ => exact h.elim
theorem Rel.same (r : Rel K ρ σ H) (s : zba H H') : Rel K ρ σ H' := by
 refine ⟨r.len, fun i x v e1 e2 => (r.ok i x v e1 e2).mono (Fzn.of s) fun a e3 ⟨p, d, e4⟩ => ?_, r.sep, r.cst.mono (Fzn.of s)⟩
 subst e3; subst e4
 obtain ⟨o, e, _⟩ := r.zbR ⟨i, ⟨p, d, e1⟩, e2⟩
 rw [e, s a o e]
theorem Rel.put {a : Addr} {o : HO} (r : Rel K ρ σ H) (n : ¬ MA ρ σ a) (ns : ∀ u, H a = some u -> ¬ zvF u) : Rel K ρ σ (upd H a o) := by
 have f : Fzn H (upd H a o) := fun b u e st => by
  rw [zaE fun z => by subst z; exact ns u e st]
  exact e
 refine ⟨r.len, fun i x v e1 e2 => (r.ok i x v e1 e2).mono f fun b e3 ⟨p, d, e4⟩ => ?_, r.sep, r.cst.mono f⟩
 subst e3; subst e4
 exact zaE fun z => n ⟨i, ⟨p, d, e1⟩, z ▸ e2⟩
end
end FL
namespace FL
open PySem L2 PySem.Spec
open PyProof.Rows hiding St
variable [Cs]
section
variable {X : Cx} {pins : List (Addr × Obj)} {σ : L2.St} {H : Hp} {s : Shared}
theorem zvR {a : Addr} {u : HO} {o : Obj} (I : Inv X pins σ H s) (hd : H a = some u) (ow : Own u) (ho : s.heap.get? a = some o) : Inv X pins σ (upd H a (.frz o u)) s := by
 have ne : ∀ b w, H b = some w -> ¬ Own w -> b ≠ a := fun b w e n z => by
  subst z
  rw [e] at hd
  cases hd
  exact n ow
 refine Inv.step (s := s) (h' := s.heap) (H' := upd H a (.frz o u)) (g' := s.gens) (t' := s.toks) (d' := s.drawn) (ch := []) I (fun _ z => nomatch z) (fun b o _ _ _ e _ => e) (fun b o _ _ _ e _ => ⟨o.slots, e⟩) (fun b _ _ _ n => ?_) (fun b o _ e => ⟨o, e⟩)
  (fun b xs e => ?_) (fun b o u e => ?_) (fun b ps e => ⟨#[], ?_⟩) (fun m hm => hm) (fun b w e => ?_) I.bare
 ·rw [zaE fun z => by subst z; rw [n] at hd; cases hd]; exact n
 ·rw [zaE (ne b _ e fun z => z)]; exact e
 ·rw [zaE (ne b _ e fun z => z)]; exact e
 ·rw [zaE (ne b _ e fun z => z), e]; simp
 ·have st : ∀ (b : Addr) (w : HO), zbV X.prog X.w H s.heap b w -> zbV X.prog X.w (upd H a (.frz o u)) s.heap b w := fun b w k =>
   k.stay (fun _ _ _ q => q) (fun b' q => by rw [zaE (ne b' _ q fun z => z)]; exact q) (fun b' xs q => q.upd (fun _ r => ne b' _ r fun z => z) fun _ _ r => ne b' _ r fun z => z)
  by_cases c : b = a
  ·subst c
   rw [zau] at e
   cases e
   exact ⟨ho, st b u (I.hok b u hd)⟩
  ·rw [zaE c] at e
   exact st b w (I.hok b w e)
theorem ztX {Q : VK} {w : Value} (h : EP X pins σ (fun v H1 => ∃ a u, v = .ref a /\ H1 a = some u /\ Own u /\ ∀ o, Q v (upd H1 a (.frz o u))) w s) : EP X pins σ Q w s := by
 obtain ⟨v, H1, I, r, a, u, e, e1, ow, q⟩ := h
 obtain ⟨o, ho⟩ := (I.hok a u e1).some
 exact ⟨v, _, zvR I e1 ow ho, r, q o⟩
def tFz (t : TE) : TE := fun σ H Q => t σ H fun v H1 => ∃ a u, v = .ref a /\ H1 a = some u /\ Own u /\ ∀ o, Q v (upd H1 a (.frz o u))
theorem zuR {e : Expr} {t : TE} (h : PE X e t) : PE X e (tFz t) := fun pins s σ H Q I q => thn (h pins s σ H _ I q) fun _ _ z => ztX z
end
def Good {β : Type} (K : PySem.W.Frag) (ρ : En) (σ : L2.St) (H : Hp) (r : R (β × En)) (P : β -> En -> Hp -> Prop) : Prop := match r with
 | .ok x => ∀ H', Rel K x.2 σ H' -> Stp ρ x.2 σ H H' -> P x.1 x.2 H'
 | _ => False
def tV (K : PySem.W.Frag) (f : EF) : TE := fun σ H Q => ∃ ρ, Rel K ρ σ H /\ Good K ρ σ H (f ρ) fun d _ H' => ∀ v, Fz K H' d v -> Q v H'
def tT (K : PySem.W.Frag) (f : TF) : TT := fun σ H Q => ∃ ρ, Rel K ρ σ H /\ Good K ρ σ H (f ρ) fun b _ H' => Q b H'
def tA (K : PySem.W.Frag) (f : AF) : TA := fun σ H Q => ∃ ρ, Rel K ρ σ H /\ Good K ρ σ H (f ρ) fun ds _ H' => ∀ vs, zak K H' ds vs -> Q vs H'
def tO (K : PySem.W.Frag) (f : OF) : TO := fun σ H Q => ∃ ρ, Rel K ρ σ H /\ Good K ρ σ H (f ρ) fun o _ H' => Q o H'
def tN (K : PySem.W.Frag) (f : EF) : TE := fun σ H Q => ∃ ρ, Rel K ρ σ H /\ Good K ρ σ H (f ρ) fun d ρ' H' => ∀ a, H a = none -> zbP K H' a d -> Q (.ref a) H'
def PV (K : PySem.W.Frag) (X : Cx) (e : Expr) (f : EF) : Prop := X.K = K -> PE X e (tV K f)
def PVT (K : PySem.W.Frag) (X : Cx) (e : Expr) (f : TF) : Prop := X.K = K -> PT X e (tT K f)
def PVW (K : PySem.W.Frag) (X : Cx) (e : Expr) (f : TF) : Prop := X.K = K -> PW X e (tT K f)
def PVA (K : PySem.W.Frag) (X : Cx) (es : List Expr) (f : AF) : Prop := X.K = K -> PA X es (tA K f)
def PVO (K : PySem.W.Frag) (X : Cx) (e : Option Expr) (f : OF) : Prop := X.K = K -> PO X e (tO K f)
def PVN (K : PySem.W.Frag) (X : Cx) (e : Expr) (f : EF) : Prop := X.K = K -> PE X e (tN K f)
theorem _root_.L2.PE.weak {X : Cx} {e : Expr} {t t' : TE} (h : PE X e t) (w : ∀ σ H Q, t' σ H Q -> t σ H Q) : PE X e t' := fun pins s σ H Q I q => h pins s σ H Q I (w σ H Q q)
theorem _root_.L2.PT.weak {X : Cx} {e : Expr} {t t' : TT} (h : PT X e t) (w : ∀ σ H Q, t' σ H Q -> t σ H Q) : PT X e t' := fun pins s σ H Q I q => h pins s σ H Q I (w σ H Q q)
theorem _root_.L2.PW.weak {X : Cx} {e : Expr} {t t' : TT} (h : PW X e t) (w : ∀ σ H Q, t' σ H Q -> t σ H Q) : PW X e t' := fun wh pins s σ H Q I q => h wh pins s σ H Q I (w σ H Q q)
theorem _root_.L2.PA.weak {X : Cx} {e : List Expr} {t t' : TA} (h : PA X e t) (w : ∀ σ H Q, t' σ H Q -> t σ H Q) : PA X e t' := fun pos pins s σ H Q I q => h pos pins s σ H Q I (w σ H Q q)
theorem _root_.L2.PO.weak {X : Cx} {e : Option Expr} {t t' : TO} (h : PO X e t) (w : ∀ σ H Q, t' σ H Q -> t σ H Q) : PO X e t' := fun pins s σ H Q I q => h pins s σ H Q I (w σ H Q q)
section
variable {K : PySem.W.Frag} {ρ ρ1 : En} {σ : L2.St} {H H1 : Hp} {β γ : Type}
theorem Good.step {r : R (β × En)} {P : β -> En -> Hp -> Prop} (st : Stp ρ ρ1 σ H H1) (g : Good K ρ σ H r P) : Good K ρ1 σ H1 r P := by
 cases r with
 | ok x => exact fun H' rel s => g H' rel (st.trans s)
 | _ => exact g
theorem Good.bnd {r : R (β × En)} {k : β × En -> R (γ × En)} {P : γ -> En -> Hp -> Prop} (g : Good K ρ σ H (r.bind k) P) : ∃ x, r = .ok x /\ Good K ρ σ H (k x) P := by
 cases r with
 | ok x => exact ⟨x, rfl, g⟩
 | _ => exact g.elim
theorem Good.zeU {r : R β} {k : β -> R (γ × En)} {P : γ -> En -> Hp -> Prop} (g : Good K ρ σ H (r.bind k) P) : ∃ x, r = .ok x /\ Good K ρ σ H (k x) P := by
 cases r with
 | ok x => exact ⟨x, rfl, g⟩
 | _ => exact g.elim
theorem Good.chk {c : Bool} {r : R (γ × En)} {P : γ -> En -> Hp -> Prop} (g : Good K ρ σ H (chk c r) P) : c = true /\ Good K ρ σ H r P := by
 cases c with
 | true => exact ⟨rfl, g⟩
 | false => exact g.elim
theorem Good.now {x : β} {P : β -> En -> Hp -> Prop} (g : Good K ρ σ H (.ok (x, ρ)) P) (rel : Rel K ρ σ H) : P x ρ H := g H rel .refl
theorem Good.new {x : β} {P : β -> En -> Hp -> Prop} (g : Good K ρ σ H (.ok (x, ρ)) P) (rel : Rel K ρ σ H) (s : zba H H1) : P x ρ H1 := g H1 (rel.same s) (.of s)
theorem goV {f : EF} {k : D × En -> R (β × En)} {S : VK} {P : β -> En -> Hp -> Prop} (rel : Rel K ρ σ H) (g : Good K ρ σ H ((f ρ).bind k) P)
  (h : ∀ d ρ1 v H1, Rel K ρ1 σ H1 -> Stp ρ ρ1 σ H H1 -> Fz K H1 d v -> Good K ρ1 σ H1 (k (d, ρ1)) P -> S v H1) : tV K f σ H S := by
 obtain ⟨x, e, g1⟩ := g.bnd
 refine ⟨ρ, rel, ?_⟩
 rw [e]
 exact fun H' r s v fz => h x.1 x.2 v H' r s fz (g1.step s)
theorem goT {f : TF} {k : Bool × En -> R (β × En)} {S : Bool -> Hp -> Prop} {P : β -> En -> Hp -> Prop} (rel : Rel K ρ σ H) (g : Good K ρ σ H ((f ρ).bind k) P)
  (h : ∀ b ρ1 H1, Rel K ρ1 σ H1 -> Stp ρ ρ1 σ H H1 -> Good K ρ1 σ H1 (k (b, ρ1)) P -> S b H1) : tT K f σ H S := by
 obtain ⟨x, e, g1⟩ := g.bnd
 refine ⟨ρ, rel, ?_⟩
 rw [e]
 exact fun H' r s => h x.1 x.2 H' r s (g1.step s)
theorem goA {f : AF} {k : List D × En -> R (β × En)} {S : List V -> Hp -> Prop} {P : β -> En -> Hp -> Prop} (rel : Rel K ρ σ H) (g : Good K ρ σ H ((f ρ).bind k) P)
  (h : ∀ ds ρ1 vs H1, Rel K ρ1 σ H1 -> Stp ρ ρ1 σ H H1 -> zak K H1 ds vs -> Good K ρ1 σ H1 (k (ds, ρ1)) P -> S vs H1) : tA K f σ H S := by
 obtain ⟨x, e, g1⟩ := g.bnd
 refine ⟨ρ, rel, ?_⟩
 rw [e]
 exact fun H' r s vs fz => h x.1 x.2 vs H' r s fz (g1.step s)
theorem goO {f : OF} {k : Option Int × En -> R (β × En)} {S : Option Int -> Hp -> Prop} {P : β -> En -> Hp -> Prop} (rel : Rel K ρ σ H) (g : Good K ρ σ H ((f ρ).bind k) P)
  (h : ∀ b ρ1 H1, Rel K ρ1 σ H1 -> Stp ρ ρ1 σ H H1 -> Good K ρ1 σ H1 (k (b, ρ1)) P -> S b H1) : tO K f σ H S := by
 obtain ⟨x, e, g1⟩ := g.bnd
 refine ⟨ρ, rel, ?_⟩
 rw [e]
 exact fun H' r s => h x.1 x.2 H' r s (g1.step s)
end
def rD (K : PySem.W.Frag) (g : D -> D -> R D) : R2 := fun x y H Q => ∃ dx dy d, Tp K H dx x /\ Tp K H dy y /\ g dx dy = .ok d /\ ∀ v H', zba H H' -> Fz K H' d v -> Q v H'
def rDs (K : PySem.W.Frag) (G : List D -> R D) : List V -> Hp -> VK -> Prop := fun xs H Q => ∃ ds d, zak K H ds xs /\ G ds = .ok d /\ ∀ v H', zba H H' -> Fz K H' d v -> Q v H'
def rD0 (K : PySem.W.Frag) (g : D -> R D) : List V -> Hp -> VK -> Prop := fun xs H Q => ∃ x dx d, xs = [x] /\ Tp K H dx x /\ g dx = .ok d /\ ∀ v H', zba H H' -> Fz K H' d v -> Q v H'
section
variable {K : PySem.W.Frag} {X : Cx} {a b c : Expr} {f h k : EF} {pos : Pos}
theorem zad {x : Str} (i : Nat) (hN : X.N[i]? = some x := by rfl) (hv : Vis X.env.scope x := by first | exact Or.inl rfl | exact Or.inr (Or.inl rfl) | exact Or.inr (Or.inr rfl)) (hd : (x == ("__debug__" : Str)) = false := by decide)
  (hcd : (x == ("__classdict__" : Str)) = false := by decide) : PV K X (.Name x pos) (eV i) := fun _ => (zpJ hN hv hd hcd).weak fun σ H Q => by
 rintro ⟨ρ, rel, g⟩
 unfold eV at g
 cases e : ρ[i]? with
 | none => rw [e] at g; exact g.elim
 | some x =>
  rw [e] at g
  cases x with
  | val d =>
   have hl : i < σ.length := by rw [<- rel.len]; exact (List.getElem?_eq_some_iff.mp e).1
   have o := rel.ok i _ _ e (List.getElem?_eq_getElem hl)
   cases es : σ[i] with
   | none => rw [es] at o; exact o.elim
   | some v =>
    rw [es] at o
    exact ⟨v, by rw [List.getElem?_eq_getElem hl, es], g.now rel v o⟩
  | _ => exact g.elim
theorem zuk {e : Expr} {v : V} {d : D} (h : PE X e (tC v)) (hv : ∀ H, Fz K H d v) : PV K X e (eC d) := fun _ => h.weak fun σ H Q => by
 rintro ⟨ρ, rel, g⟩
 exact g.now rel v (hv H)
theorem zam {i : Int} {j} : PV K X (.Constant (.int i) j pos) (eC (.int i)) := zuk zpL fun _ => by simp [Fz]
theorem zjU {i : Bool} {j} : PV K X (.Constant (.bool i) j pos) (eC (.bool i)) := zuk zuT fun _ => by simp [Fz]
theorem zkL {j} : PV K X (.Constant .none j pos) (eC .none) := zuk zse fun _ => by simp [Fz]
theorem zgC {x : Str} {v : V} {u : Value} {d : D} (hg : Gl X x) (hm : X.mg x = some u) (r : RelV v u) (hv : ∀ H, Fz K H d v) (hd : (x == ("__debug__" : Str)) = false := by decide) : PV K X (.Name x pos) (eC d) := zuk (zmR hg hm r hd) hv
theorem zuq {g : D -> D -> R D} {r : R2} (ho : ∀ x y H Q, rD K g x y H Q -> r x y H Q) (σ : L2.St) (H : Hp) (Q : VK) (q : tV K (e2 g f h) σ H Q) : tOp r (tV K f) (tV K h) σ H Q := by
 obtain ⟨ρ, rel, q⟩ := q
 refine goV rel q fun dx ρ1 x H1 rel1 st1 fx q1 => goV rel1 q1 fun dy ρ2 y H2 rel2 st2 fy q2 => ?_
 obtain ⟨d, ed, q3⟩ := q2.zeU
 exact ho _ _ _ _ ⟨dx, dy, d, (fx.mono (st2.fzn rel1)).tp, fy.tp, ed, fun v H' s fz => q3.new rel2 s v fz⟩
theorem zaN {op : Operator} {g : D -> D -> R D} (ho : OpR X (binaryOp op) (rD X.K g)) (ha : PV K X a f) (hb : PV K X b h) : PV K X (.BinOp a op b pos) (e2 g f h) := fun hK => by
 subst hK
 exact (zuQ ho (ha rfl) (hb rfl)).weak fun σ H Q q => zuq (fun _ _ _ _ z => z) σ H Q q
theorem zbU {g : D -> D -> R D} (ho : IxR X (rD X.K g)) (ha : PV K X a f) (hb : PV K X b h) (hs : zkt b := by exact fun _ _ => rfl) : PV K X (.Subscript a b pos) (e2 g f h) := fun hK => by
 subst hK
 exact (zsh ho (ha rfl) (hb rfl) hs).weak fun σ H Q q => zuq (fun _ _ _ _ z => z) σ H Q q
theorem zhK {op : CmpOp} {g : D -> D -> R D} (ho : OpR X (compareOp op) (rD X.K g)) (ha : PV K X a f) (hb : PV K X b h) (hm : behindInMarks op b = false) : PV K X (.Compare a [op] [b] pos) (e2 g f h) := fun hK => by
 subst hK
 exact (zqR ho (ha rfl) (hb rfl) hm).weak fun σ H Q q => zuq (fun _ _ _ _ z => z) σ H Q q
theorem znA {g g' : D -> D -> R D} (σ : L2.St) (H : Hp) (Q : VK) (q : tV K (zeD g g' f h k) σ H Q) : zmg (rD K g) (rD K g') (tV K f) (tV K h) (tV K k) σ H Q := by
 obtain ⟨ρ, rel, q⟩ := q
 refine goV rel q fun dx ρ1 x H1 rel1 st1 fx q1 => goV rel1 q1 fun dy ρ2 y H2 rel2 st2 fy q2 => ?_
 obtain ⟨d, ed, q3⟩ := q2.zeU
 refine ⟨dx, dy, d, (fx.mono (st2.fzn rel1)).tp, fy.tp, ed, fun v H' s fz => ?_⟩
 cases d with
 | bool bb =>
  simp only [Fz] at fz
  subst fz
  have rel3 := rel2.same s
  have q4 := q3.step (.of s)
  cases bb with
  | true =>
   refine ⟨true, rfl, zry ?_⟩
   refine goV rel3 q4 fun dz ρ3 z H3 rel4 st4 fzz q5 => ?_
   obtain ⟨d2, ed2, q6⟩ := q5.zeU
   exact ⟨dy, dz, d2, ((fy.mono (Fzn.of s)).mono (st4.fzn rel3)).tp, fzz.tp, ed2, fun v H' s fz => q6.new rel4 s v fz⟩
  | false => exact ⟨false, rfl, zrz (q4.now rel3 _ (by simp [Fz]))⟩
 | _ => exact q3.elim
theorem zkN {op op' : CmpOp} {g g' : D -> D -> R D} (ho : OpR X (compareOp op) (rD X.K g)) (ho' : OpR X (compareOp op') (rD X.K g')) (ha : PV K X a f) (hb : PV K X b h) (hc : PV K X c k)
  (hm : lastMarks [op, op'] [b, c] = false := by with_unfolding_all rfl) : PV K X (.Compare a [op, op'] [b, c] pos) (zeD g g' f h k) := fun hK => by
 subst hK
 exact (zoV ho ho' (ha rfl) (hb rfl) (hc rfl) hm).weak fun σ H Q q => znA σ H Q q
theorem zja {op} (ha : PV K X a f) : PV K X (.BoolOp op [a] pos) f := fun hK => zsc (ha hK)
theorem zjb {rest : List Expr} (ha : PV K X a f) (hb : PV K X (.BoolOp .And (b :: rest) pos) h) : PV K X (.BoolOp .And (a :: b :: rest) pos) (zkh f h) := fun hK => (zsi (ha hK) (hb hK)).weak fun σ H Q => by
 rintro ⟨ρ, rel, q⟩
 refine goV rel q fun dx ρ1 x H1 rel1 st1 fx q1 => ?_
 cases dx with
 | bool bb =>
  simp only [Fz] at fx
  subst fx
  cases bb with
  | true => exact ⟨true, rfl, zry ⟨ρ1, rel1, q1⟩⟩
  | false => exact ⟨false, rfl, zrz (q1.now rel1 _ (by simp [Fz]))⟩
 | _ => exact q1.elim
theorem zr2 (ha : PV K X a f) : PV K X (.UnaryOp .Not a pos) (zvt f) := fun hK => (zsd (ha hK)).weak fun σ H Q => by
 rintro ⟨ρ, rel, q⟩
 refine goV rel q fun dx ρ1 x H1 rel1 st1 fx q1 => ?_
 cases dx with
 | bool bb =>
  simp only [Fz] at fx
  subst fx
  exact ⟨bb, rfl, q1.now rel1 _ (by simp [Fz])⟩
 | _ => exact q1.elim
variable {es : List Expr} {fa : AF}
theorem zai : PVA K X [] zar := fun _ => zjc.weak fun σ H Q => by
 rintro ⟨ρ, rel, q⟩
 exact q.now rel [] (by simp [zak])
theorem zab (ha : PV K X a f) (hr : PVA K X es fa) (hs : starEach (a :: es) X.env = (false, eval a X.env) :: starEach es X.env := by rfl) : PVA K X (a :: es) (zac f fa) := fun hK => (zdo (ha hK) (hr hK) hs).weak fun σ H Q => by
 rintro ⟨ρ, rel, q⟩
 refine goV rel q fun dx ρ1 x H1 rel1 st1 fx q1 => goA rel1 q1 fun ds ρ2 vs H2 rel2 st2 fs q2 => ?_
 exact q2.now rel2 _ (by simp only [zak]; exact ⟨x, vs, rfl, fx.mono (st2.fzn rel1), fs⟩)
theorem zcN : lim <= sizeLine := by rw [sizeLine_eq]; decide
theorem zey {x1} (h : PVA K X es fa) : PV K X (.Tuple es x1 pos) (zek fa) := fun hK => (zsb (h hK)).weak fun σ H Q => by
 rintro ⟨ρ, rel, q⟩
 refine goA rel q fun ds ρ1 vs H1 rel1 st1 fs q1 => ?_
 obtain ⟨c, q2⟩ := q1.chk
 refine ⟨by rw [fs.len]; exact Nat.le_trans (zhu c) zcN, fun p hp => ?_⟩
 have s : zba H1 (upd H1 p (.tup vs)) := zba.upd hp
 refine q2.new rel1 s _ ?_
 simp only [Fz]
 exact ⟨p, vs, rfl, .inl zau, fs.mono (Fzn.of s)⟩
theorem zdU (h : PVA K X es fa) : PVN K X (.List es pos) (zel fa) := fun hK => (zsg (h hK)).weak fun σ H Q => by
 rintro ⟨ρ, rel, q⟩
 refine goA rel q fun ds ρ1 vs H1 rel1 st1 fs q1 => ?_
 obtain ⟨c, q2⟩ := q1.chk
 refine ⟨by rw [fs.len]; exact Nat.le_trans (zhu c) zcN, fun p hp => ?_⟩
 have s : zba H1 (upd H1 p (.lst vs)) := zba.upd hp
 refine q2.new rel1 s p ?_ ?_
 ·cases e : H p with
  | none => rfl
  | some o =>
   by_cases m : MA ρ σ p
   ·obtain ⟨o', e', _⟩ := rel1.zbR (st1.ma.mp m)
    rw [hp] at e'; cases e'
   ·rw [st1.kp p o e m] at hp; cases hp
 ·exact ⟨vs, zau, fs.mono (Fzn.of s)⟩
theorem PVN.pv {e : Expr} {f : EF} (h : PVN K X e f) : PV K X e f := fun hK => (zuR (h hK)).weak fun σ H Q => by
 rintro ⟨ρ, rel, q⟩
 refine ⟨ρ, rel, ?_⟩
 cases e : f ρ with
 | ok x =>
  rw [e] at q
  intro H' rel' st a ha m
  obtain ⟨u, e1, ow⟩ := m.own
  refine ⟨a, u, rfl, e1, ow, fun o => ?_⟩
  have nma : ¬ MA ρ σ a := fun z => by
   obtain ⟨o', e', _⟩ := rel.zbR z
   rw [ha] at e'; cases e'
  have nma' : ¬ MA x.2 σ a := fun z => nma (st.ma.mpr z)
  have fz : Fzn H' (upd H' a (.frz o u)) := fun b w e2 sy => by
   rw [zaE fun z => by subst z; rw [e1] at e2; cases e2; exact ow.zez sy]
   exact e2
  refine q _ (rel'.put nma' fun u' e2 => by rw [e1] at e2; cases e2; exact ow.zez) ⟨st.md, fun b w e2 n => ?_⟩ _ ?_
  ·rw [zaE fun z => by subst z; rw [ha] at e2; cases e2]
   exact st.kp b w e2 n
  ·obtain ⟨d, ρ'⟩ := x
   cases d with
   | list ds =>
    obtain ⟨vs, h1, h2⟩ := m
    rw [e1] at h1
    cases h1
    simp only [Fz]
    exact ⟨a, vs, rfl, .inl ⟨o, zau⟩, h2.mono fz⟩
   | dict kvs =>
    simp only [Fz]
    rcases m with ⟨kk, h1, h2⟩ | ⟨kk, h1, h2⟩
    ·rw [e1] at h1
     cases h1
     exact ⟨a, o, rfl, .inl ⟨kk, zau, h2.mono fz⟩⟩
    ·rw [e1] at h1
     cases h1
     exact ⟨a, o, rfl, .inr ⟨kk, zau, h2.mono fz⟩⟩
   | _ => exact m.elim
 | _ => rw [e] at q; exact q.elim
theorem goC {G : List D -> R D} {r : List V -> Hp -> VK -> Prop} (hr : ∀ xs H Q, rDs K G xs H Q -> r xs H Q) (σ : L2.St) (H : Hp) (Q : VK) (q : tV K (zal G fa) σ H Q) : tCB r (tA K fa) σ H Q := by
 obtain ⟨ρ, rel, q⟩ := q
 refine goA rel q fun ds ρ1 vs H1 rel1 st1 fs q1 => ?_
 obtain ⟨d, ed, q2⟩ := q1.zeU
 exact hr _ _ _ ⟨ds, d, fs, ed, fun v H' s fz => q2.new rel1 s v fz⟩
theorem zaO {x : Str} {id : String} {G : List D -> R D} {p : Pos} {e : Expr} (hc : ze5 X (.builtin id) (rDs X.K G)) (hg : Gl X x) (hm : X.mg x = none) (hv : bootBuiltins x = some (.builtin id)) (ha : PVA K X (e :: es) fa) (hn : x ≠ "__name__" := by decide) (hdb : (x == ("__debug__" : Str)) = false := by decide)
  (he : starEach (e :: es) X.env = (false, eval e X.env) :: starEach es X.env := by rfl) (hpl : (backTo pos (starEach es X.env)).any (·.1) = false := by rfl) : PV K X (.Call (.Name x p) (e :: es) [] pos) (zal G fa) := fun hK => by
 subst hK
 exact (zkO hc hg hm hv (ha rfl) hn hdb he hpl).weak fun σ H Q q => goC (fun _ _ _ z => z) σ H Q q
theorem zmG {x : Str} {T : String} {G : List D -> R D} {p : Pos} {e : Expr} (hc : ze5 X (.type T) (rDs X.K G)) (hg : Gl X x) (hm : X.mg x = none) (hv : bootBuiltins x = some (.type T)) (ha : PVA K X (e :: es) fa) (hn : x ≠ "__name__" := by decide) (hdb : (x == ("__debug__" : Str)) = false := by decide)
  (he : starEach (e :: es) X.env = (false, eval e X.env) :: starEach es X.env := by rfl) (hpl : (backTo pos (starEach es X.env)).any (·.1) = false := by rfl) : PV K X (.Call (.Name x p) (e :: es) [] pos) (zal G fa) := fun hK => by
 subst hK
 exact (zmS hc hg hm hv (ha rfl) hn hdb he hpl).weak fun σ H Q q => goC (fun _ _ _ z => z) σ H Q q
variable {lo hi : Option Expr} {fl fh : OF}
theorem zbu : PVO K X none zbb := fun _ => zqM.weak fun σ H Q => by
 rintro ⟨ρ, rel, q⟩
 exact q.now rel
theorem zbt (h : PV K X a f) : PVO K X (some a) (za4 f) := fun hK => (zqL (h hK)).weak fun σ H Q => by
 rintro ⟨ρ, rel, q⟩
 refine goV rel q fun dx ρ1 x H1 rel1 st1 fx q1 => ?_
 cases dx with
 | int i =>
  simp only [Fz] at fx
  exact ⟨i, fx, q1.now rel1⟩
 | _ => exact q1.elim
def zvL (K : PySem.W.Frag) : V -> Option Int -> Option Int -> Hp -> VK -> Prop := fun x lo hi H Q => ∃ dx d, Tp K H dx x /\ zc5 dx lo hi = .ok d /\ ∀ v H', zba H H' -> Fz K H' d v -> Q v H'
theorem zbv {p2 : Pos} (hr : SlR X (zvL X.K)) (he : PV K X a f) (hl : PVO K X lo fl) (hu : PVO K X hi fh) : PV K X (.Subscript a (.Slice lo hi none p2) pos) (eSl f fl fh) := fun hK => by
 subst hK
 exact (zoP hr (he rfl) (hl rfl) (hu rfl)).weak fun σ H Q => by
  rintro ⟨ρ, rel, q⟩
  refine goV rel q fun dx ρ1 x H1 rel1 st1 fx q1 => goO rel1 q1 fun l ρ2 H2 rel2 st2 q2 => goO rel2 q2 fun u ρ3 H3 rel3 st3 q3 => ?_
  obtain ⟨d, ed, q4⟩ := q3.zeU
  exact ⟨dx, d, ((fx.mono (st2.fzn rel1)).mono (st3.fzn rel2)).tp, ed, fun v H' s fz => q4.new rel3 s v fz⟩
variable {t u : TF}
theorem zbW (hv : zvD X (fun x H Q => ∃ d k, Tp X.K H d x /\ zia d = .ok k /\ Q k H)) (h : PV K X a f) (he : ∀ whole, isTrue a X.env whole = (do let v <- whole; standAt a.pos; holding [v] (truthy v)) := by intro _; rfl) : PVT K X a (tE f) := fun hK => by
 subst hK
 intro pins s σ H Q I q
 rw [he]
 obtain ⟨ρ, rel, q⟩ := q
 refine wpAny_bind (thn (h rfl pins s σ H (fun x H' => ∃ d k, Tp X.K H' d x /\ zia d = .ok k /\ Q k H') I ?_) fun v s1 ⟨x, H1, I1, r1, q1⟩ => wpAny_bind (wpAny_standAt (wpAny_holding (hv pins s1 σ H1 x v Q I1 r1 q1))))
 refine goV rel q fun dx ρ1 x H1 rel1 st1 fx q1 => ?_
 obtain ⟨d, ed, q2⟩ := q1.zeU
 exact ⟨dx, d, fx.tp, ed, q2.now rel1⟩
theorem goB {te : TE} (hw : ∀ σ H Q, tV K f σ H Q -> te σ H Q) (σ : L2.St) (H : Hp) (Q : Bool -> Hp -> Prop) (q : tT K (tB f) σ H Q) : te σ H fun x H' => ∃ k, x = .bl k /\ Q k H' := by
 obtain ⟨ρ, rel, q⟩ := q
 refine hw σ H _ (goV rel q fun dx ρ1 x H1 rel1 st1 fx q1 => ?_)
 cases dx with
 | bool bb =>
  simp only [Fz] at fx
  exact ⟨bb, fx, q1.now rel1⟩
 | _ => exact q1.elim
theorem za6 {op : CmpOp} {g : D -> D -> R D} (ho : OpR X (compareOp op) (rD X.K g)) (ha : PV K X a f) (hb : PV K X b h) (hm : behindInMarks op b = false) : PVT K X (.Compare a [op] [b] pos) (tB (e2 g f h)) := fun hK => by
 subst hK
 exact (zmH ho (ha rfl) (hb rfl) hm).weak fun σ H Q q => goB (fun σ H Q z => zuq (fun _ _ _ _ z => z) σ H Q z) σ H Q q
theorem zeP (ha : PVT K X a t) : PVW K X (.BoolOp .Or [a] pos) t := fun hK => zr0 (ha hK)
theorem zex {rest : List Expr} (ha : PVT K X a t) (hb : PVW K X (.BoolOp .Or (b :: rest) pos) u) : PVW K X (.BoolOp .Or (a :: b :: rest) pos) (FL.tOr t u) := fun hK => (zuJ (ha hK) (hb hK)).weak fun σ H Q => by
 rintro ⟨ρ, rel, q⟩
 refine goT rel q fun cb ρ1 H1 rel1 st1 q1 => ?_
 cases cb with
 | true => exact zry (q1.now rel1)
 | false => exact zrz ⟨ρ1, rel1, q1⟩
theorem PVW.pvt (h : PVW K X a t) : PVT K X a t := fun hK => (h hK).pt
theorem zdk (ha : PVT K X a t) : PVT K X (.UnaryOp .Not a pos) (FL.zeH t) := fun hK => (zr3 (ha hK)).weak fun σ H Q => by
 rintro ⟨ρ, rel, q⟩
 exact goT rel q fun cb ρ1 H1 rel1 st1 q1 => q1.now rel1
theorem zmC {op op' : CmpOp} {g g' : D -> D -> R D} (ho : OpR X (compareOp op) (rD X.K g)) (ho' : OpR X (compareOp op') (rD X.K g')) (ha : PV K X a f) (hb : PV K X b h) (hc : PV K X c k)
  (hm : lastMarks [op, op'] [b, c] = false := by with_unfolding_all rfl) : PVT K X (.Compare a [op, op'] [b, c] pos) (tB (zeD g g' f h k)) := fun hK => by
 subst hK
 exact (zoH ho ho' (ha rfl) (hb rfl) (hc rfl) hm).weak fun σ H Q q => goB (fun σ H Q z => znA σ H Q z) σ H Q q
end
end FL
namespace FL
open PySem L2 PySem.Spec
open PyProof.Rows hiding St
variable [Cs]
theorem zlM (x y : Int) (xs ys : List Int) : lexLe (x :: xs) (y :: ys) = if x = y then lexLe xs ys else decide (x <= y) := rfl
theorem zix : lexLe [] [] = true := rfl
theorem zho (y : Int) (ys : List Int) : lexLe [] (y :: ys) = true := rfl
theorem zhp (x : Int) (xs : List Int) : lexLe (x :: xs) [] = false := rfl
theorem zmy (A : Around) (s : Shared) (a : Int) (t : Tok) (c : Int) (u : Tok) (prog : Program) (w : World) (E : Value -> Shared -> Prop) (Q : Value -> Shared -> Prop) (h : Q (.bool (decide (a <= c))) s) :
  wpAny (model prog w) A (richCompare .LtE (.int a t) (.int c u)) Q E s :=
 (PyProof.Rows.le_int h : wpAny (model prog w) A (compareOp .LtE (.int a t) (.int c u)) Q E s)
section
open PySem.SeqAt
open PySem.AutoSeq1 (wpAny_loadPart')
open PySem.MeetsSeq PySem.MeetsSeq2 PySem.MeetsSeq3
theorem zh7 (l b : Addr) (items items2 : Array Value) (n n2 : Nat) (dd dd2 : Option Addr) (sl sl2 : Array (Option Value)) (ns ms : List Int) (hi : IntsAre items.toList ns) (hj : IntsAre items2.toList ms) :
  Meets (Builtin.«tuple.__le__» ⟨[.ref l, .ref b], []⟩)
   (fun _ R s => s.heap.get? l = some { cls := .type "tuple", dict := dd, data := .seq items n, slots := sl } /\ s.heap.get? b = some { cls := .type "tuple", dict := dd2, data := .seq items2 n2, slots := sl2 } /\
    R (.ok (.ret (.bool (lexLe ns ms)))) s) :=
 .of_wp fun prog w A R s h => by
  obtain ⟨hp, g, d, tk, os⟩ := s; obtain ⟨hl, hb, h⟩ := h
  have f2 := AutoSeq1.sub_tuple_tuple
  have z1 : items.size = ns.length := by rw [<- hi.length]; simp
  have z2 : items2.size = ms.length := by rw [<- hj.length]; simp
  wp_walk using wpAny_loadPart' hl, wpAny_loadPart' hb, wpAny_forIn_list _ (fun rest b s' => b.1 = none /\ s' = ⟨hp, g, d, tk, os⟩ /\ ∃ (vs ws : List Value) (ns' ms' : List Int), rest = vs.zip ws /\
   IntsAre vs ns' /\ IntsAre ws ms' /\ ns'.length + items2.size = ms'.length + items.size /\ R (.ok (.ret (.bool (lexLe ns' ms')))) ⟨hp, g, d, tk, os⟩) _
  case turn =>
   rintro ⟨y, x⟩ rest b s' ⟨hb', rfl, vs, ws, ns', ms', hz, hvi, hwi, hlen, hR⟩
   cases hvi with
   | nil => rw [List.zip_nil_left] at hz; cases hz
   | cons a t hvi' =>
    cases hwi with
    | nil => rw [List.zip_nil_right] at hz; cases hz
    | cons c u hwi' =>
     rw [List.zip_cons_cons] at hz
     injection hz with hyx hrest
     injection hyx with hy hx
     subst hy hx
     rw [zlM] at hR
     simp only [List.length_cons] at hlen
     obtain ⟨e, he, hiff⟩ := HT.zgm A.in1 ⟨hp, g, d, tk, os⟩ a t c u
     refine wpAny_bind (he prog w _ _ ?_)
     cases e with
     | true =>
      rw [if_pos (hiff.mp rfl)] at hR
      wp_walk
      exact ⟨rfl, rfl, _, _, _, _, hrest, hvi', hwi', by omega, hR⟩
     | false =>
      rw [if_neg (fun q => absurd (hiff.mpr q) Bool.false_ne_true)] at hR
      have hri := zmy A.in1 ⟨hp, g, d, tk, os⟩ a t c u prog w
      wp_walk using hri
      exact ⟨_, rfl, by simpa using hR⟩
  case fin =>
   rintro ⟨b1, b2⟩ s' ⟨hb', rfl, vs, ws, ns', ms', hz, hvi, hwi, hlen, hR⟩
   simp only at hb'
   subst hb'
   have hv : lexLe ns' ms' = decide (items.size <= items2.size) := by
    cases hvi with
    | nil =>
     cases hwi with
     | nil =>
      simp only [List.length_nil] at hlen
      rw [zix]
      exact (decide_eq_true (by omega)).symm
     | cons c u hw =>
      simp only [List.length_nil, List.length_cons] at hlen
      rw [zho]
      exact (decide_eq_true (by omega)).symm
    | cons a t hv =>
     cases hwi with
     | nil =>
      simp only [List.length_nil, List.length_cons] at hlen
      rw [zhp]
      exact (decide_eq_false (by omega)).symm
     | cons c u hw =>
      rw [List.zip_cons_cons] at hz
      cases hz
   rw [hv] at hR
   wp_walk
   exact ⟨_, rfl, by simpa [Builtin.Tuple.tupleCompareSizes] using hR⟩
  case h =>
   exact ⟨rfl, rfl, items.toList, items2.toList, ns, ms, rfl, hi, hj, by omega, h⟩
end
section
variable {prog : Program} {w : World} {A : Around} {E : Value -> Shared -> Prop} {s : Shared}
theorem zlP {l b : Addr} {items items2 : Array Value} {ns ms : List Int} {Q : Value -> Shared -> Prop} (hl : IsTup s.heap l items) (hb : IsTup s.heap b items2) (hi : IntsAre items.toList ns) (hj : IntsAre items2.toList ms)
  (hu : A.units < cLine) (h : Q (.bool (lexLe ns ms)) s) : wpAny (model prog w) A (compareOp .LtE (.ref l) (.ref b)) Q E s := by
 obtain ⟨⟨cls, dd, data, sl⟩, ho, hc, n, hd⟩ := id hl
 obtain ⟨⟨cls2, dd2, data2, sl2⟩, ho2, hc2, n2, hd2⟩ := id hb
 simp only at hc hd hc2 hd2
 subst hc hd hc2 hd2
 exact richCompare_meets_room (op := .LtE) ⟨_, ho, rfl⟩ ⟨_, ho2, rfl⟩ PySem.F.slot_tuple_le PySem.F.entry_tuple_le (PySem.F.args_tuple_le_2 _ _) (zh7 l b items items2 n n2 dd dd2 sl sl2 ns ms hi hj)
  ⟨ho, ho2, show Value.bool (lexLe ns ms) ≠ Value.notImplemented /\ Q (.bool (lexLe ns ms)) s from ⟨(fun x => nomatch x), h⟩⟩ hu
end
theorem zlN (x y : Int) (xs ys : List Int) : zfG (x :: xs) (y :: ys) = if x = y then zfG xs ys else decide (y < x) := rfl
theorem ziy : zfG [] [] = false := rfl
theorem zhq (y : Int) (ys : List Int) : zfG [] (y :: ys) = false := rfl
theorem zhr (x : Int) (xs : List Int) : zfG (x :: xs) [] = true := rfl
theorem zow (A : Around) (s : Shared) (a : Int) (t : Tok) (c : Int) (u : Tok) (prog : Program) (w : World) (E : Value -> Shared -> Prop) (Q : Value -> Shared -> Prop) (h : Q (.bool (decide (c < a))) s) :
  wpAny (model prog w) A (richCompare .Gt (.int a t) (.int c u)) Q E s :=
 (PyProof.Rows.gt_int h : wpAny (model prog w) A (compareOp .Gt (.int a t) (.int c u)) Q E s)
section
open PySem.SeqAt
open PySem.AutoSeq1 (wpAny_loadPart')
open PySem.MeetsSeq PySem.MeetsSeq2 PySem.MeetsSeq3
theorem zh8 (l b : Addr) (items items2 : Array Value) (n n2 : Nat) (dd dd2 : Option Addr) (sl sl2 : Array (Option Value)) (ns ms : List Int) (hi : IntsAre items.toList ns) (hj : IntsAre items2.toList ms) :
  Meets (Builtin.«tuple.__gt__» ⟨[.ref l, .ref b], []⟩)
   (fun _ R s => s.heap.get? l = some { cls := .type "tuple", dict := dd, data := .seq items n, slots := sl } /\ s.heap.get? b = some { cls := .type "tuple", dict := dd2, data := .seq items2 n2, slots := sl2 } /\
    R (.ok (.ret (.bool (zfG ns ms)))) s) :=
 .of_wp fun prog w A R s h => by
  obtain ⟨hp, g, d, tk, os⟩ := s; obtain ⟨hl, hb, h⟩ := h
  have f2 := AutoSeq1.sub_tuple_tuple
  have z1 : items.size = ns.length := by rw [<- hi.length]; simp
  have z2 : items2.size = ms.length := by rw [<- hj.length]; simp
  wp_walk using wpAny_loadPart' hl, wpAny_loadPart' hb, wpAny_forIn_list _ (fun rest b s' => b.1 = none /\ s' = ⟨hp, g, d, tk, os⟩ /\ ∃ (vs ws : List Value) (ns' ms' : List Int), rest = vs.zip ws /\
   IntsAre vs ns' /\ IntsAre ws ms' /\ ns'.length + items2.size = ms'.length + items.size /\ R (.ok (.ret (.bool (zfG ns' ms')))) ⟨hp, g, d, tk, os⟩) _
  case turn =>
   rintro ⟨y, x⟩ rest b s' ⟨hb', rfl, vs, ws, ns', ms', hz, hvi, hwi, hlen, hR⟩
   cases hvi with
   | nil => rw [List.zip_nil_left] at hz; cases hz
   | cons a t hvi' =>
    cases hwi with
    | nil => rw [List.zip_nil_right] at hz; cases hz
    | cons c u hwi' =>
     rw [List.zip_cons_cons] at hz
     injection hz with hyx hrest
     injection hyx with hy hx
     subst hy hx
     rw [zlN] at hR
     simp only [List.length_cons] at hlen
     obtain ⟨e, he, hiff⟩ := HT.zgm A.in1 ⟨hp, g, d, tk, os⟩ a t c u
     refine wpAny_bind (he prog w _ _ ?_)
     cases e with
     | true =>
      rw [if_pos (hiff.mp rfl)] at hR
      wp_walk
      exact ⟨rfl, rfl, _, _, _, _, hrest, hvi', hwi', by omega, hR⟩
     | false =>
      rw [if_neg (fun q => absurd (hiff.mpr q) Bool.false_ne_true)] at hR
      have hri := zow A.in1 ⟨hp, g, d, tk, os⟩ a t c u prog w
      wp_walk using hri
      exact ⟨_, rfl, by simpa using hR⟩
  case fin =>
   rintro ⟨b1, b2⟩ s' ⟨hb', rfl, vs, ws, ns', ms', hz, hvi, hwi, hlen, hR⟩
   simp only at hb'
   subst hb'
   have hv : zfG ns' ms' = decide (items2.size < items.size) := by
    cases hvi with
    | nil =>
     cases hwi with
     | nil =>
      simp only [List.length_nil] at hlen
      rw [ziy]
      exact (decide_eq_false (by omega)).symm
     | cons c u hw =>
      simp only [List.length_nil, List.length_cons] at hlen
      rw [zhq]
      exact (decide_eq_false (by omega)).symm
    | cons a t hv =>
     cases hwi with
     | nil =>
      simp only [List.length_nil, List.length_cons] at hlen
      rw [zhr]
      exact (decide_eq_true (by omega)).symm
     | cons c u hw =>
      rw [List.zip_cons_cons] at hz
      cases hz
   rw [hv] at hR
   wp_walk
   exact ⟨_, rfl, by simpa [Builtin.Tuple.tupleCompareSizes] using hR⟩
  case h =>
   exact ⟨rfl, rfl, items.toList, items2.toList, ns, ms, rfl, hi, hj, by omega, h⟩
end
section
variable {prog : Program} {w : World} {A : Around} {E : Value -> Shared -> Prop} {s : Shared}
theorem zlY {l b : Addr} {items items2 : Array Value} {ns ms : List Int} {Q : Value -> Shared -> Prop} (hl : IsTup s.heap l items) (hb : IsTup s.heap b items2) (hi : IntsAre items.toList ns) (hj : IntsAre items2.toList ms)
  (hu : A.units < cLine) (h : Q (.bool (zfG ns ms)) s) : wpAny (model prog w) A (compareOp .Gt (.ref l) (.ref b)) Q E s := by
 obtain ⟨⟨cls, dd, data, sl⟩, ho, hc, n, hd⟩ := id hl
 obtain ⟨⟨cls2, dd2, data2, sl2⟩, ho2, hc2, n2, hd2⟩ := id hb
 simp only at hc hd hc2 hd2
 subst hc hd hc2 hd2
 exact richCompare_meets_room (op := .Gt) ⟨_, ho, rfl⟩ ⟨_, ho2, rfl⟩ PySem.F.slot_tuple_gt PySem.F.entry_tuple_gt (PySem.F.args_tuple_gt_2 _ _) (zh8 l b items items2 n n2 dd dd2 sl sl2 ns ms hi hj)
  ⟨ho, ho2, show Value.bool (zfG ns ms) ≠ Value.notImplemented /\ Q (.bool (zfG ns ms)) s from ⟨(fun x => nomatch x), h⟩⟩ hu
end
theorem zlO (x y : Int) (xs ys : List Int) : zfH (x :: xs) (y :: ys) = if x = y then zfH xs ys else decide (y <= x) := rfl
theorem ziz : zfH [] [] = true := rfl
theorem zhs (y : Int) (ys : List Int) : zfH [] (y :: ys) = false := rfl
theorem zht (x : Int) (xs : List Int) : zfH (x :: xs) [] = true := rfl
theorem zmz (A : Around) (s : Shared) (a : Int) (t : Tok) (c : Int) (u : Tok) (prog : Program) (w : World) (E : Value -> Shared -> Prop) (Q : Value -> Shared -> Prop) (h : Q (.bool (decide (c <= a))) s) :
  wpAny (model prog w) A (richCompare .GtE (.int a t) (.int c u)) Q E s :=
 (PyProof.Rows.ge_int h : wpAny (model prog w) A (compareOp .GtE (.int a t) (.int c u)) Q E s)
section
open PySem.SeqAt
open PySem.AutoSeq1 (wpAny_loadPart')
open PySem.MeetsSeq PySem.MeetsSeq2 PySem.MeetsSeq3
theorem zh9 (l b : Addr) (items items2 : Array Value) (n n2 : Nat) (dd dd2 : Option Addr) (sl sl2 : Array (Option Value)) (ns ms : List Int) (hi : IntsAre items.toList ns) (hj : IntsAre items2.toList ms) :
  Meets (Builtin.«tuple.__ge__» ⟨[.ref l, .ref b], []⟩)
   (fun _ R s => s.heap.get? l = some { cls := .type "tuple", dict := dd, data := .seq items n, slots := sl } /\ s.heap.get? b = some { cls := .type "tuple", dict := dd2, data := .seq items2 n2, slots := sl2 } /\
    R (.ok (.ret (.bool (zfH ns ms)))) s) :=
 .of_wp fun prog w A R s h => by
  obtain ⟨hp, g, d, tk, os⟩ := s; obtain ⟨hl, hb, h⟩ := h
  have f2 := AutoSeq1.sub_tuple_tuple
  have z1 : items.size = ns.length := by rw [<- hi.length]; simp
  have z2 : items2.size = ms.length := by rw [<- hj.length]; simp
  wp_walk using wpAny_loadPart' hl, wpAny_loadPart' hb, wpAny_forIn_list _ (fun rest b s' => b.1 = none /\ s' = ⟨hp, g, d, tk, os⟩ /\ ∃ (vs ws : List Value) (ns' ms' : List Int), rest = vs.zip ws /\
   IntsAre vs ns' /\ IntsAre ws ms' /\ ns'.length + items2.size = ms'.length + items.size /\ R (.ok (.ret (.bool (zfH ns' ms')))) ⟨hp, g, d, tk, os⟩) _
  case turn =>
   rintro ⟨y, x⟩ rest b s' ⟨hb', rfl, vs, ws, ns', ms', hz, hvi, hwi, hlen, hR⟩
   cases hvi with
   | nil => rw [List.zip_nil_left] at hz; cases hz
   | cons a t hvi' =>
    cases hwi with
    | nil => rw [List.zip_nil_right] at hz; cases hz
    | cons c u hwi' =>
     rw [List.zip_cons_cons] at hz
     injection hz with hyx hrest
     injection hyx with hy hx
     subst hy hx
     rw [zlO] at hR
     simp only [List.length_cons] at hlen
     obtain ⟨e, he, hiff⟩ := HT.zgm A.in1 ⟨hp, g, d, tk, os⟩ a t c u
     refine wpAny_bind (he prog w _ _ ?_)
     cases e with
     | true =>
      rw [if_pos (hiff.mp rfl)] at hR
      wp_walk
      exact ⟨rfl, rfl, _, _, _, _, hrest, hvi', hwi', by omega, hR⟩
     | false =>
      rw [if_neg (fun q => absurd (hiff.mpr q) Bool.false_ne_true)] at hR
      have hri := zmz A.in1 ⟨hp, g, d, tk, os⟩ a t c u prog w
      wp_walk using hri
      exact ⟨_, rfl, by simpa using hR⟩
  case fin =>
   rintro ⟨b1, b2⟩ s' ⟨hb', rfl, vs, ws, ns', ms', hz, hvi, hwi, hlen, hR⟩
   simp only at hb'
   subst hb'
   have hv : zfH ns' ms' = decide (items2.size <= items.size) := by
    cases hvi with
    | nil =>
     cases hwi with
     | nil =>
      simp only [List.length_nil] at hlen
      rw [ziz]
      exact (decide_eq_true (by omega)).symm
     | cons c u hw =>
      simp only [List.length_nil, List.length_cons] at hlen
      rw [zhs]
      exact (decide_eq_false (by omega)).symm
    | cons a t hv =>
     cases hwi with
     | nil =>
      simp only [List.length_nil, List.length_cons] at hlen
      rw [zht]
      exact (decide_eq_true (by omega)).symm
     | cons c u hw =>
      rw [List.zip_cons_cons] at hz
      cases hz
   rw [hv] at hR
   wp_walk
   exact ⟨_, rfl, by simpa [Builtin.Tuple.tupleCompareSizes] using hR⟩
  case h =>
   exact ⟨rfl, rfl, items.toList, items2.toList, ns, ms, rfl, hi, hj, by omega, h⟩
end
section
variable {prog : Program} {w : World} {A : Around} {E : Value -> Shared -> Prop} {s : Shared}
theorem zlZ {l b : Addr} {items items2 : Array Value} {ns ms : List Int} {Q : Value -> Shared -> Prop} (hl : IsTup s.heap l items) (hb : IsTup s.heap b items2) (hi : IntsAre items.toList ns) (hj : IntsAre items2.toList ms)
  (hu : A.units < cLine) (h : Q (.bool (zfH ns ms)) s) : wpAny (model prog w) A (compareOp .GtE (.ref l) (.ref b)) Q E s := by
 obtain ⟨⟨cls, dd, data, sl⟩, ho, hc, n, hd⟩ := id hl
 obtain ⟨⟨cls2, dd2, data2, sl2⟩, ho2, hc2, n2, hd2⟩ := id hb
 simp only at hc hd hc2 hd2
 subst hc hd hc2 hd2
 exact richCompare_meets_room (op := .GtE) ⟨_, ho, rfl⟩ ⟨_, ho2, rfl⟩ PySem.F.slot_tuple_ge PySem.F.entry_tuple_ge (PySem.F.args_tuple_ge_2 _ _) (zh9 l b items items2 n n2 dd dd2 sl sl2 ns ms hi hj)
  ⟨ho, ho2, show Value.bool (zfH ns ms) ≠ Value.notImplemented /\ Q (.bool (zfH ns ms)) s from ⟨(fun x => nomatch x), h⟩⟩ hu
end
end FL
namespace FL
open PySem L2 PySem.Spec
open PyProof.Rows hiding St
variable [Cs]
section
variable {K : PySem.W.Frag} {H : Hp}
mutual
theorem Fz.is : ∀ (d : PyData) (v : V), PyData.canLay0 d = true -> Fz K H d v -> Is K H d v
 | .none, v, _, h => by simp only [Fz] at h; simp only [Is]; exact h
 | .bool b, v, _, h => by simp only [Fz] at h; simp only [Is]; exact h
 | .int i, v, _, h => by simp only [Fz] at h; simp only [Is]; exact h
 | .str x, v, _, h => by simp only [Fz] at h; simp only [Is]; exact h
 | .list xs, v, c, h => by
  simp only [Fz] at h; simp only [Is]
  obtain ⟨a, vs, e1, h1, h2⟩ := h
  exact ⟨a, vs, e1, h1.sq, zak.is xs vs c h2⟩
 | .tuple xs, v, c, h => by
  simp only [Fz] at h; simp only [Is]
  obtain ⟨a, vs, e1, h1, h2⟩ := h
  exact ⟨a, vs, e1, .inl h1, zak.is xs vs c h2⟩
 | .dict kvs, v, c, h => by simp [PyData.canLay0] at c
theorem zak.is : ∀ (ds : List PyData) (vs : List V), PyData.canLayAll0 ds = true -> zak K H ds vs -> zfT K H ds vs
 | [], vs, _, h => by simp only [zak] at h; simp only [zfT]; exact h
 | d :: ds, vs, c, h => by
  simp only [PyData.canLayAll0, Bool.and_eq_true] at c
  simp only [zak] at h; simp only [zfT]
  obtain ⟨v, r, e1, h1, h2⟩ := h
  exact ⟨v, r, e1, Fz.is d v c.1 h1, zak.is ds r c.2 h2⟩
end
theorem Tp.is {d : PyData} {v : V} (c : PyData.canLay0 d = true) (h : Tp K H d v) : Is K H d v := by
 cases d with
 | list ds =>
  obtain ⟨a, vs, e, h1, h2⟩ := h
  simp only [Is]
  exact ⟨a, vs, e, h1, zak.is ds vs c h2⟩
 | dict kvs => simp [PyData.canLay0] at c
 | none => exact Fz.is _ _ c h
 | bool b => exact Fz.is _ _ c h
 | int b => exact Fz.is _ _ c h
 | str b => exact Fz.is _ _ c h
 | tuple b => exact Fz.is _ _ c h
theorem Tp.int {i : Int} {v : V} (h : Tp K H (.int i) v) : v = .int i := by simpa [Tp, Fz] using h
theorem Tp.bool {i : Bool} {v : V} (h : Tp K H (.bool i) v) : v = .bl i := by simpa [Tp, Fz] using h
theorem Tp.none {v : V} (h : Tp K H .none v) : v = .non := by simpa [Tp, Fz] using h
theorem Tp.zvZ {ds : List PyData} {v : V} (h : Tp K H (.tuple ds) v) : ∃ a vs, v = .ref a /\ TAt H a vs /\ zak K H ds vs := by simpa [Tp, Fz] using h
theorem Tp.tup {ds : List PyData} {v : V} (h : Tp K H (.tuple ds) v) : ∃ a vs, v = .ref a /\ SqT K H a vs /\ zak K H ds vs :=
 let ⟨a, vs, x, y, z⟩ := Tp.zvZ h
 ⟨a, vs, x, .inl y, z⟩
theorem Tp.lst {ds : List PyData} {v : V} (h : Tp K H (.list ds) v) : ∃ a vs, v = .ref a /\ SqL K H a vs /\ zak K H ds vs := h
theorem zcC (i : Int) : Fz K H (.int i) (.int i) := by simp [Fz]
theorem zkf (i : Bool) : Fz K H (.bool i) (.bl i) := by simp [Fz]
theorem zk7 {a : Addr} {vs : List V} {ds : List PyData} (h : TAt H a vs) (f : zak K H ds vs) : Fz K H (.tuple ds) (.ref a) := by simp only [Fz]; exact ⟨a, vs, rfl, h, f⟩
theorem zak.atI {ds : List PyData} {vs : List V} {i : Int} {d : PyData} (h : zak K H ds vs) (e : FL.atI ds i = some d) : ∃ v, L2.atI vs i = some v /\ Fz K H d v := by
 unfold FL.atI at e
 cases en : FL.ixN ds.length i with
 | none => rw [en] at e; cases e
 | some j =>
  rw [en] at e
  obtain ⟨v, e1, f⟩ := h.get (show ds[j]? = some d from e)
  refine ⟨v, ?_, f⟩
  unfold L2.atI
  rw [h.len, show L2.ixN ds.length i = some j from en]
  exact e1
theorem zak.cut {ds : List PyData} {vs : List V} (h : zak K H ds vs) (lo hi : Option Int) : zak K H (FL.cut ds lo hi) (zpo vs lo hi) := by
 unfold FL.cut zpo
 rw [h.len]
 exact (h.drop _).take _
end
theorem zbe {α : Type} {c : Bool} {r : R α} {d : α} (h : chk c r = .ok d) : c = true /\ r = .ok d := by
 cases c with
 | true => exact ⟨rfl, h⟩
 | false => exact nomatch (show (R.bad : R α) = .ok d from h)
section
variable {X : Cx}
theorem znI {pins : List (Addr × Obj)} {σ : L2.St} {s : Shared} {H : Hp} {Q : VK} {w : Value} {ds : List D} {vs : List V} (f : zak X.K H ds vs) (q : ∀ v H', zba H H' -> Fz X.K H' (.list ds) v -> Q v H')
  (h : EP X pins σ (fun v H1 => ∃ p, v = .ref p /\ H p = none /\ H1 = upd H p (.lst vs)) w s) : EP X pins σ Q w s := by
 obtain ⟨v, H1, I, r, p, rfl, hp, rfl⟩ := h
 refine ztX ⟨.ref p, _, I, r, p, .lst vs, rfl, zau, trivial, fun o => ?_⟩
 rw [zgt]
 refine q _ _ (zba.upd hp) ?_
 simp only [Fz]
 exact ⟨p, vs, rfl, .inl ⟨o, zau⟩, f.mono (Fzn.of (zba.upd hp))⟩
theorem zc9 : OpR X (binaryOp .Add) (rD X.K zbw) := by
 intro pins s σ H x y v u Q I rx ry h
 obtain ⟨dx, dy, d, tx, ty, e, q⟩ := h
 cases dx with
 | int i =>
  cases dy with
  | int j => cases e; exact zsr pins s σ H x y v u Q I rx ry ⟨i, j, tx.int, ty.int, q _ H (zba.refl _) (zcC _)⟩
  | _ => exact nomatch (show (R.bad : R D) = .ok d from e)
 | list a =>
  cases dy with
  | list b =>
   obtain ⟨c, e⟩ := zbe (show chk (leB (a.length + b.length) lim) (.ok (.list (a ++ b))) = .ok d from e)
   ·cases e
    obtain ⟨l, xs, rfl, sx, fx⟩ := tx.lst
    obtain ⟨m, ys, rfl, sy, fy⟩ := ty.lst
    cases rx
    cases ry
    obtain ⟨its, r1, ⟨o, n, ho, hc, hdn, hd⟩, z1⟩ := I.list sx
    obtain ⟨its2, r2, ⟨o2, n2, ho2, hc2, hdn2, hd2⟩, z2⟩ := I.list sy
    obtain ⟨cls, dd, data, sl⟩ := o
    obtain ⟨cls2, dd2, data2, sl2⟩ := o2
    simp only at hc hd hc2 hd2 hdn hdn2
    subst hc hd hc2 hd2 hdn hdn2
    have hz : its.length + its2.length <= sizeLine := by
     have := zhu c
     have l0 := zcN
     rw [<- r1.length, <- r2.length, fx.len, fy.len]
     omega
    refine thn (concat_meets (Q := EP X pins σ fun v H1 => ∃ p, v = .ref p /\ H p = none /\ H1 = upd H p (.lst (xs ++ ys))) ⟨_, ho, rfl⟩ ⟨_, ho2, rfl⟩ PySem.noFill_list_add PySem.seq_list_add PySem.F.slot_list_add PySem.F.entry_list_add (PySem.F.args_list_add_2 _ _)
     (list_addW l m its.toArray its2.toArray n n2 none none sl sl2 (by rw [List.size_toArray, List.size_toArray]; exact hz)) ⟨ho, ho2, ?_⟩) fun _ _ z => znI (fx.app fy) q z
    have ea : its.toArray ++ its2.toArray = (its ++ its2).toArray := by simp
    rw [ea]
    exact ⟨.ref _, _, I.zwr (t' := s.toks) (r1.append r2) (by rw [List.length_append, r1.length, r2.length]; exact hz), rfl, _, rfl, I.fresh, rfl⟩
  | _ => exact nomatch (show (R.bad : R D) = .ok d from e)
 | tuple a =>
  cases dy with
  | tuple b =>
   obtain ⟨c, e⟩ := zbe (show chk (leB (a.length + b.length) lim) (.ok (.tuple (a ++ b))) = .ok d from e)
   ·cases e
    obtain ⟨l, xs, rfl, sx, fx⟩ := tx.tup
    obtain ⟨m, ys, rfl, sy, fy⟩ := ty.tup
    have hz : xs.length + ys.length <= sizeLine := by
     have := zhu c
     have l0 := zcN
     rw [fx.len, fy.len]
     omega
    by_cases x0 : xs = []
    ·subst x0
     have a0 : a = [] := by have := fx.len; cases a with | nil => rfl | cons _ _ => simp at this
     subst a0
     cases rx
     cases ry
     obtain ⟨its, r1, p1, z1⟩ := I.tuple sx
     obtain ⟨its2, r2, p2, z2⟩ := I.tuple sy
     cases r1
     obtain ⟨⟨cls, dd, data, sl⟩, ho, hc, n, hd⟩ := id p1
     obtain ⟨⟨cls2, dd2, data2, sl2⟩, ho2, hc2, n2, hd2⟩ := id p2
     simp only at hc hd hc2 hd2
     subst hc hd hc2 hd2
     exact concat_meets ⟨_, ho, rfl⟩ ⟨_, ho2, rfl⟩ noFill_tuple_add seq_tuple_add PySem.F.slot_tuple_add PySem.F.entry_tuple_add (PySem.F.args_tuple_add_2 _ _)
      (tuple_addW0 l m #[] its2.toArray n n2 dd dd2 sl sl2 rfl) ⟨ho, ho2, ⟨.ref m, H, I.tok _, rfl, q _ H (zba.refl _) ty⟩⟩
    ·exact zqY pins s σ H _ _ v u Q I rx ry ⟨l, m, xs, ys, rfl, rfl, sx, sy, x0, hz, fun y0 => by
      subst y0
      have b0 : b = [] := by have := fy.len; cases b with | nil => rfl | cons _ _ => simp at this
      subst b0
      rw [List.append_nil] at q
      exact q _ H (zba.refl _) tx, fun _ p hp => q _ _ (zba.upd hp) (zk7 (.inl zau) ((fx.app fy).mono (Fzn.of (zba.upd hp))))⟩
  | _ => exact nomatch (show (R.bad : R D) = .ok d from e)
 | _ => exact nomatch (show (R.bad : R D) = .ok d from e)
theorem zoX {f : Value -> Value -> Sem Value} {C : Int -> Int -> Prop} {g : Int -> Int -> Int} {c : Int -> Int -> Bool} {G : D -> D -> R D} (ho : OpR X f (rI C fun i j => .int (g i j))) (hC : ∀ i j, c i j = true -> C i j)
  (hG : ∀ dx dy d, G dx dy = .ok d -> ∃ i j, dx = .int i /\ dy = .int j /\ c i j = true /\ d = .int (g i j)) : OpR X f (rD X.K G) := by
 intro pins s σ H x y v u Q I rx ry h
 obtain ⟨dx, dy, d, tx, ty, e, q⟩ := h
 obtain ⟨i, j, rfl, rfl, cc, rfl⟩ := hG _ _ _ e
 exact ho pins s σ H x y v u Q I rx ry ⟨i, j, tx.int, ty.int, hC i j cc, q _ H (zba.refl _) (zcC _)⟩
theorem zpf {c : Int -> Int -> Bool} {g : Int -> Int -> Int} {G : D -> D -> R D} (h : ∀ i j, G (.int i) (.int j) = chk (c i j) (.ok (.int (g i j)))) (h0 : ∀ dx dy, (¬ ∃ i j, dx = .int i /\ dy = .int j) -> G dx dy = .bad) :
  ∀ dx dy d, G dx dy = .ok d -> ∃ i j, dx = .int i /\ dy = .int j /\ c i j = true /\ d = .int (g i j) := by
 intro dx dy d e
 by_cases k : ∃ i j, dx = .int i /\ dy = .int j
 ·obtain ⟨i, j, rfl, rfl⟩ := k
  rw [h] at e
  obtain ⟨cc, e⟩ := zbe e
  cases e
  exact ⟨i, j, rfl, rfl, cc, rfl⟩
 ·rw [h0 _ _ k] at e; cases e
theorem zkS {dx dy : D} {G : D -> D -> R D} (hb : ∀ dx dy, (∀ i, dx ≠ .int i) -> G dx dy = .bad) (hb2 : ∀ i dy, (∀ j, dy ≠ .int j) -> G (.int i) dy = .bad) (h : ¬ ∃ i j, dx = .int i /\ dy = .int j) : G dx dy = .bad := by
 cases dx with
 | int i => exact hb2 i dy fun j e => h ⟨i, j, rfl, e⟩
 | _ => exact hb _ _ fun i e => nomatch e
theorem zq0 : OpR X (binaryOp .Sub) (rD X.K zkG) := zoX (C := fun _ _ => True) (c := fun _ _ => true) (g := fun i j => i - j)
 (fun pins s σ H x y v u Q I rx ry ⟨i, j, e1, e2, _, q⟩ => zsk pins s σ H x y v u Q I rx ry ⟨i, j, e1, e2, q⟩) (fun _ _ _ => trivial)
 (zpf (fun _ _ => rfl) fun dx dy h => zkS (fun dx dy h => by cases dx <;> first | rfl | exact absurd rfl (h _)) (fun i dy h => by cases dy <;> first | rfl | exact absurd rfl (h _)) h)
theorem zo2 {i j : Int} (h : zm1 i j = true) : IntMulOk i j := by
 have := zhu h
 have b : ∀ k : Int, k.natAbs < 2 ^ (k.natAbs.log2 + 1) := fun k => Nat.lt_log2_self
 exact mulOk_of (a := i.natAbs.log2 + 1) (b := j.natAbs.log2 + 1) (b i) (b j) (by omega)
theorem zfi : OpR X (binaryOp .FloorDiv) (rD X.K zbg) := zoX (C := fun _ j => j ≠ 0 /\ j.natAbs.log2 < 9000) (c := fun i j => decide (j ≠ 0) && leB (j.natAbs.log2 + 1) 9000) (g := fun i j => i.fdiv j)
 (opI fun i j _ _ _ _ _ hc q => floordiv_int hc.1 q (.inl (PyProof.noPylong_of_log2 hc.2)))
 (fun i j h => by simp only [Bool.and_eq_true, leB_iff, decide_eq_true_eq] at h; exact ⟨h.1, h.2⟩)
 (zpf (fun _ _ => rfl) fun dx dy h => zkS (fun dx dy h => by cases dx <;> first | rfl | exact absurd rfl (h _)) (fun i dy h => by cases dy <;> first | rfl | exact absurd rfl (h _)) h)
theorem zlF : OpR X (binaryOp .Mod) (rD X.K zgM) := zoX (C := fun _ j => j ≠ 0) (c := fun i j => decide (j ≠ 0)) (g := fun i j => i.fmod j) zqX (fun i j h => by simpa using h)
 (zpf (fun _ _ => rfl) fun dx dy h => zkS (fun dx dy h => by cases dx <;> first | rfl | exact absurd rfl (h _)) (fun i dy h => by cases dy <;> first | rfl | exact absurd rfl (h _)) h)
theorem zlE : OpR X (binaryOp .Pow) (rD X.K zhk) := zoX (C := zvY) (c := fun i j => decide (0 <= j) && leB j.toNat 1000000 && leB i.natAbs 18446744073709551615) (g := fun i j => i ^ j.toNat) zsl (fun i j h => by simp only [Bool.and_eq_true, decide_eq_true_eq, leB_iff] at h; exact ⟨h.1.1, by omega, by omega⟩)
 (zpf (fun _ _ => rfl) fun dx dy h => zkS (fun dx dy h => by cases dx <;> first | rfl | exact absurd rfl (h _)) (fun i dy h => by cases dy <;> first | rfl | exact absurd rfl (h _)) h)
theorem zq1 (hu : X.A.units + 64 < cLine) : OpR X (compareOp .Eq) (rD X.K eqD) := by
 intro pins s σ H x y v u Q I rx ry h
 obtain ⟨dx, dy, d, tx, ty, e, q⟩ := h
 obtain ⟨c, e⟩ := zbe e
 ·cases e
  simp only [Bool.and_eq_true] at c
  exact zsq hu pins s σ H x y v u Q I rx ry ⟨dx, dy, tx.is (SeqAt.canLay_of_shaped c.1), ty.is (SeqAt.canLay_of_shaped c.2), c.1, c.2, q _ H (zba.refl _) (zkf _)⟩
theorem zpN (hu : X.A.units + 64 < cLine) : OpR X (compareOp .NotEq) (rD X.K neD) := by
 intro pins s σ H x y v u Q I rx ry h
 obtain ⟨dx, dy, d, tx, ty, e, q⟩ := h
 obtain ⟨c, e⟩ := zbe e
 ·cases e
  simp only [Bool.and_eq_true] at c
  exact zsm hu pins s σ H x y v u Q I rx ry ⟨dx, dy, tx.is (SeqAt.canLay_of_shaped c.1), ty.is (SeqAt.canLay_of_shaped c.2), c.1, c.2, q _ H (zba.refl _) (zkf _)⟩
theorem ziw : ∀ a b, FL.lexLt a b = HT.lexLt a b
 | [], [] => rfl
 | [], _ :: _ => rfl
 | _ :: _, [] => rfl
 | x :: xs, y :: ys => by unfold FL.lexLt HT.lexLt; rw [ziw xs ys]
theorem zoY {op : CmpOp} {p : Int -> Int -> Bool} {q : List Int -> List Int -> Bool} (hi : OpR X (compareOp op) (rI0 fun i j => .bl (p i j)))
  (ht : ∀ {s : Shared} {l b : Addr} {items items2 : Array Value} {ns ms : List Int} {Q : Value -> Shared -> Prop}, IsTup s.heap l items -> IsTup s.heap b items2 -> IntsAre items.toList ns -> IntsAre items2.toList ms ->
   Q (.bool (q ns ms)) s -> wpAny (model X.prog X.w) X.A (compareOp op (.ref l) (.ref b)) Q X.xe s) : OpR X (compareOp op) (rD X.K (zt2 p q)) := by
 intro pins s σ H x y v u Q I rx ry h
 obtain ⟨dx, dy, d, tx, ty, e, k⟩ := h
 cases dx with
 | int i =>
  cases dy with
  | int j => cases e; exact hi pins s σ H x y v u Q I rx ry ⟨i, j, tx.int, ty.int, k _ H (zba.refl _) (zkf _)⟩
  | _ => exact nomatch (show (R.bad : R D) = .ok d from e)
 | tuple a =>
  cases dy with
  | tuple b =>
   replace e : ((R.of (intsOf a)).bind fun x => (R.of (intsOf b)).bind fun y => R.ok (PyData.bool (q x y))) = .ok d := e
   cases ea : intsOf a with
   | none => rw [ea] at e; cases e
   | some ns =>
    cases eb : intsOf b with
    | none => rw [ea, eb] at e; cases e
    | some ms =>
     rw [ea, eb] at e
     cases e
     obtain ⟨l, xs, rfl, sx, fx⟩ := tx.tup
     obtain ⟨m, ys, rfl, sy, fy⟩ := ty.tup
     cases rx
     cases ry
     obtain ⟨rfl, _⟩ := fx.ints ea
     obtain ⟨rfl, _⟩ := fy.ints eb
     obtain ⟨its, r1, p1, _⟩ := I.tuple sx
     obtain ⟨its2, r2, p2, _⟩ := I.tuple sy
     exact ht p1 p2 (intsAre_of r1) (intsAre_of r2) ⟨.bl (q ns ms), H, I, rfl, k _ H (zba.refl _) (zkf _)⟩
  | _ => exact nomatch (show (R.bad : R D) = .ok d from e)
 | _ => exact nomatch (show (R.bad : R D) = .ok d from e)
theorem zss (hu : X.A.units + 64 < cLine) : OpR X (compareOp .Lt) (rD X.K ltD) := zoY zuU fun p1 p2 i1 i2 h => HT.zhM p1 p2 i1 i2 (by omega) (by rw [<- ziw]; exact h)
theorem zrx (hu : X.A.units + 64 < cLine) : OpR X (compareOp .LtE) (rD X.K leD) := zoY zuV fun p1 p2 i1 i2 h => zlP p1 p2 i1 i2 (by omega) h
theorem zun (hu : X.A.units + 64 < cLine) : OpR X (compareOp .Gt) (rD X.K gtD) := zoY zuW fun p1 p2 i1 i2 h => zlY p1 p2 i1 i2 (by omega) h
theorem zwk (hu : X.A.units + 64 < cLine) : OpR X (compareOp .GtE) (rD X.K geD) := zoY zuX fun p1 p2 i1 i2 h => zlZ p1 p2 i1 i2 (by omega) h
theorem zuY : OpR X (compareOp .Is) (rD X.K isD) := by
  intro pins s σ H x y v u Q I rx ry h
  obtain ⟨dx, dy, d, tx, ty, e, q⟩ := h
  cases dy with
  | none =>
    refine zsn pins s σ H x y v u Q I rx ry ⟨ty.none, ?_⟩
    have : d = .bool (decide (x = .non)) := by
      cases dx with
      | none => have := tx.none; subst this; cases e; rfl
      | bool b => have := tx.bool; subst this; cases e; rfl
      | int b => have := tx.int; subst this; cases e; rfl
      | str b => have : x = .str b := by simpa [Tp, Fz] using tx
                 subst this; cases e; rfl
      | list b => obtain ⟨_, _, rfl, _⟩ := tx.lst; cases e; rfl
      | tuple b => obtain ⟨_, _, rfl, _⟩ := tx.tup; cases e; rfl
      | dict b => obtain ⟨_, rfl, _⟩ := tx; cases e; rfl
    subst this
    exact q _ H (zba.refl _) (zkf _)
  | _ => exact nomatch (show (R.bad : R D) = .ok d from e)
theorem zet : IxR X (rD X.K ixD) := by
 intro value slice pins s σ H x y v u Q I rx ry h hs
 obtain ⟨dx, dy, d, tx, ty, e, q⟩ := h
 cases dx with
 | list a =>
  cases dy with
  | int i =>
   replace e : R.of (FL.atI a i) = .ok d := e
   cases ea : FL.atI a i with
   | none => rw [ea] at e; cases e
   | some d' =>
    rw [ea] at e
    cases e
    obtain ⟨l, xs, rfl, sx, fx⟩ := tx.lst
    obtain ⟨w, ew, fw⟩ := fx.atI ea
    exact zrc value slice pins s σ H _ y v u Q I rx ry ⟨l, xs, i, w, rfl, ty.int, sx, ew, q _ H (zba.refl _) fw⟩ hs
  | _ => exact nomatch (show (R.bad : R D) = .ok d from e)
 | tuple a =>
  cases dy with
  | int i =>
   replace e : R.of (FL.atI a i) = .ok d := e
   cases ea : FL.atI a i with
   | none => rw [ea] at e; cases e
   | some d' =>
    rw [ea] at e
    cases e
    obtain ⟨l, xs, rfl, sx, fx⟩ := tx.tup
    obtain ⟨w, ew, fw⟩ := fx.atI ea
    exact zsH value slice pins s σ H _ y v u Q I rx ry ⟨l, xs, i, w, rfl, ty.int, sx, ew, q _ H (zba.refl _) fw⟩ hs
  | _ => exact nomatch (show (R.bad : R D) = .ok d from e)
 | _ => exact nomatch (show (R.bad : R D) = .ok d from e)
theorem zfb : zvD X (fun x H Q => ∃ d k, Tp X.K H d x /\ zia d = .ok k /\ Q k H) := by
 intro pins s σ H x v Q I rx h
 obtain ⟨d, k, tx, e, q⟩ := h
 refine zrI pins s σ H x v Q I rx ⟨k, ?_, q⟩
 cases d with
 | none => have := tx.none; subst this; cases e; rfl
 | bool b => have := tx.bool; subst this; cases e; rfl
 | int b => have := tx.int; subst this; cases e; rfl
 | list b =>
  obtain ⟨a, vs, rfl, sx, fx⟩ := tx.lst
  cases e
  refine .inl ⟨vs, sx, ?_⟩
  have := fx.len
  cases b <;> cases vs <;> simp_all
 | tuple b =>
  obtain ⟨a, vs, rfl, sx, fx⟩ := tx.tup
  cases e
  refine .inr (.inl ⟨vs, sx, ?_⟩)
  have := fx.len
  cases b <;> cases vs <;> simp_all
 | _ => exact nomatch (show (R.bad : R Bool) = .ok k from e)
end
end FL
namespace FL
open PySem L2 PySem.Spec
open PyProof.Rows hiding St
variable [Cs]
theorem zgb : fillsNumberSlot (.type "tuple") "mul" = pure false :=
 PySem.fillsNumberSlot_seq (id := "tuple.__mul__") (r := some (.builtin "tuple.__rmul__")) PySem.F.slot_tuple_mul.lookup (by decide +kernel) PySem.F.slot_tuple_rmul.lookup (by decide +kernel)
theorem zi4 : seqRepeat? (.type "tuple") = pure (some (.builtin "tuple.__mul__")) := by
 unfold seqRepeat?
 rw [PySem.seqSlot_of (T := "tuple") (name := "__mul__") (id := "tuple.__mul__") PySem.F.slot_tuple_mul.lookup (by decide +kernel), PySem.seqSlot_of (T := "tuple") (name := "__rmul__") (id := "tuple.__rmul__") PySem.F.slot_tuple_rmul.lookup (by decide +kernel)]
 rfl
section
open PySem.SeqAt
open PySem.AutoSeq1 (wpAny_loadPart')
open PySem.MeetsSeq PySem.MeetsSeq2 PySem.MeetsSeq3
theorem zhx (a : Int) (t : Tok) (l : Addr) (items : Array Value) (n : Nat) (dd : Option Addr) (sl : Array (Option Value)) :
  Meets (Builtin.«int.__rmul__» ⟨[.int a t, .ref l], []⟩) (fun _ R s => s.heap.get? l = some { cls := .type "tuple", dict := dd, data := .seq items n, slots := sl } /\ R (.ok (.ret Value.notImplemented)) s) :=
 .of_wp fun prog w A R s h => by obtain ⟨hp, g, d, tk, os⟩ := s; obtain ⟨hl, h⟩ := h; wp_walk; exact ⟨_, rfl, h⟩
theorem zlt (l : Addr) (items : Array Value) (n : Nat) (dd : Option Addr) (sl : Array (Option Value)) (k : Int) (t : Tok) (h0 : items.isEmpty = false) (h1 : 2 <= k) (h2 : k < 2 ^ 62) (h3 : items.size * k.toNat <= sizeLine) :
  Meets (Builtin.«tuple.__mul__» ⟨[.ref l, .int k t], []⟩) (fun _ R s => s.heap.get? l = some { cls := .type "tuple", dict := dd, data := .seq items n, slots := sl } /\
   R (.ok (.ret (.ref s.heap.objs.size))) { s with heap := s.heap.push { cls := .type "tuple", data := .seq ((List.replicate k.toNat items).foldl (· ++ ·) #[]) } }) :=
 .of_wp fun prog w A R s h => by
  obtain ⟨hp, g, d, tk, os⟩ := s; obtain ⟨hl, h⟩ := h
  have f1 := AutoSeq1.idx_int
  have i0 : (items.size : Int) * k <= (sizeLine : Int) := by
   have e : ((items.size * k.toNat : Nat) : Int) = (items.size : Int) * k := by rw [Int.natCast_mul, Int.toNat_of_nonneg (by omega)]
   rw [<- e]
   exact Int.ofNat_le.mpr h3
  have hA : ¬ (decide (k < -2 ^ 63) || decide (k ≥ 2 ^ 63)) = true := by
   simp only [Bool.or_eq_true, decide_eq_true_eq, not_or]
   constructor <;> omega
  have hB : ¬ (items.isEmpty || k == 1) = true := by
   rw [h0]
   simp only [Bool.false_or, beq_iff_eq]
   omega
  have hC : ¬ (decide (k <= 0) || items.isEmpty) = true := by
   rw [h0]
   simp only [Bool.or_false, decide_eq_true_eq]
   omega
  have sz : (sizeLine : Int) <= 16777216 := by rw [sizeLine_eq]; decide
  have hD : ¬ (items.size : Int) * k > (2 ^ 63 - 1) / 8 := by omega
  have hE : ¬ Builtin.Tuple.tupleTooMany ((items.size : Int) * k) = true := by
   unfold Builtin.Tuple.tupleTooMany
   simp only [decide_eq_true_eq]
   omega
  have hs : sizeOk (.seq (List.foldl (fun x1 x2 => x1 ++ x2) #[] (List.replicate k.toNat items))) := by
   obtain ⟨its⟩ := items
   have := foldl_rep its k.toNat []
   rw [List.nil_append] at this
   rw [this]
   show (List.replicate k.toNat its).flatten.toArray.size <= sizeLine
   rw [List.size_toArray, len_rep, Nat.mul_comm]
   exact h3
  wp_walk
  rw [if_neg hA]
  wp_walk using wpAny_loadPart' hl
  rw [if_neg hB]
  wp_walk
  rw [if_neg hC]
  wp_walk
  rw [if_neg hD]
  wp_walk
  rw [if_neg (show ¬ (List.foldl (fun x1 x2 => x1 ++ x2) #[] (List.replicate k.toNat items)).size > sizeLine from Nat.not_lt.mpr hs)]
  wp_walk
  exact ⟨_, rfl, h⟩
end
section
variable {prog : Program} {w : World} {A : Around} {E : Value -> Shared -> Prop} {s : Shared}
theorem zjQ {t sl : Addr} {items : Array Value} {vl vu : Value} {lo hi : Option Int} {Q : Value -> Shared -> Prop} (ht : IsTup s.heap t items) (hs : s.heap.IsSliceOf sl vl vu .none) (pl : IsPart vl lo) (pu : IsPart vu hi)
  (hw : HT.sIx items.size 0 lo = 0 /\ HT.sIx items.size items.size hi = items.size) (h : Q (.ref t) s) : wpAny (model prog w) A (getItem (.ref t) (.ref sl)) Q E s := by
 obtain ⟨os, hos, hcs, hds⟩ := id hs
 have hTs : s.TypeIs (.ref sl) "slice" := ⟨os, hos, hcs⟩
 unfold getItem
 try with_reducible refine wpAny_holding ?_
 first | refine wpAny_bind (wpAny_pure ?_) | skip
 refine wpAny_bind (wpAny_sequenceKey ht.typeIs (by decide) ?_)
 refine wpAny_bind (wpAny_callSpecial?_slot (name := Str.ofString "__getitem__") ht.typeIs PyProof.Rows.slot_tuple_getitem
  (wpAny_call_entry PyProof.Rows.slot_tuple_getitem ht.typeIs entry_tuple_getitem ?_ (args_tuple_getitem _ _)))
 show wpAny _ _ (Builtin.Tuple.tupleItemsOf (.ref t) >>= _) _ _ s
 refine wpAny_bind (tupleItemsOf_ ht ?_)
 refine wpAny_bind (wpAny_typeOf hTs ?_)
 rw [if_pos (by decide)]
 refine wpAny_bind (HT.zdG hs pl pu ?_)
 show wpAny _ _ (if (((HT.sIx items.size 0 lo : Nat) : Int) == 0 && (1 : Int) == 1 && (HT.sIx items.size items.size hi - HT.sIx items.size 0 lo) == items.size) = true then _ else _) _ _ s
 rw [hw.1, hw.2, if_pos (by simp)]
 refine wpAny_bind (m := Builtin.Tuple.tupleIsExact _) ?_
 unfold Builtin.Tuple.tupleIsExact
 refine wpAny_bind (wpAny_typeOf ht.typeIs (wpAny_pure ?_))
 rw [if_pos (by decide)]
 exact wpAny_bind (wpAny_rule (wpAny_bind (wpAny_pure (wpAny_pure ⟨_, rfl, wpAny_pure h⟩))))
end
section
variable {X : Cx}
theorem zfF : OpR X (binaryOp .Mult) (rD X.K zcz) := by
 intro pins s σ H x y v u Q I rx ry h
 obtain ⟨dx, dy, d, tx, ty, e, q⟩ := h
 cases dx with
 | int i =>
  cases dy with
  | int j =>
   obtain ⟨c, e⟩ := zbe (show chk (zm1 i j) (.ok (.int (i * j))) = .ok d from e)
   cases e
   exact zqW pins s σ H x y v u Q I rx ry ⟨i, j, tx.int, ty.int, zo2 c, q _ H (zba.refl _) (zcC _)⟩
  | _ => exact nomatch (show (R.bad : R D) = .ok d from e)
 | tuple a =>
  cases dy with
  | int k =>
   obtain ⟨c, e⟩ := zbe (show chk (!a.isEmpty && leB 2 k.toNat && leB k.toNat 1000000 && leB (a.length * k.toNat) lim) (.ok (.tuple (List.replicate k.toNat a).flatten)) = .ok d from e)
   cases e
   simp only [Bool.and_eq_true, leB_iff] at c
   obtain ⟨⟨⟨c0, c1⟩, c2⟩, c3⟩ := c
   obtain ⟨l, xs, rfl, sx, fx⟩ := tx.tup
   have := ty.int
   subst this
   cases rx
   obtain ⟨t, rfl⟩ := ry
   obtain ⟨its, r1, p1, z1⟩ := I.tuple sx
   obtain ⟨⟨cls, dd, data, sl⟩, ho, hc, n, hd⟩ := id p1
   simp only at hc hd
   subst hc hd
   have hl : its.length = a.length := by rw [<- r1.length, fx.len]
   have hz : its.length * k.toNat <= sizeLine := by rw [hl]; exact Nat.le_trans c3 zcN
   have he : its.toArray.isEmpty = false := by
    cases its with
    | nil => simp only [List.length_nil] at hl; cases a with | nil => simp at c0 | cons _ _ => simp at hl
    | cons _ _ => rfl
   refine wpAny_binaryOp_repeat_ref (T := "tuple") (U := "int") (by decide) ⟨_, ho, rfl⟩ (fun s' => typeIs_int s' k t) zgb PySem.F.fills_int_mul PySem.F.slot_int_rmul zi4 PySem.F.slot_int_index.lookup
    (call_meets PySem.F.slot_int_rmul (typeIs_int s k t) PySem.F.entry_int_rmul (PySem.F.args_int_rmul_2 _ _) (zhx k t l its.toArray n dd sl)
     ⟨ho, rfl, ⟨_, ho, rfl⟩, call_meets PySem.F.slot_tuple_mul ⟨_, ho, rfl⟩ PySem.F.entry_tuple_mul (PySem.F.args_tuple_mul_2 _ _) (zlt l its.toArray n dd sl k t he (by omega) (by omega) (by rw [List.size_toArray]; exact hz)) ⟨ho, ?_⟩⟩)
   have en := foldl_rep its k.toNat []
   rw [List.nil_append] at en
   rw [en]
   have hp : H s.heap.objs.size = none := I.hok.fresh (Nat.le_refl _)
   refine ⟨.ref s.heap.objs.size, _, I.laid (t' := s.toks) (o := .tup (List.replicate k.toNat xs).flatten) (fun b ob q => Heap.get?_push_of_some _ q) (Nat.le_refl _) ⟨by rw [len_rep, Nat.mul_comm, r1.length]; exact hz, _, r1.rep k.toNat, IsTup.new _ _⟩, rfl,
    q _ _ (zba.upd hp) (zk7 (.inl zau) ((fx.rep k.toNat).mono (Fzn.of (zba.upd hp))))⟩
  | _ => exact nomatch (show (R.bad : R D) = .ok d from e)
 | _ => exact nomatch (show (R.bad : R D) = .ok d from e)
theorem znR {α : Type} {ds : List α} {lo hi : Option Int} (h1 : FL.sIx ds.length 0 lo = 0) (h2 : FL.sIx ds.length ds.length hi = ds.length) : FL.cut ds lo hi = ds := by
 unfold FL.cut
 rw [h1, h2]
 simp
theorem zfd : SlR X (zvL X.K) := by
 intro pins s σ H x v vl vu lo hi sl Q I rx hs pl pu h
 obtain ⟨dx, d, tx, e, q⟩ := h
 cases dx with
 | list a =>
  cases e
  obtain ⟨l, xs, rfl, sx, fx⟩ := tx.lst
  obtain ⟨T, id, h1, h2, h3⟩ := zqs pins s σ H _ v vl vu lo hi sl (fun v H1 => ∃ p, v = .ref p /\ H p = none /\ H1 = upd H p (.lst (zpo xs lo hi))) I rx hs pl pu ⟨l, xs, rfl, sx, fun p hp => ⟨p, rfl, hp, rfl⟩⟩
  exact ⟨T, id, h1, h2, thn h3 fun _ _ z => znI (fx.cut lo hi) q z⟩
 | tuple a =>
  cases e
  obtain ⟨l, xs, rfl, sx, fx⟩ := tx.tup
  by_cases w : HT.sIx xs.length 0 lo = 0 /\ HT.sIx xs.length xs.length hi = xs.length
  ·cases rx
   obtain ⟨its, r, ht, hz⟩ := I.tuple sx
   have hlen : its.toArray.size = xs.length := by rw [List.size_toArray]; exact r.length.symm
   refine ⟨"tuple", _, PyProof.Rows.slot_tuple_getitem.lookup, ht.typeIs, zjQ ht hs pl pu (by rw [hlen]; exact w) ⟨.ref l, H, I, rfl, q _ H (zba.refl _) ?_⟩⟩
   rw [fx.len] at w
   rw [znR w.1 w.2]
   exact tx
  ·exact zrR pins s σ H _ v vl vu lo hi sl Q I rx hs pl pu ⟨l, xs, rfl, sx, w, fun p hp => q _ _ (zba.upd hp) (zk7 (.inl zau) ((fx.cut lo hi).mono (Fzn.of (zba.upd hp))))⟩
 | _ => exact nomatch (show (R.bad : R D) = .ok d from e)
end
end FL
namespace FL
open PySem L2 PySem.Spec
open PyProof.Rows hiding St
variable [Cs]
theorem zq4 {ns : List Int} {M : Int} (h1 : M ∈ ns) (h2 : ∀ a ∈ ns, a <= M) : zm5 ns = some M := by
 have key : ∀ (xs : List Int) (x : Int), (M = x \/ M ∈ xs) -> x <= M -> (∀ a ∈ xs, a <= M) -> xs.foldl (fun m y => if y > m then y else m) x = M := by
  intro xs
  induction xs with
  | nil => intro x h _ _; rcases h with h | h; exact h.symm; cases h
  | cons y ys ih =>
   intro x h hx ha
   simp only [List.foldl_cons]
   have hy := ha y (List.mem_cons_self ..)
   refine ih _ ?_ ?_ fun a m => ha a (List.mem_cons_of_mem _ m)
   ·split
    ·rcases h with h | h
     ·omega
     ·rcases List.mem_cons.mp h with h | h
      ·exact .inl h
      ·exact .inr h
    ·rcases h with h | h
     ·exact .inl h
     ·rcases List.mem_cons.mp h with h | h
      ·left; omega
      ·exact .inr h
   ·split <;> omega
 cases ns with
 | nil => cases h1
 | cons x xs =>
  show some _ = some M
  rw [key xs x (List.mem_cons.mp h1) (h2 x (List.mem_cons_self ..)) fun a m => h2 a (List.mem_cons_of_mem _ m)]
theorem zq3 {ns : List Int} {M : Int} (h1 : M ∈ ns) (h2 : ∀ a ∈ ns, M <= a) : zoi ns = some M := by
 have key : ∀ (xs : List Int) (x : Int), (M = x \/ M ∈ xs) -> M <= x -> (∀ a ∈ xs, M <= a) -> xs.foldl (fun m y => if y < m then y else m) x = M := by
  intro xs
  induction xs with
  | nil => intro x h _ _; rcases h with h | h; exact h.symm; cases h
  | cons y ys ih =>
   intro x h hx ha
   simp only [List.foldl_cons]
   have hy := ha y (List.mem_cons_self ..)
   refine ih _ ?_ ?_ fun a m => ha a (List.mem_cons_of_mem _ m)
   ·split
    ·rcases h with h | h
     ·omega
     ·rcases List.mem_cons.mp h with h | h
      ·exact .inl h
      ·exact .inr h
    ·rcases h with h | h
     ·exact .inl h
     ·rcases List.mem_cons.mp h with h | h
      ·left; omega
      ·exact .inr h
   ·split <;> omega
 cases ns with
 | nil => cases h1
 | cons x xs =>
  show some _ = some M
  rw [key xs x (List.mem_cons.mp h1) (h2 x (List.mem_cons_self ..)) fun a m => h2 a (List.mem_cons_of_mem _ m)]
theorem zug {G : D -> D -> R D} {g : Int -> Int -> D} (hg : ∀ i j, G (.int i) (.int j) = .ok (g i j)) (h0 : ∀ dx dy, (¬ ∃ i j, dx = .int i /\ dy = .int j) -> G dx dy = .bad) {ds : List D} {d : D} (e : two G ds = .ok d) : ∃ i j, ds = [.int i, .int j] /\ d = g i j := by
 cases ds with
 | nil => exact nomatch (show (R.bad : R D) = .ok d from e)
 | cons x r =>
  cases r with
  | nil => exact nomatch (show (R.bad : R D) = .ok d from e)
  | cons y r =>
   cases r with
   | nil =>
    replace e : G x y = .ok d := e
    by_cases k : ∃ i j, x = .int i /\ y = .int j
    ·obtain ⟨i, j, rfl, rfl⟩ := k
     rw [hg] at e
     cases e
     exact ⟨i, j, rfl, rfl⟩
    ·rw [h0 _ _ k] at e; cases e
   | cons _ _ => exact nomatch (show (R.bad : R D) = .ok d from e)
section
variable {X : Cx}
theorem znW (hc : X.calm = true) : ze5 X (.builtin "max") (fun xs H Q => ∃ (a : Addr) (ns : List Int) (M : Int), xs = [.ref a] /\ SqL X.K H a (ns.map V.int) /\ zm5 ns = some M /\ Q (.int M) H) := by
 intro pins s σ H xs us Q I r h
 obtain ⟨a, ns, M, rfl, hq, hm, q⟩ := h
 obtain ⟨u, rfl, ru⟩ := vals1 r
 cases (show u = Value.ref a from ru)
 obtain ⟨its, rv, p, hz⟩ := I.list hq
 have hi := intsAre_of rv
 obtain ⟨xs, e⟩ := hi.allInts.items
 have hns : ns = xs.toList.map (·.1) := by
  have h1 := nums_intItems xs
  rw [<- e] at h1
  rw [<- h1, show its.toArray.toList = its from rfl, hi.numsOf]
 have hsz : 0 < xs.size := by
  cases ns with
  | nil => cases hm
  | cons x r => have := congrArg List.length hns; simp at this; omega
 refine max_intList (xs := xs) (I.ok.hd hc) (by rw [<- e]; exact p.isList) hsz fun v h' tk hv hk => ?_
 obtain ⟨t, rfl⟩ := intItems_at hv
 obtain ⟨h1, h2⟩ := argBest_gt (numAt xs) (xs.size - 1)
 refine ⟨.int M, H, I.kept hk, ⟨t, ?_⟩, q⟩
 have e2 : zm5 ns = some (numAt xs (argBest (fun i j => decide (numAt xs i > numAt xs j)) (xs.size - 1))) := by
  refine zq4 ?_ fun a ha => ?_
  ·rw [hns, numAt_eq]; exact getD_mem (by rw [List.length_map, Array.length_toList]; omega)
  ·rw [hns] at ha
   obtain ⟨j, hj, rfl⟩ := mem_getD ha
   rw [List.length_map, Array.length_toList] at hj
   rw [<- numAt_eq]; exact h2 j (by omega)
 rw [hm] at e2
 cases e2
 rfl
theorem znV (hc : X.calm = true) : ze5 X (.builtin "min") (fun xs H Q => ∃ (a : Addr) (ns : List Int) (M : Int), xs = [.ref a] /\ SqL X.K H a (ns.map V.int) /\ zoi ns = some M /\ Q (.int M) H) := by
 intro pins s σ H xs us Q I r h
 obtain ⟨a, ns, M, rfl, hq, hm, q⟩ := h
 obtain ⟨u, rfl, ru⟩ := vals1 r
 cases (show u = Value.ref a from ru)
 obtain ⟨its, rv, p, hz⟩ := I.list hq
 have hi := intsAre_of rv
 obtain ⟨xs, e⟩ := hi.allInts.items
 have hns : ns = xs.toList.map (·.1) := by
  have h1 := nums_intItems xs
  rw [<- e] at h1
  rw [<- h1, show its.toArray.toList = its from rfl, hi.numsOf]
 have hsz : 0 < xs.size := by
  cases ns with
  | nil => cases hm
  | cons x r => have := congrArg List.length hns; simp at this; omega
 refine min_intList (xs := xs) (I.ok.hd hc) (by rw [<- e]; exact p.isList) hsz fun v h' tk hv hk => ?_
 obtain ⟨t, rfl⟩ := intItems_at hv
 obtain ⟨h1, h2⟩ := argBest_lt (numAt xs) (xs.size - 1)
 refine ⟨.int M, H, I.kept hk, ⟨t, ?_⟩, q⟩
 have e2 : zoi ns = some (numAt xs (argBest (fun i j => decide (numAt xs i < numAt xs j)) (xs.size - 1))) := by
  refine zq3 ?_ fun a ha => ?_
  ·rw [hns, numAt_eq]; exact getD_mem (by rw [List.length_map, Array.length_toList]; omega)
  ·rw [hns] at ha
   obtain ⟨j, hj, rfl⟩ := mem_getD ha
   rw [List.length_map, Array.length_toList] at hj
   rw [<- numAt_eq]; exact h2 j (by omega)
 rw [hm] at e2
 cases e2
 rfl
def CallD (X : Cx) (f : Value) (g : D -> R D) : Prop := ze5 X f (rD0 X.K g)
theorem CallD.ds {f : Value} {g : D -> R D} (h : CallD X f g) : ze5 X f (rDs X.K (one g)) := fun pins s σ H xs us Q I r ⟨ds, d, fz, e, q⟩ => by
 cases ds with
 | nil => exact nomatch (show (R.bad : R D) = .ok d from e)
 | cons d0 r0 =>
  cases r0 with
  | nil =>
   simp only [zak] at fz
   obtain ⟨v, r', rfl, fv, e2⟩ := fz
   subst e2
   exact h pins s σ H _ us Q I r ⟨v, d0, d, rfl, fv.tp, e, q⟩
  | cons _ _ => exact nomatch (show (R.bad : R D) = .ok d from e)
theorem zfP : CallD X (.builtin "len") zc4 := by
 intro pins s σ H xs us Q I r h
 obtain ⟨x, dx, d, rfl, tx, e, q⟩ := h
 cases dx with
 | list a => obtain ⟨p, vs, rfl, sx, fx⟩ := tx.lst; cases e; exact zf6 pins s σ H _ us Q I r ⟨p, vs, rfl, .inl sx, by rw [fx.len]; exact q _ H (zba.refl _) (zcC _)⟩
 | tuple a => obtain ⟨p, vs, rfl, sx, fx⟩ := tx.tup; cases e; exact zf6 pins s σ H _ us Q I r ⟨p, vs, rfl, .inr sx, by rw [fx.len]; exact q _ H (zba.refl _) (zcC _)⟩
 | _ => exact nomatch (show (R.bad : R D) = .ok d from e)
theorem zt4 : CallD X (.builtin "abs") zqe := by
 intro pins s σ H xs us Q I r h
 obtain ⟨x, dx, d, rfl, tx, e, q⟩ := h
 cases dx with
 | int i => have := tx.int; subst this; cases e; exact zpx pins s σ H _ us Q I r ⟨i, rfl, q _ H (zba.refl _) (zcC _)⟩
 | _ => exact nomatch (show (R.bad : R D) = .ok d from e)
theorem zvz (hc : X.calm = true) : CallD X (.builtin "max") maxD := by
 intro pins s σ H xs us Q I r h
 obtain ⟨x, dx, d, rfl, tx, e, q⟩ := h
 cases dx with
 | list a =>
  obtain ⟨p, vs, rfl, sx, fx⟩ := tx.lst
  replace e : ((R.of (intsOf a)).bind fun x => (R.of (zm5 x)).bind fun m => R.ok (PyData.int m)) = .ok d := e
  cases ea : intsOf a with
  | none => rw [ea] at e; cases e
  | some ns =>
   rw [ea] at e
   replace e : ((R.of (zm5 ns)).bind fun m => R.ok (PyData.int m)) = .ok d := e
   cases em : zm5 ns with
   | none => rw [em] at e; cases e
   | some M =>
    rw [em] at e
    cases e
    obtain ⟨rfl, _⟩ := fx.ints ea
    exact znW hc pins s σ H _ us Q I r ⟨p, ns, M, rfl, sx, em, q _ H (zba.refl _) (zcC _)⟩
 | _ => exact nomatch (show (R.bad : R D) = .ok d from e)
theorem zvy (hc : X.calm = true) : CallD X (.builtin "min") minD := by
 intro pins s σ H xs us Q I r h
 obtain ⟨x, dx, d, rfl, tx, e, q⟩ := h
 cases dx with
 | list a =>
  obtain ⟨p, vs, rfl, sx, fx⟩ := tx.lst
  replace e : ((R.of (intsOf a)).bind fun x => (R.of (zoi x)).bind fun m => R.ok (PyData.int m)) = .ok d := e
  cases ea : intsOf a with
  | none => rw [ea] at e; cases e
  | some ns =>
   rw [ea] at e
   replace e : ((R.of (zoi ns)).bind fun m => R.ok (PyData.int m)) = .ok d := e
   cases em : zoi ns with
   | none => rw [em] at e; cases e
   | some M =>
    rw [em] at e
    cases e
    obtain ⟨rfl, _⟩ := fx.ints ea
    exact znV hc pins s σ H _ us Q I r ⟨p, ns, M, rfl, sx, em, q _ H (zba.refl _) (zcC _)⟩
 | _ => exact nomatch (show (R.bad : R D) = .ok d from e)
theorem zvx (hc : X.calm = true) : CallD X (.builtin "sum") zuh := by
 intro pins s σ H xs us Q I r h
 obtain ⟨x, dx, d, rfl, tx, e, q⟩ := h
 cases dx with
 | list a =>
  obtain ⟨p, vs, rfl, sx, fx⟩ := tx.lst
  replace e : ((R.of (intsOf a)).bind fun x => R.ok (PyData.int x.sum)) = .ok d := e
  cases ea : intsOf a with
  | none => rw [ea] at e; cases e
  | some ns =>
   rw [ea] at e
   cases e
   obtain ⟨rfl, _⟩ := fx.ints ea
   exact zpu hc pins s σ H _ us Q I r ⟨p, ns, rfl, sx, q _ H (zba.refl _) (zcC _)⟩
 | _ => exact nomatch (show (R.bad : R D) = .ok d from e)
theorem zt3 (hc : X.calm = true) : CallD X (.builtin "all") zrC := by
 intro pins s σ H xs us Q I r h
 obtain ⟨x, dx, d, rfl, tx, e, q⟩ := h
 cases dx with
 | list a =>
  obtain ⟨p, vs, rfl, sx, fx⟩ := tx.lst
  replace e : ((R.of (boolsOf a)).bind fun x => R.ok (PyData.bool (x.all id))) = .ok d := e
  cases ea : boolsOf a with
  | none => rw [ea] at e; cases e
  | some ns =>
   rw [ea] at e
   cases e
   obtain ⟨rfl, _⟩ := fx.bools ea
   exact zpw hc pins s σ H _ us Q I r ⟨p, ns, rfl, sx, q _ H (zba.refl _) (zkf _)⟩
 | _ => exact nomatch (show (R.bad : R D) = .ok d from e)
theorem zrp : CallD X (.type "tuple") ziZ := by
 intro pins s σ H xs us Q I r h
 obtain ⟨x, dx, d, rfl, tx, e, q⟩ := h
 cases dx with
 | list a =>
  obtain ⟨p, vs, rfl, sx, fx⟩ := tx.lst
  cases e
  exact zft pins s σ H _ us Q I r ⟨p, vs, rfl, .inl ⟨sx, fun l hl => q _ _ (zba.upd hl) (zk7 (.inl zau) (fx.mono (Fzn.of (zba.upd hl))))⟩⟩
 | tuple a =>
  obtain ⟨p, vs, rfl, sx, fx⟩ := tx.tup
  cases e
  exact zft pins s σ H _ us Q I r ⟨p, vs, rfl, .inr ⟨sx, q _ H (zba.refl _) tx⟩⟩
 | _ => exact nomatch (show (R.bad : R D) = .ok d from e)
end
theorem Tp.ty {K : PySem.W.Frag} {H : Hp} {d : D} {x : V} (c : zvI d = true) (h : Tp K H d x) : Ty K H x (.type (tyOf d)) := by
  cases d with
  | none => have := h.none; subst this; exact .non
  | bool b => have := h.bool; subst this; exact .bl b
  | int b => have := h.int; subst this; exact .int b
  | str b => have : x = .str b := by simpa [Tp, Fz] using h
             subst this; exact .str b
  | list b => obtain ⟨_, _, rfl, s, _⟩ := h.lst; exact .lst s
  | tuple b => obtain ⟨_, _, rfl, s, _⟩ := h.tup; exact .tup s
  | dict b => cases c
def zn9 (T : String) : Prop := ∀ (K : PySem.W.Frag) (d : D), PySem.W.kitOne K (.type (tyOf d)) (.type T) = some (isI T d)
theorem zni {T : String} (h0 : KC.zgc "NoneType" T = some (isI T .none)) (h1 : ∀ b, KC.zgc "bool" T = some (isI T (.bool b))) (h2 : ∀ b, KC.zgc "int" T = some (isI T (.int b))) (h3 : ∀ b, KC.zgc "str" T = some (isI T (.str b))) (h4 : ∀ b, KC.zgc "list" T = some (isI T (.list b)))
  (h5 : ∀ b, KC.zgc "tuple" T = some (isI T (.tuple b))) (h6 : ∀ b, KC.zgc "dict" T = some (isI T (.dict b))) : zn9 T := fun K d => by
 cases d with
 | none => exact h0
 | bool b => exact h1 b
 | int b => exact h2 b
 | str b => exact h3 b
 | list b => exact h4 b
 | tuple b => exact h5 b
 | dict b => exact h6 b
theorem zq9 : zn9 "int" := zni (by decide +kernel) (fun _ => (by decide +kernel : KC.zgc "bool" "int" = some (isI "int" (.bool true)))) (fun _ => (by decide +kernel : KC.zgc "int" "int" = some (isI "int" (.int 0)))) (fun _ => (by decide +kernel : KC.zgc "str" "int" = some (isI "int" (.str "")))) (fun _ => (by decide +kernel : KC.zgc "list" "int" = some (isI "int" (.list [])))) (fun _ => (by decide +kernel : KC.zgc "tuple" "int" = some (isI "int" (.tuple [])))) (fun _ => (by decide +kernel : KC.zgc "dict" "int" = some (isI "int" (.dict []))))
theorem zkX : zn9 "bool" := zni (by decide +kernel) (fun _ => (by decide +kernel : KC.zgc "bool" "bool" = some (isI "bool" (.bool true)))) (fun _ => (by decide +kernel : KC.zgc "int" "bool" = some (isI "bool" (.int 0)))) (fun _ => (by decide +kernel : KC.zgc "str" "bool" = some (isI "bool" (.str "")))) (fun _ => (by decide +kernel : KC.zgc "list" "bool" = some (isI "bool" (.list [])))) (fun _ => (by decide +kernel : KC.zgc "tuple" "bool" = some (isI "bool" (.tuple [])))) (fun _ => (by decide +kernel : KC.zgc "dict" "bool" = some (isI "bool" (.dict []))))
theorem kit_tuple : zn9 "tuple" := zni (by decide +kernel) (fun _ => (by decide +kernel : KC.zgc "bool" "tuple" = some (isI "tuple" (.bool true)))) (fun _ => (by decide +kernel : KC.zgc "int" "tuple" = some (isI "tuple" (.int 0)))) (fun _ => (by decide +kernel : KC.zgc "str" "tuple" = some (isI "tuple" (.str "")))) (fun _ => (by decide +kernel : KC.zgc "list" "tuple" = some (isI "tuple" (.list [])))) (fun _ => (by decide +kernel : KC.zgc "tuple" "tuple" = some (isI "tuple" (.tuple [])))) (fun _ => (by decide +kernel : KC.zgc "dict" "tuple" = some (isI "tuple" (.dict []))))
section
variable {K : PySem.W.Frag} {X : Cx} {a : Expr} {f : EF} {pos : Pos}
theorem zgB {T : String} {tn : Str} {p p2 : Pos} (kt : zn9 T) (hg : Gl X "isinstance") (hm : X.mg "isinstance" = none) (hg2 : Gl X tn) (hm2 : X.mg tn = none) (hv2 : bootBuiltins tn = some (.type T)) (ha : PV K X a f) (hn : tn ≠ "__name__" := by decide) (hd : (tn == ("__debug__" : Str)) = false := by decide)
  (hs1 : starEach [a, .Name tn p2] X.env = (false, eval a X.env) :: starEach [.Name tn p2] X.env := by rfl) (hs2 : starEach [.Name tn p2] X.env = (false, eval (.Name tn p2) X.env) :: starEach [] X.env := by rfl) (hpl : (backTo pos (starEach [.Name tn p2] X.env)).any (·.1) = false := by rfl) :
  PV K X (.Call (.Name "isinstance" p) [a, .Name tn p2] [] pos) (e1 (zcr T) f) := fun hK => by
 subst hK
 refine (zkO (x := "isinstance") (id := "isinstance") zpv hg hm KC.Bt.isinstance (zdo (ha rfl) (zdo (zuP hg2 hm2 hv2 hn hd) zjc hs2) hs1) (by decide) (by decide) hs1 hpl).weak fun σ H Q => ?_
 rintro ⟨ρ, rel, q⟩
 refine goV rel q fun dx ρ1 x H1 rel1 st1 fx q1 => ?_
 obtain ⟨d, ed, q3⟩ := q1.zeU
 obtain ⟨c, ed⟩ := zbe ed
 cases ed
 exact ⟨x, .ty T, _, _, rfl, (fun z => nomatch z), fx.tp.ty c, kt X.K dx, q3.now rel1 _ (zkf _)⟩
theorem zaY {g : D -> R D} {f : EF} {e : Expr} (h : PV K X e (zal (one g) (zac f zar))) : PV K X e (e1 g f) := fun hK => (h hK).weak fun σ H Q => by
 rintro ⟨ρ, rel, q⟩
 refine ⟨ρ, rel, ?_⟩
 have : zal (one g) (zac f zar) ρ = e1 g f ρ := by
  unfold zal zac zar e1
  cases f ρ with
  | ok x => rfl
  | _ => rfl
 rw [this]
 exact q
end
end FL
namespace FL
open PySem L2 PySem.Spec
open PyProof.Rows hiding St
variable [Cs]
section
variable {K : PySem.W.Frag} {ρ ρ1 : En} {σ : L2.St} {H H1 : Hp} {i : Nat} {d : D}
theorem zgJ (h : zbf ρ i = .ok d) : ∃ p, ρ[i]? = some (.ow p d) := by
 unfold zbf at h
 cases e : ρ[i]? with
 | none => rw [e] at h; cases h
 | some x =>
  rw [e] at h
  cases x with
  | ow p c => cases h; exact ⟨p, rfl⟩
  | _ => cases h
theorem Rel.zlJ (r : Rel K ρ σ H) (h : zbf ρ i = .ok d) : ∃ a, At ρ σ i a /\ zbP K H a d := by
 obtain ⟨p, e⟩ := zgJ h
 have hl : i < σ.length := by rw [<- r.len]; exact (List.getElem?_eq_some_iff.mp e).1
 have o := r.ok i _ _ e (List.getElem?_eq_getElem hl)
 cases es : σ[i] with
 | none => rw [es] at o; exact o.elim
 | some v =>
  rw [es] at o
  cases v with
  | ref a => exact ⟨a, ⟨⟨p, d, e⟩, by rw [List.getElem?_eq_getElem hl, es]⟩, o⟩
  | _ => exact o.elim
theorem Rel.again {a : Addr} (r : Rel K ρ1 σ H1) (h : zbf ρ1 i = .ok d) (at0 : At ρ σ i a) : zbP K H1 a d := by
 obtain ⟨b, ab, m⟩ := r.zlJ h
 have := at0.2.symm.trans ab.2
 cases this
 exact m
theorem Rel.zwi {a : Addr} {o : HO} (r : Rel K ρ σ H) (at0 : At ρ σ i a) (m : zbP K (upd H a o) a d) : Rel K (zbE ρ i d) σ (upd H a o) := by
 obtain ⟨⟨p, c, e⟩, es⟩ := at0
 have hp : zbE ρ i d = ρ.set i (.ow p d) := by unfold zbE; rw [e]
 obtain ⟨u, hu, ow⟩ := r.zbR ⟨i, ⟨p, c, e⟩, es⟩
 have f : Fzn H (upd H a o) := fun b w eb st => by
  rw [zaE fun z => by subst z; rw [hu] at eb; cases eb; exact ow.zez st]
  exact eb
 have hl : i < ρ.length := (List.getElem?_eq_some_iff.mp e).1
 rw [hp]
 refine ⟨by rw [List.length_set]; exact r.len, fun j x v e1 e2 => ?_, fun j k b h1 h2 => ?_, r.cst.mono f⟩
 ·by_cases c : i = j
  ·subst c
   rw [List.getElem?_set_self hl] at e1
   cases e1
   rw [es] at e2
   cases e2
   exact m
  ·rw [List.getElem?_set_ne c] at e1
   refine (r.ok j x v e1 e2).mono f fun b e3 ⟨q, dd, e4⟩ => ?_
   subst e3; subst e4
   refine zaE fun z => ?_
   subst z
   exact c (r.sep i j b ⟨⟨p, _, e⟩, es⟩ ⟨⟨q, dd, e1⟩, e2⟩)
 ·have w : ∀ j b, At (ρ.set i (.ow p d)) σ j b -> At ρ σ j b := fun j b ⟨⟨q, dd, e1⟩, e2⟩ => by
   by_cases c : i = j
   ·subst c; exact ⟨⟨p, _, e⟩, e2⟩
   ·rw [List.getElem?_set_ne c] at e1; exact ⟨⟨q, dd, e1⟩, e2⟩
  exact r.sep j k b (w _ _ h1) (w _ _ h2)
theorem zkH {a : Addr} {o : HO} (at0 : At ρ σ i a) : Stp ρ (zbE ρ i d) σ H (upd H a o) := by
 obtain ⟨⟨p, c, e⟩, es⟩ := at0
 have hp : zbE ρ i d = ρ.set i (.ow p d) := by unfold zbE; rw [e]
 have hl : i < ρ.length := (List.getElem?_eq_some_iff.mp e).1
 rw [hp]
 refine ⟨fun j q => ?_, fun b w eb n => ?_⟩
 ·by_cases c : i = j
  ·subst c
   rw [List.getElem?_set_self hl, e]
   constructor
   ·rintro ⟨_, z⟩; cases z; exact ⟨_, rfl⟩
   ·rintro ⟨_, z⟩; cases z; exact ⟨_, rfl⟩
  ·rw [List.getElem?_set_ne c]
 ·rw [zaE fun z => by subst z; exact n ⟨i, ⟨p, c, e⟩, es⟩]
  exact eb
end
section
variable {K : PySem.W.Frag} {X : Cx} {a b c : Expr} {f h k : EF} {pos : Pos}
theorem zwu {g : D -> D -> R D} {i : Nat} {r : R2} (hr : ∀ x y H Q, rD K g x y H Q -> r x y H Q) (σ : L2.St) (H : Hp) (Q : VK) (q : tV K (m2 g i h) σ H Q) : tOp r (zkF i) (tV K h) σ H Q := by
 obtain ⟨ρ, rel, q⟩ := q
 obtain ⟨d, ed, q1⟩ := q.zeU
 obtain ⟨ad, at0, m⟩ := rel.zlJ ed
 refine ⟨.ref ad, at0.2, goV rel q1 fun dy ρ1 y H1 rel1 st1 fy q2 => ?_⟩
 obtain ⟨d2, ed2, q3⟩ := q2.zeU
 obtain ⟨x, ex, q4⟩ := q3.zeU
 exact hr _ _ _ _ ⟨d2, dy, x, (rel1.again ed2 at0).tp, fy.tp, ex, fun v H' s fz => q4.new rel1 s v fz⟩
theorem zgA {g : D -> D -> R D} {y : Str} {py : Pos} (i : Nat) (ho : IxR X (rD X.K g)) (ha : PE X (.Name y py) (zkF i)) (hb : PV K X b h) (hs : zkt b := by exact fun _ _ => rfl) : PV K X (.Subscript (.Name y py) b pos) (m2 g i h) := fun hK => by
 subst hK
 exact (zsh ho ha (hb rfl) hs).weak fun σ H Q q => zwu (fun _ _ _ _ z => z) σ H Q q
theorem zu8 {g : D -> D -> R D} {i : Nat} {r : R2} (hr : ∀ x y H Q, rD K g x y H Q -> r x y H Q) (σ : L2.St) (H : Hp) (Q : VK) (q : tV K (m2r g f i) σ H Q) : tOp r (tV K f) (zkF i) σ H Q := by
 obtain ⟨ρ, rel, q⟩ := q
 refine goV rel q fun dx ρ1 x H1 rel1 st1 fx q2 => ?_
 obtain ⟨d2, ed2, q3⟩ := q2.zeU
 obtain ⟨x, ex, q4⟩ := q3.zeU
 obtain ⟨ad, at0, m⟩ := rel1.zlJ ed2
 exact ⟨.ref ad, at0.2, hr _ _ _ _ ⟨dx, d2, x, fx.tp, m.tp, ex, fun v H' s fz => q4.new rel1 s v fz⟩⟩
theorem zqy {op : CmpOp} {g : D -> D -> R D} {y : Str} {py : Pos} (i : Nat) (ho : OpR X (compareOp op) (rD X.K g)) (ha : PV K X a f) (hb : PE X (.Name y py) (zkF i)) (hm : behindInMarks op (.Name y py) = false) : PVT K X (.Compare a [op] [.Name y py] pos) (tB (m2r g f i)) := fun hK => by
 subst hK
 exact (zmH ho (ha rfl) hb hm).weak fun σ H Q q => goB (fun σ H Q z => zu8 (fun _ _ _ _ z => z) σ H Q z) σ H Q q
end
end FL
namespace FL
open PySem L2 PySem.Spec
open PyProof.Rows hiding St
variable [Cs]
structure SC where
 H₀ : Hp
 σ₀ : L2.St
 ρ₀ : En
structure zeu (K : PySem.W.Frag) (C : SC) (ρ : En) (σ : L2.St) (H : Hp) : Prop where
 rel : Rel K ρ σ H
 keep : ∀ a o, C.H₀ a = some o -> ¬ MA C.ρ₀ C.σ₀ a -> H a = some o
 own : ∀ (i : Nat) a d, ρ[i]? = some (.ow false d) -> σ[i]? = some (some (.ref a)) -> C.H₀ a = none
 pin : ∀ (i : Nat), (∃ d, ρ[i]? = some (.ow true d)) ↔ ∃ d, C.ρ₀[i]? = some (.ow true d)
 fix : ∀ (i : Nat) d, ρ[i]? = some (.ow true d) -> σ[i]? = C.σ₀[i]?
 prm : ∀ (i : Nat) p d, C.ρ₀[i]? = some (.ow p d) -> p = true
section
variable {K : PySem.W.Frag} {C : SC} {ρ ρ1 : En} {σ σ1 : L2.St} {H H1 : Hp}
theorem zeu.zwo (r : zeu K C ρ σ H) {a : Addr} {o : HO} (e : C.H₀ a = some o) (n : ¬ MA C.ρ₀ C.σ₀ a) : ¬ MA ρ σ a := by
 rintro ⟨i, ⟨p, d, e1⟩, e2⟩
 cases p with
 | false => rw [r.own i a d e1 e2] at e; cases e
 | true =>
  obtain ⟨d0, e0⟩ := (r.pin i).mp ⟨d, e1⟩
  exact n ⟨i, ⟨true, d0, e0⟩, by rw [<- r.fix i d e1]; exact e2⟩
theorem zeu.step (r : zeu K C ρ σ H) (rel : Rel K ρ1 σ H1) (st : Stp ρ ρ1 σ H H1) : zeu K C ρ1 σ H1 where
 rel := rel
 keep := fun a o e n => st.kp a o (r.keep a o e n) (r.zwo e n)
 own := fun i a d e1 e2 => by
  obtain ⟨d', e'⟩ := (st.md i false).mpr ⟨d, e1⟩
  exact r.own i a d' e' e2
 pin := fun i => (st.md i true).symm.trans (r.pin i)
 fix := fun i d e => by
  obtain ⟨d', e'⟩ := (st.md i true).mpr ⟨d, e⟩
  exact r.fix i d' e'
 prm := r.prm
def Chg (dom : List Nat) (ρ ρ1 : En) (σ σ1 : L2.St) : Prop := σ1.length = σ.length /\ ∀ (i : Nat), (ρ1[i]? = ρ[i]? /\ σ1[i]? = σ[i]?) \/ (i ∈ dom /\ (∃ d, ρ1[i]? = some (.val d)) /\ ∀ e, ρ[i]? ≠ some (.ow true e))
theorem Chg.refl {dom : List Nat} : Chg dom ρ ρ σ σ := ⟨rfl, fun _ => .inl ⟨rfl, rfl⟩⟩
theorem Chg.trans {d1 d2 : List Nat} {ρ2 : En} {σ2 : L2.St} (a : Chg d1 ρ ρ1 σ σ1) (b : Chg d2 ρ1 ρ2 σ1 σ2) : Chg (d1 ++ d2) ρ ρ2 σ σ2 := ⟨b.1.trans a.1, fun i => by
 rcases b.2 i with ⟨b1, b2⟩ | ⟨bm, b1, b2⟩
 ·rcases a.2 i with ⟨a1, a2⟩ | ⟨am, a1, a2⟩
  ·exact .inl ⟨b1.trans a1, b2.trans a2⟩
  ·exact .inr ⟨List.mem_append_left _ am, by rw [b1]; exact a1, a2⟩
 ·rcases a.2 i with ⟨a1, a2⟩ | ⟨am, a1, a2⟩
  ·exact .inr ⟨List.mem_append_right _ bm, b1, fun e z => b2 e (by rw [a1]; exact z)⟩
  ·exact .inr ⟨List.mem_append_left _ am, b1, a2⟩⟩
theorem zeu.chg {dom : List Nat} (r : zeu K C ρ σ H) (rel : Rel K ρ1 σ1 H) (c : Chg dom ρ ρ1 σ σ1) : zeu K C ρ1 σ1 H where
 rel := rel
 keep := r.keep
 own := fun i a d e1 e2 => by
  rcases c.2 i with ⟨c1, c2⟩ | ⟨_, ⟨d', c1⟩, c2⟩
  ·exact r.own i a d (by rw [<- c1]; exact e1) (by rw [<- c2]; exact e2)
  ·rw [c1] at e1; cases e1
 pin := fun i => by
  rcases c.2 i with ⟨c1, c2⟩ | ⟨_, ⟨d', c1⟩, c2⟩
  ·rw [c1]; exact r.pin i
  ·rw [c1, <- r.pin i]
   constructor
   ·rintro ⟨_, z⟩; cases z
   ·rintro ⟨d, z⟩; exact absurd z (c2 d)
 fix := fun i d e => by
  rcases c.2 i with ⟨c1, c2⟩ | ⟨_, ⟨d', c1⟩, c2⟩
  ·rw [c2]; exact r.fix i d (by rw [<- c1]; exact e)
  ·rw [c1] at e; cases e
 prm := r.prm
theorem zeu.fresh (r : zeu K C ρ σ H) {a : Addr} (ha : H a = none) : C.H₀ a = none := by
 cases e0 : C.H₀ a with
 | none => rfl
 | some o =>
  by_cases k : MA C.ρ₀ C.σ₀ a
  ·obtain ⟨i, ⟨p, d0, e1⟩, e2⟩ := k
   have := r.prm i p d0 e1
   subst this
   obtain ⟨d2, e3⟩ := (r.pin i).mpr ⟨d0, e1⟩
   obtain ⟨o', e', _⟩ := r.rel.zbR ⟨i, ⟨true, d2, e3⟩, by rw [r.fix i d2 e3]; exact e2⟩
   rw [ha] at e'; cases e'
  ·rw [r.keep a o e0 k] at ha; cases ha
def zcI (K : PySem.W.Frag) (C : SC) (H : Hp) (r : R (Fl × En)) (Dn : Ends) : Prop := match r with
 | .ok x => match x.1 with
  | .nx => ∀ σ' H', zeu K C x.2 σ' H' -> Fzn H H' -> Dn.nx σ' H'
  | .bk => ∀ σ' H', zeu K C x.2 σ' H' -> Fzn H H' -> Dn.bk σ' H'
  | .ct => ∀ σ' H', zeu K C x.2 σ' H' -> Fzn H H' -> Dn.ct σ' H'
  | .rt d => ∀ v σ' H', zeu K C x.2 σ' H' -> Fz K H' d v -> Dn.rt v H'
  | .rf d => ∀ a σ' H', zeu K C x.2 σ' H' -> C.H₀ a = none -> zbP K H' a d -> Dn.rt (.ref a) H'
 | _ => False
theorem zcI.step {r : R (Fl × En)} {Dn : Ends} (f : Fzn H H1) (g : zcI K C H r Dn) : zcI K C H1 r Dn := by
 cases r with
 | ok x =>
  obtain ⟨fl, ρ⟩ := x
  cases fl with
  | nx => exact fun σ' H' r z => g σ' H' r (f.trans z)
  | bk => exact fun σ' H' r z => g σ' H' r (f.trans z)
  | ct => exact fun σ' H' r z => g σ' H' r (f.trans z)
  | rt d => exact g
  | rf d => exact g
 | _ => exact g
theorem zcI.bnd {β : Type} {r : R β} {k : β -> R (Fl × En)} {Dn : Ends} (g : zcI K C H (r.bind k) Dn) : ∃ x, r = .ok x /\ zcI K C H (k x) Dn := by
 cases r with
 | ok x => exact ⟨x, rfl, g⟩
 | _ => exact g.elim
def tS (K : PySem.W.Frag) (C : SC) (f : SF) : TS := fun Dn σ H => ∃ ρ, zeu K C ρ σ H /\ zcI K C H (f ρ) Dn
theorem znz {f : EF} {k : D × En -> R (Fl × En)} {S : VK} {Dn : Ends} (rel : zeu K C ρ σ H) (g : zcI K C H ((f ρ).bind k) Dn)
  (h : ∀ d ρ1 v H1, zeu K C ρ1 σ H1 -> Stp ρ ρ1 σ H H1 -> Fz K H1 d v -> zcI K C H1 (k (d, ρ1)) Dn -> S v H1) : tV K f σ H S := by
 obtain ⟨x, e, g1⟩ := g.bnd
 refine ⟨ρ, rel.rel, ?_⟩
 rw [e]
 exact fun H' r s v fz => h x.1 x.2 v H' (rel.step r s) s fz (g1.step (s.fzn rel.rel))
theorem zvP {f : TF} {k : Bool × En -> R (Fl × En)} {S : Bool -> Hp -> Prop} {Dn : Ends} (rel : zeu K C ρ σ H) (g : zcI K C H ((f ρ).bind k) Dn)
  (h : ∀ b ρ1 H1, zeu K C ρ1 σ H1 -> Fzn H H1 -> zcI K C H1 (k (b, ρ1)) Dn -> S b H1) : tT K f σ H S := by
 obtain ⟨x, e, g1⟩ := g.bnd
 refine ⟨ρ, rel.rel, ?_⟩
 rw [e]
 exact fun H' r s => h x.1 x.2 H' (rel.step r s) (s.fzn rel.rel) (g1.step (s.fzn rel.rel))
theorem zvQ {f : EF} {k : D × En -> R (Fl × En)} {S : VK} {Dn : Ends} (rel : zeu K C ρ σ H) (g : zcI K C H ((f ρ).bind k) Dn)
  (h : ∀ d ρ1 a H1, zeu K C ρ1 σ H1 -> Fzn H H1 -> H a = none -> ¬ MA ρ1 σ a -> zbP K H1 a d -> zcI K C H1 (k (d, ρ1)) Dn -> S (.ref a) H1) : tN K f σ H S := by
 obtain ⟨x, e, g1⟩ := g.bnd
 refine ⟨ρ, rel.rel, ?_⟩
 rw [e]
 refine fun H' r s a ha m => h x.1 x.2 a H' (rel.step r s) (s.fzn rel.rel) ha (fun z => ?_) m (g1.step (s.fzn rel.rel))
 obtain ⟨o', e', _⟩ := rel.rel.zbR (s.ma.mpr z)
 rw [ha] at e'; cases e'
end
def PSV (K : PySem.W.Frag) (X : Cx) (st : Stmt) (f : SF) : Prop := X.K = K -> ∀ C, PS X st (tS K C f)
def zma (K : PySem.W.Frag) (X : Cx) (st : List Stmt) (f : SF) : Prop := X.K = K -> ∀ C, PSs X st (tS K C f)
theorem _root_.L2.PS.weak {X : Cx} {e : Stmt} {t t' : TS} (h : PS X e t) (w : ∀ Dn σ H, t' Dn σ H -> t Dn σ H) : PS X e t' := fun pins s σ H Dn I q => h pins s σ H Dn I (w Dn σ H q)
theorem _root_.L2.PSs.weak {X : Cx} {e : List Stmt} {t t' : TS} (h : PSs X e t) (w : ∀ Dn σ H, t' Dn σ H -> t Dn σ H) : PSs X e t' := fun pins s σ H Dn I q => h pins s σ H Dn I (w Dn σ H q)
def tG (K : PySem.W.Frag) (dom : List Nat) (g : GF) : TG := fun v σ H Q => ∃ ρ d ρ1, Rel K ρ σ H /\ Fz K H d v /\ g d ρ = .ok ρ1 /\ ∀ σ1, Rel K ρ1 σ1 H -> Chg dom ρ ρ1 σ σ1 -> Q σ1 H
def tGs (K : PySem.W.Frag) (dom : List Nat) (gs : List GF) : TGs := fun vs σ H Q => ∃ ρ ds ρ1, Rel K ρ σ H /\ zak K H ds vs /\ zpg gs ds ρ = .ok ρ1 /\ ∀ σ1, Rel K ρ1 σ1 H -> Chg dom ρ ρ1 σ σ1 -> Q σ1 H
def PVG (K : PySem.W.Frag) (X : Cx) (dom : List Nat) (e : Expr) (g : GF) : Prop := X.K = K -> PG X e (tG K dom g)
def zut (K : PySem.W.Frag) (X : Cx) (dom : List Nat) (e : List Expr) (g : List GF) : Prop := X.K = K -> PGs X e (tGs K dom g)
theorem _root_.L2.PG.weak {X : Cx} {e : Expr} {t t' : TG} (h : PG X e t) (w : ∀ v σ H Q, t' v σ H Q -> t v σ H Q) : PG X e t' := fun pins s σ H v u Q I r q => h pins s σ H v u Q I r (w v σ H Q q)
theorem _root_.L2.PGs.weak {X : Cx} {e : List Expr} {t t' : TGs} (h : PGs X e t) (w : ∀ v σ H Q, t' v σ H Q -> t v σ H Q) : PGs X e t' := fun pins s σ H v u Q I r q => h pins s σ H v u Q I r (w v σ H Q q)
theorem Rel.set {K : PySem.W.Frag} {ρ : En} {σ : L2.St} {H : Hp} {i : Nat} {x : Sl} {v : Option V} (r : Rel K ρ σ H) (o : zru K H x v) (s : ∀ a p d, x = .ow p d -> v = some (.ref a) -> ¬ MA ρ σ a) : Rel K (ρ.set i x) (σ.set i v) H := by
 refine ⟨by rw [List.length_set, List.length_set]; exact r.len, fun j y w e1 e2 => ?_, fun j k b h1 h2 => ?_, r.cst⟩
 ·by_cases c : i = j
  ·subst c
   by_cases hl : i < ρ.length
   ·rw [List.getElem?_set_self hl] at e1
    rw [List.getElem?_set_self (by rw [<- r.len]; exact hl)] at e2
    cases e1; cases e2
    exact o
   ·rw [List.getElem?_eq_none (by rw [List.length_set]; omega)] at e1; cases e1
  ·rw [List.getElem?_set_ne c] at e1 e2
   exact r.ok j y w e1 e2
 ·have w : ∀ j b, At (ρ.set i x) (σ.set i v) j b -> (j = i /\ (∃ p d, x = .ow p d) /\ v = some (.ref b)) \/ (j ≠ i /\ At ρ σ j b) := fun j b ⟨⟨q, dd, e1⟩, e2⟩ => by
   by_cases c : i = j
   ·subst c
    have hl : i < ρ.length := by
     have := (List.getElem?_eq_some_iff.mp e1).1
     rwa [List.length_set] at this
    rw [List.getElem?_set_self hl] at e1
    rw [List.getElem?_set_self (by rw [<- r.len]; exact hl)] at e2
    cases e1; cases e2
    exact .inl ⟨rfl, ⟨q, dd, rfl⟩, rfl⟩
   ·rw [List.getElem?_set_ne c] at e1 e2
    exact .inr ⟨fun z => c z.symm, ⟨q, dd, e1⟩, e2⟩
  rcases w j b h1 with ⟨rfl, ⟨p, d, e⟩, e'⟩ | ⟨n1, a1⟩
  ·rcases w k b h2 with ⟨rfl, _, _⟩ | ⟨n2, a2⟩
   ·rfl
   ·exact absurd ⟨k, a2⟩ (s b p d e e')
  ·rcases w k b h2 with ⟨rfl, ⟨p, d, e⟩, e'⟩ | ⟨n2, a2⟩
   ·exact absurd ⟨j, a1⟩ (s b p d e e')
   ·exact r.sep j k b a1 a2
section
variable {K : PySem.W.Frag} {X : Cx} {pos : Pos}
theorem zk5 {i : Nat} {d : D} {ρ ρ1 : En} (h : gN i d ρ = .ok ρ1) : ρ1 = ρ.set i (.val d) /\ (∀ e, ρ[i]? ≠ some (.ow true e)) /\ i < ρ.length := by
 unfold gN at h
 cases e : ρ[i]? with
 | none => rw [e] at h; cases h
 | some x =>
  rw [e] at h
  have hl : i < ρ.length := (List.getElem?_eq_some_iff.mp e).1
  cases x with
  | no => cases h; exact ⟨rfl, (fun _ z => nomatch z), hl⟩
  | val c => cases h; exact ⟨rfl, (fun _ z => nomatch z), hl⟩
  | ow p c =>
   cases p with
   | true => cases h
   | false => cases h; exact ⟨rfl, (fun _ z => nomatch z), hl⟩
theorem ziN {ρ : En} {σ : L2.St} {i : Nat} {d : D} {v : Option V} (n : ∀ e, ρ[i]? ≠ some (.ow true e)) (hl : i < ρ.length) : Chg [i] ρ (ρ.set i (.val d)) σ (σ.set i v) := ⟨List.length_set, fun j => by
 by_cases c : i = j
 ·subst c
  exact .inr ⟨List.mem_singleton.mpr rfl, ⟨d, List.getElem?_set_self hl⟩, n⟩
 ·exact .inl ⟨List.getElem?_set_ne c, List.getElem?_set_ne c⟩⟩
theorem za0 {i : Nat} {x : Str} (hN : X.N.Nodup) (hi : X.N[i]? = some x) (hx : Loc X.env.scope x) (hf : X.fn x = true \/ X.env.scope.names.lookup x = some .local := by first | exact .inl rfl | exact .inr rfl | assumption) : PVG K X [i] (.Name x pos) (gN i) := fun _ => (zqQ hN hi hx hf).weak fun v σ H Q => by
 rintro ⟨ρ, d, ρ1, rel, fz, e, q⟩
 obtain ⟨rfl, n, hl⟩ := zk5 e
 exact q _ (rel.set fz fun _ _ _ z => nomatch z) (ziN n hl)
theorem zoB : zut K X [] [] [] := fun _ => zqP.weak fun vs σ H Q => by
 rintro ⟨ρ, ds, ρ1, rel, fz, e, q⟩
 cases ds with
 | nil =>
  cases e
  simp only [zak] at fz
  exact ⟨fz, q _ rel .refl⟩
 | cons _ _ => cases e
theorem zav {α β : Type} {r : R α} {k : α -> R β} {b : β} (h : r.bind k = .ok b) : ∃ a, r = .ok a /\ k a = .ok b := by
 cases r with
 | ok a => exact ⟨a, rfl, h⟩
 | _ => cases h
theorem zi9 {e : Expr} {es : List Expr} {g : GF} {gs : List GF} {d1 d2 : List Nat} (h1 : PVG K X d1 e g) (h2 : zut K X d2 es gs)
  (hs : (assignEach (e :: es) X.env).map (·.2) = assign e X.env :: (assignEach es X.env).map (·.2) := by rfl) : zut K X (d1 ++ d2) (e :: es) (g :: gs) := fun hK => (zoO (h1 hK) (h2 hK) hs).weak fun vs σ H Q => by
 rintro ⟨ρ, ds, ρ1, rel, fz, e, q⟩
 cases ds with
 | nil => cases e
 | cons d ds =>
  simp only [zak] at fz
  obtain ⟨v, r, rfl, f1, f2⟩ := fz
  obtain ⟨ρ2, e2, e3⟩ := zav (show (g d ρ).bind (fun ρ1 => zpg gs ds ρ1) = .ok ρ1 from e)
  exact ⟨v, r, rfl, ρ, d, ρ2, rel, f1, e2, fun σ1 rel1 c1 => ⟨ρ2, ds, ρ1, rel1, f2, e3, fun σ2 rel2 c2 => q σ2 rel2 (c1.trans c2)⟩⟩
theorem zk6 : ∀ {gs : List GF} {ds : List D} {ρ ρ1 : En}, zpg gs ds ρ = .ok ρ1 -> ds.length = gs.length
 | [], [], _, _, _ => rfl
 | [], _ :: _, _, _, e => by cases e
 | _ :: _, [], _, _, e => by cases e
 | g :: gs, d :: ds, ρ, ρ1, e => by
  obtain ⟨ρ2, e2, e3⟩ := zav (show (g d ρ).bind (fun ρ1 => zpg gs ds ρ1) = .ok ρ1 from e)
  simp [zk6 e3]
theorem zqA {es : List Expr} {k : Nat} {gs : List GF} {dom : List Nat} (hc : X.calm = true) (h : zut K X dom es gs)
  (hn : (assignEach es X.env).length = gs.length := by rfl) (hst : (assignEach es X.env).findIdx? (·.1) = none := by rfl) : PVG K X dom (.Tuple es k pos) (gT gs) := fun hK => by
 subst hK
 refine (zr9 hc (h rfl) hn hst).weak fun v σ H Q => ?_
 rintro ⟨ρ, d, ρ1, rel, fz, e, q⟩
 cases d with
 | tuple ds =>
  simp only [Fz] at fz
  obtain ⟨a, vs, rfl, s, f⟩ := fz
  replace e : zpg gs ds ρ = .ok ρ1 := e
  exact ⟨a, vs, rfl, .inl s, by rw [f.len, zk6 e], ρ, ds, ρ1, rel, f, e, q⟩
 | _ => cases e
variable {st : Stmt} {rest : List Stmt} {s t : SF} {e : Expr} {f : EF}
theorem zbd : zma K X [] sNx := fun _ C => zqF.weak fun Dn σ H => by
 rintro ⟨ρ, rel, g⟩
 exact g σ H rel (Fzn.refl H)
theorem zan (h1 : PSV K X st s) (h2 : zma K X rest t) : zma K X (st :: rest) (zaB s t) := fun hK C => (zoI (h1 hK C) (h2 hK C)).weak fun Dn σ H => by
 rintro ⟨ρ, rel, g⟩
 refine ⟨ρ, rel, ?_⟩
 obtain ⟨x, ex, g1⟩ := g.bnd
 rw [ex]
 obtain ⟨fl, ρ1⟩ := x
 cases fl with
 | nx => exact fun σ' H' r z => ⟨ρ1, r, g1.step z⟩
 | bk => exact g1
 | ct => exact g1
 | rt d => exact g1
 | rf d => exact g1
theorem zap (h1 : PSV K X st s) : zma K X [st] s := fun hK C => zqE (h1 hK C)
theorem zff : PSV K X st zpE := fun _ C => zoK.weak fun Dn σ H => by
 rintro ⟨ρ, rel, g⟩
 exact g.elim
theorem zdl (he : PV K X e f) (hs : swapsWith e none pos.line X.env = pure false := by rfl) : PSV K X (.Expr e pos) (sE f) := fun hK C => (zmJ (he hK) hs).weak fun Dn σ H => by
 rintro ⟨ρ, rel, g⟩
 exact znz rel g fun d ρ1 v H1 rel1 st1 fz g1 => g1 σ H1 rel1 (Fzn.refl H1)
theorem zaC (he : PV K X e f) : PSV K X (.Return (some e) pos) (zaX f) := fun hK C => (zmI (he hK)).weak fun Dn σ H => by
 rintro ⟨ρ, rel, g⟩
 exact znz rel g fun d ρ1 v H1 rel1 st1 fz g1 => g1 v σ H1 rel1 fz
theorem zfe (he : PVN K X e f) : PSV K X (.Return (some e) pos) (zcY f) := fun hK C => (zmI (he hK)).weak fun Dn σ H => by
 rintro ⟨ρ, rel, g⟩
 exact zvQ rel g fun d ρ1 a H1 rel1 fz ha n m g1 => g1 a σ H1 rel1 (rel.fresh ha) m
theorem zim {y : Str} {py : Pos} (i : Nat) (ha : PE X (.Name y py) (zkF i)) : PSV K X (.Return (some (.Name y py)) pos) (zif i) := fun hK C => (zmI ha).weak fun Dn σ H => by
 rintro ⟨ρ, rel, g⟩
 unfold zif at g
 cases e : ρ[i]? with
 | none => rw [e] at g; exact g.elim
 | some x =>
  rw [e] at g
  cases x with
  | ow p d =>
   cases p with
   | false =>
    obtain ⟨a, at0, m⟩ := rel.rel.zlJ (d := d) (show zbf ρ i = .ok d by unfold zbf; rw [e])
    exact ⟨.ref a, at0.2, g a σ H rel (rel.own i a d e at0.2) m⟩
   | true => exact g.elim
  | _ => exact g.elim
theorem zbH {c : Expr} {a b : List Stmt} {tc : TF} (hc : PVT K X c tc) (ha : zma K X a s) (hb : zma K X b t) : PSV K X (.If c a b pos) (sIf tc s t) := fun hK C => (zuN (hc hK) (ha hK C) (hb hK C)).weak fun Dn σ H => by
 rintro ⟨ρ, rel, g⟩
 refine zvP rel g fun cb ρ1 H1 rel1 fz g1 => ?_
 cases cb with
 | true => exact zry ⟨ρ1, rel1, g1⟩
 | false => exact zrz ⟨ρ1, rel1, g1⟩
theorem zbM {i : Nat} {x : Str} {pos' : Pos} (hN : X.N.Nodup) (hi : X.N[i]? = some x) (hx : Loc X.env.scope x) (he : PV K X e f) (hs : swapsWith e (some (.Name x pos')) pos.line X.env = pure false := by rfl) (hf : X.fn x = true \/ X.env.scope.names.lookup x = some .local := by first | exact .inl rfl | exact .inr rfl | assumption) :
  PSV K X (.Assign [.Name x pos'] e pos) (zbD (gN i) f) := fun hK C => (zpH hN hi hx (he hK) hs hf).weak fun Dn σ H => by
 rintro ⟨ρ, rel, q⟩
 refine znz rel q fun d ρ1 v H1 rel1 st1 fz q1 => ?_
 obtain ⟨ρ2, e2, q2⟩ := q1.bnd
 obtain ⟨rfl, n, hl⟩ := zk5 e2
 exact q2 _ H1 (rel1.chg (rel1.rel.set fz fun _ _ _ z => nomatch z) (ziN n hl)) (Fzn.refl H1)
theorem zsN {i : Nat} {C : SC} (Dn : Ends) (σ : L2.St) (H : Hp) (q0 : tS K C (ze6 i f) Dn σ H) : zrQ (tN K f) (znB i) Dn σ H := by
 revert q0
 rintro ⟨ρ, rel, q⟩
 refine zvQ rel q fun d ρ1 a H1 rel1 fz ha n m q1 => ?_
 have hf := rel.fresh ha
 replace q1 : zcI K C H1 (match ρ1[i]? with | some (.ow true _) => .bad | some _ => .ok (.nx, ρ1.set i (.ow false d)) | none => .bad) Dn := q1
 have fin : (∀ e, ρ1[i]? ≠ some (.ow true e)) -> i < ρ1.length -> zeu K C (ρ1.set i (.ow false d)) (σ.set i (some (.ref a))) H1 := fun np hl => by
  have hls : i < σ.length := by rw [<- rel1.rel.len]; exact hl
  refine ⟨rel1.rel.set (show zru K H1 (.ow false d) (some (.ref a)) from m) fun b p c e1 e2 => by cases e2; exact n, rel1.keep, fun j b c e1 e2 => ?_, fun j => ?_, fun j c e1 => ?_, rel1.prm⟩
  ·by_cases k : i = j
   ·subst k
    rw [List.getElem?_set_self hls] at e2
    cases e2
    exact hf
   ·rw [List.getElem?_set_ne k] at e1 e2
    exact rel1.own j b c e1 e2
  ·by_cases k : i = j
   ·subst k
    rw [List.getElem?_set_self hl, <- rel1.pin i]
    constructor
    ·rintro ⟨_, z⟩; cases z
    ·rintro ⟨c, z⟩; exact absurd z (np c)
   ·rw [List.getElem?_set_ne k]; exact rel1.pin j
  ·by_cases k : i = j
   ·subst k
    rw [List.getElem?_set_self hl] at e1; cases e1
   ·rw [List.getElem?_set_ne k] at e1 ⊢
    exact rel1.fix j c e1
 cases e1 : ρ1[i]? with
 | none => rw [e1] at q1; exact q1.elim
 | some y =>
  have hl : i < ρ1.length := (List.getElem?_eq_some_iff.mp e1).1
  rw [e1] at q1
  cases y with
  | no => exact q1 _ H1 (fin (fun e z => by rw [e1] at z; cases z) hl) (Fzn.refl H1)
  | val c => exact q1 _ H1 (fin (fun e z => by rw [e1] at z; cases z) hl) (Fzn.refl H1)
  | ow p c =>
   cases p with
   | true => exact q1.elim
   | false => exact q1 _ H1 (fin (fun e z => by rw [e1] at z; cases z) hl) (Fzn.refl H1)
theorem zio {i : Nat} {x : Str} {pos' : Pos} (hN : X.N.Nodup) (hi : X.N[i]? = some x) (hx : Loc X.env.scope x) (he : PVN K X e f) (hs : swapsWith e (some (.Name x pos')) pos.line X.env = pure false := by rfl) (hf : X.fn x = true \/ X.env.scope.names.lookup x = some .local := by first | exact .inl rfl | exact .inr rfl | assumption) :
  PSV K X (.Assign [.Name x pos'] e pos) (ze6 i f) := fun hK C => (zpH hN hi hx (he hK) hs hf).weak fun Dn σ H q => zsN Dn σ H q
theorem zm9 {ρ : En} {i : Nat} {c : List D} (h : zeQ ρ i = .ok c) : ∃ p, ρ[i]? = some (.ow p (.list c)) := by
 unfold zeQ at h
 cases e : ρ[i]? with
 | none => rw [e] at h; cases h
 | some x =>
  rw [e] at h
  cases x with
  | ow p d =>
   cases d with
   | list a => cases h; exact ⟨p, rfl⟩
   | _ => cases h
  | _ => cases h
theorem Rel.zu2 {ρ : En} {σ : L2.St} {H : Hp} {i : Nat} {c : List D} (r : Rel K ρ σ H) (h : zeQ ρ i = .ok c) : ∃ a vs, At ρ σ i a /\ H a = some (.lst vs) /\ zak K H c vs := by
 obtain ⟨p, e⟩ := zm9 h
 obtain ⟨a, at0, m⟩ := r.zlJ (d := .list c) (show zbf ρ i = .ok (.list c) by unfold zbf; rw [e])
 obtain ⟨vs, h1, h2⟩ := m
 exact ⟨a, vs, at0, h1, h2⟩
theorem Rel.zvO {ρ ρ1 : En} {σ : L2.St} {H1 : Hp} {i : Nat} {c : List D} {a : Addr} (r : Rel K ρ1 σ H1) (h : zeQ ρ1 i = .ok c) (at0 : At ρ σ i a) : ∃ vs, At ρ1 σ i a /\ H1 a = some (.lst vs) /\ zak K H1 c vs := by
 obtain ⟨b, vs, ab, h1, h2⟩ := r.zu2 h
 have := at0.2.symm.trans ab.2
 cases this
 exact ⟨vs, ab, h1, h2⟩
theorem zpc {C : SC} {ρ : En} {σ : L2.St} {H : Hp} {i : Nat} {a : Addr} {o : HO} {d : D} {Dn : Ends} (rel : zeu K C ρ σ H) (at0 : At ρ σ i a) (m : zbP K (upd H a o) a d) (g : zcI K C H (.ok (.nx, zbE ρ i d)) Dn) : Dn.nx σ (upd H a o) := by
 have st : Stp ρ (zbE ρ i d) σ H (upd H a o) := zkH at0
 exact g σ _ (rel.step (rel.rel.zwi at0 m) st) (st.fzn rel.rel)
theorem zp3 {C : SC} {ρ : En} {σ : L2.St} {H : Hp} {i : Nat} {a : Addr} {o : HO} (rel : zeu K C ρ σ H) (at0 : At ρ σ i a) : Fzn H (upd H a o) := (zkH (d := .none) at0).fzn rel.rel
theorem zhI {y name : Str} {py apos cpos : Pos} (i : Nat) (hnm : name = "append") (ha : PE X (.Name y py) (zkF i)) (he : PV K X e f)
  (hbase : attributeBase (.Name y py) name X.env (eval (.Name y py) X.env) = eval (.Name y py) X.env := by rfl)
  (hfew : ((backTo cpos (starEach [e] X.env)).all (fun x => !x.1) && (backToKw cpos (keywordEach [] X.env)).all (fun x => x.1.isSome) && decide ([e].length + ([] : List Keyword).length + (if ([] : List Keyword).isEmpty then 0 else 1) < 30)) = true := by rfl)
  (hline : (apos.endLine == cpos.line) = true := by rfl) (hst : starEach [e] X.env = (false, eval e X.env) :: starEach [] X.env := by rfl) (hplain : (backTo cpos (starEach [] X.env)).any (·.1) = false := by rfl)
  (hs : swapsWith (.Call (.Attribute (.Name y py) name apos) [e] [] cpos) none pos.line X.env = pure false := by rfl) : PSV K X (.Expr (.Call (.Attribute (.Name y py) name apos) [e] [] cpos) pos) (zkB i zln f) := fun hK C => by
 subst hK
 subst hnm
 refine (zmJ (zuS PySem.F.plainAttrs_list PySem.F.slot_list_append PySem.F.type_list_append zgK ha (zdo (he rfl) zjc hst) hbase hfew hline hst hplain) hs).weak fun Dn σ H => ?_
 rintro ⟨ρ, rel, g⟩
 obtain ⟨d, ed, g1⟩ := g.bnd
 obtain ⟨a, vs0, at0, h0, _⟩ := rel.rel.zu2 ed
 refine ⟨.ref a, at0.2, .inl ⟨rfl, vs0, SqL.of h0⟩, znz rel g1 fun dx ρ1 v H1 rel1 st1 fz g2 => ?_⟩
 obtain ⟨c, ec, g3⟩ := g2.bnd
 obtain ⟨c', ec', g4⟩ := g3.bnd
 obtain ⟨vs, at1, h1, h2⟩ := rel1.rel.zvO ec at0
 obtain ⟨cc, ec'⟩ := zbe ec'
 cases ec'
 have hz : vs.length < sizeLine := by
  have := zhu cc
  have l0 := zcN
  rw [h2.len]; omega
 refine ⟨a, vs, v, rfl, rfl, h1, hz, zpc (d := .list (c ++ [dx])) rel1 at1 ⟨_, zau, (h2.app ?_).mono (zp3 rel1 at1)⟩ g4⟩
 simp only [zak]
 exact ⟨v, [], rfl, fz, rfl⟩
theorem zil {y : Str} {py ps' : Pos} {ke : Expr} {k : EF} (i : Nat) (ha : PE X (.Name y py) (zkF i)) (he : PV K X e f) (hk : PV K X ke k)
  (has : ∀ v, assign (.Subscript (.Name y py) ke ps') X.env v = (do
   let ov <- holding [v] (eval (.Name y py) X.env)
   let iv <- holding [v, ov] (eval ke X.env)
   standAt ps'
   holding [v, ov, iv] (setItem ov iv v)
   release [v, ov, iv] []) := by intro _; rfl)
  (hs : swapsWithSole [.Subscript (.Name y py) ke ps'] e pos.line X.env = pure false := by rfl) (hw : swappedStores [.Subscript (.Name y py) ke ps'] e X.env = pure none := by rfl)
  (h1 : (assignEach [.Subscript (.Name y py) ke ps'] X.env).map (·.2) = [assign (.Subscript (.Name y py) ke ps') X.env] := by rfl) : PSV K X (.Assign [.Subscript (.Name y py) ke ps'] e pos) (setM i f k) := fun hK C => by
 subst hK
 refine (zr6 (he rfl) (zsa ha (hk rfl) set_list has) hs hw h1).weak fun Dn σ H => ?_
 rintro ⟨ρ, rel, g⟩
 refine znz rel g fun dx ρ1 v H1 rel1 st1 fz g1 => ?_
 obtain ⟨d, ed, g2⟩ := g1.bnd
 obtain ⟨a, vs0, at0, h0, _⟩ := rel1.rel.zu2 ed
 refine ⟨.ref a, at0.2, znz rel1 g2 fun dk ρ2 kv H2 rel2 st2 fk g3 => ?_⟩
 obtain ⟨c, ec, g4⟩ := g3.bnd
 obtain ⟨vs, at1, h1, h2⟩ := rel2.rel.zvO ec at0
 cases dk with
 | int j =>
  obtain ⟨n, en, g5⟩ := (show zcI X.K C H2 ((R.of (FL.ixN c.length j)).bind fun n => .ok (.nx, zbE ρ2 i (.list (c.set n dx)))) Dn from g4).bnd
  simp only [Fz] at fk
  subst fk
  refine ⟨a, vs, j, n, rfl, rfl, h1, ?_, zpc (d := .list (c.set n dx)) rel2 at1 ⟨_, zau, (h2.set n (fz.mono (st2.fzn rel1.rel))).mono (zp3 rel2 at1)⟩ g5⟩
  rw [h2.len]
  cases e2 : FL.ixN c.length j with
  | none => rw [e2] at en; cases en
  | some m => rw [e2] at en; cases en; exact e2
 | _ => exact g4.elim
end
end FL
namespace FL
open PySem L2 PySem.Spec
open PyProof.Rows hiding St
variable [Cs]
def Walk (K : PySem.W.Frag) (J : It) (items : List D) (H : Hp) : Prop :=
 (∀ i d H', Fzn H H' -> items[i]? = some d -> J.go i H' /\ ∀ x H'', J.yld i H' x H'' -> zba H' H'' /\ Fz K H'' d x) /\ ∀ i H', Fzn H H' -> items.length <= i -> J.stop i H'
def tI (K : PySem.W.Frag) (it : IF) : TI := fun σ H R => ∃ ρ, Rel K ρ σ H /\ Good K ρ σ H (it ρ) fun items _ H' => ∀ J, Walk K J items H' -> R J H'
def PVI (K : PySem.W.Frag) (X : Cx) (tg e : Expr) (it : IF) : Prop := X.K = K -> PI X tg e (tI K it)
theorem _root_.L2.PI.weak {X : Cx} {tg e : Expr} {t t' : TI} (h : PI X tg e t) (w : ∀ σ H R, t' σ H R -> t σ H R) : PI X tg e t' := fun pins s σ H R I q => h pins s σ H R I (w σ H R q)
section
variable {K : PySem.W.Frag} {X : Cx} {tg e : Expr} {f : EF} {pos : Pos}
theorem zr7 {l : Expr} {tl : TE} (hl : PE X l tl) : PI X tg l (fun σ H R => tl σ H fun x H1 => ∃ a, x = .ref a /\ (((∃ xs, SqL X.K H1 a xs) /\ R (Itl X.K a) H1) \/ ((∃ xs, SqT X.K H1 a xs) /\ R (Itt X.K a) H1))) := by
 intro pins s σ H R I h
 refine thn (hl pins s σ H _ I h) fun v s1 ⟨x, H1, I1, r1, q1⟩ => ?_
 obtain ⟨a, e, q1⟩ := q1
 subst e
 cases r1
 rcases q1 with ⟨⟨xs, hq⟩, q⟩ | ⟨⟨xs, hq⟩, q⟩
 ·obtain ⟨its, rv, p, hz⟩ := I1.list hq
  refine wpAny_pyIter_list p.isList ?_
  refine ⟨s1.heap.objs.size, [s1.heap.objs.size], _, _, H1, rfl, I1.kept (t' := s1.toks) fun b o e => Heap.get?_push_of_some _ e, zmd a _, ⟨_, Heap.get?_push_size _ rfl, rfl, rfl⟩, fun b hb => ?_, q⟩
  have e : b = s1.heap.objs.size := by simpa using hb
  subst e
  exact I1.zph (Nat.le_refl _) (I1.hok.fresh (Nat.le_refl _))
 ·obtain ⟨its, rv, p, hz⟩ := I1.tuple hq
  refine wpAny_pyIter_tuple (show s1.heap.IsTuple a its.toArray from p) ?_
  refine ⟨s1.heap.objs.size, [s1.heap.objs.size], _, _, H1, rfl, I1.kept (t' := s1.toks) fun b o e => Heap.get?_push_of_some _ e, zlq a _, ⟨_, Heap.get?_push_size _ rfl, rfl, rfl⟩, fun b hb => ?_, q⟩
  have e : b = s1.heap.objs.size := by simpa using hb
  subst e
  exact I1.zph (Nat.le_refl _) (I1.hok.fresh (Nat.le_refl _))
theorem zmb {H : Hp} {a : Addr} {vs : List V} {items : List D} (h : FzL K H a vs) (f : zak K H items vs) : Walk K (Itl K a) items H := by
 refine ⟨fun i d H' fz e => ?_, fun i H' fz e => ⟨vs, (fz.zuj h).sq, by rw [f.len]; exact e⟩⟩
 obtain ⟨v, ev, _⟩ := f.get e
 refine ⟨⟨vs, v, (fz.zuj h).sq, ev⟩, fun x H'' y => ?_⟩
 obtain ⟨rfl, y⟩ := y
 have ex := y vs (fz.zuj h).sq
 obtain ⟨v', ev', fv⟩ := (f.mono fz).get e
 rw [ex] at ev'
 cases ev'
 exact ⟨zba.refl _, fv⟩
theorem zom {H : Hp} {a : Addr} {vs : List V} {items : List D} (h : TAt H a vs) (f : zak K H items vs) : Walk K (Itt K a) items H := by
 refine ⟨fun i d H' fz e => ?_, fun i H' fz e => ⟨vs, .inl (fz.zui h), by rw [f.len]; exact e⟩⟩
 obtain ⟨v, ev, _⟩ := f.get e
 refine ⟨⟨vs, v, .inl (fz.zui h), ev⟩, fun x H'' y => ?_⟩
 obtain ⟨rfl, y⟩ := y
 have ex := y vs (.inl (fz.zui h))
 obtain ⟨v', ev', fv⟩ := (f.mono fz).get e
 rw [ex] at ev'
 cases ev'
 exact ⟨zba.refl _, fv⟩
theorem zdV (he : PV K X e f) : PVI K X tg e (iE f) := fun hK => by
 subst hK
 refine (zr7 (he rfl)).weak fun σ H R => ?_
 rintro ⟨ρ, rel, q⟩
 refine goV rel q fun dx ρ1 x H1 rel1 st1 fx q1 => ?_
 obtain ⟨items, ei, q2⟩ := q1.zeU
 cases dx with
 | list a =>
  cases ei
  simp only [Fz] at fx
  obtain ⟨l, vs, rfl, sx, f⟩ := fx
  exact ⟨l, rfl, .inl ⟨⟨vs, sx.sq⟩, q2.now rel1 _ (zmb sx f)⟩⟩
 | tuple a =>
  cases ei
  simp only [Fz] at fx
  obtain ⟨l, vs, rfl, sx, f⟩ := fx
  exact ⟨l, rfl, .inr ⟨⟨vs, .inl sx⟩, q2.now rel1 _ (zom sx f)⟩⟩
 | _ => cases ei
theorem p62 : (2 : Int) ^ 62 = 4611686018427387904 := by decide
theorem zqw {lo hi : Int} {i : Nat} {d : D} (h : (rng lo hi)[i]? = some d) : i < (hi - lo).toNat /\ d = .int (lo + i) := by
 unfold rng at h
 rw [List.getElem?_map] at h
 by_cases c : i < (hi - lo).toNat
 ·rw [List.getElem?_range c] at h
  cases h
  exact ⟨c, rfl⟩
 ·rw [List.getElem?_eq_none (by rw [List.length_range]; omega)] at h; cases h
theorem zkx {H : Hp} (lo hi : Int) : Walk K (Itr lo (hi - lo).toNat) (rng lo hi) H := by
 refine ⟨fun i d H' fz e => ?_, fun i H' fz e => ?_⟩
 ·obtain ⟨c, rfl⟩ := zqw e
  refine ⟨c, fun x H'' y => ?_⟩
  obtain ⟨rfl, rfl⟩ := y
  exact ⟨zba.refl _, zcC _⟩
 ·show (hi - lo).toNat <= i
  simpa [rng] using e
theorem zlB {a : Expr} {fa : AF} {p : Pos} (hg : Gl X "range") (hm : X.mg "range" = none) (ha : PVA K X [a] fa) (hs : starEach [a] X.env = [(false, eval a X.env)] := by rfl) : PVI K X tg (.Call (.Name "range" p) [a] [] pos) (iR1 fa) := fun hK => (zmQ hg hm (ha hK) hs).weak fun σ H R => by
 rintro ⟨ρ, rel, q⟩
 refine goA rel q fun ds ρ1 vs H1 rel1 st1 fs q1 => ?_
 obtain ⟨items, ei, q2⟩ := q1.zeU
 cases ds with
 | nil => cases ei
 | cons d r =>
  cases r with
  | cons _ _ => cases d <;> cases ei
  | nil =>
   cases d with
   | int j =>
    obtain ⟨c, ei⟩ := zbe (show chk (zhj j && leB j.toNat lim) (.ok (rng 0 j)) = .ok items from ei)
    cases ei
    simp only [zak, Fz] at fs
    obtain ⟨_, _, rfl, rfl, rfl⟩ := fs
    simp only [zhj, Bool.and_eq_true, leB_iff] at c
    have := zkx (K := K) (H := H1) 0 j
    rw [Int.sub_zero] at this
    have e62 := p62
    exact ⟨j, rfl, by omega, by omega, q2.now rel1 _ this⟩
   | _ => cases ei
theorem zc7 {a b : Expr} {fa : AF} {p : Pos} (hg : Gl X "range") (hm : X.mg "range" = none) (ha : PVA K X [a, b] fa) (hs : starEach [a, b] X.env = [(false, eval a X.env), (false, eval b X.env)] := by rfl) (hs2 : starEach [b] X.env = [(false, eval b X.env)] := by rfl) :
  PVI K X tg (.Call (.Name "range" p) [a, b] [] pos) (iR2 fa) := fun hK => (zmP hg hm (ha hK) hs hs2).weak fun σ H R => by
 rintro ⟨ρ, rel, q⟩
 refine goA rel q fun ds ρ1 vs H1 rel1 st1 fs q1 => ?_
 obtain ⟨items, ei, q2⟩ := q1.zeU
 have key : ∃ i j, ds = [.int i, .int j] := by
  cases ds with
  | nil => cases ei
  | cons d r =>
   cases d with
   | int i =>
    cases r with
    | nil => cases ei
    | cons d2 r =>
     cases d2 with
     | int j =>
      cases r with
      | nil => exact ⟨i, j, rfl⟩
      | cons _ _ => cases ei
     | _ => cases ei
   | _ => cases ei
 obtain ⟨i, j, rfl⟩ := key
 obtain ⟨c, ei⟩ := zbe (show chk (zhj i && zhj j && leB (j - i).toNat lim) (.ok (rng i j)) = .ok items from ei)
 cases ei
 simp only [zak, Fz] at fs
 obtain ⟨_, _, rfl, rfl, _, _, rfl, rfl, rfl⟩ := fs
 simp only [zhj, Bool.and_eq_true, leB_iff] at c
 have e62 := p62
 exact ⟨i, j, rfl, ⟨by omega, by omega, by omega, by omega⟩, q2.now rel1 _ (zkx i j)⟩
variable {it : IF} {g : GF} {b t : SF} {body : List Stmt}
theorem zgz {dom : List Nat} (hp : PassesOwn (model X.prog X.w) X.A X.env X.xe) (hc : X.calm = true) (hi : PVI K X tg e it) (hg : PVG K X dom tg g) (hb : zma K X body b) (hs : ∀ x, foldedSetIterable e X.env x = pure x := by intro _; rfl) : PSV K X (.For tg e body [] pos) (zi3 it g b) := fun hK C =>
 (zr5 hp hc (hi hK) (hg hK) (hb hK C) hs).weak fun Dn σ0 H0 => by
 rintro ⟨ρ0, rel0, q⟩
 obtain ⟨x, ex, q⟩ := q.bnd
 refine ⟨ρ0, rel0.rel, ?_⟩
 rw [ex]
 intro Hs r st J wk
 have rel1 := rel0.step r st
 have q1 := q.step (st.fzn rel0.rel)
 obtain ⟨items, ρs⟩ := x
 refine ⟨fun i m σ H => m = items.length - i /\ i <= items.length /\ ∃ ρ, zeu K C ρ σ H /\ Fzn Hs H /\ zcI K C H (forL g b (items.drop i) ρ) Dn, ⟨items.length, by simp, Nat.zero_le _, ρs, rel1, Fzn.refl _, q1⟩, ?_⟩
 rintro i m σ H ⟨rfl, hi, ρ, rel, fz, gd⟩
 by_cases c : i < items.length
 ·have ed := List.drop_eq_getElem_cons c
  rw [ed] at gd
  obtain ⟨hgo, hy⟩ := wk.1 i items[i] H fz (List.getElem?_eq_getElem c)
  refine .inr ⟨hgo, fun σ' H' => ∃ ρ, zeu K C ρ σ' H' /\ Fzn Hs H' /\ zcI K C H' (forL g b (items.drop (i + 1)) ρ) Dn, fun σ' H' n => ⟨items.length - (i + 1), by omega, rfl, c, n⟩, fun x H3 y => ?_⟩
  obtain ⟨sm, fx⟩ := hy x H3 y
  have rel3 : zeu K C ρ σ H3 := rel.step (rel.rel.same sm) (.of sm)
  obtain ⟨ρ1, e1, gd1⟩ := gd.bnd
  refine ⟨ρ, items[i], ρ1, rel3.rel, fx, e1, fun σ1 rel4 chg => ⟨ρ1, rel3.chg rel4 chg, ?_⟩⟩
  obtain ⟨y, ey, gd2⟩ := gd1.bnd
  rw [ey]
  have gd3 := gd2.step (Fzn.of sm)
  have fz3 := fz.trans (Fzn.of sm)
  obtain ⟨fl, ρ2⟩ := y
  cases fl with
  | nx => exact fun σ' H' r z => ⟨ρ2, r, fz3.trans z, gd3.step z⟩
  | ct => exact fun σ' H' r z => ⟨ρ2, r, fz3.trans z, gd3.step z⟩
  | bk => exact gd3
  | rt d => exact gd3
  | rf d => exact gd3
 ·have e : i = items.length := by omega
  subst e
  rw [List.drop_length] at gd
  exact .inl ⟨wk.2 _ H fz (Nat.le_refl _), gd σ H rel (Fzn.refl _)⟩
theorem zi8 {c : Expr} {tc : TF} (fuel : En -> Nat) (hp : PassesOwn (model X.prog X.w) X.A X.env X.xe) (hc : PVT K X c tc) (hb : zma K X body b) : PSV K X (.While c body [] pos) (zhH fuel tc b) := fun hK C =>
 (zoJ hp (hc hK) (hb hK C)).weak fun Dn σ0 H0 => by
 rintro ⟨ρ0, rel0, q⟩
 refine ⟨fun m σ H => ∃ ρ, zeu K C ρ σ H /\ zcI K C H (zew tc b m ρ) Dn, ⟨fuel ρ0, ρ0, rel0, q⟩, ?_⟩
 rintro m σ H ⟨ρ, rel, gd⟩
 cases m with
 | zero => exact gd.elim
 | succ n =>
  refine zvP rel gd fun cb ρ1 H1 rel1 fz g1 => ?_
  cases cb with
  | false => exact zrz (g1 σ H1 rel1 (Fzn.refl _))
  | true =>
   refine zry ⟨fun σ' H' => ∃ ρ, zeu K C ρ σ' H' /\ zcI K C H' (zew tc b n ρ) Dn, fun σ' H' z => ⟨n, Nat.lt_succ_self _, z⟩, ρ1, rel1, ?_⟩
   obtain ⟨y, ey, gd2⟩ := (show zcI K C H1 ((b ρ1).bind fun y => match y.1 with
   | .nx | .ct => zew tc b n y.2
   | .bk => .ok (.nx, y.2)
   | .rt d => .ok (.rt d, y.2)
   | .rf d => .ok (.rf d, y.2)) Dn from g1).bnd
   rw [ey]
   obtain ⟨fl, ρ2⟩ := y
   cases fl with
   | nx => exact fun σ' H' r z => ⟨ρ2, r, gd2.step z⟩
   | ct => exact fun σ' H' r z => ⟨ρ2, r, gd2.step z⟩
   | bk => exact gd2
   | rt d => exact gd2
   | rf d => exact gd2
end
end FL
namespace FL
open PySem L2 PySem.Spec
open PyProof.Rows hiding St
variable [Cs]
section
variable {K : PySem.W.Frag} {ρ : En} {σ : L2.St} {H H' : Hp} {k : Nat} {ix : List Nat}
theorem znY {j : Nat} (h : j < k) : (blk k ix ρ)[j]? = some .no := by
 unfold blk
 rw [List.getElem?_append_left (by simpa using h), List.getElem?_replicate, if_pos h]
theorem zlj (j : Nat) : (blk k ix ρ)[k + j]? = (ix[j]?).map fun i => (ρ[i]?).getD .no := by
 unfold blk
 rw [List.getElem?_append_right (by simp), List.length_replicate, Nat.add_sub_cancel_left, List.getElem?_map]
theorem znU (j : Nat) : (zgg k ix σ)[k + j]? = (ix[j]?).map fun i => (σ[i]?).getD none := by
 unfold zgg
 rw [List.getElem?_append_right (by simp), List.length_replicate, Nat.add_sub_cancel_left, List.getElem?_map]
theorem zjB {j : Nat} {a : Addr} (h : At (blk k ix ρ) (zgg k ix σ) j a) : ∃ j' i, j = k + j' /\ ix[j']? = some i /\ At ρ σ i a := by
 obtain ⟨⟨p, d, e1⟩, e2⟩ := h
 by_cases c : j < k
 ·rw [znY c] at e1; cases e1
 ·obtain ⟨j', rfl⟩ : ∃ j', j = k + j' := ⟨j - k, by omega⟩
  rw [zlj] at e1
  rw [znU] at e2
  cases ei : ix[j']? with
  | none => rw [ei] at e1; cases e1
  | some i =>
   rw [ei] at e1 e2
   refine ⟨j', i, rfl, ei, ⟨p, d, ?_⟩, ?_⟩
   ·simp only [Option.map_some, Option.some.injEq] at e1
    cases er : ρ[i]? with
    | none => rw [er] at e1; cases e1
    | some x => rw [er] at e1; simpa using e1
   ·simp only [Option.map_some, Option.some.injEq] at e2
    cases es : σ[i]? with
    | none => rw [es] at e2; cases e2
    | some x => rw [es] at e2; simpa using e2
theorem zmV {l : List Nat} (h : l.Nodup) {i j x : Nat} (a : l[i]? = some x) (b : l[j]? = some x) : i = j := by
 obtain ⟨h1, e1⟩ := List.getElem?_eq_some_iff.mp a
 obtain ⟨h2, e2⟩ := List.getElem?_eq_some_iff.mp b
 exact (List.getElem_inj h).mp (e1.trans e2.symm)
theorem zrr (nd : ix.Nodup) (r : Rel K ρ σ H) : Rel K (blk k ix ρ) (zgg k ix σ) H := by
 refine ⟨by simp [blk, zgg], fun j x v e1 e2 => ?_, fun i j a h1 h2 => ?_, r.cst⟩
 ·by_cases c : j < k
  ·rw [znY c] at e1; cases e1; trivial
  ·obtain ⟨j', rfl⟩ : ∃ j', j = k + j' := ⟨j - k, by omega⟩
   rw [zlj] at e1
   rw [znU] at e2
   cases ei : ix[j']? with
   | none => rw [ei] at e1; cases e1
   | some i =>
    rw [ei] at e1 e2
    simp only [Option.map_some, Option.some.injEq] at e1 e2
    cases er : ρ[i]? with
    | none => rw [er] at e1; cases e1; trivial
    | some y =>
     have hl : i < σ.length := by rw [<- r.len]; exact (List.getElem?_eq_some_iff.mp er).1
     rw [er] at e1
     rw [List.getElem?_eq_getElem hl] at e2
     cases e1; cases e2
     exact r.ok i _ _ er (List.getElem?_eq_getElem hl)
 ·obtain ⟨i', x, rfl, e1, a1⟩ := zjB h1
  obtain ⟨j', y, rfl, e2, a2⟩ := zjB h2
  have := r.sep x y a a1 a2
  subst this
  rw [zmV nd e1 e2]
theorem zko {m : List (Nat × Sl)} : ∀ (ρ : En) (n i : Nat), (bkL m n ρ)[i]? = (ρ[i]?).map (bk1 m (n + i))
 | [], n, i => by simp [bkL]
 | x :: r, n, 0 => by simp [bkL]
 | x :: r, n, i + 1 => by
  simp only [bkL, List.getElem?_cons_succ]
  rw [zko r (n + 1) i, show n + 1 + i = n + (i + 1) by omega]
theorem zlk {cs : En} (i : Nat) : (back ρ ix cs)[i]? = (ρ[i]?).map (bk1 (ix.zip cs) i) := by
 unfold back
 rw [zko, Nat.zero_add]
theorem zkn {m : List (Nat × Sl)} : ∀ (ρ : En) (n : Nat), (bkL m n ρ).length = ρ.length
 | [], n => rfl
 | x :: r, n => by simp [bkL, zkn r]
theorem zhz : ∀ {ix : List Nat} {cs : En} {i : Nat} {c : Sl}, (ix.zip cs).lookup i = some c -> ∃ j : Nat, ix[j]? = some i /\ cs[j]? = some c
 | [], cs, i, c, h => by simp at h
 | x :: r, [], i, c, h => by simp at h
 | x :: r, y :: s, i, c, h => by
  rw [List.zip_cons_cons, List.lookup_cons] at h
  by_cases e : i = x
  ·subst e
   simp only [beq_self_eq_true] at h
   cases h
   exact ⟨0, rfl, rfl⟩
  ·rw [beq_false_of_ne e] at h
   obtain ⟨j, h1, h2⟩ := zhz h
   exact ⟨j + 1, by simpa using h1, by simpa using h2⟩
theorem ze7 : ∀ {ix : List Nat} {cs : En} {i j : Nat} {c : Sl}, ix.Nodup -> ix[j]? = some i -> cs[j]? = some c -> (ix.zip cs).lookup i = some c
 | [], cs, i, j, c, _, h1, _ => by simp at h1
 | x :: r, [], i, j, c, _, _, h2 => by simp at h2
 | x :: r, y :: s, i, j, c, nd, h1, h2 => by
  rw [List.zip_cons_cons, List.lookup_cons]
  cases j with
  | zero =>
   simp at h1 h2
   subst h1; subst h2
   simp
  | succ j =>
   simp at h1 h2
   have : i ≠ x := fun z => by
    subst z
    exact (List.nodup_cons.mp nd).1 (List.mem_of_getElem? h1)
   rw [beq_false_of_ne this]
   exact ze7 (List.nodup_cons.mp nd).2 h1 h2
theorem zn1 {β : En} {σβ : L2.St} (nd : ix.Nodup) (r : Rel K ρ σ H) (hs : ∀ j, σβ[k + j]? = (zgg k ix σ)[k + j]?) (rb : Rel K β σβ H')
  (md : ∀ j p, (∃ d, β[k + j]? = some (.ow p d)) ↔ ∃ d, (blk k ix ρ)[k + j]? = some (.ow p d)) (kp : ∀ a o, H a = some o -> ¬ MA (blk k ix ρ) (zgg k ix σ) a -> H' a = some o) :
  Rel K (back ρ ix (β.drop k)) σ H' /\ Stp ρ (back ρ ix (β.drop k)) σ H H' := by
 have hm : ∀ a, MA (blk k ix ρ) (zgg k ix σ) a -> MA ρ σ a := fun a ⟨j, h⟩ => by
  obtain ⟨_, i, _, _, h⟩ := zjB h
  exact ⟨i, h⟩
 have fz : Fzn H H' := fun a o h st => kp a o h fun m => by
  obtain ⟨o', e, w⟩ := r.zbR (hm a m)
  rw [h] at e
  cases e
  exact w.zez st
 have mdB : ∀ (i : Nat) p, (∃ d, ρ[i]? = some (.ow p d)) ↔ ∃ d, (back ρ ix (β.drop k))[i]? = some (.ow p d) := fun i p => by
  rw [zlk]
  constructor
  ·rintro ⟨d, e⟩
   rw [e]
   simp only [Option.map_some, bk1]
   split
   ·rename_i p' d1 q' d2 h1 h2; cases h1; exact ⟨_, rfl⟩
   ·exact ⟨_, rfl⟩
  ·rintro ⟨d, e⟩
   cases er : ρ[i]? with
   | none => rw [er] at e; cases e
   | some x =>
    rw [er] at e
    simp only [Option.map_some, Option.some.injEq, bk1] at e
    split at e
    ·cases e; exact ⟨_, rfl⟩
    ·subst e; exact ⟨_, rfl⟩
 have atB : ∀ i a, At (back ρ ix (β.drop k)) σ i a -> At ρ σ i a := fun i a ⟨⟨p, d, e1⟩, e2⟩ => ⟨⟨p, (mdB i p).mpr ⟨d, e1⟩⟩, e2⟩
 refine ⟨⟨by rw [show (back ρ ix (β.drop k)).length = ρ.length from zkn _ _]; exact r.len, fun i x v e1 e2 => ?_, fun i j a h1 h2 => r.sep i j a (atB i a h1) (atB j a h2), r.cst.mono fz⟩, ⟨mdB, fun a o h n => kp a o h fun m => n (hm a m)⟩⟩
 rw [zlk] at e1
 cases er : ρ[i]? with
 | none => rw [er] at e1; cases e1
 | some y =>
  rw [er] at e1
  simp only [Option.map_some, Option.some.injEq] at e1
  have o := r.ok i y v er e2
  cases y with
  | no => simp only [bk1] at e1; subst e1; trivial
  | val d =>
   simp only [bk1] at e1
   subst e1
   exact o.mono fz fun a _ ⟨p, d', z⟩ => nomatch z
  | ow p d =>
   cases v with
   | none => exact o.elim
   | some v =>
    cases v with
    | ref a =>
     have ai : At ρ σ i a := ⟨⟨p, d, er⟩, e2⟩
     cases el : (ix.zip (β.drop k)).lookup i with
     | none =>
      simp only [bk1, el] at e1
      subst e1
      refine o.mono fz fun b e3 _ => ?_
      cases e3
      obtain ⟨u, hu, _⟩ := r.zbR ⟨i, ai⟩
      rw [hu]
      refine kp a u hu fun ⟨j, h⟩ => ?_
      obtain ⟨j', i', rfl, ej, h'⟩ := zjB h
      have := r.sep i i' a ai h'
      subst this
      have hb : β[k + j']? ≠ none := fun z => by
       have : ∃ d, β[k + j']? = some (.ow p d) := (md j' p).mpr ⟨d, by rw [zlj, ej]; simp [er]⟩
       obtain ⟨_, w⟩ := this
       rw [z] at w; cases w
      cases hbe : β[k + j']? with
      | none => exact hb hbe
      | some c =>
       have : (β.drop k)[j']? = some c := by rw [List.getElem?_drop]; exact hbe
       rw [ze7 nd ej this] at el
       cases el
     | some c =>
      obtain ⟨j, hj, hc⟩ := zhz el
      rw [List.getElem?_drop] at hc
      have bm : (blk k ix ρ)[k + j]? = some (.ow p d) := by rw [zlj, hj]; simp [er]
      obtain ⟨d', hd'⟩ := (md j p).mpr ⟨d, bm⟩
      rw [hc] at hd'
      cases hd'
      simp only [bk1, el] at e1
      subst e1
      have es : σβ[k + j]? = some (some (.ref a)) := by rw [hs j, znU, hj]; simp [e2]
      exact rb.ok (k + j) _ _ hc es
    | _ => exact o.elim
end
theorem zk0 {K : PySem.W.Frag} {k : Nat} {dom : List Nat} {g : GF} (hd : dom.all (fun i => decide (i < k)) = true) : zod k (tG K dom g) := fun x σ H Q => by
 rintro ⟨ρ, d, ρ1, rel, fz, e, q⟩
 refine ⟨ρ, d, ρ1, rel, fz, e, fun σ1 rel1 c => ⟨⟨c.1, fun i hi => ?_⟩, q σ1 rel1 c⟩⟩
 rcases c.2 i with ⟨_, c2⟩ | ⟨m, _⟩
 ·exact c2
 ·have := of_decide_eq_true (List.all_eq_true.mp hd i m)
  omega
def zus (K : PySem.W.Frag) (X : Cx) (ifs : List Expr) (t : TF) : Prop := X.K = K -> PTs X ifs (tT K t)
theorem _root_.L2.PTs.weak {X : Cx} {e : List Expr} {t t' : TT} (h : PTs X e t) (w : ∀ σ H Q, t' σ H Q -> t σ H Q) : PTs X e t' := fun pins s σ H Q I q => h pins s σ H Q I (w σ H Q q)
theorem zcL {K : PySem.W.Frag} {X : Cx} : zus K X [] zdJ := fun _ => zqD.weak fun σ H Q => by
 rintro ⟨ρ, rel, q⟩
 exact q.now rel
theorem zgi {K : PySem.W.Frag} {X : Cx} {c : Expr} {t : TF} (h : PVT K X c t) : zus K X [c] t := fun hK => zqC (h hK)
section
variable {K : PySem.W.Frag} {X : Cx} {elt tg iter : Expr} {ifs : List Expr} {scope : Scope} {pos : Pos} {it : IF} {g : GF} {t : TF} {f : EF} {dom : List Nat}
theorem zp2 {k : Nat} {ix : List Nat} (nd : ix.Nodup) (hgo : dom.all (fun i => decide (i < k)) = true) (σ : L2.St) (H : Hp) (Q : VK) (q : tN K (zbY k ix it g t f) σ H Q) : zlu k ix (tI K it) (tG K dom g) (tT K t) (tV K f) σ H Q := by
 revert q
 rintro ⟨ρ0, rel0, q⟩
 obtain ⟨x, ex, q⟩ := q.bnd
 refine ⟨ρ0, rel0, ?_⟩
 rw [ex]
 intro H1 rel1 st1 J wk l hl
 obtain ⟨items, ρs⟩ := x
 have hl0 : H l = none := by
  cases e : H l with
  | none => rfl
  | some o =>
   by_cases m : MA ρ0 σ l
   ·obtain ⟨o', e', _⟩ := rel1.zbR (st1.ma.mp m)
    rw [hl] at e'; cases e'
   ·rw [st1.kp l o e m] at hl; cases hl
 have sl : zba H1 (upd H1 l (.lst [])) := zba.upd hl
 refine ⟨fun i m ys H2 => m = items.length - i /\ i <= items.length /\ H2 l = some (.lst ys) /\ ∃ ρ acc, Rel K ρ σ H2 /\ ¬ MA ρ σ l /\ zak K H2 acc ys /\ Fzn H1 H2 /\ Stp ρ0 ρ σ H H2 /\
  Good K ρ0 σ H ((zfO k ix g t f (items.drop i) ρ acc).bind fun (y : List D × En) => .ok ((PyData.list y.1 : D), y.2)) fun d ρ' H' => ∀ a, H a = none -> zbP K H' a d -> Q (.ref a) H',
  ⟨items.length, by simp, Nat.zero_le _, zau, ρs, [], rel1.same sl, fun z => ?_, by simp [zak], Fzn.of sl, st1.trans (.of sl), q⟩, ?_⟩
 ·obtain ⟨o', e', _⟩ := rel1.zbR z
  rw [hl] at e'; cases e'
 rintro i m ys H2 ⟨rfl, hi, hly, ρ, acc, rel, nma, fa, fz, st0, gd⟩
 refine ⟨hly, ?_⟩
 by_cases c : i < items.length
 ·have ed := List.drop_eq_getElem_cons c
  rw [ed] at gd
  obtain ⟨hgo', hy⟩ := wk.1 i items[i] H2 fz (List.getElem?_eq_getElem c)
  refine .inr ⟨hgo', fun x H3 y => ?_⟩
  obtain ⟨sm, fx⟩ := hy x H3 y
  have rel3 : Rel K ρ σ H3 := rel.same sm
  obtain ⟨w, ew, gd⟩ := gd.zeU
  obtain ⟨β1, e1, ew⟩ := zav (show (g items[i] (blk k ix ρ)).bind _ = .ok w from ew)
  obtain ⟨c1, ec, ew⟩ := zav ew
  refine ⟨blk k ix ρ, items[i], β1, zrr nd rel3, fx, e1, fun σ1 relβ chg => ⟨β1, relβ, ?_⟩⟩
  rw [ec]
  intro H5 rel5 st5
  have hσ : ∀ j, σ1[k + j]? = (zgg k ix σ)[k + j]? := fun j => by
   rcases chg.2 (k + j) with ⟨_, c2⟩ | ⟨m, _⟩
   ·exact c2
   ·have := of_decide_eq_true (List.all_eq_true.mp hgo _ m)
    omega
  have hβ : ∀ j, β1[k + j]? = (blk k ix ρ)[k + j]? := fun j => by
   rcases chg.2 (k + j) with ⟨c2, _⟩ | ⟨m, _⟩
   ·exact c2
   ·have := of_decide_eq_true (List.all_eq_true.mp hgo _ m)
    omega
  have hMA : ∀ a, MA β1 σ1 a -> MA (blk k ix ρ) (zgg k ix σ) a := fun a ⟨j, ⟨p, d, z1⟩, z2⟩ => by
   rcases chg.2 j with ⟨c1, c2⟩ | ⟨_, ⟨d', c1⟩, _⟩
   ·exact ⟨j, ⟨p, d, by rw [<- c1]; exact z1⟩, by rw [<- c2]; exact z2⟩
   ·rw [c1] at z1; cases z1
  have hMB : ∀ a, MA (blk k ix ρ) (zgg k ix σ) a -> MA ρ σ a := fun a ⟨j, h⟩ => by
   obtain ⟨_, i, _, _, h⟩ := zjB h
   exact ⟨i, h⟩
  have h3l : H3 l = some (.lst ys) := sm l _ hly
  have n1 : ¬ MA β1 σ1 l := fun z => nma (hMB l (hMA l z))
  have h5l : H5 l = some (.lst ys) := st5.kp l _ h3l n1
  obtain ⟨cb, β2⟩ := c1
  cases cb with
  | true =>
   refine zry ⟨β2, rel5, ?_⟩
   obtain ⟨y, ey, ew⟩ := zav (show (f β2).bind _ = .ok w from ew)
   rw [ey]
   intro H6 rel6 st6 v fv
   obtain ⟨cc, ew⟩ := zbe ew
   have n2 : ¬ MA β2 σ1 l := fun z => n1 (st5.ma.mpr z)
   have h6l : H6 l = some (.lst ys) := st6.kp l _ h5l n2
   have st : Stp β1 y.2 σ1 H3 H6 := st5.trans st6
   obtain ⟨rb, sb⟩ := zn1 (k := k) nd rel3 hσ rel6 (fun j p => by rw [<- hβ j]; exact (st.md (k + j) p).symm) (fun a o h n => st.kp a o h fun z => n (hMA a z))
   have nmb : ¬ MA (back ρ ix (y.2.drop k)) σ l := fun z => nma (sb.ma.mpr z)
   have fz6 : Fzn H2 H6 := (Fzn.of sm).trans (sb.fzn rel3)
   have fz7 : Fzn H6 (upd H6 l (.lst (ys ++ [v]))) := fun b u e s => by
    rw [zaE fun z => by subst z; rw [h6l] at e; cases e; exact s]
    exact e
   refine ⟨h6l, ?_, items.length - (i + 1), by omega, rfl, c, zau, back ρ ix (y.2.drop k), acc ++ [y.1], rb.put nmb (fun u e => by rw [h6l] at e; cases e; exact fun z => z), nmb, ?_, (fz.trans fz6).trans fz7, ⟨((st0.trans (.of sm)).trans sb).md, fun a o h n => ?_⟩, ?_⟩
   ·have := zhu cc
    have l0 := zcN
    rw [fa.len]; omega
   ·refine ((fa.mono fz6).mono fz7).app ?_
    simp only [zak]
    exact ⟨v, [], rfl, fv.mono fz7, rfl⟩
   ·rw [zaE fun z => by subst z; rw [hl0] at h; cases h]
    exact ((st0.trans (.of sm)).trans sb).kp a o h n
   ·rw [ew]
    exact gd
  | false =>
   obtain ⟨rb, sb⟩ := zn1 (k := k) nd rel3 hσ rel5 (fun j p => by rw [<- hβ j]; exact (st5.md (k + j) p).symm) (fun a o h n => st5.kp a o h fun z => n (hMA a z))
   have nmb : ¬ MA (back ρ ix (β2.drop k)) σ l := fun z => nma (sb.ma.mpr z)
   have fz6 : Fzn H2 H5 := (Fzn.of sm).trans (sb.fzn rel3)
   refine zrz ⟨items.length - (i + 1), by omega, rfl, c, h5l, back ρ ix (β2.drop k), acc, rb, nmb, fa.mono fz6, fz.trans fz6, (st0.trans (.of sm)).trans sb, ?_⟩
   rw [show zfO k ix g t f (items.drop (i + 1)) (back ρ ix (β2.drop k)) acc = .ok w from ew]
   exact gd
 ·have e : i = items.length := by omega
  subst e
  rw [List.drop_length] at gd
  exact .inl ⟨wk.2 _ H2 fz (Nat.le_refl _), gd H2 rel st0 l hl0 ⟨ys, hly, fa⟩⟩
theorem zcM (L : List Str) (ix : List Nat) (M : List Str) (hc : X.calm = true) (hk : scope.kind = .function) (hd : zfM X.env.scope scope X.N ix = true) (hM : M = L ++ ix.map fun i => X.N.getD i "") (nd : ix.Nodup) (hi : PVI K X tg iter it)
  (hg : ∀ C s₃ H₃ fp, PVG K (za8 X M scope C s₃ H₃ fp) dom tg g) (hgo : dom.all (fun i => decide (i < L.length)) = true)
  (ht : ∀ C s₃ H₃ fp, zus K (za8 X M scope C s₃ H₃ fp) ifs t) (he : ∀ C s₃ H₃ fp, PV K (za8 X M scope C s₃ H₃ fp) elt f)
  (hs : ∀ x, foldedSetIterable iter X.env x = pure x := by intro _; rfl) :
  PVN K X (.ListComp elt [⟨tg, iter, ifs, 0⟩] scope pos) (zbY L.length ix it g t f) := fun hK => by
 refine (zoT L ix M hc hk hd hM (hi hK) (fun C s₃ H₃ fp => hg C s₃ H₃ fp hK) (zk0 hgo) (fun C s₃ H₃ fp => ht C s₃ H₃ fp hK) (fun C s₃ H₃ fp => he C s₃ H₃ fp hK) hs).weak fun σ H Q q => zp2 nd hgo σ H Q q
end
end FL
namespace FL
open PySem L2 PySem.Spec
open PyProof.Rows hiding St
variable [Cs]
def spF (K : PySem.W.Frag) (ms : List Bool) (fr : Bool) (F : List D -> R (D × List D)) : Sp := fun vs H Q _ => ∃ ds, vs.length = ms.length /\ ds.length = ms.length /\ Rel K (slots ms ds) (vs.map some) H /\
 ∃ d os, F ds = .ok (d, os) /\ ∀ v H', Rel K (slots ms os) (vs.map some) H' -> (∀ a o, H a = some o -> ¬ MA (slots ms ds) (vs.map some) a -> H' a = some o) ->
  (if fr = true then ∃ a, v = .ref a /\ H a = none /\ zbP K H' a d else Fz K H' d v) -> Q v H'
def spP (K : PySem.W.Frag) (n : Nat) (fr : Bool) (G : List D -> R D) : Sp := fun vs H Q _ => ∃ ds, vs.length = n /\ zqg H /\ zak K H ds vs /\ ∃ d, G ds = .ok d /\ ∀ v H', zba H H' -> (if fr = true then ∃ a, v = .ref a /\ H a = none /\ zbP K H' a d else Fz K H' d v) -> Q v H'
theorem zcd : ∀ {ms : List Bool} {ds : List D} {i : Nat}, ds.length = ms.length -> (slots ms ds)[i]? = (ms[i]?).bind fun m => (ds[i]?).map fun d => if m = true then Sl.ow true d else Sl.val d
 | [], [], i, _ => by simp [slots]
 | [], _ :: _, i, h => by simp at h
 | _ :: _, [], i, h => by simp at h
 | m :: ms, d :: ds, 0, _ => by simp [slots]
 | m :: ms, d :: ds, i + 1, h => by
  simp only [slots, List.getElem?_cons_succ]
  exact zcd (by simpa using h)
theorem zdL : ∀ {ms : List Bool} {ds : List D}, ds.length = ms.length -> (slots ms ds).length = ms.length
 | [], [], _ => rfl
 | [], _ :: _, h => by simp at h
 | _ :: _, [], h => by simp at h
 | m :: ms, d :: ds, h => by simp only [slots, List.length_cons]; rw [zdL (by simpa using h)]
theorem zfh : ∀ {ms : List Bool} {ds : List D} {ρ : En}, ds.length = ms.length -> (outs ms ds ρ).length = ms.length
 | [], [], _, _ => rfl
 | [], _ :: _, _, h => by simp at h
 | _ :: _, [], _, h => by simp at h
 | m :: ms, d :: ds, ρ, h => by simp only [outs, List.length_cons]; rw [zfh (by simpa using h)]
theorem zkP : ∀ {ms : List Bool} {ds : List D} {ρ : En} {i : Nat} {m : Bool} {d : D}, ms[i]? = some m -> ds[i]? = some d -> (outs ms ds ρ)[i]? = some (outD m d ρ[i]?)
 | m0 :: ms, d0 :: ds, ρ, 0, m, d, h1, h2 => by
  simp at h1 h2
  subst h1; subst h2
  simp [outs, List.head?_eq_getElem?]
 | m0 :: ms, d0 :: ds, ρ, i + 1, m, d, h1, h2 => by
  simp at h1 h2
  simp only [outs, List.getElem?_cons_succ]
  rw [zkP h1 h2, List.getElem?_tail]
 | [], _, _, _, _, _, h, _ => by simp at h
 | _ :: _, [], _, _, _, _, _, h => by simp at h
section
variable {K : PySem.W.Frag} {ρ : En} {σ : L2.St} {H : Hp}
theorem Rel.pad (r : Rel K ρ σ H) (n : Nat) : Rel K (ρ ++ List.replicate n .no) (σ ++ List.replicate n none) H := by
 have w : ∀ i a, At (ρ ++ List.replicate n .no) (σ ++ List.replicate n none) i a -> At ρ σ i a := fun i a ⟨⟨p, d, e1⟩, e2⟩ => by
  by_cases c : i < ρ.length
  ·rw [List.getElem?_append_left c] at e1
   rw [List.getElem?_append_left (by rw [<- r.len]; exact c)] at e2
   exact ⟨⟨p, d, e1⟩, e2⟩
  ·rw [List.getElem?_append_right (by omega), List.getElem?_replicate] at e1
   split at e1 <;> cases e1
 refine ⟨by simp [r.len], fun i x v e1 e2 => ?_, fun i j a h1 h2 => r.sep i j a (w i a h1) (w j a h2), r.cst⟩
 by_cases c : i < ρ.length
 ·rw [List.getElem?_append_left c] at e1
  rw [List.getElem?_append_left (by rw [<- r.len]; exact c)] at e2
  exact r.ok i x v e1 e2
 ·rw [List.getElem?_append_right (by omega), List.getElem?_replicate] at e1
  split at e1
  ·cases e1; trivial
  ·cases e1
theorem zsv {n : Nat} {a : Addr} (hl : ρ.length = σ.length) : MA (ρ ++ List.replicate n .no) (σ ++ List.replicate n none) a ↔ MA ρ σ a := by
 constructor
 ·rintro ⟨i, ⟨p, d, e1⟩, e2⟩
  by_cases c : i < ρ.length
  ·rw [List.getElem?_append_left c] at e1
   rw [List.getElem?_append_left (by rw [<- hl]; exact c)] at e2
   exact ⟨i, ⟨p, d, e1⟩, e2⟩
  ·rw [List.getElem?_append_right (by omega), List.getElem?_replicate] at e1
   split at e1 <;> cases e1
 ·rintro ⟨i, ⟨p, d, e1⟩, e2⟩
  have c := (List.getElem?_eq_some_iff.mp e1).1
  exact ⟨i, ⟨p, d, by rw [List.getElem?_append_left c]; exact e1⟩, by rw [List.getElem?_append_left (by rw [<- hl]; exact c)]; exact e2⟩
end
theorem zef {ms : List Bool} {ds : List D} {i : Nat} {p : Bool} {d : D} (hl : ds.length = ms.length) (e : (slots ms ds)[i]? = some (.ow p d)) : p = true /\ ms[i]? = some true /\ ds[i]? = some d := by
 rw [zcd hl] at e
 cases em : ms[i]? with
 | none => rw [em] at e; cases e
 | some m =>
  cases ed : ds[i]? with
  | none => rw [em, ed] at e; cases e
  | some d' =>
   rw [em, ed] at e
   cases m with
   | true => simp at e; exact ⟨e.1, rfl, by rw [e.2]⟩
   | false => simp at e
section
variable {P : Program} {w : World} {K : PySem.W.Frag} {mg : Str -> Option Value} {base : Heap}
theorem znF {x : Str} {st : Stmt} {f : Addr} {fd : FuncData} {N ps : List Str} {k : Nat} {b : SF} (ms : List Bool) (fr : Bool) (h : Fun K x x st f fd) (S : zaz N ps (zao st)) (hps : ps.length = ms.length) (hpN : ps.length <= N.length)
  (hb : ∀ (cdv : Value) (A : Around) (outer : List Env) (s : Shared) (H : Hp) (E : XK), zeF k (A.deeper (envOfC x (zao st) s.heap.objs.size f cdv)) -> zma K (zp8 (CXe P w) P w K mg base N x (zao st) f cdv A outer s H E) (zcD st) b) :
  zh1 P w K mg base (CXe P w) (k + 1) f fd ps (spF K ms fr (run ms fr N.length b)) := by
 refine h.okE S (fun vs H Q E ⟨ds, e, _⟩ => by rw [e, hps]) fun cdv A outer s H vs Q E hr hq => ?_
 obtain ⟨ds, hv, hd, rel, d, os, hF, q⟩ := hq
 have hst : L2.start N vs = vs.map some ++ List.replicate (N.length - ds.length) none := by unfold L2.start; rw [hv, hd]
 refine ⟨tS K ⟨H, L2.start N vs, slots ms ds ++ List.replicate (N.length - ds.length) .no⟩ b, hb cdv A outer s H E hr rfl _, slots ms ds ++ List.replicate (N.length - ds.length) .no, ?_, ?_⟩
 ·have tru : ∀ (i : Nat) p d, (slots ms ds ++ List.replicate (N.length - ds.length) .no)[i]? = some (.ow p d) -> p = true := fun i p d e => by
   by_cases c : i < (slots ms ds).length
   ·rw [List.getElem?_append_left c] at e
    exact (zef hd e).1
   ·rw [List.getElem?_append_right (by omega), List.getElem?_replicate] at e
    split at e <;> cases e
  refine ⟨?_, fun a o e _ => e, fun i a d e _ => absurd (tru i false d e) Bool.false_ne_true, fun i => Iff.rfl, fun i d e => rfl, tru⟩
  rw [hst]
  exact rel.pad _
 ·unfold run at hF
  rw [if_pos hd] at hF
  obtain ⟨y, ey, hF⟩ := zav hF
  rw [ey]
  have fin : ∀ (ρ' : En) (σ' : L2.St) (H' : Hp), zeu K ⟨H, L2.start N vs, slots ms ds ++ List.replicate (N.length - ds.length) .no⟩ ρ' σ' H' ->
    Rel K (slots ms (outs ms ds ρ')) (vs.map some) H' /\ (∀ a o, H a = some o -> ¬ MA (slots ms ds) (vs.map some) a -> H' a = some o) := fun ρ' σ' H' r => by
   have hl0 : (slots ms ds).length = (vs.map some).length := by rw [zdL hd, List.length_map, hv]
   have kp : ∀ a o, H a = some o -> ¬ MA (slots ms ds) (vs.map some) a -> H' a = some o := fun a o e n => r.keep a o e fun z => n (by
    have z' : MA (slots ms ds ++ List.replicate (N.length - ds.length) .no) (L2.start N vs) a := z
    rw [hst] at z'
    exact (zsv hl0).mp z')
   have fz : Fzn H H' := fun a o e sy => kp a o e fun m => by
    obtain ⟨o', e', ow⟩ := rel.zbR m
    rw [e] at e'
    cases e'
    exact ow.zez sy
   refine ⟨?_, kp⟩
   have pinned : ∀ (i : Nat) d0, ms[i]? = some true -> ds[i]? = some d0 -> ∃ d', ρ'[i]? = some (.ow true d') /\ σ'[i]? = (vs.map some)[i]? := fun i d0 em ed => by
    have hi : i < (slots ms ds).length := by rw [zdL hd]; exact (List.getElem?_eq_some_iff.mp em).1
    have e0 : (slots ms ds ++ List.replicate (N.length - ds.length) .no)[i]? = some (.ow true d0) := by
     rw [List.getElem?_append_left hi, zcd hd, em, ed]; rfl
    obtain ⟨d', e'⟩ := (r.pin i).mpr ⟨d0, e0⟩
    refine ⟨d', e', ?_⟩
    rw [r.fix i d' e']
    show (L2.start N vs)[i]? = _
    rw [hst, List.getElem?_append_left (by rw [<- hl0]; exact hi)]
   have ho : (outs ms ds ρ').length = ms.length := zfh hd
   refine ⟨by rw [zdL ho, List.length_map, hv], fun i x v e1 e2 => ?_, fun i j a h1 h2 => ?_, rel.cst.mono fz⟩
   ·rw [zcd ho] at e1
    cases em : ms[i]? with
    | none => rw [em] at e1; cases e1
    | some m =>
     have hi : i < ds.length := by rw [hd]; exact (List.getElem?_eq_some_iff.mp em).1
     have ed := List.getElem?_eq_getElem hi
     rw [em, zkP em ed] at e1
     cases m with
     | true =>
      obtain ⟨d', e3, e4⟩ := pinned i _ em ed
      rw [e3] at e1
      cases e1
      rw [<- e4] at e2
      exact r.rel.ok i _ _ e3 e2
     | false =>
      cases e1
      have e5 : (slots ms ds)[i]? = some (.val ds[i]) := by rw [zcd hd, em, ed]; rfl
      exact (rel.ok i _ _ e5 e2).mono fz fun a _ ⟨p, d', z⟩ => nomatch z
   ·have w : ∀ i a, At (slots ms (outs ms ds ρ')) (vs.map some) i a -> At (slots ms ds) (vs.map some) i a := fun i a ⟨⟨p, d0, e1⟩, e2⟩ => by
     obtain ⟨rfl, em, _⟩ := zef ho e1
     have hi : i < ds.length := by rw [hd]; exact (List.getElem?_eq_some_iff.mp em).1
     have ed := List.getElem?_eq_getElem hi
     exact ⟨⟨true, ds[i], by rw [zcd hd, em, ed]; rfl⟩, e2⟩
    exact rel.sep i j a (w i a h1) (w j a h2)
  obtain ⟨fl, ρ'⟩ := y
  cases fr with
  | false =>
   cases fl with
   | rt dr =>
    cases hF
    exact fun v σ' H' r fz => q v H' (fin ρ' σ' H' r).1 (fin ρ' σ' H' r).2 fz
   | nx =>
    cases hF
    exact fun σ' H' r fz => q .non H' (fin ρ' σ' H' r).1 (fin ρ' σ' H' r).2 (by show Fz K H' .none .non; simp [Fz])
   | _ => cases hF
  | true =>
   cases fl with
   | rf dr =>
    cases hF
    exact fun a σ' H' r ha m => q (.ref a) H' (fin ρ' σ' H' r).1 (fin ρ' σ' H' r).2 ⟨a, rfl, ha, m⟩
   | _ => cases hF
theorem zaZ {x : Str} {st : Stmt} {N ps : List Str} {k : Nat} {b : SF} (ms : List Bool) (fr : Bool) (h : Has K mg x st) (S : zaz N ps (zao st)) (hps : ps.length = ms.length) (hpN : ps.length <= N.length)
  (hbi : ∀ (kV doc pm : Value) (an : Option Addr) (cdv ct : Value) (us : List Value), us.length = ps.length -> bindArgs (PySem.W.fnOf x x (zd5 st) (zcD st) (zao st) .none kV doc pm an cdv ct) ⟨us, []⟩ = pure (ps.zip us))
  (hb : ∀ (f : Addr) (cdv : Value) (A : Around) (outer : List Env) (s : Shared) (H : Hp) (E : XK), zeF k (A.deeper (envOfC x (zao st) s.heap.objs.size f cdv)) -> zma K (zp8 (CXe P w) P w K mg base N x (zao st) f cdv A outer s H E) (zcD st) b) :
  Callee P w K mg base x (k + 1) ps (spF K ms fr (run ms fr N.length b)) := by
 obtain ⟨f, fd, hm, F⟩ := h
 exact ⟨f, fd, hm, F.kp, F.binds hbi, znF ms fr F S hps hpN (hb f)⟩
end
end FL
namespace FL
open PySem L2 PySem.Spec
open PyProof.Rows hiding St
variable [Cs]
theorem zeI : ∀ {n : Nat} {ds : List D}, ds.length = n -> slots (List.replicate n false) ds = ds.map Sl.val
 | 0, [], _ => rfl
 | n + 1, d :: ds, h => by
  simp only [List.replicate_succ, slots, List.map_cons]
  rw [zeI (by simpa using h)]
  rfl
 | 0, _ :: _, h => by simp at h
 | n + 1, [], h => by simp at h
theorem zou {K : PySem.W.Frag} {H : Hp} : ∀ {ds : List D} {vs : List V}, zqg H -> zak K H ds vs -> Rel K (ds.map Sl.val) (vs.map some) H := fun {ds vs} cst f => by
 refine ⟨by simp [f.len], fun i x v e1 e2 => ?_, fun i j a ⟨⟨p, d, e⟩, _⟩ => ?_, cst⟩
 ·rw [List.getElem?_map] at e1 e2
  cases ed : ds[i]? with
  | none => rw [ed] at e1; cases e1
  | some d =>
   obtain ⟨u, eu, fu⟩ := f.get ed
   rw [ed] at e1
   rw [eu] at e2
   cases e1; cases e2
   exact fu
 ·rw [List.getElem?_map] at e
  cases ed : ds[i]? with
  | none => rw [ed] at e; cases e
  | some d => rw [ed] at e; cases e
theorem zlG {ds : List D} {σ : L2.St} {a : Addr} : ¬ MA (ds.map Sl.val) σ a := by
 rintro ⟨i, ⟨p, d, e⟩, _⟩
 rw [List.getElem?_map] at e
 cases ed : ds[i]? with
 | none => rw [ed] at e; cases e
 | some d => rw [ed] at e; cases e
section
variable {P : Program} {w : World} {K : PySem.W.Frag} {mg : Str -> Option Value} {base : Heap} {x : Str} {k : Nat} {ps : List Str}
theorem zh1.pure {f : Addr} {fd : FuncData} {n m : Nat} {fr : Bool} {b : SF} (F : zh1 P w K mg base (CXe P w) k f fd ps (spF K (List.replicate n false) fr (run (List.replicate n false) fr m b))) : zh1 P w K mg base (CXe P w) k f fd ps (spP K n fr (zbo fr n m b)) := by
 refine F.imp fun vs H Q E => ?_
 rintro ⟨ds, hv, cst, f, d, e, q⟩
 have hd : ds.length = n := by rw [<- f.len, hv]
 obtain ⟨y, ey, e⟩ := zav e
 cases e
 refine ⟨ds, by simpa using hv, by simpa using hd, by rw [zeI hd]; exact zou cst f, y.1, y.2, by rw [ey], fun v H' r kp fin => q v H' (fun a o e => kp a o e (by rw [zeI hd]; exact zlG)) fin⟩
theorem Callee.pure {n m : Nat} {fr : Bool} {b : SF} (c : Callee P w K mg base x k ps (spF K (List.replicate n false) fr (run (List.replicate n false) fr m b))) : Callee P w K mg base x k ps (spP K n fr (zbo fr n m b)) := by
 obtain ⟨f, fd, h1, h2, h3, F⟩ := c
 exact ⟨f, fd, h1, h2, h3, zh1.pure F⟩
end
def zue (fa : AF) (n : Nat) : Prop := ∀ ρ y, fa ρ = .ok y -> y.1.length = n
theorem zaq : zue zar 0 := fun ρ y h => by cases h; rfl
theorem zah {f : EF} {a : AF} {n : Nat} (h : zue a n) : zue (zac f a) (n + 1) := fun ρ y e => by
 obtain ⟨x, _, e⟩ := zav (show (f ρ).bind _ = .ok y from e)
 obtain ⟨z, e2, e⟩ := zav e
 cases e
 simp [h _ _ e2]
section
variable {K : PySem.W.Frag} {X : Cx} {k j n : Nat} {ps : List Str} {E : XK} {x : Str} {p pos : Pos} {e : Expr} {es : List Expr} {G : List D -> R D} {fa : AF}
theorem zay (c : Callee X.prog X.w X.K X.mg X.base x k ps (spP X.K n false G)) (hr : zeF j X.A) (hg : Gl X x) (hx : Passes (CXe X.prog X.w) X E) (ha : PVA K X (e :: es) fa) (hl : zue fa n) (hj : k <= j := by decide) (hdb : (x == ("__debug__" : Str)) = false := by decide)
  (he : starEach (e :: es) X.env = (false, eval e X.env) :: starEach es X.env := by rfl) (hpl : (backTo pos (starEach es X.env)).any (·.1) = false := by rfl) : PV K X (.Call (.Name x p) (e :: es) [] pos) (zal G fa) := fun hK => by
 subst hK
 refine (zgF c hr hg hx (ha rfl) hj hdb he hpl).weak fun σ H Q => ?_
 rintro ⟨ρ, rel, q⟩
 obtain ⟨y, ey, q0⟩ := q.bnd
 have hy := hl ρ y ey
 refine ⟨ρ, rel, ?_⟩
 rw [ey]
 intro H1 rel1 st1 vs fs
 obtain ⟨d, ed, q2⟩ := (q0.step st1).zeU
 rw [List.append_nil]
 exact ⟨y.1, by rw [fs.len, hy], rel1.cst, fs, d, ed, fun v H' s fin => q2.new rel1 s v fin⟩
theorem zcq (c : Callee X.prog X.w X.K X.mg X.base x k ps (spP X.K n true G)) (hr : zeF j X.A) (hg : Gl X x) (hx : Passes (CXe X.prog X.w) X E) (ha : PVA K X (e :: es) fa) (hl : zue fa n) (hj : k <= j := by decide) (hdb : (x == ("__debug__" : Str)) = false := by decide)
  (he : starEach (e :: es) X.env = (false, eval e X.env) :: starEach es X.env := by rfl) (hpl : (backTo pos (starEach es X.env)).any (·.1) = false := by rfl) : PVN K X (.Call (.Name x p) (e :: es) [] pos) (zal G fa) := fun hK => by
 subst hK
 refine (zgF c hr hg hx (ha rfl) hj hdb he hpl).weak fun σ H Q => ?_
 rintro ⟨ρ, rel, q⟩
 obtain ⟨y, ey, q0⟩ := q.bnd
 have hy := hl ρ y ey
 refine ⟨ρ, rel, ?_⟩
 rw [ey]
 intro H1 rel1 st1 vs fs
 obtain ⟨d, ed, q2⟩ := (q0.step st1).zeU
 rw [List.append_nil]
 refine ⟨y.1, by rw [fs.len, hy], rel1.cst, fs, d, ed, fun v H' s fin => ?_⟩
 obtain ⟨a, rfl, ha, m⟩ := fin
 refine q2.new rel1 s a ?_ m
 cases e0 : H a with
 | none => rfl
 | some o =>
  by_cases mm : MA ρ σ a
  ·obtain ⟨o', e', _⟩ := rel1.zbR (st1.ma.mp mm)
   rw [ha] at e'; cases e'
  ·rw [st1.kp a o e0 mm] at ha; cases ha
def ziV (K : PySem.W.Frag) (σ : L2.St) (H₀ H : Hp) : List Itm -> List V -> Prop
 | [], vs => vs = []
 | .vd d :: r, vs => ∃ v t, vs = v :: t /\ Fz K H d v /\ ziV K σ H₀ H r t
 | .mi i :: r, vs => ∃ v t, vs = v :: t /\ σ[i]? = some (some v) /\ ziV K σ H₀ H r t
 | .td d :: r, vs => ∃ a t, vs = .ref a :: t /\ zbP K H a d /\ H₀ a = none /\ ziV K σ H₀ H r t
theorem Stp.old {ρ ρ1 : En} {σ : L2.St} {H H1 : Hp} (st : Stp ρ ρ1 σ H H1) (rel1 : Rel K ρ1 σ H1) {a : Addr} (ha : H1 a = none) : H a = none := by
 cases e0 : H a with
 | none => rfl
 | some o =>
  by_cases mm : MA ρ σ a
  ·obtain ⟨o', e', _⟩ := rel1.zbR (st.ma.mp mm)
   rw [ha] at e'; cases e'
  ·rw [st.kp a o e0 mm] at ha; cases ha
theorem ziV.back {σ : L2.St} {H H1 H2 : Hp} (h : ∀ a, H1 a = none -> H a = none) : ∀ {l : List Itm} {vs : List V}, ziV K σ H1 H2 l vs -> ziV K σ H H2 l vs
 | [], vs, z => z
 | .vd d :: r, vs, z => by
  obtain ⟨v, t, e, f, z⟩ := z
  exact ⟨v, t, e, f, ziV.back h z⟩
 | .mi i :: r, vs, z => by
  obtain ⟨v, t, e, f, z⟩ := z
  exact ⟨v, t, e, f, ziV.back h z⟩
 | .td d :: r, vs, z => by
  obtain ⟨v, t, e, f, g, z⟩ := z
  exact ⟨v, t, e, f, h _ g, ziV.back h z⟩
def tAr (K : PySem.W.Frag) (a : List Ar) : TA := fun σ H Q => ∃ ρ, Rel K ρ σ H /\ Good K ρ σ H (zl9 a ρ) fun l _ H' => ∀ vs, ziV K σ H H' l vs -> Q vs H'
def zqf (K : PySem.W.Frag) (X : Cx) (es : List Expr) (a : List Ar) : Prop := X.K = K -> PA X es (tAr K a)
theorem zdm : zqf K X [] [] := fun _ => zjc.weak fun σ H Q => by
 rintro ⟨ρ, rel, q⟩
 exact q.now rel [] rfl
theorem zfg {f : EF} {a : List Ar} (he : PV K X e f) (hr : zqf K X es a) (hs : starEach (e :: es) X.env = (false, eval e X.env) :: starEach es X.env := by rfl) : zqf K X (e :: es) (.v f :: a) := fun hK => (zdo (he hK) (hr hK) hs).weak fun σ H Q => by
 rintro ⟨ρ, rel, q⟩
 refine goV rel q fun dx ρ1 x H1 rel1 st1 fx q1 => ?_
 obtain ⟨y, ey, q2⟩ := q1.bnd
 refine ⟨ρ1, rel1, ?_⟩
 rw [ey]
 exact fun H2 rel2 st2 vs it => (q2.step st2).now rel2 _ ⟨x, vs, rfl, fx.mono (st2.fzn rel1), it.back fun a ha => st1.old rel1 ha⟩
theorem zhJ {a : List Ar} {y : Str} {py : Pos} (i : Nat) (ha : PE X (.Name y py) (zkF i)) (hr : zqf K X es a) (hs : starEach (.Name y py :: es) X.env = (false, eval (.Name y py) X.env) :: starEach es X.env := by rfl) : zqf K X (.Name y py :: es) (.m i :: a) := fun hK => (zdo ha (hr hK) hs).weak fun σ H Q => by
 rintro ⟨ρ, rel, q⟩
 obtain ⟨d, ed, q1⟩ := (show Good K ρ σ H ((zbf ρ i).bind fun _ => (zl9 a ρ).bind fun y => .ok (.mi i :: y.1, y.2)) _ from q).zeU
 obtain ⟨ad, at0, _⟩ := rel.zlJ ed
 obtain ⟨y, ey, q2⟩ := q1.bnd
 refine ⟨.ref ad, at0.2, ρ, rel, ?_⟩
 rw [ey]
 exact fun H2 rel2 st2 vs it => (q2.step st2).now rel2 _ ⟨.ref ad, vs, rfl, at0.2, it⟩
theorem zr1 {f : EF} {a : List Ar} (he : PVN K X e f) (hr : zqf K X es a) (hs : starEach (e :: es) X.env = (false, eval e X.env) :: starEach es X.env := by rfl) : zqf K X (e :: es) (.t f :: a) := fun hK => (zdo (he hK) (hr hK) hs).weak fun σ H Q => by
 rintro ⟨ρ, rel, q⟩
 obtain ⟨x, ex, q0⟩ := (show Good K ρ σ H ((f ρ).bind fun x => (zl9 a x.2).bind fun y => .ok (.td x.1 :: y.1, y.2)) _ from q).bnd
 refine ⟨ρ, rel, ?_⟩
 rw [ex]
 intro H1 rel1 st1 ad had m
 obtain ⟨y, ey, q2⟩ := q0.bnd
 refine ⟨x.2, rel1, ?_⟩
 rw [ey]
 intro H2 rel2 st2 vs it
 have n1 : ¬ MA x.2 σ ad := fun z => by
  obtain ⟨o', e', _⟩ := rel.zbR (st1.ma.mpr z)
  rw [had] at e'; cases e'
 obtain ⟨u, eu, _⟩ := m.own
 have m2 : zbP K H2 ad x.1 := m.mono (st2.fzn rel1) (by rw [eu]; exact st2.kp ad u eu n1)
 exact (q2.step (st1.trans st2)).now rel2 _ ⟨ad, vs, rfl, m2, had, it.back fun a ha => st1.old rel1 ha⟩
def arM : List Ar -> List Bool
 | [] => []
 | .v _ :: r => false :: arM r
 | .m _ :: r => true :: arM r
 | .t _ :: r => true :: arM r
def arI : List Ar -> List Nat
 | [] => []
 | .v _ :: r => arI r
 | .m i :: r => i :: arI r
 | .t _ :: r => arI r
def arT : List Ar -> Nat
 | [] => 0
 | .v _ :: r => arT r
 | .m _ :: r => arT r
 | .t _ :: r => arT r + 1
def isR : Itm -> Bool
 | .vd _ => false
 | _ => true
def zrJ : Itm -> Option Nat
 | .mi i => some i
 | _ => none
def isT : Itm -> Bool
 | .td _ => true
 | _ => false
theorem zes : ∀ {a : List Ar} {ρ : En} {y : List Itm × En}, zl9 a ρ = .ok y -> y.1.map isR = arM a /\ y.1.filterMap zrJ = arI a /\ y.1.countP isT = arT a
 | [], ρ, y, h => by cases h; exact ⟨rfl, rfl, rfl⟩
 | .v f :: r, ρ, y, h => by
  obtain ⟨x, _, h⟩ := zav (show (f ρ).bind _ = .ok y from h)
  obtain ⟨z, e, h⟩ := zav h
  cases h
  obtain ⟨h1, h2, h3⟩ := zes e
  simp only [List.map_cons, List.filterMap_cons]
  exact ⟨by rw [h1]; rfl, h2, by rw [List.countP_cons_of_neg (by simp [isT])]; exact h3⟩
 | .m i :: r, ρ, y, h => by
  obtain ⟨_, _, h⟩ := zav (show (zbf ρ i).bind _ = .ok y from h)
  obtain ⟨z, e, h⟩ := zav h
  cases h
  obtain ⟨h1, h2, h3⟩ := zes e
  simp only [List.map_cons, List.filterMap_cons]
  exact ⟨by rw [h1]; rfl, by rw [h2]; rfl, by rw [List.countP_cons_of_neg (by simp [isT])]; exact h3⟩
 | .t f :: r, ρ, y, h => by
  obtain ⟨x, _, h⟩ := zav (show (f ρ).bind _ = .ok y from h)
  obtain ⟨z, e, h⟩ := zav h
  cases h
  obtain ⟨h1, h2, h3⟩ := zes e
  simp only [List.map_cons, List.filterMap_cons]
  exact ⟨by rw [h1]; rfl, h2, by rw [List.countP_cons_of_pos (by simp [isT]), h3]; rfl⟩
theorem zer {ρ : En} : ∀ {l : List Itm} {ds : List D}, zlm ρ l = .ok ds -> ds.length = l.length /\ ∀ (j : Nat) z, l[j]? = some z -> ∃ d, ds[j]? = some d /\ (match z with | .vd d' => d = d' | .mi i => zbf ρ i = .ok d | .td d' => d = d')
 | [], ds, h => by cases h; exact ⟨rfl, fun j z e => by simp at e⟩
 | .vd d :: r, ds, h => by
  obtain ⟨ds', e, h⟩ := zav (show (zlm ρ r).bind _ = .ok ds from h)
  cases h
  obtain ⟨h1, h2⟩ := zer e
  refine ⟨by simp [h1], fun j z ez => ?_⟩
  cases j with
  | zero => simp at ez; subst ez; exact ⟨d, rfl, rfl⟩
  | succ j => obtain ⟨d', h3, h4⟩ := h2 j z (by simpa using ez); exact ⟨d', by simpa using h3, h4⟩
 | .td d :: r, ds, h => by
  obtain ⟨ds', e, h⟩ := zav (show (zlm ρ r).bind _ = .ok ds from h)
  cases h
  obtain ⟨h1, h2⟩ := zer e
  refine ⟨by simp [h1], fun j z ez => ?_⟩
  cases j with
  | zero => simp at ez; subst ez; exact ⟨d, rfl, rfl⟩
  | succ j => obtain ⟨d', h3, h4⟩ := h2 j z (by simpa using ez); exact ⟨d', by simpa using h3, h4⟩
 | .mi i :: r, ds, h => by
  obtain ⟨d, e0, h⟩ := zav (show (zbf ρ i).bind _ = .ok ds from h)
  obtain ⟨ds', e, h⟩ := zav h
  cases h
  obtain ⟨h1, h2⟩ := zer e
  refine ⟨by simp [h1], fun j z ez => ?_⟩
  cases j with
  | zero => simp at ez; subst ez; exact ⟨d, rfl, e0⟩
  | succ j => obtain ⟨d', h3, h4⟩ := h2 j z (by simpa using ez); exact ⟨d', by simpa using h3, h4⟩
theorem ziV.get {σ : L2.St} {H₀ H : Hp} : ∀ {l : List Itm} {vs : List V}, ziV K σ H₀ H l vs -> vs.length = l.length /\ ∀ (j : Nat) z, l[j]? = some z -> ∃ v, vs[j]? = some v /\ (match z with | .vd d => Fz K H d v | .mi i => σ[i]? = some (some v) | .td d => ∃ a, v = .ref a /\ zbP K H a d /\ H₀ a = none)
 | [], vs, h => by cases (show vs = [] from h); exact ⟨rfl, fun j z e => by simp at e⟩
 | .vd d :: r, vs, h => by
  obtain ⟨v, t, rfl, f, h⟩ := h
  obtain ⟨h1, h2⟩ := ziV.get h
  refine ⟨by simp [h1], fun j z ez => ?_⟩
  cases j with
  | zero => simp at ez; subst ez; exact ⟨v, rfl, f⟩
  | succ j => obtain ⟨d', h3, h4⟩ := h2 j z (by simpa using ez); exact ⟨d', by simpa using h3, h4⟩
 | .mi i :: r, vs, h => by
  obtain ⟨v, t, rfl, f, h⟩ := h
  obtain ⟨h1, h2⟩ := ziV.get h
  refine ⟨by simp [h1], fun j z ez => ?_⟩
  cases j with
  | zero => simp at ez; subst ez; exact ⟨v, rfl, f⟩
  | succ j => obtain ⟨d', h3, h4⟩ := h2 j z (by simpa using ez); exact ⟨d', by simpa using h3, h4⟩
 | .td d :: r, vs, h => by
  obtain ⟨v, t, rfl, f, g, h⟩ := h
  obtain ⟨h1, h2⟩ := ziV.get h
  refine ⟨by simp [h1], fun j z ez => ?_⟩
  cases j with
  | zero => simp at ez; subst ez; exact ⟨_, rfl, v, rfl, f, g⟩
  | succ j => obtain ⟨d', h3, h4⟩ := h2 j z (by simpa using ez); exact ⟨d', by simpa using h3, h4⟩
end
end FL
namespace FL
open PySem L2 PySem.Spec
open PyProof.Rows hiding St
variable [Cs]
section
variable {K : PySem.W.Frag} {ρ : En} {σ : L2.St} {H H' : Hp}
theorem zsj {m : List (Nat × Sl)} (r : Rel K ρ σ H) (hA : ∀ i c, m.lookup i = some c -> ∀ a, At ρ σ i a -> ∃ q d, c = .ow q d /\ zbP K H' a d) (hB : ∀ i a, At ρ σ i a -> m.lookup i = none -> H' a = H a) (fz : Fzn H H') :
  Rel K (bkL m 0 ρ) σ H' /\ ∀ (i : Nat) p, (∃ d, ρ[i]? = some (.ow p d)) ↔ ∃ d, (bkL m 0 ρ)[i]? = some (.ow p d) := by
 have gt : ∀ i : Nat, (bkL m 0 ρ)[i]? = (ρ[i]?).map (bk1 m i) := fun i => by rw [zko, Nat.zero_add]
 have mdB : ∀ (i : Nat) p, (∃ d, ρ[i]? = some (.ow p d)) ↔ ∃ d, (bkL m 0 ρ)[i]? = some (.ow p d) := fun i p => by
  rw [gt]
  constructor
  ·rintro ⟨d, e⟩
   rw [e]
   simp only [Option.map_some, bk1]
   split
   ·rename_i p' d1 q' d2 h1 h2; cases h1; exact ⟨_, rfl⟩
   ·exact ⟨_, rfl⟩
  ·rintro ⟨d, e⟩
   cases er : ρ[i]? with
   | none => rw [er] at e; cases e
   | some x =>
    rw [er] at e
    simp only [Option.map_some, Option.some.injEq, bk1] at e
    split at e
    ·cases e; exact ⟨_, rfl⟩
    ·subst e; exact ⟨_, rfl⟩
 have atB : ∀ i a, At (bkL m 0 ρ) σ i a -> At ρ σ i a := fun i a ⟨⟨p, d, e1⟩, e2⟩ => ⟨⟨p, (mdB i p).mpr ⟨d, e1⟩⟩, e2⟩
 refine ⟨⟨by rw [zkn]; exact r.len, fun i x v e1 e2 => ?_, fun i j a h1 h2 => r.sep i j a (atB i a h1) (atB j a h2), r.cst.mono fz⟩, mdB⟩
 rw [gt] at e1
 cases er : ρ[i]? with
 | none => rw [er] at e1; cases e1
 | some y =>
  rw [er] at e1
  simp only [Option.map_some, Option.some.injEq] at e1
  have o := r.ok i y v er e2
  cases y with
  | no => simp only [bk1] at e1; subst e1; trivial
  | val d =>
   simp only [bk1] at e1
   subst e1
   exact o.mono fz fun a _ ⟨p, d', z⟩ => nomatch z
  | ow p d =>
   cases v with
   | none => exact o.elim
   | some v =>
    cases v with
    | ref a =>
     have ai : At ρ σ i a := ⟨⟨p, d, er⟩, e2⟩
     cases el : m.lookup i with
     | none =>
      simp only [bk1, el] at e1
      subst e1
      exact o.mono fz fun b e3 _ => by cases e3; exact hB i a ai el
     | some c =>
      obtain ⟨q, d', rfl, mm⟩ := hA i c el a ai
      simp only [bk1, el] at e1
      subst e1
      exact mm
    | _ => exact o.elim
end
theorem zpQ : ∀ {l : List Itm} {j j' i : Nat}, (l.filterMap zrJ).Nodup -> l[j]? = some (.mi i) -> l[j']? = some (.mi i) -> j = j'
 | [], j, j', i, _, h, _ => by simp at h
 | z :: r, j, j', i, nd, h1, h2 => by
  have rest : (r.filterMap zrJ).Nodup := by
   rw [List.filterMap_cons] at nd
   cases z with
   | mi k => exact (List.nodup_cons.mp nd).2
   | _ => exact nd
  have mem : ∀ {j : Nat}, r[j]? = some (.mi i) -> i ∈ r.filterMap zrJ := fun h => List.mem_filterMap.mpr ⟨.mi i, List.mem_of_getElem? h, rfl⟩
  have hd : z = .mi i -> ∀ {j : Nat}, r[j]? ≠ some (.mi i) := fun e j h => by
   subst e
   rw [List.filterMap_cons] at nd
   exact (List.nodup_cons.mp nd).1 (mem h)
  cases j with
  | zero =>
   cases j' with
   | zero => rfl
   | succ j' => exact absurd (by simpa using h2) (hd (by simpa using h1) (j := j'))
  | succ j =>
   cases j' with
   | zero => exact absurd (by simpa using h1) (hd (by simpa using h2) (j := j))
   | succ j' =>
    have := zpQ (l := r) rest (by simpa using h1) (by simpa using h2)
    rw [this]
theorem zpC : ∀ {l : List Itm} {j j' : Nat} {d d' : D}, l.countP isT <= 1 -> l[j]? = some (.td d) -> l[j']? = some (.td d') -> j = j'
 | [], j, j', d, d', _, h, _ => by simp at h
 | z :: r, j, j', d, d', c, h1, h2 => by
  have rest : r.countP isT <= 1 := by
   rw [List.countP_cons] at c; omega
  have none : isT z = true -> ∀ {j : Nat} {d : D}, r[j]? ≠ some (.td d) := fun e j d h => by
   rw [List.countP_cons, if_pos e] at c
   have : 0 < r.countP isT := List.countP_pos_iff.mpr ⟨_, List.mem_of_getElem? h, rfl⟩
   omega
  cases j with
  | zero =>
   cases j' with
   | zero => rfl
   | succ j' =>
    have e : z = .td d := by simpa using h1
    subst e
    exact absurd (by simpa using h2) (none rfl (j := j'))
  | succ j =>
   cases j' with
   | zero =>
    have e : z = .td d' := by simpa using h2
    subst e
    exact absurd (by simpa using h1) (none rfl (j := j))
   | succ j' =>
    have := zpC (l := r) rest (by simpa using h1) (by simpa using h2)
    rw [this]
theorem zdy : ∀ {l : List Itm} {os : List D} {i : Nat} {c : Sl}, (zjK l os).lookup i = some c -> ∃ (j : Nat) (d : D), l[j]? = some (.mi i) /\ os[j]? = some d /\ c = .ow true d
 | [], os, i, c, h => by simp [zjK] at h
 | z :: r, [], i, c, h => by cases z <;> simp [zjK] at h
 | .vd d :: r, o :: os, i, c, h => by
  obtain ⟨j, d', h1, h2, h3⟩ := zdy (l := r) (os := os) (by simpa [zjK] using h)
  exact ⟨j + 1, d', by simpa using h1, by simpa using h2, h3⟩
 | .td d :: r, o :: os, i, c, h => by
  obtain ⟨j, d', h1, h2, h3⟩ := zdy (l := r) (os := os) (by simpa [zjK] using h)
  exact ⟨j + 1, d', by simpa using h1, by simpa using h2, h3⟩
 | .mi k :: r, o :: os, i, c, h => by
  simp only [zjK] at h
  rw [List.lookup_cons] at h
  by_cases e : i = k
  ·subst e
   simp only [beq_self_eq_true] at h
   cases h
   exact ⟨0, o, rfl, rfl, rfl⟩
  ·rw [beq_false_of_ne e] at h
   obtain ⟨j, d', h1, h2, h3⟩ := zdy (l := r) (os := os) h
   exact ⟨j + 1, d', by simpa using h1, by simpa using h2, h3⟩
theorem zgr : ∀ {l : List Itm} {os : List D} {i j : Nat} {d : D}, l[j]? = some (.mi i) -> os[j]? = some d -> ∃ c, (zjK l os).lookup i = some c
 | [], os, i, j, d, h, _ => by simp at h
 | z :: r, [], i, j, d, _, h => by simp at h
 | .vd _ :: r, o :: os, i, j, d, h1, h2 => by
  cases j with
  | zero => simp at h1
  | succ j =>
   simp only [zjK]
   exact zgr (l := r) (by simpa using h1) (by simpa using h2)
 | .td _ :: r, o :: os, i, j, d, h1, h2 => by
  cases j with
  | zero => simp at h1
  | succ j =>
   simp only [zjK]
   exact zgr (l := r) (by simpa using h1) (by simpa using h2)
 | .mi k :: r, o :: os, i, j, d, h1, h2 => by
  simp only [zjK]
  rw [List.lookup_cons]
  by_cases e : i = k
  ·subst e
   simp
  ·rw [beq_false_of_ne e]
   cases j with
   | zero => simp at h1; exact absurd h1.symm e
   | succ j => exact zgr (l := r) (by simpa using h1) (by simpa using h2)
section
variable {K : PySem.W.Frag} {ρ0 ρ : En} {σ : L2.St} {H0 H H' : Hp} {l : List Itm} {ds os : List D} {vs : List V} {ms : List Bool}
theorem zfR (rel : Rel K ρ σ H) (it : ziV K σ H0 H l vs) (hi : zlm ρ l = .ok ds) (hm : l.map isR = ms) {j : Nat} {a : Addr} (hd : ds.length = ms.length) (h : At (slots ms ds) (vs.map some) j a) : (∃ i, l[j]? = some (.mi i) /\ At ρ σ i a) \/ ∃ d, l[j]? = some (.td d) /\ H0 a = none := by
 obtain ⟨v1, v2⟩ := it.get
 obtain ⟨d1, d2⟩ := zer hi
 obtain ⟨⟨p, d, e1⟩, e2⟩ := h
 obtain ⟨rfl, em, ed⟩ := zef hd e1
 rw [<- hm, List.getElem?_map] at em
 cases el : l[j]? with
 | none => rw [el] at em; cases em
 | some z =>
  rw [el] at em
  obtain ⟨v, ev, es⟩ := v2 j _ el
  obtain ⟨d', ed', em'⟩ := d2 j _ el
  rw [List.getElem?_map, ev] at e2
  cases e2
  cases z with
  | vd _ => cases em
  | mi i =>
   obtain ⟨q, eq⟩ := zgJ em'
   exact .inl ⟨i, rfl, ⟨q, d', eq⟩, es⟩
  | td d0 =>
   obtain ⟨b, eb, _, hb⟩ := es
   cases eb
   exact .inr ⟨d0, rfl, hb⟩
theorem zpA (r0 : Rel K ρ0 σ H0) (st : Stp ρ0 ρ σ H0 H) (rel : Rel K ρ σ H) (it : ziV K σ H0 H l vs) (hi : zlm ρ l = .ok ds) (hm : l.map isR = ms) (nd : (l.filterMap zrJ).Nodup) (ct : l.countP isT <= 1) : ds.length = ms.length /\ vs.length = ms.length /\ Rel K (slots ms ds) (vs.map some) H := by
 obtain ⟨v1, v2⟩ := it.get
 obtain ⟨d1, d2⟩ := zer hi
 have hl : ms.length = l.length := by rw [<- hm, List.length_map]
 have hd : ds.length = ms.length := by rw [d1, hl]
 have hv : vs.length = ms.length := by rw [v1, hl]
 have apart : ∀ {i : Nat} {a : Addr}, At ρ σ i a -> H0 a = none -> False := fun h1 h2 => by
  obtain ⟨o', e', _⟩ := r0.zbR (st.ma.mpr ⟨_, h1⟩)
  rw [h2] at e'; cases e'
 refine ⟨hd, hv, ⟨by rw [zdL hd, List.length_map, hv], fun j x v e1 e2 => ?_, fun j j' a h1 h2 => ?_, rel.cst⟩⟩
 ·rw [zcd hd] at e1
  cases em : ms[j]? with
  | none => rw [em] at e1; cases e1
  | some m =>
   cases ed : ds[j]? with
   | none => rw [em, ed] at e1; cases e1
   | some d =>
    rw [em, ed] at e1
    rw [<- hm, List.getElem?_map] at em
    cases el : l[j]? with
    | none => rw [el] at em; cases em
    | some z =>
     rw [el] at em
     obtain ⟨u, eu, es⟩ := v2 j z el
     obtain ⟨d', ed', em'⟩ := d2 j z el
     rw [ed] at ed'
     cases ed'
     rw [List.getElem?_map, eu] at e2
     cases e2
     cases z with
     | vd dz =>
      cases em
      cases e1
      cases em'
      exact es
     | mi i =>
      cases em
      cases e1
      obtain ⟨q, eq⟩ := zgJ em'
      have o := rel.ok i _ _ eq es
      show zru K H (.ow true d) (some u)
      cases u with
      | ref a => exact o
      | _ => exact o.elim
     | td dz =>
      cases em
      cases e1
      cases em'
      obtain ⟨b, rfl, mb, _⟩ := es
      exact mb
 ·rcases zfR rel it hi hm hd h1 with ⟨i, e1, a1⟩ | ⟨d, e1, a1⟩
  ·rcases zfR rel it hi hm hd h2 with ⟨i', e2, a2⟩ | ⟨d, e2, a2⟩
   ·have := rel.sep i i' a a1 a2
    subst this
    exact zpQ nd e1 e2
   ·exact (apart a1 a2).elim
  ·rcases zfR rel it hi hm hd h2 with ⟨i', e2, a2⟩ | ⟨d, e2, a2⟩
   ·exact (apart a2 a1).elim
   ·exact zpC ct e1 e2
theorem zn5 (r0 : Rel K ρ0 σ H0) (st : Stp ρ0 ρ σ H0 H) (rel : Rel K ρ σ H) (it : ziV K σ H0 H l vs) (hi : zlm ρ l = .ok ds) (hm : l.map isR = ms) (hd : ds.length = ms.length) (ho : os.length = ms.length) (ra : Rel K (slots ms os) (vs.map some) H') (hC : ∀ a o, H a = some o -> ¬ MA (slots ms ds) (vs.map some) a -> H' a = some o) :
  Rel K (zn6 ρ l os) σ H' /\ Stp ρ0 (zn6 ρ l os) σ H0 H' := by
 obtain ⟨v1, v2⟩ := it.get
 obtain ⟨d1, d2⟩ := zer hi
 have hl : ms.length = l.length := by rw [<- hm, List.length_map]
 have apart : ∀ {i : Nat} {a : Addr}, At ρ σ i a -> H0 a = none -> False := fun h1 h2 => by
  obtain ⟨o', e', _⟩ := r0.zbR (st.ma.mpr ⟨_, h1⟩)
  rw [h2] at e'; cases e'
 have kp0 : ∀ a o, H0 a = some o -> ¬ MA ρ0 σ a -> H' a = some o := fun a o e n => hC a o (st.kp a o e n) fun ⟨j, h⟩ => by
  rcases zfR rel it hi hm hd h with ⟨i, _, a1⟩ | ⟨d, _, a1⟩
  ·exact n (st.ma.mpr ⟨i, a1⟩)
  ·rw [e] at a1; cases a1
 have fz : Fzn H H' := fun a o e sy => hC a o e fun ⟨j, h⟩ => by
  obtain ⟨⟨p, d, e1⟩, e2⟩ := id h
  obtain ⟨rfl, em, ed⟩ := zef hd e1
  rcases zfR rel it hi hm hd h with ⟨i, _, a1⟩ | ⟨d, el, a1⟩
  ·obtain ⟨o', e', ow⟩ := rel.zbR ⟨i, a1⟩
   rw [e] at e'
   cases e'
   exact ow.zez sy
  ·obtain ⟨v, ev, b, eb, mb, _⟩ := v2 j _ el
   rw [List.getElem?_map, ev] at e2
   cases e2
   cases eb
   obtain ⟨o', e', ow⟩ := mb.own
   rw [e] at e'
   cases e'
   exact ow.zez sy
 have key := zsj (H := H) (H' := H') (m := zjK l os) rel (fun i c e a at0 => by
  obtain ⟨j, d, e1, e2, rfl⟩ := zdy e
  obtain ⟨v, ev, es⟩ := v2 j _ e1
  replace es : σ[i]? = some (some v) := es
  rw [at0.2] at es
  cases es
  refine ⟨true, d, rfl, ?_⟩
  have em : ms[j]? = some true := by rw [<- hm, List.getElem?_map, e1]; rfl
  exact ra.ok j (.ow true d) (some (.ref a)) (by rw [zcd ho, em, e2]; rfl) (by rw [List.getElem?_map, ev]; rfl)) (fun i a at0 e => by
  obtain ⟨u, hu, _⟩ := rel.zbR ⟨i, at0⟩
  rw [hu]
  refine hC a u hu fun ⟨j, h⟩ => ?_
  rcases zfR rel it hi hm hd h with ⟨i', el, a1⟩ | ⟨d, _, a1⟩
  ·have := rel.sep i i' a at0 a1
   subst this
   have hj : j < os.length := by rw [ho, hl]; exact (List.getElem?_eq_some_iff.mp el).1
   obtain ⟨c, ec⟩ := zgr el (List.getElem?_eq_getElem hj)
   rw [ec] at e
   cases e
  ·exact apart at0 a1) fz
 exact ⟨key.1, ⟨fun i p => (st.md i p).trans (key.2 i p), kp0⟩⟩
end
section
variable {K : PySem.W.Frag} {X : Cx} {k j : Nat} {ps : List Str} {E : XK} {x : Str} {p pos : Pos} {e : Expr} {es : List Expr} {F : List D -> R (D × List D)} {a : List Ar}
def zvG (F : List D -> R (D × List D)) (n : Nat) : Prop := ∀ ds y, F ds = .ok y -> y.2.length = n
theorem zdp {ms : List Bool} {fr : Bool} {m : Nat} {b : SF} : zvG (run ms fr m b) ms.length := fun ds y h => by
 unfold run at h
 split at h
 ·rename_i hd
  obtain ⟨z, _, h⟩ := zav h
  obtain ⟨fl, ρ⟩ := z
  cases fr with
  | false =>
   cases fl with
   | rt d => cases h; exact zfh hd
   | nx => cases h; exact zfh hd
   | _ => cases h
  | true =>
   cases fl with
   | rf d => cases h; exact zfh hd
   | _ => cases h
 ·cases h
theorem zwv {fr : Bool} (ho : zvG F (arM a).length) (nd : (arI a).Nodup) (ct : arT a <= 1) (σ : L2.St) (H : Hp) (Q : VK) (ρ : En) (rel : Rel K ρ σ H)
  (q : Good K ρ σ H (za1 F a ρ) fun d ρ' H' => ∀ v, (if fr = true then ∃ a, v = .ref a /\ H a = none /\ zbP K H' a d else Fz K H' d v) -> Q v H') : zqp (spF K (arM a) fr F) [] E (tAr K a) σ H Q := by
 obtain ⟨y, ey, q0⟩ := q.bnd
 obtain ⟨h1, h2, h3⟩ := zes ey
 refine ⟨ρ, rel, ?_⟩
 rw [ey]
 intro H1 rel1 st1 vs it
 obtain ⟨ds, ed, q1⟩ := q0.zeU
 obtain ⟨z, ez, q2⟩ := q1.zeU
 obtain ⟨hd, hv, ra⟩ := zpA rel st1 rel1 it ed h1 (by rw [h2]; exact nd) (by rw [h3]; exact ct)
 rw [List.append_nil]
 refine ⟨ds, hv, hd, ra, z.1, z.2, ez, fun v H' rb kp fin => ?_⟩
 obtain ⟨r2, s2⟩ := zn5 rel st1 rel1 it ed h1 hd (ho ds z ez) rb kp
 refine q2 H' r2 s2 v ?_
 cases fr with
 | false => exact fin
 | true =>
  obtain ⟨ad, rfl, ha, m⟩ := fin
  exact ⟨ad, rfl, st1.old rel1 ha, m⟩
theorem zdn (c : Callee X.prog X.w X.K X.mg X.base x k ps (spF X.K (arM a) false F)) (ho : zvG F (arM a).length) (nd : (arI a).Nodup) (ct : arT a <= 1) (hr : zeF j X.A) (hg : Gl X x) (hx : Passes (CXe X.prog X.w) X E) (ha : zqf K X (e :: es) a) (hj : k <= j := by decide) (hdb : (x == ("__debug__" : Str)) = false := by decide)
  (he : starEach (e :: es) X.env = (false, eval e X.env) :: starEach es X.env := by rfl) (hpl : (backTo pos (starEach es X.env)).any (·.1) = false := by rfl) : PV K X (.Call (.Name x p) (e :: es) [] pos) (za1 F a) := fun hK => by
 subst hK
 refine (zgF c hr hg hx (ha rfl) hj hdb he hpl).weak fun σ H Q => ?_
 rintro ⟨ρ, rel, q⟩
 exact zwv (fr := false) ho nd ct σ H Q ρ rel q
end
end FL
namespace FL
open PySem L2 PySem.Spec
open PyProof.Rows hiding St
variable [Cs]
section
variable {K : PySem.W.Frag} {X : Cx} {st : Stmt} {s : SF} {e : Expr} {f h : EF} {pos : Pos}
theorem zrf {C : SC} {ρ : En} {σ : L2.St} {H : Hp} {i : Nat} {d : D} (rel : zeu K C ρ σ H) (e : ρ[i]? = some (.ow false d)) : ∃ a u, H a = some u /\ Own u /\ ∀ o, zeu K C (ρ.set i (.val d)) σ (upd H a (.frz o u)) /\ Fzn H (upd H a (.frz o u)) := by
 obtain ⟨a, at0, m⟩ := rel.rel.zlJ (d := d) (show zbf ρ i = .ok d by unfold zbf; rw [e])
 obtain ⟨u, e1, ow⟩ := m.own
 refine ⟨a, u, e1, ow, fun o => ?_⟩
 have hl : i < ρ.length := (List.getElem?_eq_some_iff.mp e).1
 have hfr := rel.own i a d e at0.2
 have fz : Fzn H (upd H a (.frz o u)) := fun b w e2 sy => by
  rw [zaE fun z => by subst z; rw [e1] at e2; cases e2; exact ow.zez sy]
  exact e2
 refine ⟨?_, fz⟩
 have fd : Fz K (upd H a (.frz o u)) d (.ref a) := by
  cases d with
  | list ds =>
   obtain ⟨vs, h1, h2⟩ := m
   rw [e1] at h1
   cases h1
   simp only [Fz]
   exact ⟨a, vs, rfl, .inl ⟨o, zau⟩, h2.mono fz⟩
  | dict kvs =>
   simp only [Fz]
   rcases m with ⟨kk, h1, h2⟩ | ⟨kk, h1, h2⟩
   ·rw [e1] at h1
    cases h1
    exact ⟨a, o, rfl, .inl ⟨kk, zau, h2.mono fz⟩⟩
   ·rw [e1] at h1
    cases h1
    exact ⟨a, o, rfl, .inr ⟨kk, zau, h2.mono fz⟩⟩
  | _ => exact m.elim
 have atw : ∀ j b, At (ρ.set i (.val d)) σ j b -> j ≠ i /\ At ρ σ j b := fun j b ⟨⟨q, dd, e1⟩, e2⟩ => by
  by_cases c : i = j
  ·subst c
   rw [List.getElem?_set_self hl] at e1; cases e1
  ·rw [List.getElem?_set_ne c] at e1
   exact ⟨fun z => c z.symm, ⟨q, dd, e1⟩, e2⟩
 refine ⟨⟨by rw [List.length_set]; exact rel.rel.len, fun j y w e2 e3 => ?_, fun j k b h1 h2 => rel.rel.sep j k b (atw j b h1).2 (atw k b h2).2, rel.rel.cst.mono fz⟩, fun b w e2 n => ?_, fun j b c e2 e3 => ?_, fun j => ?_, fun j c e2 => ?_, rel.prm⟩
 ·by_cases c : i = j
  ·subst c
   rw [List.getElem?_set_self hl] at e2
   cases e2
   rw [at0.2] at e3
   cases e3
   exact fd
  ·rw [List.getElem?_set_ne c] at e2
   refine (rel.rel.ok j y w e2 e3).mono fz fun b e4 ⟨p, dd, e5⟩ => ?_
   subst e4; subst e5
   refine zaE fun z => ?_
   subst z
   exact c (rel.rel.sep i j b at0 ⟨⟨p, dd, e2⟩, e3⟩)
 ·rw [zaE fun z => by subst z; rw [hfr] at e2; cases e2]
  exact rel.keep b w e2 n
 ·by_cases c : i = j
  ·subst c
   rw [List.getElem?_set_self hl] at e2; cases e2
  ·rw [List.getElem?_set_ne c] at e2
   exact rel.own j b _ e2 e3
 ·by_cases c : i = j
  ·subst c
   rw [List.getElem?_set_self hl, <- rel.pin i, e]
   constructor
   ·rintro ⟨_, z⟩; cases z
   ·rintro ⟨_, z⟩; cases z
  ·rw [List.getElem?_set_ne c]; exact rel.pin j
 ·by_cases k : i = j
  ·subst k
   rw [List.getElem?_set_self hl] at e2; cases e2
  ·rw [List.getElem?_set_ne k] at e2
   exact rel.fix j c e2
theorem zgj (i : Nat) (hh : PSV K X st s) : PSV K X st (zga i s) := fun hK C => by
 have h1 : PS X st (fun Dn σ H => tS K C s { Dn with nx := fun σ H => ∃ a u, H a = some u /\ Own u /\ ∀ o, Dn.nx σ (upd H a (.frz o u)) } σ H) := fun pins sh σ H Dn I q => by
  refine thn (hh hK C pins sh σ H _ I q) fun fl s1 z => ?_
  cases fl with
  | next =>
   obtain ⟨σ', H', I', a, u, e, ow, q⟩ := z
   obtain ⟨o, ho⟩ := (I'.hok a u e).some
   exact ⟨σ', _, zvR I' e ow ho, q o⟩
  | brk => exact z
  | cont => exact z
  | ret v => exact z
 refine h1.weak fun Dn σ H => ?_
 rintro ⟨ρ, rel, g⟩
 refine ⟨ρ, rel, ?_⟩
 obtain ⟨x, ex, g1⟩ := g.bnd
 rw [ex]
 obtain ⟨fl, ρ1⟩ := x
 cases fl with
 | nx =>
  replace g1 : zcI K C H (match ρ1[i]? with | some (.ow false d) => .ok (.nx, ρ1.set i (.val d)) | _ => .bad) Dn := g1
  cases e : ρ1[i]? with
  | none => rw [e] at g1; exact g1.elim
  | some y =>
   rw [e] at g1
   cases y with
   | ow p d =>
    cases p with
    | true => exact g1.elim
    | false =>
     intro σ' H' r z
     obtain ⟨a, u, e1, ow, k⟩ := zrf r e
     exact ⟨a, u, e1, ow, fun o => g1 σ' _ (k o).1 (z.trans (k o).2)⟩
   | _ => exact g1.elim
 | bk => exact g1
 | ct => exact g1
 | rt d => exact g1
 | rf d => exact g1
theorem zin {i j : Nat} {x y : Str} {a b : Expr} {px py pt : Pos} {kt k2 pt2} (hc : X.calm = true) (hN : X.N.Nodup) (hi : X.N[i]? = some x) (hj : X.N[j]? = some y) (hij : i ≠ j)
  (hx : X.env.scope.names.lookup x = some .local) (hy : X.env.scope.names.lookup y = some .local) (ha : PV K X a f) (hb : PV K X b h)
  (hw : swappedStores [.Tuple [.Name x px, .Name y py] kt pt] (.Tuple [a, b] k2 pt2) X.env = pure (some [x, y]))
  (hs : swapsWithSole [.Tuple [.Name x px, .Name y py] kt pt] (.Tuple [a, b] k2 pt2) pos.line X.env = pure false := by rfl) (hs1 : starEach [a, b] X.env = (false, eval a X.env) :: starEach [b] X.env := by rfl) (hs2 : starEach [b] X.env = (false, eval b X.env) :: starEach [] X.env := by rfl) :
  PSV K X (.Assign [.Tuple [.Name x px, .Name y py] kt pt] (.Tuple [a, b] k2 pt2) pos) (ziU i j f h) := fun hK C => (zr4 hc hN hi hj hij hx hy (zdo (ha hK) (zdo (hb hK) zjc hs2) hs1) hw hs).weak fun Dn σ H => by
 rintro ⟨ρ, rel, g⟩
 refine znz rel g fun d ρ1 v H1 rel1 st1 fz g1 => znz rel1 g1 fun d2 ρ2 v2 H2 rel2 st2 fz2 g2 => ?_
 obtain ⟨ρ3, e3, g3⟩ := g2.bnd
 obtain ⟨ρ4, e4, g4⟩ := g3.bnd
 obtain ⟨rfl, n1, l1⟩ := zk5 e3
 obtain ⟨rfl, n2, l2⟩ := zk5 e4
 have f1 := fz.mono (st2.fzn rel1.rel)
 have r3 := rel2.chg (rel2.rel.set (i := i) (x := .val d) (v := some v) f1 fun _ _ _ z => nomatch z) (ziN n1 l1)
 have r4 := r3.chg (r3.rel.set (i := j) (x := .val d2) (v := some v2) fz2 fun _ _ _ z => nomatch z) (ziN n2 l2)
 exact ⟨v, v2, rfl, g4 _ H2 r4 (Fzn.refl _)⟩
theorem zgk {elt tg iter : Expr} {ifs : List Expr} {scope : Scope} {it : IF} {g : GF} {t : TF} {dom : List Nat} {x0 : Str} {pos' spos : Pos} (i0 : Nat) (L : List Str) (ix : List Nat) (M : List Str) (hN : X.N.Nodup) (hii : X.N[i0]? = some x0) (hx0 : X.env.scope.names.lookup x0 = some .local)
  (hsw : swapsWith (.ListComp elt [⟨tg, iter, ifs, 0⟩] scope pos) (some (.Name x0 pos')) spos.line X.env = pure true) (hc : X.calm = true) (hk : scope.kind = .function)
  (hd : zfM X.env.scope scope X.N ix = true) (hM : M = L ++ ix.map fun i => X.N.getD i "") (nd : ix.Nodup) (hi : PVI K X tg iter it)
  (hg : ∀ C s₃ H₃ fp, PVG K (za8 X M scope C s₃ H₃ fp) dom tg g) (hgo : dom.all (fun i => decide (i < L.length)) = true)
  (ht : ∀ C s₃ H₃ fp, zus K (za8 X M scope C s₃ H₃ fp) ifs t) (he : ∀ C s₃ H₃ fp, PV K (za8 X M scope C s₃ H₃ fp) elt f)
  (hs : ∀ x, foldedSetIterable iter X.env x = pure x := by intro _; rfl) :
  PSV K X (.Assign [.Name x0 pos'] (.ListComp elt [⟨tg, iter, ifs, 0⟩] scope pos) spos) (ze6 i0 (zbY L.length ix it g t f)) := fun hK C =>
 (zqG i0 L ix M hN hii hx0 hsw hc hk hd hM (hi hK) (fun C s₃ H₃ fp => hg C s₃ H₃ fp hK) (zk0 hgo) (fun C s₃ H₃ fp => ht C s₃ H₃ fp hK) (fun C s₃ H₃ fp => he C s₃ H₃ fp hK) hs).weak fun Dn σ H q => zp2 nd hgo σ H _ (zsN Dn σ H q)
end
end FL
namespace FL
open PySem L2 PySem.Spec
open PyProof.Rows hiding St
variable [Cs]
structure Blt (mg : Str -> Option Value) : Prop where
 zj1 : mg "abs" = none
 zaL : mg "isinstance" = none
 zlH : mg "int" = none
 zgI : mg "bool" = none
 zcZ : mg "tuple" = none
 zjf : mg "list" = none
 zo0 : mg "str" = none
 zdK : mg "len" = none
 zj0 : mg "all" = none
 zcx : mg "range" = none
 zmX : mg "zip" = none
 zcy : mg "enumerate" = none
 zm0 : mg "max" = none
 zmZ : mg "min" = none
 zmY : mg "sum" = none
 zdq : mg "sorted" = none
 zkT : mg "dict" = none
 zo1 : mg "any" = none
namespace Bt
theorem abs : bootBuiltins "abs" = some (.builtin "abs") := by decide +kernel
theorem len : bootBuiltins "len" = some (.builtin "len") := by decide +kernel
theorem all : bootBuiltins "all" = some (.builtin "all") := by decide +kernel
theorem max : bootBuiltins "max" = some (.builtin "max") := by decide +kernel
theorem min : bootBuiltins "min" = some (.builtin "min") := by decide +kernel
theorem sum : bootBuiltins "sum" = some (.builtin "sum") := by decide +kernel
theorem sorted : bootBuiltins "sorted" = some (.builtin "sorted") := by decide +kernel
theorem int : bootBuiltins "int" = some (.type "int") := by decide +kernel
theorem bool : bootBuiltins "bool" = some (.type "bool") := by decide +kernel
theorem tuple : bootBuiltins "tuple" = some (.type "tuple") := by decide +kernel
end Bt
theorem zaH {K : PySem.W.Frag} {X : Cx} {st : List Stmt} {f : SF} (h : zma K X.nox st f) : zma K X st f := fun hK C => PSs.nox (h hK C)
theorem zsy {K : PySem.W.Frag} {G : List D -> R D} {H : Hp} {a : Addr} {ns : List Int} (h : G [.list (ns.map PyData.int)] = .ok (.bool true)) (hO : ∀ b xs, H b ≠ some (.lst xs)) (hC : zqg H) (hS : SqL K H a (ns.map V.int)) : spP K 1 false G [.ref a] H (fun v _ => v = .bl true) fun _ _ _ => False := by
 refine ⟨[.list (ns.map PyData.int)], rfl, hC, ?_, .bool true, h, fun v H' _ fz => by simpa [Fz] using fz⟩
 simp only [zak, Fz]
 refine ⟨.ref a, [], rfl, ⟨a, ns.map V.int, rfl, ?_, zak.ofInts ns⟩, rfl⟩
 rcases hS with (hS | ⟨o, hS⟩) | hS
 ·exact absurd hS (hO a _)
 ·exact .inl ⟨o, hS⟩
 ·exact .inr hS
end FL
namespace FL
open PySem L2 PySem.Spec
open PyProof.Rows hiding St
variable [Cs]
theorem zeo {P : Program} {w : World} {K : PySem.W.Frag} {mg : Str -> Option Value} {base : Heap} {x : Str} {st : Stmt} {ps : List Str} {k n : Nat} {fr : Bool} (h : Has K mg x st)
  (hbi : ∀ (kV doc pm : Value) (an : Option Addr) (cdv ct : Value) (us : List Value), us.length = ps.length -> bindArgs (PySem.W.fnOf x x (zd5 st) (zcD st) (zao st) .none kV doc pm an cdv ct) ⟨us, []⟩ = pure (ps.zip us)) (hn : ps.length = n) :
  Callee P w K mg base x k ps (spP K n fr fun _ => .bad) := by
 obtain ⟨f, fd, hm, F⟩ := h
 refine ⟨f, fd, hm, F.kp, F.binds hbi, ⟨fun vs H Q E q => ?_, fun A outer s H args us vs Q E _ _ _ _ q => ?_⟩⟩
 ·obtain ⟨_, _, _, _, _, e, _⟩ := q
  cases e
 ·obtain ⟨_, _, _, _, _, e, _⟩ := q
  cases e
end FL
namespace FL
open PySem L2 PySem.Spec
open PyProof.Rows hiding St
variable [Cs]
theorem zkQ {α : Type} {o : Option α} {a : α} (h : R.of o = .ok a) : o = some a := by
 cases o with
 | none => cases h
 | some b => cases h; rfl
theorem zsG (k : Key) : kOf (kD k) = some k := by cases k <;> rfl
theorem zng : ∀ ks : List Key, zoj (ks.map kD) = some ks
 | [] => rfl
 | k :: r => by simp only [List.map_cons, zoj, zsG, Option.bind_some, zng r, Option.map_some]
theorem zdZ (q : List Key) : keyOf (zlR q) = some (.inl q) := by simp only [zlR, keyOf, zng, Option.map_some]
theorem zd0 (q : Key) : keyOf (kD q) = some (.inr q) := by cases q <;> rfl
theorem zrb {d : D} {k : Key} (h : kOf d = some k) : d = kD k := by
 cases d with
 | int i => cases h; rfl
 | str i => cases h; rfl
 | _ => cases h
theorem zkW : ∀ {ds : List D} {ks : List Key}, zoj ds = some ks -> ds = ks.map kD
 | [], ks, h => by simp only [zoj, Option.some.injEq] at h; subst h; rfl
 | d :: r, ks, h => by
  simp only [zoj, Option.bind_eq_some_iff, Option.map_eq_some_iff] at h
  obtain ⟨k, e, ks', e', rfl⟩ := h
  rw [zrb e, zkW e']; rfl
section
variable {K : PySem.W.Frag} {H H' : Hp}
theorem zre {k : Key} : Fz K H (kD k) (kV k) := by cases k <;> simp [kD, kV, Fz]
theorem zu5 {k : Key} {v : V} (h : Fz K H (kD k) v) : v = kV k := by cases k <;> simpa [kD, kV, Fz] using h
theorem zk8 : ∀ ks : List Key, zak K H (ks.map kD) (ks.map kV)
 | [] => by simp [zak]
 | k :: r => by simp only [List.map_cons, zak]; exact ⟨_, _, rfl, zre, zk8 r⟩
theorem zpZ : ∀ {ks : List Key} {vs : List V}, zak K H (ks.map kD) vs -> vs = ks.map kV
 | [], vs, h => by simpa [zak] using h
 | k :: r, vs, h => by
  simp only [List.map_cons, zak] at h
  obtain ⟨v, t, rfl, h1, h2⟩ := h
  rw [zu5 h1, zpZ h2]; rfl
theorem znC {ks : List Key} {b : Addr} (h : TAt H b (ks.map kV)) : Fz K H (zlR ks) (.ref b) := by
 simp only [zlR, Fz]
 exact ⟨b, _, rfl, h, zk8 ks⟩
theorem zhD {k : D} {v : V} {q : KQ} (f : Tp K H k v) (e : keyOf k = some q) : (∃ ks b, q = .inl ks /\ k = zlR ks /\ v = .ref b /\ TAt H b (ks.map kV)) \/ ∃ k1, q = .inr k1 /\ k = kD k1 /\ v = kV k1 := by
 cases k with
 | tuple xs =>
  simp only [keyOf, Option.map_eq_some_iff] at e
  obtain ⟨ks, e1, rfl⟩ := e
  have := zkW e1
  subst this
  obtain ⟨b, vs, rfl, tb, fa⟩ := (show ∃ a vs, v = .ref a /\ TAt H a vs /\ zak K H (ks.map kD) vs by simpa [Tp, Fz] using f)
  rw [zpZ fa] at tb
  exact .inl ⟨ks, b, rfl, rfl, rfl, tb⟩
 | int i => cases e; exact .inr ⟨.inl i, rfl, rfl, by simpa [Tp, Fz, kV] using f⟩
 | str i => cases e; exact .inr ⟨.inr i, rfl, rfl, by simpa [Tp, Fz, kV] using f⟩
 | _ => cases e
theorem zna : ∀ {kvs : List (D × D)} {kk : List (List Key × V)}, zb0 K H kvs kk -> ∀ q : List Key, (look kvs (.inl q) = none /\ zhC kk q = none) \/ ∃ d v, look kvs (.inl q) = some d /\ zhC kk q = some v /\ Fz K H d v
 | [], kk, h, q => by simp only [zb0] at h; subst h; exact .inl ⟨rfl, rfl⟩
 | (k, d) :: r, kk, h, q => by
  simp only [zb0] at h
  obtain ⟨q', v, t, rfl, rfl, f, h2⟩ := h
  by_cases c : q' = q
  ·subst c
   exact .inr ⟨d, v, by simp [look, List.find?_cons, zdZ], ze9 rfl, f⟩
  ·have e1 : look ((zlR q', d) :: r) (.inl q) = look r (.inl q) := by simp [look, List.find?_cons, zdZ, c]
   rw [e1, zfa (p := (q', v)) c]
   exact zna h2 q
theorem znb : ∀ {kvs : List (D × D)} {kk : List (Key × V)}, zb2 K H kvs kk -> ∀ q : Key, (look kvs (.inr q) = none /\ zhC kk q = none) \/ ∃ d v, look kvs (.inr q) = some d /\ zhC kk q = some v /\ Fz K H d v
 | [], kk, h, q => by simp only [zb2] at h; subst h; exact .inl ⟨rfl, rfl⟩
 | (k, d) :: r, kk, h, q => by
  simp only [zb2] at h
  obtain ⟨q', v, t, rfl, rfl, f, h2⟩ := h
  by_cases c : q' = q
  ·subst c
   exact .inr ⟨d, v, by simp [look, List.find?_cons, zd0], ze9 rfl, f⟩
  ·have e1 : look ((kD q', d) :: r) (.inr q) = look r (.inr q) := by simp [look, List.find?_cons, zd0, c]
   rw [e1, zfa (p := (q', v)) c]
   exact znb h2 q
theorem znj {kvs : List (D × D)} {kk : List (List Key × V)} (h : zb0 K H kvs kk) (c : keysOk false kvs = true) : kvs = [] /\ kk = [] := by
 cases kvs with
 | nil => simp only [zb0] at h; exact ⟨rfl, h⟩
 | cons p r =>
  obtain ⟨k, d⟩ := p
  simp only [zb0] at h
  obtain ⟨q', v, t, rfl, rfl, f, h2⟩ := h
  simp [keysOk, zdZ, form] at c
theorem znk {kvs : List (D × D)} {kk : List (Key × V)} (h : zb2 K H kvs kk) (c : keysOk true kvs = true) : kvs = [] /\ kk = [] := by
 cases kvs with
 | nil => simp only [zb2] at h; exact ⟨rfl, h⟩
 | cons p r =>
  obtain ⟨k, d⟩ := p
  simp only [zb2] at h
  obtain ⟨q', v, t, rfl, rfl, f, h2⟩ := h
  simp [keysOk, zd0, form] at c
theorem zfK {d k : D} {x : List (D × D) × KQ} (h : dictAt d k = .ok x) : d = .dict x.1 /\ keyOf k = some x.2 /\ keysOk (form x.2) x.1 = true := by
 cases d with
 | dict kvs =>
  obtain ⟨q, e1, h⟩ := zav (show (R.of (keyOf k)).bind _ = .ok x from h)
  obtain ⟨c, h⟩ := zbe h
  cases h
  exact ⟨rfl, zkQ e1, c⟩
 | _ => cases h
theorem zrl {d k : D} {x y : V} {o : Option D} (t : Tp K H d x) (f : Tp K H k y) (e : zfp d k = .ok o) :
  ∃ a r, x = .ref a /\ IsD H a /\ DG H a y r /\ ((o = none /\ r = none) \/ ∃ d v, o = some d /\ r = some v /\ Fz K H d v) := by
 obtain ⟨⟨kvs, q⟩, e1, e⟩ := zav (show (dictAt d k).bind _ = .ok o from e)
 cases e
 obtain ⟨rfl, ek, c⟩ := zfK e1
 obtain ⟨a, ea, tt⟩ := (show ∃ a, x = .ref a /\ ((∃ kk, Rd H a (.dT kk) /\ zb0 K H kvs kk) \/ ∃ kk, Rd H a (.dK kk) /\ zb2 K H kvs kk) from t)
 subst ea
 rcases tt with ⟨kk, rd, h⟩ | ⟨kk, rd, h⟩
 ·refine ⟨a, ?_⟩
  rcases zhD f ek with ⟨ks, b, rfl, rfl, rfl, tb⟩ | ⟨k1, rfl, rfl, rfl⟩
  ·refine ⟨zhC kk ks, rfl, .inr ⟨kk, rd⟩, .inl (.inr ⟨kk, ks, b, rd, rfl, tb, rfl⟩), ?_⟩
   rcases zna h ks with ⟨z1, z2⟩ | ⟨d, v, z1, z2, z3⟩
   ·exact .inl ⟨z1, z2⟩
   ·exact .inr ⟨d, v, z1, z2, z3⟩
  ·obtain ⟨rfl, rfl⟩ := znj h c
   exact ⟨none, rfl, .inr ⟨[], rd⟩, .inr (.inr ⟨rfl, rd, k1, rfl⟩), .inl ⟨rfl, rfl⟩⟩
 ·refine ⟨a, ?_⟩
  rcases zhD f ek with ⟨ks, b, rfl, rfl, rfl, tb⟩ | ⟨k1, rfl, rfl, rfl⟩
  ·obtain ⟨rfl, rfl⟩ := znk h c
   exact ⟨none, rfl, .inl ⟨[], rd⟩, .inr (.inl ⟨rfl, rd, b, ks, rfl, tb⟩), .inl ⟨rfl, rfl⟩⟩
  ·refine ⟨zhC kk k1, rfl, .inl ⟨kk, rd⟩, .inl (.inl ⟨kk, k1, rd, rfl, rfl⟩), ?_⟩
   rcases znb h k1 with ⟨z1, z2⟩ | ⟨d, v, z1, z2, z3⟩
   ·exact .inl ⟨z1, z2⟩
   ·exact .inr ⟨d, v, z1, z2, z3⟩
theorem zt9 : ∀ {kvs : List (D × D)} {kk : List (List Key × V)}, zb0 K H kvs kk -> ∀ q : List Key, (kvs.any fun kv => decide (keyOf kv.1 = some (.inl q))) = kk.any fun kv => decide (kv.1 = q)
 | [], kk, h, q => by simp only [zb0] at h; subst h; rfl
 | (k, d) :: r, kk, h, q => by
  simp only [zb0] at h
  obtain ⟨q', v, t, rfl, rfl, f, h2⟩ := h
  simp only [List.any_cons, zt9 h2 q, zdZ, Option.some.injEq, Sum.inl.injEq]
theorem zua : ∀ {kvs : List (D × D)} {kk : List (Key × V)}, zb2 K H kvs kk -> ∀ q : Key, (kvs.any fun kv => decide (keyOf kv.1 = some (.inr q))) = kk.any fun kv => decide (kv.1 = q)
 | [], kk, h, q => by simp only [zb2] at h; subst h; rfl
 | (k, d) :: r, kk, h, q => by
  simp only [zb2] at h
  obtain ⟨q', v, t, rfl, rfl, f, h2⟩ := h
  simp only [List.any_cons, zua h2 q, zd0, Option.some.injEq, Sum.inr.injEq]
theorem zrV {d : D} {v : V} (f : Fz K H d v) : ∀ {kvs : List (D × D)} {kk : List (List Key × V)}, zb0 K H kvs kk -> ∀ q : List Key, zb0 K H (kvs.map fun kv => if keyOf kv.1 = some (.inl q) then (kv.1, d) else kv) (kk.map fun kv => if kv.1 = q then (kv.1, v) else kv)
 | [], kk, h, q => by simp only [zb0] at h; subst h; simp [zb0]
 | (k, d0) :: r, kk, h, q => by
  simp only [zb0] at h
  obtain ⟨q', v0, t, rfl, rfl, f0, h2⟩ := h
  have ih := zrV f h2 q
  by_cases c : q' = q
  ·subst c
   simp only [List.map_cons, zdZ, if_true, zb0]
   exact ⟨q', v, _, rfl, rfl, f, ih⟩
  ·simp only [List.map_cons, zdZ, Option.some.injEq, Sum.inl.injEq, if_neg c, zb0]
   exact ⟨q', v0, _, rfl, rfl, f0, ih⟩
theorem zrW {d : D} {v : V} (f : Fz K H d v) : ∀ {kvs : List (D × D)} {kk : List (Key × V)}, zb2 K H kvs kk -> ∀ q : Key, zb2 K H (kvs.map fun kv => if keyOf kv.1 = some (.inr q) then (kv.1, d) else kv) (kk.map fun kv => if kv.1 = q then (kv.1, v) else kv)
 | [], kk, h, q => by simp only [zb2] at h; subst h; simp [zb2]
 | (k, d0) :: r, kk, h, q => by
  simp only [zb2] at h
  obtain ⟨q', v0, t, rfl, rfl, f0, h2⟩ := h
  have ih := zrW f h2 q
  by_cases c : q' = q
  ·subst c
   simp only [List.map_cons, zd0, if_true, zb2]
   exact ⟨q', v, _, rfl, rfl, f, ih⟩
  ·simp only [List.map_cons, zd0, Option.some.injEq, Sum.inr.injEq, if_neg c, zb2]
   exact ⟨q', v0, _, rfl, rfl, f0, ih⟩
theorem zt7 {d : D} {v : V} (f : Fz K H d v) (q : List Key) : ∀ {kvs : List (D × D)} {kk : List (List Key × V)}, zb0 K H kvs kk -> zb0 K H (kvs ++ [(zlR q, d)]) (kk ++ [(q, v)])
 | [], kk, h => by simp only [zb0] at h; subst h; simp only [List.nil_append, zb0]; exact ⟨q, v, [], rfl, rfl, f, rfl⟩
 | (k, d0) :: r, kk, h => by
  simp only [zb0] at h
  obtain ⟨q', v0, t, rfl, rfl, f0, h2⟩ := h
  simp only [List.cons_append, zb0]
  exact ⟨q', v0, _, rfl, rfl, f0, zt7 f q h2⟩
theorem zt8 {d : D} {v : V} (f : Fz K H d v) (q : Key) : ∀ {kvs : List (D × D)} {kk : List (Key × V)}, zb2 K H kvs kk -> zb2 K H (kvs ++ [(kD q, d)]) (kk ++ [(q, v)])
 | [], kk, h => by simp only [zb2] at h; subst h; simp only [List.nil_append, zb2]; exact ⟨q, v, [], rfl, rfl, f, rfl⟩
 | (k, d0) :: r, kk, h => by
  simp only [zb2] at h
  obtain ⟨q', v0, t, rfl, rfl, f0, h2⟩ := h
  simp only [List.cons_append, zb2]
  exact ⟨q', v0, _, rfl, rfl, f0, zt8 f q h2⟩
theorem zuL {d : D} {v : V} {kvs : List (D × D)} {kk : List (List Key × V)} (h : zb0 K H kvs kk) (f : Fz K H d v) (q : List Key) : zb0 K H (zoD kvs (zlR q) (.inl q) d) (putK kk q v) := by
 unfold zoD putK
 rw [zt9 h q]
 split
 ·exact zrV f h q
 ·exact zt7 f q h
theorem zuM {d : D} {v : V} {kvs : List (D × D)} {kk : List (Key × V)} (h : zb2 K H kvs kk) (f : Fz K H d v) (q : Key) : zb2 K H (zoD kvs (kD q) (.inr q) d) (putK kk q v) := by
 unfold zoD putK
 rw [zua h q]
 split
 ·exact zrW f h q
 ·exact zt8 f q h
theorem zp6 : ∀ {kvs : List (D × D)} {kk : List (List Key × V)}, zb0 K H kvs kk -> ∀ q : List Key, zb0 K H (zdu kvs (.inl q)) (zch kk q)
 | [], kk, h, q => by simp only [zb0] at h; subst h; simp [zdu, zch, zb0]
 | (k, d0) :: r, kk, h, q => by
  simp only [zb0] at h
  obtain ⟨q', v0, t, rfl, rfl, f0, h2⟩ := h
  have ih := zp6 h2 q
  by_cases c : q' = q
  ·subst c
   have e1 : zdu ((zlR q', d0) :: r) (.inl q') = zdu r (.inl q') := by simp [zdu, zdZ]
   rw [e1, zjv (p := (q', v0)) rfl]
   exact ih
  ·have e1 : zdu ((zlR q', d0) :: r) (.inl q) = (zlR q', d0) :: zdu r (.inl q) := by simp [zdu, zdZ, c]
   rw [e1, zjw (p := (q', v0)) c]
   simp only [zb0]
   exact ⟨q', v0, _, rfl, rfl, f0, ih⟩
theorem zp7 : ∀ {kvs : List (D × D)} {kk : List (Key × V)}, zb2 K H kvs kk -> ∀ q : Key, zb2 K H (zdu kvs (.inr q)) (zch kk q)
 | [], kk, h, q => by simp only [zb2] at h; subst h; simp [zdu, zch, zb2]
 | (k, d0) :: r, kk, h, q => by
  simp only [zb2] at h
  obtain ⟨q', v0, t, rfl, rfl, f0, h2⟩ := h
  have ih := zp7 h2 q
  by_cases c : q' = q
  ·subst c
   have e1 : zdu ((kD q', d0) :: r) (.inr q') = zdu r (.inr q') := by simp [zdu, zd0]
   rw [e1, zjv (p := (q', v0)) rfl]
   exact ih
  ·have e1 : zdu ((kD q', d0) :: r) (.inr q) = (kD q', d0) :: zdu r (.inr q) := by simp [zdu, zd0, c]
   rw [e1, zjw (p := (q', v0)) c]
   simp only [zb2]
   exact ⟨q', v0, _, rfl, rfl, f0, ih⟩
theorem zb0.len : ∀ {kvs : List (D × D)} {kk : List (List Key × V)}, zb0 K H kvs kk -> kk.length = kvs.length
 | [], kk, h => by simp only [zb0] at h; subst h; rfl
 | (k, d0) :: r, kk, h => by
  simp only [zb0] at h
  obtain ⟨q', v0, t, rfl, rfl, f0, h2⟩ := h
  simp [h2.len]
theorem zb2.len : ∀ {kvs : List (D × D)} {kk : List (Key × V)}, zb2 K H kvs kk -> kk.length = kvs.length
 | [], kk, h => by simp only [zb2] at h; subst h; rfl
 | (k, d0) :: r, kk, h => by
  simp only [zb2] at h
  obtain ⟨q', v0, t, rfl, rfl, f0, h2⟩ := h
  simp [h2.len]
theorem ziI {a : Addr} {u o : HO} (e : H a = some u) (ow : Own u) : Fzn H (upd H a o) := fun b w eb st => by
 rw [zaE fun z => by subst z; rw [e] at eb; cases eb; exact ow.zez st]
 exact eb
theorem ztZ {c k dv d' : D} {a : Addr} {y v : V} (m : zbP K H a c) (f : Fz K H k y) (g : Fz K H dv v) (e : zl1 c k dv = .ok d') : ∃ o, DP H a y v (upd H a o) /\ zbP K (upd H a o) a d' := by
 obtain ⟨⟨kvs, q⟩, e1, e⟩ := zav (show (dictAt c k).bind _ = .ok d' from e)
 obtain ⟨l, e⟩ := zbe e
 cases e
 obtain ⟨rfl, ek, c⟩ := zfK e1
 have hl : kvs.length + 1 <= sizeLine := Nat.le_trans (zhu l) zcN
 rcases (show (∃ kk, H a = some (.dT kk) /\ zb0 K H kvs kk) \/ ∃ kk, H a = some (.dK kk) /\ zb2 K H kvs kk from m) with ⟨kk, rd, h⟩ | ⟨kk, rd, h⟩
 ·have fz : ∀ o, Fzn H (upd H a o) := fun o => ziI rd trivial
  rcases zhD f.tp ek with ⟨ks, b, rfl, rfl, rfl, tb⟩ | ⟨k1, rfl, rfl, rfl⟩
  ·exact ⟨.dT (putK kk ks v), .inl (.inr ⟨kk, ks, b, rd, rfl, tb, by rw [h.len]; omega, rfl⟩), .inl ⟨_, zau, (zuL h g ks).mono (fz _)⟩⟩
  ·obtain ⟨rfl, rfl⟩ := znj h c
   exact ⟨.dK [(k1, v)], .inr (.inr ⟨k1, rd, rfl, rfl⟩), .inr ⟨_, zau, by
    simp only [zoD, List.any_nil, Bool.false_eq_true, if_false, List.nil_append, zb2]
    exact ⟨k1, v, [], rfl, rfl, g.mono (fz _), rfl⟩⟩⟩
 ·have fz : ∀ o, Fzn H (upd H a o) := fun o => ziI rd trivial
  rcases zhD f.tp ek with ⟨ks, b, rfl, rfl, rfl, tb⟩ | ⟨k1, rfl, rfl, rfl⟩
  ·obtain ⟨rfl, rfl⟩ := znk h c
   exact ⟨.dT [(ks, v)], .inr (.inl ⟨ks, b, rd, rfl, tb, rfl⟩), .inl ⟨_, zau, by
    simp only [zoD, List.any_nil, Bool.false_eq_true, if_false, List.nil_append, zb0]
    exact ⟨ks, v, [], rfl, rfl, g.mono (fz _), rfl⟩⟩⟩
  ·exact ⟨.dK (putK kk k1 v), .inl (.inl ⟨kk, k1, rd, rfl, by rw [h.len]; omega, rfl⟩), .inr ⟨_, zau, (zuM h g k1).mono (fz _)⟩⟩
def DDl (H : Hp) (a : Addr) (y : V) (o : HO) : Prop := (∃ kvs k, H a = some (.dK kvs) /\ y = kV k /\ (zhC kvs k).isSome = true /\ o = .dK (zch kvs k)) \/
 ∃ kvs k b, H a = some (.dT kvs) /\ y = .ref b /\ TAt H b (k.map kV) /\ (zhC kvs k).isSome = true /\ o = .dT (zch kvs k)
theorem zvw {c k d' : D} {a : Addr} {y : V} (m : zbP K H a c) (f : Fz K H k y) (e : zpn c k = .ok d') : ∃ o, DDl H a y o /\ zbP K (upd H a o) a d' := by
 obtain ⟨⟨kvs, q⟩, e1, e⟩ := zav (show (dictAt c k).bind _ = .ok d' from e)
 obtain ⟨l, e⟩ := zbe e
 cases e
 obtain ⟨rfl, ek, c⟩ := zfK e1
 rcases (show (∃ kk, H a = some (.dT kk) /\ zb0 K H kvs kk) \/ ∃ kk, H a = some (.dK kk) /\ zb2 K H kvs kk from m) with ⟨kk, rd, h⟩ | ⟨kk, rd, h⟩
 ·have fz : ∀ o, Fzn H (upd H a o) := fun o => ziI rd trivial
  rcases zhD f.tp ek with ⟨ks, b, rfl, rfl, rfl, tb⟩ | ⟨k1, rfl, rfl, rfl⟩
  ·refine ⟨.dT (zch kk ks), .inr ⟨kk, ks, b, rd, rfl, tb, ?_, rfl⟩, .inl ⟨_, zau, (zp6 h ks).mono (fz _)⟩⟩
   rcases zna h ks with ⟨z1, z2⟩ | ⟨d, v, z1, z2, z3⟩
   ·rw [show look kvs (.inl ks) = none from z1] at l; cases l
   ·rw [z2]; rfl
  ·obtain ⟨rfl, rfl⟩ := znj h c
   cases l
 ·have fz : ∀ o, Fzn H (upd H a o) := fun o => ziI rd trivial
  rcases zhD f.tp ek with ⟨ks, b, rfl, rfl, rfl, tb⟩ | ⟨k1, rfl, rfl, rfl⟩
  ·obtain ⟨rfl, rfl⟩ := znk h c
   cases l
  ·refine ⟨.dK (zch kk k1), .inl ⟨kk, k1, rd, rfl, ?_, rfl⟩, .inr ⟨_, zau, (zp7 h k1).mono (fz _)⟩⟩
   rcases znb h k1 with ⟨z1, z2⟩ | ⟨d, v, z1, z2, z3⟩
   ·rw [show look kvs (.inr k1) = none from z1] at l; cases l
   ·rw [z2]; rfl
end
end FL
namespace FL
open PySem L2 PySem.Spec
open PyProof.Rows hiding St
variable [Cs]
section
variable {X : Cx}
theorem zsp (hu : X.A.units + 1 < cLine) : OpR X (compareOp .In) (rD X.K inD) := by
 intro pins s σ H x y v u Q I rx ry h
 obtain ⟨dx, dy, d, tx, ty, e, q⟩ := h
 obtain ⟨o, e1, e⟩ := zav (show (zfp dy dx).bind _ = .ok d from e)
 cases e
 obtain ⟨a, r, rfl, _, g, rel⟩ := zrl ty tx e1
 cases ry
 have hb : o.isSome = r.isSome := by
  rcases rel with ⟨rfl, rfl⟩ | ⟨_, _, rfl, rfl, _⟩ <;> rfl
 exact zvv hu I g rx fun s3 I3 => ⟨.bl r.isSome, H, I3, rfl, q _ H (zba.refl _) (by rw [hb]; simp [Fz])⟩
theorem ziE (hu : X.A.units + 1 < cLine) : IxR X (rD X.K ziL) := by
 intro value slice pins s σ H x y v u Q I rx ry h hs
 obtain ⟨dx, dy, d, tx, ty, e, q⟩ := h
 obtain ⟨o, e1, e⟩ := zav (show (zfp dx dy).bind _ = .ok d from e)
 have eo := zkQ e
 subst eo
 obtain ⟨a, r, rfl, _, g, rel⟩ := zrl tx ty e1
 cases rx
 rcases rel with ⟨z, _⟩ | ⟨d', w, z, rfl, fz⟩
 ·cases z
 cases z
 rcases g with g | ⟨z, _⟩ | ⟨z, _⟩
 ·have hT := zki I g
  have h2 : wpAny (model X.prog X.w) X.A (getItem (.ref a) u) (EP X pins σ Q) X.xe s := znM hu I g ry fun w' s3 I3 rw' => ⟨w, H, I3, rw', q w H (zba.refl _) fz⟩
  unfold subscriptTail
  refine wpAny_bind ?_
  rw [getitemInPython_of_ne hT.not_modules]
  refine wpAny_bind (wpAny_specialOf hT PySem.F.slot_dict_getitem.lookup ?_)
  have fin : wpAny (model X.prog X.w) X.A (subscripted slice false (.ref a) u) (fun r s₃ => wpAny (model X.prog X.w) X.A (letTemporaryGo value (.ref a) r >>= fun _ => pure r) (EP X pins σ Q) X.xe s₃) X.xe s := by
   rw [hs]
   exact wpAny_operating (wpAny_mono h2 (fun r s₃ h₃ => wpAny_bind (wpAny_letTemporaryGo (wpAny_pure h₃))) fun _ _ x => x)
  first
   | exact wpAny_pure (wpAny_bind fin)
   | exact wpAny_bind (wpAny_pure (wpAny_bind fin))
   | exact wpAny_bind fin
 ·cases z
 ·cases z
end
section
variable {K : PySem.W.Frag} {X : Cx} {o e e' : Expr} {fd fk fx f : EF} {apos cpos pos : Pos}
theorem zlI {H : Hp} {a : Addr} {d : D} {kvs : List (D × D)} (m : zbP K H a (.dict kvs)) : IsD H a := by
 rcases (show (∃ kk, H a = some (.dT kk) /\ _) \/ ∃ kk, H a = some (.dK kk) /\ _ from m) with ⟨kk, rd, _⟩ | ⟨kk, rd, _⟩
 ·exact .inr ⟨kk, .inl rd⟩
 ·exact .inl ⟨kk, .inl rd⟩
theorem zoC {y : Str} {py : Pos} (i : Nat) (hu : X.A.units + 1 < cLine) (ha : PE X (.Name y py) (zkF i)) (he : PV K X e fk) (hf : PV K X e' fx) (m : M2 X (.Name y py) "get" apos e e' cpos) : PV K X (.Call (.Attribute (.Name y py) "get" apos) [e, e'] [] cpos) (zm7 i fk fx) := fun hK => by
 subst hK
 refine (zoQ hu ha (he rfl) (hf rfl) m).weak fun σ H Q => ?_
 rintro ⟨ρ, rel, q⟩
 obtain ⟨d0, ed0, q0⟩ := q.zeU
 obtain ⟨ks0, ek0, q1⟩ := q0.zeU
 cases d0 with
 | dict kvs0 =>
  obtain ⟨a, at0, m0⟩ := rel.zlJ ed0
  refine ⟨.ref a, at0.2, a, rfl, zlI (d := .none) m0, goV rel q1 fun dk ρ2 y H2 rel2 st2 fz2 q2 => goV rel2 q2 fun dz ρ3 z H3 rel3 st3 fz3 q3 => ?_⟩
  obtain ⟨c, ec, q4⟩ := q3.zeU
  obtain ⟨dr, er, q5⟩ := q4.zeU
  obtain ⟨o1, e1, er⟩ := zav (show (zfp c dk).bind _ = .ok dr from er)
  cases er
  obtain ⟨a', r, ea', _, g, rl⟩ := zrl (rel3.again ec at0).tp (fz2.mono (st3.fzn rel2)).tp e1
  cases ea'
  refine ⟨r, g, q5.now rel3 _ ?_⟩
  rcases rl with ⟨rfl, rfl⟩ | ⟨d, v, rfl, rfl, fv⟩
  ·exact fz3
  ·exact fv
 | _ => cases ek0
theorem zoy {y : Str} {py ps' : Pos} {ke : Expr} {k : EF} (i : Nat) (hu : X.A.units + 1 < cLine) (ha : PE X (.Name y py) (zkF i)) (he : PV K X e f) (hk : PV K X ke k)
  (hs : swapsWith e (some (.Subscript (.Name y py) ke ps')) pos.line X.env = pure false := by rfl) : PSV K X (.Assign [.Subscript (.Name y py) ke ps'] e pos) (znO i k f) := fun hK C => by
 subst hK
 refine (zqI hu ha (hk rfl) (he rfl) hs).weak fun Dn σ H => ?_
 rintro ⟨ρ, rel, g⟩
 refine znz rel g fun dv ρ1 v H1 rel1 st1 fv g1 => ?_
 obtain ⟨d, ed, g2⟩ := g1.bnd
 obtain ⟨a, at0, m0⟩ := rel1.rel.zlJ ed
 refine ⟨.ref a, at0.2, znz rel1 g2 fun dk ρ2 kv H2 rel2 st2 fk g3 => ?_⟩
 obtain ⟨c, ec, g4⟩ := g3.bnd
 obtain ⟨d', ed', g5⟩ := g4.bnd
 obtain ⟨o, dp, mm⟩ := ztZ (rel2.rel.again ec at0) fk (fv.mono (st2.fzn rel1.rel)) ed'
 obtain ⟨a2, at2, _⟩ := rel2.rel.zlJ ec
 have := at0.2.symm.trans at2.2
 cases this
 exact ⟨a, _, rfl, dp, zpc rel2 at2 mm g5⟩
def zuF (td ty : TE) : TS := fun D σ H => td σ H fun x H1 => ty σ H1 fun y H2 => ∃ a o, x = .ref a /\ DDl H2 a y o /\ D.nx σ (upd H2 a o)
theorem zqJ {i o : Expr} {td ty : TE} {tpos : Pos} (hu : X.A.units + 1 < cLine) (ho : PE X o td) (hi : PE X i ty) : PS X (.Delete [.Subscript o i tpos] pos) (zuF td ty) := by
 intro pins s σ H D I h
 refine wpAny_Delete (wpAny_deleteEach_cons (wpAny_delete_Subscript (thn (ho pins s σ H _ I h) fun u s1 ⟨x, H1, I1, rx, q1⟩ => thn (hi pins s1 σ H1 _ I1 q1) fun iv s2 ⟨y, H2, I2, ry, a, o, ex, dd, q2⟩ => ?_)))
 subst ex
 obtain rfl : u = Value.ref a := rx
 rcases dd with ⟨kvs, k, e, rfl, l, rfl⟩ | ⟨kvs, k, b, e, rfl, eb, l, rfl⟩
 ·exact znN I2 e ry l fun s3 I3 => wpAny_deleteEach_nil ⟨σ, _, I3, q2⟩
 ·obtain rfl : iv = Value.ref b := ry
  exact zt1 hu I2 e eb l fun s3 I3 => wpAny_deleteEach_nil ⟨σ, _, I3, q2⟩
theorem zoz {y : Str} {py tpos : Pos} {ke : Expr} {k : EF} (i : Nat) (hu : X.A.units + 1 < cLine) (ha : PE X (.Name y py) (zkF i)) (hk : PV K X ke k) : PSV K X (.Delete [.Subscript (.Name y py) ke tpos] pos) (znP i k) := fun hK C => by
 subst hK
 refine (zqJ hu ha (hk rfl)).weak fun Dn σ H => ?_
 rintro ⟨ρ, rel, g⟩
 obtain ⟨d, ed, g2⟩ := g.bnd
 obtain ⟨a, at0, m0⟩ := rel.rel.zlJ ed
 refine ⟨.ref a, at0.2, znz rel g2 fun dk ρ2 kv H2 rel2 st2 fk g3 => ?_⟩
 obtain ⟨c, ec, g4⟩ := g3.bnd
 obtain ⟨d', ed', g5⟩ := g4.bnd
 obtain ⟨o, dd, mm⟩ := zvw (rel2.rel.again ec at0) fk ed'
 obtain ⟨a2, at2, _⟩ := rel2.rel.zlJ ec
 have := at0.2.symm.trans at2.2
 cases this
 exact ⟨a, o, rfl, dd, zpc rel2 at2 mm g5⟩
theorem zmF : PVN K X (.Dict [] [] pos) zlb := fun hK => zoR.weak fun σ H Q => by
 rintro ⟨ρ, rel, q⟩ p hp
 exact q.new rel (zba.upd hp) p hp (.inl ⟨[], zau, by simp [zb0]⟩)
theorem zr8 {tg l : Expr} {tl : TE} (hl : PE X l tl) : PI X tg l (fun σ H R => tl σ H fun x H1 => ∃ d o, x = .ref d /\ ((∃ kvs, H1 d = some (.frz o (.dT kvs)) /\ R (zvH d o kvs) H1) \/ ∃ kvs, H1 d = some (.frz o (.dK kvs)) /\ R (Itd d o kvs) H1)) := by
 intro pins s σ H R I h
 refine thn (hl pins s σ H _ I h) fun v s1 ⟨x, H1, I1, r1, q1⟩ => ?_
 obtain ⟨d, o, e, q1⟩ := q1
 subst e
 cases r1
 rcases q1 with ⟨kvs, e, q⟩ | ⟨kvs, e, q⟩
 ·obtain ⟨e0, _, _, _, _, o', es, ep, e', _, dd, _⟩ := id (show zbV X.prog X.w H1 s1.heap d (.frz o (.dT kvs)) from I1.hok d _ e)
  rw [e0] at e'
  cases e'
  obtain ⟨xs, kt, da, he, sy⟩ := zkg (I1.hok d _ e) dd
  refine zsI sy da ?_
  refine ⟨s1.heap.objs.size, [s1.heap.objs.size], _, _, H1, rfl, I1.kept (t' := s1.toks) fun b o e => Heap.get?_push_of_some _ e, zls d _ dd, ⟨_, Heap.get?_push_size _ rfl, rfl, rfl⟩, fun b hb => ?_, q⟩
  have e : b = s1.heap.objs.size := by simpa using hb
  subst e
  exact I1.zph (Nat.le_refl _) (I1.hok.fresh (Nat.le_refl _))
 ·obtain ⟨e0, _, _, vs0, _, o', es, ep, e', _, dd, _⟩ := id (show zbV X.prog X.w H1 s1.heap d (.frz o (.dK kvs)) from I1.hok d _ e)
  rw [e0] at e'
  cases e'
  obtain ⟨vs, kv, da, sy⟩ := znD (I1.hok d _ e) dd
  refine wpAny_pyIter_dict sy da ?_
  refine ⟨s1.heap.objs.size, [s1.heap.objs.size], _, _, H1, rfl, I1.kept (t' := s1.toks) fun b o e => Heap.get?_push_of_some _ e, zme d _ dd, ⟨_, Heap.get?_push_size _ rfl, rfl, by rw [kv.len]; rfl⟩, fun b hb => ?_, q⟩
  have e : b = s1.heap.objs.size := by simpa using hb
  subst e
  exact I1.zph (Nat.le_refl _) (I1.hok.fresh (Nat.le_refl _))
theorem zb0.at {H : Hp} : ∀ {kvs : List (D × D)} {kk : List (List Key × V)} {i : Nat} {d : D}, zb0 K H kvs kk -> (kvs.map (·.1))[i]? = some d -> ∃ q v, kk[i]? = some (q, v) /\ d = zlR q
 | [], kk, i, d, h, e => by simp at e
 | (k, d0) :: r, kk, i, d, h, e => by
  simp only [zb0] at h
  obtain ⟨q', v0, t, rfl, rfl, f0, h2⟩ := h
  cases i with
  | zero => simp at e; exact ⟨q', v0, rfl, e.symm⟩
  | succ i =>
   obtain ⟨q, v, z1, z2⟩ := zb0.at h2 (i := i) (by simpa using e)
   exact ⟨q, v, by simpa using z1, z2⟩
theorem zb2.at {H : Hp} : ∀ {kvs : List (D × D)} {kk : List (Key × V)} {i : Nat} {d : D}, zb2 K H kvs kk -> (kvs.map (·.1))[i]? = some d -> ∃ q v, kk[i]? = some (q, v) /\ d = kD q
 | [], kk, i, d, h, e => by simp at e
 | (k, d0) :: r, kk, i, d, h, e => by
  simp only [zb2] at h
  obtain ⟨q', v0, t, rfl, rfl, f0, h2⟩ := h
  cases i with
  | zero => simp at e; exact ⟨q', v0, rfl, e.symm⟩
  | succ i =>
   obtain ⟨q, v, z1, z2⟩ := zb2.at h2 (i := i) (by simpa using e)
   exact ⟨q, v, by simpa using z1, z2⟩
theorem zqk {H : Hp} {a : Addr} {o : Obj} {kvs : List (D × D)} {kk : List (List Key × V)} (h : H a = some (.frz o (.dT kk))) (f : zb0 K H kvs kk) : Walk K (zvH a o kk) (kvs.map (·.1)) H := by
 refine ⟨fun i d H' fz e => ?_, fun i H' fz e => ⟨fz _ _ h trivial, by rw [f.len]; simpa using e⟩⟩
 obtain ⟨q, v, e1, rfl⟩ := f.at e
 refine ⟨⟨fz _ _ h trivial, (List.getElem?_eq_some_iff.mp e1).1⟩, fun x H'' y => ?_⟩
 obtain ⟨rfl, k, v', b, e2, rfl, tb⟩ := y
 rw [e1] at e2
 cases e2
 exact ⟨zba.refl _, znC tb⟩
theorem zql {H : Hp} {a : Addr} {o : Obj} {kvs : List (D × D)} {kk : List (Key × V)} (h : H a = some (.frz o (.dK kk))) (f : zb2 K H kvs kk) : Walk K (Itd a o kk) (kvs.map (·.1)) H := by
 refine ⟨fun i d H' fz e => ?_, fun i H' fz e => ⟨fz _ _ h trivial, by rw [f.len]; simpa using e⟩⟩
 obtain ⟨q, v, e1, rfl⟩ := f.at e
 refine ⟨⟨fz _ _ h trivial, (List.getElem?_eq_some_iff.mp e1).1⟩, fun x H'' y => ?_⟩
 obtain ⟨rfl, k, v', e2, rfl⟩ := y
 rw [e1] at e2
 cases e2
 exact ⟨zba.refl _, zre⟩
theorem ziq {tg : Expr} (he : PV K X e f) : PVI K X tg e (iD f) := fun hK => by
 subst hK
 refine (zr8 (he rfl)).weak fun σ H R => ?_
 rintro ⟨ρ, rel, q⟩
 refine goV rel q fun dx ρ1 x H1 rel1 st1 fx q1 => ?_
 obtain ⟨items, ei, q2⟩ := q1.zeU
 cases dx with
 | dict kvs =>
  cases ei
  simp only [Fz] at fx
  obtain ⟨a, o, rfl, h⟩ := fx
  rcases h with ⟨kk, h1, h2⟩ | ⟨kk, h1, h2⟩
  ·exact ⟨a, o, rfl, .inl ⟨kk, h1, q2.now rel1 _ (zqk h1 h2)⟩⟩
  ·exact ⟨a, o, rfl, .inr ⟨kk, h1, q2.now rel1 _ (zql h1 h2)⟩⟩
 | _ => cases ei
end
end FL
namespace FL
open PySem L2 PySem.Spec
open PyProof.Rows hiding St
variable [Cs]
theorem zpR (p q : WK) : ltW p q = L2.ltK p q := by
 unfold ltW L2.ltK
 rw [ziw]
theorem znc : ∀ a b : List Int, HT.lexLt a b = false -> HT.lexLt b a = false -> a = b
 | [], [], _, _ => rfl
 | [], _ :: _, h, _ => by cases h
 | _ :: _, [], _, h => by cases h
 | x :: xs, y :: ys, h1, h2 => by
  simp only [HT.lexLt] at h1 h2
  by_cases c : x = y
  ·subst c
   rw [if_pos rfl] at h1 h2
   rw [znc xs ys h1 h2]
  ·rw [if_neg c] at h1
   rw [if_neg (Ne.symm c)] at h2
   have a1 := of_decide_eq_false h1
   have a2 := of_decide_eq_false h2
   omega
theorem zq5 (p q : WK) (h1 : L2.ltK p q = false) (h2 : L2.ltK q p = false) : p = q := by
 unfold L2.ltK at h1 h2
 by_cases c : p.1 = q.1
 ·rw [if_pos c] at h1
  rw [if_pos c.symm] at h2
  exact Prod.ext c (znc _ _ h1 h2)
 ·rw [if_neg c] at h1
  rw [if_neg (Ne.symm c)] at h2
  have a1 := of_decide_eq_false h1
  have a2 := of_decide_eq_false h2
  omega
def LeP (x y : WK × D) : Prop := L2.ltK y.1 x.1 = false
theorem zo9 {x z : WK × D} {l : List (WK × D)} (h : z ∈ znu x l) : z = x \/ z ∈ l := by
 have := (zgU x l).mem_iff.mp h
 simpa using this
theorem zgT (x : WK × D) : ∀ l : List (WK × D), l.Pairwise LeP -> (znu x l).Pairwise LeP
 | [], _ => by simp [znu]
 | y :: r, h => by
  unfold znu
  rw [List.pairwise_cons] at h
  split
  ·rename_i c
   rw [zpR] at c
   rw [List.pairwise_cons]
   refine ⟨fun z hz => ?_, zgT x r h.2⟩
   rcases zo9 hz with rfl | hz
   ·exact zpT _ _ c
   ·exact h.1 z hz
  ·rename_i c
   rw [zpR] at c
   have c' : L2.ltK y.1 x.1 = false := by simpa using c
   rw [List.pairwise_cons]
   refine ⟨fun z hz => ?_, List.pairwise_cons.mpr h⟩
   rcases List.mem_cons.mp hz with rfl | hz
   ·exact c'
   ·exact zpS _ _ _ c' (h.1 z hz)
theorem zfl : ∀ l : List (WK × D), (zf5 l).Pairwise LeP
 | [] => .nil
 | x :: r => zgT x _ (zfl r)
theorem zgE {α : Type} {le : α -> α -> Prop} : ∀ {l1 l2 : List α}, l1.Perm l2 -> l1.Pairwise le -> l2.Pairwise le -> (∀ a ∈ l1, ∀ b ∈ l1, le a b -> le b a -> a = b) -> l1 = l2
 | [], l2, h, _, _, _ => (List.nil_perm.mp h).symm
 | a :: r1, [], h, _, _, _ => by have := h.length_eq; simp at this
 | a :: r1, b :: r2, h, p1, p2, an => by
  rw [List.pairwise_cons] at p1 p2
  have e : a = b := by
   have ha : a ∈ b :: r2 := h.mem_iff.mp (List.mem_cons_self ..)
   have hb : b ∈ a :: r1 := h.mem_iff.mpr (List.mem_cons_self ..)
   rcases List.mem_cons.mp ha with e | ha'
   ·exact e
   rcases List.mem_cons.mp hb with e | hb'
   ·exact e.symm
   exact an a (List.mem_cons_self ..) b (List.mem_cons_of_mem _ hb') (p1.1 b hb') (p2.1 a ha')
  subst e
  rw [zgE ((List.perm_cons a).mp h) p1.2 p2.2 fun x hx y hy => an x (List.mem_cons_of_mem _ hx) y (List.mem_cons_of_mem _ hy)]
theorem zgs : ∀ {ws : List WK} {ks : List D} {x y : WK × D}, ws.Nodup -> x ∈ ws.zip ks -> y ∈ ws.zip ks -> x.1 = y.1 -> x = y
 | [], ks, x, y, _, h, _, _ => by simp at h
 | _ :: _, [], x, y, _, h, _, _ => by simp at h
 | w :: ws, k :: ks, x, y, nd, h1, h2, e => by
  rw [List.nodup_cons] at nd
  rw [List.zip_cons_cons] at h1 h2
  rcases List.mem_cons.mp h1 with rfl | h1
  ·rcases List.mem_cons.mp h2 with rfl | h2
   ·rfl
   ·exact absurd (by rw [show w = y.1 from e]; exact (List.of_mem_zip h2).1) nd.1
  ·rcases List.mem_cons.mp h2 with rfl | h2
   ·exact absurd (by rw [show w = x.1 from e.symm]; exact (List.of_mem_zip h1).1) nd.1
   ·exact zgs nd.2 h1 h2 e
theorem zmA (ws : List WK) (ks : List D) (h : ws.length = ks.length) : (List.range ks.length).map (fun i => (ws.getD i (0, []), ks.getD i PyData.none)) = ws.zip ks := by
 apply List.ext_getElem
 ·simp [h]
 ·intro i h1 h2
  have hi : i < ks.length := by simpa using h1
  have hi' : i < ws.length := by omega
  simp [List.getD_eq_getElem?_getD, List.getElem?_eq_getElem hi, List.getElem?_eq_getElem hi']
theorem zmj {ws : List WK} {ks : List D} {p : Array Nat} (hl : ws.length = ks.length) (nd : ws.Nodup) (ar : Arr ks.length p) (up : Up (ltP ws) p ks.length) : p.toList.map (fun i => ks.getD i PyData.none) = (zf5 (ws.zip ks)).map (·.2) := by
 have hp : (p.toList.map fun i => (ws.getD i (0, []), ks.getD i PyData.none)).Perm (ws.zip ks) := by
  have := (Array.perm_iff_toList_perm.mp ar.pm).map fun i => (ws.getD i (0, []), ks.getD i PyData.none)
  rw [List.toList_toArray, zmA ws ks hl] at this
  exact this
 have e : (p.toList.map fun i => (ws.getD i (0, []), ks.getD i PyData.none)) = zf5 (ws.zip ks) := by
  refine zgE (hp.trans (zgQ _).symm) ?_ (zfl _) fun x hx y hy h1 h2 => ?_
  ·rw [List.pairwise_iff_getElem]
   intro i j hi hj hij
   have hi' : i < p.size := by simpa using hi
   have hj' : j < p.size := by simpa using hj
   have := up i j (Nat.le_of_lt hij) (by rw [<- ar.sz]; exact hj')
   rw [show gp p i = p[i] by simp [gp, Array.getD, hi'], show gp p j = p[j] by simp [gp, Array.getD, hj']] at this
   simpa [LeP, ltP] using this
  ·exact zgs nd (hp.mem_iff.mp hx) (hp.mem_iff.mp hy) (zq5 _ _ h2 h1)
 rw [<- e, List.map_map]
 rfl
section
variable {K : PySem.W.Frag} {X : Cx} {H : Hp}
theorem zpW : ∀ {kvs : List (D × D)} {kk : List (List Key × V)} {xs : List V}, zb0 K H kvs kk -> KTs H kk xs -> zak K H (kvs.map (·.1)) xs
 | [], kk, xs, h, t => by
  simp only [zb0] at h
  subst h
  have : xs = [] := t
  subst this
  simp [zak]
 | (k, d) :: r, kk, xs, h, t => by
  simp only [zb0] at h
  obtain ⟨q, v, t', rfl, rfl, f, h2⟩ := h
  obtain ⟨b, u, rfl, tb, t2⟩ := t
  simp only [List.map_cons, zak]
  exact ⟨_, _, rfl, znC tb, zpW h2 t2⟩
theorem zpY : ∀ {kvs : List (D × D)} {kk : List (Key × V)}, zb2 K H kvs kk -> zak K H (kvs.map (·.1)) (kk.map fun kv => kV kv.1)
 | [], kk, h => by simp only [zb2] at h; subst h; simp [zak]
 | (k, d) :: r, kk, h => by
  simp only [zb2] at h
  obtain ⟨q, v, t', rfl, rfl, f, h2⟩ := h
  simp only [List.map_cons, zak]
  exact ⟨_, _, rfl, zre, zpY h2⟩
theorem ziK {kvs : List (D × D)} {d : Addr} {xs : List V} (h : Fz K H (.dict kvs) (.ref d)) (t : zog H d xs) : zak K H (kvs.map (·.1)) xs := by
 simp only [Fz] at h
 obtain ⟨a, o, e, h⟩ := h
 cases e
 rcases h with ⟨kk, h1, h2⟩ | ⟨kk, h1, h2⟩
 ·rcases t with ⟨kk', rd, t⟩ | ⟨kk', rd, t⟩
  ·have : kk' = kk := by
    rcases rd with z | ⟨o', z⟩
    ·rw [h1] at z; cases z
    ·rw [h1] at z; cases z; rfl
   subst this
   exact zpW h2 t
  ·rcases rd with z | ⟨o', z⟩
   ·rw [h1] at z; cases z
   ·rw [h1] at z; cases z
 ·rcases t with ⟨kk', rd, t⟩ | ⟨kk', rd, t⟩
  ·rcases rd with z | ⟨o', z⟩
   ·rw [h1] at z; cases z
   ·rw [h1] at z; cases z
  ·have : kk' = kk := by
    rcases rd with z | ⟨o', z⟩
    ·rw [h1] at z; cases z
    ·rw [h1] at z; cases z; rfl
   subst this
   subst t
   exact zpY h2
theorem zsO {kvs : List (D × D)} {d : Addr} (h : Fz K H (.dict kvs) (.ref d)) : IsD H d := by
 simp only [Fz] at h
 obtain ⟨a, o, e, h⟩ := h
 cases e
 rcases h with ⟨kk, h1, h2⟩ | ⟨kk, h1, h2⟩
 ·exact .inr ⟨kk, .inr ⟨o, h1⟩⟩
 ·exact .inl ⟨kk, .inr ⟨o, h1⟩⟩
theorem zrE {kd : D} {w : WK} {v : V} (e : zuf kd = some w) (f : Fz K H kd v) : zfS H w v := by
 unfold zuf at e
 split at e
 ·rename_i n xs
  rw [Option.map_eq_some_iff] at e
  obtain ⟨w0, e0, rfl⟩ := e
  simp only [Fz, zak] at f
  obtain ⟨b, vs, rfl, tb, v1, r1, rfl, rfl, v2, r2, rfl, ⟨c, ws, rfl, tc, fw⟩, rfl⟩ := f
  obtain ⟨rfl, _⟩ := zak.ints fw e0
  exact ⟨b, c, rfl, tb, tc⟩
 ·cases e
theorem zjk {p1 : Str} {k : Nat} {f : Addr} {fd : FuncData} {G : List D -> R D} {σ : L2.St} (hr : zeF k X.A) (hb : Binds X.K fd [p1] []) (F : zh1 X.prog X.w X.K X.mg X.base (CXe X.prog X.w) k f fd [p1] (spP X.K 1 false G)) (cst : zqg H) :
  ∀ {ds : List D} {xs : List V} {ws : List WK}, zak X.K H ds xs -> zgN G ds = .ok ws -> zhY X σ H f xs ws
 | [], xs, ws, h, e => by
  simp only [zak] at h
  subst h
  cases e
  rfl
 | d :: ds, xs, ws, h, e => by
  simp only [zak] at h
  obtain ⟨v, r, rfl, h1, h2⟩ := h
  obtain ⟨kd, e1, e⟩ := zav (show (G [d]).bind _ = .ok ws from e)
  obtain ⟨w, e2, e⟩ := zav e
  obtain ⟨ws', e3, e⟩ := zav e
  cases e
  refine ⟨w, ws', rfl, fun u pins' H' s' ru sm I => ?_, zjk hr hb F cst h2 e3⟩
  have hl : ([u] ++ ([] : List Value)).length = [p1].length := rfl
  refine wpAny_call (codeAny_mono (F.run X.A X.stack s' H' ⟨[u], []⟩ ([u] ++ []) [v] (fun k H'' => zba H' H'' /\ zfS H'' w k) (fun _ _ _ => False) hr I.env0 (hb s' [u] I.kIn hl) (.cons ru .nil) ?_) fun r s2 hq => ?_)
  ·refine ⟨[d], rfl, cst.mono (Fzn.of sm), ?_, kd, e1, fun k H'' sm2 fz => ⟨sm2, zrE (zkQ e2) fz⟩⟩
   simp only [zak]
   exact ⟨v, [], rfl, h1.mono (Fzn.of sm), rfl⟩
  ·cases r with
   | error ev =>
    obtain ⟨_, _, _, _, _, _, _, _, _, _, _, _, _, _, _, z⟩ := (show CXe X.prog X.w X.stack H' s' (fun _ _ _ => False) ev s2 from hq)
    exact z.elim
   | ok fl =>
    cases fl with
    | ret u => exact I.after hq
    | next => exact False.elim hq
    | brk => exact False.elim hq
    | cont => exact False.elim hq
theorem zak.pick {ds : List D} {xs : List V} (h : zak K H ds xs) : ∀ (p : List Nat), (∀ i ∈ p, i < ds.length) -> zak K H (p.map fun i => ds.getD i PyData.none) (p.map fun i => xs.getD i .non)
 | [], _ => by simp [zak]
 | i :: p, hp => by
  simp only [List.map_cons, zak]
  have hi := hp i (List.mem_cons_self ..)
  obtain ⟨v, ev, fv⟩ := h.get (List.getElem?_eq_getElem hi)
  refine ⟨_, _, rfl, ?_, zak.pick h p fun j hj => hp j (List.mem_cons_of_mem _ hj)⟩
  rw [List.getD_eq_getElem?_getD, List.getD_eq_getElem?_getD, ev, List.getElem?_eq_getElem hi]
  exact fv
theorem zmD {x p1 : Str} {k j : Nat} {G : List D -> R D} {e : Expr} {f : EF} {p px kp pos : Pos} (c : Callee X.prog X.w X.K X.mg X.base x k [p1] (spP X.K 1 false G)) (hr : zeF j X.A) (hc : X.calm = true) (hgs : Gl X "sorted") (hms : X.mg "sorted" = none) (hgx : Gl X x) (he : PV K X e f) (hj : k + 2 <= j := by decide)
  (hv : bootBuiltins "sorted" = some (.builtin "sorted") := by decide +kernel) (hdx : (x == ("__debug__" : Str)) = false := by decide) (hs : starEach [e] X.env = (false, eval e X.env) :: starEach [] X.env := by rfl)
  (hst : backTo pos (starEach [e] X.env) = (false, eval e X.env) :: backTo pos (starEach [] X.env) := by rfl) (hpl : (backTo pos (starEach [e] X.env)).any (·.1) = false := by rfl) :
  PVN K X (.Call (.Name "sorted" p) [e] [⟨some "key", .Name x px, kp⟩] pos) (e1 (zhE G) f) := fun hK => by
 subst hK
 obtain ⟨fa, fd, hm, hkp, hb, F⟩ := c
 intro pins s σ H Q I h
 obtain ⟨ρ, rel, q⟩ := h
 have q0 : (tA X.K (zac f zar)) σ H fun vs H1 => ∃ dd v ρ1, vs = [v] /\ Rel X.K ρ1 σ H1 /\ Stp ρ ρ1 σ H H1 /\ Fz X.K H1 dd v /\ Good X.K ρ1 σ H1 ((zhE G dd).bind fun d => .ok (d, ρ1)) fun d ρ' H' => ∀ a, H a = none -> zbP X.K H' a d -> Q (.ref a) H' := by
  obtain ⟨y, ey, q⟩ := q.bnd
  refine ⟨ρ, rel, ?_⟩
  show Good X.K ρ σ H ((f ρ).bind fun x => (zar x.2).bind fun y => .ok (x.1 :: y.1, y.2)) _
  rw [ey]
  intro H1 rel1 st1 vs fs
  simp only [zak] at fs
  obtain ⟨v, r, rfl, fv, rfl⟩ := fs
  exact ⟨y.1, v, y.2, rfl, rel1, st1, fv, q.step st1⟩
 refine wpAny_Call_Name_kw (zhO I hgs hms hv ?_)
 refine callWith_kw (thn ((zab he zai hs rfl) pos pins s σ H _ I q0) fun us s1 ⟨vs, H1, I1, r1, dd, v, ρ1, evs, rel1, st1, fv, q1⟩ => ?_) hst hpl rfl rfl
 subst evs
 cases r1 with
 | cons ru rn =>
  cases rn
  refine kws_cons (zj7 I1 hgx hm (kws_nil ?_) hdx)
  obtain ⟨dr, edr, q2⟩ := q1.zeU
  obtain ⟨ks, e1, edr⟩ := zav (show (zlQ dd).bind _ = .ok dr from edr)
  obtain ⟨cl, edr⟩ := zbe edr
  obtain ⟨ws, e2, edr⟩ := zav edr
  obtain ⟨cn, edr⟩ := zbe edr
  cases edr
  cases dd with
  | dict kvs =>
   cases e1
   have hd : ∃ d, v = .ref d := by
    simp only [Fz] at fv
    obtain ⟨a, _, e, _⟩ := fv
    exact ⟨a, e⟩
   obtain ⟨d, rfl⟩ := hd
   cases ru
   have hlen : (kvs.map (·.1)).length < 64 := zhu cl
   have hu := hr.un
   have hu : X.A.units + 3 < cLine := by omega
   have rr : zeF k X.in1.in1.A := ((hr.mono hj : zeF (k + 1 + 1) X.A).in1).in1
   have wlen : ∀ {ds : List D} {ws : List WK}, zgN G ds = .ok ws -> ws.length = ds.length := by
    intro ds
    induction ds with
    | nil => intro ws h; cases h; rfl
    | cons d0 r0 ih =>
     intro ws h
     obtain ⟨_, _, h⟩ := zav (show (G [d0]).bind _ = .ok ws from h)
     obtain ⟨_, _, h⟩ := zav h
     obtain ⟨ws', e3, h⟩ := zav h
     cases h
     simp [ih e3]
   have wl := wlen e2
   refine zjz (f := fa) hu hc I1 (zsO fv) (fun xs dk => by rw [(ziK fv dk).len]; exact hlen) fun xs dk => ⟨ws, zjk (X := X.in1.in1) rr hb F rel1.cst (ziK fv dk) e2, fun pp a H' ar up sm ha => ?_⟩
   have fx := ziK fv dk
   rw [fx.len] at ar up
   have su := zmj wl (of_decide_eq_true cn) ar up
   have sm2 : zba H1 (upd H' a (.lst (pp.toList.map fun i => xs.getD i .non))) := zhG sm (zba.upd ha)
   refine q2.new rel1 sm2 a ?_ ?_
   ·have h1a : H1 a = none := by
     cases e0 : H1 a with
     | none => rfl
     | some o => rw [sm a o e0] at ha; cases ha
    exact st1.old rel1 h1a
   ·refine ⟨_, zau, ?_⟩
    rw [<- su]
    refine (fx.mono (Fzn.of sm2)).pick pp.toList fun i hi => ?_
    have := (Array.perm_iff_toList_perm.mp ar.pm).mem_iff.mp hi
    simpa using this
  | _ => cases e1
end
end FL
namespace FL
open PySem L2 PySem.Spec
open PyProof.Rows hiding St
variable [Cs]
section
variable {K : PySem.W.Frag} {X : Cx} {e ke ve : Expr} {f k v : EF} {pos p2 : Pos}
theorem zmE (hu : X.A.units + 1 < cLine) (hk : PV K X ke k) (hv : PV K X ve v) : PVN K X (.Dict [some ke] [ve] pos) (zhU k v) := fun hK => (zoS hu (hk hK) (hv hK)).weak fun σ H Q => by
 rintro ⟨ρ, rel, q⟩ p hp
 have sm : zba H (upd H p (.dT [])) := zba.upd hp
 have nma : ¬ MA ρ σ p := fun z => by
  obtain ⟨o', e', _⟩ := rel.zbR z
  rw [hp] at e'; cases e'
 have rel0 := rel.same sm
 have st0 : Stp ρ ρ σ H (upd H p (.dT [])) := .of sm
 obtain ⟨xk, ek, q1⟩ := q.bnd
 obtain ⟨xv, ev, q2⟩ := q1.bnd
 obtain ⟨d, ed, q3⟩ := q2.zeU
 refine ⟨ρ, rel0, ?_⟩
 rw [ek]
 intro H1 rel1 st1 x fx
 refine ⟨xk.2, rel1, ?_⟩
 rw [ev]
 intro H2 rel2 st2 y fy
 have st12 := st1.trans st2
 have h2p : H2 p = some (.dT []) := st12.kp p _ zau nma
 have nma2 : ¬ MA xv.2 σ p := fun z => nma (st12.ma.mpr z)
 obtain ⟨o, dp, mm⟩ := ztZ (K := K) (c := .dict []) (.inl ⟨[], h2p, by simp [zb0]⟩) (fx.mono (st2.fzn rel1)) fy ed
 refine ⟨_, dp, ?_⟩
 have rel3 : Rel K xv.2 σ (upd H2 p o) := rel2.put nma2 fun u eu => by rw [h2p] at eu; cases eu; exact fun z => z
 refine q3 _ rel3 ⟨st12.md, fun b w eb nb => ?_⟩ p hp mm
 have c : b ≠ p := fun z => by subst z; rw [hp] at eb; cases eb
 rw [zaE c]
 exact st12.kp b w (by rw [zaE c]; exact eb) nb
theorem zqb : CallD X (.builtin "sorted") zoq := by
 intro pins s σ H xs us Q I r h
 obtain ⟨x, dx, d, rfl, tx, e, q⟩ := h
 have fin : ∀ {ds : List D} {vs : List V} {p : Addr}, x = .ref p -> (SqT X.K H p vs \/ SqL X.K H p vs) -> zak X.K H ds vs -> ((R.of (intsOf ds)).bind fun ns => chk (leB (ns.length + 1) 64) (.ok (.list ((zcg ns).map .int)))) = .ok d -> wpAny (model X.prog X.w) X.A (call (.builtin "sorted") us) (EP X pins σ Q) X.xe s := by
  intro ds vs p ex sq fa e
  subst ex
  obtain ⟨ns, en, e⟩ := zav e
  obtain ⟨c, e⟩ := zbe e
  cases e
  obtain ⟨rfl, _⟩ := zak.ints fa (zkQ en)
  refine thn (zjA pins s σ H _ us (fun v H1 => ∃ p, v = .ref p /\ H p = none /\ H1 = upd H p (.lst ((zcg ns).map V.int))) I r ⟨p, ns, rfl, sq, zhu c, fun l ms hl pm pw => ⟨l, rfl, hl, ?_⟩⟩) fun _ _ z => znI (zak.ofInts _) q z
  have : ms = zcg ns := zgE (le := (· <= ·)) (pm.trans (zgR ns).symm) pw (zfm ns) fun a _ b _ h1 h2 => Int.le_antisymm h1 h2
  rw [this]
 cases dx with
 | list a =>
  obtain ⟨p, vs, rfl, sx, fx⟩ := tx.lst
  exact fin rfl (.inr sx) fx e
 | tuple a =>
  obtain ⟨p, vs, rfl, sx, fx⟩ := tx.tup
  exact fin rfl (.inl sx) fx e
 | _ => exact nomatch (show (R.bad : R D) = .ok d from e)
theorem zso (hu : X.A.units + 80 < cLine) : OpR X (compareOp .In) (rD X.K zup) := by
 intro pins s σ H x y v u Q I rx ry h
 obtain ⟨dx, dy, d, tx, ty, e, q⟩ := h
 cases dy with
 | list xs =>
  obtain ⟨c, e⟩ := zbe (show chk _ _ = .ok d from e)
  cases e
  rw [Bool.and_eq_true] at c
  obtain ⟨as, ra⟩ := Is.reads I _ y u (ty.is (SeqAt.canLay_of_shaped c.1)) ry
  obtain ⟨bs, rb⟩ := Is.reads I _ x v (tx.is (SeqAt.canLay_of_shaped c.2)) rx
  exact SeqAt.in_list_reads ra rb (SeqAt.canLay_of_shaped c.1) (SeqAt.canLay_of_shaped c.2) (room_in_shaped c.2 (by omega)) ⟨.bl _, H, I, rfl, q _ H (zba.refl _) (by simp [Fz])⟩
 | tuple xs =>
  obtain ⟨c, e⟩ := zbe (show chk _ _ = .ok d from e)
  cases e
  rw [Bool.and_eq_true] at c
  obtain ⟨as, ra⟩ := Is.reads I _ y u (ty.is (SeqAt.canLay_of_shaped c.1)) ry
  obtain ⟨bs, rb⟩ := Is.reads I _ x v (tx.is (SeqAt.canLay_of_shaped c.2)) rx
  exact SeqAt.in_tuple_reads ra rb (SeqAt.canLay_of_shaped c.1) (SeqAt.canLay_of_shaped c.2) (room_in_shaped c.2 (by omega)) ⟨.bl _, H, I, rfl, q _ H (zba.refl _) (by simp [Fz])⟩
 | _ => exact nomatch (show (R.bad : R D) = .ok d from e)
theorem zqz {st : Expr} (he : PV K X e f) (hst : PE X st (tC (.int (-1)))) : PVN K X (.Subscript e (.Slice none none (some st) p2) pos) (e1 zly f) := fun hK => by
 subst hK
 refine (zpK (he rfl) hst).weak fun σ H Q => ?_
 rintro ⟨ρ, rel, q⟩
 refine goV rel q fun dx ρ1 x H1 rel1 st1 fx q1 => ?_
 obtain ⟨d, ed, q2⟩ := q1.zeU
 cases dx with
 | list a =>
  cases ed
  obtain ⟨p, vs, rfl, sx, fa⟩ := fx.tp.lst
  exact ⟨p, vs, rfl, sx, fun l hl => q2.new rel1 (zba.upd hl) l (st1.old rel1 hl) ⟨_, zau, fa.rev.mono (Fzn.of (zba.upd hl))⟩⟩
 | _ => cases ed
theorem zoA {st : Expr} {y : Str} {py : Pos} (i : Nat) (ha : PE X (.Name y py) (zkF i)) (hst : PE X st (tC (.int (-1)))) : PVN K X (.Subscript (.Name y py) (.Slice none none (some st) p2) pos) (m1 zly i) := fun hK => by
 subst hK
 refine (zpK ha hst).weak fun σ H Q => ?_
 rintro ⟨ρ, rel, q⟩
 obtain ⟨c, ec, q1⟩ := q.zeU
 obtain ⟨d, ed, q2⟩ := q1.zeU
 obtain ⟨ad, at0, m⟩ := rel.zlJ ec
 cases c with
 | list a =>
  cases ed
  obtain ⟨vs, h1, h2⟩ := m
  exact ⟨.ref ad, at0.2, ad, vs, rfl, SqL.of h1, fun l hl => q2.new rel (zba.upd hl) l hl ⟨_, zau, h2.rev.mono (Fzn.of (zba.upd hl))⟩⟩
 | _ => cases ed
end
end FL
namespace FL
open PySem L2 PySem.Spec
open PyProof.Rows hiding St
def zfx (cs : List Addr) (K : PySem.W.Frag) : PySem.W.Frag := K.filter fun p => !cs.contains p.1
theorem zen (cs : List Addr) : ∀ (K : PySem.W.Frag) (b : Addr), (zfx cs K).lookup b = if cs.contains b = true then none else K.lookup b
 | [], b => by simp [zfx]
 | (c, o) :: K, b => by
  have ih := zen cs K b
  unfold zfx at ih ⊢
  rw [List.filter_cons]
  by_cases hc : cs.contains c = true
  ·rw [if_neg (by simp only [hc]; decide), ih]
   by_cases hb : cs.contains b = true
   ·rw [if_pos hb, if_pos hb]
   ·have ne : b ≠ c := fun z => by rw [z] at hb; exact hb hc
    rw [if_neg hb, if_neg hb]
    simp [List.lookup_cons, show (b == c) = false from by simpa using ne]
  ·have hc' : cs.contains c = false := by simpa using hc
   rw [if_pos (by simp only [hc']; decide)]
   by_cases e : b = c
   ·subst e
    rw [if_neg hc]
    simp [List.lookup_cons]
   ·have e' : (b == c) = false := by simpa using e
    rw [List.lookup_cons, List.lookup_cons, e']
    exact ih
theorem zqa {cs : List Addr} {K : PySem.W.Frag} {h : Heap} (x : K.In h) : (zfx cs K).In h := fun a o e => by
 rw [zen] at e
 split at e
 ·cases e
 ·exact x a o e
def zrD (cs : List Addr) (K : PySem.W.Frag) : Prop := ∀ c ∈ cs, ∃ o its n, K.lookup c = some o /\ o.data = Data.seq its n
theorem zlg {cs : List Addr} {K : PySem.W.Frag} (s : zrD cs K) {b : Addr} {o : Obj} (e : K.lookup b = some o) (n : ∀ its m, o.data ≠ .seq its m) : (zfx cs K).lookup b = some o := by
 rw [zen, if_neg, e]
 intro c
 obtain ⟨o', its, m, e', d⟩ := s b (by simpa using c)
 rw [e] at e'
 cases e'
 exact n _ _ d
theorem zl3 {cs : List Addr} {K : PySem.W.Frag} (s : zrD cs K) {cd : Value} {q : Str} (h : PySem.W.codeIn K cd q = true) : PySem.W.codeIn (zfx cs K) cd q = true := by
 cases cd with
 | ref c =>
  unfold PySem.W.codeIn at h ⊢
  cases e : K.lookup c with
  | none => simp only [e] at h; cases h
  | some o =>
   obtain ⟨oc, od, data, sl⟩ := o
   cases data with
   | fields vs =>
    simp only [e] at h
    simp only [zlg s e fun _ _ z => nomatch z]
    exact h
   | _ => simp only [e] at h; cases h
 | _ => cases h
theorem Fun.cut {cs : List Addr} {K : PySem.W.Frag} (s : zrD cs K) {x q : Str} {st : Stmt} {f : Addr} {fd : FuncData} (F : Fun K x q st f fd) : Fun (zfx cs K) x q st f fd := by
 obtain ⟨⟨oc, od, kV, doc, pm, an, cdv, ct, osl, e, l, c⟩, kp⟩ := F
 have l' := zlg s l fun _ _ z => nomatch z
 refine ⟨⟨oc, od, kV, doc, pm, an, cdv, ct, osl, e, l', zl3 s c⟩, ?_⟩
 unfold PySem.W.keepIn
 simp only [l']
theorem Has.cut {cs : List Addr} {K : PySem.W.Frag} {mg : Str -> Option Value} (s : zrD cs K) {x : Str} {st : Stmt} (h : Has K mg x st) : Has (zfx cs K) mg x st := by
 obtain ⟨f, fd, hm, F⟩ := h
 exact ⟨f, fd, hm, Fun.cut s F⟩
abbrev CL := List (Addr × Obj × List V)
def zjJ (cl : CL) : Hp := fun b => (cl.lookup b).map fun p => .frz p.1 (.tup p.2)
@[reducible] def zrB (cl : CL) : Cs := ⟨zjJ cl, fun a u h => by
 unfold zjJ at h
 rw [Option.map_eq_some_iff] at h
 obtain ⟨p, _, rfl⟩ := h
 exact ⟨_, _, rfl⟩⟩
def ziW (cl : CL) (K : PySem.W.Frag) : Prop := ∀ p ∈ cl, K.lookup p.1 = some p.2.1 /\ p.2.1.cls = .type "tuple" /\ p.2.2.length <= sizeLine /\ ∃ (its : Array Value) (n : Nat), p.2.1.data = .seq its n /\ Vals p.2.2 its.toList
theorem ziW.nil {K : PySem.W.Frag} : ziW [] K := fun p hp => by simp at hp
theorem ziW.cons {K : PySem.W.Frag} {a : Addr} {od : Option Addr} {its : Array Value} {n : Nat} {sl : Array (Option Value)} {xs : List V} {cl : CL} (e : K.lookup a = some ⟨.type "tuple", od, .seq its n, sl⟩) (hv : Vals xs its.toList) (hl : xs.length <= 1000) (r : ziW cl K) : ziW ((a, ⟨.type "tuple", od, .seq its n, sl⟩, xs) :: cl) K := fun p hp => by
 rcases List.mem_cons.mp hp with rfl | hp
 ·exact ⟨e, rfl, Nat.le_of_lt (zmm hl), its, n, rfl, hv⟩
 ·exact r p hp
theorem ziW.seqs {cl : CL} {K : PySem.W.Frag} (h : ziW cl K) : zrD (cl.map (·.1)) K := fun c hc => by
 obtain ⟨p, hp, rfl⟩ := List.mem_map.mp hc
 obtain ⟨e, _, _, its, n, d, _⟩ := h p hp
 exact ⟨_, its, n, e, d⟩
theorem mem_of_lookup {α : Type} : ∀ {l : List (Addr × α)} {a : Addr} {x : α}, l.lookup a = some x -> (a, x) ∈ l
 | [], a, x, h => by simp at h
 | (b, y) :: r, a, x, h => by
  rw [List.lookup_cons] at h
  cases e : a == b with
  | true =>
   rw [e] at h
   cases h
   have := eq_of_beq e
   subst this
   exact List.mem_cons_self ..
  | false =>
   rw [e] at h
   exact List.mem_cons_of_mem _ (mem_of_lookup h)
theorem zhS {cl : CL} {K : PySem.W.Frag} (h : ziW cl K) {b : Addr} {u : HO} (e : zjJ cl b = some u) : (zfx (cl.map (·.1)) K).lookup b = none /\ ∃ (o : Obj) (xs : List V) (its : Array Value) (n : Nat), u = .frz o (.tup xs) /\ K.lookup b = some o /\ o.cls = .type "tuple" /\ o.data = .seq its n /\ xs.length <= sizeLine /\ Vals xs its.toList := by
 unfold zjJ at e
 rw [Option.map_eq_some_iff] at e
 obtain ⟨⟨o, xs⟩, el, rfl⟩ := e
 have m := mem_of_lookup el
 obtain ⟨h1, h2, h3, its, n, h4, h5⟩ := h _ m
 refine ⟨?_, o, xs, its, n, rfl, h1, h2, h4, h3, h5⟩
 rw [zen, if_pos]
 have : b ∈ cl.map (·.1) := List.mem_map.mpr ⟨_, m, rfl⟩
 simpa using this
theorem znf {P : Program} {w : World} {K : PySem.W.Frag} {mg mb : Str -> Option Value} {CX : CXT} {k : Nat} {fa a : Addr} {fd : FuncData} {x : Str} {sp : Sp} {s₁ : Shared} {vs : List Value} {ns : List Int} {cl : CL}
  (KX : K.In s₁.heap) (hC : ziW cl K) (hns : s₁.heap.Ns mainGlobals mg) (hb : s₁.heap.Ns builtinsNs mb) (hbb : ∀ x : Str, x ≠ "__name__" -> mb x = bootBuiltins x) (hlim : s₁.heap.NoLimit) (hg : s₁.gens = #[])
  (ha : s₁.heap.get? a = some { cls := .type "list", data := .seq vs.toArray }) (hi : IntsAre vs ns) (hl : ns.length <= sizeLine) (hr : zeF k callerA)
  (F : ∀ base : Heap, (zfx (cl.map (·.1)) K).In base -> base.Ns mainGlobals mg -> zh1 P w (zfx (cl.map (·.1)) K) mg base CX k fa fd [x] sp) (hbind : ∀ (s : Shared) (u : Value), BindsTo s fd ⟨[u], []⟩ [(x, u)])
  (hsp : ∀ H : Hp, (∀ b xs, H b ≠ some (.lst xs)) -> (∀ b u, zjJ cl b = some u -> H b = some u) -> SqL (zfx (cl.map (·.1)) K) H a (ns.map V.int) -> sp [.ref a] H (fun v _ => v = .bl true) fun _ _ _ => False)
  (hCX : ∀ H e s', CX [] H s₁ (fun _ _ _ => False) e s' -> False) :
  codeAny (model P w) callerA (.call (.ref fa) ⟨[.ref a], []⟩) (fun r s' => r = .ok (.ret (.bool true)) /\ OldK s₁.heap s'.heap /\ s'.os = s₁.os /\ AllBare s'.gens) s₁ := by
 have rv := ziY hi
 have lenV := hi.length
 have core : ∀ H : Hp, (∀ b u, H b = some u -> ∃ o v, u = .frz o v /\ ∀ es ep, o.data ≠ .dict es ep) -> (∀ b xs, H b ≠ some (.lst xs)) -> (∀ b u, zjJ cl b = some u -> H b = some u) -> SqL (zfx (cl.map (·.1)) K) H a (ns.map V.int) -> HOk P w H s₁.heap -> (∀ b, H b ≠ none -> (zfx (cl.map (·.1)) K).lookup b = none) ->
   codeAny (model P w) callerA (.call (.ref fa) ⟨[.ref a], []⟩) (fun r s' => r = .ok (.ret (.bool true)) /\ OldK s₁.heap s'.heap /\ s'.os = s₁.os /\ AllBare s'.gens) s₁ := by
  intro H hO hL hcc hS hok hK
  have base_of : ∀ {b : Addr} {o : Obj}, s₁.heap.get? b = some o -> H b = none -> (zpb s₁.heap H).get? b = some o := fun e n => zpa e n
  have noA : ∀ {b : Addr} {o : Obj} {es : Array DictEntry} {ep : Nat}, s₁.heap.get? b = some o -> o.data = .dict es ep -> H b = none := fun {b o es ep} e d => by
   cases q : H b with
   | none => rfl
   | some u =>
    obtain ⟨o', v, rfl, nd⟩ := hO b u q
    obtain ⟨e', _⟩ := hok b _ q
    rw [e] at e'
    cases e'
    exact absurd d (nd es ep)
  have nsK : ∀ {b : Addr} {m : Str -> Option Value}, s₁.heap.Ns b m -> (zpb s₁.heap H).Ns b m := fun {b m} ⟨o, es, ep, e, d, r⟩ => ⟨o, es, ep, base_of e (noA e d), d, r⟩
  have hKb : (zfx (cl.map (·.1)) K).In (zpb s₁.heap H) := fun b o e => base_of (zqa KX b o e) (by
   cases q : H b with
   | none => rfl
   | some u => rw [hK b (by rw [q]; simp)] at e; cases e)
  have hM : Mod (zfx (cl.map (·.1)) K) mg (zpb s₁.heap H) := ⟨hKb, nsK hns, ⟨mb, nsK hb, hbb⟩, let ⟨mc, h1, h2⟩ := hlim; ⟨mc, nsK h1, h2⟩⟩
  have e0 : zuv P w (zfx (cl.map (·.1)) K) mg (zpb s₁.heap H) callerA [] s₁ H := ⟨rfl, hM, fun b o e => zqZ e, Nat.le_of_eq (znv _ _), trivial, fun b hb => absurd (show b ∈ ([] : List Addr) from hb) (by simp), hok, .of_eq hg⟩
  refine codeAny_mono ((F _ hKb (nsK hns)).run callerA [] s₁ H ⟨[.ref a], []⟩ [.ref a] [.ref a] _ _ hr e0 (hbind s₁ (.ref a)) (.cons rfl .nil) (hsp H hL hcc hS)) fun r s' h => ?_
  cases r with
  | error e => exact (hCX H e s' h).elim
  | ok fl =>
   cases fl with
   | next => exact False.elim h
   | brk => exact False.elim h
   | cont => exact False.elim h
   | ret u =>
    obtain ⟨v, H', os, bare, un, hok', r', q⟩ := h
    have q' : v = .bl true := q
    subst q'
    obtain rfl : u = Value.bool true := r'
    refine ⟨rfl, OldK.of_keep fun b o e => ?_, os, bare⟩
    cases q : H b with
    | none => exact un.keep b o e q (by intro z; exact absurd (show b ∈ ([] : List Addr) from z) (by simp)) (by simp)
    | some u =>
     obtain ⟨ob, v, rfl, _⟩ := hO b u q
     have z2 := un.frzs b ob _ q
     obtain ⟨e1, _⟩ := hok b _ q
     obtain ⟨e2, _⟩ := hok' b _ z2
     rw [e] at e1; cases e1
     exact e2
 have cok : ∀ {H : Hp} {b : Addr} {u : HO}, zjJ cl b = some u -> zbV P w H s₁.heap b u := fun {H b u} e => by
  obtain ⟨_, o, xs, its, n, rfl, h1, h2, h3, h4, h5⟩ := zhS hC e
  have hg := KX b o h1
  exact ⟨hg, h4, its.toList, h5, o, hg, h2, n, by simpa using h3⟩
 have cfr : ∀ {b : Addr} {u : HO}, zjJ cl b = some u -> ∃ o v, u = .frz o v /\ ∀ es ep, o.data ≠ .dict es ep := fun {b u} e => by
  obtain ⟨_, o, xs, its, n, rfl, h1, h2, h3, h4, h5⟩ := zhS hC e
  exact ⟨o, _, rfl, fun es ep z => by rw [h3] at z; cases z⟩
 have clst : ∀ {b : Addr} {xs : List V}, zjJ cl b ≠ some (.lst xs) := fun {b xs} e => by
  obtain ⟨_, o, xs, its, n, z, _⟩ := zhS hC e
  cases z
 cases hk : (zfx (cl.map (·.1)) K).lookup a with
 | some o =>
  have e := zqa KX a o hk
  rw [ha] at e
  cases e
  exact core (zjJ cl) (fun b u e => cfr e) (fun b xs e => clst e) (fun _ _ e => e) (.inr ⟨_, vs.toArray, _, hk, rfl, rfl, rfl, by rw [List.size_toArray, lenV]; exact hl, by simpa using rv⟩) (fun b u z => cok z) fun b hb => by
   cases q : zjJ cl b with
   | none => exact absurd q hb
   | some u => exact (zhS hC q).1
 | none =>
  have na : ∀ u, zjJ cl a ≠ some u := fun u z => by
   obtain ⟨_, o, xs, its, n, rfl, h1, h2, h3, h4, h5⟩ := zhS hC z
   have := KX a o h1
   rw [ha] at this
   cases this
   simp at h2
  refine core (fun b => if b = a then some (.frz { cls := .type "list", data := .seq vs.toArray } (.lst (ns.map V.int))) else zjJ cl b) (fun b u e => ?_) (fun b xs e => ?_) (fun b u e => ?_) (.inl (.inr ⟨{ cls := .type "list", data := .seq vs.toArray }, if_pos rfl⟩)) (fun b u z => ?_) fun b hb => ?_
  ·split at e
   ·cases e; exact ⟨_, _, rfl, fun es ep z => nomatch z⟩
   ·exact cfr e
  ·split at e
   ·cases e
   ·exact clst e
  ·have : b ≠ a := fun z => by subst z; exact na u e
   simp only [if_neg this]; exact e
  ·simp only at z
   split at z
   ·rename_i c
    cases z
    subst c
    exact ⟨ha, by rw [List.length_map]; exact hl, vs, _, rv, ha⟩
   ·exact cok z
  ·by_cases c : b = a
   ·subst c; exact hk
   ·simp only [if_neg c] at hb
    cases q : zjJ cl b with
    | none => exact absurd q hb
    | some u => exact (zhS hC q).1
theorem zon {l : PySem.W.OpenLaw} {k : Nat} {q : Program} {loose : List Str} {XP : (Str -> Option Value) -> Heap -> Prop} {YP : World -> Heap -> Prop} {d : DefRec} {K : Params -> PySem.W.Frag} {x : Str} {G : List D -> R D}
  (hlaw : ∀ ns : List Int, ns.length <= 63 -> G [.list (ns.map PyData.int)] = .ok (.bool true)) (hn : l.most = some 63) (hdf : d.params.defaults = []) (hr : zeF k callerA)
  (hY : ∀ (w : World) (h : Heap), YP w h -> (K w.params).In h)
  (F : ∀ (w : World) (mg : Str -> Option Value) (fa : Addr) (h : Heap), (K w.params).In h -> h.Ns mainGlobals mg -> mg d.name = some (.ref fa) ->
   ∃ (cl : CL) (fd : FuncData), ziW cl (K w.params) /\ (∀ (s : Shared) (u : Value), BindsTo s fd ⟨[u], []⟩ [(x, u)]) /\
    ∀ base : Heap, (zfx (cl.map (·.1)) (K w.params)).In base -> base.Ns mainGlobals mg -> zh1 l.prog w (zfx (cl.map (·.1)) (K w.params)) mg base (CXe l.prog w) k fa fd [x] (@spP (zrB cl) (zfx (cl.map (·.1)) (K w.params)) 1 false G)) :
  PySem.W.WalkO q loose XP YP l.row.toRowW d [] (fun f vs => PySem.call f vs) := by
 refine Att.zkr hn hdf fun w s₀ s₁ mg mb fa o pm cd doc a vs ns GG Y ho hd hcd hmg hobj hints hlen hg => ?_
 have KX := hY w _ Y
 obtain ⟨cl, fd, hC, hb, hF⟩ := F w mg fa _ KX GG.T.g hmg
 refine znf KX hC GG.T.g GG.T.b GG.T.builtins GG.T.nolimit hg hobj hints (Nat.le_trans hlen (by decide)) hr hF hb (fun H hO hcc hS => @zsy (zrB cl) _ G H a ns (hlaw ns hlen) hO hcc hS) fun H e s' ⟨_, _, _, _, _, _, _, _, _, _, _, _, _, _, _, z⟩ => z
variable [Cs]
theorem zkM {K : PySem.W.Frag} {X : Cx} {x : Str} {a : Addr} {pos : Pos} {ds : List D} {vs : List V} (hg : Gl X x) (hm : X.mg x = some (.ref a)) (hc : ∃ o, Cs.C a = some (.frz o (.tup vs))) (hf : ∀ H, zak K H ds vs) (hd : (x == ("__debug__" : Str)) = false := by decide) :
  PV K X (.Name x pos) (eC (.tuple ds)) := fun _ => (zmR hg hm (v := .ref a) rfl hd).weak fun σ H Q => by
 rintro ⟨ρ, rel, g⟩
 obtain ⟨o, hc⟩ := hc
 refine g.now rel (.ref a) ?_
 simp only [Fz]
 exact ⟨a, vs, rfl, .inr ⟨o, rel.cst _ _ hc⟩, hf H⟩
end FL
namespace FL
open PySem L2 PySem.Spec
open PyProof.Rows hiding St
theorem zaT {k : Nat} {A : Around} (hr : zeF k A) : A.units + 1 < cLine := by have := hr.un; omega
theorem zaF {k : Nat} {A : Around} (hr : zeF k A) : A.units + 80 < cLine := by have := hr.un; omega
theorem zmx {x y : V} {u : Value} (h1 : L2.RelV x u) (h2 : L2.RelV y u) : x = y := by
 cases x <;> cases y <;> simp only [L2.RelV] at h1 h2 <;> first
  | (subst h1; cases h2; rfl; done)
  | (subst h1; obtain ⟨t', h2⟩ := h2; cases h2; done)
  | (obtain ⟨t, rfl⟩ := h1; obtain ⟨t', h2⟩ := h2; cases h2; rfl; done)
  | (obtain ⟨t, rfl⟩ := h1; obtain ⟨t', h2⟩ := h2; cases h2; done)
  | (subst h1; cases h2; done)
  | (obtain ⟨t, rfl⟩ := h1; cases h2; done)
theorem ziX : ∀ {xs ys : List V} {us : List Value}, Vals xs us -> Vals ys us -> xs = ys
 | _, _, _, .nil, .nil => rfl
 | _, _, _, .cons r1 t1, .cons r2 t2 => by rw [zmx r1 r2, ziX t1 t2]
theorem lookup_mem {α : Type} : ∀ {l : List (Addr × α)} {a : Addr} {x : α}, (a, x) ∈ l -> ∃ y, l.lookup a = some y
 | [], a, x, h => by simp at h
 | (b, y) :: r, a, x, h => by
  rw [List.lookup_cons]
  cases e : a == b with
  | true => exact ⟨y, rfl⟩
  | false =>
   rcases List.mem_cons.mp h with z | z
   ·cases z; simp at e
   ·exact lookup_mem z
theorem znw {cl : CL} {K : PySem.W.Frag} (h : ziW cl K) {a : Addr} {o : Obj} {xs : List V} (m : (a, o, xs) ∈ cl) : ∃ o', (zrB cl).C a = some (.frz o' (.tup xs)) := by
 obtain ⟨⟨o2, ys⟩, el⟩ := lookup_mem m
 obtain ⟨h1, _, _, its, n, h2, h3⟩ := h _ m
 obtain ⟨g1, _, _, its', n', g2, g3⟩ := h _ (mem_of_lookup el)
 simp only at h1 h2 h3 g1 g2 g3
 rw [h1] at g1
 cases g1
 rw [h2] at g2
 cases g2
 refine ⟨o, ?_⟩
 show zjJ cl a = _
 unfold zjJ
 rw [el, ziX h3 g3]
 rfl
theorem zaU {K : PySem.W.Frag} {h : Heap} {mg : Str -> Option Value} {x : Str} {st : Stmt} {f : Addr} {oc : Value} {od an : Option Addr} {osl : Array (Option Value)} {kV doc pm cdv ct : Value} (X : K.In h) (G : h.Ns mainGlobals mg) (q : PySem.W.nsIn K mainGlobals x = some (some (.ref f)))
  (l : K.lookup f = some ⟨oc, od, .func (PySem.W.fnOf x x (zd5 st) (zcD st) (zao st) .none kV doc pm an cdv ct), osl⟩) (c : PySem.W.codeIn K cdv x = true) (k : PySem.W.keepIn K (.ref f) = true) : Has K mg x st := ⟨f, _, PySem.W.mg_of X G q, zsP (st := st) l c k⟩
theorem _root_.L2.Has.cut {cs : List Addr} {K : PySem.W.Frag} {mg : Str -> Option Value} {x : Str} {st : Stmt} (h : Has K mg x st) (s : zrD cs K) : Has (zfx cs K) mg x st := FL.Has.cut s h
theorem zsf [Cs] {X : Cx} {p1 p2 : Pos} {j} : PE X (.UnaryOp .USub (.Constant (.int 1) j p1) p2) (tC (.int (-1))) := (zuO zrG zpL).weak fun σ H Q q => ⟨1, rfl, q⟩
end FL
namespace FL
open PySem
theorem zfN {k : Nat} {ix : List Nat} {g : GF} {t : TF} {f : EF} {ρ : En} (P : D -> Bool) (h : D -> D) : ∀ (items : List D) (acc : List D), acc.length + items.length <= lim ->
  (∀ x ∈ items, ∃ β, g x (blk k ix ρ) = .ok β /\ t β = .ok (P x, β) /\ (P x = true -> f β = .ok (h x, β)) /\ back ρ ix (β.drop k) = ρ) -> zfO k ix g t f items ρ acc = .ok (acc ++ (items.filter P).map h, ρ)
 | [], acc, _, _ => by simp [zfO]
 | x :: xs, acc, hl, hx => by
  obtain ⟨β, h1, h2, h3, h4⟩ := hx x (List.mem_cons_self ..)
  have rest := fun y m => hx y (List.mem_cons_of_mem x m)
  simp only [List.length_cons] at hl
  unfold zfO
  rw [h1, zaf, h2, zaf]
  cases c : P x with
  | true =>
   rw [if_pos rfl, h3 c, zaf, zaQ (zcO (by omega)), h4, zfN P h xs _ (by simp; omega) rest, List.filter_cons_of_pos c]
   simp
  | false =>
   rw [if_neg (by simp), h4, zfN P h xs acc (by omega) rest, List.filter_cons_of_neg (by simp [c])]
theorem zem {k : Nat} {ix : List Nat} {it : IF} {g : GF} {t : TF} {f : EF} {ρ : En} {items : List D} (P : D -> Bool) (h : D -> D) (hi : it ρ = .ok (items, ρ)) (hl : items.length <= lim)
  (hx : ∀ x ∈ items, ∃ β, g x (blk k ix ρ) = .ok β /\ t β = .ok (P x, β) /\ (P x = true -> f β = .ok (h x, β)) /\ back ρ ix (β.drop k) = ρ) : zbY k ix it g t f ρ = .ok (.list ((items.filter P).map h), ρ) := by
 unfold zbY
 rw [hi, zaf, zfN P h items [] (by simpa using hl) hx]
 rfl
theorem zdb {k : Nat} {ix : List Nat} {it : IF} {g : GF} {f : EF} {ρ : En} {items : List D} (h : D -> D) (hi : it ρ = .ok (items, ρ)) (hl : items.length <= lim)
  (hx : ∀ x ∈ items, ∃ β, g x (blk k ix ρ) = .ok β /\ f β = .ok (h x, β) /\ back ρ ix (β.drop k) = ρ) : zbY k ix it g zdJ f ρ = .ok (.list (items.map h), ρ) := by
 rw [zem (fun _ => true) h hi hl fun x m => by
  obtain ⟨β, h1, h2, h3⟩ := hx x m
  exact ⟨β, h1, rfl, fun _ => h2, h3⟩]
 rw [List.filter_eq_self.mpr (fun _ _ => rfl)]
theorem zbS (ns : List Int) : intsOf (ns.map PyData.int) = some ns := by
 induction ns with
 | nil => rfl
 | cons n ns ih => simp [intsOf, ih]
theorem zkl (ns : List Bool) : boolsOf (ns.map PyData.bool) = some ns := by
 induction ns with
 | nil => rfl
 | cons n ns ih => simp [boolsOf, ih]
theorem zlo (bs : List Bool) : zrC (.list (bs.map PyData.bool)) = .ok (.bool (bs.all id)) := by
 show ((R.of (boolsOf _)).bind _) = _
 rw [zkl]; rfl
theorem zq6 (a b : List Int) : ltD (.tuple (a.map PyData.int)) (.tuple (b.map PyData.int)) = .ok (.bool (lexLt a b)) := by
 show ((R.of (intsOf _)).bind _) = _
 rw [zbS, zbS]; rfl
theorem zj6 (a b : List Int) : leD (.tuple (a.map PyData.int)) (.tuple (b.map PyData.int)) = .ok (.bool (lexLe a b)) := by
 show ((R.of (intsOf _)).bind _) = _
 rw [zbS, zbS]; rfl
theorem zkV (ns : List Int) : maxD (.list (ns.map PyData.int)) = ((R.of (zm5 ns)).bind fun m => .ok (.int m)) := by
 show ((R.of (intsOf _)).bind _) = _
 rw [zbS]; rfl
theorem zcQ {α : Type} (xs : List α) (p : Nat) (h : p <= xs.length) : cut xs (some (p : Int)) none = xs.drop p := by
 unfold cut sIx
 simp only
 rw [if_neg (by omega)]
 rw [show min (p : Int).toNat xs.length = p by omega]
 rw [List.take_of_length_le (by simp)]
theorem zg6 {α : Type} (xs : List α) (p : Nat) : cut xs none (some (p : Int)) = xs.take p := by
 unfold cut sIx
 simp only
 rw [if_neg (by omega), List.drop_zero, Nat.sub_zero]
 by_cases h : p <= xs.length
 ·rw [show min (p : Int).toNat xs.length = p by omega]
 ·rw [show min (p : Int).toNat xs.length = xs.length by omega, List.take_length, List.take_of_length_le (by omega)]
theorem zc0 {α β : Type} (g : α -> β) (xs : List α) (lo hi : Option Int) : cut (xs.map g) lo hi = (cut xs lo hi).map g := by
 unfold cut
 simp [List.map_take, List.map_drop]
theorem zgy (lo hi : Int) : rng lo hi = ((List.range (hi - lo).toNat).map fun (i : Nat) => lo + (i : Int)).map PyData.int := by
 unfold rng
 rw [List.map_map]; rfl
def Pl (n : Nat) (d : D) : Prop := PyData.canLay0 d = true /\ d.depth <= n
theorem Pl.shaped {n : Nat} {d : D} (h : Pl n d) (hn : n <= 64 := by decide) : SeqAt.shaped d = true := by
 unfold SeqAt.shaped
 rw [h.1, decide_eq_true (Nat.le_trans h.2 hn)]; rfl
theorem zf2 (i : Int) : Pl 0 (.int i) := ⟨rfl, Nat.le_refl _⟩
theorem Pl.up {n m : Nat} {d : D} (h : Pl n d) (hn : n <= m) : Pl m d := ⟨h.1, Nat.le_trans h.2 hn⟩
theorem zmO {n : Nat} : ∀ {ds : List D}, (∀ d ∈ ds, Pl n d) -> PyData.canLayAll0 ds = true /\ PyData.depthAll ds <= n
 | [], _ => ⟨rfl, Nat.zero_le _⟩
 | d :: ds, h => by
  obtain ⟨a, b⟩ := zmO fun x m => h x (List.mem_cons_of_mem d m)
  obtain ⟨c, e⟩ := h d (List.mem_cons_self ..)
  refine ⟨by simp only [PyData.canLayAll0]; rw [c, a]; rfl, ?_⟩
  simp only [PyData.depthAll]
  omega
theorem zis {n : Nat} {ds : List D} (h : ∀ d ∈ ds, Pl n d) : Pl (n + 1) (.tuple ds) := by
 obtain ⟨a, b⟩ := zmO h
 exact ⟨a, by simp only [PyData.depth]; omega⟩
theorem zgD {n : Nat} {ds : List D} (h : ∀ d ∈ ds, Pl n d) : Pl (n + 1) (.list ds) := by
 obtain ⟨a, b⟩ := zmO h
 exact ⟨a, by simp only [PyData.depth]; omega⟩
theorem zda {α : Type} [DecidableEq α] (f : α -> D) (h : ∀ a b, PyData.eqv (f a) (f b) = decide (a = b)) : ∀ xs ys : List α, PyData.eqvAll (xs.map f) (ys.map f) = decide (xs = ys)
 | [], [] => rfl
 | [], y :: ys => by simp [PyData.eqvAll]
 | x :: xs, [] => by simp [PyData.eqvAll]
 | x :: xs, y :: ys => by
  simp only [List.map_cons, PyData.eqvAll]
  rw [h, zda f h xs ys]
  by_cases e1 : x = y <;> by_cases e2 : xs = ys <;> simp [e1, e2]
theorem zg0 (a b : Int) : PyData.eqv (.int a) (.int b) = decide (a = b) := by
 show (a == b) = _
 rw [Bool.beq_eq_decide_eq]
abbrev tp (w : List Int) : D := .tuple (w.map PyData.int)
theorem zmM (w : List Int) : Pl 1 (tp w) := zis fun d m => by
 obtain ⟨i, _, rfl⟩ := List.mem_map.mp m
 exact zf2 i
theorem znH (a b : List Int) : PyData.eqv (tp a) (tp b) = decide (a = b) := by
 show PyData.eqvAll _ _ = _
 exact zda _ zg0 a b
abbrev ltp (ws : List (List Int)) : D := .list (ws.map tp)
theorem zpI (ws : List (List Int)) : Pl 2 (ltp ws) := zgD fun d m => by
 obtain ⟨i, _, rfl⟩ := List.mem_map.mp m
 exact zmM i
theorem zrh (a b : List (List Int)) : PyData.eqv (ltp a) (ltp b) = decide (a = b) := by
 show PyData.eqvAll _ _ = _
 exact zda _ znH a b
theorem zla {n m : Nat} {a b : D} (ha : Pl n a) (hb : Pl m b) (hn : n <= 64 := by decide) (hm : m <= 64 := by decide) : eqD a b = .ok (.bool (PyData.eqv a b)) := by
 unfold eqD
 rw [ha.shaped hn, hb.shaped hm]; rfl
theorem zje {n m : Nat} {a b : D} (ha : Pl n a) (hb : Pl m b) (hn : n <= 64 := by decide) (hm : m <= 64 := by decide) : neD a b = .ok (.bool (!PyData.eqv a b)) := by
 unfold neD
 rw [ha.shaped hn, hb.shaped hm]; rfl
theorem zpO (a b : List Int) : neD (tp a) (tp b) = .ok (.bool (!decide (a = b))) := by rw [zje (zmM a) (zmM b), znH]
theorem zri (a b : List (List Int)) : eqD (ltp a) (ltp b) = .ok (.bool (decide (a = b))) := by rw [zla (zpI a) (zpI b), zrh]
theorem ziJ (a b : Int) : eqD (.int a) (.int b) = .ok (.bool (decide (a = b))) := by rw [zla (zf2 a) (zf2 b), zg0]
theorem zjZ (a b : Int) : neD (.int a) (.int b) = .ok (.bool (!decide (a = b))) := by rw [zje (zf2 a) (zf2 b), zg0]
theorem ziG (i j : Int) : gtD (.int i) (.int j) = .ok (.bool (decide (j < i))) := rfl
theorem zm8 (i j : Int) : ltD (.int i) (.int j) = .ok (.bool (decide (i < j))) := rfl
theorem zne (i j : Int) : leD (.int i) (.int j) = .ok (.bool (decide (i <= j))) := rfl
theorem zj5 {lo hi : Int} {x : D} (h : x ∈ rng lo hi) : ∃ i : Nat, i < (hi - lo).toNat /\ x = .int (lo + i) := by
 unfold rng at h
 obtain ⟨i, hi, rfl⟩ := List.mem_map.mp h
 exact ⟨i, List.mem_range.mp hi, rfl⟩
theorem zjS (lo hi : Int) : (rng lo hi).length = (hi - lo).toNat := by simp [rng]
theorem zlz {j : Int} (h : 0 <= j) (h2 : j <= 1000000) : zjT [.int j] = .ok (rng 0 j) := by
 show chk _ _ = _
 refine zaQ ?_
 unfold zhj lim
 simp only [Bool.and_eq_true, leB_iff]
 omega
theorem zeg {i j : Int} (h0 : 0 <= i) (h1 : i <= 1000000) (h : 0 <= j) (h2 : j <= 1000000) : zmB [.int i, .int j] = .ok (rng i j) := by
 show chk _ _ = _
 refine zaQ ?_
 unfold zhj lim
 simp only [Bool.and_eq_true, leB_iff]
 omega
theorem znE {S : Type} (E : S -> En) (step : S -> D -> S) (Iv : S -> Prop) {g : GF} {b : SF} : ∀ (items : List D) (s : S), Iv s -> (∀ x ∈ items, ∀ s, Iv s -> Iv (step s x) /\ ((g x (E s)).bind b = .ok (.nx, E (step s x)) \/ (g x (E s)).bind b = .ok (.ct, E (step s x)))) -> forL g b items (E s) = .ok (.nx, E (items.foldl step s)) /\ Iv (items.foldl step s)
 | [], s, h, _ => ⟨rfl, h⟩
 | x :: xs, s, h, hx => by
  obtain ⟨h1, h2⟩ := hx x (List.mem_cons_self ..) s h
  have ih := znE E step Iv xs (step s x) h1 fun y m => hx y (List.mem_cons_of_mem x m)
  refine ⟨?_, ih.2⟩
  unfold forL
  have key : ∀ (fl : Fl), (g x (E s)).bind b = .ok (fl, E (step s x)) -> ((g x (E s)).bind fun ρ1 => (b ρ1).bind fun y => match y.1 with
    | .nx | .ct => forL g b xs y.2
    | .bk => .ok (.nx, y.2)
    | .rt d => .ok (.rt d, y.2)
    | .rf d => .ok (.rf d, y.2)) = (match fl with
    | .nx | .ct => forL g b xs (E (step s x))
    | .bk => .ok (.nx, E (step s x))
    | .rt d => .ok (.rt d, E (step s x))
    | .rf d => .ok (.rf d, E (step s x))) := fun fl e => by
   cases e1 : g x (E s) with
   | ok ρ1 =>
    rw [e1] at e
    rw [zaf] at e ⊢
    rw [e]; rfl
   | bad => rw [e1] at e; cases e
   | err c fs => rw [e1] at e; cases e
  rcases h2 with h2 | h2
  ·exact (key _ h2).trans ih.1
  ·exact (key _ h2).trans ih.1
theorem zdv {m : List (Nat × Sl)} (h : ∀ i p d, m.lookup i ≠ some (.ow p d)) : ∀ (ρ : En) (n : Nat), bkL m n ρ = ρ
 | [], _ => rfl
 | x :: r, n => by
  unfold bkL
  rw [zdv h r (n + 1)]
  congr 1
  unfold bk1
  split
  ·rename_i p d q e h1 h2
   exact absurd h2 (h _ _ _)
  ·rfl
theorem zjg : ∀ {l : List Int}, l ≠ [] -> ∃ m ∈ l, zm5 l = some m := fun {l} h => by
 cases l with
 | nil => exact absurd rfl h
 | cons x xs =>
  refine ⟨_, ?_, rfl⟩
  have key : ∀ (xs : List Int) (x : Int), xs.foldl (fun m y => if y > m then y else m) x ∈ x :: xs := by
   intro xs
   induction xs with
   | nil => intro x; simp
   | cons y ys ih =>
    intro x
    simp only [List.foldl_cons]
    rcases List.mem_cons.mp (ih (if y > x then y else x)) with e | e
    ·rw [e]; split <;> simp
    ·exact List.mem_cons_of_mem _ (List.mem_cons_of_mem _ e)
  exact key xs x
theorem zej {α : Type} {f : α -> D} {g : GF} {b : SF} (P : List α -> En -> Prop) : ∀ (xs : List α) (done : List α) (ρ : En), P done ρ ->
  (∀ pre x post ρ, done ++ xs = pre ++ x :: post -> P pre ρ -> ∃ ρ' fl, (g (f x) ρ).bind b = .ok (fl, ρ') /\ (fl = .nx \/ fl = .ct) /\ P (pre ++ [x]) ρ') -> ∃ ρ', forL g b (xs.map f) ρ = .ok (.nx, ρ') /\ P (done ++ xs) ρ'
 | [], done, ρ, h, _ => ⟨ρ, rfl, by simpa using h⟩
 | x :: xs, done, ρ, h, hx => by
  obtain ⟨ρ1, fl, e, hf, h1⟩ := hx done x xs ρ rfl h
  obtain ⟨ρ2, e2, h2⟩ := zej P xs (done ++ [x]) ρ1 h1 fun pre y post ρ e => hx pre y post ρ (by simpa using e)
  refine ⟨ρ2, ?_, by simpa using h2⟩
  show ((g (f x) ρ).bind fun ρ1 => (b ρ1).bind fun y => match y.1 with
    | .nx | .ct => forL g b (xs.map f) y.2
    | .bk => .ok (.nx, y.2)
    | .rt d => .ok (.rt d, y.2)
    | .rf d => .ok (.rf d, y.2)) = _
  cases e1 : g (f x) ρ with
  | ok ρ3 =>
   rw [e1] at e
   rw [zaf] at e ⊢
   rw [e, zaf]
   rcases hf with rfl | rfl
   ·exact e2
   ·exact e2
  | bad => rw [e1] at e; cases e
  | err c fs => rw [e1] at e; cases e
def Np (x : Sl) : Prop := ∀ e, x ≠ .ow true e
theorem zjX : Np .no := fun _ z => nomatch z
theorem zgH (d : D) : Np (.val d) := fun _ z => nomatch z
theorem zke {ρ : En} {i : Nat} {d : D} {x : Sl} (h : ρ[i]? = some x) (n : Np x) : gN i d ρ = .ok (ρ.set i (.val d)) := by
 unfold gN
 rw [h]
 cases x with
 | no => rfl
 | val c => rfl
 | ow p c => cases p with
  | true => exact absurd rfl (n c)
  | false => rfl
theorem zqu {i : Nat} {f : EF} {ρ : En} {y : D × En} {x : Sl} (hf : f ρ = .ok y) (h : y.2[i]? = some x) (n : Np x) : zbD (gN i) f ρ = .ok (.nx, y.2.set i (.val y.1)) := by
 unfold zbD
 rw [hf, zaf, zke h n]; rfl
theorem zn0 {m : List (Nat × Sl)} {i : Nat} {x : Sl} (h : m.lookup i = none) : bk1 m i x = x := by
 unfold bk1
 rw [h]
 cases x <;> rfl
theorem zaG {s t : SF} {ρ ρ1 : En} (h : s ρ = .ok (.nx, ρ1)) : zaB s t ρ = t ρ1 := by
 unfold zaB
 rw [h]; rfl
end FL
namespace FL
open PySem
def zhd : SF := (zaB (zbD (gN 2) (e2 zbw (e2 zbw (e2 zcz (e2 zbw (e2 zgM (eV 0) (e2 zbw (e2 zhk (eC (.int 10)) (eC (.int 18))) (eC (.int 9)))) (e2 zcz (eC (.int 7)) (eV 1))) (eC (.int 739108512309184756019283746561))) (e2 zcz (eC (.int 7919)) (eV 1))) (eC (.int 1))))
  (zaB (zbD (gN 2) (e2 zgM (e2 zcz (eV 2) (eV 2)) (e2 zbw (e2 zhk (eC (.int 10)) (eC (.int 60))) (eC (.int 7)))))
  (zaX (e2 zgM (e2 zcz (e2 zbw (eV 2) (eC (.int 40503))) (e2 zbw (eV 2) (eC (.int 57)))) (e2 zbw (e2 zhk (eC (.int 10)) (eC (.int 60))) (eC (.int 7)))))))
def ziT : List D -> R D := zbo false 2 3 zhd
def ziP : SF := (zaB (sIf (tB (e2 ltD (eV 1) (e1 zc4 (eV 0)))) (zaX (e2 ixD (eV 0) (eV 1))) sNx)
  (zaX (e2 zbw (e2 zcz (eC (.int 3)) (eV 1)) (eC (.int 1)))))
def zuu : List D -> R D := zbo false 2 2 ziP
def zeV : SF := (zaB (sIf (tB (e2 geD (eV 0) (e2 zhk (eC (.int 10)) (eC (.int 18))))) (zcY (zel (zac (e2 zkG (eV 0) (e2 zhk (eC (.int 10)) (eC (.int 18)))) (zac (eC (.int 0)) (zac (eV 1) zar))))) sNx)
  (zcY (zel (zac (zal ziT (zac (eV 0) (zac (eV 1) zar))) (zac (eC (.int 0)) (zac (e2 zbw (e2 zgM (eV 0) (e2 zbw (e2 zhk (eC (.int 10)) (eC (.int 18))) (eC (.int 9)))) (eV 1)) zar))))))
def ziS : List D -> R D := zbo true 2 2 zeV
def zfQ : SF := (zaB (sIf (tB (e2 ltD (m2 ixD 0 (eC (.int 0))) (eV 1))) (zaB (setM 0 (e2 zbw (m2 ixD 0 (eC (.int 1))) (eC (.int 1))) (eC (.int 1)))
  (setM 0 (e2 zbw (m2 ixD 0 (eC (.int 0))) (e2 zcz (eV 1) (zal ziT (zac (m2 ixD 0 (eC (.int 2))) (zac (e2 zbw (e2 zcz (eC (.int 11)) (m2 ixD 0 (eC (.int 1)))) (eC (.int 5))) zar))))) (eC (.int 0)))) sNx)
  (zaB (zbD (gN 2) (e2 zgM (m2 ixD 0 (eC (.int 0))) (eV 1)))
  (zaB (setM 0 (e2 zbg (m2 ixD 0 (eC (.int 0))) (eV 1)) (eC (.int 0)))
  (zaX (eV 2)))))
def zlp : List D -> R (D × List D) := run [true, false] false 3 zfQ
structure Bd (i : Int) (n : Nat) : Prop where
 h : i.natAbs < 2 ^ n
theorem Bd.mono {i : Int} {n m : Nat} (h : Bd i n) (l : n <= m) : Bd i m := ⟨Nat.lt_of_lt_of_le h.h (Nat.pow_le_pow_right (by decide) l)⟩
theorem Bd.add {i j : Int} {n m : Nat} (h : Bd i n) (k : Bd j m) : Bd (i + j) (max n m + 1) := by
 constructor
 have a := (h.mono (Nat.le_max_left n m)).h
 have b := (k.mono (Nat.le_max_right n m)).h
 have c := Int.natAbs_add_le i j
 rw [Nat.pow_succ]
 omega
theorem Bd.mul {i j : Int} {n m : Nat} (h : Bd i n) (k : Bd j m) : Bd (i * j) (n + m) := by
 constructor
 rw [Int.natAbs_mul, Nat.pow_add]
 have a := h.h
 have b := k.h
 exact Nat.mul_lt_mul'' a b
theorem Bd.mod {i j : Int} {n : Nat} (h : Bd j n) (p : 0 < j) : Bd (i.fmod j) n := by
 constructor
 have a := h.h
 have b := Int.fmod_nonneg_of_pos i p
 have c := Int.fmod_lt_of_pos i p
 omega
theorem mulOk_of {i j : Int} {n m : Nat} (h : Bd i n) (k : Bd j m) (l : n + m <= 100000) : zm1 i j = true := by
 unfold zm1
 refine zcO ?_
 have lg : ∀ {i : Int} {n : Nat}, Bd i n -> i.natAbs.log2 <= n := by
  intro i n h
  by_cases z : i.natAbs = 0
  ·rw [z]; exact Nat.zero_le _
  ·exact Nat.le_of_lt ((Nat.log2_lt z).mpr h.h)
 have a := lg h
 have b := lg k
 omega
theorem zb6 {i j : Int} {n m : Nat} (h : Bd i n) (k : Bd j m) (l : n + m <= 100000) : zcz (.int i) (.int j) = .ok (.int (i * j)) := by
 show chk _ _ = _
 exact zaQ (mulOk_of h k l)
theorem zgL {i j : Int} (p : 0 < j) : zgM (.int i) (.int j) = .ok (.int (i.fmod j)) := by
 show chk _ _ = _
 exact zaQ (by simp; omega)
theorem zpi {i j : Int} {n : Nat} (p : 0 < j) (h : Bd j n) (l : n <= 8000) : zbg (.int i) (.int j) = .ok (.int (i.fdiv j)) := by
 show chk _ _ = _
 refine zaQ ?_
 have z : j.natAbs ≠ 0 := by omega
 have a := (Nat.log2_lt z).mpr h.h
 rw [Bool.and_eq_true, leB_iff, decide_eq_true_eq]
 exact ⟨by omega, by omega⟩
def p18 : Int := 1000000000000000000
def zqV : Int := 1000000000000000009
def p60 : Int := 1000000000000000000000000000000000000000000000000000000000000
def zqU : Int := 1000000000000000000000000000000000000000000000000000000000007
def pm : Int := 739108512309184756019283746561
theorem zuK : zhk (.int 10) (.int 18) = .ok (.int p18) := rfl
theorem zwh : zhk (.int 10) (.int 60) = .ok (.int p60) := rfl
theorem zvU : p18 + 9 = zqV := rfl
theorem zwD : p60 + 7 = zqU := rfl
theorem zjV : 0 < zqV := by decide
theorem zgG : 0 < zqU := by decide
theorem b18 : Bd zqV 60 := ⟨by decide⟩
theorem b60 : Bd zqU 200 := ⟨by decide⟩
theorem bm : Bd pm 100 := ⟨by decide⟩
theorem za5 {i : Int} (h : i.natAbs < 65536) : Bd i 16 := ⟨h⟩
def mx1 (c k : Int) : Int := (c.fmod zqV + 7 * k) * pm + 7919 * k + 1
def mx2 (c k : Int) : Int := (mx1 c k * mx1 c k).fmod zqU
def zpP (c k : Int) : Int := ((mx2 c k + 40503) * (mx2 c k + 57)).fmod zqU
theorem zm3 (c k : Int) : 0 <= zpP c k := Int.fmod_nonneg_of_pos _ zgG
theorem zq2 (c k : Int) : Bd (zpP c k) 200 := b60.mod zgG
theorem zkU (c k : Int) {n : Nat} (hk : Bd k n) (hn : n <= 1000) : ziT [.int c, .int k] = .ok (.int (zpP c k)) := by
 have a1 := zgL (i := c) zjV
 have a2 : Bd (c.fmod zqV) 60 := b18.mod zjV
 have a3 := zb6 (i := 7) (za5 (by decide)) hk (by omega)
 have a4 := (za5 (i := 7) (by decide)).mul hk
 have a5 := a2.add a4
 have a6 := zb6 a5 bm (by omega)
 have a7 := zb6 (i := 7919) (za5 (by decide)) hk (by omega)
 have a8 := ((a5.mul bm).add ((za5 (i := 7919) (by decide)).mul hk)).add (za5 (i := 1) (by decide))
 have a9 := zb6 a8 a8 (by omega)
 have b1 := zgL (i := mx1 c k * mx1 c k) zgG
 have b2 : Bd (mx2 c k) 200 := b60.mod zgG
 have b3 := zb6 (b2.add (za5 (i := 40503) (by decide))) (b2.add (za5 (i := 57) (by decide))) (by decide)
 have b4 := zgL (i := (mx2 c k + 40503) * (mx2 c k + 57)) zgG
 have hm : (PyData.int 739108512309184756019283746561) = .int pm := rfl
 have f1 : (c.fmod zqV + 7 * k) * pm + 7919 * k + 1 = mx1 c k := rfl
 have f2 : (mx1 c k * mx1 c k).fmod zqU = mx2 c k := rfl
 have f3 : ((mx2 c k + 40503) * (mx2 c k + 57)).fmod zqU = zpP c k := rfl
 rw [f1] at a9
 simp only [ziT, zbo, FL.run, List.length_cons, List.length_nil, Nat.reduceAdd, List.replicate, zhd, zaB, zbD, FL.e2, eV, slots, Bool.false_eq_true, if_false, Nat.reduceSub, List.cons_append, List.nil_append, List.getElem?_cons_zero, eC, zaf, zuK, zbw, zvU, a1, List.getElem?_cons_succ, a3, hm, a6, a7, f1, gN, List.set_cons_succ, List.set_cons_zero, zwh, zwD, zaX, a9, b1, f2, b3, b4, f3, outs, outD, if_true]
def zl7 (k : Nat) (d : D) : Prop := ∃ n c s, d = .list [.int n, .int c, .int s] /\ 0 <= n /\ 0 <= c /\ c <= k
theorem zoE (c k : Int) (hk : k.natAbs < 65536) : ∃ d, ziS [.int c, .int k] = .ok d /\ zl7 0 d := by
 have a1 := zgL (i := c) zjV
 have hx1 := zkU c k (za5 hk) (by decide)
 by_cases h : p18 <= c
 ·refine ⟨_, ?_, c - p18, 0, k, rfl, by omega, by decide, by decide⟩
  have hg : geD (.int c) (.int p18) = .ok (.bool true) := by show R.ok (PyData.bool (decide (p18 <= c))) = _; rw [decide_eq_true h]
  simp only [ziS, zbo, FL.run, List.length_cons, List.length_nil, Nat.reduceAdd, List.replicate, zeV, zaB, sIf, tB, FL.e2, eV, slots, Bool.false_eq_true, if_false, Nat.sub_self, List.cons_append, List.nil_append, List.getElem?_cons_zero, eC, zaf, zuK, hg, zcY, zel, zac, zkG, zar, sNx, List.getElem?_cons_succ, if_true, zal, zbw, outs, outD]
  rfl
 ·refine ⟨_, ?_, zpP c k, 0, c.fmod zqV + k, rfl, zm3 c k, by decide, by decide⟩
  have hg : geD (.int c) (.int p18) = .ok (.bool false) := by show R.ok (PyData.bool (decide (p18 <= c))) = _; rw [decide_eq_false h]
  simp only [ziS, zbo, FL.run, List.length_cons, List.length_nil, Nat.reduceAdd, List.replicate, zeV, zaB, sIf, tB, FL.e2, eV, slots, Bool.false_eq_true, if_false, Nat.sub_self, List.cons_append, List.nil_append, List.getElem?_cons_zero, eC, zaf, zuK, hg, zcY, zel, zac, zkG, zar, sNx, List.getElem?_cons_succ, zal, zbw, zvU, hx1, a1, outs, outD, if_true]
  rfl
theorem zjO {k : Nat} {d : D} (h : zl7 k d) (hk : k <= 60000) (m : Int) (hm1 : 1 <= m) (hm2 : m.natAbs < 65536) : ∃ g d', zlp [d, .int m] = .ok (.int g, [d', .int m]) /\ 0 <= g /\ g < m /\ zl7 (k + 1) d' := by
 obtain ⟨n, c, s, rfl, h1, h2, h3⟩ := h
 have i0 : ∀ x y z : D, atI [x, y, z] 0 = some x := fun _ _ _ => rfl
 have i1 : ∀ x y z : D, atI [x, y, z] 1 = some y := fun _ _ _ => rfl
 have i2 : ∀ x y z : D, atI [x, y, z] 2 = some z := fun _ _ _ => rfl
 have j0 : ixN 3 0 = some 0 := rfl
 have j1 : ixN 3 1 = some 1 := rfl
 have hlt : ltD (.int n) (.int m) = .ok (.bool (decide (n < m))) := rfl
 have hd : ∀ i : Int, zbg (.int i) (.int m) = .ok (.int (i.fdiv m)) := fun i => zpi (by omega) (za5 hm2) (by decide)
 have hm : ∀ i : Int, zgM (.int i) (.int m) = .ok (.int (i.fmod m)) := fun i => zgL (by omega)
 have gd : ∀ i : Int, 0 <= i -> 0 <= i.fdiv m := fun i hi => Int.fdiv_nonneg hi (by omega)
 by_cases hn : n < m
 ·rw [decide_eq_true hn] at hlt
  have hc : (c + 1).natAbs < 65536 := by omega
  have x1 := zb6 (i := 11) (za5 (by decide)) (za5 hc) (by decide)
  have xb := ((za5 (i := 11) (by decide)).mul (za5 hc)).add (za5 (i := 5) (by decide))
  have x2 := zkU s (11 * (c + 1) + 5) xb (by decide)
  have x3 := zb6 (za5 hm2) (zq2 s (11 * (c + 1) + 5)) (by decide)
  have nn : 0 <= n + m * zpP s (11 * (c + 1) + 5) := Int.add_nonneg h1 (Int.mul_nonneg (by omega) (zm3 _ _))
  refine ⟨(n + m * zpP s (11 * (c + 1) + 5)).fmod m, .list [.int ((n + m * zpP s (11 * (c + 1) + 5)).fdiv m), .int (c + 1), .int s], ?_, Int.fmod_nonneg_of_pos _ (by omega), Int.fmod_lt_of_pos _ (by omega), _, _, _, rfl, gd _ nn, by omega, by omega⟩
  simp only [zlp, FL.run, List.length_cons, List.length_nil, Nat.reduceAdd, zfQ, zaB, sIf, tB, FL.e2, m2, zbf, slots, if_true, Bool.false_eq_true, if_false, Nat.reduceSub, List.replicate, List.cons_append, List.nil_append, List.getElem?_cons_zero, eC, ixD, R.of, zaf, i0, eV, List.getElem?_cons_succ, hlt, setM, zbw, zeQ, zbE, zal, zac, zar, sNx, i1, List.set_cons_zero, j1, List.set_cons_succ, i2, x1, x2, x3, j0, zbD, gN, zaX, hm, hd, outs, outD, List.head?_cons]
 ·rw [decide_eq_false hn] at hlt
  refine ⟨n.fmod m, .list [.int (n.fdiv m), .int c, .int s], ?_, Int.fmod_nonneg_of_pos _ (by omega), Int.fmod_lt_of_pos _ (by omega), _, _, _, rfl, gd _ h1, by omega, by omega⟩
  simp only [zlp, FL.run, List.length_cons, List.length_nil, Nat.reduceAdd, zfQ, zaB, sIf, tB, FL.e2, m2, zbf, slots, if_true, Bool.false_eq_true, if_false, Nat.reduceSub, List.replicate, List.cons_append, List.nil_append, List.getElem?_cons_zero, eC, ixD, R.of, zaf, i0, eV, List.getElem?_cons_succ, hlt, setM, zbw, zeQ, zbE, zal, zac, zar, sNx, i1, List.set_cons_zero, j1, List.set_cons_succ, i2, zbD, gN, zaX, hm, hd, j0, outs, outD, List.head?_cons]
theorem zvB (ns : List Int) (k : Int) (h0 : 0 <= k) (hk : k.natAbs < 65536) : ∃ a, zuu [.list (ns.map PyData.int), .int k] = .ok (.int a) := by
 have a3 := zb6 (i := 3) (za5 (by decide)) (za5 hk) (by decide)
 have hl : ltD (.int k) (.int (ns.length : Int)) = .ok (.bool (decide (k < ns.length))) := rfl
 by_cases h : k < ns.length
 ·rw [decide_eq_true h] at hl
  have : ∃ a, atI (ns.map PyData.int) k = some (.int a) := by
   unfold atI ixN
   rw [List.length_map, if_pos h0, if_pos h]
   exact ⟨ns[k.toNat]'(by omega), by simp [show k.toNat < ns.length by omega]⟩
  obtain ⟨a, ea⟩ := this
  refine ⟨a, ?_⟩
  simp only [zuu, zbo, FL.run, List.length_cons, List.length_nil, Nat.reduceAdd, List.replicate, ziP, zaB, sIf, tB, FL.e2, eV, slots, Bool.false_eq_true, if_false, Nat.sub_self, List.cons_append, List.nil_append, List.getElem?_cons_succ, List.getElem?_cons_zero, FL.e1, zc4, zaf, List.length_map, hl, zaX, ixD, R.of, sNx, ea, if_true, eC, zbw, outs, outD]
 ·rw [decide_eq_false h] at hl
  refine ⟨3 * k + 1, ?_⟩
  simp only [zuu, zbo, FL.run, List.length_cons, List.length_nil, Nat.reduceAdd, List.replicate, ziP, zaB, sIf, tB, FL.e2, eV, slots, Bool.false_eq_true, if_false, Nat.sub_self, List.cons_append, List.nil_append, List.getElem?_cons_succ, List.getElem?_cons_zero, FL.e1, zc4, zaf, List.length_map, hl, zaX, ixD, sNx, eC, zbw, a3, outs, outD, if_true]
theorem zha {k : Nat} {ix : List Nat} {g : GF} {t : TF} {f : EF} (P : Nat -> List D -> En -> Prop) : ∀ (items : List D) (i : Nat) (acc : List D) (ρ : En), acc.length + items.length <= lim -> acc.length = i -> P i acc ρ ->
  (∀ x ∈ items, ∀ j acc ρ, j < i + items.length -> P j acc ρ -> ∃ β y β', g x (blk k ix ρ) = .ok β /\ t β = .ok (true, β) /\ f β = .ok (y, β') /\ P (j + 1) (acc ++ [y]) (back ρ ix (β'.drop k))) ->
  ∃ acc' ρ', zfO k ix g t f items ρ acc = .ok (acc', ρ') /\ acc'.length = i + items.length /\ P (i + items.length) acc' ρ'
 | [], i, acc, ρ, _, e, h, _ => ⟨acc, ρ, rfl, e, h⟩
 | x :: xs, i, acc, ρ, hl, e, h, hx => by
  obtain ⟨β, y, β', h1, h2, h3, h4⟩ := hx x (List.mem_cons_self ..) i acc ρ (by simp) h
  have hl' : acc.length + (xs.length + 1) <= lim := hl
  obtain ⟨acc', ρ', e1', e2', e3'⟩ := zha P xs (i + 1) (acc ++ [y]) _ (by simp; omega) (by simp; omega) h4 fun x m j acc ρ hj => hx x (List.mem_cons_of_mem _ m) j acc ρ (by rw [List.length_cons]; omega)
  refine ⟨acc', ρ', ?_, by simp; omega, by rw [List.length_cons, show i + (xs.length + 1) = i + 1 + xs.length by omega]; exact e3'⟩
  unfold zfO
  rw [h1, zaf, h2, zaf, if_pos rfl, h3, zaf, zaQ (zcO (by omega)), e1']
end FL
namespace FL
open PySem
theorem znZ {i : Nat} {x : Sl} : ∀ (ρ : En) (n : Nat), i < n -> bkL [(i, x)] n ρ = ρ
 | [], _, _ => rfl
 | y :: r, n, h => by
  unfold bkL
  rw [zn0 (by rw [List.lookup_cons, show (n == i) = false from beq_eq_false_iff_ne.mpr (by omega)]; rfl), znZ r (n + 1) (by omega)]
theorem zkm {d d' : D} {p : Bool} : ∀ (ρ : En) (n i : Nat), ρ[i]? = some (.ow p d) -> bkL [(n + i, .ow true d')] n ρ = ρ.set i (.ow p d')
 | [], _, _, h => by simp at h
 | y :: r, n, 0, h => by
  have hy : y = .ow p d := by simpa using h
  subst hy
  unfold bkL
  rw [Nat.add_zero, znZ r (n + 1) (Nat.lt_succ_self n)]
  have : bk1 [(n, Sl.ow true d')] n (.ow p d) = .ow p d' := by
   unfold bk1
   rw [List.lookup_cons, beq_self_eq_true]
  rw [this]
  rfl
 | y :: r, n, i + 1, h => by
  unfold bkL
  rw [zn0 (by rw [List.lookup_cons, show (n == n + (i + 1)) = false from beq_eq_false_iff_ne.mpr (by omega)]; rfl), show n + (i + 1) = n + 1 + i by omega, zkm r (n + 1) i (by simpa using h)]
  rfl
theorem znX {F : List D -> R (D × List D)} {i : Nat} {f : EF} {ρ : En} {p : Bool} {d v r d' v' : D} (hi : ρ[i]? = some (.ow p d)) (hf : f ρ = .ok (v, ρ)) (hF : F [d, v] = .ok (r, [d', v'])) : za1 F [.m i, .v f] ρ = .ok (r, ρ.set i (.ow p d')) := by
 have hm : zbf ρ i = .ok d := by unfold zbf; rw [hi]
 unfold za1
 simp only [zl9, hm, zaf, hf, zlm, hF]
 have := zkm (d := d) (d' := d') (p := p) ρ 0 i hi
 rw [Nat.zero_add] at this
 show R.ok (r, bkL [(i, .ow true d')] 0 ρ) = _
 rw [this]
end FL
namespace FL
open PySem
def zbO : SF := (zhH (zib 3) (tB (e2 neD (eV 3) (eC (.int 0)))) (ziU 2 3 (eV 3) (e2 zgM (eV 2) (eV 3))))
def zcc : SF := (zaB (ziU 2 3 (e1 zqe (eV 0)) (e1 zqe (eV 1)))
  (zaB zbO
  (zaX (eV 2))))
def zaw : List D -> R D := zbo false 2 4 zcc
def zdt : SF := (zaX (zek (zac (e1 zc4 (eV 0)) (zac (eV 0) zar))))
def zci : List D -> R D := zbo false 1 1 zdt
def zkd : SF := (zaB (zbD (gN 2) (zal zaw (zac (e2 ixD (eV 0) (eC (.int 1))) (zac (e2 ixD (eV 1) (eC (.int 1))) zar))))
  (zaB (ziU 3 4 (e2 zbg (e2 ixD (eV 0) (eC (.int 1))) (eV 2)) (e2 zbg (e2 ixD (eV 1) (eC (.int 1))) (eV 2)))
  (zaB (zbD (gN 5) (e2 zbw (e2 zcz (e2 ixD (eV 0) (eC (.int 0))) (eV 4)) (e2 zcz (e2 ixD (eV 1) (eC (.int 0))) (eV 3))))
  (zaB (zbD (gN 6) (zal zaw (zac (eV 5) (zac (eV 2) zar))))
  (zaX (zek (zac (e2 zbg (eV 5) (eV 6)) (zac (e2 zcz (eV 3) (e2 zbg (e2 ixD (eV 1) (eC (.int 1))) (eV 6))) zar))))))))
def zoc : List D -> R D := zbo false 2 7 zkd
def ziH : SF := (zaB (ziU 2 3 (zal zaw (zac (e2 ixD (eV 0) (eC (.int 0))) (zac (e2 ixD (eV 1) (eC (.int 1))) zar))) (zal zaw (zac (e2 ixD (eV 1) (eC (.int 0))) (zac (e2 ixD (eV 0) (eC (.int 1))) zar))))
  (zaX (zek (zac (e2 zcz (e2 zbg (e2 ixD (eV 0) (eC (.int 0))) (eV 2)) (e2 zbg (e2 ixD (eV 1) (eC (.int 0))) (eV 3))) (zac (e2 zcz (e2 zbg (e2 ixD (eV 0) (eC (.int 1))) (eV 3)) (e2 zbg (e2 ixD (eV 1) (eC (.int 1))) (eV 2))) zar)))))
def zhh : List D -> R D := zbo false 2 4 ziH
def zeT : SF := (zaB (zbD (gN 2) (zal zoc (zac (zm7 0 (eV 1) (eC (.tuple [(.int 0), (.int 1)]))) (zac (eV 2) zar))))
  (sIf (tB (e2 neD (eV 2) (eC (.tuple [(.int 0), (.int 1)])))) (znO 0 (eV 1) (eV 2)) (sIf (tB (m2r inD (eV 1) 0)) (znP 0 (eV 1)) sNx)))
def zde : List D -> R (D × List D) := run [true, false, false] false 3 zeT
def zds : EF := (zbY 1 [0] (iE (e1 (zhE zci) (eV 0))) (gN 0) zdJ (zek (zac (eV 0) (zac (e2 ziL (eV 1) (eV 0)) zar))))
def zeS : SF := (zaX zds)
def zhZ : List D -> R D := zbo false 1 1 zeS
def zc1 : SF := (sE (za1 zde [.m 0, .v (eV 3), .v (zal zhh (zac (eV 1) (zac (e2 ziL (eV 2) (eV 3)) zar)))]))
def zeC : SF := (zi3 (iD (eV 2)) (gN 3) zc1)
def zcP : SF := zeC
def ze1 : List D -> R (D × List D) := run [true, false, false] false 4 zcP
def zcb : SF := (sE (za1 zde [.m 2, .v (e2 zbw (eV 3) (eV 4)), .v (zal zhh (zac (e2 ziL (eV 0) (eV 3)) (zac (e2 ziL (eV 1) (eV 4)) zar)))]))
def zb9 : SF := (zi3 (iD (eV 1)) (gN 4) zcb)
def zca : SF := zb9
def zb8 : SF := (zi3 (iD (eV 0)) (gN 3) zca)
def zcB : SF := (zaB (ze6 2 zlb)
  (zaB zb8
  (zif 2)))
def zbq : List D -> R D := zbo true 2 5 zcB
def zd2 : SF := (zaB (ze6 2 (zal zbq (zac (eV 0) (zac (eV 1) zar))))
  (zaB (sE (za1 ze1 [.m 2, .v (eC (.tuple [(.int (-1)), (.int 1)])), .v (zal zbq (zac (eV 1) (zac (eV 0) zar)))]))
  (zif 2)))
def ze0 : List D -> R D := zbo true 2 3 zd2
def zbT (Fr : List D -> R D) : SF := (zaB (sIf (FL.zeH (tE (e1 (zcr "tuple") (eV 0)))) (zcY (zhU (zek (zac (eV 0) zar)) (eC (.tuple [(.int 1), (.int 1)])))) sNx)
  (zcY (zal ze0 (zac (zal Fr (zac (e2 ixD (eV 0) (eC (.int 0))) zar)) (zac (zal Fr (zac (e2 ixD (eV 0) (eC (.int 1))) zar)) zar)))))
def zbB : Nat -> List D -> R D
 | 0 => fun _ => .bad
 | k + 1 => zbo true 1 1 (zbT (zbB k))
end FL
namespace FL
open PySem
def num (r : Rat) : D := .tuple [.int r.num, .int (r.den : Int)]
theorem zo3 {h l : Nat} (p : l ≠ 0) : zgM (.int (h : Int)) (.int (l : Int)) = .ok (.int ((h % l : Nat) : Int)) := by
 show chk (decide ((l : Int) ≠ 0)) _ = _
 rw [zaQ (by simpa using p)]
 rw [Int.fmod_eq_emod_of_nonneg _ (by omega)]
 rfl
theorem zk4 (x0 x1 : Sl) : ∀ (n h l : Nat), l < n -> zew (tB (e2 neD (eV 3) (eC (.int 0)))) (ziU 2 3 (eV 3) (e2 zgM (eV 2) (eV 3))) n [x0, x1, .val (.int (h : Int)), .val (.int (l : Int))] = .ok (.nx, [x0, x1, .val (.int ((Nat.gcd h l : Nat) : Int)), .val (.int 0)])
 | 0, h, l, p => by omega
 | n + 1, h, l, p => by
  unfold zew
  by_cases c : l = 0
  ·subst c
   have e : neD (.int ((0 : Nat) : Int)) (.int 0) = .ok (.bool false) := by rw [zjZ]; rfl
   simp only [tB, FL.e2, eV, List.getElem?_cons_succ, List.getElem?_cons_zero, eC, zaf, e, ziU, gN, Bool.false_eq_true, if_false, Nat.gcd_zero_right]
   rfl
  ·have e : neD (.int (l : Int)) (.int 0) = .ok (.bool true) := by
    rw [zjZ, decide_eq_false (by omega)]; rfl
   simp only [tB, FL.e2, eV, List.getElem?_cons_succ, List.getElem?_cons_zero, eC, zaf, e, ziU, gN, zo3 c, List.set_cons_succ, List.set_cons_zero, if_true]
   have ih := zk4 x0 x1 n l (h % l) (by have := Nat.mod_lt h (Nat.pos_of_ne_zero c); omega)
   rw [ih, Nat.gcd_comm l, <- Nat.gcd_rec, Nat.gcd_comm]
theorem zpB (i : Int) : zqe (.int i) = .ok (.int (i.natAbs : Int)) := by
 show R.ok (PyData.int (if i < 0 then -i else i)) = _
 congr 2
 split <;> omega
theorem zk1 (a b : Int) : zaw [.int a, .int b] = .ok (.int (Int.gcd a b : Int)) := by
 have e1 : ziU 2 3 (FL.e1 zqe (eV 0)) (FL.e1 zqe (eV 1)) [.val (.int a), .val (.int b), .no, .no] = .ok (.nx, [.val (.int a), .val (.int b), .val (.int (a.natAbs : Int)), .val (.int (b.natAbs : Int))]) := by
  simp only [ziU, FL.e1, eV, List.getElem?_cons_zero, zaf, zpB, gN, List.getElem?_cons_succ, List.set_cons_succ, List.set_cons_zero]
 have e2 : zbO [.val (.int a), .val (.int b), .val (.int (a.natAbs : Int)), .val (.int (b.natAbs : Int))] = .ok (.nx, [.val (.int a), .val (.int b), .val (.int ((Nat.gcd a.natAbs b.natAbs : Nat) : Int)), .val (.int 0)]) := by
  unfold zbO zhH
  have : zib 3 [.val (.int a), .val (.int b), .val (.int (a.natAbs : Int)), .val (.int (b.natAbs : Int))] = b.natAbs + 1 := by
   show ((b.natAbs : Int)).natAbs + 1 = _
   simp
  rw [this]
  exact zk4 _ _ _ _ _ (by omega)
 show ((zcc [.val (.int a), .val (.int b), .no, .no]).bind _).bind _ = _
 unfold zcc
 rw [zaG e1, zaG e2]
 rfl
theorem zd3 {i : Int} {j : Nat} {n : Nat} (hj : j ≠ 0) (hb : j < 2 ^ n) (hn : n <= 8999) : zbg (.int i) (.int (j : Int)) = .ok (.int (i / (j : Int))) := by
 show chk (decide ((j : Int) ≠ 0) && leB (((j : Int)).natAbs.log2 + 1) 9000) _ = _
 rw [zaQ]
 ·rw [Int.fdiv_eq_ediv_of_nonneg _ (by omega)]
 ·rw [Bool.and_eq_true]
  refine ⟨by simpa using hj, zcO ?_⟩
  rw [Int.natAbs_natCast]
  have := (Nat.log2_lt hj).mpr hb
  omega
theorem zpz {r : Rat} {n : Nat} (h : QR.Bd n r) : Bd r.num n /\ Bd (r.den : Int) n := ⟨⟨h.1⟩, ⟨by simpa using h.2⟩⟩
theorem zf7 {i : Int} {n : Nat} {j : Nat} (h : Bd i n) : Bd (i / (j : Int)) n := ⟨Nat.lt_of_le_of_lt (Int.natAbs_ediv_le_natAbs i (j : Int)) h.h⟩
theorem zk3 {a : Int} {b : Nat} {n : Nat} (hb : b ≠ 0) (h : b < 2 ^ n) : Int.gcd a (b : Int) ≠ 0 /\ Int.gcd a (b : Int) < 2 ^ n := by
 have h1 : 0 < Int.gcd a (b : Int) := Int.gcd_pos_of_ne_zero_right a (by omega)
 have h2 : Int.gcd a (b : Int) ∣ b := by
  have := Int.gcd_dvd_right a (b : Int)
  exact Int.natCast_dvd_natCast.mp this
 have h3 := Nat.le_of_dvd (Nat.pos_of_ne_zero hb) h2
 omega
theorem zqN {r s : Rat} {n : Nat} (hr : QR.Bd n r) (hs : QR.Bd n s) (hn : n <= 4000) : zoc [num r, num s] = .ok (num (r + s)) := by
 have gS := zk3 (a := (r.den : Int)) s.den_nz hs.2
 generalize hg : Int.gcd (r.den : Int) (s.den : Int) = g at gS
 have k1 : zaw [.int (r.den : Int), .int (s.den : Int)] = .ok (.int (g : Int)) := by rw [zk1, hg]
 have k2 : zbg (.int (r.den : Int)) (.int (g : Int)) = .ok (.int ((r.den : Int) / (g : Int))) := zd3 gS.1 gS.2 (by omega)
 have k3 : zbg (.int (s.den : Int)) (.int (g : Int)) = .ok (.int ((s.den : Int) / (g : Int))) := zd3 gS.1 gS.2 (by omega)
 have br := zpz hr
 have bs := zpz hs
 have k4 : zcz (.int r.num) (.int ((s.den : Int) / (g : Int))) = .ok (.int (r.num * ((s.den : Int) / (g : Int)))) := zb6 br.1 (zf7 bs.2) (by omega)
 have k5 : zcz (.int s.num) (.int ((r.den : Int) / (g : Int))) = .ok (.int (s.num * ((r.den : Int) / (g : Int)))) := zb6 bs.1 (zf7 br.2) (by omega)
 generalize ht : r.num * ((s.den : Int) / (g : Int)) + s.num * ((r.den : Int) / (g : Int)) = top
 have gT := zk3 (a := top) gS.1 gS.2
 generalize he : Int.gcd top (g : Int) = e at gT
 have k6 : zaw [.int top, .int (g : Int)] = .ok (.int (e : Int)) := by rw [zk1, he]
 have k7 : zbg (.int top) (.int (e : Int)) = .ok (.int (top / (e : Int))) := zd3 gT.1 gT.2 (by omega)
 have k8 : zbg (.int (s.den : Int)) (.int (e : Int)) = .ok (.int ((s.den : Int) / (e : Int))) := zd3 gT.1 gT.2 (by omega)
 have k9 : zcz (.int ((r.den : Int) / (g : Int))) (.int ((s.den : Int) / (e : Int))) = .ok (.int (((r.den : Int) / (g : Int)) * ((s.den : Int) / (e : Int)))) := zb6 (zf7 br.2) (zf7 bs.2) (by omega)
 have x0 : ∀ (a b : Int), ixD (.tuple [.int a, .int b]) (.int 0) = .ok (.int a) := fun a b => rfl
 have x1 : ∀ (a b : Int), ixD (.tuple [.int a, .int b]) (.int 1) = .ok (.int b) := fun a b => rfl
 have l2 : leB 2 lim = true := by decide
 have ad : ∀ (a b : Int), zbw (.int a) (.int b) = .ok (.int (a + b)) := fun _ _ => rfl
 have fin : num (r + s) = .tuple [.int (top / (e : Int)), .int (((r.den : Int) / (g : Int)) * ((s.den : Int) / (e : Int)))] := by
  have h1 := Q1.zqO (QR.low r) (QR.low s)
  rw [QR.add] at h1
  unfold Q1.zlC at h1
  simp only [hg, ht, he] at h1
  unfold num
  rw [<- (Prod.mk.inj h1).1, <- (Prod.mk.inj h1).2]
 have s1 : zbD (gN 2) (zal zaw (zac (e2 ixD (eV 0) (eC (.int 1))) (zac (e2 ixD (eV 1) (eC (.int 1))) zar))) [.val (num r), .val (num s), .no, .no, .no, .no, .no] = .ok (.nx, [.val (num r), .val (num s), .val (.int (g : Int)), .no, .no, .no, .no]) := by
  unfold num
  simp only [zbD, zal, zac, FL.e2, eV, List.getElem?_cons_zero, eC, zaf, x1, zar, List.getElem?_cons_succ, k1, gN, List.set_cons_succ, List.set_cons_zero]
 have s2 : ziU 3 4 (e2 zbg (e2 ixD (eV 0) (eC (.int 1))) (eV 2)) (e2 zbg (e2 ixD (eV 1) (eC (.int 1))) (eV 2)) [.val (num r), .val (num s), .val (.int (g : Int)), .no, .no, .no, .no] = .ok (.nx, [.val (num r), .val (num s), .val (.int (g : Int)), .val (.int ((r.den : Int) / (g : Int))), .val (.int ((s.den : Int) / (g : Int))), .no, .no]) := by
  unfold num
  simp only [ziU, FL.e2, eV, List.getElem?_cons_zero, eC, zaf, x1, List.getElem?_cons_succ, k2, gN, k3, List.set_cons_succ, List.set_cons_zero]
 have s3 : zbD (gN 5) (e2 zbw (e2 zcz (e2 ixD (eV 0) (eC (.int 0))) (eV 4)) (e2 zcz (e2 ixD (eV 1) (eC (.int 0))) (eV 3))) [.val (num r), .val (num s), .val (.int (g : Int)), .val (.int ((r.den : Int) / (g : Int))), .val (.int ((s.den : Int) / (g : Int))), .no, .no] = .ok (.nx, [.val (num r), .val (num s), .val (.int (g : Int)), .val (.int ((r.den : Int) / (g : Int))), .val (.int ((s.den : Int) / (g : Int))), .val (.int top), .no]) := by
  unfold num
  simp only [zbD, FL.e2, eV, List.getElem?_cons_zero, eC, zaf, x0, List.getElem?_cons_succ, k4, k5, ad, ht, gN, List.set_cons_succ, List.set_cons_zero]
 have s4 : zbD (gN 6) (zal zaw (zac (eV 5) (zac (eV 2) zar))) [.val (num r), .val (num s), .val (.int (g : Int)), .val (.int ((r.den : Int) / (g : Int))), .val (.int ((s.den : Int) / (g : Int))), .val (.int top), .no] = .ok (.nx, [.val (num r), .val (num s), .val (.int (g : Int)), .val (.int ((r.den : Int) / (g : Int))), .val (.int ((s.den : Int) / (g : Int))), .val (.int top), .val (.int (e : Int))]) := by
  simp only [zbD, zal, zac, eV, List.getElem?_cons_succ, List.getElem?_cons_zero, zar, zaf, k6, gN, List.set_cons_succ, List.set_cons_zero]
 have s5 : zaX (zek (zac (e2 zbg (eV 5) (eV 6)) (zac (e2 zcz (eV 3) (e2 zbg (e2 ixD (eV 1) (eC (.int 1))) (eV 6))) zar))) [.val (num r), .val (num s), .val (.int (g : Int)), .val (.int ((r.den : Int) / (g : Int))), .val (.int ((s.den : Int) / (g : Int))), .val (.int top), .val (.int (e : Int))] = .ok (.rt (num (r + s)), [.val (num r), .val (num s), .val (.int (g : Int)), .val (.int ((r.den : Int) / (g : Int))), .val (.int ((s.den : Int) / (g : Int))), .val (.int top), .val (.int (e : Int))]) := by
  rw [fin]
  unfold num
  simp only [zaX, zek, zac, FL.e2, eV, List.getElem?_cons_succ, List.getElem?_cons_zero, zaf, k7, eC, zar, x1, k8, k9, List.length_cons, List.length_nil, Nat.reduceAdd, zaQ l2]
 show ((zkd [.val (num r), .val (num s), .no, .no, .no, .no, .no]).bind _).bind _ = _
 unfold zkd
 rw [zaG s1, zaG s2, zaG s3, zaG s4, s5]
 rfl
theorem zkC {r s : Rat} {n : Nat} (hr : QR.Bd n r) (hs : QR.Bd n s) (hn : n <= 4000) : zhh [num r, num s] = .ok (num (r * s)) := by
 have gS := zk3 (a := r.num) s.den_nz hs.2
 generalize hg : Int.gcd r.num (s.den : Int) = g at gS
 have gT := zk3 (a := s.num) r.den_nz hr.2
 generalize he : Int.gcd s.num (r.den : Int) = e at gT
 have k1 : zaw [.int r.num, .int (s.den : Int)] = .ok (.int (g : Int)) := by rw [zk1, hg]
 have k2 : zaw [.int s.num, .int (r.den : Int)] = .ok (.int (e : Int)) := by rw [zk1, he]
 have k3 : zbg (.int r.num) (.int (g : Int)) = .ok (.int (r.num / (g : Int))) := zd3 gS.1 gS.2 (by omega)
 have k4 : zbg (.int s.num) (.int (e : Int)) = .ok (.int (s.num / (e : Int))) := zd3 gT.1 gT.2 (by omega)
 have k5 : zbg (.int (r.den : Int)) (.int (e : Int)) = .ok (.int ((r.den : Int) / (e : Int))) := zd3 gT.1 gT.2 (by omega)
 have k6 : zbg (.int (s.den : Int)) (.int (g : Int)) = .ok (.int ((s.den : Int) / (g : Int))) := zd3 gS.1 gS.2 (by omega)
 have br := zpz hr
 have bs := zpz hs
 have k7 : zcz (.int (r.num / (g : Int))) (.int (s.num / (e : Int))) = .ok (.int (r.num / (g : Int) * (s.num / (e : Int)))) := zb6 (zf7 br.1) (zf7 bs.1) (by omega)
 have k8 : zcz (.int ((r.den : Int) / (e : Int))) (.int ((s.den : Int) / (g : Int))) = .ok (.int ((r.den : Int) / (e : Int) * ((s.den : Int) / (g : Int)))) := zb6 (zf7 br.2) (zf7 bs.2) (by omega)
 have x0 : ∀ (a b : Int), ixD (.tuple [.int a, .int b]) (.int 0) = .ok (.int a) := fun a b => rfl
 have x1 : ∀ (a b : Int), ixD (.tuple [.int a, .int b]) (.int 1) = .ok (.int b) := fun a b => rfl
 have l2 : leB 2 lim = true := by decide
 have fin : num (r * s) = .tuple [.int (r.num / (g : Int) * (s.num / (e : Int))), .int ((r.den : Int) / (e : Int) * ((s.den : Int) / (g : Int)))] := by
  have h1 := Q1.zoo (QR.low r) (QR.low s)
  rw [QR.mul] at h1
  unfold Q1.zkD at h1
  simp only [hg, he] at h1
  unfold num
  rw [<- (Prod.mk.inj h1).1, <- (Prod.mk.inj h1).2]
 have s1 : ziU 2 3 (zal zaw (zac (e2 ixD (eV 0) (eC (.int 0))) (zac (e2 ixD (eV 1) (eC (.int 1))) zar))) (zal zaw (zac (e2 ixD (eV 1) (eC (.int 0))) (zac (e2 ixD (eV 0) (eC (.int 1))) zar))) [.val (num r), .val (num s), .no, .no] = .ok (.nx, [.val (num r), .val (num s), .val (.int (g : Int)), .val (.int (e : Int))]) := by
  unfold num
  simp only [ziU, zal, zac, FL.e2, eV, List.getElem?_cons_zero, eC, zaf, x0, zar, List.getElem?_cons_succ, x1, k1, gN, k2, List.set_cons_succ, List.set_cons_zero]
 have s5 : zaX (zek (zac (e2 zcz (e2 zbg (e2 ixD (eV 0) (eC (.int 0))) (eV 2)) (e2 zbg (e2 ixD (eV 1) (eC (.int 0))) (eV 3))) (zac (e2 zcz (e2 zbg (e2 ixD (eV 0) (eC (.int 1))) (eV 3)) (e2 zbg (e2 ixD (eV 1) (eC (.int 1))) (eV 2))) zar))) [.val (num r), .val (num s), .val (.int (g : Int)), .val (.int (e : Int))] = .ok (.rt (num (r * s)), [.val (num r), .val (num s), .val (.int (g : Int)), .val (.int (e : Int))]) := by
  rw [fin]
  unfold num
  simp only [zaX, zek, zac, FL.e2, eV, List.getElem?_cons_zero, eC, zaf, x0, List.getElem?_cons_succ, k3, k4, k7, zar, x1, k5, k6, k8, List.length_cons, List.length_nil, Nat.reduceAdd, zaQ l2]
 show ((ziH [.val (num r), .val (num s), .no, .no]).bind _).bind _ = _
 unfold ziH
 rw [zaG s1, s5]
 rfl
end FL
namespace FL
open PySem
abbrev Sm := List (List Int × Rat)
def ent (p : List Int × Rat) : D × D := (tp p.1, num p.2)
def dct (s : Sm) : D := .dict (s.map ent)
def kq (w : List Int) : KQ := .inl (w.map .inl)
theorem zji : ∀ w : List Int, zoj (w.map PyData.int) = some (w.map .inl)
 | [] => rfl
 | x :: r => by simp only [List.map_cons, zoj, kOf, zji r, Option.bind_some, Option.map_some]
theorem zfk (w : List Int) : keyOf (tp w) = some (kq w) := by
 show (zoj (w.map PyData.int)).map Sum.inl = _
 rw [zji]; rfl
theorem zpX {v w : List Int} (h : kq v = kq w) : v = w := by
 have := Sum.inl.inj h
 have := congrArg (List.map (Sum.elim id fun _ => (0 : Int))) this
 simpa [List.map_map, Function.comp_def] using this
theorem znh (v w : List Int) : decide (keyOf (tp v) = some (kq w)) = decide (v = w) := by
 rw [zfk]
 by_cases c : v = w
 ·subst c; simp
 ·rw [decide_eq_false c, decide_eq_false fun z => c (zpX (Option.some.inj z))]
def zfw (s : Sm) (w : List Int) : Option Rat := (s.find? fun p => decide (p.1 = w)).map (·.2)
def zoh (s : Sm) (w : List Int) (q : Rat) : Sm := if (s.any fun p => decide (p.1 = w)) = true then s.map fun p => if p.1 = w then (p.1, q) else p else s ++ [(w, q)]
def zmu (s : Sm) (w : List Int) : Sm := s.filter fun p => decide (p.1 ≠ w)
def zjI (s : Sm) (w : List Int) (q : Rat) : Sm := if (zfw s w).getD 0 + q ≠ 0 then zoh s w ((zfw s w).getD 0 + q) else if (zfw s w).isSome = true then zmu s w else s
theorem ziu (w : List Int) : ∀ s : Sm, look (s.map ent) (kq w) = (zfw s w).map num
 | [] => rfl
 | p :: r => by
  have ih := ziu w r
  unfold look zfw at ih ⊢
  simp only [List.map_cons, List.find?_cons]
  have e : decide (keyOf (ent p).1 = some (kq w)) = decide (p.1 = w) := znh p.1 w
  rw [e]
  cases decide (p.1 = w) with
  | true => rfl
  | false => exact ih
theorem zhP : ∀ s : Sm, keysOk true (s.map ent) = true
 | [] => rfl
 | p :: r => by
  have ih := zhP r
  unfold keysOk at ih ⊢
  rw [List.map_cons, List.all_cons, ih, Bool.and_true]
  show (match keyOf (tp p.1) with | some q => form q == true | none => false) = true
  rw [zfk]; rfl
theorem zfL (s : Sm) (w : List Int) : dictAt (dct s) (tp w) = .ok (s.map ent, kq w) := by
 show (R.of (keyOf (tp w))).bind _ = _
 rw [zfk]
 exact zaQ (zhP s)
theorem zg3 (s : Sm) (w : List Int) : zfp (dct s) (tp w) = .ok ((zfw s w).map num) := by
 unfold zfp
 rw [zfL, zaf, ziu]
theorem zpe (s : Sm) (w : List Int) : zrd (dct s) (tp w) (num 0) = .ok (num ((zfw s w).getD 0)) := by
 unfold zrd
 rw [zg3, zaf]
 cases zfw s w <;> rfl
theorem zp0 (s : Sm) (w : List Int) : inD (tp w) (dct s) = .ok (.bool (zfw s w).isSome) := by
 unfold inD
 rw [zg3, zaf]
 cases zfw s w <;> rfl
theorem zg2 {s : Sm} {w : List Int} {q : Rat} (h : zfw s w = some q) : ziL (dct s) (tp w) = .ok (num q) := by
 unfold ziL
 rw [zg3, zaf, h]; rfl
theorem zn7 (w : List Int) : ∀ s : Sm, ((s.map ent).any fun kv => decide (keyOf kv.1 = some (kq w))) = s.any fun p => decide (p.1 = w)
 | [] => rfl
 | p :: r => by
  simp only [List.map_cons, List.any_cons, zn7 w r]
  rw [show decide (keyOf (ent p).1 = some (kq w)) = decide (p.1 = w) from znh p.1 w]
theorem zqB (s : Sm) (w : List Int) (q : Rat) : zoD (s.map ent) (tp w) (kq w) (num q) = (zoh s w q).map ent := by
 unfold zoD zoh
 rw [zn7]
 split
 ·rw [List.map_map, List.map_map]
  refine List.map_congr_left fun p _ => ?_
  show (if keyOf (tp p.1) = some (kq w) then ((ent p).1, num q) else ent p) = ent (if p.1 = w then (p.1, q) else p)
  by_cases c : p.1 = w
  ·rw [if_pos c, if_pos (by rw [zfk, c])]; rfl
  ·rw [if_neg c, if_neg (fun z => c (by rw [zfk] at z; exact zpX (Option.some.inj z)))]
 ·rw [List.map_append]; rfl
theorem zlf {s : Sm} {w : List Int} {q : Rat} (h : s.length + 1 <= lim) : zl1 (dct s) (tp w) (num q) = .ok (dct (zoh s w q)) := by
 unfold zl1
 rw [zfL, zaf]
 show chk (leB ((s.map ent).length + 1) lim) _ = _
 rw [zaQ (by rw [List.length_map]; exact zcO h), zqB]; rfl
theorem zld (w : List Int) : ∀ s : Sm, zdu (s.map ent) (kq w) = (zmu s w).map ent
 | [] => rfl
 | p :: r => by
  have ih := zld w r
  unfold zdu zmu at ih ⊢
  rw [List.map_cons, List.filter_cons, List.filter_cons, ih]
  have e : decide (keyOf (ent p).1 ≠ some (kq w)) = decide (p.1 ≠ w) := by
   have := znh p.1 w
   rw [show (ent p).1 = tp p.1 from rfl, decide_not, decide_not, this]
  rw [e]
  split <;> rfl
theorem zpm {s : Sm} {w : List Int} (h : (zfw s w).isSome = true) : zpn (dct s) (tp w) = .ok (dct (zmu s w)) := by
 unfold zpn
 rw [zfL, zaf]
 show chk (look (s.map ent) (kq w)).isSome _ = _
 rw [ziu, zaQ (by rw [Option.isSome_map]; exact h), zld]; rfl
theorem zst (r s : Rat) : neD (num r) (num s) = .ok (.bool (!decide (r = s))) := by
 have e : decide (([r.num, (r.den : Int)] : List Int) = [s.num, (s.den : Int)]) = decide (r = s) := by
  by_cases c : r = s
  ·subst c; simp
  ·rw [decide_eq_false c, decide_eq_false]
   intro z
   simp only [List.cons.injEq, and_true, Int.natCast_inj] at z
   exact c (Rat.ext z.1 z.2)
 rw [<- e]
 exact zpO [r.num, (r.den : Int)] [s.num, (s.den : Int)]
theorem zuo : (PyData.tuple [.int 0, .int 1] : D) = num 0 := rfl
theorem zwl : (PyData.tuple [.int 1, .int 1] : D) = num 1 := rfl
theorem zks {s : Sm} {w : List Int} {q : Rat} (hl : s.length + 1 <= lim) (h1 : QR.Bd 4000 ((zfw s w).getD 0)) (h2 : QR.Bd 4000 q) : zde [dct s, tp w, num q] = .ok (.none, [dct (zjI s w q), tp w, num q]) := by
 have kd : zlQ (dct s) = .ok ((s.map ent).map (·.1)) := rfl
 have p1 := zqN h1 h2 (Nat.le_refl _)
 generalize hm : (zfw s w).getD 0 + q = m at p1
 have s1 : zbD (gN 2) (zal zoc (zac (zm7 0 (eV 1) (eC (.tuple [(.int 0), (.int 1)]))) (zac (eV 2) zar))) [.ow true (dct s), .val (tp w), .val (num q)] = .ok (.nx, [.ow true (dct s), .val (tp w), .val (num m)]) := by
  rw [zuo]
  simp only [zbD, zal, zac, zar, zm7, zbf, eV, eC, gN, zaf, List.getElem?_cons_zero, List.getElem?_cons_succ, List.set_cons_zero, List.set_cons_succ, kd, zpe, p1]
 have nd : neD (num m) (num 0) = .ok (.bool (!decide (m = 0))) := zst m 0
 have fin : ∀ {s' : Sm}, (sIf (tB (e2 neD (eV 2) (eC (.tuple [(.int 0), (.int 1)])))) (znO 0 (eV 1) (eV 2)) (sIf (tB (m2r inD (eV 1) 0)) (znP 0 (eV 1)) sNx)) [.ow true (dct s), .val (tp w), .val (num m)] = .ok (.nx, [.ow true (dct s'), .val (tp w), .val (num m)]) -> zde [dct s, tp w, num q] = .ok (.none, [dct s', tp w, num q]) := fun {s'} e => by
  show (zeT [.ow true (dct s), .val (tp w), .val (num q)]).bind _ = _
  unfold zeT
  rw [zaG s1, e]
  rfl
 unfold zjI
 rw [hm]
 by_cases c : m = 0
 ·rw [if_neg (by simpa using c)]
  have nd' : neD (num m) (num 0) = .ok (.bool false) := by rw [nd, decide_eq_true c]; rfl
  by_cases c2 : (zfw s w).isSome = true
  ·rw [if_pos c2]
   refine fin ?_
   rw [zuo]
   simp only [sIf, tB, FL.e2, m2r, znP, zbf, zbE, eV, eC, zaf, List.getElem?_cons_zero, List.getElem?_cons_succ, List.set_cons_zero, List.set_cons_succ, nd', zp0, c2, zpm c2, Bool.false_eq_true, if_false, if_true]
  ·rw [if_neg c2]
   have c3 : (zfw s w).isSome = false := by simpa using c2
   refine fin ?_
   rw [zuo]
   simp only [sIf, tB, FL.e2, m2r, sNx, zbf, zbE, eV, eC, zaf, List.getElem?_cons_zero, List.getElem?_cons_succ, List.set_cons_zero, List.set_cons_succ, nd', zp0, c3, Bool.false_eq_true, if_false, if_true]
 ·rw [if_pos c]
  have nd' : neD (num m) (num 0) = .ok (.bool true) := by rw [nd, decide_eq_false c]; rfl
  refine fin ?_
  rw [zuo]
  simp only [sIf, tB, FL.e2, znO, zbf, zbE, eV, eC, zaf, List.getElem?_cons_zero, List.getElem?_cons_succ, List.set_cons_zero, List.set_cons_succ, nd', zlf hl, Bool.false_eq_true, if_false, if_true]
def Nk (s : Sm) : Prop := (s.map (·.1)).Nodup
theorem zot {s : Sm} {w : List Int} {q : Rat} (h : zfw s w = some q) : (w, q) ∈ s := by
 unfold zfw at h
 rw [Option.map_eq_some_iff] at h
 obtain ⟨p, e, rfl⟩ := h
 have h1 := List.mem_of_find?_eq_some e
 have h2 := List.find?_some e
 have : p.1 = w := by simpa using h2
 subst this; exact h1
theorem zfE : ∀ {s : Sm} {p : List Int × Rat}, Nk s -> p ∈ s -> zfw s p.1 = some p.2
 | [], p, _, h => by simp at h
 | a :: r, p, nk, h => by
  unfold Nk at nk
  rw [List.map_cons, List.nodup_cons] at nk
  unfold zfw
  rw [List.find?_cons]
  rcases List.mem_cons.mp h with rfl | h
  ·simp
  ·have : a.1 ≠ p.1 := fun z => nk.1 (by rw [z]; exact List.mem_map.mpr ⟨p, h, rfl⟩)
   rw [decide_eq_false this]
   exact zfE (s := r) nk.2 h
theorem zmt {s : Sm} {w : List Int} (h : zfw s w = none) : ∀ p ∈ s, p.1 ≠ w := fun p hp z => by
 unfold zfw at h
 rw [Option.map_eq_none_iff, List.find?_eq_none] at h
 exact h p hp (by simpa using z)
theorem zrs (s : Sm) (w : List Int) : (s.any fun p => decide (p.1 = w)) = (zfw s w).isSome := by
 unfold zfw
 rw [Option.isSome_map, List.isSome_find?]
theorem zmr {s : Sm} {w : List Int} {q : Rat} (nk : Nk s) : Nk (zoh s w q) := by
 unfold zoh
 rw [zrs]
 split
 ·unfold Nk
  rw [List.map_map]
  have : (fun p : List Int × Rat => p.1) ∘ (fun p => if p.1 = w then (p.1, q) else p) = fun p => p.1 := by
   funext p
   show (if p.1 = w then (p.1, q) else p).1 = p.1
   split <;> rfl
  rw [this]; exact nk
 ·rename_i c
  have c' : zfw s w = none := by simpa using c
  unfold Nk
  rw [List.map_append, List.nodup_append]
  refine ⟨nk, by simp, fun a ha b hb => ?_⟩
  have : b = w := by simpa using hb
  subst this
  obtain ⟨p, hp, rfl⟩ := List.mem_map.mp ha
  exact zmt c' p hp
theorem zlx {s : Sm} {w : List Int} (nk : Nk s) : Nk (zmu s w) := List.Nodup.sublist (List.Sublist.map _ List.filter_sublist) nk
theorem zmv {s : Sm} {w : List Int} {q : Rat} (nk : Nk s) : Nk (zjI s w q) := by
 unfold zjI
 split
 ·exact zmr nk
 ·split
  ·exact zlx nk
  ·exact nk
theorem zor {s : Sm} {w : List Int} {q : Rat} {p : List Int × Rat} (h : p ∈ zoh s w q) : p ∈ s \/ p = (w, q) := by
 unfold zoh at h
 split at h
 ·obtain ⟨x, hx, rfl⟩ := List.mem_map.mp h
  by_cases c : x.1 = w
  ·rw [if_pos c]; right; rw [c]
  ·rw [if_neg c]; exact .inl hx
 ·rcases List.mem_append.mp h with h | h
  ·exact .inl h
  ·exact .inr (by simpa using h)
theorem zos (s : Sm) (w : List Int) (q : Rat) : (zoh s w q).length <= s.length + 1 := by
 unfold zoh
 split
 ·rw [List.length_map]; omega
 ·rw [List.length_append]; simp
theorem zkI (s : Sm) (w : List Int) (q : Rat) : (zjI s w q).length <= s.length + 1 := by
 unfold zjI
 split
 ·exact zos _ _ _
 ·split
  ·exact Nat.le_succ_of_le (List.length_filter_le ..)
  ·omega
theorem zig {s : Sm} {w : List Int} {q : Rat} {p : List Int × Rat} (h : p ∈ zjI s w q) : p ∈ s \/ p = (w, (zfw s w).getD 0 + q) := by
 unfold zjI at h
 split at h
 ·exact zor h
 ·split at h
  ·exact .inl (List.mem_filter.mp h).1
  ·exact .inl h
structure zrw (P : Nat -> Rat -> Prop) (Q : Rat -> Prop) (N : Nat) : Prop where
 z : ∀ i, P i 0
 up : ∀ i r, P i r -> P (i + 1) r
 add : ∀ i r q, P i r -> Q q -> P (i + 1) (r + q)
 bp : ∀ i r, i <= N -> P i r -> QR.Bd 4000 r
 bq : ∀ q, Q q -> QR.Bd 4000 q
structure Fit (P : Nat -> Rat -> Prop) (i : Nat) (s : Sm) : Prop where
 nk : Nk s
 sz : ∀ p ∈ s, P i p.2
theorem Fit.get {P : Nat -> Rat -> Prop} {Q : Rat -> Prop} {N i : Nat} (g : zrw P Q N) {s : Sm} (f : Fit P i s) (w : List Int) : P i ((zfw s w).getD 0) := by
 cases e : zfw s w with
 | none => exact g.z i
 | some q => exact f.sz _ (zot e)
theorem Fit.add {P : Nat -> Rat -> Prop} {Q : Rat -> Prop} {N i : Nat} (g : zrw P Q N) {s : Sm} (f : Fit P i s) (w : List Int) {q : Rat} (hq : Q q) : Fit P (i + 1) (zjI s w q) := by
 refine ⟨zmv f.nk, fun p hp => ?_⟩
 rcases zig hp with h | h
 ·exact g.up _ _ (f.sz p h)
 ·subst h; exact g.add _ _ _ (f.get g w) hq
theorem zf9 {P : Nat -> Rat -> Prop} {Q : Rat -> Prop} {N i : Nat} (g : zrw P Q N) {s : Sm} (f : Fit P i s) (hi : i <= N) (hl : s.length + 1 <= lim) (w : List Int) {q : Rat} (hq : Q q) :
  zde [dct s, tp w, num q] = .ok (.none, [dct (zjI s w q), tp w, num q]) := zks hl (g.bp _ _ hi (f.get g w)) (g.bq _ hq)
end FL
namespace FL
open PySem
theorem zkk {F : List D -> R (D × List D)} {i : Nat} {f h : EF} {ρ : En} {p : Bool} {d v u r d' v' u' : D} (hi : ρ[i]? = some (.ow p d)) (hf : f ρ = .ok (v, ρ)) (hh : h ρ = .ok (u, ρ)) (hF : F [d, v, u] = .ok (r, [d', v', u'])) : za1 F [.m i, .v f, .v h] ρ = .ok (r, ρ.set i (.ow p d')) := by
 have hm : zbf ρ i = .ok d := by unfold zbf; rw [hi]
 unfold za1
 simp only [zl9, hm, zaf, hf, hh, zlm, hF]
 have := zkm (d := d) (d' := d') (p := p) ρ 0 i hi
 rw [Nat.zero_add] at this
 show R.ok (r, bkL [(i, .ow true d')] 0 ρ) = _
 rw [this]
def inW (p1 : List Int × Rat) (t acc : Sm) : Sm := t.foldl (fun a p => zjI a (p1.1 ++ p.1) (p1.2 * p.2)) acc
def zeN (s t : Sm) : Sm := s.foldl (fun a p => inW p t a) []
theorem ziF (p1 : List Int × Rat) (t acc : Sm) (x : List Int × Rat) : inW p1 (t ++ [x]) acc = zjI (inW p1 t acc) (p1.1 ++ x.1) (p1.2 * x.2) := by simp [inW]
theorem zgl (t : Sm) : zlQ (dct t) = .ok (t.map fun p => tp p.1) := by
 show R.ok ((t.map ent).map (·.1)) = _
 rw [List.map_map]; rfl
theorem zub {v w : List Int} (h : v.length + w.length <= lim) : zbw (tp v) (tp w) = .ok (tp (v ++ w)) := by
 show chk (leB ((v.map PyData.int).length + (w.map PyData.int).length) lim) _ = _
 rw [zaQ (zcO (by simpa using h))]
 show R.ok (PyData.tuple (v.map PyData.int ++ w.map PyData.int)) = R.ok (PyData.tuple ((v ++ w).map PyData.int))
 rw [List.map_append]
def Ws (n : Nat) (s : Sm) : Prop := ∀ p ∈ s, p.1.length <= n
theorem zoG {P : Nat -> Rat -> Prop} {Q : Rat -> Prop} {N i : Nat} (g : zrw P Q N) {s t : Sm} (ns : Nk s) (nt : Nk t) (w1 : Ws 1000 s) (w2 : Ws 1000 t) {p1 : List Int × Rat} (m1 : p1 ∈ s) (hQ : ∀ p ∈ t, Q (p1.2 * p.2)) (b1 : QR.Bd 4000 p1.2) (b2 : ∀ p ∈ t, QR.Bd 4000 p.2)
  {acc : Sm} (f : Fit P i acc) (hi : i + t.length <= N) (hl : acc.length + t.length + 1 <= lim) {x4 : Sl} (h4 : Np x4) :
  ∃ y, Np y /\ zb9 [.val (dct s), .val (dct t), .ow false (dct acc), .val (tp p1.1), x4] = .ok (.nx, [.val (dct s), .val (dct t), .ow false (dct (inW p1 t acc)), .val (tp p1.1), y]) /\ Fit P (i + t.length) (inW p1 t acc) /\ (inW p1 t acc).length <= acc.length + t.length := by
 have L := zej (f := fun p : List Int × Rat => tp p.1) (g := gN 4) (b := zcb)
  (fun done ρ => ∃ y, Np y /\ ρ = [.val (dct s), .val (dct t), .ow false (dct (inW p1 done acc)), .val (tp p1.1), y] /\ Fit P (i + done.length) (inW p1 done acc) /\ (inW p1 done acc).length <= acc.length + done.length)
  t [] [.val (dct s), .val (dct t), .ow false (dct acc), .val (tp p1.1), x4] ⟨x4, h4, rfl, f, Nat.le_refl _⟩ (by
   intro pre x post ρ e hP
   obtain ⟨y, hy, rfl, fp, hlp⟩ := hP
   rw [List.nil_append] at e
   have mx : x ∈ t := by rw [e]; simp
   have hlen : pre.length + 1 <= t.length := by rw [e]; simp
   have gx : gN 4 (tp x.1) [.val (dct s), .val (dct t), .ow false (dct (inW p1 pre acc)), .val (tp p1.1), y] = .ok [.val (dct s), .val (dct t), .ow false (dct (inW p1 pre acc)), .val (tp p1.1), .val (tp x.1)] := zke rfl hy
   have a1 : (e2 zbw (eV 3) (eV 4)) [.val (dct s), .val (dct t), .ow false (dct (inW p1 pre acc)), .val (tp p1.1), .val (tp x.1)] = .ok (tp (p1.1 ++ x.1), [.val (dct s), .val (dct t), .ow false (dct (inW p1 pre acc)), .val (tp p1.1), .val (tp x.1)]) := by
    have := zub (v := p1.1) (w := x.1) (by have := w1 p1 m1; have := w2 x mx; unfold lim; omega)
    simp only [FL.e2, eV, zaf, List.getElem?_cons_zero, List.getElem?_cons_succ, this]
   have a2 : (zal zhh (zac (e2 ziL (eV 0) (eV 3)) (zac (e2 ziL (eV 1) (eV 4)) zar))) [.val (dct s), .val (dct t), .ow false (dct (inW p1 pre acc)), .val (tp p1.1), .val (tp x.1)] = .ok (num (p1.2 * x.2), [.val (dct s), .val (dct t), .ow false (dct (inW p1 pre acc)), .val (tp p1.1), .val (tp x.1)]) := by
    have d1 := zg2 (zfE ns m1)
    have d2 := zg2 (zfE nt mx)
    have tm := zkC b1 (b2 x mx) (Nat.le_refl _)
    simp only [zal, zac, zar, FL.e2, eV, zaf, List.getElem?_cons_zero, List.getElem?_cons_succ, d1, d2, tm]
   have fx := zf9 g fp (by omega) (by omega) (p1.1 ++ x.1) (hQ x mx)
   refine ⟨[.val (dct s), .val (dct t), .ow false (dct (inW p1 (pre ++ [x]) acc)), .val (tp p1.1), .val (tp x.1)], .nx, ?_, .inl rfl, .val (tp x.1), zgH _, rfl, ?_, ?_⟩
   ·rw [gx, zaf]
    unfold zcb sE
    rw [zkk (p := false) (d := dct (inW p1 pre acc)) rfl a1 a2 fx, ziF]
    rfl
   ·rw [ziF, List.length_append, List.length_singleton, <- Nat.add_assoc]
    exact fp.add g _ (hQ x mx)
   ·rw [ziF, List.length_append, List.length_singleton]
    exact Nat.le_trans (zkI _ _ _) (by omega))
 obtain ⟨ρ', e, y, hy, rfl, fp, hlp⟩ := L
 refine ⟨y, hy, ?_, fp, hlp⟩
 unfold zb9 zi3
 have hi : (iD (eV 1)) [.val (dct s), .val (dct t), .ow false (dct acc), .val (tp p1.1), x4] = .ok (t.map fun p => tp p.1, [.val (dct s), .val (dct t), .ow false (dct acc), .val (tp p1.1), x4]) := by
  simp only [iD, eV, zaf, List.getElem?_cons_zero, List.getElem?_cons_succ, zgl]
 rw [hi, zaf]
 exact e
theorem zgx (s t : Sm) (x : List Int × Rat) : s.foldl (fun a p => inW p t a) [] = zeN s t /\ zeN (s ++ [x]) t = inW x t (zeN s t) := by
 constructor
 ·rfl
 ·simp [zeN]
theorem zdW {P : Nat -> Rat -> Prop} {Q : Rat -> Prop} {N : Nat} (g : zrw P Q N) {s t : Sm} (ns : Nk s) (nt : Nk t) (w1 : Ws 1000 s) (w2 : Ws 1000 t) (hQ : ∀ p1 ∈ s, ∀ p ∈ t, Q (p1.2 * p.2)) (b1 : ∀ p ∈ s, QR.Bd 4000 p.2) (b2 : ∀ p ∈ t, QR.Bd 4000 p.2)
  (hi : s.length * t.length <= N) (hl : s.length * t.length + 1 <= lim) : zbq [dct s, dct t] = .ok (dct (zeN s t)) /\ Fit P (s.length * t.length) (zeN s t) /\ (zeN s t).length <= s.length * t.length := by
 have L := zej (f := fun p : List Int × Rat => tp p.1) (g := gN 3) (b := zca)
  (fun done ρ => ∃ y3 y4, Np y3 /\ Np y4 /\ ρ = [.val (dct s), .val (dct t), .ow false (dct (zeN done t)), y3, y4] /\ Fit P (done.length * t.length) (zeN done t) /\ (zeN done t).length <= done.length * t.length)
  s [] [.val (dct s), .val (dct t), .ow false (dct []), .no, .no] ⟨.no, .no, zjX, zjX, rfl, ⟨List.nodup_nil, fun p hp => by simp [zeN] at hp⟩, by simp [zeN]⟩ (by
   intro pre x post ρ e hP
   obtain ⟨y3, y4, h3, h4, rfl, fp, hlp⟩ := hP
   rw [List.nil_append] at e
   have mx : x ∈ s := by rw [e]; simp
   have hlen : (pre.length + 1) * t.length <= s.length * t.length := Nat.mul_le_mul_right _ (by rw [e]; simp)
   rw [Nat.add_mul, Nat.one_mul] at hlen
   have gx : gN 3 (tp x.1) [.val (dct s), .val (dct t), .ow false (dct (zeN pre t)), y3, y4] = .ok [.val (dct s), .val (dct t), .ow false (dct (zeN pre t)), .val (tp x.1), y4] := zke rfl h3
   obtain ⟨y, hy, ei, fi, li⟩ := zoG g ns nt w1 w2 mx (hQ x mx) (b1 x mx) b2 fp (by omega) (by omega) h4
   refine ⟨[.val (dct s), .val (dct t), .ow false (dct (zeN (pre ++ [x]) t)), .val (tp x.1), y], .nx, ?_, .inl rfl, .val (tp x.1), y, zgH _, hy, rfl, ?_, ?_⟩
   ·rw [gx, zaf]
    unfold zca
    rw [ei, (zgx pre t x).2]
   ·rw [(zgx pre t x).2, List.length_append, List.length_singleton, Nat.add_mul, Nat.one_mul]
    exact fi
   ·rw [(zgx pre t x).2, List.length_append, List.length_singleton, Nat.add_mul, Nat.one_mul]
    exact Nat.le_trans li (by omega))
 obtain ⟨ρ', e, y3, y4, h3, h4, rfl, fp, hlp⟩ := L
 refine ⟨?_, fp, hlp⟩
 have s1 : ze6 2 zlb [.val (dct s), .val (dct t), .no, .no, .no] = .ok (.nx, [.val (dct s), .val (dct t), .ow false (dct []), .no, .no]) := rfl
 have hi : (iD (eV 0)) [.val (dct s), .val (dct t), .ow false (dct []), .no, .no] = .ok (s.map fun p => tp p.1, [.val (dct s), .val (dct t), .ow false (dct []), .no, .no]) := by
  simp only [iD, eV, zaf, List.getElem?_cons_zero, List.getElem?_cons_succ, zgl]
 have s2 : zb8 [.val (dct s), .val (dct t), .ow false (dct []), .no, .no] = .ok (.nx, [.val (dct s), .val (dct t), .ow false (dct (zeN s t)), y3, y4]) := by
  unfold zb8 zi3
  rw [hi, zaf]
  exact e
 show ((zcB [.val (dct s), .val (dct t), .no, .no, .no]).bind _).bind _ = _
 unfold zcB
 rw [zaG s1, zaG s2]
 rfl
def zhi (q : Rat) (t acc : Sm) : Sm := t.foldl (fun a p => zjI a p.1 (q * p.2)) acc
theorem zgw (q : Rat) (t acc : Sm) (x : List Int × Rat) : zhi q (t ++ [x]) acc = zjI (zhi q t acc) x.1 (q * x.2) := by simp [zhi]
theorem zjG {P : Nat -> Rat -> Prop} {Q : Rat -> Prop} {N i : Nat} (g : zrw P Q N) {t acc : Sm} {q : Rat} (nt : Nk t) (hQ : ∀ p ∈ t, Q (q * p.2)) (b1 : QR.Bd 4000 q) (b2 : ∀ p ∈ t, QR.Bd 4000 p.2)
  (f : Fit P i acc) (hi : i + t.length <= N) (hl : acc.length + t.length + 1 <= lim) : ze1 [dct acc, num q, dct t] = .ok (.none, [dct (zhi q t acc), num q, dct t]) /\ Fit P (i + t.length) (zhi q t acc) /\ (zhi q t acc).length <= acc.length + t.length := by
 have L := zej (f := fun p : List Int × Rat => tp p.1) (g := gN 3) (b := zc1)
  (fun done ρ => ∃ y, Np y /\ ρ = [.ow true (dct (zhi q done acc)), .val (num q), .val (dct t), y] /\ Fit P (i + done.length) (zhi q done acc) /\ (zhi q done acc).length <= acc.length + done.length)
  t [] [.ow true (dct acc), .val (num q), .val (dct t), .no] ⟨.no, zjX, rfl, f, Nat.le_refl _⟩ (by
   intro pre x post ρ e hP
   obtain ⟨y, hy, rfl, fp, hlp⟩ := hP
   rw [List.nil_append] at e
   have mx : x ∈ t := by rw [e]; simp
   have hlen : pre.length + 1 <= t.length := by rw [e]; simp
   have gx : gN 3 (tp x.1) [.ow true (dct (zhi q pre acc)), .val (num q), .val (dct t), y] = .ok [.ow true (dct (zhi q pre acc)), .val (num q), .val (dct t), .val (tp x.1)] := zke rfl hy
   have a1 : (eV 3) [.ow true (dct (zhi q pre acc)), .val (num q), .val (dct t), .val (tp x.1)] = .ok (tp x.1, [.ow true (dct (zhi q pre acc)), .val (num q), .val (dct t), .val (tp x.1)]) := rfl
   have a2 : (zal zhh (zac (eV 1) (zac (e2 ziL (eV 2) (eV 3)) zar))) [.ow true (dct (zhi q pre acc)), .val (num q), .val (dct t), .val (tp x.1)] = .ok (num (q * x.2), [.ow true (dct (zhi q pre acc)), .val (num q), .val (dct t), .val (tp x.1)]) := by
    have d2 := zg2 (zfE nt mx)
    have tm := zkC b1 (b2 x mx) (Nat.le_refl _)
    simp only [zal, zac, zar, FL.e2, eV, zaf, List.getElem?_cons_zero, List.getElem?_cons_succ, d2, tm]
   have fx := zf9 g fp (by omega) (by omega) x.1 (hQ x mx)
   refine ⟨[.ow true (dct (zhi q (pre ++ [x]) acc)), .val (num q), .val (dct t), .val (tp x.1)], .nx, ?_, .inl rfl, .val (tp x.1), zgH _, rfl, ?_, ?_⟩
   ·rw [gx, zaf]
    unfold zc1 sE
    rw [zkk (p := true) (d := dct (zhi q pre acc)) rfl a1 a2 fx, zgw]
    rfl
   ·rw [zgw, List.length_append, List.length_singleton, <- Nat.add_assoc]
    exact fp.add g _ (hQ x mx)
   ·rw [zgw, List.length_append, List.length_singleton]
    exact Nat.le_trans (zkI _ _ _) (by omega))
 obtain ⟨ρ', e, y, hy, rfl, fp, hlp⟩ := L
 refine ⟨?_, fp, hlp⟩
 have hi : (iD (eV 2)) [.ow true (dct acc), .val (num q), .val (dct t), .no] = .ok (t.map fun p => tp p.1, [.ow true (dct acc), .val (num q), .val (dct t), .no]) := by
  simp only [iD, eV, zaf, List.getElem?_cons_zero, List.getElem?_cons_succ, zgl]
 have s2 : zcP [.ow true (dct acc), .val (num q), .val (dct t), .no] = .ok (.nx, [.ow true (dct (zhi q t acc)), .val (num q), .val (dct t), y]) := by
  unfold zcP zeC zi3
  rw [hi, zaf]
  exact e
 show (zcP [.ow true (dct acc), .val (num q), .val (dct t), .no]).bind _ = _
 rw [s2]
 rfl
def Iv (M : Nat) (r : Rat) : Prop := r.den = 1 /\ r.num.natAbs <= M
theorem Iv.mono {M N : Nat} {r : Rat} (h : Iv M r) (l : M <= N) : Iv N r := ⟨h.1, Nat.le_trans h.2 l⟩
theorem Iv.eq {M : Nat} {r : Rat} (h : Iv M r) : r = (r.num : Rat) := by
 refine Rat.ext (by simp) ?_
 rw [h.1]; simp
theorem Iv.of {n : Int} {M : Nat} (h : n.natAbs <= M) : Iv M (n : Rat) := ⟨by simp, by simpa using h⟩
theorem Iv.add {M N : Nat} {r s : Rat} (h : Iv M r) (k : Iv N s) : Iv (M + N) (r + s) := by
 rw [h.eq, k.eq, <- Rat.intCast_add]
 exact Iv.of (Nat.le_trans (Int.natAbs_add_le _ _) (Nat.add_le_add h.2 k.2))
theorem Iv.mul {M N : Nat} {r s : Rat} (h : Iv M r) (k : Iv N s) : Iv (M * N) (r * s) := by
 rw [h.eq, k.eq, <- Rat.intCast_mul]
 exact Iv.of (by rw [Int.natAbs_mul]; exact Nat.mul_le_mul h.2 k.2)
theorem Iv.bd {M : Nat} {r : Rat} (h : Iv M r) (l : M < 2 ^ 4000) : QR.Bd 4000 r := ⟨Nat.lt_of_le_of_lt h.2 l, by rw [h.1]; exact Nat.one_lt_two_pow (by decide)⟩
theorem zsM (A M N : Nat) (h : A + N * M < 2 ^ 4000) (hM : M < 2 ^ 4000) : zrw (fun i r => Iv (A + i * M) r) (Iv M) N where
 z := fun i => ⟨rfl, Nat.zero_le _⟩
 up := fun i r hr => hr.mono (by rw [Nat.add_mul]; omega)
 add := fun i r q hr hq => (hr.add hq).mono (by rw [Nat.add_mul]; omega)
 bp := fun i r hi hr => hr.bd (Nat.lt_of_le_of_lt (Nat.add_le_add_left (Nat.mul_le_mul_right _ hi) _) h)
 bq := fun q hq => hq.bd hM
def zlw (s t : Sm) : Sm := zhi (-1) (zeN t s) (zeN s t)
theorem zp1 {n m : Nat} {p1 : List Int × Rat} (h1 : p1.1.length <= n) : ∀ {t acc : Sm}, Ws m t -> Ws (n + m) acc -> Ws (n + m) (inW p1 t acc)
 | [], acc, _, ha => ha
 | x :: t, acc, ht, ha => by
  show Ws (n + m) (inW p1 t (zjI acc (p1.1 ++ x.1) (p1.2 * x.2)))
  refine zp1 h1 (fun p hp => ht p (List.mem_cons_of_mem _ hp)) fun p hp => ?_
  rcases zig hp with h | h
  ·exact ha p h
  ·subst h
   have := ht x (List.mem_cons_self ..)
   simp only [List.length_append]; omega
theorem zms {n m : Nat} : ∀ {s t : Sm}, Ws n s -> Ws m t -> Ws (n + m) (zeN s t) := fun {s t} hs ht => by
 have key : ∀ (s acc : Sm), Ws n s -> Ws (n + m) acc -> Ws (n + m) (s.foldl (fun a p => inW p t a) acc) := by
  intro s
  induction s with
  | nil => intro acc _ h; exact h
  | cons x r ih => intro acc h1 h2; exact ih _ (fun p hp => h1 p (List.mem_cons_of_mem _ hp)) (zp1 (h1 x (List.mem_cons_self ..)) ht h2)
 exact key s [] hs fun p hp => by simp at hp
theorem zmq {n : Nat} {q : Rat} : ∀ {t acc : Sm}, Ws n t -> Ws n acc -> Ws n (zhi q t acc)
 | [], acc, _, ha => ha
 | x :: t, acc, ht, ha => by
  show Ws n (zhi q t (zjI acc x.1 (q * x.2)))
  refine zmq (fun p hp => ht p (List.mem_cons_of_mem _ hp)) fun p hp => ?_
  rcases zig hp with h | h
  ·exact ha p h
  ·subst h; exact ht x (List.mem_cons_self ..)
structure Whl (l M n : Nat) (s : Sm) : Prop where
 nk : Nk s
 ln : s.length <= l
 sz : ∀ p ∈ s, Iv M p.2
 ws : Ws n s
theorem zq7 {l l' M M' n n' : Nat} {s t : Sm} (hs : Whl l M n s) (ht : Whl l' M' n' t) (hn : n + n' <= 1000) (hl : 2 * (l * l') + 1 <= lim) (hM : l * l' * (M * M') * (1 + l * l') + M * M' + M + M' < 2 ^ 4000) :
  ze0 [dct s, dct t] = .ok (dct (zlw s t)) /\ Whl (2 * (l * l')) (l * l' * (M * M') * (1 + l * l')) (n + n') (zlw s t) := by
 have e1 : M < 2 ^ 4000 := by omega
 have e2 : M' < 2 ^ 4000 := by omega
 have e3 : M * M' < 2 ^ 4000 := by omega
 have ls : s.length * t.length <= l * l' := Nat.mul_le_mul hs.ln ht.ln
 have ls' : t.length * s.length <= l * l' := by rw [Nat.mul_comm]; exact ls
 have hB : l * l' * (M * M') <= l * l' * (M * M') * (1 + l * l') := Nat.le_mul_of_pos_right _ (by omega)
 have g1 := zsM 0 (M * M') (l * l') (by omega) e3
 obtain ⟨p1, f1, k1⟩ := zdW g1 hs.nk ht.nk (fun p hp => by have := hs.ws p hp; omega) (fun p hp => by have := ht.ws p hp; omega) (fun p hp p' hp' => (hs.sz p hp).mul (ht.sz p' hp')) (fun p hp => (hs.sz p hp).bd e1) (fun p hp => (ht.sz p hp).bd e2) ls (by omega)
 obtain ⟨p2, f2, k2⟩ := zdW g1 ht.nk hs.nk (fun p hp => by have := ht.ws p hp; omega) (fun p hp => by have := hs.ws p hp; omega) (fun p hp p' hp' => by rw [Rat.mul_comm]; exact (hs.sz p' hp').mul (ht.sz p hp)) (fun p hp => (ht.sz p hp).bd e2) (fun p hp => (hs.sz p hp).bd e1) ls' (by omega)
 have z1 : ∀ p ∈ zeN s t, Iv (l * l' * (M * M')) p.2 := fun p hp => (f1.sz p hp).mono (by rw [Nat.zero_add]; exact Nat.mul_le_mul_right _ ls)
 have z2 : ∀ p ∈ zeN t s, Iv (l * l' * (M * M')) p.2 := fun p hp => (f2.sz p hp).mono (by rw [Nat.zero_add]; exact Nat.mul_le_mul_right _ ls')
 have im : Iv 1 (-1 : Rat) := ⟨rfl, by decide⟩
 have hbig : l * l' * (M * M') + l * l' * (l * l' * (M * M')) = l * l' * (M * M') * (1 + l * l') := by
  rw [Nat.mul_add, Nat.mul_one, Nat.mul_comm (l * l') (l * l' * (M * M'))]
 have g2 := zsM (l * l' * (M * M')) (l * l' * (M * M')) (l * l') (by omega) (by omega)
 obtain ⟨p3, f3, k3⟩ := zjG (q := -1) (i := 0) g2 f2.nk (fun p hp => by have := im.mul (z2 p hp); rwa [Nat.one_mul] at this) (im.bd (Nat.one_lt_two_pow (by decide))) (fun p hp => (z2 p hp).bd (by omega)) (acc := zeN s t) ⟨f1.nk, fun p hp => by rw [Nat.zero_mul, Nat.add_zero]; exact z1 p hp⟩ (by omega) (by omega)
 have hll : (zeN t s).length <= l * l' := Nat.le_trans k2 ls'
 refine ⟨?_, f3.nk, Nat.le_trans k3 (by omega), fun p hp => (f3.sz p hp).mono ?_, ?_⟩
 ·have s1 : ze6 2 (zal zbq (zac (eV 0) (zac (eV 1) zar))) [.val (dct s), .val (dct t), .no] = .ok (.nx, [.val (dct s), .val (dct t), .ow false (dct (zeN s t))]) := by
   simp only [ze6, zal, zac, zar, eV, zaf, List.getElem?_cons_zero, List.getElem?_cons_succ, p1, List.set_cons_zero, List.set_cons_succ]
  have a1 : (eC (.tuple [(.int (-1)), (.int 1)])) [.val (dct s), .val (dct t), .ow false (dct (zeN s t))] = .ok (num (-1), [.val (dct s), .val (dct t), .ow false (dct (zeN s t))]) := rfl
  have a2 : (zal zbq (zac (eV 1) (zac (eV 0) zar))) [.val (dct s), .val (dct t), .ow false (dct (zeN s t))] = .ok (dct (zeN t s), [.val (dct s), .val (dct t), .ow false (dct (zeN s t))]) := by
   simp only [zal, zac, zar, eV, zaf, List.getElem?_cons_zero, List.getElem?_cons_succ, p2]
  have s2 : (sE (za1 ze1 [.m 2, .v (eC (.tuple [(.int (-1)), (.int 1)])), .v (zal zbq (zac (eV 1) (zac (eV 0) zar)))])) [.val (dct s), .val (dct t), .ow false (dct (zeN s t))] = .ok (.nx, [.val (dct s), .val (dct t), .ow false (dct (zlw s t))]) := by
   unfold sE
   rw [zkk (p := false) (d := dct (zeN s t)) rfl a1 a2 p3]
   rfl
  show ((zd2 [.val (dct s), .val (dct t), .no]).bind _).bind _ = _
  unfold zd2
  rw [zaG s1, zaG s2]
  rfl
 ·rw [Nat.zero_add, <- hbig]
  exact Nat.add_le_add_left (Nat.mul_le_mul_right _ hll) _
 ·refine zmq ?_ (zms hs.ws ht.ws)
  have := zms ht.ws hs.ws
  rwa [Nat.add_comm] at this
end FL
namespace FL
open PySem
theorem zcw {k n : Nat} {b : SF} {ds : List D} {ρ : En} {d : D} (hl : ds.length = k) (h : b (slots (List.replicate k false) ds ++ List.replicate (n - ds.length) .no) = .ok (.rt d, ρ)) : zbo false k n b ds = .ok d := by
 unfold zbo FL.run
 rw [if_pos (by rw [List.length_replicate]; exact hl), h]
 rfl
theorem zmw {k n : Nat} {b : SF} {ds : List D} {ρ : En} {d : D} (hl : ds.length = k) (h : b (slots (List.replicate k false) ds ++ List.replicate (n - ds.length) .no) = .ok (.rf d, ρ)) : zbo true k n b ds = .ok d := by
 unfold zbo FL.run
 rw [if_pos (by rw [List.length_replicate]; exact hl), h]
 rfl
theorem zqv {k n : Nat} {b : SF} {ds : List D} {ρ : En} (hl : ds.length = k) (h : b (slots (List.replicate k false) ds ++ List.replicate (n - ds.length) .no) = .ok (.nx, ρ)) : zbo false k n b ds = .ok .none := by
 unfold zbo FL.run
 rw [if_pos (by rw [List.length_replicate]; exact hl), h]
 rfl
inductive Tr where
 | leaf (i : Int)
 | node (a b : Tr)
deriving DecidableEq
def trD : Tr -> D
 | .leaf i => .int i
 | .node a b => .tuple [trD a, trD b]
def dep : Tr -> Nat
 | .leaf _ => 0
 | .node a b => max (dep a) (dep b) + 1
def zcX : Tr -> Sm
 | .leaf i => [([i], 1)]
 | .node a b => zlw (zcX a) (zcX b)
def lB : Tr -> Nat
 | .leaf _ => 1
 | .node a b => 2 * (lB a * lB b)
def mB : Tr -> Nat
 | .leaf _ => 1
 | .node a b => lB a * lB b * (mB a * mB b) * (1 + lB a * lB b)
def nB : Tr -> Nat
 | .leaf _ => 1
 | .node a b => nB a + nB b
def okT : Tr -> Prop
 | .leaf _ => True
 | .node a b => okT a /\ okT b /\ nB a + nB b <= 1000 /\ 2 * (lB a * lB b) + 1 <= lim /\ lB a * lB b * (mB a * mB b) * (1 + lB a * lB b) + mB a * mB b + mB a + mB b < 2 ^ 4000
theorem znr (l : List D) : zcr "tuple" (.tuple l) = .ok (.bool true) := rfl
theorem zns (i : Int) : zcr "tuple" (.int i) = .ok (.bool false) := by
 show R.ok (PyData.bool ("int" == "tuple")) = _
 rfl
theorem zcK : ∀ (t : Tr) (k : Nat), dep t < k -> okT t -> zbB k [trD t] = .ok (dct (zcX t)) /\ Whl (lB t) (mB t) (nB t) (zcX t)
 | .leaf i, 0, h, _ => by omega
 | .leaf i, k + 1, h, _ => by
  refine ⟨?_, List.nodup_cons.mpr ⟨by simp, List.nodup_nil⟩, Nat.le_refl _, fun p hp => ?_, fun p hp => ?_⟩
  ·have l1 : leB 1 lim = true := by decide
   have pd : zl1 (.dict []) (.tuple [.int i]) (num 1) = .ok (dct [([i], 1)]) := zlf (s := []) (w := [i]) (q := 1) (by decide)
   have e : (sIf (FL.zeH (tE (FL.e1 (zcr "tuple") (eV 0)))) (zcY (zhU (zek (zac (eV 0) zar)) (eC (.tuple [(.int 1), (.int 1)])))) sNx) [.val (.int i)] = .ok (.rf (dct [([i], 1)]), [.val (.int i)]) := by
    rw [zwl]
    simp only [sIf, FL.zeH, tE, FL.e1, eV, zns, zia, zaf, List.getElem?_cons_zero, Bool.not_false, if_true, zcY, zhU, zek, zac, zar, eC, List.length_cons, List.length_nil, zaQ l1, pd]
   have e3 : zbT (zbB k) [.val (.int i)] = .ok (.rf (dct [([i], 1)]), [.val (.int i)]) := by
    unfold zbT zaB
    rw [e]
    rfl
   exact zmw (k := 1) (n := 1) (ds := [.int i]) rfl e3
  ·have : p = ([i], 1) := by simpa [zcX] using hp
   subst this; exact ⟨rfl, Nat.le_refl _⟩
  ·have : p = ([i], 1) := by simpa [zcX] using hp
   subst this; exact Nat.le_refl _
 | .node a b, 0, h, _ => by omega
 | .node a b, k + 1, h, ok => by
  obtain ⟨oa, ob, h1, h2, h3⟩ := ok
  have hd : max (dep a) (dep b) < k := by
   have : max (dep a) (dep b) + 1 < k + 1 := h
   omega
  obtain ⟨ea, wa⟩ := zcK a k (by omega) oa
  obtain ⟨eb, wb⟩ := zcK b k (by omega) ob
  obtain ⟨el, wl⟩ := zq7 wa wb h1 h2 h3
  refine ⟨?_, wl⟩
  have x0 : ixD (.tuple [trD a, trD b]) (.int 0) = .ok (trD a) := rfl
  have x1 : ixD (.tuple [trD a, trD b]) (.int 1) = .ok (trD b) := rfl
  have s1 : (sIf (FL.zeH (tE (FL.e1 (zcr "tuple") (eV 0)))) (zcY (zhU (zek (zac (eV 0) zar)) (eC (.tuple [(.int 1), (.int 1)])))) sNx) [.val (.tuple [trD a, trD b])] = .ok (.nx, [.val (.tuple [trD a, trD b])]) := by
   simp only [sIf, FL.zeH, tE, FL.e1, eV, znr, zia, zaf, List.getElem?_cons_zero, Bool.not_true, Bool.false_eq_true, if_false, sNx]
  have s2 : (zcY (zal ze0 (zac (zal (zbB k) (zac (e2 ixD (eV 0) (eC (.int 0))) zar)) (zac (zal (zbB k) (zac (e2 ixD (eV 0) (eC (.int 1))) zar)) zar)))) [.val (.tuple [trD a, trD b])] = .ok (.rf (dct (zlw (zcX a) (zcX b))), [.val (.tuple [trD a, trD b])]) := by
   simp only [zcY, zal, zac, zar, FL.e2, eV, eC, zaf, List.getElem?_cons_zero, x0, x1, ea, eb, el]
  have e3 : zbT (zbB k) [.val (.tuple [trD a, trD b])] = .ok (.rf (dct (zlw (zcX a) (zcX b))), [.val (.tuple [trD a, trD b])]) := by
   unfold zbT
   rw [zaG s1, s2]
  exact zmw (k := 1) (n := 1) (ds := [.tuple [trD a, trD b]]) rfl e3
def kyS (p : List Int × Rat) : WK := ((p.1.length : Int), p.1)
def zrA (x : List Int × Rat) : Sm -> Sm
 | [] => [x]
 | y :: r => if ltW (kyS y) (kyS x) = true then y :: zrA x r else x :: y :: r
def zdS : Sm -> Sm
 | [] => []
 | x :: r => zrA x (zdS r)
def kyD (p : List Int × Rat) : WK × D := (kyS p, tp p.1)
theorem zkZ (x : List Int × Rat) : ∀ l : Sm, znu (kyD x) (l.map kyD) = (zrA x l).map kyD
 | [] => rfl
 | y :: r => by
  rw [List.map_cons]
  unfold znu zrA
  show (if ltW (kyS y) (kyS x) = true then _ else _) = _
  split
  ·rw [zkZ x r]; rfl
  ·rfl
theorem zi2 : ∀ l : Sm, zf5 (l.map kyD) = (zdS l).map kyD
 | [] => rfl
 | x :: r => by
  show znu (kyD x) (zf5 (r.map kyD)) = _
  rw [zi2 r, zkZ]
  rfl
theorem zjs (x : List Int × Rat) : ∀ l : Sm, (zrA x l).Perm (x :: l)
 | [] => .refl _
 | y :: r => by
  unfold zrA
  split
  ·exact ((zjs x r).cons y).trans (.swap x y r)
  ·exact .refl _
theorem zc6 : ∀ l : Sm, (zdS l).Perm l
 | [] => .refl _
 | x :: r => (zjs x _).trans ((zc6 r).cons x)
theorem zoW (w : List Int) : zci [tp w] = .ok (.tuple [.int (w.length : Int), tp w]) := by
 have l2 : leB 2 lim = true := by decide
 have e : zc4 (tp w) = .ok (.int (w.length : Int)) := by
  show R.ok (PyData.int ((w.map PyData.int).length : Int)) = _
  rw [List.length_map]
 have e3 : zdt [.val (tp w)] = .ok (.rt (.tuple [.int (w.length : Int), tp w]), [.val (tp w)]) := by
  unfold zdt
  simp only [zaX, zek, zac, zar, FL.e1, eV, zaf, List.getElem?_cons_zero, e, List.length_cons, List.length_nil, zaQ l2]
 exact zcw (k := 1) (n := 1) (ds := [tp w]) rfl e3
theorem zjj : ∀ s : Sm, zgN zci (s.map fun p => tp p.1) = .ok (s.map kyS)
 | [] => rfl
 | p :: r => by
  rw [List.map_cons]
  unfold zgN
  rw [zoW, zaf]
  have : zuf (.tuple [.int (p.1.length : Int), tp p.1]) = some (kyS p) := by
   show (intsOf (p.1.map PyData.int)).map _ = _
   rw [zbS]; rfl
  rw [this]
  show (zgN zci (r.map fun p => tp p.1)).bind _ = _
  rw [zjj r]; rfl
theorem zqr {s : Sm} (nk : Nk s) (hl : s.length < 64) : zhE zci (dct s) = .ok (.list ((zdS s).map fun p => tp p.1)) := by
 unfold zhE
 rw [zgl, zaf, zaQ (zcO (by rw [List.length_map]; exact hl)), zjj, zaf]
 have nd : (s.map kyS).Nodup := by
  have h : ∀ l : Sm, Nk l -> (l.map kyS).Nodup := by
   intro l
   induction l with
   | nil => intro _; exact List.nodup_nil
   | cons p r ih =>
    intro h
    unfold Nk at h
    rw [List.map_cons, List.nodup_cons] at h
    rw [List.map_cons, List.nodup_cons]
    refine ⟨fun z => h.1 ?_, ih h.2⟩
    obtain ⟨q, hq, e⟩ := List.mem_map.mp z
    exact List.mem_map.mpr ⟨q, hq, (Prod.mk.inj e).2⟩
  exact h s nk
 rw [zaQ (decide_eq_true nd)]
 have hz : (s.map kyS).zip (s.map fun p => tp p.1) = s.map kyD := by
  rw [List.zip_map']; rfl
 rw [hz, zi2, List.map_map]
 rfl
def tln (p : List Int × Rat) : D := .tuple [tp p.1, num p.2]
def zpd : R D -> D
 | .ok d => d
 | _ => .none
theorem zqm {s : Sm} (nk : Nk s) (hl : s.length < 64) : zhZ [dct s] = .ok (.list ((zdS s).map tln)) := by
 have so := zqr nk hl
 have hlen : (zdS s).length = s.length := (zc6 s).length_eq
 have q : zds [.val (dct s)] = .ok (.list ((zdS s).map tln), [.val (dct s)]) := by
  unfold zds
  rw [zdb (items := (zdS s).map fun p => tp p.1) (fun x => .tuple [x, zpd (ziL (dct s) x)])]
  ·rw [List.map_map]
   congr 2
   congr 1
   refine List.map_congr_left fun p hp => ?_
   have mp : p ∈ s := (zc6 s).mem_iff.mp hp
   show PyData.tuple [tp p.1, zpd (ziL (dct s) (tp p.1))] = _
   rw [zg2 (zfE nk mp)]; rfl
  ·simp only [iE, FL.e1, eV, zaf, List.getElem?_cons_zero, so, zf4]
  ·rw [List.length_map, hlen]; unfold lim; omega
  ·intro x hx
   obtain ⟨p, hp, rfl⟩ := List.mem_map.mp hx
   have mp : p ∈ s := (zc6 s).mem_iff.mp hp
   have d1 := zg2 (zfE nk mp)
   have l2 : leB 2 lim = true := by decide
   refine ⟨[.val (tp p.1), .val (dct s)], rfl, ?_, ?_⟩
   ·simp only [zek, zac, zar, FL.e2, eV, zaf, List.getElem?_cons_zero, List.getElem?_cons_succ, d1, List.length_cons, List.length_nil, zaQ l2]
    rfl
   ·exact zdv (fun i p d e => by
     revert e
     simp only [List.drop_succ_cons, List.drop_zero, List.zip_cons_cons, List.zip_nil_left, List.lookup_cons, List.lookup_nil]
     split <;> (intro e; cases e)) _ 0
 show ((zeS [.val (dct s)]).bind _).bind _ = _
 unfold zeS zaX
 rw [q]
 rfl
end FL
namespace K53
open PySem FL
def zep : SF := (zaX (zkh (e1 (zcr "int") (eV 0)) (zvt (e1 (zcr "bool") (eV 0)))))
def za2 : List D -> R D := zbo false 1 1 zep
def zbQ : EF := (zbY 1 [0] (iR2 (zac (eC (.int 1)) (zac (e1 zc4 (eV 0)) zar))) (gN 0) zdJ (e2 ltD (eV 1) (eSl (eV 1) (za4 (eV 0)) zbb)))
def zdc : SF := (zaX (zkh (e2 gtD (e1 zc4 (eV 0)) (eC (.int 0))) (e1 zrC zbQ)))
def zaP : List D -> R D := zbo false 1 1 zdc
def zcT : SF := (zaB (zbD (gN 2) (e2 zbw (e2 zbw (e2 zcz (e2 zbw (e2 zgM (eV 0) (e2 zbw (e2 zhk (eC (.int 10)) (eC (.int 18))) (eC (.int 9)))) (e2 zcz (eC (.int 7)) (eV 1))) (eC (.int 739108512309184756019283746561))) (e2 zcz (eC (.int 7919)) (eV 1))) (eC (.int 1))))
  (zaB (zbD (gN 2) (e2 zgM (e2 zcz (eV 2) (eV 2)) (e2 zbw (e2 zhk (eC (.int 10)) (eC (.int 60))) (eC (.int 7)))))
  (zaX (e2 zgM (e2 zcz (e2 zbw (eV 2) (eC (.int 40503))) (e2 zbw (eV 2) (eC (.int 57)))) (e2 zbw (e2 zhk (eC (.int 10)) (eC (.int 60))) (eC (.int 7)))))))
def zbk : List D -> R D := zbo false 2 3 zcT
def zfv : SF := (zaB (sIf (tB (e2 ltD (eV 1) (e1 zc4 (eV 0)))) (zaX (e2 ixD (eV 0) (eV 1))) sNx)
  (zaX (e2 zbw (e2 zcz (eC (.int 3)) (eV 1)) (eC (.int 1)))))
def zcH : List D -> R D := zbo false 2 2 zfv
def zaW : EF := (zbY 1 [0] (iR2 (zac (eC (.int 1)) (zac (e1 zc4 (eV 0)) zar))) (gN 0) zdJ (e2 zbw (eSl (eV 1) (za4 (eV 0)) zbb) (eSl (eV 1) zbb (za4 (eV 0)))))
def zaV : EF := (zbY 1 [0] (iE (eV 1)) (gN 0) (tB (e2 leD (eV 0) (eV 1))) (eV 0))
def zbA : SF := (zaB (zga 1 (ze6 1 zaW))
  (zaX (zkh (e2 neD (eV 0) (zek zar)) (e2 eqD zaV (zel zar)))))
def zax : List D -> R D := zbo false 1 2 zbA
def zb4 : EF := (zbY 1 [1] (iE (eV 0)) (gN 0) zdJ (zkh (zal za2 (zac (eV 0) zar)) (zeD leD ltD (eC (.int 0)) (eV 0) (eV 1))))
def zd7 : SF := (zaB (sIf (FL.tOr (FL.zeH (tE (e1 (zcr "tuple") (eV 0)))) (tB (e2 gtD (e1 zc4 (eV 0)) (eC (.int 5))))) (zaX (eC (.bool false))) sNx)
  (zaX (e1 zrC zb4)))
def zcG : List D -> R D := zbo false 2 2 zd7
def zaK : EF := (zbY 1 [0] (iR2 (zac (eC (.int 1)) (zac (e2 zbw (e1 zc4 (eV 0)) (eC (.int 1))) zar))) (gN 0) (tE (zal zaP (zac (eSl (eV 1) zbb (za4 (eV 0))) zar))) (eV 0))
def zbl : SF := (zhH (fun _ => 10) (tE (eV 0)) (zaB (zbD (gN 2) (e1 maxD zaK))
  (zaB (zkB 1 zln (eSl (eV 0) zbb (za4 (eV 2))))
  (zbD (gN 0) (eSl (eV 0) (za4 (eV 2)) zbb)))))
def zbI : SF := (zaB (ze6 1 (zel zar))
  (zaB zbl
  (zif 1)))
def za9 : List D -> R D := zbo true 1 3 zbI
def zcS : SF := (zaB (sIf (tB (e2 geD (eV 0) (e2 zhk (eC (.int 10)) (eC (.int 18))))) (zcY (zel (zac (e2 zkG (eV 0) (e2 zhk (eC (.int 10)) (eC (.int 18)))) (zac (eC (.int 0)) (zac (eV 1) zar))))) sNx)
  (zcY (zel (zac (zal zbk (zac (eV 0) (zac (eV 1) zar))) (zac (eC (.int 0)) (zac (e2 zbw (e2 zgM (eV 0) (e2 zbw (e2 zhk (eC (.int 10)) (eC (.int 18))) (eC (.int 9)))) (eV 1)) zar))))))
def zbj : List D -> R D := zbo true 2 2 zcS
def zdx : SF := (zaB (sIf (tB (e2 ltD (m2 ixD 0 (eC (.int 0))) (eV 1))) (zaB (setM 0 (e2 zbw (m2 ixD 0 (eC (.int 1))) (eC (.int 1))) (eC (.int 1)))
  (setM 0 (e2 zbw (m2 ixD 0 (eC (.int 0))) (e2 zcz (eV 1) (zal zbk (zac (m2 ixD 0 (eC (.int 2))) (zac (e2 zbw (e2 zcz (eC (.int 11)) (m2 ixD 0 (eC (.int 1)))) (eC (.int 5))) zar))))) (eC (.int 0)))) sNx)
  (zaB (zbD (gN 2) (e2 zgM (m2 ixD 0 (eC (.int 0))) (eV 1)))
  (zaB (setM 0 (e2 zbg (m2 ixD 0 (eC (.int 0))) (eV 1)) (eC (.int 0)))
  (zaX (eV 2)))))
def zaD : List D -> R (D × List D) := run [true, false] false 3 zdx
def zh5 : SF := (sIf (FL.tOr (tB (e2 eqD (eV 5) (e1 zc4 (eV 0)))) (tB (e2 eqD (e2 zgM (e2 zbg (eV 2) (e2 zvJ (eC (.int 1)) (e2 zkG (eV 5) (eC (.int 1))))) (eC (.int 2))) (eC (.int 1))))) (zaB (zkB 3 zln (eSl (eV 0) (za4 (eV 4)) (za4 (eV 5))))
  (zbD (gN 4) (eV 5))) sNx)
def zh3 : SF := (zi3 (iR2 (zac (eC (.int 1)) (zac (e2 zbw (e1 zc4 (eV 0)) (eC (.int 1))) zar))) (gN 5) zh5)
def zik : EF := (zbY 1 [3] (iR2 (zac (eC (.int 1)) (zac (m1 zc4 3) zar))) (gN 0) (tB (e2 gtD (m2 ixD 1 (eV 0)) (m2 ixD 1 (e2 zkG (eV 0) (eC (.int 1)))))) (eV 0))
def zij : EF := (zp5 1 [] 3 (gN 0) (FL.zeH (tE (zal zax (zac (eV 0) zar)))) (eV 0))
def zh4 : SF := (zaB (ze6 3 (zel zar))
  (zaB (zbD (gN 4) (eC (.int 0)))
  (zaB zh3
  (zaB (zbD (gN 6) (e2 eqD zik (zel zar)))
  (sIf (FL.zuD (tE (eV 6)) (tB (e2 eqD zij (zel zar)))) (zvK 3 (zkB 1 zln (eV 3))) sNx)))))
def zh2 : SF := (zi3 (iR1 (zac (e2 zvJ (eC (.int 1)) (zal (two zuZ) (zac (eC (.int 0)) (zac (e2 zkG (e1 zc4 (eV 0)) (eC (.int 1))) zar)))) zar)) (gN 2) zh4)
def zkq : SF := (zaB (ze6 1 (zel zar))
  (zaB zh2
  (zvK 1 (zaX (eV 1)))))
def zkw : List D -> R D := zbo false 1 7 zkq
def zbZ : SF := (sIf (FL.zeH (tE (zal zcG (zac (eV 0) (zac (eC (.int 4)) zar))))) zpE sNx)
def zaJ : List D -> R D := zbo false 1 1 zbZ
def zii : EF := (zbY 1 [0, 2] (iR1 (zac (eV 3) zar)) (gN 0) zdJ (za1 zaD [.m 1, .v (eV 2)]))
def zkp : SF := (zaB (zbD (gN 1) (za1 zaD [.m 0, .v (eC (.int 3))]))
  (zaB (zbD (gN 2) (e2 ixD (zel (zac (eC (.int 4)) (zac (eC (.int 2)) (zac (eC (.int 3)) zar)))) (eV 1)))
  (zaB (zbD (gN 3) (za1 zaD [.m 0, .v (eC (.int 6))]))
  (zaB (zbD (gN 4) (e1 ziZ zii))
  (zaB (sIf (FL.zuD (tB (e2 eqD (eV 1) (eC (.int 2)))) (tB (e2 gtD (eV 3) (eC (.int 0))))) (zaX (eSl (e2 zcz (eSl (eV 4) zbb (za4 (e2 zbw (eC (.int 1)) (za1 zaD [.m 0, .v (eC (.int 2))])))) (eC (.int 5))) zbb (za4 (eV 3)))) sNx)
  (zaX (eV 4)))))))
def zkv : List D -> R (D × List D) := run [true] false 5 zkp
def zfu : SF := (zaB (sE (zal zaJ (zac (eV 0) zar)))
  (zcY (zal za9 (zac (eV 0) zar))))
def zbL : List D -> R D := zbo true 1 1 zfu
def zeO : EF := (zp5 1 [] 4 (gN 0) (FL.zeH (tE (e1 (zcr "tuple") (eV 0)))) (eV 0))
def zeG : SF := (zaB (zbD (gN 3) (za1 zkv [.t (zal zbj (zac (eV 2) (zac (eC (.int 53)) zar)))]))
  (zaB (ze6 4 (zal zbL (zac (eV 3) zar)))
  (zaB (sIf (FL.tOr (FL.zeH (tE (m1 (zcr "list") 4))) (tB (e2 neD zeO (zel zar)))) (zaX (eC (.bool false))) sNx)
  (zaB (sIf (tB (zu1 neD 4 (zal zkw (zac (eV 3) zar)))) (zaX (eC (.bool false))) sNx)
  (zaB (zbD (gN 5) (m1 zu3 4))
  (zaB (sE (zal zbL (zac (eV 1) zar)))
  (zaB (sIf (tB (m2 neD 4 (eV 5))) (zaX (eC (.bool false))) sNx)
  (zaB (zkB 4 zln (zek (zac (eC (.int 0)) zar)))
  (zaB (sIf (tB (e2 neD (zal zbL (zac (eV 3) zar)) (eV 5))) (zaX (eC (.bool false))) sNx)
  (zbD (gN 1) (eV 3)))))))))))
def zfy : SF := (zi3 (iE (e2 zbw (eSl (eV 0) zbb (za4 (eC (.int 8)))) (zel (zac (zal zcH (zac (eV 0) (zac (eC (.int 1)) zar))) zar)))) (gN 2) zeG)
def zl4 : SF := (zaB (zbD (gN 1) (zek zar))
  (zaB zfy
  (zaX (eC (.bool true)))))
def zl8 : List D -> R D := zbo false 1 6 zl4
end K53
namespace K53
open PySem FL
def least (w : List Int) : Bool := decide (0 < w.length) && (List.range (w.length - 1)).all fun i => lexLt w (w.drop (1 + i))
theorem zlA (w : List Int) (hw : w.length <= 100) : zbQ [Sl.val (tp w)] = .ok (.list (((List.range (w.length - 1)).map fun i => lexLt w (w.drop (1 + i))).map PyData.bool), [Sl.val (tp w)]) := by
 unfold zbQ
 rw [zdb (items := rng 1 w.length) (fun x => match x with | .int p => .bool (lexLt w (w.drop p.toNat)) | d => d)]
 ·congr 3
  rw [zgy, List.map_map, List.map_map, List.map_map]
  rw [show ((w.length : Int) - 1).toNat = w.length - 1 by omega]
  refine List.map_congr_left fun i _ => ?_
  simp only [Function.comp_apply]
  rw [show ((1 : Int) + (i : Int)).toNat = 1 + i by omega]
 ·simp only [iR2, zac, eC, FL.e1, eV, zc4, zar, zaf, List.getElem?_cons_zero, List.length_map]
  rw [zeg (by omega) (by omega) (by omega) (by omega)]
  rfl
 ·rw [zjS]; unfold lim; omega
 ·intro x hx
  obtain ⟨i, hi, rfl⟩ := zj5 hx
  refine ⟨[.val (.int (1 + i)), .val (tp w)], ?_, ?_, ?_⟩
  ·simp only [gN, blk, List.replicate, List.map_cons, List.getElem?_cons_zero, Option.getD_some, List.map_nil, List.cons_append, List.nil_append, List.set_cons_zero]
  ·simp only [FL.e2, eV, List.getElem?_cons_succ, List.getElem?_cons_zero, eSl, za4, zbb, zc5, zaf]
   rw [show (1 : Int) + (i : Int) = ((1 + i : Nat) : Int) by omega, zc0, zcQ w (1 + i) (by omega), zq6, Int.toNat_natCast]
   rfl
  ·simp only [back, bkL, bk1]
theorem zb7 (w : List Int) (hw : w.length <= 100) : zaP [tp w] = .ok (.bool (least w)) := by
 simp only [zaP, zbo, FL.run, List.length_cons, List.length_nil, Nat.reduceAdd, List.replicate, zdc, zaX, zkh, FL.e2, FL.e1, eV, slots, Bool.false_eq_true, if_false, Nat.sub_self, List.cons_append, List.nil_append, List.getElem?_cons_zero, zc4, zaf, List.length_map, eC, ziG, zlA w hw, outs, outD, if_true]
 unfold least
 by_cases h : 0 < w.length
 ·rw [decide_eq_true h, decide_eq_true (show (0 : Int) < w.length by omega)]
  simp only [zaf, zlo, List.all_map, Bool.true_and]
  rfl
 ·rw [decide_eq_false h, decide_eq_false (show ¬ (0 : Int) < w.length by omega)]
  simp only [zaf, Bool.false_and]
def rot (p : Nat) (w : List Int) : List Int := w.drop p ++ w.take p
def zpF (w : List Int) : List (List Int) := (List.range (w.length - 1)).map fun i => rot (1 + i) w
def zce (w : List Int) : Bool := !decide (w = []) && decide ((zpF w).filter (fun o => lexLe o w) = [])
theorem zi7 (w : List Int) (hw : w.length <= 100) : zaW [Sl.val (tp w), Sl.no] = .ok (ltp (zpF w), [Sl.val (tp w), Sl.no]) := by
 unfold zaW
 rw [zdb (items := rng 1 w.length) (fun x => match x with | .int p => tp (rot p.toNat w) | d => d)]
 ·congr 3
  unfold zpF
  rw [zgy, List.map_map, List.map_map, List.map_map]
  rw [show ((w.length : Int) - 1).toNat = w.length - 1 by omega]
  refine List.map_congr_left fun i _ => ?_
  simp only [Function.comp_apply]
  rw [show ((1 : Int) + (i : Int)).toNat = 1 + i by omega]
 ·simp only [iR2, zac, eC, FL.e1, eV, zc4, zar, zaf, List.getElem?_cons_zero, List.length_map]
  rw [zeg (by omega) (by omega) (by omega) (by omega)]
  rfl
 ·rw [zjS]; unfold lim; omega
 ·intro x hx
  obtain ⟨i, hi, rfl⟩ := zj5 hx
  refine ⟨[.val (.int (1 + i)), .val (tp w)], ?_, ?_, ?_⟩
  ·simp only [gN, blk, List.replicate, List.map_cons, List.getElem?_cons_zero, Option.getD_some, List.map_nil, List.cons_append, List.nil_append, List.set_cons_zero]
  ·simp only [FL.e2, eSl, eV, List.getElem?_cons_succ, List.getElem?_cons_zero, za4, zbb, zc5, zaf, zbw]
   rw [show (1 : Int) + (i : Int) = ((1 + i : Nat) : Int) by omega, zc0, zc0, zcQ w (1 + i) (by omega), zg6, Int.toNat_natCast, zaQ (zcO (by simp [lim]; omega)), <- List.map_append]
   rfl
  ·simp only [back, bkL, bk1]
theorem zi6 (w : List Int) (ws : List (List Int)) (hw : ws.length <= 100) : zaV [Sl.val (tp w), Sl.val (ltp ws)] = .ok (ltp (ws.filter fun o => lexLe o w), [Sl.val (tp w), Sl.val (ltp ws)]) := by
 unfold zaV
 rw [zem (items := ws.map tp) (fun x => match leD x (tp w) with | .ok (.bool b) => b | _ => false) id]
 ·congr 3
  rw [List.map_id, List.filter_map]
  congr 1
  refine List.filter_congr fun o _ => ?_
  simp only [Function.comp_apply, zj6]
 ·simp only [iE, eV, List.getElem?_cons_succ, List.getElem?_cons_zero, zf4, zaf]
 ·rw [List.length_map]; unfold lim; omega
 ·intro x hx
  obtain ⟨o, ho, rfl⟩ := List.mem_map.mp hx
  refine ⟨[.val (tp o), .val (tp w)], ?_, ?_, ?_, ?_⟩
  ·simp only [gN, blk, List.replicate, List.map_cons, List.getElem?_cons_zero, Option.getD_some, List.map_nil, List.cons_append, List.nil_append, List.set_cons_zero]
  ·simp only [tB, FL.e2, eV, List.getElem?_cons_zero, zaf, List.getElem?_cons_succ, zj6]
  ·intro _; simp only [eV, List.getElem?_cons_zero, id]
  ·simp only [back, bkL, bk1]
theorem zcf (w : List Int) (hw : w.length <= 100) : zax [tp w] = .ok (.bool (zce w)) := by
 have h1 : (zpF w).length <= 100 := by simp [zpF]; omega
 have e0 : neD (tp w) (.tuple []) = .ok (.bool (!decide (w = []))) := zpO w []
 have e1 : eqD (ltp ((zpF w).filter fun o => lexLe o w)) (.list []) = .ok (.bool (decide ((zpF w).filter (fun o => lexLe o w) = []))) := zri _ []
 simp only [zax, zbo, FL.run, List.length_cons, List.length_nil, Nat.reduceAdd, List.replicate, zbA, zaB, zga, ze6, slots, Bool.false_eq_true, if_false, Nat.reduceSub, List.cons_append, List.nil_append, zi7 w hw, zaf, List.getElem?_cons_succ, List.getElem?_cons_zero, List.set_cons_succ, List.set_cons_zero, zaX, zkh, FL.e2, eV, zek, zar, zaQ (zcO (Nat.zero_le lim)), zel, e0, zi6 w _ h1, FL.e1, outs, outD, if_true]
 unfold zce
 by_cases h : w = []
 ·simp [h, zaf]
 ·simp [h, zaf, e1]
def zpt (w : List Int) : List Int := ((List.range w.length).map fun (i : Nat) => (1 : Int) + (i : Int)).filter fun k => least (w.take k.toNat)
def most (w : List Int) : Nat := match zm5 (zpt w) with | some m => m.toNat | none => 0
def fall : Nat -> List Int -> List (List Int)
 | 0, _ => []
 | n + 1, w => if w = [] then [] else w.take (most w) :: fall n (w.drop (most w))
theorem zox (w : List Int) (r : En) (hw : w.length <= 100) : zaK (Sl.val (tp w) :: r) = .ok (.list ((zpt w).map PyData.int), Sl.val (tp w) :: r) := by
 unfold zaK
 rw [zem (items := rng 1 (w.length + 1)) (fun x => match x with | .int p => least (w.take p.toNat) | _ => false) id]
 ·congr 3
  unfold zpt
  rw [zgy, List.map_id, List.filter_map]
  rw [show ((w.length : Int) + 1 - 1).toNat = w.length by omega]
  rfl
 ·simp only [iR2, zac, eC, FL.e2, FL.e1, eV, zc4, zbw, zaf, zar, List.getElem?_cons_zero, List.length_map]
  rw [zeg (by omega) (by omega) (by omega) (by omega)]
  rfl
 ·rw [zjS]; unfold lim; omega
 ·intro x hx
  obtain ⟨i, hi, rfl⟩ := zj5 hx
  refine ⟨[.val (.int (1 + i)), .val (tp w)], ?_, ?_, ?_, ?_⟩
  ·simp only [gN, blk, List.replicate, List.map_cons, List.getElem?_cons_zero, Option.getD_some, List.map_nil, List.cons_append, List.nil_append, List.set_cons_zero]
  ·have hl : (w.take (1 + i)).length <= 100 := by rw [List.length_take]; omega
   simp only [tE, zal, zac, eSl, eV, List.getElem?_cons_succ, List.getElem?_cons_zero, zbb, za4, zc5, zaf, zar, zia]
   rw [show (1 : Int) + (i : Int) = ((1 + i : Nat) : Int) by omega, zc0, zg6, zb7 _ hl, Int.toNat_natCast]
   rfl
  ·intro _; simp only [eV, List.getElem?_cons_zero, id]
  ·refine zdv (fun i p d e => ?_) _ 0
   simp only [List.drop_succ_cons, List.drop_zero, List.zip_cons_cons, List.zip_nil_right, List.lookup_cons, List.lookup_nil] at e
   split at e
   ·cases e
   ·cases e
theorem zm2 {w : List Int} (h : w ≠ []) : ∃ m : Nat, zm5 (zpt w) = some (m : Int) /\ most w = m /\ 1 <= m /\ m <= w.length := by
 have ne : zpt w ≠ [] := by
  obtain ⟨a, r, rfl⟩ := List.exists_cons_of_ne_nil h
  refine List.ne_nil_of_mem (a := 1) (List.mem_filter.mpr ⟨List.mem_map.mpr ⟨0, List.mem_range.mpr (by simp), rfl⟩, ?_⟩)
  rfl
 obtain ⟨m, hm, e⟩ := zjg ne
 obtain ⟨hm, _⟩ := List.mem_filter.mp hm
 obtain ⟨i, hi, rfl⟩ := List.mem_map.mp hm
 have hi := List.mem_range.mp hi
 refine ⟨1 + i, by rw [e]; congr 1, ?_, by omega, by omega⟩
 unfold most
 rw [e]
 show ((1 : Int) + (i : Int)).toNat = _
 omega
theorem zhA (x0 : Sl) : ∀ (n : Nat) (w : List Int) (acc : List D) (x : Sl), (x = .no \/ ∃ d, x = .val d) -> w.length < n -> w.length <= 100 -> acc.length + w.length <= 1000 ->
  ∃ y, zew (tE (eV 0)) (zaB (zbD (gN 2) (e1 maxD zaK)) (zaB (zkB 1 zln (eSl (eV 0) zbb (za4 (eV 2)))) (zbD (gN 0) (eSl (eV 0) (za4 (eV 2)) zbb)))) n [.val (tp w), .ow false (.list acc), x] = .ok (.nx, [.val (tp []), .ow false (.list (acc ++ (fall n w).map tp)), y])
 | 0, w, acc, x, _, h, _, _ => absurd h (Nat.not_lt_zero _)
 | n + 1, w, acc, x, hx, h, hw, ha => by
  unfold zew
  by_cases e : w = []
  ·subst e
   refine ⟨x, ?_⟩
   simp only [tE, eV, List.getElem?_cons_zero, zia, zaf, List.map_nil, List.isEmpty_nil, Bool.not_true, zaB, zbD, FL.e1, gN, zkB, zeQ, eSl, zbb, za4, zc5, zln, zbE, Bool.false_eq_true, if_false, fall, if_pos, List.append_nil]
  ·obtain ⟨m, em, e2, h1, h2⟩ := zm2 e
   have hq := zox w [.ow false (.list acc), x] hw
   have ht : (tE (eV 0)) [.val (tp w), .ow false (.list acc), x] = .ok (true, [.val (tp w), .ow false (.list acc), x]) := by
    simp only [tE, eV, List.getElem?_cons_zero, zia, zaf]
    congr 2
    obtain ⟨a, r, rfl⟩ := List.exists_cons_of_ne_nil e
    rfl
   rw [ht, zaf, if_pos rfl]
   have hb : (zaB (zbD (gN 2) (e1 maxD zaK)) (zaB (zkB 1 zln (eSl (eV 0) zbb (za4 (eV 2)))) (zbD (gN 0) (eSl (eV 0) (za4 (eV 2)) zbb)))) [.val (tp w), .ow false (.list acc), x] =
     .ok (.nx, [.val (tp (w.drop m)), .ow false (.list (acc ++ [tp (w.take m)])), .val (.int m)]) := by
    have hl : leB (acc.length + 1) lim = true := zcO (by unfold lim; omega)
    rcases hx with rfl | ⟨d, rfl⟩
    ·simp only [zaB, zbD, FL.e1, hq, zaf, zkV, R.of, em, gN, List.getElem?_cons_succ, List.getElem?_cons_zero, List.set_cons_succ, List.set_cons_zero, zkB, zeQ, eSl, eV, zbb, za4, zc5, zln, zbE, zc0, zg6, zaQ hl, zcQ w m h2]
    ·simp only [zaB, zbD, FL.e1, hq, zaf, zkV, R.of, em, gN, List.getElem?_cons_succ, List.getElem?_cons_zero, List.set_cons_succ, List.set_cons_zero, zkB, zeQ, eSl, eV, zbb, za4, zc5, zln, zbE, zc0, zg6, zaQ hl, zcQ w m h2]
   rw [hb, zaf]
   obtain ⟨y, ih⟩ := zhA x0 n (w.drop m) (acc ++ [tp (w.take m)]) (.val (.int m)) (.inr ⟨_, rfl⟩) (by rw [List.length_drop]; omega) (by rw [List.length_drop]; omega) (by rw [List.length_append, List.length_drop]; simp; omega)
   refine ⟨y, ?_⟩
   show zew _ _ n _ = _
   have ef : fall (n + 1) w = w.take m :: fall n (w.drop m) := by rw [fall, if_neg e, e2]
   rw [ih, ef, List.map_cons, List.append_assoc]
   rfl
theorem zgY (w : List Int) (hw : w.length <= 9) : za9 [tp w] = .ok (ltp (fall 10 w)) := by
 obtain ⟨y, h⟩ := zhA .no 10 w [] .no (.inl rfl) (by omega) (by omega) (by simp; omega)
 have hw0 : zbl [Sl.val (tp w), Sl.ow false (.list []), Sl.no] = _ := h
 simp only [za9, zbo, FL.run, List.length_cons, List.length_nil, Nat.reduceAdd, List.replicate, zbI, zaB, ze6, zel, zar, slots, Bool.false_eq_true, if_false, Nat.reduceSub, List.cons_append, List.nil_append, zaf, zaQ (zcO (Nat.zero_le lim)), List.getElem?_cons_succ, List.getElem?_cons_zero, List.set_cons_succ, List.set_cons_zero, zif, hw0, outs, outD, if_true]
theorem zok (i : Int) : za2 [.int i] = .ok (.bool true) := rfl
theorem zrY (w : List Int) (hw : w.length <= 5) (h : ∀ x ∈ w, 0 <= x /\ x < 4) : zb4 [Sl.val (tp w), Sl.val (.int 4)] = .ok (.list ((w.map fun _ => true).map PyData.bool), [Sl.val (tp w), Sl.val (.int 4)]) := by
 unfold zb4
 rw [zdb (items := w.map PyData.int) (fun x => .bool true)]
 ·rw [List.map_map, List.map_map]; rfl
 ·simp only [iE, eV, List.getElem?_cons_zero, zf4, zaf]
 ·rw [List.length_map]; unfold lim; omega
 ·intro x hx
  obtain ⟨i, hi, rfl⟩ := List.mem_map.mp hx
  obtain ⟨h0, h4⟩ := h i hi
  refine ⟨[.val (.int i), .val (.int 4)], ?_, ?_, ?_⟩
  ·simp only [gN, blk, List.replicate, List.map_cons, List.getElem?_cons_succ, List.getElem?_cons_zero, Option.getD_some, List.map_nil, List.cons_append, List.nil_append, List.set_cons_zero]
  ·simp only [zkh, zal, zac, eV, List.getElem?_cons_zero, zar, zaf, zok, zeD, eC, zne, decide_eq_true h0, List.getElem?_cons_succ, zm8, decide_eq_true h4]
  ·simp only [back, bkL, bk1]
theorem zlW (w : List Int) (hw : w.length <= 5) (h : ∀ x ∈ w, 0 <= x /\ x < 4) : zcG [tp w, .int 4] = .ok (.bool true) := by
 have k1 : zcr "tuple" (tp w) = .ok (.bool true) := rfl
 have k2 : decide ((5 : Int) < w.length) = false := decide_eq_false (by omega)
 simp only [zcG, zbo, FL.run, List.length_cons, List.length_nil, Nat.reduceAdd, List.replicate, zd7, zaB, sIf, FL.tOr, FL.zeH, tE, FL.e1, eV, slots, Bool.false_eq_true, if_false, Nat.sub_self, List.cons_append, List.nil_append, List.getElem?_cons_zero, zaf, k1, zia, Bool.not_true, tB, FL.e2, zc4, eC, List.length_map, ziG, k2, zaX, sNx, zrY w hw h, zlo, List.all_map, outs, outD, if_true]
 simp
theorem zi5 (w : List Int) (hw : w.length <= 5) (h : ∀ x ∈ w, 0 <= x /\ x < 4) : zaJ [tp w] = .ok .none := by
 simp only [zaJ, zbo, FL.run, List.length_cons, List.length_nil, Nat.reduceAdd, List.replicate, zbZ, sIf, FL.zeH, tE, zal, zac, eV, slots, Bool.false_eq_true, if_false, Nat.sub_self, List.cons_append, List.nil_append, List.getElem?_cons_zero, eC, zar, zaf, zlW w hw h, zia, Bool.not_true, zpE, sNx, outs, outD, if_true]
theorem zfo (w : List Int) (hw : w.length <= 5) (h : ∀ x ∈ w, 0 <= x /\ x < 4) : zbL [tp w] = .ok (ltp (fall 10 w)) := by
 simp only [zbL, zbo, FL.run, List.length_cons, List.length_nil, Nat.reduceAdd, List.replicate, zfu, zaB, sE, zal, zac, eV, slots, Bool.false_eq_true, if_false, Nat.sub_self, List.cons_append, List.nil_append, List.getElem?_cons_zero, zar, zaf, zi5 w hw h, zcY, zgY w (by omega), outs, outD, if_true]
def ups (n : Nat) : List Int := (List.range n).map fun (i : Nat) => (1 : Int) + (i : Int)
theorem zj4 {n : Nat} {a : Int} (h : a ∈ ups n) : 1 <= a /\ a <= n := by
 obtain ⟨i, hi, rfl⟩ := List.mem_map.mp h
 have := List.mem_range.mp hi
 omega
structure zwj (k : Int) : Prop where
 lo : 0 <= k
 hi : k <= 1000
end K53
namespace K54
open PySem FL
def zep : SF := (zaX (zkh (e1 (zcr "int") (eV 0)) (zvt (e1 (zcr "bool") (eV 0)))))
def za2 : List D -> R D := zbo false 1 1 zep
def zcJ : SF := (zhH (zib 3) (tB (e2 neD (eV 3) (eC (.int 0)))) (ziU 2 3 (eV 3) (e2 zgM (eV 2) (eV 3))))
def zdI : SF := (zaB (ziU 2 3 (e1 zqe (eV 0)) (e1 zqe (eV 1)))
  (zaB zcJ
  (zaX (eV 2))))
def zaR : List D -> R D := zbo false 2 4 zdI
def zf8 : SF := (zaX (zek (zac (e1 zc4 (eV 0)) (zac (eV 0) zar))))
def zee : List D -> R D := zbo false 1 1 zf8
def zbQ : EF := (zbY 1 [0] (iR2 (zac (eC (.int 1)) (zac (e1 zc4 (eV 0)) zar))) (gN 0) zdJ (e2 ltD (eV 1) (eSl (eV 1) (za4 (eV 0)) zbb)))
def zdc : SF := (zaX (zkh (e2 gtD (e1 zc4 (eV 0)) (eC (.int 0))) (e1 zrC zbQ)))
def zaP : List D -> R D := zbo false 1 1 zdc
def zcT : SF := (zaB (zbD (gN 2) (e2 zbw (e2 zbw (e2 zcz (e2 zbw (e2 zgM (eV 0) (e2 zbw (e2 zhk (eC (.int 10)) (eC (.int 18))) (eC (.int 9)))) (e2 zcz (eC (.int 7)) (eV 1))) (eC (.int 739108512309184756019283746561))) (e2 zcz (eC (.int 7919)) (eV 1))) (eC (.int 1))))
  (zaB (zbD (gN 2) (e2 zgM (e2 zcz (eV 2) (eV 2)) (e2 zbw (e2 zhk (eC (.int 10)) (eC (.int 60))) (eC (.int 7)))))
  (zaX (e2 zgM (e2 zcz (e2 zbw (eV 2) (eC (.int 40503))) (e2 zbw (eV 2) (eC (.int 57)))) (e2 zbw (e2 zhk (eC (.int 10)) (eC (.int 60))) (eC (.int 7)))))))
def zbk : List D -> R D := zbo false 2 3 zcT
def zfv : SF := (zaB (sIf (tB (e2 ltD (eV 1) (e1 zc4 (eV 0)))) (zaX (e2 ixD (eV 0) (eV 1))) sNx)
  (zaX (e2 zbw (e2 zcz (eC (.int 3)) (eV 1)) (eC (.int 1)))))
def zcH : List D -> R D := zbo false 2 2 zfv
def zaW : EF := (zbY 1 [0] (iR2 (zac (eC (.int 1)) (zac (e1 zc4 (eV 0)) zar))) (gN 0) zdJ (e2 zbw (eSl (eV 1) (za4 (eV 0)) zbb) (eSl (eV 1) zbb (za4 (eV 0)))))
def zaV : EF := (zbY 1 [0] (iE (eV 1)) (gN 0) (tB (e2 leD (eV 0) (eV 1))) (eV 0))
def zbA : SF := (zaB (zga 1 (ze6 1 zaW))
  (zaX (zkh (e2 neD (eV 0) (zek zar)) (e2 eqD zaV (zel zar)))))
def zax : List D -> R D := zbo false 1 2 zbA
def zqd : SF := (zaB (zbD (gN 2) (zal zaR (zac (e2 ixD (eV 0) (eC (.int 1))) (zac (e2 ixD (eV 1) (eC (.int 1))) zar))))
  (zaB (ziU 3 4 (e2 zbg (e2 ixD (eV 0) (eC (.int 1))) (eV 2)) (e2 zbg (e2 ixD (eV 1) (eC (.int 1))) (eV 2)))
  (zaB (zbD (gN 5) (e2 zbw (e2 zcz (e2 ixD (eV 0) (eC (.int 0))) (eV 4)) (e2 zcz (e2 ixD (eV 1) (eC (.int 0))) (eV 3))))
  (zaB (zbD (gN 6) (zal zaR (zac (eV 5) (zac (eV 2) zar))))
  (zaX (zek (zac (e2 zbg (eV 5) (eV 6)) (zac (e2 zcz (eV 3) (e2 zbg (e2 ixD (eV 1) (eC (.int 1))) (eV 6))) zar))))))))
def zoe : List D -> R D := zbo false 2 7 zqd
def zn2 : SF := (zaB (ziU 2 3 (zal zaR (zac (e2 ixD (eV 0) (eC (.int 0))) (zac (e2 ixD (eV 1) (eC (.int 1))) zar))) (zal zaR (zac (e2 ixD (eV 1) (eC (.int 0))) (zac (e2 ixD (eV 0) (eC (.int 1))) zar))))
  (zaX (zek (zac (e2 zcz (e2 zbg (e2 ixD (eV 0) (eC (.int 0))) (eV 2)) (e2 zbg (e2 ixD (eV 1) (eC (.int 0))) (eV 3))) (zac (e2 zcz (e2 zbg (e2 ixD (eV 0) (eC (.int 1))) (eV 3)) (e2 zbg (e2 ixD (eV 1) (eC (.int 1))) (eV 2))) zar)))))
def ze2 : List D -> R D := zbo false 2 4 zn2
def zb4 : EF := (zbY 1 [1] (iE (eV 0)) (gN 0) zdJ (zkh (zal za2 (zac (eV 0) zar)) (zeD leD ltD (eC (.int 0)) (eV 0) (eV 1))))
def zd7 : SF := (zaB (sIf (FL.tOr (FL.zeH (tE (e1 (zcr "tuple") (eV 0)))) (tB (e2 gtD (e1 zc4 (eV 0)) (eC (.int 5))))) (zaX (eC (.bool false))) sNx)
  (zaX (e1 zrC zb4)))
def zcG : List D -> R D := zbo false 2 2 zd7
def zdH : SF := (sIf (FL.tOr (FL.zeH (tE (zal za2 (zac (eV 0) zar)))) (FL.zeH (tB (zeD leD leD (eC (.int 1)) (eV 0) (eC (.int 4)))))) zpE sNx)
def zbm : List D -> R D := zbo false 1 1 zdH
def zeq : SF := (zaX (zkh (zal za2 (zac (eV 0) zar)) (zeD leD ltD (eC (.int 0)) (eV 0) (eV 1))))
def zdB : List D -> R D := zbo false 2 2 zeq
def zaK : EF := (zbY 1 [0] (iR2 (zac (eC (.int 1)) (zac (e2 zbw (e1 zc4 (eV 0)) (eC (.int 1))) zar))) (gN 0) (tE (zal zaP (zac (eSl (eV 1) zbb (za4 (eV 0))) zar))) (eV 0))
def zbl : SF := (zhH (fun _ => 10) (tE (eV 0)) (zaB (zbD (gN 2) (e1 maxD zaK))
  (zaB (zkB 1 zln (eSl (eV 0) zbb (za4 (eV 2))))
  (zbD (gN 0) (eSl (eV 0) (za4 (eV 2)) zbb)))))
def zbI : SF := (zaB (ze6 1 (zel zar))
  (zaB zbl
  (zif 1)))
def za9 : List D -> R D := zbo true 1 3 zbI
def zb3 (Fr : List D -> R D) : EF := (zbY 1 [0] (iR2 (zac (eC (.int 1)) (zac (e1 zc4 (eV 0)) zar))) (gN 0) (tE (zal zaP (zac (eSl (eV 1) (za4 (eV 0)) zbb) zar))) (eV 0))
def zby (Fr : List D -> R D) : SF := (zaB (sIf (tB (e2 eqD (e1 zc4 (eV 0)) (eC (.int 1)))) (zaX (e2 ixD (eV 0) (eC (.int 0)))) sNx)
  (zaB (zbD (gN 1) (e1 minD (zb3 Fr)))
  (zaX (zek (zac (zal Fr (zac (eSl (eV 0) zbb (za4 (eV 1))) zar)) (zac (zal Fr (zac (eSl (eV 0) (za4 (eV 1)) zbb) zar)) zar))))))
def zaI : Nat -> List D -> R D
 | 0 => fun _ => .bad
 | k + 1 => zbo false 1 2 (zby (zaI k))
def zcS : SF := (zaB (sIf (tB (e2 geD (eV 0) (e2 zhk (eC (.int 10)) (eC (.int 18))))) (zcY (zel (zac (e2 zkG (eV 0) (e2 zhk (eC (.int 10)) (eC (.int 18)))) (zac (eC (.int 0)) (zac (eV 1) zar))))) sNx)
  (zcY (zel (zac (zal zbk (zac (eV 0) (zac (eV 1) zar))) (zac (eC (.int 0)) (zac (e2 zbw (e2 zgM (eV 0) (e2 zbw (e2 zhk (eC (.int 10)) (eC (.int 18))) (eC (.int 9)))) (eV 1)) zar))))))
def zbj : List D -> R D := zbo true 2 2 zcS
def zdx : SF := (zaB (sIf (tB (e2 ltD (m2 ixD 0 (eC (.int 0))) (eV 1))) (zaB (setM 0 (e2 zbw (m2 ixD 0 (eC (.int 1))) (eC (.int 1))) (eC (.int 1)))
  (setM 0 (e2 zbw (m2 ixD 0 (eC (.int 0))) (e2 zcz (eV 1) (zal zbk (zac (m2 ixD 0 (eC (.int 2))) (zac (e2 zbw (e2 zcz (eC (.int 11)) (m2 ixD 0 (eC (.int 1)))) (eC (.int 5))) zar))))) (eC (.int 0)))) sNx)
  (zaB (zbD (gN 2) (e2 zgM (m2 ixD 0 (eC (.int 0))) (eV 1)))
  (zaB (setM 0 (e2 zbg (m2 ixD 0 (eC (.int 0))) (eV 1)) (eC (.int 0)))
  (zaX (eV 2)))))
def zaD : List D -> R (D × List D) := run [true, false] false 3 zdx
def zdT (Fr : List D -> R D) : EF := (zbY 1 [0] (iR2 (zac (eC (.int 1)) (zac (e1 zc4 (eV 0)) zar))) (gN 0) (tE (zal zax (zac (eSl (eV 1) (za4 (eV 0)) zbb) zar))) (eV 0))
def zdd (Fr : List D -> R D) : SF := (zaB (sIf (tB (e2 eqD (e1 zc4 (eV 0)) (eC (.int 1)))) (zaX (e2 ixD (eV 0) (eC (.int 0)))) sNx)
  (zaB (zga 1 (ze6 1 (zdT Fr)))
  (zaX (zek (zac (zal Fr (zac (eSl (eV 0) zbb (za4 (e2 ixD (eV 1) (eC (.int 0))))) zar)) (zac (zal Fr (zac (eSl (eV 0) (za4 (e2 ixD (eV 1) (eC (.int 0)))) zbb) zar)) zar))))))
def za3 : Nat -> List D -> R D
 | 0 => fun _ => .bad
 | k + 1 => zbo false 1 2 (zdd (za3 k))
def zhW : SF := (zaB (zbD (gN 2) (zal zoe (zac (zm7 0 (eV 1) (eC (.tuple [(.int 0), (.int 1)]))) (zac (eV 2) zar))))
  (sIf (tB (e2 neD (eV 2) (eC (.tuple [(.int 0), (.int 1)])))) (znO 0 (eV 1) (eV 2)) (sIf (tB (m2r inD (eV 1) 0)) (znP 0 (eV 1)) sNx)))
def zdg : List D -> R (D × List D) := run [true, false, false] false 3 zhW
def zbF (Fr : List D -> R D) : EF := (zbY 1 [1, 2] (iE (eV 0)) (gN 0) zdJ (zal Fr (zac (eV 0) (zac (eV 1) (zac (e2 zkG (eV 2) (eC (.int 1))) zar)))))
def zbz (Fr : List D -> R D) : SF := (zaB (sIf (tE (zal zdB (zac (eV 0) (zac (eV 1) zar)))) (zaX (eC (.int 1))) sNx)
  (zaB (sIf (FL.tOr (tB (e2 eqD (eV 2) (eC (.int 0)))) (FL.tOr (FL.zeH (tE (e1 (zcr "tuple") (eV 0)))) (tB (e2 neD (e1 zc4 (eV 0)) (eC (.int 2)))))) (zaX (eC .none)) sNx)
  (zaB (zga 3 (ze6 3 (zbF Fr)))
  (zaB (sIf (tB (e2 zup (eC .none) (eV 3))) (zaX (eC .none)) sNx)
  (zaX (e1 zuh (eV 3)))))))
def zaM : Nat -> List D -> R D
 | 0 => fun _ => .bad
 | k + 1 => zbo false 3 4 (zbz (zaM k))
def zbZ : SF := (sIf (FL.zeH (tE (zal zcG (zac (eV 0) (zac (eC (.int 4)) zar))))) zpE sNx)
def zaJ : List D -> R D := zbo false 1 1 zbZ
def zf1 : EF := (zbY 1 [0] (iE (e1 (zhE zee) (eV 0))) (gN 0) zdJ (zek (zac (eV 0) (zac (e2 ziL (eV 1) (eV 0)) zar))))
def zhV : SF := (zaX zf1)
def zdf : List D -> R D := zbo false 1 1 zhV
def zfc : SF := (sE (za1 zdg [.m 0, .v (eV 3), .v (zal ze2 (zac (eV 1) (zac (e2 ziL (eV 2) (eV 3)) zar)))]))
def ze8 : SF := (zi3 (iD (eV 2)) (gN 3) zfc)
def zhe : SF := ze8
def ze4 : List D -> R (D × List D) := run [true, false, false] false 4 zhe
def zdF : SF := (sE (za1 zdg [.m 2, .v (e2 zbw (eV 3) (eV 4)), .v (zal ze2 (zac (e2 ziL (eV 0) (eV 3)) (zac (e2 ziL (eV 1) (eV 4)) zar)))]))
def zdD : SF := (zi3 (iD (eV 1)) (gN 4) zdF)
def zdE : SF := zdD
def zdC : SF := (zi3 (iD (eV 0)) (gN 3) zdE)
def zeE : SF := (zaB (ze6 2 zlb)
  (zaB zdC
  (zif 2)))
def zbJ : List D -> R D := zbo true 2 5 zeE
def zfu : SF := (zaB (sE (zal zaJ (zac (eV 0) zar)))
  (zcY (zal za9 (zac (eV 0) zar))))
def zbL : List D -> R D := zbo true 1 1 zfu
def zhc : SF := (zaB (ze6 2 (zal zbJ (zac (eV 0) (zac (eV 1) zar))))
  (zaB (sE (za1 ze4 [.m 2, .v (eC (.tuple [(.int (-1)), (.int 1)])), .v (zal zbJ (zac (eV 1) (zac (eV 0) zar)))]))
  (zif 2)))
def ze3 : List D -> R D := zbo true 2 3 zhc
def zbG : EF := (zbY 1 [0, 1] (iR1 (zac (e2 zbw (eC (.int 1)) (za1 zaD [.m 0, .v (eC (.int 5))])) zar)) (gN 0) zdJ (za1 zaD [.m 1, .v (eV 2)]))
def zcU : SF := (zaB (zbD (gN 1) (e2 ixD (zel (zac (eC (.int 2)) (zac (eC (.int 4)) zar))) (za1 zaD [.m 0, .v (eC (.int 2))])))
  (zaB (zbD (gN 2) (e1 ziZ zbG))
  (zaX (e2 ixD (zal zbL (zac (eV 2) zar)) (eC (.int 0))))))
def zcj : List D -> R (D × List D) := run [true] false 3 zcU
def zdw (Fr : List D -> R D) : SF := (zaB (sIf (FL.zeH (tE (e1 (zcr "tuple") (eV 0)))) (zcY (zhU (zek (zac (eV 0) zar)) (eC (.tuple [(.int 1), (.int 1)])))) sNx)
  (zcY (zal ze3 (zac (zal Fr (zac (e2 ixD (eV 0) (eC (.int 0))) zar)) (zac (zal Fr (zac (e2 ixD (eV 0) (eC (.int 1))) zar)) zar)))))
def zbC : Nat -> List D -> R D
 | 0 => fun _ => .bad
 | k + 1 => zbo true 1 1 (zdw (zbC k))
def zcR : SF := (zaB (sE (zal zaJ (zac (eV 0) zar)))
  (zaB (sIf (FL.zeH (tE (zal zaP (zac (eV 0) zar)))) zpE sNx)
  (zaX (zal (zaI 6) (zac (eV 0) zar)))))
def zbi : List D -> R D := zbo false 1 1 zcR
def zcs : SF := (zaB (zbD (gN 2) (zal (zaM 6) (zac (eV 0) (zac (eV 1) (zac (e2 zkG (eC (.int 5)) (eC (.int 1))) zar)))))
  (sIf (FL.tOr (tB (e2 isD (eV 2) (eC .none))) (tB (e2 gtD (eV 2) (eC (.int 5))))) zpE sNx))
def zb1 : List D -> R D := zbo false 2 3 zcs
def zll : SF := (zaB (sE (zal zbm (zac (eV 0) zar)))
  (zaB (sE (zal zb1 (zac (eV 1) (zac (eV 0) zar))))
  (zaX (zal zdf (zac (zal (zbC 6) (zac (eV 1) zar)) zar)))))
def zjH : List D -> R D := zbo false 2 2 zll
def zbs : SF := (sIf (FL.tOr (tB (e2 leD (eV 3) (eV 0))) (FL.tOr (tB (e2 neD (e1 zoq (eV 3)) (e1 zoq (eV 0)))) (tB (e2 eqD (e2 ixD (eV 4) (eC (.int 0))) (eC (.int 0)))))) (zaX (eC (.bool false))) sNx)
def zbr : SF := (zi3 (iE (eSl (eV 2) (za4 (eC (.int 1))) zbb)) (gT [(gN 3), (gN 4)]) zbs)
def zbK : SF := (zaB (zbD (gN 2) (zal zjH (zac (eC (.int 4)) (zac (eV 1) zar))))
  (zaB (sIf (FL.tOr (tB (e2 eqD (eV 2) (zel zar))) (tB (e2 neD (e2 ixD (eV 2) (eC (.int 0))) (zek (zac (eV 0) (zac (zek (zac (eC (.int 1)) (zac (eC (.int 1)) zar))) zar)))))) (zaX (eC (.bool false))) sNx)
  (zaB zbr
  (zaX (eC (.bool true))))))
def zbn : List D -> R D := zbo false 2 5 zbK
def zeO : EF := (zbY 1 [] (iE (e2 zbw (eSl (eV 0) zbb (za4 (eC (.int 8)))) (zel (zac (zal zcH (zac (eV 0) (zac (eC (.int 1)) zar))) zar)))) (gN 0) zdJ (za1 zcj [.t (zal zbj (zac (eV 0) (zac (eC (.int 54)) zar)))]))
def zeG : SF := (zaB (sIf (FL.zeH (tE (zal zax (zac (eV 3) zar)))) (zaX (eC (.bool false))) sNx)
  (zaB (zbD (gN 4) (zal zbi (zac (eV 3) zar)))
  (zaB (sIf (FL.tOr (tB (e2 neD (eV 4) (zal (za3 6) (zac (eV 3) zar)))) (FL.tOr (tB (e2 neD (e1 (zcr "tuple") (eV 4)) (e2 gtD (e1 zc4 (eV 3)) (eC (.int 1))))) (tE (e1 (zcr "bool") (eV 4))))) (zaX (eC (.bool false))) sNx)
  (zaB (sIf (FL.zeH (tE (zal zbn (zac (eV 3) (zac (eV 4) zar))))) (zaX (eC (.bool false))) sNx)
  (zkB 2 zln (eV 4))))))
def zfy : SF := (zi3 (iE (eV 1)) (gN 3) zeG)
def zih : EF := (zbY 1 [] (iE (e1 zly (eV 1))) (gN 0) zdJ (zal zbi (zac (eV 0) zar)))
def zl4 : SF := (zaB (zga 1 (ze6 1 zeO))
  (zaB (ze6 2 (zel zar))
  (zaB zfy
  (zaX (e2 eqD zih (m1 zly 2))))))
def zl8 : List D -> R D := zbo false 1 5 zl4
end K54
namespace K54
open PySem L2 PySem.Spec FL
open PyProof.Rows hiding St
def top (i : Nat) : Stmt := PySem.Challenge.pw_swaprest_k54_least_trees.main.body.getD i (.Pass ⟨0, 0, 0, 0⟩)
variable [Cs]
structure Cst (mg : Str -> Option Value) (zaa : Tok) (zag : Tok) (zae : Addr) (zaj : Addr) (zaA : Addr) : Prop where
 zbp : mg "MOST_LETTERS" = some (.int 4 zaa)
 zbN : mg "MOST_LONG" = some (.int 5 zag)
 zcA : mg "MINUS_ONE" = some (.ref zae)
 v_MINUS_ONE : ∃ o, Cs.C zae = some (.frz o (.tup [.int (-1), .int 1]))
 zei : mg "NOUGHT" = some (.ref zaj)
 v_NOUGHT : ∃ o, Cs.C zaj = some (.frz o (.tup [.int 0, .int 1]))
 zm6 : mg "ONE" = some (.ref zaA)
 v_ONE : ∃ o, Cs.C zaA = some (.frz o (.tup [.int 1, .int 1]))
section
variable {P : Program} {w : World} {K : PySem.W.Frag} {mg : Str -> Option Value} {base : Heap}
abbrev zfA : Stmt := top 10
theorem zlT {zaa : Tok} {zag : Tok} {zae : Addr} {zaj : Addr} {zaA : Addr} (h : Has K mg "is_whole" zfA) (B : Blt mg) (C : Cst mg zaa zag zae zaj zaA) : Callee P w K mg base "is_whole" 1 ["one"] (spP K 1 false za2) := by
 have S : zaz ["one"] ["one"] (zao zfA) := ⟨rfl, rfl, rfl, by decide +kernel, rfl, by decide +kernel, by decide +kernel⟩
 refine Callee.pure (zaZ (List.replicate 1 false) false h S rfl (by decide) (fun _ _ _ _ _ _ us hl => match us, hl with | [_], _ => rfl) fun f cdv A outer s H E hr => ?_)
 have hu := hr.units
 have hu1 := zaT hr
 have hu80 := zaF hr
 have PO : ∀ {M : Model} {A : Around} {env : Env}, PassesOwn M A env (fun _ _ => False) := PassesOwn.never
 refine zaH ?_
 unfold zep
 exact (zap (zaC (zjb (zgB zq9 rfl B.zaL rfl B.zlH Bt.int (zad 0)) (zja (zr2 (zgB zkX rfl B.zaL rfl B.zgI Bt.bool (zad 0)))))))
abbrev zcl : Stmt := top 11
theorem zge {zaa : Tok} {zag : Tok} {zae : Addr} {zaj : Addr} {zaA : Addr} (h : Has K mg "common_divisor" zcl) (B : Blt mg) (C : Cst mg zaa zag zae zaj zaA) : Callee P w K mg base "common_divisor" 1 ["one", "other"] (spP K 2 false zaR) := by
 have S : zaz ["one", "other", "high", "low"] ["one", "other"] (zao zcl) := ⟨rfl, rfl, rfl, by decide +kernel, rfl, by decide +kernel, by decide +kernel⟩
 refine Callee.pure (zaZ (List.replicate 2 false) false h S rfl (by decide) (fun _ _ _ _ _ _ us hl => match us, hl with | [_, _], _ => rfl) fun f cdv A outer s H E hr => ?_)
 have hu := hr.units
 have hu1 := zaT hr
 have hu80 := zaF hr
 have PO : ∀ {M : Model} {A : Around} {env : Env}, PassesOwn M A env (fun _ _ => False) := PassesOwn.never
 refine zaH ?_
 unfold zdI zcJ
 exact (zan (zin (i := 2) (j := 3) rfl S.nd rfl rfl (by decide) rfl rfl (zaY (zaO (CallD.ds zt4) rfl B.zj1 Bt.abs (zab (zad 0) zai))) (zaY (zaO (CallD.ds zt4) rfl B.zj1 Bt.abs (zab (zad 1) zai))) rfl)
   (zan (zi8 (zib 3) PO (za6 (zpN hu) (zad 3) zam (zbh _)) (zap (zin (i := 2) (j := 3) rfl S.nd rfl rfl (by decide) rfl rfl (zad 3) (zaN zlF (zad 2) (zad 3)) rfl)))
   (zap (zaC (zad 2)))))
abbrev zdM : Stmt := top 17
theorem zjl {zaa : Tok} {zag : Tok} {zae : Addr} {zaj : Addr} {zaA : Addr} (h : Has K mg "word_order" zdM) (B : Blt mg) (C : Cst mg zaa zag zae zaj zaA) : Callee P w K mg base "word_order" 1 ["word"] (spP K 1 false zee) := by
 have S : zaz ["word"] ["word"] (zao zdM) := ⟨rfl, rfl, rfl, by decide +kernel, rfl, by decide +kernel, by decide +kernel⟩
 refine Callee.pure (zaZ (List.replicate 1 false) false h S rfl (by decide) (fun _ _ _ _ _ _ us hl => match us, hl with | [_], _ => rfl) fun f cdv A outer s H E hr => ?_)
 have hu := hr.units
 have hu1 := zaT hr
 have hu80 := zaF hr
 have PO : ∀ {M : Model} {A : Around} {env : Env}, PassesOwn M A env (fun _ _ => False) := PassesOwn.never
 refine zaH ?_
 unfold zf8
 exact (zap (zaC (zey (zab (zaY (zaO (CallD.ds zfP) rfl B.zdK Bt.len (zab (zad 0) zai))) (zab (zad 0) zai)))))
abbrev zfB : Stmt := top 34
theorem zlU {zaa : Tok} {zag : Tok} {zae : Addr} {zaj : Addr} {zaA : Addr} (h : Has K mg "is_least" zfB) (B : Blt mg) (C : Cst mg zaa zag zae zaj zaA) : Callee P w K mg base "is_least" 1 ["word"] (spP K 1 false zaP) := by
 have S : zaz ["word"] ["word"] (zao zfB) := ⟨rfl, rfl, rfl, by decide +kernel, rfl, by decide +kernel, by decide +kernel⟩
 refine Callee.pure (zaZ (List.replicate 1 false) false h S rfl (by decide) (fun _ _ _ _ _ _ us hl => match us, hl with | [_], _ => rfl) fun f cdv A outer s H E hr => ?_)
 have hu := hr.units
 have hu1 := zaT hr
 have hu80 := zaF hr
 have PO : ∀ {M : Model} {A : Around} {env : Env}, PassesOwn M A env (fun _ _ => False) := PassesOwn.never
 refine zaH ?_
 unfold zdc zbQ
 exact (zap (zaC (zjb (zhK (zun hu) (zaY (zaO (CallD.ds zfP) rfl B.zdK Bt.len (zab (zad 0) zai))) zam (zbh _)) (zja (zaY (zaO (CallD.ds (zt3 rfl)) rfl B.zj0 Bt.all (zab (PVN.pv (zcM ["place"] [0] ["place", "word"] rfl rfl (by kernel_rfl) rfl (by decide) (zc7 rfl B.zcx (zab zam (zab (zaY (zaO (CallD.ds zfP) rfl B.zdK Bt.len (zab (zad 0) zai))) zai))) (fun _ _ _ _ => (za0 (i := 0) (nd (M := ["place", "word"]) (by decide +kernel)) rfl (Or.inl rfl))) (by decide) (fun _ _ _ _ => zcL) (fun _ _ _ _ => (zhK (zss hu) (zad 1) (zbv zfd (zad 1) (zbt (zad 0)) zbu) (zbh _))))) zai)))))))
abbrev zdQ : Stmt := top 41
theorem zjo {zaa : Tok} {zag : Tok} {zae : Addr} {zaj : Addr} {zaA : Addr} (h : Has K mg "_law_mixed" zdQ) (B : Blt mg) (C : Cst mg zaa zag zae zaj zaA) : Callee P w K mg base "_law_mixed" 1 ["_law_cell", "_law_k"] (spP K 2 false zbk) := by
 have S : zaz ["_law_cell", "_law_k", "_law_number"] ["_law_cell", "_law_k"] (zao zdQ) := ⟨rfl, rfl, rfl, by decide +kernel, rfl, by decide +kernel, by decide +kernel⟩
 refine Callee.pure (zaZ (List.replicate 2 false) false h S rfl (by decide) (fun _ _ _ _ _ _ us hl => match us, hl with | [_, _], _ => rfl) fun f cdv A outer s H E hr => ?_)
 have hu := hr.units
 have hu1 := zaT hr
 have hu80 := zaF hr
 have PO : ∀ {M : Model} {A : Around} {env : Env}, PassesOwn M A env (fun _ _ => False) := PassesOwn.never
 refine zaH ?_
 unfold zcT
 exact (zan (zbM (i := 2) S.nd rfl (Or.inl rfl) (zaN zc9 (zaN zc9 (zaN zfF (zaN zc9 (zaN zlF (zad 0) (zaN zc9 (zaN zlE zam zam) zam)) (zaN zfF zam (zad 1))) zam) (zaN zfF zam (zad 1))) zam))
   (zan (zbM (i := 2) S.nd rfl (Or.inl rfl) (zaN zlF (zaN zfF (zad 2) (zad 2)) (zaN zc9 (zaN zlE zam zam) zam)))
   (zap (zaC (zaN zlF (zaN zfF (zaN zc9 (zad 2) zam) (zaN zc9 (zad 2) zam)) (zaN zc9 (zaN zlE zam zam) zam))))))
abbrev zgv : Stmt := top 44
theorem znp {zaa : Tok} {zag : Tok} {zae : Addr} {zaj : Addr} {zaA : Addr} (h : Has K mg "_law_at" zgv) (B : Blt mg) (C : Cst mg zaa zag zae zaj zaA) : Callee P w K mg base "_law_at" 1 ["_law_script", "_law_k"] (spP K 2 false zcH) := by
 have S : zaz ["_law_script", "_law_k"] ["_law_script", "_law_k"] (zao zgv) := ⟨rfl, rfl, rfl, by decide +kernel, rfl, by decide +kernel, by decide +kernel⟩
 refine Callee.pure (zaZ (List.replicate 2 false) false h S rfl (by decide) (fun _ _ _ _ _ _ us hl => match us, hl with | [_, _], _ => rfl) fun f cdv A outer s H E hr => ?_)
 have hu := hr.units
 have hu1 := zaT hr
 have hu80 := zaF hr
 have PO : ∀ {M : Model} {A : Around} {env : Env}, PassesOwn M A env (fun _ _ => False) := PassesOwn.never
 refine zaH ?_
 unfold zfv
 exact (zan (zbH (za6 (zss hu) (zad 1) (zaY (zaO (CallD.ds zfP) rfl B.zdK Bt.len (zab (zad 0) zai))) (zbh _)) (zap (zaC (zbU zet (zad 0) (zad 1)))) zbd)
   (zap (zaC (zaN zc9 (zaN zfF zam (zad 1)) zam))))
abbrev zcv : Stmt := top 45
theorem zgP {zaa : Tok} {zag : Tok} {zae : Addr} {zaj : Addr} {zaA : Addr} (h : Has K mg "_law_is_least" zcv) (B : Blt mg) (C : Cst mg zaa zag zae zaj zaA) : Callee P w K mg base "_law_is_least" 1 ["_law_word"] (spP K 1 false zax) := by
 have S : zaz ["_law_word", "_law_others"] ["_law_word"] (zao zcv) := ⟨rfl, rfl, rfl, by decide +kernel, rfl, by decide +kernel, by decide +kernel⟩
 refine Callee.pure (zaZ (List.replicate 1 false) false h S rfl (by decide) (fun _ _ _ _ _ _ us hl => match us, hl with | [_], _ => rfl) fun f cdv A outer s H E hr => ?_)
 have hu := hr.units
 have hu1 := zaT hr
 have hu80 := zaF hr
 have PO : ∀ {M : Model} {A : Around} {env : Env}, PassesOwn M A env (fun _ _ => False) := PassesOwn.never
 refine zaH ?_
 unfold zbA zaV zaW
 exact (zan (zgj 1 (zgk 1 ["_law_at_here"] [0] ["_law_at_here", "_law_word"] S.nd rfl rfl rfl rfl rfl (by kernel_rfl) rfl (by decide) (zc7 rfl B.zcx (zab zam (zab (zaY (zaO (CallD.ds zfP) rfl B.zdK Bt.len (zab (zad 0) zai))) zai))) (fun _ _ _ _ => (za0 (i := 0) (nd (M := ["_law_at_here", "_law_word"]) (by decide +kernel)) rfl (Or.inl rfl))) (by decide) (fun _ _ _ _ => zcL) (fun _ _ _ _ => (zaN zc9 (zbv zfd (zad 1) (zbt (zad 0)) zbu) (zbv zfd (zad 1) zbu (zbt (zad 0)))))))
   (zap (zaC (zjb (zhK (zpN hu) (zad 0) (zey zai) (zbh _)) (zja (zhK (zq1 hu) (PVN.pv (zcM ["_law_other"] [0] ["_law_other", "_law_word"] rfl rfl (by kernel_rfl) rfl (by decide) (zdV (zad 1)) (fun _ _ _ _ => (za0 (i := 0) (nd (M := ["_law_other", "_law_word"]) (by decide +kernel)) rfl (Or.inl rfl))) (by decide) (fun _ _ _ _ => (zgi (za6 (zrx hu) (zad 0) (zad 1) (zbh _)))) (fun _ _ _ _ => (zad 0)))) (PVN.pv (zdU zai)) (zbh _)))))))
abbrev zmp : Stmt := top 12
theorem zsF {zaa : Tok} {zag : Tok} {zae : Addr} {zaj : Addr} {zaA : Addr} (h : Has K mg "plus" zmp) (B : Blt mg) (C : Cst mg zaa zag zae zaj zaA) (c_common_divisor : Callee P w K mg base "common_divisor" 1 ["one", "other"] (spP K 2 false zaR)) : Callee P w K mg base "plus" 2 ["one", "other"] (spP K 2 false zoe) := by
 have S : zaz ["one", "other", "shared", "mine", "its", "top", "again"] ["one", "other"] (zao zmp) := ⟨rfl, rfl, rfl, by decide +kernel, rfl, by decide +kernel, by decide +kernel⟩
 refine Callee.pure (zaZ (List.replicate 2 false) false h S rfl (by decide) (fun _ _ _ _ _ _ us hl => match us, hl with | [_, _], _ => rfl) fun f cdv A outer s H E hr => ?_)
 have hu := hr.units
 have hu1 := zaT hr
 have hu80 := zaF hr
 have PO : ∀ {M : Model} {A : Around} {env : Env}, PassesOwn M A env (fun _ _ => False) := PassesOwn.never
 refine zaH ?_
 unfold zqd
 exact (zan (zbM (i := 2) S.nd rfl (Or.inl rfl) (zay c_common_divisor hr rfl zas (zab (zbU zet (zad 0) zam) (zab (zbU zet (zad 1) zam) zai)) (zah (zah zaq))))
   (zan (zin (i := 3) (j := 4) rfl S.nd rfl rfl (by decide) rfl rfl (zaN zfi (zbU zet (zad 0) zam) (zad 2)) (zaN zfi (zbU zet (zad 1) zam) (zad 2)) rfl)
   (zan (zbM (i := 5) S.nd rfl (Or.inl rfl) (zaN zc9 (zaN zfF (zbU zet (zad 0) zam) (zad 4)) (zaN zfF (zbU zet (zad 1) zam) (zad 3))))
   (zan (zbM (i := 6) S.nd rfl (Or.inl rfl) (zay c_common_divisor hr rfl zas (zab (zad 5) (zab (zad 2) zai)) (zah (zah zaq))))
   (zap (zaC (zey (zab (zaN zfi (zad 5) (zad 6)) (zab (zaN zfF (zad 3) (zaN zfi (zbU zet (zad 1) zam) (zad 6))) zai)))))))))
abbrev zjR : Stmt := top 13
theorem zra {zaa : Tok} {zag : Tok} {zae : Addr} {zaj : Addr} {zaA : Addr} (h : Has K mg "times" zjR) (B : Blt mg) (C : Cst mg zaa zag zae zaj zaA) (c_common_divisor : Callee P w K mg base "common_divisor" 1 ["one", "other"] (spP K 2 false zaR)) : Callee P w K mg base "times" 2 ["one", "other"] (spP K 2 false ze2) := by
 have S : zaz ["one", "other", "mine", "its"] ["one", "other"] (zao zjR) := ⟨rfl, rfl, rfl, by decide +kernel, rfl, by decide +kernel, by decide +kernel⟩
 refine Callee.pure (zaZ (List.replicate 2 false) false h S rfl (by decide) (fun _ _ _ _ _ _ us hl => match us, hl with | [_, _], _ => rfl) fun f cdv A outer s H E hr => ?_)
 have hu := hr.units
 have hu1 := zaT hr
 have hu80 := zaF hr
 have PO : ∀ {M : Model} {A : Around} {env : Env}, PassesOwn M A env (fun _ _ => False) := PassesOwn.never
 refine zaH ?_
 unfold zn2
 exact (zan (zin (i := 2) (j := 3) rfl S.nd rfl rfl (by decide) rfl rfl (zay c_common_divisor hr rfl zas (zab (zbU zet (zad 0) zam) (zab (zbU zet (zad 1) zam) zai)) (zah (zah zaq))) (zay c_common_divisor hr rfl zas (zab (zbU zet (zad 1) zam) (zab (zbU zet (zad 0) zam) zai)) (zah (zah zaq))) rfl)
   (zap (zaC (zey (zab (zaN zfF (zaN zfi (zbU zet (zad 0) zam) (zad 2)) (zaN zfi (zbU zet (zad 1) zam) (zad 3))) (zab (zaN zfF (zaN zfi (zbU zet (zad 0) zam) (zad 3)) (zaN zfi (zbU zet (zad 1) zam) (zad 2))) zai))))))
abbrev zgu : Stmt := top 16
theorem zno {zaa : Tok} {zag : Tok} {zae : Addr} {zaj : Addr} {zaA : Addr} (h : Has K mg "is_word" zgu) (B : Blt mg) (C : Cst mg zaa zag zae zaj zaA) (c_is_whole : Callee P w K mg base "is_whole" 1 ["one"] (spP K 1 false za2)) : Callee P w K mg base "is_word" 2 ["word", "count"] (spP K 2 false zcG) := by
 have S : zaz ["word", "count"] ["word", "count"] (zao zgu) := ⟨rfl, rfl, rfl, by decide +kernel, rfl, by decide +kernel, by decide +kernel⟩
 refine Callee.pure (zaZ (List.replicate 2 false) false h S rfl (by decide) (fun _ _ _ _ _ _ us hl => match us, hl with | [_, _], _ => rfl) fun f cdv A outer s H E hr => ?_)
 have hu := hr.units
 have hu1 := zaT hr
 have hu80 := zaF hr
 have PO : ∀ {M : Model} {A : Around} {env : Env}, PassesOwn M A env (fun _ _ => False) := PassesOwn.never
 refine zaH ?_
 unfold zd7 zb4
 exact (zan (zbH (PVW.pvt (zex (zdk (zbW zfb (zgB kit_tuple rfl B.zaL rfl B.zcZ Bt.tuple (zad 0)))) (zeP (za6 (zun hu) (zaY (zaO (CallD.ds zfP) rfl B.zdK Bt.len (zab (zad 0) zai))) (zgC (v := (.int 5)) rfl C.zbN ⟨_, rfl⟩ (fun _ => zcC _)) (zbh _))))) (zap (zaC zjU)) zbd)
   (zap (zaC (zaY (zaO (CallD.ds (zt3 rfl)) rfl B.zj0 Bt.all (zab (PVN.pv (zcM ["one"] [1] ["one", "count"] rfl rfl (by kernel_rfl) rfl (by decide) (zdV (zad 0)) (fun _ _ _ _ => (za0 (i := 0) (nd (M := ["one", "count"]) (by decide +kernel)) rfl (Or.inl rfl))) (by decide) (fun _ _ _ _ => zcL) (fun _ _ _ _ => (zjb (zay c_is_whole hr rfl zas (zab (zad 0) zai) (zah zaq)) (zja (zkN (zrx hu) (zss hu) zam (zad 0) (zad 1))))))) zai))))))
abbrev zck : Stmt := top 24
theorem zgd {zaa : Tok} {zag : Tok} {zae : Addr} {zaj : Addr} {zaA : Addr} (h : Has K mg "refuse_letters" zck) (B : Blt mg) (C : Cst mg zaa zag zae zaj zaA) (c_is_whole : Callee P w K mg base "is_whole" 1 ["one"] (spP K 1 false za2)) : Callee P w K mg base "refuse_letters" 2 ["count"] (spP K 1 false zbm) := by
 have S : zaz ["count"] ["count"] (zao zck) := ⟨rfl, rfl, rfl, by decide +kernel, rfl, by decide +kernel, by decide +kernel⟩
 refine Callee.pure (zaZ (List.replicate 1 false) false h S rfl (by decide) (fun _ _ _ _ _ _ us hl => match us, hl with | [_], _ => rfl) fun f cdv A outer s H E hr => ?_)
 have hu := hr.units
 have hu1 := zaT hr
 have hu80 := zaF hr
 have PO : ∀ {M : Model} {A : Around} {env : Env}, PassesOwn M A env (fun _ _ => False) := PassesOwn.never
 refine zaH ?_
 unfold zdH
 exact (zap (zbH (PVW.pvt (zex (zdk (zbW zfb (zay c_is_whole hr rfl zas (zab (zad 0) zai) (zah zaq)))) (zeP (zdk (zmC (zrx hu) (zrx hu) zam (zad 0) (zgC (v := (.int 4)) rfl C.zbp ⟨_, rfl⟩ (fun _ => zcC _))))))) (zap zff) zbd))
abbrev zid : Stmt := top 26
theorem zo7 {zaa : Tok} {zag : Tok} {zae : Addr} {zaj : Addr} {zaA : Addr} (h : Has K mg "is_way" zid) (B : Blt mg) (C : Cst mg zaa zag zae zaj zaA) (c_is_whole : Callee P w K mg base "is_whole" 1 ["one"] (spP K 1 false za2)) : Callee P w K mg base "is_way" 2 ["one", "count"] (spP K 2 false zdB) := by
 have S : zaz ["one", "count"] ["one", "count"] (zao zid) := ⟨rfl, rfl, rfl, by decide +kernel, rfl, by decide +kernel, by decide +kernel⟩
 refine Callee.pure (zaZ (List.replicate 2 false) false h S rfl (by decide) (fun _ _ _ _ _ _ us hl => match us, hl with | [_, _], _ => rfl) fun f cdv A outer s H E hr => ?_)
 have hu := hr.units
 have hu1 := zaT hr
 have hu80 := zaF hr
 have PO : ∀ {M : Model} {A : Around} {env : Env}, PassesOwn M A env (fun _ _ => False) := PassesOwn.never
 refine zaH ?_
 unfold zeq
 exact (zap (zaC (zjb (zay c_is_whole hr rfl zas (zab (zad 0) zai) (zah zaq)) (zja (zkN (zrx hu) (zss hu) zam (zad 0) (zad 1))))))
abbrev zcW : Stmt := top 36
theorem zhw {zaa : Tok} {zag : Tok} {zae : Addr} {zaj : Addr} {zaA : Addr} (h : Has K mg "fallen_words" zcW) (B : Blt mg) (C : Cst mg zaa zag zae zaj zaA) (c_is_least : Callee P w K mg base "is_least" 1 ["word"] (spP K 1 false zaP)) : Callee P w K mg base "fallen_words" 2 ["word"] (spP K 1 true za9) := by
 have S : zaz ["word", "found", "most"] ["word"] (zao zcW) := ⟨rfl, rfl, rfl, by decide +kernel, rfl, by decide +kernel, by decide +kernel⟩
 refine Callee.pure (zaZ (List.replicate 1 false) true h S rfl (by decide) (fun _ _ _ _ _ _ us hl => match us, hl with | [_], _ => rfl) fun f cdv A outer s H E hr => ?_)
 have hu := hr.units
 have hu1 := zaT hr
 have hu80 := zaF hr
 have PO : ∀ {M : Model} {A : Around} {env : Env}, PassesOwn M A env (fun _ _ => False) := PassesOwn.never
 refine zaH ?_
 unfold zbI zbl zaK
 exact (zan (zio (i := 1) S.nd rfl (Or.inl rfl) (zdU zai))
   (zan (zi8 (fun _ => 10) PO (zbW zfb (zad 0)) (zan (zbM (i := 2) S.nd rfl (Or.inl rfl) (zaY (zaO (CallD.ds (zvz rfl)) rfl B.zm0 Bt.max (zab (PVN.pv (zcM ["many"] [0] ["many", "word"] rfl rfl (by kernel_rfl) rfl (by decide) (zc7 rfl B.zcx (zab zam (zab (zaN zc9 (zaY (zaO (CallD.ds zfP) rfl B.zdK Bt.len (zab (zad 0) zai))) zam) zai))) (fun _ _ _ _ => (za0 (i := 0) (nd (M := ["many", "word"]) (by decide +kernel)) rfl (Or.inl rfl))) (by decide) (fun _ _ _ _ => (zgi (zbW zfb (zay c_is_least hr rfl zas (zab (zbv zfd (zad 1) zbu (zbt (zad 0))) zai) (zah zaq))))) (fun _ _ _ _ => (zad 0)))) zai))))
   (zan (zhI 1 rfl (pv 1) (zbv zfd (zad 0) zbu (zbt (zad 2))))
   (zap (zbM (i := 0) S.nd rfl (Or.inr rfl) (zbv zfd (zad 0) (zbt (zad 2)) zbu))))))
   (zap (zim 1 (pv 1)))))
abbrev zcu : Stmt := top 38
theorem zd1 {zaa : Tok} {zag : Tok} {zae : Addr} {zaj : Addr} {zaA : Addr} (h : Has K mg "tree_of_least" zcu) (B : Blt mg) (C : Cst mg zaa zag zae zaj zaA) (c_is_least : Callee P w K mg base "is_least" 1 ["word"] (spP K 1 false zaP)) : ∀ k : Nat, Callee P w K mg base "tree_of_least" (1 + k) ["word"] (spP K 1 false (zaI k))
 | 0 => zeo h (fun _ _ _ _ _ _ us hl => match us, hl with | [_], _ => rfl) rfl
 | k + 1 => by
  have ih := zd1 h B C c_is_least k
  have S : zaz ["word", "ahead"] ["word"] (zao zcu) := ⟨rfl, rfl, rfl, by decide +kernel, rfl, by decide +kernel, by decide +kernel⟩
  show Callee P w K mg base "tree_of_least" (1 + k + 1) ["word"] (spP K 1 false (zbo false 1 2 (zby (zaI k))))
  refine Callee.pure (zaZ (List.replicate 1 false) false h S rfl (by decide) (fun _ _ _ _ _ _ us hl => match us, hl with | [_], _ => rfl) fun f cdv A outer s H E hr => ?_)
  have hu := hr.units
  have hu1 := zaT hr
  have hu80 := zaF hr
  have PO : ∀ {M : Model} {A : Around} {env : Env}, PassesOwn M A env (fun _ _ => False) := PassesOwn.never
  refine zaH ?_
  unfold zby zb3
  exact (zan (zbH (za6 (zq1 hu) (zaY (zaO (CallD.ds zfP) rfl B.zdK Bt.len (zab (zad 0) zai))) zam (zbh _)) (zap (zaC (zbU zet (zad 0) zam))) zbd)
   (zan (zbM (i := 1) S.nd rfl (Or.inl rfl) (zaY (zaO (CallD.ds (zvy rfl)) rfl B.zmZ Bt.min (zab (PVN.pv (zcM ["many"] [0] ["many", "word"] rfl rfl (by kernel_rfl) rfl (by decide) (zc7 rfl B.zcx (zab zam (zab (zaY (zaO (CallD.ds zfP) rfl B.zdK Bt.len (zab (zad 0) zai))) zai))) (fun _ _ _ _ => (za0 (i := 0) (nd (M := ["many", "word"]) (by decide +kernel)) rfl (Or.inl rfl))) (by decide) (fun _ _ _ _ => (zgi (zbW zfb (zay c_is_least hr rfl zas (zab (zbv zfd (zad 1) (zbt (zad 0)) zbu) zai) (zah zaq) (hj := by omega))))) (fun _ _ _ _ => (zad 0)))) zai))))
   (zap (zaC (zey (zab (zay (ih) hr rfl zas (zab (zbv zfd (zad 0) zbu (zbt (zad 1))) zai) (zah zaq) (hj := by omega)) (zab (zay (ih) hr rfl zas (zab (zbv zfd (zad 0) (zbt (zad 1)) zbu) zai) (zah zaq) (hj := by omega)) zai)))))))
abbrev zdP : Stmt := top 42
theorem zjn {zaa : Tok} {zag : Tok} {zae : Addr} {zaj : Addr} {zaA : Addr} (h : Has K mg "_law_purse" zdP) (B : Blt mg) (C : Cst mg zaa zag zae zaj zaA) (c__law_mixed : Callee P w K mg base "_law_mixed" 1 ["_law_cell", "_law_k"] (spP K 2 false zbk)) : Callee P w K mg base "_law_purse" 2 ["_law_cell", "_law_k"] (spP K 2 true zbj) := by
 have S : zaz ["_law_cell", "_law_k"] ["_law_cell", "_law_k"] (zao zdP) := ⟨rfl, rfl, rfl, by decide +kernel, rfl, by decide +kernel, by decide +kernel⟩
 refine Callee.pure (zaZ (List.replicate 2 false) true h S rfl (by decide) (fun _ _ _ _ _ _ us hl => match us, hl with | [_, _], _ => rfl) fun f cdv A outer s H E hr => ?_)
 have hu := hr.units
 have hu1 := zaT hr
 have hu80 := zaF hr
 have PO : ∀ {M : Model} {A : Around} {env : Env}, PassesOwn M A env (fun _ _ => False) := PassesOwn.never
 refine zaH ?_
 unfold zcS
 exact (zan (zbH (za6 (zwk hu) (zad 0) (zaN zlE zam zam) (zbh _)) (zap (zfe (zdU (zab (zaN zq0 (zad 0) (zaN zlE zam zam)) (zab zam (zab (zad 1) zai)))))) zbd)
   (zap (zfe (zdU (zab (zay c__law_mixed hr rfl zas (zab (zad 0) (zab (zad 1) zai)) (zah (zah zaq))) (zab zam (zab (zaN zc9 (zaN zlF (zad 0) (zaN zc9 (zaN zlE zam zam) zam)) (zad 1)) zai)))))))
abbrev zeM : Stmt := top 43
theorem zkc {zaa : Tok} {zag : Tok} {zae : Addr} {zaj : Addr} {zaA : Addr} (h : Has K mg "_law_take" zeM) (B : Blt mg) (C : Cst mg zaa zag zae zaj zaA) (c__law_mixed : Callee P w K mg base "_law_mixed" 1 ["_law_cell", "_law_k"] (spP K 2 false zbk)) : Callee P w K mg base "_law_take" 2 ["_law_purse_here", "_law_many"] (spF K [true, false] false zaD) := by
 have S : zaz ["_law_purse_here", "_law_many", "_law_got"] ["_law_purse_here", "_law_many"] (zao zeM) := ⟨rfl, rfl, rfl, by decide +kernel, rfl, by decide +kernel, by decide +kernel⟩
 refine (zaZ [true, false] false h S rfl (by decide) (fun _ _ _ _ _ _ us hl => match us, hl with | [_, _], _ => rfl) fun f cdv A outer s H E hr => ?_)
 have hu := hr.units
 have hu1 := zaT hr
 have hu80 := zaF hr
 have PO : ∀ {M : Model} {A : Around} {env : Env}, PassesOwn M A env (fun _ _ => False) := PassesOwn.never
 refine zaH ?_
 unfold zdx
 exact (zan (zbH (za6 (zss hu) (zgA 0 zet (pv 0) zam) (zad 1) (zbh _)) (zan (zil 0 (pv 0) (zaN zc9 (zgA 0 zet (pv 0) zam) zam) zam)
   (zap (zil 0 (pv 0) (zaN zc9 (zgA 0 zet (pv 0) zam) (zaN zfF (zad 1) (zay c__law_mixed hr rfl zas (zab (zgA 0 zet (pv 0) zam) (zab (zaN zc9 (zaN zfF zam (zgA 0 zet (pv 0) zam)) zam) zai)) (zah (zah zaq))))) zam))) zbd)
   (zan (zbM (i := 2) S.nd rfl (Or.inl rfl) (zaN zlF (zgA 0 zet (pv 0) zam) (zad 1)))
   (zan (zil 0 (pv 0) (zaN zfi (zgA 0 zet (pv 0) zam) (zad 1)) zam)
   (zap (zaC (zad 2))))))
abbrev zfD : Stmt := top 46
theorem zhQ {zaa : Tok} {zag : Tok} {zae : Addr} {zaj : Addr} {zaA : Addr} (h : Has K mg "_law_due" zfD) (B : Blt mg) (C : Cst mg zaa zag zae zaj zaA) (c__law_is_least : Callee P w K mg base "_law_is_least" 1 ["_law_word"] (spP K 1 false zax)) : ∀ k : Nat, Callee P w K mg base "_law_due" (1 + k) ["_law_word"] (spP K 1 false (za3 k))
 | 0 => zeo h (fun _ _ _ _ _ _ us hl => match us, hl with | [_], _ => rfl) rfl
 | k + 1 => by
  have ih := zhQ h B C c__law_is_least k
  have S : zaz ["_law_word", "_law_ends"] ["_law_word"] (zao zfD) := ⟨rfl, rfl, rfl, by decide +kernel, rfl, by decide +kernel, by decide +kernel⟩
  show Callee P w K mg base "_law_due" (1 + k + 1) ["_law_word"] (spP K 1 false (zbo false 1 2 (zdd (za3 k))))
  refine Callee.pure (zaZ (List.replicate 1 false) false h S rfl (by decide) (fun _ _ _ _ _ _ us hl => match us, hl with | [_], _ => rfl) fun f cdv A outer s H E hr => ?_)
  have hu := hr.units
  have hu1 := zaT hr
  have hu80 := zaF hr
  have PO : ∀ {M : Model} {A : Around} {env : Env}, PassesOwn M A env (fun _ _ => False) := PassesOwn.never
  refine zaH ?_
  unfold zdd zdT
  exact (zan (zbH (za6 (zq1 hu) (zaY (zaO (CallD.ds zfP) rfl B.zdK Bt.len (zab (zad 0) zai))) zam (zbh _)) (zap (zaC (zbU zet (zad 0) zam))) zbd)
   (zan (zgj 1 (zgk 1 ["_law_at_here"] [0] ["_law_at_here", "_law_word"] S.nd rfl rfl rfl rfl rfl (by kernel_rfl) rfl (by decide) (zc7 rfl B.zcx (zab zam (zab (zaY (zaO (CallD.ds zfP) rfl B.zdK Bt.len (zab (zad 0) zai))) zai))) (fun _ _ _ _ => (za0 (i := 0) (nd (M := ["_law_at_here", "_law_word"]) (by decide +kernel)) rfl (Or.inl rfl))) (by decide) (fun _ _ _ _ => (zgi (zbW zfb (zay c__law_is_least hr rfl zas (zab (zbv zfd (zad 1) (zbt (zad 0)) zbu) zai) (zah zaq) (hj := by omega))))) (fun _ _ _ _ => (zad 0))))
   (zap (zaC (zey (zab (zay (ih) hr rfl zas (zab (zbv zfd (zad 0) zbu (zbt (zbU zet (zad 1) zam))) zai) (zah zaq) (hj := by omega)) (zab (zay (ih) hr rfl zas (zab (zbv zfd (zad 0) (zbt (zbU zet (zad 1) zam)) zbu) zai) (zah zaq) (hj := by omega)) zai)))))))
abbrev zfC : Stmt := top 19
theorem zlV {zaa : Tok} {zag : Tok} {zae : Addr} {zaj : Addr} {zaA : Addr} (h : Has K mg "add_term" zfC) (B : Blt mg) (C : Cst mg zaa zag zae zaj zaA) (c_plus : Callee P w K mg base "plus" 2 ["one", "other"] (spP K 2 false zoe)) : Callee P w K mg base "add_term" 3 ["held", "word", "number"] (spF K [true, false, false] false zdg) := by
 have S : zaz ["held", "word", "number"] ["held", "word", "number"] (zao zfC) := ⟨rfl, rfl, rfl, by decide +kernel, rfl, by decide +kernel, by decide +kernel⟩
 refine (zaZ [true, false, false] false h S rfl (by decide) (fun _ _ _ _ _ _ us hl => match us, hl with | [_, _, _], _ => rfl) fun f cdv A outer s H E hr => ?_)
 have hu := hr.units
 have hu1 := zaT hr
 have hu80 := zaF hr
 have PO : ∀ {M : Model} {A : Around} {env : Env}, PassesOwn M A env (fun _ _ => False) := PassesOwn.never
 refine zaH ?_
 unfold zhW
 exact (zan (zbM (i := 2) S.nd rfl (Or.inl rfl) (zay c_plus hr rfl zas (zab (zoC 0 hu1 (pv 0) (zad 1) (zkM rfl C.zei C.v_NOUGHT (fun _ => by simp [zak, Fz])) ⟨rfl, rfl, rfl, rfl⟩) (zab (zad 2) zai)) (zah (zah zaq))))
   (zap (zbH (za6 (zpN hu) (zad 2) (zkM rfl C.zei C.v_NOUGHT (fun _ => by simp [zak, Fz])) (zbh _)) (zap (zoy 0 hu1 (pv 0) (zad 2) (zad 1))) (zap (zbH (zqy 0 (zsp hu1) (zad 1) (pv 0) rfl) (zap (zoz 0 hu1 (pv 0) (zad 1))) zbd)))))
abbrev zdN : Stmt := top 28
theorem zf3 {zaa : Tok} {zag : Tok} {zae : Addr} {zaj : Addr} {zaA : Addr} (h : Has K mg "letters_in" zdN) (B : Blt mg) (C : Cst mg zaa zag zae zaj zaA) (c_is_way : Callee P w K mg base "is_way" 2 ["one", "count"] (spP K 2 false zdB)) : ∀ k : Nat, Callee P w K mg base "letters_in" (2 + k) ["tree", "count", "deep"] (spP K 3 false (zaM k))
 | 0 => zeo h (fun _ _ _ _ _ _ us hl => match us, hl with | [_, _, _], _ => rfl) rfl
 | k + 1 => by
  have ih := zf3 h B C c_is_way k
  have S : zaz ["tree", "count", "deep", "many"] ["tree", "count", "deep"] (zao zdN) := ⟨rfl, rfl, rfl, by decide +kernel, rfl, by decide +kernel, by decide +kernel⟩
  show Callee P w K mg base "letters_in" (2 + k + 1) ["tree", "count", "deep"] (spP K 3 false (zbo false 3 4 (zbz (zaM k))))
  refine Callee.pure (zaZ (List.replicate 3 false) false h S rfl (by decide) (fun _ _ _ _ _ _ us hl => match us, hl with | [_, _, _], _ => rfl) fun f cdv A outer s H E hr => ?_)
  have hu := hr.units
  have hu1 := zaT hr
  have hu80 := zaF hr
  have PO : ∀ {M : Model} {A : Around} {env : Env}, PassesOwn M A env (fun _ _ => False) := PassesOwn.never
  refine zaH ?_
  unfold zbz zbF
  exact (zan (zbH (zbW zfb (zay c_is_way hr rfl zas (zab (zad 0) (zab (zad 1) zai)) (zah (zah zaq)) (hj := by omega))) (zap (zaC zam)) zbd)
   (zan (zbH (PVW.pvt (zex (za6 (zq1 hu) (zad 2) zam (zbh _)) (zex (zdk (zbW zfb (zgB kit_tuple rfl B.zaL rfl B.zcZ Bt.tuple (zad 0)))) (zeP (za6 (zpN hu) (zaY (zaO (CallD.ds zfP) rfl B.zdK Bt.len (zab (zad 0) zai))) zam (zbh _)))))) (zap (zaC zkL)) zbd)
   (zan (zgj 3 (zgk 3 ["part"] [1, 2] ["part", "count", "deep"] S.nd rfl rfl rfl rfl rfl (by kernel_rfl) rfl (by decide) (zdV (zad 0)) (fun _ _ _ _ => (za0 (i := 0) (nd (M := ["part", "count", "deep"]) (by decide +kernel)) rfl (Or.inl rfl))) (by decide) (fun _ _ _ _ => zcL) (fun _ _ _ _ => (zay (ih) hr rfl zas (zab (zad 0) (zab (zad 1) (zab (zaN zq0 (zad 2) zam) zai))) (zah (zah (zah zaq))) (hj := by omega)))))
   (zan (zbH (za6 (zso hu80) zkL (zad 3) rfl) (zap (zaC zkL)) zbd)
   (zap (zaC (zaY (zaO (CallD.ds (zvx rfl)) rfl B.zmY Bt.sum (zab (zad 3) zai)))))))))
abbrev zdi : Stmt := top 35
theorem ziB {zaa : Tok} {zag : Tok} {zae : Addr} {zaj : Addr} {zaA : Addr} (h : Has K mg "refuse_word" zdi) (B : Blt mg) (C : Cst mg zaa zag zae zaj zaA) (c_is_word : Callee P w K mg base "is_word" 2 ["word", "count"] (spP K 2 false zcG)) : Callee P w K mg base "refuse_word" 3 ["word"] (spP K 1 false zaJ) := by
 have S : zaz ["word"] ["word"] (zao zdi) := ⟨rfl, rfl, rfl, by decide +kernel, rfl, by decide +kernel, by decide +kernel⟩
 refine Callee.pure (zaZ (List.replicate 1 false) false h S rfl (by decide) (fun _ _ _ _ _ _ us hl => match us, hl with | [_], _ => rfl) fun f cdv A outer s H E hr => ?_)
 have hu := hr.units
 have hu1 := zaT hr
 have hu80 := zaF hr
 have PO : ∀ {M : Model} {A : Around} {env : Env}, PassesOwn M A env (fun _ _ => False) := PassesOwn.never
 refine zaH ?_
 unfold zbZ
 exact (zap (zbH (zdk (zbW zfb (zay c_is_word hr rfl zas (zab (zad 0) (zab (zgC (v := (.int 4)) rfl C.zbp ⟨_, rfl⟩ (fun _ => zcC _)) zai)) (zah (zah zaq))))) (zap zff) zbd))
abbrev zfz : Stmt := top 18
theorem zlS {zaa : Tok} {zag : Tok} {zae : Addr} {zaj : Addr} {zaA : Addr} (h : Has K mg "told_sum" zfz) (B : Blt mg) (C : Cst mg zaa zag zae zaj zaA) (c_word_order : Callee P w K mg base "word_order" 1 ["word"] (spP K 1 false zee)) : Callee P w K mg base "told_sum" 4 ["held"] (spP K 1 false zdf) := by
 have S : zaz ["held"] ["held"] (zao zfz) := ⟨rfl, rfl, rfl, by decide +kernel, rfl, by decide +kernel, by decide +kernel⟩
 refine Callee.pure (zaZ (List.replicate 1 false) false h S rfl (by decide) (fun _ _ _ _ _ _ us hl => match us, hl with | [_], _ => rfl) fun f cdv A outer s H E hr => ?_)
 have hu := hr.units
 have hu1 := zaT hr
 have hu80 := zaF hr
 have PO : ∀ {M : Model} {A : Around} {env : Env}, PassesOwn M A env (fun _ _ => False) := PassesOwn.never
 refine zaH ?_
 unfold zhV zf1
 exact (zap (zaC (PVN.pv (zcM ["word"] [0] ["word", "held"] rfl rfl (by kernel_rfl) rfl (by decide) (zdV (PVN.pv (zmD c_word_order hr rfl rfl B.zdq rfl (zad 0)))) (fun _ _ _ _ => (za0 (i := 0) (nd (M := ["word", "held"]) (by decide +kernel)) rfl (Or.inl rfl))) (by decide) (fun _ _ _ _ => zcL) (fun _ _ _ _ => (zey (zab (zad 0) (zab (zbU (ziE hu1) (zad 1) (zad 0)) zai))))))))
abbrev zeL : Stmt := top 20
theorem zkb {zaa : Tok} {zag : Tok} {zae : Addr} {zaj : Addr} {zaA : Addr} (h : Has K mg "add_times" zeL) (B : Blt mg) (C : Cst mg zaa zag zae zaj zaA) (c_add_term : Callee P w K mg base "add_term" 3 ["held", "word", "number"] (spF K [true, false, false] false zdg)) (c_times : Callee P w K mg base "times" 2 ["one", "other"] (spP K 2 false ze2)) : Callee P w K mg base "add_times" 4 ["held", "number", "other"] (spF K [true, false, false] false ze4) := by
 have S : zaz ["held", "number", "other", "word"] ["held", "number", "other"] (zao zeL) := ⟨rfl, rfl, rfl, by decide +kernel, rfl, by decide +kernel, by decide +kernel⟩
 refine (zaZ [true, false, false] false h S rfl (by decide) (fun _ _ _ _ _ _ us hl => match us, hl with | [_, _, _], _ => rfl) fun f cdv A outer s H E hr => ?_)
 have hu := hr.units
 have hu1 := zaT hr
 have hu80 := zaF hr
 have PO : ∀ {M : Model} {A : Around} {env : Env}, PassesOwn M A env (fun _ _ => False) := PassesOwn.never
 refine zaH ?_
 unfold zhe ze8 zfc
 exact (zap (zgz PO rfl (ziq (zad 2)) (za0 (i := 3) S.nd rfl (Or.inl rfl)) (zap (zdl (zdn (a := [.m 0, .v (eV 3), .v (zal ze2 (zac (eV 1) (zac (e2 ziL (eV 2) (eV 3)) zar)))]) c_add_term zdp (by decide) (by decide) hr rfl zas (zhJ 0 (pv 0) (zfg (zad 3) (zfg (zay c_times hr rfl zas (zab (zad 1) (zab (zbU (ziE hu1) (zad 2) (zad 3)) zai)) (zah (zah zaq))) zdm))))))))
abbrev zcV : Stmt := top 21
theorem zhv {zaa : Tok} {zag : Tok} {zae : Addr} {zaj : Addr} {zaA : Addr} (h : Has K mg "put_together" zcV) (B : Blt mg) (C : Cst mg zaa zag zae zaj zaA) (c_add_term : Callee P w K mg base "add_term" 3 ["held", "word", "number"] (spF K [true, false, false] false zdg)) (c_times : Callee P w K mg base "times" 2 ["one", "other"] (spP K 2 false ze2)) : Callee P w K mg base "put_together" 4 ["one", "other"] (spP K 2 true zbJ) := by
 have S : zaz ["one", "other", "held", "first", "second"] ["one", "other"] (zao zcV) := ⟨rfl, rfl, rfl, by decide +kernel, rfl, by decide +kernel, by decide +kernel⟩
 refine Callee.pure (zaZ (List.replicate 2 false) true h S rfl (by decide) (fun _ _ _ _ _ _ us hl => match us, hl with | [_, _], _ => rfl) fun f cdv A outer s H E hr => ?_)
 have hu := hr.units
 have hu1 := zaT hr
 have hu80 := zaF hr
 have PO : ∀ {M : Model} {A : Around} {env : Env}, PassesOwn M A env (fun _ _ => False) := PassesOwn.never
 refine zaH ?_
 unfold zeE zdC zdE zdD zdF
 exact (zan (zio (i := 2) S.nd rfl (Or.inl rfl) zmF)
   (zan (zgz PO rfl (ziq (zad 0)) (za0 (i := 3) S.nd rfl (Or.inl rfl)) (zap (zgz PO rfl (ziq (zad 1)) (za0 (i := 4) S.nd rfl (Or.inl rfl)) (zap (zdl (zdn (a := [.m 2, .v (e2 zbw (eV 3) (eV 4)), .v (zal ze2 (zac (e2 ziL (eV 0) (eV 3)) (zac (e2 ziL (eV 1) (eV 4)) zar)))]) c_add_term zdp (by decide) (by decide) hr rfl zas (zhJ 2 (pv 2) (zfg (zaN zc9 (zad 3) (zad 4)) (zfg (zay c_times hr rfl zas (zab (zbU (ziE hu1) (zad 0) (zad 3)) (zab (zbU (ziE hu1) (zad 1) (zad 4)) zai)) (zah (zah zaq))) zdm)))))))))
   (zap (zim 2 (pv 2)))))
abbrev zie : Stmt := top 37
theorem zo8 {zaa : Tok} {zag : Tok} {zae : Addr} {zaj : Addr} {zaA : Addr} (h : Has K mg "fallen" zie) (B : Blt mg) (C : Cst mg zaa zag zae zaj zaA) (c_refuse_word : Callee P w K mg base "refuse_word" 3 ["word"] (spP K 1 false zaJ)) (c_fallen_words : Callee P w K mg base "fallen_words" 2 ["word"] (spP K 1 true za9)) : Callee P w K mg base "fallen" 4 ["word"] (spP K 1 true zbL) := by
 have S : zaz ["word"] ["word"] (zao zie) := ⟨rfl, rfl, rfl, by decide +kernel, rfl, by decide +kernel, by decide +kernel⟩
 refine Callee.pure (zaZ (List.replicate 1 false) true h S rfl (by decide) (fun _ _ _ _ _ _ us hl => match us, hl with | [_], _ => rfl) fun f cdv A outer s H E hr => ?_)
 have hu := hr.units
 have hu1 := zaT hr
 have hu80 := zaF hr
 have PO : ∀ {M : Model} {A : Around} {env : Env}, PassesOwn M A env (fun _ _ => False) := PassesOwn.never
 refine zaH ?_
 unfold zfu
 exact (zan (zdl (zay c_refuse_word hr rfl zas (zab (zad 0) zai) (zah zaq)))
   (zap (zfe (zcq c_fallen_words hr rfl zas (zab (zad 0) zai) (zah zaq)))))
abbrev zeK : Stmt := top 30
theorem zka {zaa : Tok} {zag : Tok} {zae : Addr} {zaj : Addr} {zaA : Addr} (h : Has K mg "left_dict" zeK) (B : Blt mg) (C : Cst mg zaa zag zae zaj zaA) (c_put_together : Callee P w K mg base "put_together" 4 ["one", "other"] (spP K 2 true zbJ)) (c_add_times : Callee P w K mg base "add_times" 4 ["held", "number", "other"] (spF K [true, false, false] false ze4)) : Callee P w K mg base "left_dict" 5 ["one", "other"] (spP K 2 true ze3) := by
 have S : zaz ["one", "other", "held"] ["one", "other"] (zao zeK) := ⟨rfl, rfl, rfl, by decide +kernel, rfl, by decide +kernel, by decide +kernel⟩
 refine Callee.pure (zaZ (List.replicate 2 false) true h S rfl (by decide) (fun _ _ _ _ _ _ us hl => match us, hl with | [_, _], _ => rfl) fun f cdv A outer s H E hr => ?_)
 have hu := hr.units
 have hu1 := zaT hr
 have hu80 := zaF hr
 have PO : ∀ {M : Model} {A : Around} {env : Env}, PassesOwn M A env (fun _ _ => False) := PassesOwn.never
 refine zaH ?_
 unfold zhc
 exact (zan (zio (i := 2) S.nd rfl (Or.inl rfl) (zcq c_put_together hr rfl zas (zab (zad 0) (zab (zad 1) zai)) (zah (zah zaq))))
   (zan (zdl (zdn (a := [.m 2, .v (eC (.tuple [(.int (-1)), (.int 1)])), .v (zal zbJ (zac (eV 1) (zac (eV 0) zar)))]) c_add_times zdp (by decide) (by decide) hr rfl zas (zhJ 2 (pv 2) (zfg (zkM rfl C.zcA C.v_MINUS_ONE (fun _ => by simp [zak, Fz])) (zfg (PVN.pv (zcq c_put_together hr rfl zas (zab (zad 1) (zab (zad 0) zai)) (zah (zah zaq)))) zdm)))))
   (zap (zim 2 (pv 2)))))
abbrev zdR : Stmt := top 48
theorem zjp {zaa : Tok} {zag : Tok} {zae : Addr} {zaj : Addr} {zaA : Addr} (h : Has K mg "_law_drawn" zdR) (B : Blt mg) (C : Cst mg zaa zag zae zaj zaA) (c__law_take : Callee P w K mg base "_law_take" 2 ["_law_purse_here", "_law_many"] (spF K [true, false] false zaD)) (c_fallen : Callee P w K mg base "fallen" 4 ["word"] (spP K 1 true zbL)) : Callee P w K mg base "_law_drawn" 5 ["_law_purse_here"] (spF K [true] false zcj) := by
 have S : zaz ["_law_purse_here", "_law_letters", "_law_word"] ["_law_purse_here"] (zao zdR) := ⟨rfl, rfl, rfl, by decide +kernel, rfl, by decide +kernel, by decide +kernel⟩
 refine (zaZ [true] false h S rfl (by decide) (fun _ _ _ _ _ _ us hl => match us, hl with | [_], _ => rfl) fun f cdv A outer s H E hr => ?_)
 have hu := hr.units
 have hu1 := zaT hr
 have hu80 := zaF hr
 have PO : ∀ {M : Model} {A : Around} {env : Env}, PassesOwn M A env (fun _ _ => False) := PassesOwn.never
 refine zaH ?_
 unfold zcU zbG
 exact (zan (zbM (i := 1) S.nd rfl (Or.inr rfl) (zbU zet (PVN.pv (zdU (zab zam (zab zam zai)))) (zdn (a := [.m 0, .v (eC (.int 2))]) c__law_take zdp (by decide) (by decide) hr rfl zas (zhJ 0 (pv 0) (zfg zam zdm)))))
   (zan (zbM (i := 2) S.nd rfl (Or.inl rfl) (zaY (zmG (CallD.ds zrp) rfl B.zcZ Bt.tuple (zab (PVN.pv (zcM ["_law_place"] [0, 1] ["_law_place", "_law_purse_here", "_law_letters"] rfl rfl (by kernel_rfl) rfl (by decide) (zlB rfl B.zcx (zab (zaN zc9 zam (zdn (a := [.m 0, .v (eC (.int 5))]) c__law_take zdp (by decide) (by decide) hr rfl zas (zhJ 0 (pv 0) (zfg zam zdm)))) zai)) (fun _ _ _ _ => (za0 (i := 0) (nd (M := ["_law_place", "_law_purse_here", "_law_letters"]) (by decide +kernel)) rfl (Or.inl rfl))) (by decide) (fun _ _ _ _ => zcL) (fun _ _ _ _ => (zdn (a := [.m 1, .v (eV 2)]) c__law_take zdp (by decide) (by decide) hr rfl zas (zhJ 1 (pv 1) (zfg (zad 2) zdm)))))) zai))))
   (zap (zaC (zbU zet (PVN.pv (zcq c_fallen hr rfl zas (zab (zad 2) zai) (zah zaq))) zam)))))
abbrev zeJ : Stmt := top 31
theorem zgO {zaa : Tok} {zag : Tok} {zae : Addr} {zaj : Addr} {zaA : Addr} (h : Has K mg "said_dict" zeJ) (B : Blt mg) (C : Cst mg zaa zag zae zaj zaA) (c_left_dict : Callee P w K mg base "left_dict" 5 ["one", "other"] (spP K 2 true ze3)) : ∀ k : Nat, Callee P w K mg base "said_dict" (5 + k) ["tree"] (spP K 1 true (zbC k))
 | 0 => zeo h (fun _ _ _ _ _ _ us hl => match us, hl with | [_], _ => rfl) rfl
 | k + 1 => by
  have ih := zgO h B C c_left_dict k
  have S : zaz ["tree"] ["tree"] (zao zeJ) := ⟨rfl, rfl, rfl, by decide +kernel, rfl, by decide +kernel, by decide +kernel⟩
  show Callee P w K mg base "said_dict" (5 + k + 1) ["tree"] (spP K 1 true (zbo true 1 1 (zdw (zbC k))))
  refine Callee.pure (zaZ (List.replicate 1 false) true h S rfl (by decide) (fun _ _ _ _ _ _ us hl => match us, hl with | [_], _ => rfl) fun f cdv A outer s H E hr => ?_)
  have hu := hr.units
  have hu1 := zaT hr
  have hu80 := zaF hr
  have PO : ∀ {M : Model} {A : Around} {env : Env}, PassesOwn M A env (fun _ _ => False) := PassesOwn.never
  refine zaH ?_
  unfold zdw
  exact (zan (zbH (zdk (zbW zfb (zgB kit_tuple rfl B.zaL rfl B.zcZ Bt.tuple (zad 0)))) (zap (zfe (zmE hu1 (zey (zab (zad 0) zai)) (zkM rfl C.zm6 C.v_ONE (fun _ => by simp [zak, Fz]))))) zbd)
   (zap (zfe (zcq c_left_dict hr rfl zas (zab (PVN.pv (zcq (ih) hr rfl zas (zab (zbU zet (zad 0) zam) zai) (zah zaq) (hj := by omega))) (zab (PVN.pv (zcq (ih) hr rfl zas (zab (zbU zet (zad 0) zam) zai) (zah zaq) (hj := by omega))) zai)) (zah (zah zaq)) (hj := by omega)))))
abbrev zdO : Stmt := top 39
theorem zjm {zaa : Tok} {zag : Tok} {zae : Addr} {zaj : Addr} {zaA : Addr} (h : Has K mg "least_tree" zdO) (B : Blt mg) (C : Cst mg zaa zag zae zaj zaA) (c_refuse_word : Callee P w K mg base "refuse_word" 3 ["word"] (spP K 1 false zaJ)) (c_tree_of_least : Callee P w K mg base "tree_of_least" 7 ["word"] (spP K 1 false (zaI 6))) (c_is_least : Callee P w K mg base "is_least" 1 ["word"] (spP K 1 false zaP)) : Callee P w K mg base "least_tree" 9 ["word"] (spP K 1 false zbi) := by
 have S : zaz ["word"] ["word"] (zao zdO) := ⟨rfl, rfl, rfl, by decide +kernel, rfl, by decide +kernel, by decide +kernel⟩
 refine Callee.pure (zaZ (List.replicate 1 false) false h S rfl (by decide) (fun _ _ _ _ _ _ us hl => match us, hl with | [_], _ => rfl) fun f cdv A outer s H E hr => ?_)
 have hu := hr.units
 have hu1 := zaT hr
 have hu80 := zaF hr
 have PO : ∀ {M : Model} {A : Around} {env : Env}, PassesOwn M A env (fun _ _ => False) := PassesOwn.never
 refine zaH ?_
 unfold zcR
 exact (zan (zdl (zay c_refuse_word hr rfl zas (zab (zad 0) zai) (zah zaq)))
   (zan (zbH (zdk (zbW zfb (zay c_is_least hr rfl zas (zab (zad 0) zai) (zah zaq)))) (zap zff) zbd)
   (zap (zaC (zay (c_tree_of_least) hr rfl zas (zab (zad 0) zai) (zah zaq))))))
abbrev zdj : Stmt := top 29
theorem ziC {zaa : Tok} {zag : Tok} {zae : Addr} {zaj : Addr} {zaA : Addr} (h : Has K mg "refuse_tree" zdj) (B : Blt mg) (C : Cst mg zaa zag zae zaj zaA) (c_letters_in : Callee P w K mg base "letters_in" 8 ["tree", "count", "deep"] (spP K 3 false (zaM 6))) : Callee P w K mg base "refuse_tree" 10 ["tree", "count"] (spP K 2 false zb1) := by
 have S : zaz ["tree", "count", "many"] ["tree", "count"] (zao zdj) := ⟨rfl, rfl, rfl, by decide +kernel, rfl, by decide +kernel, by decide +kernel⟩
 refine Callee.pure (zaZ (List.replicate 2 false) false h S rfl (by decide) (fun _ _ _ _ _ _ us hl => match us, hl with | [_, _], _ => rfl) fun f cdv A outer s H E hr => ?_)
 have hu := hr.units
 have hu1 := zaT hr
 have hu80 := zaF hr
 have PO : ∀ {M : Model} {A : Around} {env : Env}, PassesOwn M A env (fun _ _ => False) := PassesOwn.never
 refine zaH ?_
 unfold zcs
 exact (zan (zbM (i := 2) S.nd rfl (Or.inl rfl) (zay (c_letters_in) hr rfl zas (zab (zad 0) (zab (zad 1) (zab (zaN zq0 (zgC (v := (.int 5)) rfl C.zbN ⟨_, rfl⟩ (fun _ => zcC _)) zam) zai))) (zah (zah (zah zaq)))))
   (zap (zbH (PVW.pvt (zex (za6 zuY (zad 2) zkL (zbh _)) (zeP (za6 (zun hu) (zad 2) (zgC (v := (.int 5)) rfl C.zbN ⟨_, rfl⟩ (fun _ => zcC _)) (zbh _))))) (zap zff) zbd)))
abbrev zmo : Stmt := top 32
theorem zsE {zaa : Tok} {zag : Tok} {zae : Addr} {zaj : Addr} {zaA : Addr} (h : Has K mg "said" zmo) (B : Blt mg) (C : Cst mg zaa zag zae zaj zaA) (c_refuse_letters : Callee P w K mg base "refuse_letters" 2 ["count"] (spP K 1 false zbm)) (c_refuse_tree : Callee P w K mg base "refuse_tree" 10 ["tree", "count"] (spP K 2 false zb1)) (c_told_sum : Callee P w K mg base "told_sum" 4 ["held"] (spP K 1 false zdf)) (c_said_dict : Callee P w K mg base "said_dict" 11 ["tree"] (spP K 1 true (zbC 6))) : Callee P w K mg base "said" 13 ["count", "tree"] (spP K 2 false zjH) := by
 have S : zaz ["count", "tree"] ["count", "tree"] (zao zmo) := ⟨rfl, rfl, rfl, by decide +kernel, rfl, by decide +kernel, by decide +kernel⟩
 refine Callee.pure (zaZ (List.replicate 2 false) false h S rfl (by decide) (fun _ _ _ _ _ _ us hl => match us, hl with | [_, _], _ => rfl) fun f cdv A outer s H E hr => ?_)
 have hu := hr.units
 have hu1 := zaT hr
 have hu80 := zaF hr
 have PO : ∀ {M : Model} {A : Around} {env : Env}, PassesOwn M A env (fun _ _ => False) := PassesOwn.never
 refine zaH ?_
 unfold zll
 exact (zan (zdl (zay c_refuse_letters hr rfl zas (zab (zad 0) zai) (zah zaq)))
   (zan (zdl (zay c_refuse_tree hr rfl zas (zab (zad 1) (zab (zad 0) zai)) (zah (zah zaq))))
   (zap (zaC (zay c_told_sum hr rfl zas (zab (PVN.pv (zcq (c_said_dict) hr rfl zas (zab (zad 1) zai) (zah zaq))) zai) (zah zaq))))))
abbrev zcm : Stmt := top 47
theorem zgf {zaa : Tok} {zag : Tok} {zae : Addr} {zaj : Addr} {zaA : Addr} (h : Has K mg "_law_said_well" zcm) (B : Blt mg) (C : Cst mg zaa zag zae zaj zaA) (c_said : Callee P w K mg base "said" 13 ["count", "tree"] (spP K 2 false zjH)) : Callee P w K mg base "_law_said_well" 14 ["_law_word", "_law_tree"] (spP K 2 false zbn) := by
 have S : zaz ["_law_word", "_law_tree", "_law_total", "_law_other", "_law_number"] ["_law_word", "_law_tree"] (zao zcm) := ⟨rfl, rfl, rfl, by decide +kernel, rfl, by decide +kernel, by decide +kernel⟩
 refine Callee.pure (zaZ (List.replicate 2 false) false h S rfl (by decide) (fun _ _ _ _ _ _ us hl => match us, hl with | [_, _], _ => rfl) fun f cdv A outer s H E hr => ?_)
 have hu := hr.units
 have hu1 := zaT hr
 have hu80 := zaF hr
 have PO : ∀ {M : Model} {A : Around} {env : Env}, PassesOwn M A env (fun _ _ => False) := PassesOwn.never
 refine zaH ?_
 unfold zbK zbr zbs
 exact (zan (zbM (i := 2) S.nd rfl (Or.inl rfl) (zay c_said hr rfl zas (zab zam (zab (zad 1) zai)) (zah (zah zaq))))
   (zan (zbH (PVW.pvt (zex (za6 (zq1 hu) (zad 2) (PVN.pv (zdU zai)) (zbh _)) (zeP (za6 (zpN hu) (zbU zet (zad 2) zam) (zey (zab (zad 0) (zab (zey (zab zam (zab zam zai))) zai))) (zbh _))))) (zap (zaC zjU)) zbd)
   (zan (zgz PO rfl (zdV (zbv zfd (zad 2) (zbt zam) zbu)) (zqA rfl (zi9 (za0 (i := 3) S.nd rfl (Or.inl rfl)) (zi9 (za0 (i := 4) S.nd rfl (Or.inl rfl)) zoB))) (zap (zbH (PVW.pvt (zex (za6 (zrx hu) (zad 3) (zad 0) (zbh _)) (zex (za6 (zpN hu) (zaY (zaO (CallD.ds zqb) rfl B.zdq Bt.sorted (zab (zad 3) zai))) (zaY (zaO (CallD.ds zqb) rfl B.zdq Bt.sorted (zab (zad 0) zai))) (zbh _)) (zeP (za6 (zq1 hu) (zbU zet (zad 4) zam) zam (zbh _)))))) (zap (zaC zjU)) zbd)))
   (zap (zaC zjU)))))
abbrev zlv : Stmt := top 49
theorem zu4 {fa : Addr} {fd : FuncData} {zaa : Tok} {zag : Tok} {zae : Addr} {zaj : Addr} {zaA : Addr} (h : Fun K "law" "law" zlv fa fd) (B : Blt mg) (C : Cst mg zaa zag zae zaj zaA) (c__law_drawn : Callee P w K mg base "_law_drawn" 5 ["_law_purse_here"] (spF K [true] false zcj)) (c_least_tree : Callee P w K mg base "least_tree" 9 ["word"] (spP K 1 false zbi)) (c__law_purse : Callee P w K mg base "_law_purse" 2 ["_law_cell", "_law_k"] (spP K 2 true zbj)) (c__law_is_least : Callee P w K mg base "_law_is_least" 1 ["_law_word"] (spP K 1 false zax)) (c__law_said_well : Callee P w K mg base "_law_said_well" 14 ["_law_word", "_law_tree"] (spP K 2 false zbn)) (c__law_due : Callee P w K mg base "_law_due" 7 ["_law_word"] (spP K 1 false (za3 6))) (c__law_at : Callee P w K mg base "_law_at" 1 ["_law_script", "_law_k"] (spP K 2 false zcH)) : zh1 P w K mg base (CXe P w) 15 fa fd ["_law_script"] (spP K 1 false zl8) := by
 have S : zaz ["_law_script", "_law_words", "_law_trees", "_law_word", "_law_tree"] ["_law_script"] (zao zlv) := ⟨rfl, rfl, rfl, by decide +kernel, rfl, by decide +kernel, by decide +kernel⟩
 refine zh1.pure (znF (List.replicate 1 false) false h S rfl (by decide) fun cdv A outer s H E hr => ?_)
 have hu := hr.units
 have hu1 := zaT hr
 have hu80 := zaF hr
 have PO : ∀ {M : Model} {A : Around} {env : Env}, PassesOwn M A env (fun _ _ => False) := PassesOwn.never
 refine zaH ?_
 unfold zl4 zih zfy zeG zeO
 exact (zan (zgj 1 (zgk 1 ["_law_cell"] [] ["_law_cell"] S.nd rfl rfl rfl rfl rfl (by kernel_rfl) rfl (by decide) (zdV (zaN zc9 (zbv zfd (zad 0) zbu (zbt zam)) (PVN.pv (zdU (zab (zay c__law_at hr rfl zas (zab (zad 0) (zab zam zai)) (zah (zah zaq))) zai))))) (fun _ _ _ _ => (za0 (i := 0) (nd (M := ["_law_cell"]) (by decide +kernel)) rfl (Or.inl rfl))) (by decide) (fun _ _ _ _ => zcL) (fun _ _ _ _ => (zdn (a := [.t (zal zbj (zac (eV 0) (zac (eC (.int 54)) zar)))]) c__law_drawn zdp (by decide) (by decide) hr rfl zas (zr1 (zcq c__law_purse hr rfl zas (zab (zad 0) (zab zam zai)) (zah (zah zaq))) zdm)))))
   (zan (zio (i := 2) S.nd rfl (Or.inl rfl) (zdU zai))
   (zan (zgz PO rfl (zdV (zad 1)) (za0 (i := 3) S.nd rfl (Or.inl rfl)) (zan (zbH (zdk (zbW zfb (zay c__law_is_least hr rfl zas (zab (zad 3) zai) (zah zaq)))) (zap (zaC zjU)) zbd)
   (zan (zbM (i := 4) S.nd rfl (Or.inl rfl) (zay c_least_tree hr rfl zas (zab (zad 3) zai) (zah zaq)))
   (zan (zbH (PVW.pvt (zex (za6 (zpN hu) (zad 4) (zay (c__law_due) hr rfl zas (zab (zad 3) zai) (zah zaq)) (zbh _)) (zex (za6 (zpN hu) (zgB kit_tuple rfl B.zaL rfl B.zcZ Bt.tuple (zad 4)) (zhK (zun hu) (zaY (zaO (CallD.ds zfP) rfl B.zdK Bt.len (zab (zad 3) zai))) zam (zbh _)) (zbh _)) (zeP (zbW zfb (zgB zkX rfl B.zaL rfl B.zgI Bt.bool (zad 4))))))) (zap (zaC zjU)) zbd)
   (zan (zbH (zdk (zbW zfb (zay c__law_said_well hr rfl zas (zab (zad 3) (zab (zad 4) zai)) (zah (zah zaq))))) (zap (zaC zjU)) zbd)
   (zap (zhI 2 rfl (pv 2) (zad 4))))))))
   (zap (zaC (zhK (zq1 hu) (PVN.pv (zcM ["_law_word"] [] ["_law_word"] rfl rfl (by kernel_rfl) rfl (by decide) (zdV (PVN.pv (zqz (zad 1) zsf))) (fun _ _ _ _ => (za0 (i := 0) (nd (M := ["_law_word"]) (by decide +kernel)) rfl (Or.inl rfl))) (by decide) (fun _ _ _ _ => zcL) (fun _ _ _ _ => (zay c_least_tree hr rfl zas (zab (zad 0) zai) (zah zaq))))) (PVN.pv (zoA 2 (pv 2) zsf)) (zbh _)))))))
end
end K54
namespace K54
open PySem L2 PySem.Spec FL
open PyProof.Rows hiding St
theorem all_mk {l : PySem.W.OpenLaw} {w : World} {K : PySem.W.Frag} {h : Heap} {mg : Str -> Option Value} {fa : Addr} (X : K.In h) (G : h.Ns mainGlobals mg) (hfa : mg "law" = some (.ref fa))
  {zaa : Tok} {zag : Tok} {zae : Addr} {zaj : Addr} {zaA : Addr}
  {ou_MINUS_ONE : Option Addr} {nn_MINUS_ONE : Nat} {su_MINUS_ONE : Array (Option Value)} {k0_MINUS_ONE k1_MINUS_ONE : Tok}
  {ou_NOUGHT : Option Addr} {nn_NOUGHT : Nat} {su_NOUGHT : Array (Option Value)} {k0_NOUGHT k1_NOUGHT : Tok}
  {ou_ONE : Option Addr} {nn_ONE : Nat} {su_ONE : Array (Option Value)} {k0_ONE k1_ONE : Tok}
  (zfV : Has K mg "is_whole" zfA)
  (zco : Has K mg "common_divisor" zcl)
  (zd8 : Has K mg "word_order" zdM)
  (zfW : Has K mg "is_least" zfB)
  (zec : Has K mg "_law_mixed" zdQ)
  (zhg : Has K mg "_law_at" zgv)
  (zcF : Has K mg "_law_is_least" zcv)
  (zob : Has K mg "plus" zmp)
  (zku : Has K mg "times" zjR)
  (zhf : Has K mg "is_word" zgu)
  (zcn : Has K mg "refuse_letters" zck)
  (ziQ : Has K mg "is_way" zid)
  (zc3 : Has K mg "fallen_words" zcW)
  (zcE : Has K mg "tree_of_least" zcu)
  (zeb : Has K mg "_law_purse" zdP)
  (zeZ : Has K mg "_law_take" zeM)
  (zfY : Has K mg "_law_due" zfD)
  (zfX : Has K mg "add_term" zfC)
  (zd9 : Has K mg "letters_in" zdN)
  (zdz : Has K mg "refuse_word" zdi)
  (zfU : Has K mg "told_sum" zfz)
  (zeY : Has K mg "add_times" zeL)
  (zc2 : Has K mg "put_together" zcV)
  (ziR : Has K mg "fallen" zie)
  (zeX : Has K mg "left_dict" zeK)
  (zed : Has K mg "_law_drawn" zdR)
  (zeW : Has K mg "said_dict" zeJ)
  (zea : Has K mg "least_tree" zdO)
  (zdA : Has K mg "refuse_tree" zdj)
  (zoa : Has K mg "said" zmo)
  (zcp : Has K mg "_law_said_well" zcm)
  (zrv : Has K mg "law" zlv)
  (zbp : PySem.W.nsIn K mainGlobals "MOST_LETTERS" = some (some (.int 4 zaa)))
  (zbN : PySem.W.nsIn K mainGlobals "MOST_LONG" = some (some (.int 5 zag)))
  (zcA : PySem.W.nsIn K mainGlobals "MINUS_ONE" = some (some (.ref zae)))
  (zeR : K.lookup zae = some ⟨.type "tuple", ou_MINUS_ONE, .seq #[.int (-1) k0_MINUS_ONE, .int 1 k1_MINUS_ONE] nn_MINUS_ONE, su_MINUS_ONE⟩)
  (zei : PySem.W.nsIn K mainGlobals "NOUGHT" = some (some (.ref zaj)))
  (ziA : K.lookup zaj = some ⟨.type "tuple", ou_NOUGHT, .seq #[.int 0 k0_NOUGHT, .int 1 k1_NOUGHT] nn_NOUGHT, su_NOUGHT⟩)
  (zm6 : PySem.W.nsIn K mainGlobals "ONE" = some (some (.ref zaA)))
  (zq8 : K.lookup zaA = some ⟨.type "tuple", ou_ONE, .seq #[.int 1 k0_ONE, .int 1 k1_ONE] nn_ONE, su_ONE⟩)
  (zj1 : PySem.W.nsIn K mainGlobals "abs" = some none)
  (zaL : PySem.W.nsIn K mainGlobals "isinstance" = some none)
  (zlH : PySem.W.nsIn K mainGlobals "int" = some none)
  (zgI : PySem.W.nsIn K mainGlobals "bool" = some none)
  (zcZ : PySem.W.nsIn K mainGlobals "tuple" = some none)
  (zjf : PySem.W.nsIn K mainGlobals "list" = some none)
  (zo0 : PySem.W.nsIn K mainGlobals "str" = some none)
  (zdK : PySem.W.nsIn K mainGlobals "len" = some none)
  (zj0 : PySem.W.nsIn K mainGlobals "all" = some none)
  (zcx : PySem.W.nsIn K mainGlobals "range" = some none)
  (zmX : PySem.W.nsIn K mainGlobals "zip" = some none)
  (zcy : PySem.W.nsIn K mainGlobals "enumerate" = some none)
  (zm0 : PySem.W.nsIn K mainGlobals "max" = some none)
  (zmZ : PySem.W.nsIn K mainGlobals "min" = some none)
  (zmY : PySem.W.nsIn K mainGlobals "sum" = some none)
  (zdq : PySem.W.nsIn K mainGlobals "sorted" = some none)
  (zkT : PySem.W.nsIn K mainGlobals "dict" = some none)
  (zo1 : PySem.W.nsIn K mainGlobals "any" = some none) :
  ∃ (cl : CL) (fd : FuncData), ziW cl K /\ (∀ (s : Shared) (v : Value), BindsTo s fd ⟨[v], []⟩ [("_law_script", v)]) /\ ∀ base : Heap, (zfx (cl.map (·.1)) K).In base -> base.Ns mainGlobals mg -> zh1 l.prog w (zfx (cl.map (·.1)) K) mg base (CXe l.prog w) 15 fa fd ["_law_script"] (@spP (zrB cl) (zfx (cl.map (·.1)) K) 1 false zl8) := by
 obtain ⟨f, fd, hm, Fl⟩ := id zrv
 have e := hfa.symm.trans hm
 cases e
 obtain ⟨oc, od, kV, dc, pm, an, cd, ct, sl, rfl, lk, hcd⟩ := id Fl.ex
 have hC : ziW [(zae, ⟨.type "tuple", ou_MINUS_ONE, .seq #[.int (-1) k0_MINUS_ONE, .int 1 k1_MINUS_ONE] nn_MINUS_ONE, su_MINUS_ONE⟩, [.int (-1), .int 1]), (zaj, ⟨.type "tuple", ou_NOUGHT, .seq #[.int 0 k0_NOUGHT, .int 1 k1_NOUGHT] nn_NOUGHT, su_NOUGHT⟩, [.int 0, .int 1]), (zaA, ⟨.type "tuple", ou_ONE, .seq #[.int 1 k0_ONE, .int 1 k1_ONE] nn_ONE, su_ONE⟩, [.int 1, .int 1])] K := (ziW.cons zeR (.cons ⟨_, rfl⟩ (.cons ⟨_, rfl⟩ (.nil))) (by decide) (ziW.cons ziA (.cons ⟨_, rfl⟩ (.cons ⟨_, rfl⟩ (.nil))) (by decide) (ziW.cons zq8 (.cons ⟨_, rfl⟩ (.cons ⟨_, rfl⟩ (.nil))) (by decide) ziW.nil)))
 refine ⟨_, PySem.W.fnOf "law" "law" (zd5 zlv) (zcD zlv) (zao zlv) .none kV dc pm an cd ct, hC, fun s v => .of_eq rfl, fun base _ _ => ?_⟩
 have B : Blt mg := ⟨PySem.W.mg_none_of X G zj1, PySem.W.mg_none_of X G zaL, PySem.W.mg_none_of X G zlH, PySem.W.mg_none_of X G zgI, PySem.W.mg_none_of X G zcZ, PySem.W.mg_none_of X G zjf, PySem.W.mg_none_of X G zo0, PySem.W.mg_none_of X G zdK, PySem.W.mg_none_of X G zj0, PySem.W.mg_none_of X G zcx, PySem.W.mg_none_of X G zmX, PySem.W.mg_none_of X G zcy, PySem.W.mg_none_of X G zm0, PySem.W.mg_none_of X G zmZ, PySem.W.mg_none_of X G zmY, PySem.W.mg_none_of X G zdq, PySem.W.mg_none_of X G zkT, PySem.W.mg_none_of X G zo1⟩
 letI : Cs := zrB [(zae, ⟨.type "tuple", ou_MINUS_ONE, .seq #[.int (-1) k0_MINUS_ONE, .int 1 k1_MINUS_ONE] nn_MINUS_ONE, su_MINUS_ONE⟩, [.int (-1), .int 1]), (zaj, ⟨.type "tuple", ou_NOUGHT, .seq #[.int 0 k0_NOUGHT, .int 1 k1_NOUGHT] nn_NOUGHT, su_NOUGHT⟩, [.int 0, .int 1]), (zaA, ⟨.type "tuple", ou_ONE, .seq #[.int 1 k0_ONE, .int 1 k1_ONE] nn_ONE, su_ONE⟩, [.int 1, .int 1])]
 have C : Cst mg zaa zag zae zaj zaA := ⟨PySem.W.mg_of X G zbp, PySem.W.mg_of X G zbN, PySem.W.mg_of X G zcA, znw hC (List.Mem.head _), PySem.W.mg_of X G zei, znw hC (List.Mem.tail _ (List.Mem.head _)), PySem.W.mg_of X G zm6, znw hC (List.Mem.tail _ (List.Mem.tail _ (List.Mem.head _)))⟩
 have d_is_whole := zlT (P := l.prog) (w := w) (base := base) (zfV.cut hC.seqs) B C
 have d_common_divisor := zge (P := l.prog) (w := w) (base := base) (zco.cut hC.seqs) B C
 have d_word_order := zjl (P := l.prog) (w := w) (base := base) (zd8.cut hC.seqs) B C
 have d_is_least := zlU (P := l.prog) (w := w) (base := base) (zfW.cut hC.seqs) B C
 have d__law_mixed := zjo (P := l.prog) (w := w) (base := base) (zec.cut hC.seqs) B C
 have d__law_at := znp (P := l.prog) (w := w) (base := base) (zhg.cut hC.seqs) B C
 have d__law_is_least := zgP (P := l.prog) (w := w) (base := base) (zcF.cut hC.seqs) B C
 have d_plus := zsF (P := l.prog) (w := w) (base := base) (zob.cut hC.seqs) B C d_common_divisor
 have d_times := zra (P := l.prog) (w := w) (base := base) (zku.cut hC.seqs) B C d_common_divisor
 have d_is_word := zno (P := l.prog) (w := w) (base := base) (zhf.cut hC.seqs) B C d_is_whole
 have d_refuse_letters := zgd (P := l.prog) (w := w) (base := base) (zcn.cut hC.seqs) B C d_is_whole
 have d_is_way := zo7 (P := l.prog) (w := w) (base := base) (ziQ.cut hC.seqs) B C d_is_whole
 have d_fallen_words := zhw (P := l.prog) (w := w) (base := base) (zc3.cut hC.seqs) B C d_is_least
 have d_tree_of_least := zd1 (P := l.prog) (w := w) (base := base) (zcE.cut hC.seqs) B C d_is_least 6
 have d__law_purse := zjn (P := l.prog) (w := w) (base := base) (zeb.cut hC.seqs) B C d__law_mixed
 have d__law_take := zkc (P := l.prog) (w := w) (base := base) (zeZ.cut hC.seqs) B C d__law_mixed
 have d__law_due := zhQ (P := l.prog) (w := w) (base := base) (zfY.cut hC.seqs) B C d__law_is_least 6
 have d_add_term := zlV (P := l.prog) (w := w) (base := base) (zfX.cut hC.seqs) B C d_plus
 have d_letters_in := zf3 (P := l.prog) (w := w) (base := base) (zd9.cut hC.seqs) B C d_is_way 6
 have d_refuse_word := ziB (P := l.prog) (w := w) (base := base) (zdz.cut hC.seqs) B C d_is_word
 have d_told_sum := zlS (P := l.prog) (w := w) (base := base) (zfU.cut hC.seqs) B C d_word_order
 have d_add_times := zkb (P := l.prog) (w := w) (base := base) (zeY.cut hC.seqs) B C d_add_term d_times
 have d_put_together := zhv (P := l.prog) (w := w) (base := base) (zc2.cut hC.seqs) B C d_add_term d_times
 have d_fallen := zo8 (P := l.prog) (w := w) (base := base) (ziR.cut hC.seqs) B C d_refuse_word d_fallen_words
 have d_left_dict := zka (P := l.prog) (w := w) (base := base) (zeX.cut hC.seqs) B C d_put_together d_add_times
 have d__law_drawn := zjp (P := l.prog) (w := w) (base := base) (zed.cut hC.seqs) B C d__law_take d_fallen
 have d_said_dict := zgO (P := l.prog) (w := w) (base := base) (zeW.cut hC.seqs) B C d_left_dict 6
 have d_least_tree := zjm (P := l.prog) (w := w) (base := base) (zea.cut hC.seqs) B C d_refuse_word d_tree_of_least d_is_least
 have d_refuse_tree := ziC (P := l.prog) (w := w) (base := base) (zdA.cut hC.seqs) B C d_letters_in
 have d_said := zsE (P := l.prog) (w := w) (base := base) (zoa.cut hC.seqs) B C d_refuse_letters d_refuse_tree d_told_sum d_said_dict
 have d__law_said_well := zgf (P := l.prog) (w := w) (base := base) (zcp.cut hC.seqs) B C d_said
 have d_law := zu4 (P := l.prog) (w := w) (base := base) (Fun.cut hC.seqs Fl) B C d__law_drawn d_least_tree d__law_purse d__law_is_least d__law_said_well d__law_due d__law_at
 exact d_law
theorem walk {l : PySem.W.OpenLaw} {q : Program} {loose : List Str} {XP : (Str -> Option Value) -> Heap -> Prop} {YP : World -> Heap -> Prop} {d : DefRec} {K : Params -> PySem.W.Frag} (hlaw : ∀ ns : List Int, ns.length <= 63 -> zl8 [.list (ns.map PyData.int)] = .ok (.bool true)) (hn : l.most = some 63) (hdf : d.params.defaults = [])
  (hY : ∀ (w : World) (h : Heap), YP w h -> (K w.params).In h)
  (F : ∀ (w : World) (mg : Str -> Option Value) (fa : Addr) (h : Heap), (K w.params).In h -> h.Ns mainGlobals mg -> mg d.name = some (.ref fa) ->
   ∃ (cl : CL) (fd : FuncData), ziW cl (K w.params) /\ (∀ (s : Shared) (u : Value), BindsTo s fd ⟨[u], []⟩ [("_law_script", u)]) /\ ∀ base : Heap, (zfx (cl.map (·.1)) (K w.params)).In base -> base.Ns mainGlobals mg -> zh1 l.prog w (zfx (cl.map (·.1)) (K w.params)) mg base (CXe l.prog w) 15 fa fd ["_law_script"] (@spP (zrB cl) (zfx (cl.map (·.1)) (K w.params)) 1 false zl8)) :
  PySem.W.WalkO q loose XP YP l.row.toRowW d [] (fun f vs => PySem.call f vs) :=
 zon (k := 15) (x := "_law_script") hlaw hn hdf ⟨rfl, by decide, by decide⟩ hY F
end K54
namespace K54
open PySem FL
open K53 (least zce fall ups zb7 zcf zfo zpt most)
theorem zsL : zaP = K53.zaP := rfl
theorem zsx : zax = K53.zax := rfl
theorem zvs : zbL = K53.zbL := rfl
theorem zuG : zaJ = K53.zaJ := rfl
theorem zvC : zcH = zuu := rfl
theorem zoF : zbj = ziS := rfl
theorem zjP : zaD = zlp := rfl
theorem zuw : zdf = zhZ := rfl
theorem zrS : ∀ k, zbC k = zbB k
 | 0 => rfl
 | k + 1 => by
  show zbo true 1 1 (zdw (zbC k)) = zbo true 1 1 (zbT (zbB k))
  rw [zrS k]; rfl
theorem zm4 : ∀ {l : List Int}, l ≠ [] -> ∃ m ∈ l, zoi l = some m := fun {l} h => by
 cases l with
 | nil => exact absurd rfl h
 | cons x xs =>
  refine ⟨_, ?_, rfl⟩
  have key : ∀ (xs : List Int) (x : Int), xs.foldl (fun m y => if y < m then y else m) x ∈ x :: xs := by
   intro xs
   induction xs with
   | nil => intro x; simp
   | cons y ys ih =>
    intro x
    rw [List.foldl_cons]
    by_cases hlt : y < x
    ·rw [if_pos hlt]; exact List.mem_cons_of_mem _ (ih y)
    ·rw [if_neg hlt]
     rcases List.mem_cons.mp (ih x) with h | h
     ·rw [h]; exact List.mem_cons_self ..
     ·exact List.mem_cons_of_mem _ (List.mem_cons_of_mem _ h)
  exact key xs x
def zfq (p : List Int -> Bool) (w : List Int) : List Int := (ups (w.length - 1)).filter fun i => p (w.drop i.toNat)
theorem zpG (F : List D -> R D) (p : List Int -> Bool) (hF : ∀ w : List Int, w.length <= 100 -> F [tp w] = .ok (.bool (p w))) (w : List Int) (hw : w.length <= 100) (s1 : Sl) :
  (zbY 1 [0] (iR2 (zac (eC (.int 1)) (zac (e1 zc4 (eV 0)) zar))) (gN 0) (tE (zal F (zac (eSl (eV 1) (za4 (eV 0)) zbb) zar))) (eV 0)) [.val (tp w), s1] = .ok (.list ((zfq p w).map PyData.int), [.val (tp w), s1]) := by
 rw [zem (items := (ups (w.length - 1)).map PyData.int) (fun d => match d with | .int i => p (w.drop i.toNat) | _ => false) id]
 ·rw [List.map_id, List.filter_map]
  rfl
 ·simp only [iR2, zac, eC, FL.e1, eV, zc4, zar, zaf, List.getElem?_cons_zero, List.length_map]
  rw [zeg (by omega) (by omega) (by omega) (by omega)]
  have : rng 1 (w.length : Int) = (ups (w.length - 1)).map PyData.int := by
   rw [zgy]; unfold ups
   rw [show ((w.length : Int) - 1).toNat = w.length - 1 by omega]
  rw [this]
  rfl
 ·simp [ups, lim]; omega
 ·intro x hx
  obtain ⟨i, hm, rfl⟩ := List.mem_map.mp hx
  obtain ⟨i1, i2⟩ := K53.zj4 hm
  have hc : cut w (some i) none = w.drop i.toNat := by
   have := zcQ w i.toNat (by omega)
   rw [show ((i.toNat : Nat) : Int) = i by omega] at this
   exact this
  have hl := hF (w.drop i.toNat) (by rw [List.length_drop]; omega)
  refine ⟨[.val (.int i), .val (tp w)], rfl, ?_, fun _ => rfl, ?_⟩
  ·simp only [tE, zal, zac, eSl, eV, List.getElem?_cons_succ, List.getElem?_cons_zero, za4, zbb, zc5, zaf, zc0, hc, zar, zia]
   rw [show PyData.tuple ((w.drop i.toNat).map PyData.int) = tp (w.drop i.toNat) from rfl, hl]
   rfl
  ·show bkL [(0, Sl.val (tp w))] 0 _ = _
   exact zdv (fun i p d e => by
    rw [List.lookup_cons] at e
    split at e <;> simp at e) _ 0
theorem znQ (p : List Int -> Bool) (hp : ∀ a, p [a] = true) {w : List Int} (h1 : 1 <= w.length) (hl : w.length ≠ 1) : zfq p w ≠ [] := by
 have hm : ((w.length - 1 : Nat) : Int) ∈ zfq p w := by
  unfold zfq
  refine List.mem_filter.mpr ⟨?_, ?_⟩
  ·unfold ups
   exact List.mem_map.mpr ⟨w.length - 2, List.mem_range.mpr (by omega), by omega⟩
  ·have hd : (w.drop (w.length - 1)).length = 1 := by rw [List.length_drop]; omega
   obtain ⟨a, ha⟩ := List.length_eq_one_iff.mp hd
   show p (w.drop ((w.length - 1 : Nat) : Int).toNat) = true
   rw [show ((w.length - 1 : Nat) : Int).toNat = w.length - 1 by omega, ha]
   exact hp a
 intro h
 rw [h] at hm
 cases hm
def zlh (w : List Int) : Nat := match zoi (zfq least w) with
 | some m => m.toNat
 | none => 0
def zkj (w : List Int) : Nat := match zfq zce w with
 | m :: _ => m.toNat
 | [] => 0
def plT (c : List Int -> Nat) : Nat -> List Int -> Tr
 | 0, w => .leaf (w.headD 0)
 | k + 1, w => if w.length = 1 then .leaf (w.headD 0) else .node (plT c k (w.take (c w))) (plT c k (w.drop (c w)))
theorem zjM : ∀ (k : Nat) (w : List Int), 1 <= w.length -> w.length <= k -> w.length <= 100 -> zaI k [tp w] = .ok (trD (plT zlh k w))
 | 0, w, h1, h2, _ => by omega
 | k + 1, w, h1, h2, h3 => by
  by_cases hl : w.length = 1
  ·obtain ⟨a, rfl⟩ := List.length_eq_one_iff.mp hl
   rfl
  ·obtain ⟨m, hm, em⟩ := zm4 (znQ least (fun _ => rfl) h1 hl)
   obtain ⟨m1, m2⟩ := K53.zj4 (List.mem_filter.mp hm).1
   have hcm : zlh w = m.toNat := by unfold zlh; rw [em]
   have hmn : m = (m.toNat : Int) := by omega
   have hpl : plT zlh (k + 1) w = .node (plT zlh k (w.take (zlh w))) (plT zlh k (w.drop (zlh w))) := if_neg hl
   rw [hpl, hcm]
   generalize hM : m.toNat = M at hmn
   have M1 : 1 <= M := by omega
   have M2 : M < w.length := by omega
   have l1 : (w.take M).length = M := by rw [List.length_take]; omega
   have l2 : (w.drop M).length = w.length - M := List.length_drop
   have t1 := zjM k (w.take M) (by omega) (by omega) (by omega)
   have t2 := zjM k (w.drop M) (by omega) (by omega) (by omega)
   have hq : zb3 (zaI k) [.val (tp w), .no] = .ok (.list ((zfq least w).map PyData.int), [.val (tp w), .no]) := zpG zaP least (fun w hw => by rw [zsL]; exact zb7 w hw) w h3 .no
   have c1 : cut w none (some m) = w.take M := by rw [hmn]; exact zg6 w M
   have c2 : cut w (some m) none = w.drop M := by rw [hmn]; exact zcQ w M (by omega)
   have he : eqD (.int (w.length : Int)) (.int 1) = .ok (.bool false) := by rw [ziJ, decide_eq_false (by omega)]
   have hmin : minD (.list ((zfq least w).map PyData.int)) = .ok (.int m) := by
    show (R.of (intsOf ((zfq least w).map PyData.int))).bind _ = _
    rw [zbS]
    show (R.of (zoi (zfq least w))).bind _ = _
    rw [em]; rfl
   have l3 : leB 2 lim = true := by decide
   have hb : zby (zaI k) [.val (tp w), .no] = .ok (.rt (.tuple [trD (plT zlh k (w.take M)), trD (plT zlh k (w.drop M))]), [.val (tp w), .val (.int m)]) := by
    have t1' : zaI k [.tuple ((w.take M).map PyData.int)] = .ok (trD (plT zlh k (w.take M))) := t1
    have t2' : zaI k [.tuple ((w.drop M).map PyData.int)] = .ok (trD (plT zlh k (w.drop M))) := t2
    simp only [zby, zaB, sIf, tB, FL.e2, FL.e1, eV, List.getElem?_cons_zero, zc4, zaf, List.length_map, eC, he, zaX, ixD, sNx, Bool.false_eq_true, if_false, zbD, gN, zek, zac, zal, eSl, zbb, za4, zc5, zar, hq, hmin, List.getElem?_cons_succ, List.set_cons_succ, List.set_cons_zero, zc0, c1, t1', c2, t2', List.length_cons, List.length_nil, Nat.reduceAdd, zaQ l3]
   exact zcw (k := 1) (n := 2) (ds := [tp w]) rfl hb
theorem znK : ∀ (k : Nat) (w : List Int), 1 <= w.length -> w.length <= k -> w.length <= 100 -> za3 k [tp w] = .ok (trD (plT zkj k w))
 | 0, w, h1, h2, _ => by omega
 | k + 1, w, h1, h2, h3 => by
  by_cases hl : w.length = 1
  ·obtain ⟨a, rfl⟩ := List.length_eq_one_iff.mp hl
   rfl
  ·have hne := znQ zce (fun a => by simp [zce, K53.zpF]) h1 hl
   obtain ⟨m, r, ec⟩ : ∃ m r, zfq zce w = m :: r := by
    cases h : zfq zce w with
    | nil => exact absurd h hne
    | cons m r => exact ⟨m, r, rfl⟩
   have hm : m ∈ zfq zce w := by rw [ec]; exact List.mem_cons_self ..
   obtain ⟨m1, m2⟩ := K53.zj4 (List.mem_filter.mp hm).1
   have hcm : zkj w = m.toNat := by unfold zkj; rw [ec]
   have hmn : m = (m.toNat : Int) := by omega
   have hpl : plT zkj (k + 1) w = .node (plT zkj k (w.take (zkj w))) (plT zkj k (w.drop (zkj w))) := if_neg hl
   rw [hpl, hcm]
   generalize hM : m.toNat = M at hmn
   have M1 : 1 <= M := by omega
   have M2 : M < w.length := by omega
   have l1 : (w.take M).length = M := by rw [List.length_take]; omega
   have l2 : (w.drop M).length = w.length - M := List.length_drop
   have t1 := znK k (w.take M) (by omega) (by omega) (by omega)
   have t2 := znK k (w.drop M) (by omega) (by omega) (by omega)
   have hq : zdT (za3 k) [.val (tp w), .no] = .ok (.list ((zfq zce w).map PyData.int), [.val (tp w), .no]) := zpG zax zce (fun w hw => by rw [zsx]; exact zcf w hw) w h3 .no
   have c1 : cut w none (some m) = w.take M := by rw [hmn]; exact zg6 w M
   have c2 : cut w (some m) none = w.drop M := by rw [hmn]; exact zcQ w M (by omega)
   have he : eqD (.int (w.length : Int)) (.int 1) = .ok (.bool false) := by rw [ziJ, decide_eq_false (by omega)]
   have x0 : R.of (FL.atI (PyData.int m :: r.map PyData.int) 0) = .ok (.int m) := by
    unfold FL.atI FL.ixN
    rw [if_pos (by decide), if_pos (by rw [List.length_cons]; omega)]
    rfl
   have l3 : leB 2 lim = true := by decide
   rw [ec] at hq
   have hb : zdd (za3 k) [.val (tp w), .no] = .ok (.rt (.tuple [trD (plT zkj k (w.take M)), trD (plT zkj k (w.drop M))]), [.val (tp w), .val (.list ((m :: r).map PyData.int))]) := by
    have t1' : za3 k [.tuple ((w.take M).map PyData.int)] = .ok (trD (plT zkj k (w.take M))) := t1
    have t2' : za3 k [.tuple ((w.drop M).map PyData.int)] = .ok (trD (plT zkj k (w.drop M))) := t2
    simp only [zdd, zaB, sIf, tB, FL.e2, FL.e1, eV, List.getElem?_cons_zero, zc4, zaf, List.length_map, eC, he, zaX, ixD, sNx, Bool.false_eq_true, if_false, zga, ze6, zek, zac, zal, eSl, zbb, za4, zc5, zar, hq, List.map_cons, List.getElem?_cons_succ, List.set_cons_succ, List.set_cons_zero, x0, zc0, c1, t1', c2, t2', List.length_cons, List.length_nil, Nat.reduceAdd, zaQ l3]
   exact zcw (k := 1) (n := 2) (ds := [tp w]) rfl hb
end K54
namespace K54
open PySem FL
open K53 (least zce fall ups)
def okL : Tr -> Bool
 | .leaf i => decide (0 <= i) && decide (i < 4)
 | .node a b => okL a && okL b
def zpM : Tr -> Bool
 | .leaf _ => true
 | .node a b => zpM a && zpM b && decide (nB a + nB b <= 1000) && Nat.ble (2 * (lB a * lB b) + 1) 1000000 && Nat.ble (lB a * lB b * (mB a * mB b) * (1 + lB a * lB b) + mB a * mB b + mB a + mB b) 1000000000000
def isN : Tr -> Bool
 | .leaf _ => false
 | .node _ _ => true
def zol (v : List Int) (s : Sm) : Bool := match s with
 | [] => false
 | p :: r => decide (p.1 = v) && decide (p.2 = 1) && r.all fun q => !lexLe q.1 v && decide (zcg q.1 = zcg v) && !decide (q.2.num = 0) && decide (q.1.length < 64)
def FF (v : List Int) : Bool :=
 let t := plT zlh 6 v
 zce v && decide (t = plT zkj 6 v) && decide (dep t <= 4) && okL t && decide (nB t <= 5) && zpM t && decide (lB t < 64) && (isN t == decide (1 < v.length)) && zol v (zdS (zcX t))
def zat : Nat -> List (List Int)
 | 0 => [[]]
 | n + 1 => [] :: ([0, 1, 2, 3] : List Int).flatMap fun a => (zat n).map (a :: ·)
theorem zfj : ∀ (n : Nat) (w : List Int), w.length <= n -> (∀ x ∈ w, 0 <= x /\ x < 4) -> w ∈ zat n
 | 0, [], _, _ => List.mem_singleton.mpr rfl
 | n + 1, [], _, _ => List.mem_cons_self ..
 | n + 1, a :: w, h, hx => by
  refine List.mem_cons_of_mem _ (List.mem_flatMap.mpr ⟨a, ?_, List.mem_map.mpr ⟨w, zfj n w (by simpa using h) fun x m => hx x (List.mem_cons_of_mem _ m), rfl⟩⟩)
  obtain ⟨h0, h1⟩ := hx a (List.mem_cons_self ..)
  have : a = 0 \/ a = 1 \/ a = 2 \/ a = 3 := by omega
  rcases this with rfl | rfl | rfl | rfl <;> decide
def zbc (v : List Int) : Bool := !least v || FF v
theorem ztW : ((zat 2).all fun w => zbc (0 :: 0 :: 0 :: w)) = true := by decide +kernel
theorem ztV : ((zat 2).all fun w => zbc (0 :: 0 :: 1 :: w)) = true := by decide +kernel
theorem ztU : ((zat 2).all fun w => zbc (0 :: 0 :: 2 :: w)) = true := by decide +kernel
theorem ztT : ((zat 2).all fun w => zbc (0 :: 0 :: 3 :: w)) = true := by decide +kernel
theorem zvr : zbc [0, 0] = true := by decide +kernel
theorem ztS : ((zat 2).all fun w => zbc (0 :: 1 :: 0 :: w)) = true := by decide +kernel
theorem ztR : ((zat 2).all fun w => zbc (0 :: 1 :: 1 :: w)) = true := by decide +kernel
theorem ztQ : ((zat 2).all fun w => zbc (0 :: 1 :: 2 :: w)) = true := by decide +kernel
theorem ztP : ((zat 2).all fun w => zbc (0 :: 1 :: 3 :: w)) = true := by decide +kernel
theorem zvq : zbc [0, 1] = true := by decide +kernel
theorem ztO : ((zat 2).all fun w => zbc (0 :: 2 :: 0 :: w)) = true := by decide +kernel
theorem ztN : ((zat 2).all fun w => zbc (0 :: 2 :: 1 :: w)) = true := by decide +kernel
theorem ztM : ((zat 2).all fun w => zbc (0 :: 2 :: 2 :: w)) = true := by decide +kernel
theorem ztL : ((zat 2).all fun w => zbc (0 :: 2 :: 3 :: w)) = true := by decide +kernel
theorem zvp : zbc [0, 2] = true := by decide +kernel
theorem ztK : ((zat 2).all fun w => zbc (0 :: 3 :: 0 :: w)) = true := by decide +kernel
theorem ztJ : ((zat 2).all fun w => zbc (0 :: 3 :: 1 :: w)) = true := by decide +kernel
theorem ztI : ((zat 2).all fun w => zbc (0 :: 3 :: 2 :: w)) = true := by decide +kernel
theorem ztH : ((zat 2).all fun w => zbc (0 :: 3 :: 3 :: w)) = true := by decide +kernel
theorem zvo : zbc [0, 3] = true := by decide +kernel
theorem ztG : ((zat 2).all fun w => zbc (1 :: 0 :: 0 :: w)) = true := by decide +kernel
theorem ztF : ((zat 2).all fun w => zbc (1 :: 0 :: 1 :: w)) = true := by decide +kernel
theorem ztE : ((zat 2).all fun w => zbc (1 :: 0 :: 2 :: w)) = true := by decide +kernel
theorem ztD : ((zat 2).all fun w => zbc (1 :: 0 :: 3 :: w)) = true := by decide +kernel
theorem zvn : zbc [1, 0] = true := by decide +kernel
theorem ztC : ((zat 2).all fun w => zbc (1 :: 1 :: 0 :: w)) = true := by decide +kernel
theorem ztB : ((zat 2).all fun w => zbc (1 :: 1 :: 1 :: w)) = true := by decide +kernel
theorem ztA : ((zat 2).all fun w => zbc (1 :: 1 :: 2 :: w)) = true := by decide +kernel
theorem ztz : ((zat 2).all fun w => zbc (1 :: 1 :: 3 :: w)) = true := by decide +kernel
theorem zvm : zbc [1, 1] = true := by decide +kernel
theorem zty : ((zat 2).all fun w => zbc (1 :: 2 :: 0 :: w)) = true := by decide +kernel
theorem ztx : ((zat 2).all fun w => zbc (1 :: 2 :: 1 :: w)) = true := by decide +kernel
theorem ztw : ((zat 2).all fun w => zbc (1 :: 2 :: 2 :: w)) = true := by decide +kernel
theorem ztv : ((zat 2).all fun w => zbc (1 :: 2 :: 3 :: w)) = true := by decide +kernel
theorem zvl : zbc [1, 2] = true := by decide +kernel
theorem ztu : ((zat 2).all fun w => zbc (1 :: 3 :: 0 :: w)) = true := by decide +kernel
theorem ztt : ((zat 2).all fun w => zbc (1 :: 3 :: 1 :: w)) = true := by decide +kernel
theorem zts : ((zat 2).all fun w => zbc (1 :: 3 :: 2 :: w)) = true := by decide +kernel
theorem ztr : ((zat 2).all fun w => zbc (1 :: 3 :: 3 :: w)) = true := by decide +kernel
theorem zvk : zbc [1, 3] = true := by decide +kernel
theorem ztq : ((zat 2).all fun w => zbc (2 :: 0 :: 0 :: w)) = true := by decide +kernel
theorem ztp : ((zat 2).all fun w => zbc (2 :: 0 :: 1 :: w)) = true := by decide +kernel
theorem zto : ((zat 2).all fun w => zbc (2 :: 0 :: 2 :: w)) = true := by decide +kernel
theorem ztn : ((zat 2).all fun w => zbc (2 :: 0 :: 3 :: w)) = true := by decide +kernel
theorem zvj : zbc [2, 0] = true := by decide +kernel
theorem ztm : ((zat 2).all fun w => zbc (2 :: 1 :: 0 :: w)) = true := by decide +kernel
theorem ztl : ((zat 2).all fun w => zbc (2 :: 1 :: 1 :: w)) = true := by decide +kernel
theorem ztk : ((zat 2).all fun w => zbc (2 :: 1 :: 2 :: w)) = true := by decide +kernel
theorem ztj : ((zat 2).all fun w => zbc (2 :: 1 :: 3 :: w)) = true := by decide +kernel
theorem zvi : zbc [2, 1] = true := by decide +kernel
theorem zti : ((zat 2).all fun w => zbc (2 :: 2 :: 0 :: w)) = true := by decide +kernel
theorem zth : ((zat 2).all fun w => zbc (2 :: 2 :: 1 :: w)) = true := by decide +kernel
theorem ztg : ((zat 2).all fun w => zbc (2 :: 2 :: 2 :: w)) = true := by decide +kernel
theorem ztf : ((zat 2).all fun w => zbc (2 :: 2 :: 3 :: w)) = true := by decide +kernel
theorem zvh : zbc [2, 2] = true := by decide +kernel
theorem zte : ((zat 2).all fun w => zbc (2 :: 3 :: 0 :: w)) = true := by decide +kernel
theorem ztd : ((zat 2).all fun w => zbc (2 :: 3 :: 1 :: w)) = true := by decide +kernel
theorem ztc : ((zat 2).all fun w => zbc (2 :: 3 :: 2 :: w)) = true := by decide +kernel
theorem ztb : ((zat 2).all fun w => zbc (2 :: 3 :: 3 :: w)) = true := by decide +kernel
theorem zvg : zbc [2, 3] = true := by decide +kernel
theorem zta : ((zat 2).all fun w => zbc (3 :: 0 :: 0 :: w)) = true := by decide +kernel
theorem zs9 : ((zat 2).all fun w => zbc (3 :: 0 :: 1 :: w)) = true := by decide +kernel
theorem zs8 : ((zat 2).all fun w => zbc (3 :: 0 :: 2 :: w)) = true := by decide +kernel
theorem zs7 : ((zat 2).all fun w => zbc (3 :: 0 :: 3 :: w)) = true := by decide +kernel
theorem zvf : zbc [3, 0] = true := by decide +kernel
theorem zs6 : ((zat 2).all fun w => zbc (3 :: 1 :: 0 :: w)) = true := by decide +kernel
theorem zs5 : ((zat 2).all fun w => zbc (3 :: 1 :: 1 :: w)) = true := by decide +kernel
theorem zs4 : ((zat 2).all fun w => zbc (3 :: 1 :: 2 :: w)) = true := by decide +kernel
theorem zs3 : ((zat 2).all fun w => zbc (3 :: 1 :: 3 :: w)) = true := by decide +kernel
theorem zve : zbc [3, 1] = true := by decide +kernel
theorem zs2 : ((zat 2).all fun w => zbc (3 :: 2 :: 0 :: w)) = true := by decide +kernel
theorem zs1 : ((zat 2).all fun w => zbc (3 :: 2 :: 1 :: w)) = true := by decide +kernel
theorem zs0 : ((zat 2).all fun w => zbc (3 :: 2 :: 2 :: w)) = true := by decide +kernel
theorem zsZ : ((zat 2).all fun w => zbc (3 :: 2 :: 3 :: w)) = true := by decide +kernel
theorem zvd : zbc [3, 2] = true := by decide +kernel
theorem zsY : ((zat 2).all fun w => zbc (3 :: 3 :: 0 :: w)) = true := by decide +kernel
theorem zsX : ((zat 2).all fun w => zbc (3 :: 3 :: 1 :: w)) = true := by decide +kernel
theorem zsW : ((zat 2).all fun w => zbc (3 :: 3 :: 2 :: w)) = true := by decide +kernel
theorem zsV : ((zat 2).all fun w => zbc (3 :: 3 :: 3 :: w)) = true := by decide +kernel
theorem zvc : zbc [3, 3] = true := by decide +kernel
theorem zvS : ((zat 1).all fun w => zbc w) = true := by decide +kernel
theorem zwB (a b : Int) (ha : 0 <= a /\ a < 4) (hb : 0 <= b /\ b < 4) : zbc [a, b] = true := by
 have h1 : a = 0 \/ a = 1 \/ a = 2 \/ a = 3 := by omega
 have h2 : b = 0 \/ b = 1 \/ b = 2 \/ b = 3 := by omega
 rcases h1 with rfl | rfl | rfl | rfl <;> rcases h2 with rfl | rfl | rfl | rfl
 ·exact zvr
 ·exact zvq
 ·exact zvp
 ·exact zvo
 ·exact zvn
 ·exact zvm
 ·exact zvl
 ·exact zvk
 ·exact zvj
 ·exact zvi
 ·exact zvh
 ·exact zvg
 ·exact zvf
 ·exact zve
 ·exact zvd
 ·exact zvc
theorem zwA (a b c : Int) (ha : 0 <= a /\ a < 4) (hb : 0 <= b /\ b < 4) (hc : 0 <= c /\ c < 4) : ((zat 2).all fun w => zbc (a :: b :: c :: w)) = true := by
 have h1 : a = 0 \/ a = 1 \/ a = 2 \/ a = 3 := by omega
 have h2 : b = 0 \/ b = 1 \/ b = 2 \/ b = 3 := by omega
 have h3 : c = 0 \/ c = 1 \/ c = 2 \/ c = 3 := by omega
 rcases h1 with rfl | rfl | rfl | rfl <;> rcases h2 with rfl | rfl | rfl | rfl <;> rcases h3 with rfl | rfl | rfl | rfl
 ·exact ztW
 ·exact ztV
 ·exact ztU
 ·exact ztT
 ·exact ztS
 ·exact ztR
 ·exact ztQ
 ·exact ztP
 ·exact ztO
 ·exact ztN
 ·exact ztM
 ·exact ztL
 ·exact ztK
 ·exact ztJ
 ·exact ztI
 ·exact ztH
 ·exact ztG
 ·exact ztF
 ·exact ztE
 ·exact ztD
 ·exact ztC
 ·exact ztB
 ·exact ztA
 ·exact ztz
 ·exact zty
 ·exact ztx
 ·exact ztw
 ·exact ztv
 ·exact ztu
 ·exact ztt
 ·exact zts
 ·exact ztr
 ·exact ztq
 ·exact ztp
 ·exact zto
 ·exact ztn
 ·exact ztm
 ·exact ztl
 ·exact ztk
 ·exact ztj
 ·exact zti
 ·exact zth
 ·exact ztg
 ·exact ztf
 ·exact zte
 ·exact ztd
 ·exact ztc
 ·exact ztb
 ·exact zta
 ·exact zs9
 ·exact zs8
 ·exact zs7
 ·exact zs6
 ·exact zs5
 ·exact zs4
 ·exact zs3
 ·exact zs2
 ·exact zs1
 ·exact zs0
 ·exact zsZ
 ·exact zsY
 ·exact zsX
 ·exact zsW
 ·exact zsV
theorem zsU (v : List Int) (h : v.length <= 5) (hx : ∀ x ∈ v, 0 <= x /\ x < 4) (hl : least v = true) : FF v = true := by
 have key : zbc v = true := by
  match v, h, hx with
  | [], h, hx => exact List.all_eq_true.mp zvS [] (zfj 1 [] (by decide) hx)
  | [a], h, hx => exact List.all_eq_true.mp zvS [a] (zfj 1 [a] (by simp) hx)
  | [a, b], h, hx => exact zwB a b (hx a (by simp)) (hx b (by simp))
  | a :: b :: c :: w, h, hx => exact List.all_eq_true.mp (zwA a b c (hx a (by simp)) (hx b (by simp)) (hx c (by simp))) w (zfj 2 w (by simpa using h) fun x m => hx x (by simp [m]))
 unfold zbc at key
 rw [hl] at key
 simpa using key
end K54
namespace K54
open PySem FL
open K53 (least zce fall ups zb7 zcf zfo zpt most)
theorem zk9 : ∀ t : Tr, PyData.eqv (trD t) (trD t) = true
 | .leaf i => by rw [show trD (.leaf i) = .int i from rfl, zg0]; simp
 | .node a b => by
  show PyData.eqv (.tuple [trD a, trD b]) (.tuple [trD a, trD b]) = true
  simp [PyData.eqv, PyData.eqvAll, zk9 a, zk9 b]
theorem zoM : ∀ t : Tr, Pl (dep t) (trD t)
 | .leaf i => zf2 i
 | .node a b => by
  refine zis (n := max (dep a) (dep b)) fun d m => ?_
  have : d = trD a \/ d = trD b := by simpa using m
  rcases this with rfl | rfl
  ·exact (zoM a).up (by omega)
  ·exact (zoM b).up (by omega)
theorem znG : ∀ l : List Tr, PyData.eqvAll (l.map trD) (l.map trD) = true
 | [] => rfl
 | t :: r => by simp [PyData.eqvAll, zk9 t, znG r]
theorem zqj {i : Int} (h0 : 0 <= i) (h4 : i < 4) : zdB [.int i, .int 4] = .ok (.bool true) := by
 have w : za2 [.int i] = .ok (.bool true) := rfl
 have a1 : leD (.int 0) (.int i) = .ok (.bool true) := by rw [zne, decide_eq_true h0]
 have a2 : ltD (.int i) (.int 4) = .ok (.bool true) := by rw [zm8, decide_eq_true h4]
 have hb : zeq [.val (.int i), .val (.int 4)] = .ok (.rt (.bool true), [.val (.int i), .val (.int 4)]) := by
  simp only [zeq, zaX, zkh, zal, zac, eV, List.getElem?_cons_zero, zar, zaf, w, zeD, eC, a1, List.getElem?_cons_succ, a2]
 exact zcw (k := 2) (n := 2) (ds := [.int i, .int 4]) rfl hb
theorem zqi (l : List D) : zdB [.tuple l, .int 4] = .ok (.bool false) := by
 have w : za2 [.tuple l] = .ok (.bool false) := rfl
 have hb : zeq [.val (.tuple l), .val (.int 4)] = .ok (.rt (.bool false), [.val (.tuple l), .val (.int 4)]) := by
  simp only [zeq, zaX, zkh, zal, zac, eV, List.getElem?_cons_zero, zar, zaf, w, zeD, eC]
 exact zcw (k := 2) (n := 2) (ds := [.tuple l, .int 4]) rfl hb
theorem zfI : ∀ (t : Tr) (k : Nat) (d : Nat), dep t <= d -> d < k -> d <= 100 -> okL t = true -> zaM k [trD t, .int 4, .int (d : Int)] = .ok (.int (nB t : Int))
 | .leaf i, 0, d, h, hk, _, _ => by omega
 | .leaf i, k + 1, d, h, hk, _, ok => by
  have ok' : 0 <= i /\ i < 4 := by
   have : (decide (0 <= i) && decide (i < 4)) = true := ok
   simpa using this
  have w := zqj ok'.1 ok'.2
  have s1 : (sIf (tE (zal zdB (zac (eV 0) (zac (eV 1) zar)))) (zaX (eC (.int 1))) sNx) [.val (.int i), .val (.int 4), .val (.int (d : Int)), .no] = .ok (.rt (.int 1), [.val (.int i), .val (.int 4), .val (.int (d : Int)), .no]) := by
   simp only [sIf, tE, zal, zac, eV, List.getElem?_cons_zero, zar, zaf, List.getElem?_cons_succ, w, zia, zaX, eC, sNx, if_true]
  have hb : zbz (zaM k) [.val (.int i), .val (.int 4), .val (.int (d : Int)), .no] = .ok (.rt (.int 1), [.val (.int i), .val (.int 4), .val (.int (d : Int)), .no]) := by
   unfold zbz zaB
   rw [s1]
   rfl
  exact zcw (k := 3) (n := 4) (ds := [.int i, .int 4, .int (d : Int)]) rfl hb
 | .node a b, 0, d, h, hk, _, _ => by omega
 | .node a b, k + 1, d, h, hk, hd, ok => by
  have ok' : okL a = true /\ okL b = true := by
   have : (okL a && okL b) = true := ok
   simpa using this
  have hm : max (dep a) (dep b) + 1 <= d := h
  obtain ⟨e, rfl⟩ : ∃ e, d = e + 1 := ⟨d - 1, by omega⟩
  have ea := zfI a k e (by omega) (by omega) (by omega) ok'.1
  have eb := zfI b k e (by omega) (by omega) (by omega) ok'.2
  have w := zqi [trD a, trD b]
  have s1 : (sIf (tE (zal zdB (zac (eV 0) (zac (eV 1) zar)))) (zaX (eC (.int 1))) sNx) [.val (.tuple [trD a, trD b]), .val (.int 4), .val (.int ((e + 1 : Nat) : Int)), .no] = .ok (.nx, [.val (.tuple [trD a, trD b]), .val (.int 4), .val (.int ((e + 1 : Nat) : Int)), .no]) := by
   simp only [sIf, tE, zal, zac, eV, List.getElem?_cons_zero, zar, zaf, List.getElem?_cons_succ, w, zia, zaX, eC, sNx, Bool.false_eq_true, if_false]
  have z1 : eqD (.int ((e + 1 : Nat) : Int)) (.int 0) = .ok (.bool false) := by rw [ziJ, decide_eq_false (by omega)]
  have z2 := znr [trD a, trD b]
  have z3 : neD (.int 2) (.int 2) = .ok (.bool false) := by rw [zjZ]; rfl
  have s2 : (sIf (FL.tOr (tB (e2 eqD (eV 2) (eC (.int 0)))) (FL.tOr (FL.zeH (tE (e1 (zcr "tuple") (eV 0)))) (tB (e2 neD (e1 zc4 (eV 0)) (eC (.int 2)))))) (zaX (eC .none)) sNx) [.val (.tuple [trD a, trD b]), .val (.int 4), .val (.int ((e + 1 : Nat) : Int)), .no] = .ok (.nx, [.val (.tuple [trD a, trD b]), .val (.int 4), .val (.int ((e + 1 : Nat) : Int)), .no]) := by
   have ln : ((([trD a, trD b] : List D).length : Nat) : Int) = 2 := rfl
   simp only [List.length_cons, List.length_nil, Nat.reduceAdd, sIf, FL.tOr, tB, FL.e2, eV, List.getElem?_cons_succ, List.getElem?_cons_zero, eC, zaf, z1, FL.zeH, tE, FL.e1, zia, zc4, Bool.false_eq_true, z2, Bool.not_true, if_false, zaX, sNx] at ln ⊢
   simp only [ln, z3, zaf, Bool.false_eq_true, if_false]
  have q0 : zbF (zaM k) [.val (.tuple [trD a, trD b]), .val (.int 4), .val (.int ((e + 1 : Nat) : Int)), .no] = .ok (.list [.int (nB a : Int), .int (nB b : Int)], [.val (.tuple [trD a, trD b]), .val (.int 4), .val (.int ((e + 1 : Nat) : Int)), .no]) := by
   have sb : zkG (.int ((e + 1 : Nat) : Int)) (.int 1) = .ok (.int (e : Int)) := by
    show R.ok (PyData.int (((e + 1 : Nat) : Int) - 1)) = _
    congr 2; omega
   unfold zbF
   rw [zdb (items := [trD a, trD b]) (fun x => zpd (zaM k [x, .int 4, .int (e : Int)]))]
   ·simp only [List.map_cons, List.map_nil, ea, eb, zpd]
   ·simp only [iE, eV, zaf, List.getElem?_cons_zero, zf4]
   ·exact (by decide : 2 <= lim)
   ·intro x hx
    refine ⟨[.val x, .val (.int 4), .val (.int ((e + 1 : Nat) : Int))], rfl, ?_, ?_⟩
    ·have : x = trD a \/ x = trD b := by simpa using hx
     rcases this with rfl | rfl
     ·simp only [zal, zac, zar, FL.e2, eV, eC, zaf, List.getElem?_cons_zero, List.getElem?_cons_succ, sb, ea, zpd]
     ·simp only [zal, zac, zar, FL.e2, eV, eC, zaf, List.getElem?_cons_zero, List.getElem?_cons_succ, sb, eb, zpd]
    ·exact zdv (fun i p d e => by
      revert e
      simp only [List.drop_succ_cons, List.drop_zero, List.zip_cons_cons, List.zip_nil_left, List.lookup_cons, List.lookup_nil]
      split
      ·intro e; cases e
      ·split <;> (intro e; cases e)) _ 0
  have s3 : (zga 3 (ze6 3 (zbF (zaM k)))) [.val (.tuple [trD a, trD b]), .val (.int 4), .val (.int ((e + 1 : Nat) : Int)), .no] = .ok (.nx, [.val (.tuple [trD a, trD b]), .val (.int 4), .val (.int ((e + 1 : Nat) : Int)), .val (.list [.int (nB a : Int), .int (nB b : Int)])]) := by
   simp only [zga, ze6, q0, zaf, List.getElem?_cons_zero, List.getElem?_cons_succ, List.set_cons_zero, List.set_cons_succ]
  have il : zup .none (.list [.int (nB a : Int), .int (nB b : Int)]) = .ok (.bool false) := by
   have p1 : Pl 1 (.list [.int (nB a : Int), .int (nB b : Int)]) := zgD fun d m => by
    have : d = .int (nB a : Int) \/ d = .int (nB b : Int) := by simpa using m
    rcases this with rfl | rfl <;> exact zf2 _
   show chk (SeqAt.shaped (.list [.int (nB a : Int), .int (nB b : Int)]) && SeqAt.shaped .none) _ = _
   rw [p1.shaped, show SeqAt.shaped PyData.none = true from rfl]
   rfl
  have s4 : (sIf (tB (e2 zup (eC .none) (eV 3))) (zaX (eC .none)) sNx) [.val (.tuple [trD a, trD b]), .val (.int 4), .val (.int ((e + 1 : Nat) : Int)), .val (.list [.int (nB a : Int), .int (nB b : Int)])] = .ok (.nx, [.val (.tuple [trD a, trD b]), .val (.int 4), .val (.int ((e + 1 : Nat) : Int)), .val (.list [.int (nB a : Int), .int (nB b : Int)])]) := by
   simp only [sIf, tB, FL.e2, eC, eV, zaf, List.getElem?_cons_zero, List.getElem?_cons_succ, il, Bool.false_eq_true, if_false, sNx]
  have sm : zuh (.list [.int (nB a : Int), .int (nB b : Int)]) = .ok (.int ((nB a + nB b : Nat) : Int)) := by
   show R.ok (PyData.int ([(nB a : Int), (nB b : Int)].sum)) = _
   congr 2
  have s5 : (zaX (e1 zuh (eV 3))) [.val (.tuple [trD a, trD b]), .val (.int 4), .val (.int ((e + 1 : Nat) : Int)), .val (.list [.int (nB a : Int), .int (nB b : Int)])] = .ok (.rt (.int ((nB a + nB b : Nat) : Int)), [.val (.tuple [trD a, trD b]), .val (.int 4), .val (.int ((e + 1 : Nat) : Int)), .val (.list [.int (nB a : Int), .int (nB b : Int)])]) := by
   simp only [zaX, FL.e1, eV, zaf, List.getElem?_cons_zero, List.getElem?_cons_succ, sm]
  have hb : zbz (zaM k) [.val (.tuple [trD a, trD b]), .val (.int 4), .val (.int ((e + 1 : Nat) : Int)), .no] = .ok (.rt (.int ((nB a + nB b : Nat) : Int)), [.val (.tuple [trD a, trD b]), .val (.int 4), .val (.int ((e + 1 : Nat) : Int)), .val (.list [.int (nB a : Int), .int (nB b : Int)])]) := by
   unfold zbz
   rw [zaG s1, zaG s2, zaG s3, zaG s4, s5]
  exact zcw (k := 3) (n := 4) (ds := [.tuple [trD a, trD b], .int 4, .int ((e + 1 : Nat) : Int)]) rfl hb
theorem zmT : ∀ t : Tr, zpM t = true -> okT t
 | .leaf _, _ => trivial
 | .node a b, h => by
  have h' : (zpM a && zpM b && decide (nB a + nB b <= 1000) && Nat.ble (2 * (lB a * lB b) + 1) 1000000 && Nat.ble (lB a * lB b * (mB a * mB b) * (1 + lB a * lB b) + mB a * mB b + mB a + mB b) 1000000000000) = true := h
  simp only [Bool.and_eq_true, Nat.ble_eq, decide_eq_true_eq] at h'
  obtain ⟨⟨⟨⟨ha, hb⟩, h1⟩, h2⟩, h3⟩ := h'
  refine ⟨zmT a ha, zmT b hb, h1, h2, Nat.lt_of_le_of_lt h3 ?_⟩
  exact Nat.lt_of_lt_of_le (by decide : 1000000000000 < 2 ^ 40) (Nat.pow_le_pow_right (by decide) (by decide))
theorem zqt {t : Tr} (h1 : dep t <= 4) (h2 : okL t = true) (h3 : nB t <= 5) (h4 : okT t) (h5 : lB t < 64) : zjH [.int 4, trD t] = .ok (.list ((zdS (zcX t)).map tln)) := by
 have r1 : zbm [.int 4] = .ok .none := rfl
 have li := zfI t 6 4 h1 (by decide) (by decide) h2
 have g5 : gtD (.int (nB t : Int)) (.int 5) = .ok (.bool false) := by rw [ziG, decide_eq_false (by omega)]
 have s54 : zkG (.int 5) (.int 1) = .ok (.int ((4 : Nat) : Int)) := rfl
 have isn : isD (.int (nB t : Int)) .none = .ok (.bool false) := rfl
 have r2 : zb1 [trD t, .int 4] = .ok .none := by
  have a1 : zbD (gN 2) (zal (zaM 6) (zac (eV 0) (zac (eV 1) (zac (e2 zkG (eC (.int 5)) (eC (.int 1))) zar)))) [.val (trD t), .val (.int 4), .no] = .ok (.nx, [.val (trD t), .val (.int 4), .val (.int (nB t : Int))]) := by
   simp only [zbD, zal, zac, zar, FL.e2, eV, eC, gN, zaf, List.getElem?_cons_zero, List.getElem?_cons_succ, List.set_cons_zero, List.set_cons_succ, s54, li]
  have a2 : (sIf (FL.tOr (tB (e2 isD (eV 2) (eC .none))) (tB (e2 gtD (eV 2) (eC (.int 5))))) zpE sNx) [.val (trD t), .val (.int 4), .val (.int (nB t : Int))] = .ok (.nx, [.val (trD t), .val (.int 4), .val (.int (nB t : Int))]) := by
   simp only [sIf, FL.tOr, tB, FL.e2, eV, eC, zaf, List.getElem?_cons_zero, List.getElem?_cons_succ, isn, g5, Bool.false_eq_true, if_false, sNx]
  have hb : zcs [.val (trD t), .val (.int 4), .no] = .ok (.nx, [.val (trD t), .val (.int 4), .val (.int (nB t : Int))]) := by
   unfold zcs
   rw [zaG a1, a2]
  exact zqv (k := 2) (n := 3) (ds := [trD t, .int 4]) rfl hb
 obtain ⟨sd, wl⟩ := zcK t 6 (by omega) h4
 have ts := zqm wl.nk (Nat.lt_of_le_of_lt wl.ln h5)
 have sd' : zbC 6 [trD t] = .ok (dct (zcX t)) := by rw [zrS]; exact sd
 have ts' : zdf [dct (zcX t)] = .ok (.list ((zdS (zcX t)).map tln)) := by rw [zuw]; exact ts
 have hb : zll [.val (.int 4), .val (trD t)] = .ok (.rt (.list ((zdS (zcX t)).map tln)), [.val (.int 4), .val (trD t)]) := by
  have a1 : sE (zal zbm (zac (eV 0) zar)) [.val (.int 4), .val (trD t)] = .ok (.nx, [.val (.int 4), .val (trD t)]) := by
   simp only [sE, zal, zac, zar, eV, zaf, List.getElem?_cons_zero, r1]
  have a2 : sE (zal zb1 (zac (eV 1) (zac (eV 0) zar))) [.val (.int 4), .val (trD t)] = .ok (.nx, [.val (.int 4), .val (trD t)]) := by
   simp only [sE, zal, zac, zar, eV, zaf, List.getElem?_cons_zero, List.getElem?_cons_succ, r2]
  unfold zll
  rw [zaG a1, zaG a2]
  simp only [zaX, zal, zac, zar, eV, zaf, List.getElem?_cons_zero, List.getElem?_cons_succ, sd', ts']
 exact zcw (k := 2) (n := 2) (ds := [.int 4, trD t]) rfl hb
theorem zqn (p : List Int × Rat) : tln p = .tuple ([p.1, [p.2.num, (p.2.den : Int)]].map tp) := rfl
theorem zmN (p : List Int × Rat) : Pl 2 (tln p) := zis fun d m => by
 have : d = tp p.1 \/ d = num p.2 := by simpa using m
 rcases this with rfl | rfl
 ·exact zmM _
 ·exact zmM [p.2.num, (p.2.den : Int)]
theorem zrg (p : List Int × Rat) : PyData.eqv (tln p) (tln p) = true := by
 rw [zqn]
 show PyData.eqvAll _ _ = true
 rw [zda tp znH]; simp
theorem zoZ (a b : List Int) : neD (.list (a.map PyData.int)) (.list (b.map PyData.int)) = .ok (.bool (!decide (a = b))) := by
 have pl : ∀ c : List Int, Pl 1 (.list (c.map PyData.int)) := fun c => zgD fun d m => by
  obtain ⟨i, _, rfl⟩ := List.mem_map.mp m
  exact zf2 i
 rw [zje (pl a) (pl b)]
 congr 3
 show PyData.eqvAll _ _ = _
 rw [zda PyData.int zg0]
theorem zml {w : List Int} (h : w.length < 64) : zoq (tp w) = .ok (.list ((zcg w).map PyData.int)) := by
 show (R.of (intsOf (w.map PyData.int))).bind _ = _
 rw [zbS]
 show chk (leB (w.length + 1) 64) _ = _
 rw [zaQ (zcO h)]
theorem zqh {v : List Int} {t : Tr} (hv : v.length < 64) (h1 : dep t <= 4) (h2 : okL t = true) (h3 : nB t <= 5) (h4 : okT t) (h5 : lB t < 64) (hw : zol v (zdS (zcX t)) = true) : zbn [tp v, trD t] = .ok (.bool true) := by
 have sa := zqt h1 h2 h3 h4 h5
 have hlen : (zdS (zcX t)).length < 64 := by
  rw [(zc6 _).length_eq]
  exact Nat.lt_of_le_of_lt (zcK t 6 (by omega) h4).2.ln h5
 generalize zdS (zcX t) = S at sa hw hlen
 cases S with
 | nil => cases hw
 | cons p r =>
  have hw' : (decide (p.1 = v) && decide (p.2 = 1) && r.all fun q => !lexLe q.1 v && decide (zcg q.1 = zcg v) && !decide (q.2.num = 0) && decide (q.1.length < 64)) = true := hw
  rw [Bool.and_eq_true, Bool.and_eq_true, decide_eq_true_eq, decide_eq_true_eq] at hw'
  obtain ⟨⟨ep1, ep2⟩, hr⟩ := hw'
  have ep : p = (v, 1) := Prod.ext ep1 ep2
  subst ep
  have L : ∀ q ∈ r, lexLe q.1 v = false /\ zcg q.1 = zcg v /\ q.2.num ≠ 0 /\ q.1.length < 64 := fun q hq => by
   have := List.all_eq_true.mp hr q hq
   simpa [and_assoc] using this
  have s1 : zbD (gN 2) (zal zjH (zac (eC (.int 4)) (zac (eV 1) zar))) [.val (tp v), .val (trD t), .no, .no, .no] = .ok (.nx, [.val (tp v), .val (trD t), .val (.list (((v, 1) :: r : Sm).map tln)), .no, .no]) := by
   simp only [zbD, zal, zac, zar, eV, eC, gN, zaf, List.getElem?_cons_zero, List.getElem?_cons_succ, List.set_cons_zero, List.set_cons_succ, sa]
  have pl : ∀ S : Sm, Pl 3 (.list (S.map tln)) := fun S => zgD fun d m => by
   obtain ⟨q, _, rfl⟩ := List.mem_map.mp m
   exact zmN q
  have z1 : eqD (.list (((v, 1) :: r : Sm).map tln)) (.list []) = .ok (.bool false) := by
   refine (zla (pl _) (pl [])).trans ?_
   rfl
  have x0 : ixD (.list (((v, 1) :: r : Sm).map tln)) (.int 0) = .ok (tln (v, 1)) := by
   show R.of (FL.atI (tln (v, 1) :: r.map tln) 0) = _
   unfold FL.atI FL.ixN
   rw [if_pos (by decide), if_pos (by rw [List.length_cons]; omega)]
   rfl
  have z2 : neD (tln (v, 1)) (.tuple [tp v, .tuple [.int 1, .int 1]]) = .ok (.bool false) := by
   rw [show (PyData.tuple [tp v, .tuple [.int 1, .int 1]] : D) = tln (v, 1) from rfl, zje (zmN _) (zmN _), zrg]
   rfl
  have l0 : leB 0 lim = true := by decide
  have l2 : leB 2 lim = true := by decide
  have s2 : (sIf (FL.tOr (tB (e2 eqD (eV 2) (zel zar))) (tB (e2 neD (e2 ixD (eV 2) (eC (.int 0))) (zek (zac (eV 0) (zac (zek (zac (eC (.int 1)) (zac (eC (.int 1)) zar))) zar)))))) (zaX (eC (.bool false))) sNx) [.val (tp v), .val (trD t), .val (.list (((v, 1) :: r : Sm).map tln)), .no, .no] = .ok (.nx, [.val (tp v), .val (trD t), .val (.list (((v, 1) :: r : Sm).map tln)), .no, .no]) := by
   simp only [sIf, FL.tOr, tB, FL.e2, zel, zek, zac, zar, eV, eC, zaf, List.getElem?_cons_zero, List.getElem?_cons_succ, List.length_cons, List.length_nil, zaQ l0, zaQ l2, z1, x0, z2, Bool.false_eq_true, if_false, sNx]
  have FI := zej (f := tln) (g := gT [(gN 3), (gN 4)]) (b := zbs) (fun done ρ => ∃ y3 y4, Np y3 /\ Np y4 /\ ρ = [.val (tp v), .val (trD t), .val (.list (((v, 1) :: r : Sm).map tln)), y3, y4])
   r [] [.val (tp v), .val (trD t), .val (.list (((v, 1) :: r : Sm).map tln)), .no, .no] ⟨.no, .no, zjX, zjX, rfl⟩ (by
    intro pre q post ρ e hP
    obtain ⟨y3, y4, h3, h4, rfl⟩ := hP
    rw [List.nil_append] at e
    have mq : q ∈ r := by rw [e]; simp
    obtain ⟨a1, a2, a3, a4⟩ := L q mq
    have g1 : gN 3 (tp q.1) [.val (tp v), .val (trD t), .val (.list (((v, 1) :: r : Sm).map tln)), y3, y4] = .ok [.val (tp v), .val (trD t), .val (.list (((v, 1) :: r : Sm).map tln)), .val (tp q.1), y4] := zke rfl h3
    have g2 : gN 4 (num q.2) [.val (tp v), .val (trD t), .val (.list (((v, 1) :: r : Sm).map tln)), .val (tp q.1), y4] = .ok [.val (tp v), .val (trD t), .val (.list (((v, 1) :: r : Sm).map tln)), .val (tp q.1), .val (num q.2)] := zke rfl h4
    have b1 : leD (tp q.1) (tp v) = .ok (.bool false) := by rw [zj6, a1]
    have b2 : neD (.list ((zcg q.1).map PyData.int)) (.list ((zcg v).map PyData.int)) = .ok (.bool false) := by rw [zoZ, a2]; simp
    have b3 : ixD (num q.2) (.int 0) = .ok (.int q.2.num) := rfl
    have b4 : eqD (.int q.2.num) (.int 0) = .ok (.bool false) := by rw [ziJ, decide_eq_false a3]
    refine ⟨[.val (tp v), .val (trD t), .val (.list (((v, 1) :: r : Sm).map tln)), .val (tp q.1), .val (num q.2)], .nx, ?_, .inl rfl, .val (tp q.1), .val (num q.2), zgH _, zgH _, rfl⟩
    have ht : gT [(gN 3), (gN 4)] (tln q) [.val (tp v), .val (trD t), .val (.list (((v, 1) :: r : Sm).map tln)), y3, y4] = .ok [.val (tp v), .val (trD t), .val (.list (((v, 1) :: r : Sm).map tln)), .val (tp q.1), .val (num q.2)] := by
     show zpg [(gN 3), (gN 4)] [tp q.1, num q.2] _ = _
     simp only [zpg, g1, zaf, g2]
    rw [ht, zaf]
    unfold zbs
    simp only [sIf, FL.tOr, tB, FL.e1, FL.e2, eV, eC, zaf, List.getElem?_cons_zero, List.getElem?_cons_succ, b1, zml a4, zml hv, b2, b3, b4, Bool.false_eq_true, if_false, sNx])
  obtain ⟨ρ', e, y3, y4, h3, h4, rfl⟩ := FI
  have sl : zc5 (.list (((v, 1) :: r : Sm).map tln)) (some 1) none = .ok (.list (r.map tln)) := by
   show R.ok (PyData.list (cut (((v, 1) :: r : Sm).map tln) (some ((1 : Nat) : Int)) none)) = _
   rw [zcQ _ 1 (by simp)]
   rfl
  have s3 : zbr [.val (tp v), .val (trD t), .val (.list (((v, 1) :: r : Sm).map tln)), .no, .no] = .ok (.nx, [.val (tp v), .val (trD t), .val (.list (((v, 1) :: r : Sm).map tln)), y3, y4]) := by
   unfold zbr zi3
   have hi : (iE (eSl (eV 2) (za4 (eC (.int 1))) zbb)) [.val (tp v), .val (trD t), .val (.list (((v, 1) :: r : Sm).map tln)), .no, .no] = .ok (r.map tln, [.val (tp v), .val (trD t), .val (.list (((v, 1) :: r : Sm).map tln)), .no, .no]) := by
    simp only [iE, eSl, za4, zbb, eV, eC, zaf, List.getElem?_cons_zero, List.getElem?_cons_succ, sl, zf4]
   rw [hi, zaf]
   exact e
  have hb : zbK [.val (tp v), .val (trD t), .no, .no, .no] = .ok (.rt (.bool true), [.val (tp v), .val (trD t), .val (.list (((v, 1) :: r : Sm).map tln)), y3, y4]) := by
   unfold zbK
   rw [zaG s1, zaG s2, zaG s3]
   rfl
  exact zcw (k := 2) (n := 5) (ds := [tp v, trD t]) rfl hb
end K54
namespace K54
open PySem FL
open K53 (least zce fall ups zb7 zcf zfo zpt most)
theorem zrZ (k : Nat) (d : D) (hd : zl7 k d) (hk : k <= 100) (s2 : Sl) (L : Int) (hL : 1 <= L) (hL4 : L <= 4) :
  ∃ (w : List Int) (d' : D), zbG [.ow true d, .val (.int L), s2] = .ok (.list (w.map PyData.int), [.ow true d', .val (.int L), s2]) /\ 1 <= w.length /\ w.length <= 5 /\ ∀ x ∈ w, 0 <= x /\ x < L := by
 obtain ⟨n, d0, t0, n0, n1, hp0⟩ := zjO hd (by omega) 5 (by decide) (by decide)
 have hr : zjT [.int (1 + n)] = .ok (rng 0 (1 + n)) := zlz (by omega) (by omega)
 have hlen : (rng 0 (1 + n)).length = (1 + n).toNat := by rw [zgy]; simp
 have CI := zha (k := 1) (ix := [0, 1]) (g := gN 0) (t := zdJ) (f := za1 zaD [.m 1, .v (eV 2)])
  (fun i acc ρ => ∃ (w : List Int) (d' : D), acc = w.map PyData.int /\ (∀ x ∈ w, 0 <= x /\ x < L) /\ zl7 (k + 1 + i) d' /\ ρ = [.ow true d', .val (.int L), s2])
 obtain ⟨acc, ρ', ec, el, hp⟩ := CI (rng 0 (1 + n)) 0 [] [.ow true d0, .val (.int L), s2] (by rw [hlen]; unfold lim; simp; omega) rfl
  ⟨[], d0, rfl, by simp, hp0, rfl⟩ (by
   intro x hx i acc ρ hi hP
   rw [hlen] at hi
   obtain ⟨w, d1, rfl, hw, hp, rfl⟩ := hP
   obtain ⟨g, d2, et, g0, g1, hp2⟩ := zjO hp (by omega) L hL (by omega)
   refine ⟨[.val x, .ow true d1, .val (.int L)], .int g, [.val x, .ow true d2, .val (.int L)], ?_, ?_, ?_, ?_⟩
   ·simp only [gN, blk, List.replicate, List.map_cons, List.getElem?_cons_zero, Option.getD_some, List.getElem?_cons_succ, List.map_nil, List.cons_append, List.nil_append, List.set_cons_zero]
   ·simp only [zdJ]
   ·simp only [za1, zl9, zbf, List.getElem?_cons_succ, List.getElem?_cons_zero, eV, zaf, zjP, zn6, zlm, bkL, bk1, Nat.zero_add, et, zjK, List.lookup_cons, beq_self_eq_true]
   ·refine ⟨w ++ [g], d2, by simp, ?_, hp2, ?_⟩
    ·intro z hz
     rcases List.mem_append.mp hz with hz | hz
     ·exact hw z hz
     ·have : z = g := by simpa using hz
      subst this; exact ⟨g0, g1⟩
    ·have l2 : ([(0, Sl.ow true d2), (1, Sl.val (.int L))] : List (Nat × Sl)).lookup 2 = none := rfl
     show [bk1 _ 0 _, bk1 _ 1 _, bk1 [(0, Sl.ow true d2), (1, Sl.val (.int L))] 2 s2] = _
     rw [zn0 l2]
     rfl)
 obtain ⟨w, d', rfl, hw, hp', rfl⟩ := hp
 rw [Nat.zero_add, hlen] at el
 have el' : w.length = (1 + n).toNat := by simpa using el
 refine ⟨w, d', ?_, by omega, by omega, hw⟩
 unfold zbG zbY
 have hi : (iR1 (zac (e2 zbw (eC (.int 1)) (za1 zaD [.m 0, .v (eC (.int 5))])) zar)) [.ow true d, .val (.int L), s2] = .ok (rng 0 (1 + n), [.ow true d0, .val (.int L), s2]) := by
  have cm : (za1 zaD [.m 0, .v (eC (.int 5))]) [.ow true d, .val (.int L), s2] = .ok (.int n, [.ow true d0, .val (.int L), s2]) := by
   rw [zjP]
   exact znX (p := true) (d := d) rfl rfl t0
  have ad : zbw (.int 1) (.int n) = .ok (.int (1 + n)) := rfl
  simp only [iR1, zac, zar, FL.e2, eC, zaf, cm, ad, hr]
 rw [hi, zaf]
 show (zfO _ _ _ _ _ (rng 0 (1 + n)) [.ow true d0, .val (.int L), s2] []).bind _ = _
 rw [ec]
 rfl
structure Gd (v : List Int) : Prop where
 l1 : 1 <= v.length
 l5 : v.length <= 5
 lt : ∀ x ∈ v, 0 <= x /\ x < 4
 le : least v = true
theorem zpj (d : D) (hd : zl7 0 d) : ∃ (v : List Int) (d' : D), zcj [d] = .ok (tp v, [d']) /\ Gd v := by
 obtain ⟨c, d1, t1, c0, c1, p1⟩ := zjO hd (by decide) 2 (by decide) (by decide)
 have hL : ∃ L : Int, ixD (.list [.int 2, .int 4]) (.int c) = .ok (.int L) /\ 1 <= L /\ L <= 4 := by
  have : c = 0 \/ c = 1 := by omega
  rcases this with rfl | rfl
  ·exact ⟨2, rfl, by decide, by decide⟩
  ·exact ⟨4, rfl, by decide, by decide⟩
 obtain ⟨L, eL, L1, L4⟩ := hL
 obtain ⟨w, d2, qd, w1, w5, wx⟩ := zrZ 1 d1 p1 (by decide) .no L L1 L4
 have wx4 : ∀ x ∈ w, 0 <= x /\ x < 4 := fun x m => by have := wx x m; omega
 have hf := zfo w w5 wx4
 rw [<- zvs] at hf
 have wne : w ≠ [] := by intro h; subst h; simp at w1
 obtain ⟨m, em, emo, ma1, ma2⟩ := K53.zm2 wne
 have ef : fall 10 w = w.take m :: fall 9 (w.drop m) := by
  show (if w = [] then [] else w.take (most w) :: fall 9 (w.drop (most w))) = _
  rw [if_neg wne, emo]
 have hle : least (w.take m) = true := by
  obtain ⟨x, hx, ex⟩ := zjg (l := zpt w) (by intro h; rw [h] at em; cases em)
  rw [em] at ex
  cases ex
  have := (List.mem_filter.mp hx).2
  simpa using this
 refine ⟨w.take m, d2, ?_, ⟨by rw [List.length_take]; omega, by rw [List.length_take]; omega, fun x hx => wx4 x (List.mem_of_mem_take hx), hle⟩⟩
 have h2 : leB 2 lim = true := by decide
 have cm : (za1 zaD [.m 0, .v (eC (.int 2))]) [.ow true d, .no, .no] = .ok (.int c, [.ow true d1, .no, .no]) := by
  rw [zjP]
  exact znX (p := true) (d := d) rfl rfl t1
 have s1 : zbD (gN 1) (e2 ixD (zel (zac (eC (.int 2)) (zac (eC (.int 4)) zar))) (za1 zaD [.m 0, .v (eC (.int 2))])) [.ow true d, .no, .no] = .ok (.nx, [.ow true d1, .val (.int L), .no]) := by
  simp only [zbD, FL.e2, zel, zac, zar, eC, gN, zaf, List.length_cons, List.length_nil, zaQ h2, cm, eL, List.getElem?_cons_zero, List.getElem?_cons_succ, List.set_cons_zero, List.set_cons_succ]
 have s2 : zbD (gN 2) (e1 ziZ zbG) [.ow true d1, .val (.int L), .no] = .ok (.nx, [.ow true d2, .val (.int L), .val (tp w)]) := by
  simp only [zbD, FL.e1, ziZ, gN, zaf, qd, List.getElem?_cons_zero, List.getElem?_cons_succ, List.set_cons_zero, List.set_cons_succ]
 have x0 : ixD (ltp (fall 10 w)) (.int 0) = .ok (tp (w.take m)) := by
  rw [ef]
  show R.of (FL.atI (tp (w.take m) :: (fall 9 (w.drop m)).map tp) 0) = _
  unfold FL.atI FL.ixN
  rw [if_pos (by decide), if_pos (by rw [List.length_cons]; omega)]
  rfl
 have s3 : zaX (e2 ixD (zal zbL (zac (eV 2) zar)) (eC (.int 0))) [.ow true d2, .val (.int L), .val (tp w)] = .ok (.rt (tp (w.take m)), [.ow true d2, .val (.int L), .val (tp w)]) := by
  simp only [zaX, FL.e2, zal, zac, zar, eV, eC, zaf, List.getElem?_cons_zero, List.getElem?_cons_succ, hf, x0]
 show (zcU [.ow true d, .no, .no]).bind _ = _
 unfold zcU
 rw [zaG s1, zaG s2, s3]
 rfl
abbrev tre (v : List Int) : Tr := plT zlh 6 v
theorem zjN (v : List Int) (g : Gd v) : zbi [tp v] = .ok (trD (tre v)) := by
 have r1 : zaJ [tp v] = .ok .none := by rw [zuG]; exact K53.zi5 v g.l5 g.lt
 have r2 : zaP [tp v] = .ok (.bool true) := by rw [zsL, zb7 v (by have := g.l5; omega), g.le]
 have r3 := zjM 6 v g.l1 (by have := g.l5; omega) (by have := g.l5; omega)
 have hb : zcR [.val (tp v)] = .ok (.rt (trD (tre v)), [.val (tp v)]) := by
  simp only [zcR, zaB, sE, sIf, FL.zeH, tE, zaX, zal, zac, zar, eV, zaf, List.getElem?_cons_zero, r1, r2, r3, zia, Bool.not_true, Bool.false_eq_true, if_false, sNx]
 exact zcw (k := 1) (n := 1) (ds := [tp v]) rfl hb
theorem zrq {S' : Sl} (S W : D) (ts : List D) (hts : ts.length <= 100) (v : List Int) (g : Gd v) (s4 : Sl) (h4 : Np s4) :
  zeG [S' , .val W, .ow false (.list ts), .val (tp v), s4] = .ok (.nx, [S', .val W, .ow false (.list (ts ++ [trD (tre v)])), .val (tp v), .val (trD (tre v))]) := by
 have ff := zsU v g.l5 g.lt g.le
 have ff' : (zce v && decide (tre v = plT zkj 6 v) && decide (dep (tre v) <= 4) && okL (tre v) && decide (nB (tre v) <= 5) && zpM (tre v) && decide (lB (tre v) < 64) && (isN (tre v) == decide (1 < v.length)) && zol v (zdS (zcX (tre v)))) = true := ff
 simp only [Bool.and_eq_true, decide_eq_true_eq] at ff'
 obtain ⟨⟨⟨⟨⟨⟨⟨⟨f1, f2⟩, f3⟩, f4⟩, f5⟩, f6⟩, f7⟩, f8⟩, f9⟩ := ff'
 have k1 : zax [tp v] = .ok (.bool true) := by rw [zsx, zcf v (by have := g.l5; omega), f1]
 have k2 := zjN v g
 have k3 : za3 6 [tp v] = .ok (trD (tre v)) := by
  rw [znK 6 v g.l1 (by have := g.l5; omega) (by have := g.l5; omega), <- f2]
 have k4 : neD (trD (tre v)) (trD (tre v)) = .ok (.bool false) := by
  have pl := (zoM (tre v)).up f3
  rw [zje pl pl, zk9]; rfl
 have k5 : zcr "tuple" (trD (tre v)) = .ok (.bool (isN (tre v))) := by
  cases h : tre v with
  | leaf i => exact zns i
  | node a b => rfl
 have k6 : neD (.bool (isN (tre v))) (.bool (decide (1 < v.length))) = .ok (.bool false) := by
  rw [eq_of_beq f8]
  cases decide (1 < v.length) <;> rfl
 have k7 : zcr "bool" (trD (tre v)) = .ok (.bool false) := by
  cases h : tre v with
  | leaf i => rfl
  | node a b => rfl
 have k8 : gtD (.int (v.length : Int)) (.int 1) = .ok (.bool (decide (1 < v.length))) := by
  rw [ziG]
  congr 2
  by_cases c : 1 < v.length
  ·rw [decide_eq_true c, decide_eq_true (by omega)]
  ·rw [decide_eq_false c, decide_eq_false (by omega)]
 have k9 := zqh (v := v) (t := tre v) (by have := g.l5; omega) f3 f4 f5 (zmT _ f6) f7 f9
 have kl : zc4 (tp v) = .ok (.int (v.length : Int)) := by
  show R.ok (PyData.int ((v.map PyData.int).length : Int)) = _
  rw [List.length_map]
 have s1 : sIf (FL.zeH (tE (zal zax (zac (eV 3) zar)))) (zaX (eC (.bool false))) sNx [S', .val W, .ow false (.list ts), .val (tp v), s4] = .ok (.nx, [S', .val W, .ow false (.list ts), .val (tp v), s4]) := by
  simp only [sIf, FL.zeH, tE, zal, zac, zar, eV, zaf, List.getElem?_cons_zero, List.getElem?_cons_succ, k1, zia, Bool.not_true, Bool.false_eq_true, if_false, sNx]
 have s2e : (zal zbi (zac (eV 3) zar)) [S', .val W, .ow false (.list ts), .val (tp v), s4] = .ok (trD (tre v), [S', .val W, .ow false (.list ts), .val (tp v), s4]) := by
  simp only [zal, zac, zar, eV, zaf, List.getElem?_cons_zero, List.getElem?_cons_succ, k2]
 have s3 : sIf (FL.tOr (tB (e2 neD (eV 4) (zal (za3 6) (zac (eV 3) zar)))) (FL.tOr (tB (e2 neD (e1 (zcr "tuple") (eV 4)) (e2 gtD (e1 zc4 (eV 3)) (eC (.int 1))))) (tE (e1 (zcr "bool") (eV 4))))) (zaX (eC (.bool false))) sNx [S', .val W, .ow false (.list ts), .val (tp v), .val (trD (tre v))] = .ok (.nx, [S', .val W, .ow false (.list ts), .val (tp v), .val (trD (tre v))]) := by
  simp only [sIf, FL.tOr, tB, tE, FL.e1, FL.e2, zal, zac, zar, eV, eC, zaf, List.getElem?_cons_zero, List.getElem?_cons_succ, k3, k4, k5, kl, k8, k6, k7, zia, Bool.false_eq_true, if_false, sNx]
 have s4' : sIf (FL.zeH (tE (zal zbn (zac (eV 3) (zac (eV 4) zar))))) (zaX (eC (.bool false))) sNx [S', .val W, .ow false (.list ts), .val (tp v), .val (trD (tre v))] = .ok (.nx, [S', .val W, .ow false (.list ts), .val (tp v), .val (trD (tre v))]) := by
  simp only [sIf, FL.zeH, tE, zal, zac, zar, eV, zaf, List.getElem?_cons_zero, List.getElem?_cons_succ, k9, zia, Bool.not_true, Bool.false_eq_true, if_false, sNx]
 have la : leB (ts.length + 1) lim = true := zcO (by unfold lim; omega)
 have s5 : zkB 2 zln (eV 4) [S', .val W, .ow false (.list ts), .val (tp v), .val (trD (tre v))] = .ok (.nx, [S', .val W, .ow false (.list (ts ++ [trD (tre v)])), .val (tp v), .val (trD (tre v))]) := by
  simp only [zkB, zeQ, zln, zbE, eV, zaf, List.getElem?_cons_zero, List.getElem?_cons_succ, List.set_cons_zero, List.set_cons_succ, zaQ la]
 unfold zeG
 rw [zaG s1, zaG (zqu s2e (x := s4) rfl h4)]
 simp only [List.set_cons_zero, List.set_cons_succ]
 rw [zaG s3, zaG s4', s5]
theorem zo6 (ns : List Int) (hl : ns.length <= 63) : zl8 [.list (ns.map PyData.int)] = .ok (.bool true) := by
  obtain ⟨a, ea⟩ := zvB ns 1 (by decide) (by decide)
  have hi : (iE (e2 zbw (eSl (eV 0) zbb (za4 (eC (.int 8)))) (zel (zac (zal zcH (zac (eV 0) (zac (eC (.int 1)) zar))) zar)))) [.val (.list (ns.map PyData.int)), .no, .no, .no, .no] = .ok ((ns.take 8 ++ [a]).map PyData.int, [.val (.list (ns.map PyData.int)), .no, .no, .no, .no]) := by
    have h1 : leB 1 lim = true := by decide
    have c8 : cut ns none (some 8) = ns.take 8 := zg6 ns 8
    have l2 : leB (((ns.take 8).map PyData.int).length + 1) lim = true := zcO (by rw [List.length_map, List.length_take]; unfold lim; omega)
    simp only [iE, FL.e2, eSl, eV, List.getElem?_cons_zero, zbb, za4, eC, zaf, zc5, zc0, c8, zel, zac, zal, zar, zvC, zbw, ea, List.length_cons, List.length_nil, Nat.reduceAdd, zaQ h1, zaQ l2, zf4, List.map_append, List.map_cons, List.map_nil]
  have hlen : (ns.take 8 ++ [a]).length <= 9 := by rw [List.length_append, List.length_take]; simp; omega
  generalize ns.take 8 ++ [a] = cs at hi hlen
  have q0 : ∃ vs : List (List Int), (∀ v ∈ vs, Gd v) /\ vs.length <= 9 /\ zeO [.val (.list (ns.map PyData.int)), .no, .no, .no, .no] = .ok (ltp vs, [.val (.list (ns.map PyData.int)), .no, .no, .no, .no]) := by
    have CI := zha (k := 1) (ix := []) (g := gN 0) (t := zdJ) (f := za1 zcj [.t (zal zbj (zac (eV 0) (zac (eC (.int 54)) zar)))])
      (fun i acc ρ => ∃ vs : List (List Int), acc = vs.map tp /\ (∀ v ∈ vs, Gd v) /\ ρ = [.val (.list (ns.map PyData.int)), .no, .no, .no, .no])
    obtain ⟨acc, ρ', ec, el, vs, rfl, hv, rfl⟩ := CI (cs.map PyData.int) 0 [] [.val (.list (ns.map PyData.int)), .no, .no, .no, .no] (by rw [List.length_map]; unfold lim; simp; omega) rfl ⟨[], rfl, by simp, rfl⟩ (by
      intro x hx i acc ρ hi hP
      obtain ⟨vs, rfl, hv, rfl⟩ := hP
      obtain ⟨c, _, rfl⟩ := List.mem_map.mp hx
      obtain ⟨d, ed, pd⟩ := zoE c 54 (by decide)
      obtain ⟨v, d', ev, gv⟩ := zpj d pd
      refine ⟨[.val (.int c)], tp v, [.val (.int c)], rfl, rfl, ?_, vs ++ [v], by simp, ?_, ?_⟩
      · simp only [za1, zl9, zal, zac, eV, List.getElem?_cons_zero, eC, zar, zaf, zoF, ed, zn6, zlm, bkL, bk1, ev]
      · intro z hz
        rcases List.mem_append.mp hz with hz | hz
        · exact hv z hz
        · have : z = v := by simpa using hz
          subst this; exact gv
      · exact zdv (fun i p d e => by cases e) _ 0)
    refine ⟨vs, hv, by have : vs.length = cs.length := by simpa using el
                       omega, ?_⟩
    unfold zeO zbY
    rw [hi, zaf]
    show (zfO _ _ _ _ _ (cs.map PyData.int) _ []).bind _ = _
    rw [ec]
    rfl
  obtain ⟨vs, hv, hvl, q0⟩ := q0
  have s1 : zga 1 (ze6 1 zeO) [.val (.list (ns.map PyData.int)), .no, .no, .no, .no] = .ok (.nx, [.val (.list (ns.map PyData.int)), .val (ltp vs), .no, .no, .no]) := by
    simp only [zga, ze6, q0, zaf, List.getElem?_cons_zero, List.getElem?_cons_succ, List.set_cons_zero, List.set_cons_succ]
  have l0 : leB 0 lim = true := by decide
  have s2 : ze6 2 (zel zar) [.val (.list (ns.map PyData.int)), .val (ltp vs), .no, .no, .no] = .ok (.nx, [.val (.list (ns.map PyData.int)), .val (ltp vs), .ow false (.list []), .no, .no]) := by
    simp only [ze6, zel, zar, zaf, List.length_nil, zaQ l0, List.getElem?_cons_zero, List.getElem?_cons_succ, List.set_cons_zero, List.set_cons_succ]
  have FI := zej (f := tp) (g := gN 3) (b := zeG) (fun pre ρ => ∃ y3 y4, Np y3 /\ Np y4 /\ ρ = [.val (.list (ns.map PyData.int)), .val (ltp vs), .ow false (.list (pre.map fun v => trD (tre v))), y3, y4])
    vs [] [.val (.list (ns.map PyData.int)), .val (ltp vs), .ow false (.list []), .no, .no] ⟨.no, .no, zjX, zjX, rfl⟩ (by
      intro pre v post ρ e hP
      obtain ⟨y3, y4, h3, h4, rfl⟩ := hP
      rw [List.nil_append] at e
      have mv : v ∈ vs := by rw [e]; simp
      have pl : pre.length <= vs.length := by rw [e]; simp
      have gx : gN 3 (tp v) [.val (.list (ns.map PyData.int)), .val (ltp vs), .ow false (.list (pre.map fun v => trD (tre v))), y3, y4] = .ok [.val (.list (ns.map PyData.int)), .val (ltp vs), .ow false (.list (pre.map fun v => trD (tre v))), .val (tp v), y4] := zke rfl h3
      have bo := zrq (S' := .val (.list (ns.map PyData.int))) .none (ltp vs) (pre.map fun v => trD (tre v)) (by rw [List.length_map]; omega) v (hv v mv) y4 h4
      refine ⟨_, .nx, ?_, .inl rfl, .val (tp v), .val (trD (tre v)), zgH _, zgH _, rfl⟩
      rw [gx, zaf, bo, List.map_append]
      rfl)
  obtain ⟨ρ', e, y3, y4, h3, h4, rfl⟩ := FI
  rw [List.nil_append] at e
  have s3 : zfy [.val (.list (ns.map PyData.int)), .val (ltp vs), .ow false (.list []), .no, .no] = .ok (.nx, [.val (.list (ns.map PyData.int)), .val (ltp vs), .ow false (.list (vs.map fun v => trD (tre v))), y3, y4]) := by
    unfold zfy zi3
    have hj : (iE (eV 1)) [.val (.list (ns.map PyData.int)), .val (ltp vs), .ow false (.list []), .no, .no] = .ok (vs.map tp, [.val (.list (ns.map PyData.int)), .val (ltp vs), .ow false (.list []), .no, .no]) := rfl
    rw [hj, zaf]
    exact e
  have q1 : zih [.val (.list (ns.map PyData.int)), .val (ltp vs), .ow false (.list (vs.map fun v => trD (tre v))), y3, y4] = .ok (.list ((vs.reverse.map tre).map trD), [.val (.list (ns.map PyData.int)), .val (ltp vs), .ow false (.list (vs.map fun v => trD (tre v))), y3, y4]) := by
    unfold zih
    rw [zdb (items := vs.reverse.map tp) (fun x => zpd (zbi [x]))]
    · rw [List.map_map, List.map_map]
      congr 3
      refine List.map_congr_left fun v m => ?_
      show zpd (zbi [tp v]) = _
      rw [zjN v (hv v (List.mem_reverse.mp m))]; rfl
    · have rv : zly (ltp vs) = .ok (.list (vs.reverse.map tp)) := by
        show R.ok (PyData.list (vs.map tp).reverse) = _
        rw [List.map_reverse]
      simp only [iE, FL.e1, eV, zaf, List.getElem?_cons_zero, List.getElem?_cons_succ, rv, zf4]
    · rw [List.length_map, List.length_reverse]; unfold lim; omega
    · intro x hx
      obtain ⟨v, m, rfl⟩ := List.mem_map.mp hx
      have tv := zjN v (hv v (List.mem_reverse.mp m))
      refine ⟨[.val (tp v)], rfl, ?_, zdv (fun i p d e => by cases e) _ 0⟩
      simp only [zal, zac, zar, eV, zaf, List.getElem?_cons_zero, tv, zpd]
  have rv : zly (.list (vs.map fun v => trD (tre v))) = .ok (.list ((vs.reverse.map tre).map trD)) := by
    show R.ok (PyData.list (vs.map fun v => trD (tre v)).reverse) = _
    rw [<- List.map_reverse, List.map_map]; rfl
  have pl : Pl 5 (.list ((vs.reverse.map tre).map trD)) := zgD fun d m => by
    obtain ⟨t, mt, rfl⟩ := List.mem_map.mp m
    obtain ⟨v, mv, rfl⟩ := List.mem_map.mp mt
    have g := hv v (List.mem_reverse.mp mv)
    have ff := zsU v g.l5 g.lt g.le
    have ff' : (zce v && decide (tre v = plT zkj 6 v) && decide (dep (tre v) <= 4) && okL (tre v) && decide (nB (tre v) <= 5) && zpM (tre v) && decide (lB (tre v) < 64) && (isN (tre v) == decide (1 < v.length)) && zol v (zdS (zcX (tre v)))) = true := ff
    simp only [Bool.and_eq_true, decide_eq_true_eq] at ff'
    exact (zoM _).up ff'.1.1.1.1.1.1.2
  have eqq : eqD (.list ((vs.reverse.map tre).map trD)) (.list ((vs.reverse.map tre).map trD)) = .ok (.bool true) := by
    rw [zla pl pl]
    congr 2
    exact znG _
  have hb : zl4 [.val (.list (ns.map PyData.int)), .no, .no, .no, .no] = .ok (.rt (.bool true), [.val (.list (ns.map PyData.int)), .val (ltp vs), .ow false (.list (vs.map fun v => trD (tre v))), y3, y4]) := by
    unfold zl4
    rw [zaG s1, zaG s2, zaG s3]
    simp only [zaX, FL.e2, m1, zbf, zaf, q1, List.getElem?_cons_zero, List.getElem?_cons_succ, rv, eqq]
  exact zcw (k := 1) (n := 5) (ds := [.list (ns.map PyData.int)]) rfl hb
end K54
open PySem PySem.W PyProof.Rows
theorem PySem.W.Fast.tw1669496032899161088 : True := trivial
theorem PySem.W.Fast.tw18329129972264804293 : True := trivial
theorem PySem.W.Fast.tw3743540621201252391 : True := trivial
theorem PySem.W.Fast.tw17540113850183183463 : True := trivial
theorem PySem.W.Fast.tw14994785187289707339 : True := trivial
theorem PySem.W.Fast.tw14802772119651444844 : True := trivial
theorem PySem.W.Fast.tw16529692294266911118 : True := trivial
theorem PySem.W.Fast.tw11858072421608646318 : True := trivial
theorem PySem.W.Fast.tw8373756012630231439 : True := trivial
theorem PySem.W.Fast.tw10197317600133232015 : True := trivial
theorem PySem.W.Fast.tw11427915171902744464 : True := trivial
theorem PySem.W.Fast.tw3405994823789704692 : True := trivial
set_option maxRecDepth 100000 in
set_option maxHeartbeats 0 in
theorem PySem.Challenge.cw_swaprest_k54_least_trees_holds : PySem.Challenge.rw_swaprest_k54_least_trees.Holds := by
 w_on; o_law; k_head; (case hw => w_witness2)
 k_fill
 refine K54.walk (l := PySem.Challenge.rw_swaprest_k54_least_trees) K54.zo6 rfl rfl (fun w h Y => PySem.W.kIn_of Y) ?F
 case F =>
  intro w mg fa h KX G hmg
  refine' K54.all_mk KX G hmg ?zfV ?zco ?zd8 ?zfW ?zec ?zhg ?zcF ?zob ?zku ?zhf ?zcn ?ziQ ?zc3 ?zcE ?zeb ?zeZ ?zfY ?zfX ?zd9 ?zdz ?zfU ?zeY ?zc2 ?ziR ?zeX ?zed ?zeW ?zea ?zdA ?zoa ?zcp ?zrv ?zbp ?zbN ?zcA ?zeR ?zei ?ziA ?zm6 ?zq8 ?zj1 ?zaL ?zlH ?zgI ?zcZ ?zjf ?zo0 ?zdK ?zj0 ?zcx ?zmX ?zcy ?zm0 ?zmZ ?zmY ?zdq ?zkT ?zo1
  (case zfV => refine' FL.zaU KX G ?Zq ?Zl ?Zc ?Zk; (case Zq => k_is); (case Zl => k_is); (case Zc => k_is); (case Zk => k_is))
  (case zco => refine' FL.zaU KX G ?Zq ?Zl ?Zc ?Zk; (case Zq => k_is); (case Zl => k_is); (case Zc => k_is); (case Zk => k_is))
  (case zd8 => refine' FL.zaU KX G ?Zq ?Zl ?Zc ?Zk; (case Zq => k_is); (case Zl => k_is); (case Zc => k_is); (case Zk => k_is))
  (case zfW => refine' FL.zaU KX G ?Zq ?Zl ?Zc ?Zk; (case Zq => k_is); (case Zl => k_is); (case Zc => k_is); (case Zk => k_is))
  (case zec => refine' FL.zaU KX G ?Zq ?Zl ?Zc ?Zk; (case Zq => k_is); (case Zl => k_is); (case Zc => k_is); (case Zk => k_is))
  (case zhg => refine' FL.zaU KX G ?Zq ?Zl ?Zc ?Zk; (case Zq => k_is); (case Zl => k_is); (case Zc => k_is); (case Zk => k_is))
  (case zcF => refine' FL.zaU KX G ?Zq ?Zl ?Zc ?Zk; (case Zq => k_is); (case Zl => k_is); (case Zc => k_is); (case Zk => k_is))
  (case zob => refine' FL.zaU KX G ?Zq ?Zl ?Zc ?Zk; (case Zq => k_is); (case Zl => k_is); (case Zc => k_is); (case Zk => k_is))
  (case zku => refine' FL.zaU KX G ?Zq ?Zl ?Zc ?Zk; (case Zq => k_is); (case Zl => k_is); (case Zc => k_is); (case Zk => k_is))
  (case zhf => refine' FL.zaU KX G ?Zq ?Zl ?Zc ?Zk; (case Zq => k_is); (case Zl => k_is); (case Zc => k_is); (case Zk => k_is))
  (case zcn => refine' FL.zaU KX G ?Zq ?Zl ?Zc ?Zk; (case Zq => k_is); (case Zl => k_is); (case Zc => k_is); (case Zk => k_is))
  (case ziQ => refine' FL.zaU KX G ?Zq ?Zl ?Zc ?Zk; (case Zq => k_is); (case Zl => k_is); (case Zc => k_is); (case Zk => k_is))
  (case zc3 => refine' FL.zaU KX G ?Zq ?Zl ?Zc ?Zk; (case Zq => k_is); (case Zl => k_is); (case Zc => k_is); (case Zk => k_is))
  (case zcE => refine' FL.zaU KX G ?Zq ?Zl ?Zc ?Zk; (case Zq => k_is); (case Zl => k_is); (case Zc => k_is); (case Zk => k_is))
  (case zeb => refine' FL.zaU KX G ?Zq ?Zl ?Zc ?Zk; (case Zq => k_is); (case Zl => k_is); (case Zc => k_is); (case Zk => k_is))
  (case zeZ => refine' FL.zaU KX G ?Zq ?Zl ?Zc ?Zk; (case Zq => k_is); (case Zl => k_is); (case Zc => k_is); (case Zk => k_is))
  (case zfY => refine' FL.zaU KX G ?Zq ?Zl ?Zc ?Zk; (case Zq => k_is); (case Zl => k_is); (case Zc => k_is); (case Zk => k_is))
  (case zfX => refine' FL.zaU KX G ?Zq ?Zl ?Zc ?Zk; (case Zq => k_is); (case Zl => k_is); (case Zc => k_is); (case Zk => k_is))
  (case zd9 => refine' FL.zaU KX G ?Zq ?Zl ?Zc ?Zk; (case Zq => k_is); (case Zl => k_is); (case Zc => k_is); (case Zk => k_is))
  (case zdz => refine' FL.zaU KX G ?Zq ?Zl ?Zc ?Zk; (case Zq => k_is); (case Zl => k_is); (case Zc => k_is); (case Zk => k_is))
  (case zfU => refine' FL.zaU KX G ?Zq ?Zl ?Zc ?Zk; (case Zq => k_is); (case Zl => k_is); (case Zc => k_is); (case Zk => k_is))
  (case zeY => refine' FL.zaU KX G ?Zq ?Zl ?Zc ?Zk; (case Zq => k_is); (case Zl => k_is); (case Zc => k_is); (case Zk => k_is))
  (case zc2 => refine' FL.zaU KX G ?Zq ?Zl ?Zc ?Zk; (case Zq => k_is); (case Zl => k_is); (case Zc => k_is); (case Zk => k_is))
  (case ziR => refine' FL.zaU KX G ?Zq ?Zl ?Zc ?Zk; (case Zq => k_is); (case Zl => k_is); (case Zc => k_is); (case Zk => k_is))
  (case zeX => refine' FL.zaU KX G ?Zq ?Zl ?Zc ?Zk; (case Zq => k_is); (case Zl => k_is); (case Zc => k_is); (case Zk => k_is))
  (case zed => refine' FL.zaU KX G ?Zq ?Zl ?Zc ?Zk; (case Zq => k_is); (case Zl => k_is); (case Zc => k_is); (case Zk => k_is))
  (case zeW => refine' FL.zaU KX G ?Zq ?Zl ?Zc ?Zk; (case Zq => k_is); (case Zl => k_is); (case Zc => k_is); (case Zk => k_is))
  (case zea => refine' FL.zaU KX G ?Zq ?Zl ?Zc ?Zk; (case Zq => k_is); (case Zl => k_is); (case Zc => k_is); (case Zk => k_is))
  (case zdA => refine' FL.zaU KX G ?Zq ?Zl ?Zc ?Zk; (case Zq => k_is); (case Zl => k_is); (case Zc => k_is); (case Zk => k_is))
  (case zoa => refine' FL.zaU KX G ?Zq ?Zl ?Zc ?Zk; (case Zq => k_is); (case Zl => k_is); (case Zc => k_is); (case Zk => k_is))
  (case zcp => refine' FL.zaU KX G ?Zq ?Zl ?Zc ?Zk; (case Zq => k_is); (case Zl => k_is); (case Zc => k_is); (case Zk => k_is))
  (case zrv => refine' FL.zaU KX G ?Zq ?Zl ?Zc ?Zk; (case Zq => k_is); (case Zl => k_is); (case Zc => k_is); (case Zk => k_is))
  (case zbp => k_is)
  (case zbN => k_is)
  (case zcA => k_is)
  (case zeR => k_is)
  (case zei => k_is)
  (case ziA => k_is)
  (case zm6 => k_is)
  (case zq8 => k_is)
  (case zj1 => k_is)
  (case zaL => k_is)
  (case zlH => k_is)
  (case zgI => k_is)
  (case zcZ => k_is)
  (case zjf => k_is)
  (case zo0 => k_is)
  (case zdK => k_is)
  (case zj0 => k_is)
  (case zcx => k_is)
  (case zmX => k_is)
  (case zcy => k_is)
  (case zm0 => k_is)
  (case zmZ => k_is)
  (case zmY => k_is)
  (case zdq => k_is)
  (case zkT => k_is)
  (case zo1 => k_is)
