import PyProof.Rows.All
import Wide.All
import OpenK.AllK
import Wide.FinOn
import Lean
import PyProof.EqAt
import PyProof.EqKinds
import PyProof.TupleCall
import PyProof.EqLayable
import PyProof.StationsW
import PyProof.NsDelKeeps
import PyProof.ExcArgsOwn
import PyProof.ExcAttrAll.ValueError
import PySem.Challenge.RW_swaprest_k01_numbers
-- CHANGE: your row's module here, as the last of these rows
set_option Elab.async false
set_option linter.all false
set_option maxRecDepth 100000
/-! THE HAND LAYER, for ints, bools, texts, own classes, LISTS and tuples (index, slices, in, append, pop ..), calls, loops. Paste it whole ahead of your own text; what your proof does not reach may be deleted. -/
namespace L2
open PySem PySem.Spec PyProof.Rows

/-- a key: an int or a str -/
abbrev Key := Sum Int Str
def keyIs : Key → Value → Bool
  | .inl k, v => Value.isInt k v
  | .inr x, v => Value.isStrOf x v
def keyH (w : World) : Key → Int
  | .inl k => hashInt k
  | .inr x => hashStr w x
theorem keyIs_shape : ∀ {k : Key} {v : Value}, keyIs k v = true → (∃ i t, k = Sum.inl i ∧ v = Value.int i t) ∨ (∃ x t, k = Sum.inr x ∧ v = Value.str x t)
  | .inl i, v, h => by
    obtain ⟨t, e⟩ := Value.isInt_shape (k := i) (v := v) h
    exact .inl ⟨i, t, rfl, e⟩
  | .inr x, v, h => by
    obtain ⟨t, e⟩ := Value.isStrOf_shape (x := x) (v := v) h
    exact .inr ⟨x, t, rfl, e⟩
theorem keyIs_int (i : Int) (t : Tok) : keyIs (.inl i) (.int i t) = true := by simp [keyIs, Value.isInt]
theorem keyIs_str (x : Str) (t : Tok) : keyIs (.inr x) (.str x t) = true := by simp [keyIs, Value.isStrOf]
theorem key_ll (a b : Int) : decide ((Sum.inl a : Key) = Sum.inl b) = (a == b) := by
  by_cases e : a = b
  · subst e; simp
  · have h : ¬ (Sum.inl a : Key) = Sum.inl b := fun q => e (Sum.inl.inj q)
    rw [decide_eq_false h]
    exact (beq_eq_false_iff_ne.mpr e).symm
theorem key_rr (a b : Str) : decide ((Sum.inr a : Key) = Sum.inr b) = decide (a = b) := by
  by_cases e : a = b
  · subst e; simp
  · have h : ¬ (Sum.inr a : Key) = Sum.inr b := fun q => e (Sum.inr.inj q)
    rw [decide_eq_false h, decide_eq_false e]
theorem key_lr (a : Int) (b : Str) : decide ((Sum.inl a : Key) = Sum.inr b) = false := decide_eq_false (fun q => nomatch q)
theorem key_rl (a : Str) (b : Int) : decide ((Sum.inr a : Key) = Sum.inl b) = false := decide_eq_false (fun q => nomatch q)

def mixKind (prog : Program) (w : World) : PySem.KeyKind prog w Key where
  is := keyIs
  hash := keyH w
  inj := fun v a b ha hb => by
    rcases keyIs_shape ha with ⟨i, t, rfl, rfl⟩ | ⟨x, t, rfl, rfl⟩
    · rcases keyIs_shape hb with ⟨j, u, rfl, e⟩ | ⟨y, u, rfl, e⟩
      · injection e with e1 _; rw [e1]
      · exact nomatch e
    · rcases keyIs_shape hb with ⟨j, u, rfl, e⟩ | ⟨y, u, rfl, e⟩
      · exact nomatch e
      · injection e with e1 _; rw [e1]
  byValue := fun k v h => by
    rcases keyIs_shape h with ⟨i, t, rfl, rfl⟩ | ⟨x, t, rfl, rfl⟩ <;> rfl
  pyHash := fun hv h => by
    rcases keyIs_shape hv with ⟨i, t, rfl, rfl⟩ | ⟨x, t, rfl, rfl⟩
    · exact wpAny_pyHash_int h
    · exact wpAny_pyHash_str h
  eqBool := fun hu hv h => by
    rcases keyIs_shape hu with ⟨i, t, rfl, rfl⟩ | ⟨x, t, rfl, rfl⟩
    · rcases keyIs_shape hv with ⟨j, u, rfl, rfl⟩ | ⟨y, u, rfl, rfl⟩
      · rw [key_ll] at h; exact wpAny_eqBool_int h
      · rw [key_lr] at h; exact SeqAt.EqAt.int_str i t y u _ _ _ _ h
    · rcases keyIs_shape hv with ⟨j, u, rfl, rfl⟩ | ⟨y, u, rfl, rfl⟩
      · rw [key_rl] at h; exact SeqAt.EqAt.str_int x t j u _ _ _ _ h
      · rw [key_rr] at h; exact wpAny_eqBool_str h
  «strs» := fun k x t v h => by
    rcases keyIs_shape h with ⟨i, u, rfl, e⟩ | ⟨y, u, rfl, e⟩
    · exact nomatch e
    · injection e with e1 _
      subst e1
      cases v <;> rfl

theorem mixKind_is (prog : Program) (w : World) (k : Key) (v : Value) : (mixKind prog w).is k v = keyIs k v := rfl
theorem mixKind_int (prog : Program) (w : World) (i : Int) (t : Tok) : (mixKind prog w).is (.inl i) (.int i t) = true := keyIs_int i t
theorem mixKind_str (prog : Program) (w : World) (x : Str) (t : Tok) : (mixKind prog w).is (.inr x) (.str x t) = true := keyIs_str x t
end L2

namespace L2
open PySem PySem.Spec PyProof.Rows

/-- a value, without the heap -/
inductive V where
  | non | bl (b : Bool) | int (i : Int) | str (x : Str) | byt (b : Array UInt8) | flt (b : UInt64) | ref (a : Addr) | ty (n : String)
  deriving DecidableEq

def RelV : V → Value → Prop
  | .non, u => u = Value.none
  | .bl b, u => u = Value.bool b
  | .int i, u => ∃ t, u = Value.int i t
  | .str x, u => ∃ t, u = Value.str x t
  | .byt b, u => ∃ t, u = Value.bytes b t
  | .flt b, u => ∃ t, u = Value.float b t
  | .ref a, u => u = Value.ref a
  | .ty n, u => u = Value.type n

abbrev Vals : List V → List Value → Prop := Paired RelV
theorem Vals.length {xs : List V} {us : List Value} (r : Vals xs us) : xs.length = us.length := Paired.length r
theorem Vals.get : ∀ {xs : List V} {us : List Value} {i : Nat} {x : V}, Vals xs us → xs[i]? = some x → ∃ u, us[i]? = some u ∧ RelV x u
  | _, _, _, _, .nil, e => by simp at e
  | _, _, 0, _, .cons r _, e => by simp at e; subst e; exact ⟨_, rfl, r⟩
  | _, _, i + 1, x, .cons _ t, e => by
    obtain ⟨u, h1, h2⟩ := Vals.get (i := i) (x := x) t (by simpa using e)
    exact ⟨u, by simpa using h1, h2⟩
theorem Vals.set {x : V} {u : Value} (r : RelV x u) : ∀ {xs : List V} {us : List Value} (i : Nat), Vals xs us → Vals (xs.set i x) (us.set i u)
  | _, _, _, .nil => .nil
  | _, _, 0, .cons _ t => .cons r t
  | _, _, i + 1, .cons q t => .cons q (Vals.set r i t)
theorem Vals.append : ∀ {xs ys : List V} {us ws : List Value}, Vals xs us → Vals ys ws → Vals (xs ++ ys) (us ++ ws)
  | _, _, _, _, .nil, s => s
  | _, _, _, _, .cons r t, s => .cons r (Vals.append t s)
theorem Vals.take : ∀ {xs : List V} {us : List Value} (n : Nat), Vals xs us → Vals (xs.take n) (us.take n)
  | _, _, 0, _ => .nil
  | _, _, _ + 1, .nil => .nil
  | _, _, n + 1, .cons r t => .cons r (Vals.take n t)
theorem Vals.drop : ∀ {xs : List V} {us : List Value} (n : Nat), Vals xs us → Vals (xs.drop n) (us.drop n)
  | _, _, 0, r => r
  | _, _, _ + 1, .nil => .nil
  | _, _, n + 1, .cons _ t => Vals.drop n t
theorem Vals.none_of : ∀ {xs : List V} {us : List Value} {i : Nat}, Vals xs us → xs[i]? = none → us[i]? = none := fun {xs us i} r e => by
  have h1 := r.length
  have h2 : xs.length ≤ i := List.getElem?_eq_none_iff.mp e
  exact List.getElem?_eq_none_iff.mpr (by omega)

def RelO : Option V → Option Value → Prop
  | some v, some u => RelV v u
  | none, none => True
  | _, _ => False
def KV {κ : Type} : List (κ × V) → List (κ × Value) → Prop := Paired fun (p : κ × V) (q : κ × Value) => p.1 = q.1 ∧ RelV p.2 q.2

/-- a key of a dict (00_mix): an int or a text -/
def kV : Key → V
  | .inl i => .int i
  | .inr x => .str x

/-- what stands at a tracked address -/
inductive HO where
  /-- a list -/
  | lst (xs : List V)
  /-- a tuple (never changes) -/
  | tup (xs : List V)
  /-- a dict whose keys are ints and texts; one whose keys are tuples of ints and texts (the empty one is both) -/
  | dK (kvs : List (Key × V)) | dT (kvs : List (List Key × V))
  /-- a set of ints: its members, its size -/
  | set (S : Int → Bool) (n : Nat)
  /-- an instance of the class at C, its dict at dx, its attributes -/
  | ins (C dx : Addr) (fs : List (Str × V))
  /-- the dict of the instance at x -/
  | own (x : Addr)
  /-- the dict of an exception -/
  | xd (fs : List (Str × V))
  /-- a bound method, f of x -/
  | met (f x : Addr)
  /-- a range object lo, lo + 1, .. below hi -/
  | rng (lo hi : Int)
  /-- a thing that is known to the object (the script; a dict while a loop walks it): read, never written while it is so -/
  | frz (o : Obj) (u : HO)
  /-- a code object's table -/
  | tbl (ps : Array Value)
  /-- any other thing, by what is true of its one object (a def of one's own: SetO a S n := HO.ext fun h => ..) -/
  | ext (φ : Heap → Prop)

abbrev Hp := Addr → Option HO
def upd (H : Hp) (a : Addr) (o : HO) : Hp := fun b => if b = a then some o else H b
theorem upd_same {H : Hp} {a : Addr} {o : HO} : upd H a o a = some o := by unfold upd; rw [if_pos rfl]
theorem upd_ne {H : Hp} {a b : Addr} {o : HO} (h : b ≠ a) : upd H a o b = H b := by unfold upd; rw [if_neg h]
theorem upd_upd {H : Hp} {a : Addr} {o u : HO} : upd (upd H a o) a u = upd H a u := by
  funext b; unfold upd; split <;> rfl
/-- two objects of different content stand apart -/
theorem ne_of {H : Hp} {a b : Addr} {o u : HO} (h : H a = some o) (h' : H b = some u) (d : o ≠ u) : a ≠ b := by
  intro e; subst e; rw [h] at h'; exact d (Option.some.inj h')
theorem ne_of_none {H : Hp} {a b : Addr} {o : HO} (h : H a = some o) (h' : H b = none) : a ≠ b := by
  intro e; subst e; rw [h] at h'; cases h'

section
variable (P : Program) (w : World)
def ObjOk (H : Hp) (h : Heap) (a : Addr) : HO → Prop
  | .lst xs => xs.length ≤ sizeLine ∧ ∃ (its : List Value) (n : Nat), Vals xs its ∧ h.get? a = some { cls := .type "list", data := .seq its.toArray n }
  | .tup xs => xs.length ≤ sizeLine ∧ ∃ its : List Value, Vals xs its ∧ IsTup h a its.toArray
  | .dK kvs => kvs.length ≤ sizeLine ∧ (a == sysModules) = false ∧ ∃ vs, KV kvs vs ∧ h.DictOf (mixKind P w) a vs
  | .dT kvs => kvs.length ≤ sizeLine ∧ (a == sysModules) = false ∧ ∃ xs : List (List Key × Addr × Value),
      Paired (fun (p : List Key × V) (q : List Key × Addr × Value) => p.1 = q.1 ∧ H q.2.1 = some (.tup (p.1.map kV)) ∧ RelV p.2 q.2.2) kvs xs ∧
      ∃ o es ep, h.get? a = some o ∧ o.ExactDict ∧ o.data = .dict es ep ∧ es.toList = xs.map (entryOfKey (tupleKind (mixKind P w))) ∧ (xs.map (·.1)).Nodup
  | .set S n => h.SetOf (intKind P w) a S n
  | .ins C dx fs => H dx = some (.own a) ∧ fs.length ≤ 1000 ∧ dx ≠ a ∧ h.get? a = some (PySem.W.instObj C dx) ∧
      ∃ mA, h.Ns1 dx mA ∧ (∀ f, RelO (fs.lookup f) (mA f)) ∧ PySem.Within mA (fs.map (·.1))
  | .own _ => ∃ o, h.get? a = some o
  | .xd fs => ∃ mA, h.Ns1 a mA ∧ ∀ f, RelO (fs.lookup f) (mA f)
  | .rng lo hi => ∃ t u v, h.get? a = some { cls := .type "range", data := .fields #[.int lo t, .int hi u, .int 1 v] }
  | .frz o u => h.get? a = some o ∧ ObjOk H h a u
  | .tbl ps => h.get? a = some { cls := .none, data := .fields ps }
  | .met f x => h.get? a = some (PySem.W.methodObj (.ref f) (.ref x))
  | .ext φ => φ h ∧ (∃ o, h.get? a = some o) ∧ ∀ h1 h2 : Heap, φ h1 → (∀ o, h1.get? a = some o → h2.get? a = some o) → φ h2
/-- the abstract heap is held -/
def HOk (H : Hp) (h : Heap) : Prop := ∀ a o, H a = some o → ObjOk P w H h a o
end

section
variable {P : Program} {w : World} {H H' : Hp} {h h' : Heap} {a : Addr} {o : HO}
theorem ObjOk.lt (x : ObjOk P w H h a o) : a < h.objs.size := by
  cases o with
  | lst xs => obtain ⟨_, _, _, _, e⟩ := x; exact Heap.lt_size e
  | tup xs => obtain ⟨_, _, _, p⟩ := x; exact p.lt
  | dK kvs => obtain ⟨_, _, _, _, o, _, _, e, _⟩ := x; exact Heap.lt_size e
  | dT kvs => obtain ⟨_, _, _, _, o, _, _, e, _⟩ := x; exact Heap.lt_size e
  | set S n => obtain ⟨o, _, _, _, e, _⟩ := x; exact Heap.lt_size e
  | ins C dx fs => obtain ⟨_, _, _, e, _⟩ := x; exact Heap.lt_size e
  | own y => obtain ⟨_, e⟩ := x; exact Heap.lt_size e
  | xd fs => obtain ⟨_, ⟨_, _, _, e, _⟩, _⟩ := x; exact Heap.lt_size e
  | rng lo hi => obtain ⟨_, _, _, e⟩ := x; exact Heap.lt_size e
  | frz ob u => obtain ⟨e, _⟩ := x; exact Heap.lt_size e
  | tbl ps => exact Heap.lt_size (show h.get? a = some _ from x)
  | met f y => exact Heap.lt_size (show h.get? a = some _ from x)
  | ext φ => obtain ⟨_, ⟨_, e⟩, _⟩ := x; exact Heap.lt_size e
theorem Paired.mapP {α β : Type} {F G : α → β → Prop} : ∀ {l₁ : List α} {l₂ : List β}, Paired F l₁ l₂ → (∀ a b, F a b → G a b) → Paired G l₁ l₂
  | _, _, .nil, _ => .nil
  | _, _, .cons r t, f => .cons (f _ _ r) (Paired.mapP t f)
theorem Paired.imp' {α β : Type} {F G : α → β → Prop} (f : ∀ a b, F a b → G a b) {l₁ : List α} {l₂ : List β} (r : Paired F l₁ l₂) : Paired G l₁ l₂ := Paired.mapP r f
/-- what an object's description leans on: its own object, its own dict, the tuples -/
theorem ObjOk.stay (x : ObjOk P w H h a o) (k : ∀ b u, (b = a ∨ H b = some (.own a)) → h.get? b = some u → h'.get? b = some u)
    (ho : ∀ b, H b = some (.own a) → H' b = some (.own a)) (ht : ∀ b xs, H b = some (.tup xs) → H' b = some (.tup xs)) : ObjOk P w H' h' a o := by
  induction o with
  | lst xs => obtain ⟨z, its, n, r, e⟩ := x; exact ⟨z, its, n, r, k _ _ (.inl rfl) e⟩
  | tup xs => obtain ⟨z, its, r, ob, e, c⟩ := x; exact ⟨z, its, r, ob, k _ _ (.inl rfl) e, c⟩
  | dK kvs => obtain ⟨z, y, vs, r, ob, es, ep, e, c⟩ := x; exact ⟨z, y, vs, r, ob, es, ep, k _ _ (.inl rfl) e, c⟩
  | dT kvs =>
    obtain ⟨z, y, xs, r, ob, es, ep, e, c⟩ := x
    exact ⟨z, y, xs, Paired.mapP r fun p q z => ⟨z.1, ht _ _ z.2.1, z.2.2⟩, ob, es, ep, k _ _ (.inl rfl) e, c⟩
  | set S n => obtain ⟨ob, es, ep, t, e, c⟩ := x; exact ⟨ob, es, ep, t, k _ _ (.inl rfl) e, c⟩
  | ins C dx fs =>
    obtain ⟨d, z, ne, e, mA, ⟨od, es, ep, e2, c⟩, r⟩ := x
    exact ⟨ho _ d, z, ne, k _ _ (.inl rfl) e, mA, ⟨od, es, ep, k _ _ (.inr d) e2, c⟩, r⟩
  | own y => obtain ⟨ob, e⟩ := x; exact ⟨ob, k _ _ (.inl rfl) e⟩
  | xd fs => obtain ⟨mA, ⟨od, es, ep, e, c⟩, r⟩ := x; exact ⟨mA, ⟨od, es, ep, k _ _ (.inl rfl) e, c⟩, r⟩
  | rng lo hi => obtain ⟨t, u, v, e⟩ := x; exact ⟨t, u, v, k _ _ (.inl rfl) e⟩
  | frz ob u ih => obtain ⟨e, q⟩ := x; exact ⟨k _ _ (.inl rfl) e, ih q⟩
  | tbl ps =>
    have e : h.get? a = some { cls := .none, data := .fields ps } := x
    show h'.get? a = some { cls := .none, data := .fields ps }
    exact k a _ (.inl rfl) e
  | met f y =>
    have e : h.get? a = some (PySem.W.methodObj (.ref f) (.ref y)) := x
    show h'.get? a = some (PySem.W.methodObj (.ref f) (.ref y))
    exact k a _ (.inl rfl) e
  | ext φ => obtain ⟨p, ⟨o, e⟩, st⟩ := x; exact ⟨st _ _ p fun o q => k _ _ (.inl rfl) q, ⟨o, k _ _ (.inl rfl) e⟩, st⟩
theorem HOk.lt (x : HOk P w H h) (e : H a = some o) : a < h.objs.size := (x a o e).lt
theorem HOk.fresh (x : HOk P w H h) (e : h.objs.size ≤ a) : H a = none := by
  cases q : H a with
  | none => rfl
  | some u => exact absurd (Nat.lt_of_lt_of_le (x.lt q) e) (Nat.lt_irrefl _)
/-- every object of the heap is kept -/
theorem HOk.kept (x : HOk P w H h) (k : ∀ b u, h.get? b = some u → h'.get? b = some u) : HOk P w H h' := fun a o e =>
  (x a o e).stay (fun b u _ q => k b u q) (fun _ q => q) fun _ _ q => q
/-- a new object is laid and tracked -/
theorem HOk.laid (x : HOk P w H h) (k : ∀ b u, h.get? b = some u → h'.get? b = some u) (hp : h.objs.size ≤ a) (new : ObjOk P w (upd H a o) h' a o) : HOk P w (upd H a o) h' := fun b u e => by
  have hn := x.fresh hp
  by_cases hb : b = a
  · subst hb; rw [upd_same] at e; cases e; exact new
  · rw [upd_ne hb] at e
    exact (x b u e).stay (fun c v _ q => k c v q) (fun c q => by rw [upd_ne (ne_of_none q hn)]; exact q) fun c xs q => by rw [upd_ne (ne_of_none q hn)]; exact q
end

/-- what may be read as u: it is u, or a known u -/
def Rd (H : Hp) (a : Addr) (u : HO) : Prop := H a = some u ∨ ∃ o, H a = some (.frz o u)
theorem Rd.of {H : Hp} {a : Addr} {u : HO} (h : H a = some u) : Rd H a u := .inl h
theorem Rd.ok {P : Program} {w : World} {H : Hp} {h : Heap} {a : Addr} {u : HO} (r : Rd H a u) (x : HOk P w H h) : ObjOk P w H h a u := by
  rcases r with r | ⟨o, r⟩
  · exact x a u r
  · obtain ⟨_, q⟩ := x a _ r
    exact q
/-- what may be written -/
def Mut : Option HO → Prop
  | some (.lst _) => True
  | some (.dK _) => True
  | some (.dT _) => True
  | some (.set _ _) => True
  | some (.ins _ _ _) => True
  | some (.ext _) => True
  | _ => False
section
variable {P : Program} {w : World} {H : Hp} {h h' : Heap} {x e : Addr} {o' : HO}
/-- the object at e is changed: x itself, or the dict of the instance x -/
theorem HOk.write (ok : HOk P w H h) (mu : Mut (H x)) (he : e = x ∨ H e = some (.own x)) (k : ∀ b u, b ≠ e → h.get? b = some u → h'.get? b = some u) (heo : ∃ u, h'.get? e = some u)
    (new : ObjOk P w (upd H x o') h' x o') : HOk P w (upd H x o') h' := fun b u q => by
  have nown : ∀ c y, H c = some (.own y) → c ≠ x := fun c y r z => by subst z; rw [r] at mu; exact mu
  have ntup : ∀ c xs, H c = some (.tup xs) → c ≠ x := fun c xs r z => by subst z; rw [r] at mu; exact mu
  by_cases hb : b = x
  · subst hb; rw [upd_same] at q; cases q; exact new
  · rw [upd_ne hb] at q
    by_cases hbe : b = e
    · have q' : H b = some (.own x) := by
        rcases he with z | z
        · exact absurd (hbe.trans z) hb
        · rw [hbe]; exact z
      rw [q] at q'; cases q'
      obtain ⟨v, hv⟩ := heo
      exact ⟨v, by rw [hbe]; exact hv⟩
    · refine (ok b u q).stay (fun c v hc r => k c v ?_ r) (fun c r => by rw [upd_ne (nown c b r)]; exact r) fun c xs r => by rw [upd_ne (ntup c xs r)]; exact r
      rcases hc with rfl | hc
      · exact hbe
      · rintro rfl
        rcases he with z | z
        · exact nown c b hc z
        · rw [hc] at z; cases z; exact hb rfl
end

/-! ### kept unless tracked; of the frames at fs (the callers') the slots may change (an exception that passes writes there); of the records at ex (iterators) nothing is said -/
structure Un (fs ex : List Addr) (H H' : Hp) (h h' : Heap) : Prop where
  keep : ∀ b o, h.get? b = some o → H b = none → b ∉ fs → b ∉ ex → h'.get? b = some o
  slot : ∀ b o, h.get? b = some o → H b = none → b ∈ fs → b ∉ ex → ∃ sl, h'.get? b = some { o with slots := sl }
  free : ∀ b o, h.get? b = some o → H b = none → b ∉ ex → H' b = none
  there : ∀ b o, h.get? b = some o → b ∉ ex → ∃ o', h'.get? b = some o'
  tups : ∀ b xs, H b = some (.tup xs) → H' b = some (.tup xs)
  frzs : ∀ b o u, H b = some (.frz o u) → H' b = some (.frz o u)
  tbls : ∀ b ps, H b = some (.tbl ps) → ∃ more, H' b = some (.tbl (ps ++ more))
section
variable {fs fs' ex ex' : List Addr} {H H1 H2 : Hp} {h h1 h2 h' : Heap} {a x e : Addr} {o : HO}
theorem Un.any (u : Un fs ex H H1 h h1) {b : Addr} {ob : Obj} (q : h.get? b = some ob) (n : H b = none) (hx : b ∉ ex) : ∃ sl, h1.get? b = some { ob with slots := sl } := by
  by_cases hb : b ∈ fs
  · exact u.slot b ob q n hb hx
  · exact ⟨ob.slots, u.keep b ob q n hb hx⟩
theorem Un.trans (a : Un fs ex H H1 h h1) (b : Un fs ex H1 H2 h1 h2) : Un fs ex H H2 h h2 where
  keep := fun c ob q n hc hx => b.keep c ob (a.keep c ob q n hc hx) (a.free c ob q n hx) hc hx
  slot := fun c ob q n hc hx => by
    obtain ⟨sl, e1⟩ := a.slot c ob q n hc hx
    obtain ⟨sl', e2⟩ := b.slot c _ e1 (a.free c ob q n hx) hc hx
    exact ⟨sl', e2⟩
  free := fun c ob q n hx => by
    obtain ⟨o', e1⟩ := a.there c ob q hx
    exact b.free c o' e1 (a.free c ob q n hx) hx
  there := fun c ob q hx => by
    obtain ⟨o', e1⟩ := a.there c ob q hx
    exact b.there c o' e1 hx
  tups := fun c xs q => b.tups c xs (a.tups c xs q)
  frzs := fun c ob xs q => b.frzs c ob xs (a.frzs c ob xs q)
  tbls := fun c ps q => by
    obtain ⟨m1, e1⟩ := a.tbls c ps q
    obtain ⟨m2, e2⟩ := b.tbls c _ e1
    exact ⟨m1 ++ m2, by rw [e2, Array.append_assoc]⟩
theorem Un.kept (k : ∀ b u, h.get? b = some u → h'.get? b = some u) : Un fs ex H H h h' :=
  ⟨fun b ob q _ _ _ => k b ob q, fun b ob q _ _ _ => ⟨ob.slots, k b ob q⟩, fun _ _ _ n _ => n, fun b ob q _ => ⟨ob, k b ob q⟩, fun _ _ q => q, fun _ _ _ q => q, fun _ ps q => ⟨#[], by rw [q]; simp⟩⟩
theorem Un.refl : Un fs ex H H h h := Un.kept fun _ _ q => q
theorem Un.laid (k : ∀ b u, h.get? b = some u → h'.get? b = some u) (hp : h.objs.size ≤ a) (hn : H a = none) : Un fs ex H (upd H a o) h h' where
  keep := fun b u q _ _ _ => k b u q
  slot := fun b u q _ _ _ => ⟨u.slots, k b u q⟩
  free := fun b u q n _ => by rw [upd_ne (Nat.ne_of_lt (Nat.lt_of_lt_of_le (Heap.lt_size q) hp))]; exact n
  there := fun b u q _ => ⟨u, k b u q⟩
  tups := fun b xs q => by rw [upd_ne (ne_of_none q hn)]; exact q
  frzs := fun b u xs q => by rw [upd_ne (ne_of_none q hn)]; exact q
  tbls := fun b ps q => ⟨#[], by rw [upd_ne (ne_of_none q hn), q]; simp⟩
theorem Un.write (mu : Mut (H x)) (he : e = x ∨ H e = some (.own x)) (k : ∀ b u, b ≠ e → h.get? b = some u → h'.get? b = some u) (heo : ∃ u, h'.get? e = some u) : Un fs ex H (upd H x o) h h' := by
  have hx : ∀ b, H b = none → b ≠ x := fun b n z => by subst z; rw [n] at mu; exact mu
  have hb : ∀ b, H b = none → b ≠ e := fun b n z => by
    subst z
    rcases he with r | r
    · exact hx b n r
    · rw [n] at r; cases r
  have hm : ∀ b u, H b = some u → ¬ Mut (some u) → b ≠ x := fun b u q nm z => by subst z; rw [q] at mu; exact nm mu
  refine ⟨fun b u q n _ _ => k b u (hb b n) q, fun b u q n _ _ => ⟨u.slots, k b u (hb b n) q⟩, fun b u q n _ => by rw [upd_ne (hx b n)]; exact n, fun b u q _ => ?_,
    fun b xs q => by rw [upd_ne (hm b _ q fun z => z)]; exact q, fun b u xs q => by rw [upd_ne (hm b _ q fun z => z)]; exact q, fun b ps q => ⟨#[], by rw [upd_ne (hm b _ q fun z => z), q]; simp⟩⟩
  by_cases hbe : b = e
  · subst hbe; exact heo
  · exact ⟨u, k b u hbe q⟩
theorem Un.mono (u : Un fs ex H H1 h h1) (hs : ∀ b ∈ fs, b ∈ fs') (hx : ∀ b ∈ ex, b ∈ ex') : Un fs' ex' H H1 h h1 :=
  ⟨fun b ob q n hb he => u.keep b ob q n (fun z => hb (hs b z)) fun z => he (hx b z), fun _ _ q n _ he => u.any q n fun z => he (hx _ z), fun b ob q n he => u.free b ob q n fun z => he (hx b z), fun b ob q he => u.there b ob q fun z => he (hx b z), u.tups, u.frzs, u.tbls⟩
end

/-! ### the heap without what is tracked -/
def trk (h : Heap) (H : Hp) : List Addr := (List.range h.objs.size).filter fun a => (H a).isSome
def hidT (h : Heap) (H : Hp) : Heap := PySem.W.hideAll h (trk h H)
theorem hidT_size (h : Heap) (H : Hp) : (hidT h H).objs.size = h.objs.size := PySem.W.hideAll_size _ _
theorem hidT_get {h : Heap} {H : Hp} {b : Addr} {o : Obj} (e : h.get? b = some o) (n : H b = none) : (hidT h H).get? b = some o :=
  PySem.W.hideAll_get _ e fun hm => by
    have q : (H b).isSome = true := (List.mem_filter.mp hm).2
    rw [n] at q; simp at q
theorem of_hidT {h : Heap} {H : Hp} {b : Addr} {o : Obj} (e : (hidT h H).get? b = some o) : h.get? b = some o ∧ H b = none := by
  have e' : h.get? b = some o := PySem.W.of_hideAll (trk h H) e
  refine ⟨e', ?_⟩
  cases q : H b with
  | none => rfl
  | some x =>
    have hm : b ∈ trk h H := List.mem_filter.mpr ⟨List.mem_range.mpr (Heap.lt_size e'), by simp [q]⟩
    have z : (hidT h H).get? b = none := PySem.W.hideAll_none (trk h H) hm
    rw [z] at e; cases e

/-! ### OpenK's ledger, filled with every new object but one -/
def allNews (g h : Heap) (L : Addr) : List (Addr × Obj) := (List.range h.objs.size).filterMap fun a => if a = L ∨ (g.get? a).isSome = true then none else (h.get? a).map fun o => (a, o)
theorem mem_allNews {g h : Heap} {L a : Addr} {o : Obj} (h1 : a ≠ L) (h2 : g.get? a = none) (h3 : h.get? a = some o) : (a, o) ∈ allNews g h L :=
  List.mem_filterMap.mpr ⟨a, List.mem_range.mpr (Heap.lt_size h3), by simp [h1, h2, h3]⟩
theorem of_mem_allNews {g h : Heap} {L : Addr} {p : Addr × Obj} (hp : p ∈ allNews g h L) : p.1 ≠ L ∧ g.get? p.1 = none ∧ h.get? p.1 = some p.2 := by
  obtain ⟨b, _, e⟩ := List.mem_filterMap.mp hp
  split at e
  · cases e
  · rename_i hn
    cases q : h.get? b with
    | none => rw [q] at e; simp at e
    | some u =>
      rw [q] at e
      simp only [Option.map_some, Option.some.injEq] at e
      subst e
      refine ⟨fun z => hn (.inl z), ?_, q⟩
      show g.get? b = none
      cases r : g.get? b with
      | none => rfl
      | some v => exact (hn (.inr (by simp [r]))).elim
def rest (g h : Heap) (L d : Addr) : List (Addr × Obj) := (allNews g h L).filter fun p => decide (p.1 ≠ d)
theorem rest_ne {g h : Heap} {L d : Addr} : ∀ p ∈ rest g h L d, p.1 ≠ d := fun p hp => of_decide_eq_true (List.mem_filter.mp hp).2
theorem mem_rest {g h : Heap} {L d a : Addr} {o : Obj} (h1 : a ≠ L) (h2 : g.get? a = none) (h3 : h.get? a = some o) (h4 : a ≠ d) : (a, o) ∈ rest g h L d :=
  List.mem_filter.mpr ⟨mem_allNews h1 h2 h3, decide_eq_true h4⟩
theorem news_all {g h : Heap} {L : Addr} : News g L h (allNews g h L) := fun p hp => let ⟨a, b, c⟩ := of_mem_allNews hp; ⟨c, a, b⟩
theorem news_at {g h : Heap} {L d : Addr} {o : Obj} (h1 : d ≠ L) (h2 : g.get? d = none) (h3 : h.get? d = some o) : News g L h ((d, o) :: rest g h L d) := fun p hp => by
  rcases List.mem_cons.mp hp with rfl | hp
  · exact ⟨h3, h1, h2⟩
  · exact news_all p (List.mem_filter.mp hp).1
/-- behind a rule that changed d alone: all else but the frame is kept -/
theorem kept_of_news {g h h' : Heap} {L d : Addr} {m : Str → Option Value} (k : ∀ b o, g.get? b = some o → h.get? b = some o) (F : Fr g L h' m) (N : News g L h' (rest g h L d)) :
    ∀ b o, b ≠ L → b ≠ d → h.get? b = some o → h'.get? b = some o := fun b o h1 h2 e => by
  cases q : g.get? b with
  | some u =>
    have := k b u q
    rw [e] at this; cases this
    exact F.keep b _ q
  | none => exact (N (b, o) (mem_rest h1 q e h2)).1
end L2

namespace L2
open PySem PySem.Spec PyProof.Rows

/-- the module's facts, over the base: the heap at the law's entry without what is tracked there -/
structure Mod (K : PySem.W.Frag) (mg : Str → Option Value) (base : Heap) : Prop where
  kin : K.In base
  glob : base.Ns mainGlobals mg
  blt : ∃ mb, base.Ns builtinsNs mb ∧ ∀ x : Str, x ≠ "__name__" → mb x = bootBuiltins x
  nolimit : base.NoLimit

/-- the context: a def's body (or a comprehension's block) running. base: fixed through the whole law; s₀, H₀: the entry; outer: the frames whose slots others may change (a def's callers); stack: all frames that run;
   ex: iterators that were made ahead of the entry and are walked here (a comprehension's); fn: the names whose cells were made at the entry (a def: all; a comprehension's block: its own); calm: not within an except suite; pn: pins that every state bears; xe: what is wanted of an exception that leaves the code -/
structure Cx where
  prog : Program
  w : World
  K : PySem.W.Frag
  mg : Str → Option Value
  base : Heap
  A : Around
  N : List Str
  s₀ : Shared
  H₀ : Hp
  env : Env
  outer : List Env
  stack : List Env
  ex : List Addr
  fn : Str → Bool
  calm : Bool
  pn : List (Addr × Obj)
  xe : Value → Shared → Prop
/-- the callers' frames -/
def frs (l : List Env) : List Addr := l.filterMap (·.frame)
abbrev Cx.fs (X : Cx) : List Addr := frs X.outer

def Vis (sc : Scope) (x : Str) : Prop := sc.names.lookup x = some .local ∨ sc.names.lookup x = some .cell ∨ sc.names.lookup x = some .free
def Loc (sc : Scope) (x : Str) : Prop := sc.names.lookup x = some .local ∨ sc.names.lookup x = some .cell
def Look (env : Env) (h : Heap) (m : Str → Option Value) (x : Str) (u : Value) : Prop :=
  (env.kindOf x = some .local ∧ m x = some u) ∨ ((env.kindOf x = some .cell ∨ env.kindOf x = some .free) ∧ ∃ c, env.cells.lookup x = some c ∧ h.IsCell c (some u))

structure Cx.Ok (X : Cx) : Prop where
  mod : Mod X.K X.mg X.base
  kind : X.env.scope.kind = .function
  glob : X.env.globals = mainGlobals
  blt : X.env.builtins = builtinsNs
  above : X.s₀.heap.objs.size ≤ X.env.locals
  inj : ∀ x y c, X.env.cells.lookup x = some c → X.env.cells.lookup y = some c → x = y
  has : ∀ x, (X.env.kindOf x = some .cell ∨ X.env.kindOf x = some .free) → ∃ c, X.env.cells.lookup x = some c
  cab : ∀ x c, X.fn x = true → X.env.cells.lookup x = some c → X.s₀.heap.objs.size ≤ c
  hd : X.calm = true → X.A.handled = none
  frames : X.A.frames = some X.stack
  stk : X.stack = X.outer ∨ (X.stack = X.env :: X.outer ∧ X.env.frame = some X.env.locals)
  exf : ∀ b ∈ X.ex, b ≠ X.env.locals ∧ ∀ x c, X.env.cells.lookup x = some c → c ≠ b
  bs : ∀ b o, X.base.get? b = some o → X.s₀.heap.get? b = some o ∧ X.H₀ b = none
  bsz : X.base.objs.size ≤ X.s₀.heap.objs.size
  noex : ∀ b o, X.base.get? b = some o → b ∉ X.ex
  exfs : ∀ b ∈ X.ex, b ∉ X.fs
  funs : X.s₀.heap.FunFrames X.base X.outer
  frf : ∀ b ∈ X.fs, X.H₀ b = none

structure Inv (X : Cx) (pins : List (Addr × Obj)) (σ : List (Option V)) (H : Hp) (s : Shared) : Prop where
  ok : X.Ok
  os : s.os = X.s₀.os
  bare : AllBare s.gens
  base : Un X.fs X.ex X.H₀ H X.s₀.heap s.heap
  loc : ∃ m, s.heap.Ns X.env.locals m ∧ ∀ (i : Nat) (x : Str) (v : V), X.N[i]? = some x → σ[i]? = some (some v) → Vis X.env.scope x → ∃ u, RelV v u ∧ Look X.env s.heap m x u
  cell : ∀ x c, X.env.cells.lookup x = some c → ∃ v, s.heap.IsCell c v
  free : H X.env.locals = none
  freeC : ∀ x c, X.env.cells.lookup x = some c → H c = none
  pin : ∀ p ∈ X.pn ++ pins, s.heap.get? p.1 = some p.2 ∧ H p.1 = none ∧ p.1 ≠ X.env.locals ∧ p.1 ∉ X.fs ∧ ∀ v, p.2.data ≠ .cell v
  hok : HOk X.prog X.w H s.heap
  len : σ.length = X.N.length

section
variable {X : Cx} {pins : List (Addr × Obj)} {σ : List (Option V)} {H H' : Hp} {s : Shared} {h' : Heap}

theorem Cx.Ok.nofr (ok : X.Ok) {b : Addr} {o : Obj} (e : X.base.get? b = some o) : b ∉ X.fs := fun hb => by
  have := (ok.funs.mem hb).1
  rw [e] at this; cases this
theorem Inv.bs (I : Inv X pins σ H s) : ∀ b o, X.base.get? b = some o → s.heap.get? b = some o ∧ H b = none := fun b o e =>
  ⟨I.base.keep b o (I.ok.bs b o e).1 (I.ok.bs b o e).2 (I.ok.nofr e) (I.ok.noex b o e), I.base.free b o (I.ok.bs b o e).1 (I.ok.bs b o e).2 (I.ok.noex b o e)⟩
theorem Inv.bk (I : Inv X pins σ H s) : ∀ b o, X.base.get? b = some o → s.heap.get? b = some o := fun b o e => (I.bs b o e).1
theorem Inv.mod (I : Inv X pins σ H s) : Mod X.K X.mg X.base := I.ok.mod
theorem Inv.kIn (I : Inv X pins σ H s) : X.K.In s.heap := I.ok.mod.kin.keeps I.bk
theorem Inv.nolimit (I : Inv X pins σ H s) : s.heap.NoLimit := I.ok.mod.nolimit.keeps I.bk
/-- the frame over the base: for OpenK's rules (K.In X.base is I.mod.kin) -/
theorem Inv.fr (I : Inv X pins σ H s) : ∃ m, Fr X.base X.env.locals s.heap m :=
  let ⟨m, hn, _⟩ := I.loc
  ⟨m, hn, I.bk, Nat.le_trans I.ok.bsz I.ok.above⟩
theorem Inv.lt (I : Inv X pins σ H s) : X.env.locals < s.heap.objs.size := let ⟨_, hn, _⟩ := I.loc; hn.lt
theorem Inv.sz (I : Inv X pins σ H s) : X.s₀.heap.objs.size ≤ s.heap.objs.size := Nat.le_trans I.ok.above (Nat.le_of_lt I.lt)
theorem Inv.nofs (I : Inv X pins σ H s) {a : Addr} (h : s.heap.objs.size ≤ a) : a ∉ X.fs := fun hb => by
  obtain ⟨_, o, ho, _⟩ := I.ok.funs.mem hb
  exact absurd (Nat.lt_of_lt_of_le (Heap.lt_size ho) (Nat.le_trans I.sz h)) (Nat.lt_irrefl _)
theorem Inv.cne (I : Inv X pins σ H s) : ∀ x c, X.env.cells.lookup x = some c → c ≠ X.env.locals := fun x c e z => by
  obtain ⟨v, o, ho, hd⟩ := I.cell x c e
  obtain ⟨m, ⟨o', es, ep, ho', hd', _⟩, _⟩ := I.loc
  rw [z, ho'] at ho; cases ho; rw [hd'] at hd; cases hd
theorem Inv.funs (I : Inv X pins σ H s) : s.heap.FunFrames X.base X.outer := by
  have all : ∀ (l : List Env), (∀ b ∈ frs l, b ∈ X.fs) → X.s₀.heap.FunFrames X.base l → s.heap.FunFrames X.base l := by
    intro l
    induction l with
    | nil => intro _ _; trivial
    | cons env r ih =>
      intro hs hl
      obtain ⟨hk, ⟨L, o, hf, hn, ho, hd⟩, hr⟩ := hl
      have hL : L ∈ X.fs := hs L (by unfold frs; rw [List.filterMap_cons, hf]; exact List.mem_cons_self)
      obtain ⟨sl, e⟩ := I.base.slot L o ho (I.ok.frf L hL) hL fun z => I.ok.exfs L z hL
      exact ⟨hk, ⟨L, _, hf, hn, e, hd⟩, ih (fun b hb => hs b (by unfold frs; rw [List.filterMap_cons, hf]; exact List.mem_cons_of_mem _ hb)) hr⟩
  exact all X.outer (fun _ hb => hb) I.ok.funs

/-- the frames that run, for a call -/
theorem Inv.stack (I : Inv X pins σ H s) : s.heap.FunFrames X.base X.stack := by
  rcases I.ok.stk with e | ⟨e, hf⟩
  · rw [e]; exact I.funs
  · rw [e]
    obtain ⟨m, hn, _⟩ := I.loc
    refine .cons (by rw [I.ok.kind]; decide) hf hn ?_ I.funs
    exact Heap.get?_none_of_le (Nat.le_trans I.ok.bsz I.ok.above)
theorem Inv.stkSub (I : Inv X pins σ H s) : ∀ b ∈ frs X.stack, b ∈ X.env.locals :: X.fs := fun b hb => by
  rcases I.ok.stk with e | ⟨e, hf⟩
  · rw [e] at hb; exact List.mem_cons_of_mem _ hb
  · rw [e] at hb
    unfold frs at hb
    rw [List.filterMap_cons, hf] at hb
    exact hb
theorem Inv.stkFree (I : Inv X pins σ H s) : ∀ b ∈ frs X.stack, H b = none := fun b hb => by
  rcases List.mem_cons.mp (I.stkSub b hb) with e | hb
  · rw [e]; exact I.free
  · obtain ⟨_, o, ho, _⟩ := I.ok.funs.mem hb
    exact I.base.free b o ho (I.ok.frf b hb) fun z => I.ok.exfs b z hb

/-- THE STEP: the untracked objects but the frame and the records at ch are kept (the callers' frames up to slots), the frame's map is kept, the new abstract heap is held -/
theorem Inv.step {g' : Array GenState} {t' : Nat} {d' : Drawn} {ch : List Addr} (I : Inv X pins σ H s)
    (hch : ∀ b ∈ ch, (b ∈ X.ex ∨ X.s₀.heap.objs.size ≤ b) ∧ b ≠ X.env.locals ∧ (∀ x c, X.env.cells.lookup x = some c → c ≠ b) ∧ ∀ p ∈ X.pn ++ pins, p.1 ≠ b)
    (keep : ∀ b o, b ≠ X.env.locals → b ∉ X.fs → b ∉ ch → s.heap.get? b = some o → H b = none → h'.get? b = some o)
    (slot : ∀ b o, b ≠ X.env.locals → b ∈ X.fs → b ∉ ch → s.heap.get? b = some o → H b = none → ∃ sl, h'.get? b = some { o with slots := sl }) (free : ∀ b o, b ∉ ch → s.heap.get? b = some o → H b = none → H' b = none)
    (there : ∀ b o, b ∉ ch → s.heap.get? b = some o → ∃ o', h'.get? b = some o')
    (tups : ∀ b xs, H b = some (.tup xs) → H' b = some (.tup xs)) (frzs : ∀ b o u, H b = some (.frz o u) → H' b = some (.frz o u)) (tbls : ∀ b ps, H b = some (.tbl ps) → ∃ more, H' b = some (.tbl (ps ++ more)))
    (ns : ∀ m, s.heap.Ns X.env.locals m → h'.Ns X.env.locals m) (hok : HOk X.prog X.w H' h') (hg : AllBare g') :
    Inv X pins σ H' { s with heap := h', gens := g', drawn := d', toks := t' } := by
  have neL : ∀ b o, X.s₀.heap.get? b = some o → b ≠ X.env.locals := fun b o e => Nat.ne_of_lt (Nat.lt_of_lt_of_le (Heap.lt_size e) I.ok.above)
  have neC : ∀ b o, X.s₀.heap.get? b = some o → b ∉ X.ex → b ∉ ch := fun b o e hx hb => by
    rcases (hch b hb).1 with z | z
    · exact hx z
    · exact absurd (Nat.lt_of_lt_of_le (Heap.lt_size e) z) (Nat.lt_irrefl _)
  have cellK : ∀ x c, X.env.cells.lookup x = some c → ∀ v, s.heap.IsCell c v → h'.IsCell c v := fun x c e v ⟨o, ho, hd⟩ => by
    have nch : c ∉ ch := fun z => (hch c z).2.2.1 x c e rfl
    by_cases hc : c ∈ X.fs
    · obtain ⟨sl, q⟩ := slot c o (I.cne x c e) hc nch ho (I.freeC x c e)
      exact ⟨_, q, hd⟩
    · exact ⟨o, keep c o (I.cne x c e) hc nch ho (I.freeC x c e), hd⟩
  refine ⟨I.ok, I.os, hg, ⟨fun b o e n hb hx => ?_, fun b o e n hb hx => ?_, fun b o e n hx => ?_, fun b o e hx => ?_, fun b xs e => tups b xs (I.base.tups b xs e), fun b o xs e => frzs b o xs (I.base.frzs b o xs e), fun b ps e => ?_⟩, ?_, fun x c e => ?_, ?_, fun x c e => ?_, fun p hp => ?_, hok, I.len⟩
  · exact keep b o (neL b o e) hb (neC b o e hx) (I.base.keep b o e n hb hx) (I.base.free b o e n hx)
  · obtain ⟨sl, e1⟩ := I.base.slot b o e n hb hx
    obtain ⟨sl', e2⟩ := slot b _ (neL b o e) hb (neC b o e hx) e1 (I.base.free b o e n hx)
    exact ⟨sl', e2⟩
  · obtain ⟨o', e1⟩ := I.base.there b o e hx
    exact free b o' (neC b o e hx) e1 (I.base.free b o e n hx)
  · obtain ⟨o', e1⟩ := I.base.there b o e hx
    exact there b o' (neC b o e hx) e1
  · obtain ⟨m1, e1⟩ := I.base.tbls b ps e
    obtain ⟨m2, e2⟩ := tbls b _ e1
    exact ⟨m1 ++ m2, by rw [e2, Array.append_assoc]⟩
  · obtain ⟨m, hn, hl⟩ := I.loc
    refine ⟨m, ns m hn, fun i x v e1 e2 e3 => ?_⟩
    obtain ⟨u, r, l⟩ := hl i x v e1 e2 e3
    refine ⟨u, r, ?_⟩
    rcases l with l | ⟨k, c, e, z⟩
    · exact .inl l
    · exact .inr ⟨k, c, e, cellK x c e _ z⟩
  · obtain ⟨v, z⟩ := I.cell x c e
    exact ⟨v, cellK x c e v z⟩
  · obtain ⟨m, ⟨o, _, _, ho, _⟩, _⟩ := I.loc
    exact free _ o (fun z => (hch _ z).2.1 rfl) ho I.free
  · obtain ⟨v, o, ho, hd⟩ := I.cell x c e
    exact free c o (fun z => (hch c z).2.2.1 x c e rfl) ho (I.freeC x c e)
  · obtain ⟨e, n, ne, nf, d⟩ := I.pin p hp
    have nch : p.1 ∉ ch := fun z => (hch p.1 z).2.2.2 p hp rfl
    exact ⟨keep p.1 p.2 ne nf nch e n, free p.1 p.2 nch e n, ne, nf, d⟩
/-- .. where the frame's own object is kept too -/
theorem Inv.un {t' : Nat} (I : Inv X pins σ H s) (u : Un X.fs [] H H' s.heap h') (hok : HOk X.prog X.w H' h') : Inv X pins σ H' { s with heap := h', toks := t' } := by
  obtain ⟨m, ⟨o, es, ep, ho, r⟩, _⟩ := id I.loc
  obtain ⟨sl, hL⟩ := u.any ho I.free (by simp)
  exact I.step (g' := s.gens) (d' := s.drawn) (ch := []) (fun _ z => nomatch z) (fun b o _ hb _ e n => u.keep b o e n hb (by simp)) (fun b o _ hb _ e n => u.slot b o e n hb (by simp)) (fun b o _ e n => u.free b o e n (by simp)) (fun b o _ e => u.there b o e (by simp)) u.tups u.frzs u.tbls (fun m' hm => by
    obtain ⟨o', es', ep', ho', r'⟩ := hm
    rw [ho] at ho'; cases ho'
    exact ⟨_, es', ep', hL, r'⟩) hok I.bare
/-- behind a call (or a comprehension's block): the slots of this frame may have changed too, the records at ch may have turned -/
theorem Inv.call {g' : Array GenState} {t' : Nat} {d' : Drawn} {ch : List Addr} (I : Inv X pins σ H s) (u : Un (frs X.stack) ch H H' s.heap h') (hok : HOk X.prog X.w H' h') (hg : AllBare g')
    (hch : ∀ b ∈ ch, (b ∈ X.ex ∨ X.s₀.heap.objs.size ≤ b) ∧ b ≠ X.env.locals ∧ (∀ x c, X.env.cells.lookup x = some c → c ≠ b) ∧ ∀ p ∈ X.pn ++ pins, p.1 ≠ b) :
    Inv X pins σ H' { s with heap := h', gens := g', drawn := d', toks := t' } := by
  obtain ⟨m, ⟨o, es, ep, ho, r⟩, _⟩ := id I.loc
  obtain ⟨sl, hL⟩ := u.any ho I.free fun z => (hch _ z).2.1 rfl
  exact I.step (ch := ch) hch (fun b o hL hb hc e n => u.keep b o e n (fun z => (List.mem_cons.mp (I.stkSub b z)).elim hL hb) hc) (fun b o _ _ hc e n => u.any e n hc) (fun b o hc e n => u.free b o e n hc) (fun b o hc e => u.there b o e hc) u.tups u.frzs u.tbls (fun m' hm => by
    obtain ⟨o', es', ep', ho', r'⟩ := hm
    rw [ho] at ho'; cases ho'
    exact ⟨_, es', ep', hL, r'⟩) hok hg
/-- an untracked record of ours (an iterator) has turned -/
theorem Inv.turned {t' : Nat} {it : Addr} (I : Inv X pins σ H s) (k : ∀ b o, b ≠ it → s.heap.get? b = some o → h'.get? b = some o) (hn : H it = none) (hL : it ≠ X.env.locals)
    (h1 : it ∈ X.ex ∨ X.s₀.heap.objs.size ≤ it) (h2 : ∀ x c, X.env.cells.lookup x = some c → c ≠ it) (h3 : ∀ p ∈ X.pn ++ pins, p.1 ≠ it) : Inv X pins σ H { s with heap := h', toks := t' } := by
  have nit : ∀ b u, H b = some u → b ≠ it := fun b u e z => by rw [z, hn] at e; cases e
  refine I.step (g' := s.gens) (d' := s.drawn) (ch := [it]) (fun b hb => ?_) (fun b o _ _ hc e _ => k b o (fun z => hc (by simp [z])) e) (fun b o _ _ hc e _ => ⟨o.slots, k b o (fun z => hc (by simp [z])) e⟩) (fun _ _ _ _ n => n)
    (fun b o hc e => ⟨o, k b o (fun z => hc (by simp [z])) e⟩) (fun _ _ e => e) (fun _ _ _ e => e) (fun b ps e => ⟨#[], by rw [e]; simp⟩) (fun m hm => ?_) (fun b u e => ?_) I.bare
  · have e : b = it := by simpa using hb
    subst e
    exact ⟨h1, hL, h2, h3⟩
  · obtain ⟨o, es, ep, ho, r⟩ := hm
    exact ⟨o, es, ep, k _ o (Ne.symm hL) ho, r⟩
  · refine (I.hok b u e).stay (fun c v hc q => k c v ?_ q) (fun _ q => q) fun _ _ q => q
    rcases hc with z | z
    · rw [z]; exact nit b u e
    · exact nit c _ z
theorem Inv.tok (I : Inv X pins σ H s) (t : Nat) : Inv X pins σ H { s with toks := t } := I.un (h' := s.heap) (t' := t) Un.refl I.hok
/-- all objects kept -/
theorem Inv.kept {t' : Nat} (I : Inv X pins σ H s) (k : ∀ b u, s.heap.get? b = some u → h'.get? b = some u) : Inv X pins σ H { s with heap := h', toks := t' } := I.un (Un.kept k) (I.hok.kept k)
/-- a new object laid and tracked -/
theorem Inv.laid {a : Addr} {o : HO} {t' : Nat} (I : Inv X pins σ H s) (k : ∀ b u, s.heap.get? b = some u → h'.get? b = some u) (hp : s.heap.objs.size ≤ a) (new : ObjOk X.prog X.w (upd H a o) h' a o) :
    Inv X pins σ (upd H a o) { s with heap := h', toks := t' } := I.un (Un.laid k hp (I.hok.fresh hp)) (I.hok.laid k hp new)
/-- an object written -/
theorem Inv.write {x e : Addr} {o : HO} {t' : Nat} (I : Inv X pins σ H s) (mu : Mut (H x)) (he : e = x ∨ H e = some (.own x)) (k : ∀ b u, b ≠ e → s.heap.get? b = some u → h'.get? b = some u) (heo : ∃ u, h'.get? e = some u)
    (new : ObjOk X.prog X.w (upd H x o) h' x o) : Inv X pins σ (upd H x o) { s with heap := h', toks := t' } := I.un (Un.write mu he k heo) (I.hok.write mu he k heo new)
/-- forgetting slots, pins -/
theorem Inv.weak {σ' : List (Option V)} (I : Inv X pins σ H s) (hl : σ'.length = σ.length) (w : ∀ (i : Nat) v, σ'[i]? = some (some v) → σ[i]? = some (some v)) : Inv X pins σ' H s :=
  ⟨I.ok, I.os, I.bare, I.base, let ⟨m, hn, hl'⟩ := I.loc; ⟨m, hn, fun i x v e1 e2 e3 => hl' i x v e1 (w i v e2) e3⟩, I.cell, I.free, I.freeC, I.pin, I.hok, hl.trans I.len⟩
theorem Inv.pins_of {pins' : List (Addr × Obj)} (I : Inv X pins σ H s) (h : ∀ p ∈ pins', s.heap.get? p.1 = some p.2 ∧ H p.1 = none ∧ p.1 ≠ X.env.locals ∧ p.1 ∉ X.fs ∧ ∀ v, p.2.data ≠ .cell v) : Inv X pins' σ H s :=
  ⟨I.ok, I.os, I.bare, I.base, I.loc, I.cell, I.free, I.freeC, fun p hp => (List.mem_append.mp hp).elim (fun z => I.pin p (List.mem_append_left _ z)) (h p), I.hok, I.len⟩

theorem nodup_ix {N : List Str} (hN : N.Nodup) {i j : Nat} {x : Str} (a : N[i]? = some x) (b : N[j]? = some x) : i = j := by
  obtain ⟨h1, e1⟩ := List.getElem?_eq_some_iff.mp a
  obtain ⟨h2, e2⟩ := List.getElem?_eq_some_iff.mp b
  exact (List.getElem_inj hN).mp (e1.trans e2.symm)

/-- a name is stored; what changed -/
theorem store_ok2 {M : Model} {A : Around} {E : Value → Shared → Prop} {i : Nat} {x : Str} {v : V} {u : Value} {Q : Unit → Shared → Prop} (I : Inv X pins σ H s) (hN : X.N.Nodup) (hi : X.N[i]? = some x) (hx : Loc X.env.scope x) (r : RelV v u)
    (h : ∀ s', Inv X pins (σ.set i (some v)) H s' → (∃ a, Heap.SameBut a s.heap s'.heap ∧ (a = X.env.locals ∨ X.env.cells.lookup x = some a)) → Q () s') (hf : X.fn x = true ∨ X.env.scope.names.lookup x = some .local := by first | exact .inl rfl | exact .inr rfl | assumption) : wpAny M A (storeName X.env x u) Q E s := by
  obtain ⟨m, hn, hl⟩ := id I.loc
  have hcls : (X.env.scope.kind == .class || (X.env.scope.kind == .module && X.env.locals != X.env.globals)) = false := by rw [I.ok.kind]; rfl
  have hiσ : i < σ.length := by rw [I.len]; exact (List.getElem?_eq_some_iff.mp hi).1
  have cne := I.cne
  have tracked : ∀ {a : Addr} {h' : Heap}, (∃ o, s.heap.get? a = some o ∧ H a = none) → Heap.SameBut a s.heap h' → HOk X.prog X.w H h' := fun {a h'} ha hs b ob e => by
    obtain ⟨_, _, hfree⟩ := ha
    refine (I.hok b ob e).stay (fun c w' hc q => (hs.2 c ?_).trans q) (fun _ q => q) fun _ _ q => q
    rintro rfl
    rcases hc with rfl | hc
    · rw [hfree] at e; cases e
    · rw [hfree] at hc; cases hc
  rcases hx with hk | hk
  · refine wpAny_storeName_local hk hn (fun h' hn' hs => ?_) hcls
    obtain ⟨oL, _, _, hoL, _⟩ := id hn
    refine h _ ⟨I.ok, I.os, I.bare, ⟨fun b o e n hb hx => ?_, fun b o e n hb hx => ?_, I.base.free, fun b o e hx => ?_, I.base.tups, I.base.frzs, I.base.tbls⟩, ⟨_, hn', fun j y v' e1 e2 e3 => ?_⟩, fun y c e => ?_, I.free, I.freeC, fun p hp => ?_, tracked ⟨oL, hoL, I.free⟩ hs, by simpa using I.len⟩ ⟨_, hs, .inl rfl⟩
    · exact (hs.2 b (Nat.ne_of_lt (Nat.lt_of_lt_of_le (Heap.lt_size e) I.ok.above))).trans (I.base.keep b o e n hb hx)
    · obtain ⟨sl, e1⟩ := I.base.slot b o e n hb hx
      exact ⟨sl, (hs.2 b (Nat.ne_of_lt (Nat.lt_of_lt_of_le (Heap.lt_size e) I.ok.above))).trans e1⟩
    · obtain ⟨o', e1⟩ := I.base.there b o e hx
      exact ⟨o', (hs.2 b (Nat.ne_of_lt (Nat.lt_of_lt_of_le (Heap.lt_size e) I.ok.above))).trans e1⟩
    · by_cases hj : j = i
      · subst hj
        rw [hi] at e1; cases e1
        rw [List.getElem?_set_self hiσ] at e2
        cases e2
        exact ⟨u, r, .inl ⟨hk, by simp⟩⟩
      · rw [List.getElem?_set_ne (Ne.symm hj)] at e2
        obtain ⟨u', r', q⟩ := hl j y v' e1 e2 e3
        refine ⟨u', r', ?_⟩
        rcases q with ⟨k, e⟩ | ⟨k, c, e, z⟩
        · refine .inl ⟨k, ?_⟩
          have : y ≠ x := fun e => hj (nodup_ix hN e1 (e ▸ hi))
          simp [this, e]
        · exact .inr ⟨k, c, e, z.sameBut hs (cne y c e)⟩
    · obtain ⟨w', z⟩ := I.cell y c e
      exact ⟨w', z.sameBut hs (cne y c e)⟩
    · obtain ⟨e, n, ne, nf, d⟩ := I.pin p hp
      exact ⟨(hs.2 p.1 ne).trans e, n, ne, nf, d⟩
  · have hfn : X.fn x = true := by
      rcases hf with z | z
      · exact z
      · rw [z] at hk; cases hk
    obtain ⟨c, hc⟩ := I.ok.has x (.inl hk)
    obtain ⟨w', z⟩ := I.cell x c hc
    refine wpAny_storeName_cell I.ok.kind hk hc z (fun h' hc' hs => ?_)
    obtain ⟨oc, hoc, hocd⟩ := id z
    refine h { s with heap := h' } ⟨I.ok, I.os, I.bare, ⟨fun b o e n hb hx => ?_, fun b o e n hb hx => ?_, I.base.free, fun b o e hx => ?_, I.base.tups, I.base.frzs, I.base.tbls⟩, ⟨m, hn.sameBut hs (Ne.symm (cne x c hc)), fun j y v' e1 e2 e3 => ?_⟩, fun y c' e => ?_, I.free, I.freeC, fun p hp => ?_, tracked ⟨oc, hoc, I.freeC x c hc⟩ hs, by simpa using I.len⟩ ⟨c, hs, .inr hc⟩
    · exact (hs.2 b (Nat.ne_of_lt (Nat.lt_of_lt_of_le (Heap.lt_size e) (I.ok.cab x c hfn hc)))).trans (I.base.keep b o e n hb hx)
    · obtain ⟨sl, e1⟩ := I.base.slot b o e n hb hx
      exact ⟨sl, (hs.2 b (Nat.ne_of_lt (Nat.lt_of_lt_of_le (Heap.lt_size e) (I.ok.cab x c hfn hc)))).trans e1⟩
    · obtain ⟨o', e1⟩ := I.base.there b o e hx
      exact ⟨o', (hs.2 b (Nat.ne_of_lt (Nat.lt_of_lt_of_le (Heap.lt_size e) (I.ok.cab x c hfn hc)))).trans e1⟩
    · by_cases hj : j = i
      · subst hj
        rw [hi] at e1; cases e1
        rw [List.getElem?_set_self hiσ] at e2
        cases e2
        exact ⟨u, r, .inr ⟨.inl hk, c, hc, hc'⟩⟩
      · rw [List.getElem?_set_ne (Ne.symm hj)] at e2
        obtain ⟨u', r', q⟩ := hl j y v' e1 e2 e3
        refine ⟨u', r', ?_⟩
        rcases q with q | ⟨k, c', e, z'⟩
        · exact .inl q
        · refine .inr ⟨k, c', e, z'.sameBut hs ?_⟩
          rintro rfl
          exact hj (nodup_ix hN e1 (I.ok.inj _ _ _ e hc ▸ hi))
    · by_cases hcc : c' = c
      · subst hcc; exact ⟨_, hc'⟩
      · obtain ⟨w2, z2⟩ := I.cell y c' e
        exact ⟨w2, z2.sameBut hs hcc⟩
    · obtain ⟨e, n, ne, nf, d⟩ := I.pin p hp
      refine ⟨(hs.2 p.1 ?_).trans e, n, ne, nf, d⟩
      intro q
      rw [q, hoc] at e
      have q' : oc = p.2 := Option.some.inj e
      exact d w' (by rw [← q']; exact hocd)
theorem store_ok {M : Model} {A : Around} {E : Value → Shared → Prop} {i : Nat} {x : Str} {v : V} {u : Value} {Q : Unit → Shared → Prop} (I : Inv X pins σ H s) (hN : X.N.Nodup) (hi : X.N[i]? = some x) (hx : Loc X.env.scope x) (r : RelV v u)
    (h : ∀ s', Inv X pins (σ.set i (some v)) H s' → Q () s') (hf : X.fn x = true ∨ X.env.scope.names.lookup x = some .local := by first | exact .inl rfl | exact .inr rfl | assumption) : wpAny M A (storeName X.env x u) Q E s :=
  store_ok2 I hN hi hx r (fun s' I' _ => h s' I') hf
/-- behind a call or a block, the state as it is -/
theorem Inv.call' {s' : Shared} {ch : List Addr} (I : Inv X pins σ H s) (ho : s'.os = s.os) (u : Un (frs X.stack) ch H H' s.heap s'.heap) (hok : HOk X.prog X.w H' s'.heap) (hg : AllBare s'.gens)
    (hch : ∀ b ∈ ch, (b ∈ X.ex ∨ X.s₀.heap.objs.size ≤ b) ∧ b ≠ X.env.locals ∧ (∀ x c, X.env.cells.lookup x = some c → c ≠ b) ∧ ∀ p ∈ X.pn ++ pins, p.1 ≠ b) : Inv X pins σ H' s' := by
  obtain ⟨h', g', d', t', o'⟩ := s'
  have e : o' = s.os := ho
  subst e
  exact I.call (g' := g') (t' := t') (d' := d') u hok hg hch
end

/-! ### the judgements -/
/-- an exception: its class, its own dict's address (where it has one), the abstract heap behind it -/
abbrev XK := Value → Option Addr → Hp → Prop
abbrev St := List (Option V)
abbrev VK := V → Hp → Prop
/-- an expression's reading; a test's; an argument list's -/
abbrev TE := St → Hp → VK → Prop
abbrev TT := St → Hp → (Bool → Hp → Prop) → Prop
abbrev TA := St → Hp → (List V → Hp → Prop) → Prop
/-- what is wanted behind a statement -/
structure Ends where
  nx : St → Hp → Prop
  rt : VK
  bk : St → Hp → Prop := fun _ _ => False
  ct : St → Hp → Prop := fun _ _ => False
abbrev TS := Ends → St → Hp → Prop

def EP (X : Cx) (pins : List (Addr × Obj)) (σ : St) (Q : VK) (u : Value) (s' : Shared) : Prop := ∃ v H', Inv X pins σ H' s' ∧ RelV v u ∧ Q v H'
def TP (X : Cx) (pins : List (Addr × Obj)) (σ : St) (Q : Bool → Hp → Prop) (b : Bool) (s' : Shared) : Prop := ∃ H', Inv X pins σ H' s' ∧ Q b H'
def AP (X : Cx) (pins : List (Addr × Obj)) (σ : St) (Q : List V → Hp → Prop) (us : List Value) (s' : Shared) : Prop := ∃ vs H', Inv X pins σ H' s' ∧ Vals vs us ∧ Q vs H'
def SP (X : Cx) (pins : List (Addr × Obj)) (D : Ends) (f : Flow) (s' : Shared) : Prop :=
  match f with
  | .next => ∃ σ' H', Inv X pins σ' H' s' ∧ D.nx σ' H'
  | .brk => ∃ σ' H', Inv X pins σ' H' s' ∧ D.bk σ' H'
  | .cont => ∃ σ' H', Inv X pins σ' H' s' ∧ D.ct σ' H'
  | .ret u => ∃ v σ' H', Inv X pins σ' H' s' ∧ RelV v u ∧ D.rt v H'

def PE (X : Cx) (e : Expr) (t : TE) : Prop :=
  ∀ (pins : List (Addr × Obj)) (s : Shared) (σ : St) (H : Hp) (Q : VK), Inv X pins σ H s → t σ H Q → wpAny (model X.prog X.w) X.A (eval e X.env) (EP X pins σ Q) X.xe s
def PT (X : Cx) (e : Expr) (t : TT) : Prop :=
  ∀ (pins : List (Addr × Obj)) (s : Shared) (σ : St) (H : Hp) (Q : Bool → Hp → Prop), Inv X pins σ H s → t σ H Q → wpAny (model X.prog X.w) X.A (isTrue e X.env (eval e X.env)) (TP X pins σ Q) X.xe s
/-- a test whatever its 'whole' is (and, or) -/
def PW (X : Cx) (e : Expr) (t : TT) : Prop :=
  ∀ (whole : Sem Value) (pins : List (Addr × Obj)) (s : Shared) (σ : St) (H : Hp) (Q : Bool → Hp → Prop), Inv X pins σ H s → t σ H Q → wpAny (model X.prog X.w) X.A (isTrue e X.env whole) (TP X pins σ Q) X.xe s
theorem PW.pt {X : Cx} {e : Expr} {t : TT} (h : PW X e t) : PT X e t := h _
/-- an argument list (no star), from the left -/
def PA (X : Cx) (es : List Expr) (t : TA) : Prop :=
  ∀ (pos : Pos) (pins : List (Addr × Obj)) (s : Shared) (σ : St) (H : Hp) (Q : List V → Hp → Prop), Inv X pins σ H s → t σ H Q → wpAny (model X.prog X.w) X.A (spliced (backTo pos (starEach es X.env))) (AP X pins σ Q) X.xe s
def PS (X : Cx) (st : Stmt) (t : TS) : Prop :=
  ∀ (pins : List (Addr × Obj)) (s : Shared) (σ : St) (H : Hp) (D : Ends), Inv X pins σ H s → t D σ H → wpAny (model X.prog X.w) X.A (exec st X.env) (SP X pins D) X.xe s
def PSs (X : Cx) (st : List Stmt) (t : TS) : Prop :=
  ∀ (pins : List (Addr × Obj)) (s : Shared) (σ : St) (H : Hp) (D : Ends), Inv X pins σ H s → t D σ H → wpAny (model X.prog X.w) X.A (execs st X.env) (SP X pins D) X.xe s
/-- weaken the end -/
theorem thn {α : Type} {t : Sem α} {Q Q' : α → Shared → Prop} {M : Model} {A : Around} {E : Value → Shared → Prop} {s : Shared} (h : wpAny M A t Q E s) (hQ : ∀ a s, Q a s → Q' a s) : wpAny M A t Q' E s := wpAny_mono h hQ fun _ _ x => x
end L2

namespace L2
open PySem PySem.Spec PyProof.Rows
section
variable {X : Cx}

/-- two expressions in a row -/
theorem bin {a b : Expr} {ta tb : TE} (ha : PE X a ta) (hb : PE X b tb) {pins : List (Addr × Obj)} {s : Shared} {σ : St} {H : Hp} {R : V → V → Hp → Prop} (I : Inv X pins σ H s) (h : ta σ H fun x H1 => tb σ H1 fun y H2 => R x y H2)
    {α : Type} {Q : α → Shared → Prop} {f : Value → Value → Sem α}
    (hf : ∀ v u s2 x y H2, Inv X pins σ H2 s2 → RelV x v → RelV y u → R x y H2 → wpAny (model X.prog X.w) X.A (f v u) Q X.xe s2) :
    wpAny (model X.prog X.w) X.A (eval a X.env) (fun v s₁ => wpAny (model X.prog X.w) X.A (eval b X.env) (fun u s₂ => wpAny (model X.prog X.w) X.A (f v u) Q X.xe s₂) X.xe s₁) X.xe s := by
  refine thn (ha pins s σ H _ I h) fun v s1 ⟨x, H1, I1, r1, q1⟩ => ?_
  refine thn (hb pins s1 σ H1 _ I1 q1) fun u s2 ⟨y, H2, I2, r2, q2⟩ => ?_
  exact hf v u s2 x y H2 I2 r1 r2 q2

/-! ### names and constants -/
def tVar (i : Nat) : TE := fun σ H Q => ∃ v, σ[i]? = some (some v) ∧ Q v H
def tC (v : V) : TE := fun _ H Q => Q v H
theorem pe_var {i : Nat} {x : Str} {pos : Pos} (hN : X.N[i]? = some x) (hv : Vis X.env.scope x) (hd : (x == ("__debug__" : Str)) = false := by decide) (hcd : (x == ("__classdict__" : Str)) = false := by decide) : PE X (.Name x pos) (tVar i) := by
  intro pins s σ H Q I h
  obtain ⟨v, e, h⟩ := h
  obtain ⟨m, hn, hl⟩ := I.loc
  obtain ⟨u, r, l⟩ := hl i x v hN e hv
  have fin : EP X pins σ Q u s := ⟨v, H, I, r, h⟩
  rcases l with ⟨hk, hm⟩ | ⟨hk, c, hc, hcell⟩
  · exact wpAny_Name (wpAny_loadName_local I.ok.kind hk hn hm fin) hd
  · rcases hk with hk | hk
    · exact wpAny_Name (wpAny_loadName_cell I.ok.kind hk hc hcell fin) hd
    · exact wpAny_Name (wpAny_loadName_free I.ok.kind hk hc hcell fin hcd) hd
theorem pe_int {i j pos} : PE X (.Constant (.int i) j pos) (tC (.int i)) := fun _ _ _ H _ I h => wpAny_Constant_int ⟨.int i, H, I.tok _, ⟨_, rfl⟩, h⟩
theorem pe_bl {b j pos} : PE X (.Constant (.bool b) j pos) (tC (.bl b)) := fun _ _ _ H _ I h => Constant_bool ⟨.bl b, H, I, rfl, h⟩
theorem pe_non {j pos} : PE X (.Constant .none j pos) (tC .non) := fun _ _ _ H _ I h => Constant_none ⟨.non, H, I, rfl, h⟩
theorem pe_str {x j pos} : PE X (.Constant (.str x) j pos) (tC (.str x)) := fun _ _ _ H _ I h => Calls.Constant_str ⟨.str x, H, I.tok _, ⟨_, rfl⟩, h⟩

/-- a global name of the def -/
def Gl (X : Cx) (x : Str) : Prop := X.env.kindOf x = some .globalImplicit
theorem ld_glob {E : Value → Shared → Prop} {pins : List (Addr × Obj)} {s : Shared} {σ : St} {H : Hp} {x : Str} {u : Value} {pos : Pos} {Q : Value → Shared → Prop} (I : Inv X pins σ H s) (hg : Gl X x) (hm : X.mg x = some u) (h : Q u s)
    (hd : (x == ("__debug__" : Str)) = false := by decide) : wpAny (model X.prog X.w) X.A (eval (.Name x pos) X.env) Q E s :=
  Calls.Name_function_global I.ok.kind hg (Calls.loadGlobal_global (by rw [I.ok.glob]; exact I.mod.glob.keeps I.bk) hm h) hd
theorem ld_blt {E : Value → Shared → Prop} {pins : List (Addr × Obj)} {s : Shared} {σ : St} {H : Hp} {x : Str} {u : Value} {pos : Pos} {Q : Value → Shared → Prop} (I : Inv X pins σ H s) (hg : Gl X x) (hm : X.mg x = none) (hv : bootBuiltins x = some u) (h : Q u s)
    (hn : x ≠ "__name__" := by decide) (hd : (x == ("__debug__" : Str)) = false := by decide) : wpAny (model X.prog X.w) X.A (eval (.Name x pos) X.env) Q E s := by
  obtain ⟨mb, h1, h2⟩ := I.mod.blt
  exact Calls.Name_function_global I.ok.kind hg (Calls.loadGlobal_builtin (by rw [I.ok.glob]; exact I.mod.glob.keeps I.bk) hm (by rw [I.ok.blt]; exact h1.keeps I.bk) ((h2 x hn).trans hv) h) hd
/-- a module's constant, a class, a function, as a value -/
theorem pe_glob {x : Str} {v : V} {u : Value} {pos : Pos} (hg : Gl X x) (hm : X.mg x = some u) (r : RelV v u) (hd : (x == ("__debug__" : Str)) = false := by decide) : PE X (.Name x pos) (tC v) :=
  fun _ _ _ H _ I h => ld_glob I hg hm ⟨v, H, I, r, h⟩ hd
theorem pe_bltn {x : Str} {v : V} {u : Value} {pos : Pos} (hg : Gl X x) (hm : X.mg x = none) (hv : bootBuiltins x = some u) (r : RelV v u) (hn : x ≠ "__name__" := by decide) (hd : (x == ("__debug__" : Str)) = false := by decide) : PE X (.Name x pos) (tC v) :=
  fun _ _ _ H _ I h => ld_blt I hg hm hv ⟨v, H, I, r, h⟩ hn hd

/-! ### arithmetic -/
/-- two ints -/
def t2I (ta tb : TE) (k : Int → Int → Hp → Prop) : St → Hp → Prop := fun σ H => ta σ H fun x H1 => tb σ H1 fun y H2 => ∃ i j, x = .int i ∧ y = .int j ∧ k i j H2
def tAdd (ta tb : TE) : TE := fun σ H Q => t2I ta tb (fun i j H2 => Q (.int (i + j)) H2) σ H
def tSub (ta tb : TE) : TE := fun σ H Q => t2I ta tb (fun i j H2 => Q (.int (i - j)) H2) σ H
/-- the left factor below 2^64 -/
def tMul (ta tb : TE) : TE := fun σ H Q => t2I ta tb (fun i j H2 => (-(2 ^ 64) < i ∧ i < 2 ^ 64) ∧ Q (.int (i * j)) H2) σ H
variable {a b : Expr} {ta tb : TE} {pos : Pos}
theorem pe_add (ha : PE X a ta) (hb : PE X b tb) : PE X (.BinOp a .Add b pos) (tAdd ta tb) := by
  intro pins s σ H Q I h
  refine wpAny_BinOp (bin ha hb I h fun v u s2 x y H2 I2 rx ry q => ?_)
  obtain ⟨i, j, rfl, rfl, q⟩ := q
  obtain ⟨t, rfl⟩ := rx
  obtain ⟨t', rfl⟩ := ry
  exact add_int ⟨.int _, H2, I2.tok _, ⟨_, rfl⟩, q⟩
theorem pe_sub (ha : PE X a ta) (hb : PE X b tb) : PE X (.BinOp a .Sub b pos) (tSub ta tb) := by
  intro pins s σ H Q I h
  refine wpAny_BinOp (bin ha hb I h fun v u s2 x y H2 I2 rx ry q => ?_)
  obtain ⟨i, j, rfl, rfl, q⟩ := q
  obtain ⟨t, rfl⟩ := rx
  obtain ⟨t', rfl⟩ := ry
  exact sub_int ⟨.int _, H2, I2.tok _, ⟨_, rfl⟩, q⟩
theorem pe_mul (ha : PE X a ta) (hb : PE X b tb) : PE X (.BinOp a .Mult b pos) (tMul ta tb) := by
  intro pins s σ H Q I h
  refine wpAny_BinOp (bin ha hb I h fun v u s2 x y H2 I2 rx ry q => ?_)
  obtain ⟨i, j, rfl, rfl, ⟨q1, q2⟩, q⟩ := q
  obtain ⟨t, rfl⟩ := rx
  obtain ⟨t', rfl⟩ := ry
  exact mul_int ⟨.int _, H2, I2.tok _, ⟨_, rfl⟩, q⟩ (.of_left (intBits_le_64 q1 q2))

/-! ### comparisons -/
def PC (X : Cx) (op : CmpOp) (a b : Expr) (t : TE) : Prop :=
  ∀ (pins : List (Addr × Obj)) (s : Shared) (σ : St) (H : Hp) (Q : VK), Inv X pins σ H s → t σ H Q →
    wpAny (model X.prog X.w) X.A (eval a X.env) (fun v s₁ => wpAny (model X.prog X.w) X.A (eval b X.env) (fun u s₂ => wpAny (model X.prog X.w) X.A (compareOp op v u) (EP X pins σ Q) X.xe s₂) X.xe s₁) X.xe s
theorem nobehind (b : Expr) {op : CmpOp} (h : op ≠ .In) (h2 : op ≠ .NotIn) : behindInMarks op b = false := by
  have e1 : (op == CmpOp.In) = false := by cases op <;> first | rfl | exact absurd rfl h
  have e2 : (op == CmpOp.NotIn) = false := by cases op <;> first | rfl | exact absurd rfl h2
  cases b <;> simp [behindInMarks, e1, e2]
def tCmp (p : Int → Int → Bool) (ta tb : TE) : TE := fun σ H Q => t2I ta tb (fun i j H2 => Q (.bl (p i j)) H2) σ H
abbrev tLt : TE → TE → TE := tCmp fun i j => decide (i < j)
abbrev tLe : TE → TE → TE := tCmp fun i j => decide (i ≤ j)
abbrev tGt : TE → TE → TE := tCmp fun i j => decide (j < i)
abbrev tGe : TE → TE → TE := tCmp fun i j => decide (j ≤ i)
abbrev tEqI : TE → TE → TE := tCmp fun i j => decide (i = j)
abbrev tNeI : TE → TE → TE := tCmp fun i j => !decide (i = j)
/-- a comparison of two ints, by its rule -/
theorem pc_int {op : CmpOp} {p : Int → Int → Bool} (ha : PE X a ta) (hb : PE X b tb)
    (rule : ∀ (i j : Int) (t u : Tok) (Q : Value → Shared → Prop) (s : Shared), Q (.bool (p i j)) s → wpAny (model X.prog X.w) X.A (compareOp op (.int i t) (.int j u)) Q X.xe s) : PC X op a b (tCmp p ta tb) := by
  intro pins s σ H Q I h
  refine bin ha hb I h fun v u s2 x y H2 I2 rx ry q => ?_
  obtain ⟨i, j, rfl, rfl, q⟩ := q
  obtain ⟨t, rfl⟩ := rx
  obtain ⟨t', rfl⟩ := ry
  exact rule i j t t' _ s2 ⟨.bl _, H2, I2, rfl, q⟩
theorem pc_lt (ha : PE X a ta) (hb : PE X b tb) : PC X .Lt a b (tLt ta tb) := pc_int ha hb fun _ _ _ _ _ _ h => lt_int h
theorem pc_le (ha : PE X a ta) (hb : PE X b tb) : PC X .LtE a b (tLe ta tb) := pc_int ha hb fun _ _ _ _ _ _ h => le_int h
theorem pc_gt (ha : PE X a ta) (hb : PE X b tb) : PC X .Gt a b (tGt ta tb) := pc_int ha hb fun _ _ _ _ _ _ h => gt_int h
theorem pc_ge (ha : PE X a ta) (hb : PE X b tb) : PC X .GtE a b (tGe ta tb) := pc_int ha hb fun _ _ _ _ _ _ h => ge_int h
theorem pc_eqI (ha : PE X a ta) (hb : PE X b tb) : PC X .Eq a b (tEqI ta tb) := pc_int ha hb fun _ _ _ _ _ _ h => eq_int (by rw [Bool.beq_eq_decide_eq]; exact h)
theorem pc_neI (ha : PE X a ta) (hb : PE X b tb) : PC X .NotEq a b (tNeI ta tb) := pc_int ha hb fun _ _ _ _ _ _ h => ne_int (by rw [bne, Bool.beq_eq_decide_eq]; exact h)
/-- is None -/
def tIsN (ta : TE) : TE := fun σ H Q => ta σ H fun x H1 => Q (.bl (decide (x = .non))) H1
def tNotN (ta : TE) : TE := fun σ H Q => ta σ H fun x H1 => Q (.bl (!decide (x = .non))) H1
theorem RelV.none_iff {x : V} {v : Value} (r : RelV x v) : (v == Value.none) = decide (x = .non) := by
  cases x with
  | non => cases r; rfl
  | bl _ => cases r; rfl
  | int _ => obtain ⟨t, rfl⟩ := r; rfl
  | str _ => obtain ⟨t, rfl⟩ := r; rfl
  | byt _ => obtain ⟨t, rfl⟩ := r; rfl
  | flt _ => obtain ⟨t, rfl⟩ := r; rfl
  | ref _ => cases r; rfl
  | ty _ => cases r; rfl
theorem pc_isN {j pos'} (ha : PE X a ta) : PC X .Is a (.Constant .none j pos') (tIsN ta) := by
  intro pins s σ H Q I h
  refine thn (ha pins s σ H _ I h) fun v s1 ⟨x, H1, I1, r1, q1⟩ => ?_
  exact Constant_none (is_none_gen ⟨.bl _, H1, I1, by rw [r1.none_iff]; rfl, q1⟩)
theorem pc_notN {j pos'} (ha : PE X a ta) : PC X .IsNot a (.Constant .none j pos') (tNotN ta) := by
  intro pins s σ H Q I h
  refine thn (ha pins s σ H _ I h) fun v s1 ⟨x, H1, I1, r1, q1⟩ => ?_
  exact Constant_none (isnot_none_gen ⟨.bl _, H1, I1, by rw [r1.none_iff]; rfl, q1⟩)
/-- a comparison as a value, as a test -/
def tB (t : TE) : TT := fun σ H Q => t σ H fun x H1 => ∃ c, x = .bl c ∧ Q c H1
theorem pe_cmp {op : CmpOp} {t : TE} (h : PC X op a b t) (h1 : behindInMarks op b = false := by first | exact nobehind _ (by decide) (by decide) | rfl) : PE X (.Compare a [op] [b] pos) t := fun pins s σ H Q I hw => wpAny_Compare1 (h pins s σ H Q I hw) h1
theorem pt_cmp {op : CmpOp} {t : TE} (h : PC X op a b t) (h1 : behindInMarks op b = false := by first | exact nobehind _ (by decide) (by decide) | rfl) : PT X (.Compare a [op] [b] pos) (tB t) := by
  intro pins s σ H Q I hw
  refine wpAny_isTrue_Compare1 (thn (h pins s σ H _ I hw) fun v s1 h1 => thn h1 fun u s2 h2 => thn h2 fun c s3 ⟨x, H1, I1, r1, q1⟩ => ?_) h1
  obtain ⟨d, rfl, q⟩ := q1
  cases r1
  exact wpAny_truthy_bool ⟨H1, I1, q⟩
/-- an expression whose value is a bool, as a test -/
theorem pt_val {e : Expr} {t : TE} (h : PE X e t) (he : ∀ whole, isTrue e X.env whole = (do let v ← whole; standAt e.pos; holding [v] (truthy v)) := by intro _; rfl) : PT X e (tB t) := by
  intro pins s σ H Q I hw
  refine isTrue_plain (thn (h pins s σ H _ I hw) fun v s1 ⟨x, H1, I1, r1, q1⟩ => ?_) (he _)
  obtain ⟨d, rfl, q⟩ := q1
  cases r1
  exact wpAny_truthy_bool ⟨H1, I1, q⟩

/-! ### and, or, not -/
variable {tA tB' : TT} {rest : List Expr}
def tAnd (t u : TT) : TT := fun σ H Q => t σ H fun c H1 => if c = true then u σ H1 Q else Q false H1
def tOr (t u : TT) : TT := fun σ H Q => t σ H fun c H1 => if c = true then Q true H1 else u σ H1 Q
def tNot (t : TT) : TT := fun σ H Q => t σ H fun c H1 => Q (!c) H1
theorem pw_and1 (ha : PT X a tA) : PW X (.BoolOp .And [a] pos) tA := by
  intro wh pins s σ H Q I h
  refine isTrue_and (thn (ha pins s σ H Q I h) fun c s1 e => ?_)
  cases c with
  | true => exact isTrue_and_nil e
  | false => exact e
theorem pw_or1 (ha : PT X a tA) : PW X (.BoolOp .Or [a] pos) tA := by
  intro wh pins s σ H Q I h
  refine isTrue_or (thn (ha pins s σ H Q I h) fun c s1 e => ?_)
  cases c with
  | false => exact isTrue_or_nil e
  | true => exact e
theorem pw_and (ha : PT X a tA) (hb : PW X (.BoolOp .And (b :: rest) pos) tB') : PW X (.BoolOp .And (a :: b :: rest) pos) (tAnd tA tB') := by
  intro wh pins s σ H Q I h
  refine isTrue_and (thn (ha pins s σ H _ I h) fun c s1 ⟨H1, I1, q1⟩ => ?_)
  cases c with
  | true => exact hb wh pins s1 σ H1 Q I1 q1
  | false => exact ⟨H1, I1, q1⟩
theorem pw_or (ha : PT X a tA) (hb : PW X (.BoolOp .Or (b :: rest) pos) tB') : PW X (.BoolOp .Or (a :: b :: rest) pos) (tOr tA tB') := by
  intro wh pins s σ H Q I h
  refine isTrue_or (thn (ha pins s σ H _ I h) fun c s1 ⟨H1, I1, q1⟩ => ?_)
  cases c with
  | true => exact ⟨H1, I1, q1⟩
  | false => exact hb wh pins s1 σ H1 Q I1 q1
theorem pt_not (ha : PT X a tA) : PT X (.UnaryOp .Not a pos) (tNot tA) := by
  intro pins s σ H Q I h
  exact isTrue_not (ha pins s σ H (fun c H1 => Q (!c) H1) I h)
/-- .. as values (bools) -/
def tAndV (ta tb : TE) : TE := fun σ H Q => ta σ H fun x H1 => ∃ c, x = .bl c ∧ if c = true then tb σ H1 Q else Q (.bl false) H1
def tOrV (ta tb : TE) : TE := fun σ H Q => ta σ H fun x H1 => ∃ c, x = .bl c ∧ if c = true then Q (.bl true) H1 else tb σ H1 Q
def tNotV (ta : TE) : TE := fun σ H Q => ta σ H fun x H1 => ∃ c, x = .bl c ∧ Q (.bl (!c)) H1
theorem pe_one {op} {t : TE} (h : PE X a t) : PE X (.BoolOp op [a] pos) t := fun pins s σ H Q I hw => BoolOp_one (h pins s σ H Q I hw)
theorem pe_and (ha : PE X a ta) (hb : PE X (.BoolOp .And (b :: rest) pos) tb) : PE X (.BoolOp .And (a :: b :: rest) pos) (tAndV ta tb) := by
  intro pins s σ H Q I h
  refine BoolOp_and (thn (ha pins s σ H _ I h) fun v s1 ⟨x, H1, I1, r1, q1⟩ => ?_)
  obtain ⟨c, rfl, q1⟩ := q1
  cases r1
  refine wpAny_truthy_bool ?_
  cases c with
  | true => exact hb pins s1 σ H1 Q I1 q1
  | false => exact ⟨.bl false, H1, I1, rfl, q1⟩
theorem pe_or (ha : PE X a ta) (hb : PE X (.BoolOp .Or (b :: rest) pos) tb) : PE X (.BoolOp .Or (a :: b :: rest) pos) (tOrV ta tb) := by
  intro pins s σ H Q I h
  refine BoolOp_or (thn (ha pins s σ H _ I h) fun v s1 ⟨x, H1, I1, r1, q1⟩ => ?_)
  obtain ⟨c, rfl, q1⟩ := q1
  cases r1
  refine wpAny_truthy_bool ?_
  cases c with
  | false => exact hb pins s1 σ H1 Q I1 q1
  | true => exact ⟨.bl true, H1, I1, rfl, q1⟩
theorem pe_not (ha : PE X a ta) : PE X (.UnaryOp .Not a pos) (tNotV ta) := by
  intro pins s σ H Q I h
  refine UnaryOp_ (thn (ha pins s σ H _ I h) fun v s1 ⟨x, H1, I1, r1, q1⟩ => ?_)
  obtain ⟨c, rfl, q1⟩ := q1
  cases r1
  exact not_of (wpAny_truthy_bool ⟨.bl (!c), H1, I1, rfl, q1⟩)
/-- a if t else b -/
def tIf (t : TT) (ta tb : TE) : TE := fun σ H Q => t σ H fun c H1 => if c = true then ta σ H1 Q else tb σ H1 Q
theorem pe_ifExp {c : Expr} (hc : PT X c tA) (ha : PE X a ta) (hb : PE X b tb) : PE X (.IfExp c a b pos) (tIf tA ta tb) := by
  intro pins s σ H Q I h
  refine wpAny_IfExp (thn (hc pins s σ H _ I h) fun d s1 ⟨H1, I1, q1⟩ => ?_)
  cases d with
  | true => exact ha pins s1 σ H1 Q I1 q1
  | false => exact hb pins s1 σ H1 Q I1 q1
end
end L2

namespace L2
open PySem PySem.Spec PyProof.Rows

/-! ### a list, a tuple that is read: tracked, frozen, or an object of the module -/
def SqL (K : PySem.W.Frag) (H : Hp) (a : Addr) (xs : List V) : Prop :=
  Rd H a (.lst xs) ∨
    ∃ (o : Obj) (its : Array Value) (n : Nat), K.lookup a = some o ∧ o.cls = .type "list" ∧ o.dict = none ∧ o.data = .seq its n ∧ its.size ≤ sizeLine ∧ Vals xs its.toList
def SqT (K : PySem.W.Frag) (H : Hp) (a : Addr) (xs : List V) : Prop :=
  Rd H a (.tup xs) ∨
    ∃ (o : Obj) (its : Array Value) (n : Nat), K.lookup a = some o ∧ o.cls = .type "tuple" ∧ o.data = .seq its n ∧ its.size ≤ sizeLine ∧ Vals xs its.toList
def absV : Value → Option V
  | .none => some .non
  | .bool b => some (.bl b)
  | .int i _ => some (.int i)
  | .str x _ => some (.str x)
  | .bytes b _ => some (.byt b)
  | .float b _ => some (.flt b)
  | .ref a => some (.ref a)
  | .type n => some (.ty n)
  | _ => none
theorem RelV.abs {x : V} {u : Value} (r : RelV x u) : absV u = some x := by
  cases x with
  | non => cases r; rfl
  | bl _ => cases r; rfl
  | int _ => obtain ⟨t, rfl⟩ := r; rfl
  | str _ => obtain ⟨t, rfl⟩ := r; rfl
  | byt _ => obtain ⟨t, rfl⟩ := r; rfl
  | flt _ => obtain ⟨t, rfl⟩ := r; rfl
  | ref _ => cases r; rfl
  | ty _ => cases r; rfl
theorem RelV.inj {x y : V} {u : Value} (r : RelV x u) (q : RelV y u) : x = y := Option.some.inj (r.abs.symm.trans q.abs)
theorem Vals.inj : ∀ {xs ys : List V} {us : List Value}, Vals xs us → Vals ys us → xs = ys
  | _, _, _, .nil, .nil => rfl
  | _, _, _, .cons r t, .cons r' t' => by rw [r.inj r', Vals.inj t t']
section
variable {X : Cx} {pins : List (Addr × Obj)} {σ : St} {H : Hp} {s : Shared} {a : Addr} {xs ys : List V}
theorem SqL.of {K : PySem.W.Frag} (h : H a = some (.lst xs)) : SqL K H a xs := .inl (.inl h)
theorem SqT.of {K : PySem.W.Frag} (h : H a = some (.tup xs)) : SqT K H a xs := .inl (.inl h)
theorem Inv.list (I : Inv X pins σ H s) (h : SqL X.K H a xs) : ∃ its : List Value, Vals xs its ∧ PlainL s.heap a its.toArray ∧ xs.length ≤ sizeLine := by
  rcases h with h | ⟨o, its, n, hk, hc, hd, hs, hz, r⟩
  · obtain ⟨z, its, n, r, e⟩ := h.ok I.hok
    exact ⟨its, r, ⟨_, n, e, rfl, rfl, rfl⟩, z⟩
  · refine ⟨its.toList, r, ⟨o, n, I.kIn a o hk, hc, hd, by simpa using hs⟩, ?_⟩
    have e := r.length
    simp only [Array.length_toList] at e
    omega
theorem Inv.tuple (I : Inv X pins σ H s) (h : SqT X.K H a xs) : ∃ its : List Value, Vals xs its ∧ IsTup s.heap a its.toArray ∧ xs.length ≤ sizeLine := by
  rcases h with h | ⟨o, its, n, hk, hc, hs, hz, r⟩
  · obtain ⟨z, its, r, p⟩ := h.ok I.hok
    exact ⟨its, r, p, z⟩
  · refine ⟨its.toList, r, ⟨o, I.kIn a o hk, hc, n, by simpa using hs⟩, ?_⟩
    have e := r.length
    simp only [Array.length_toList] at e
    omega
theorem Inv.list_inj (I : Inv X pins σ H s) (h : SqL X.K H a xs) (h' : SqL X.K H a ys) : xs = ys := by
  obtain ⟨its, r, ⟨o, n, e, _, _, d⟩, _⟩ := I.list h
  obtain ⟨its', r', ⟨o', n', e', _, _, d'⟩, _⟩ := I.list h'
  rw [e] at e'; cases e'
  rw [d] at d'
  injection d' with d1 _
  have : its = its' := by simpa using congrArg Array.toList d1
  subst this
  exact r.inj r'
theorem Inv.tuple_inj (I : Inv X pins σ H s) (h : SqT X.K H a xs) (h' : SqT X.K H a ys) : xs = ys := by
  obtain ⟨its, r, ⟨o, e, _, n, d⟩, _⟩ := I.tuple h
  obtain ⟨its', r', ⟨o', e', _, n', d'⟩, _⟩ := I.tuple h'
  rw [e] at e'; cases e'
  rw [d] at d'
  injection d' with d1 _
  have : its = its' := by simpa using congrArg Array.toList d1
  subst this
  exact r.inj r'
end

/-! ### another wish about exceptions -/
abbrev Cx.wish (X : Cx) (E : Value → Shared → Prop) : Cx := { X with xe := E }
/-- no exception leaves -/
abbrev Cx.nox (X : Cx) : Cx := X.wish fun _ _ => False
theorem Cx.Ok.wish {X : Cx} (ok : X.Ok) (E : Value → Shared → Prop) : (X.wish E).Ok :=
  ⟨ok.mod, ok.kind, ok.glob, ok.blt, ok.above, ok.inj, ok.has, ok.cab, ok.hd, ok.frames, ok.stk, ok.exf, ok.bs, ok.bsz, ok.noex, ok.exfs, ok.funs, ok.frf⟩
theorem Cx.Ok.unwish {X : Cx} {E : Value → Shared → Prop} (ok : (X.wish E).Ok) : X.Ok :=
  ⟨ok.mod, ok.kind, ok.glob, ok.blt, ok.above, ok.inj, ok.has, ok.cab, ok.hd, ok.frames, ok.stk, ok.exf, ok.bs, ok.bsz, ok.noex, ok.exfs, ok.funs, ok.frf⟩
section
variable {X : Cx} {pins : List (Addr × Obj)} {σ : St} {H : Hp} {s : Shared} {E : Value → Shared → Prop}
theorem Inv.wish (I : Inv X pins σ H s) (E : Value → Shared → Prop) : Inv (X.wish E) pins σ H s := ⟨I.ok.wish E, I.os, I.bare, I.base, I.loc, I.cell, I.free, I.freeC, I.pin, I.hok, I.len⟩
theorem Inv.unwish (I : Inv (X.wish E) pins σ H s) : Inv X pins σ H s := ⟨I.ok.unwish, I.os, I.bare, I.base, I.loc, I.cell, I.free, I.freeC, I.pin, I.hok, I.len⟩
theorem SP.unwish {D : Ends} {f : Flow} {s' : Shared} (h : SP (X.wish E) pins D f s') : SP X pins D f s' := by
  cases f with
  | next => obtain ⟨σ', H', I, q⟩ := h; exact ⟨σ', H', I.unwish, q⟩
  | brk => obtain ⟨σ', H', I, q⟩ := h; exact ⟨σ', H', I.unwish, q⟩
  | cont => obtain ⟨σ', H', I, q⟩ := h; exact ⟨σ', H', I.unwish, q⟩
  | ret u => obtain ⟨v, σ', H', I, r, q⟩ := h; exact ⟨v, σ', H', I.unwish, r, q⟩
theorem PE.nox {e : Expr} {t : TE} (h : PE X.nox e t) : PE X e t := fun pins s σ H Q I hw =>
  wpAny_mono (h pins s σ H Q (I.wish _) hw) (fun _ _ ⟨v, H', I', r, q⟩ => ⟨v, H', I'.unwish, r, q⟩) fun _ _ z => False.elim z
theorem PT.nox {e : Expr} {t : TT} (h : PT X.nox e t) : PT X e t := fun pins s σ H Q I hw =>
  wpAny_mono (h pins s σ H Q (I.wish _) hw) (fun _ _ ⟨H', I', q⟩ => ⟨H', I'.unwish, q⟩) fun _ _ z => False.elim z
theorem PSs.nox {st : List Stmt} {t : TS} (h : PSs X.nox st t) : PSs X st t := fun pins s σ H D I hw =>
  wpAny_mono (h pins s σ H D (I.wish _) hw) (fun _ _ q => q.unwish) fun _ _ z => False.elim z
end

/-! ### blocks and small statements -/
section
variable {X : Cx} {st : Stmt} {rest : List Stmt} {t u : TS} {e : Expr} {te : TE} {pos : Pos}
def tNext : TS := fun D σ H => D.nx σ H
def tSeq (t u : TS) : TS := fun D σ H => t { D with nx := u D } σ H
theorem pss_nil : PSs X [] tNext := fun _ _ σ H _ I h => wpAny_execs_nil ⟨σ, H, I, h⟩
theorem pss_cons (h1 : PS X st t) (h2 : PSs X rest u) : PSs X (st :: rest) (tSeq t u) := by
  intro pins s σ H D I h
  refine wpAny_execs_cons (thn (h1 pins s σ H { D with nx := u D } I h) fun f s1 q => ?_)
  cases f with
  | next =>
    obtain ⟨σ', H', I', q⟩ := q
    exact h2 pins s1 σ' H' D I' q
  | ret v => exact q
  | brk => exact q
  | cont => exact q
theorem pss_one (h1 : PS X st t) : PSs X [st] t := by
  intro pins s σ H D I h
  refine wpAny_execs_cons (thn (h1 pins s σ H D I h) fun f s1 q => ?_)
  cases f with
  | next => exact wpAny_execs_nil q
  | ret v => exact q
  | brk => exact q
  | cont => exact q
def tBreak : TS := fun D σ H => D.bk σ H
def tCont : TS := fun D σ H => D.ct σ H
theorem ps_pass : PS X (.Pass pos) tNext := fun _ _ σ H _ I h => wpAny_Pass ⟨σ, H, I, h⟩
theorem ps_break : PS X (.Break pos) tBreak := fun _ _ σ H _ I h => wpAny_Break ⟨σ, H, I, h⟩
theorem ps_continue : PS X (.Continue pos) tCont := fun _ _ σ H _ I h => wpAny_Continue ⟨σ, H, I, h⟩
/-- in a def's body nothing is shown -/
theorem Inv.quiet {pins : List (Addr × Obj)} {σ : St} {H : Hp} {s : Shared} (I : Inv X pins σ H s) : interactive X.env = false := by simp [interactive, I.ok.kind]
/-- a docstring -/
theorem ps_doc {x j pos pos'} : PS X (.Expr (.Constant (.str x) j pos) pos') tNext := fun _ s σ H _ I h => wpAny_Expr (Calls.Constant_str (show SP X _ _ .next { s with toks := s.toks + 1 } from ⟨σ, H, I.tok _, h⟩)) I.quiet
/-- an expression whose value is dropped -/
def tDrop (te : TE) : TS := fun D σ H => te σ H fun _ H1 => D.nx σ H1
theorem ps_expr (he : PE X e te) (hs : swapsWith e none pos.line X.env = pure false := by rfl) : PS X (.Expr e pos) (tDrop te) := by
  intro pins s σ H D I h
  exact wpAny_Expr_any (thn (he pins s σ H _ I h) fun v s1 ⟨x, H1, I1, r1, q1⟩ => ⟨σ, H1, I1, q1⟩) I.quiet hs
def tRet (te : TE) : TS := fun D σ H => te σ H D.rt
theorem ps_ret (he : PE X e te) : PS X (.Return (some e) pos) (tRet te) := by
  intro pins s σ H D I h
  exact wpAny_Return_some (thn (he pins s σ H _ I h) fun v s1 ⟨x, H1, I1, r1, q1⟩ => ⟨x, σ, H1, I1, r1, q1⟩)
def tRetN : TS := fun D _ H => D.rt .non H
theorem ps_retN : PS X (.Return none pos) tRetN := fun _ _ σ H _ I h => wpAny_Return_none ⟨.non, σ, H, I, rfl, h⟩
def tIfS (c : TT) (t u : TS) : TS := fun D σ H => c σ H fun b H1 => if b = true then t D σ H1 else u D σ H1
theorem ps_if {c : Expr} {a b : List Stmt} {tc : TT} (hc : PT X c tc) (ha : PSs X a t) (hb : PSs X b u) : PS X (.If c a b pos) (tIfS tc t u) := by
  intro pins s σ H D I h
  refine wpAny_If (thn (hc pins s σ H _ I h) fun d s1 ⟨H1, I1, q1⟩ => ?_)
  cases d with
  | true => exact ha pins s1 σ H1 D I1 q1
  | false => exact hb pins s1 σ H1 D I1 q1
/-- code that the proof never comes to -/
def tNever : TS := fun _ _ _ => False
theorem ps_never : PS X st tNever := fun _ _ _ _ _ _ h => h.elim
theorem pss_never {sts : List Stmt} : PSs X sts tNever := fun _ _ _ _ _ _ h => h.elim
end

/-! ### targets -/
abbrev TG := V → St → Hp → (St → Hp → Prop) → Prop
abbrev TGs := List V → St → Hp → (St → Hp → Prop) → Prop
def PG (X : Cx) (target : Expr) (t : TG) : Prop :=
  ∀ (pins : List (Addr × Obj)) (s : Shared) (σ : St) (H : Hp) (v : V) (u : Value) (Q : St → Hp → Prop), Inv X pins σ H s → RelV v u → t v σ H Q →
    wpAny (model X.prog X.w) X.A (assign target X.env u) (fun _ s' => ∃ σ' H', Inv X pins σ' H' s' ∧ Q σ' H') X.xe s
/-- several targets, one after another -/
def PGs (X : Cx) (ts : List Expr) (t : TGs) : Prop :=
  ∀ (pins : List (Addr × Obj)) (s : Shared) (σ : St) (H : Hp) (vs : List V) (us : List Value) (Q : St → Hp → Prop), Inv X pins σ H s → Vals vs us → t vs σ H Q →
    wpAny (model X.prog X.w) X.A (assignInOrder ((assignEach ts X.env).map (·.2)) us) (fun _ s' => ∃ σ' H', Inv X pins σ' H' s' ∧ Q σ' H') X.xe s
/-- o[i] = v, by values -/
abbrev TSet := V → V → V → Hp → (Hp → Prop) → Prop
def PSet (X : Cx) (t : TSet) : Prop :=
  ∀ (pins : List (Addr × Obj)) (s : Shared) (σ : St) (H : Hp) (o i v : V) (ov iv u : Value) (Q : Hp → Prop), Inv X pins σ H s → RelV o ov → RelV i iv → RelV v u → t o i v H Q →
    wpAny (model X.prog X.w) X.A (setItem ov iv u) (fun _ s' => ∃ H', Inv X pins σ H' s' ∧ Q H') X.xe s
/-- a op= b, by values -/
abbrev TIp := V → V → Hp → VK → Prop
def PIp (X : Cx) (op : Operator) (t : TIp) : Prop :=
  ∀ (pins : List (Addr × Obj)) (s : Shared) (σ : St) (H : Hp) (x y : V) (v u : Value) (Q : VK), Inv X pins σ H s → RelV x v → RelV y u → t x y H Q →
    wpAny (model X.prog X.w) X.A (inplaceOp op v u) (EP X pins σ Q) X.xe s
section
variable {X : Cx} {pos : Pos}
def gName (i : Nat) : TG := fun v σ H Q => Q (σ.set i (some v)) H
theorem pg_name {i : Nat} {x : Str} (hN : X.N.Nodup) (hi : X.N[i]? = some x) (hx : Loc X.env.scope x) (hf : X.fn x = true ∨ X.env.scope.names.lookup x = some .local := by first | exact .inl rfl | exact .inr rfl | assumption) : PG X (.Name x pos) (gName i) := by
  intro pins s σ H v u Q I r h
  exact wpAny_assign_Name (store_ok I hN hi hx r (fun s' I' => ⟨_, H, I', h⟩) hf)
def gNil : TGs := fun vs σ H Q => vs = [] ∧ Q σ H
def gCons (t : TG) (u : TGs) : TGs := fun vs σ H Q => ∃ v r, vs = v :: r ∧ t v σ H fun σ' H' => u r σ' H' Q
theorem pgs_nil : PGs X [] gNil := by
  intro pins s σ H vs us Q I r h
  obtain ⟨e, h⟩ := h
  subst e
  cases r
  exact assignInOrder_nil ⟨σ, H, I, h⟩
theorem pgs_cons {e : Expr} {es : List Expr} {t : TG} {u : TGs} (h1 : PG X e t) (h2 : PGs X es u)
    (hs : (assignEach (e :: es) X.env).map (·.2) = assign e X.env :: (assignEach es X.env).map (·.2) := by rfl) : PGs X (e :: es) (gCons t u) := by
  intro pins s σ H vs us Q I r h
  obtain ⟨v, vr, e1, h⟩ := h
  subst e1
  cases r with
  | cons r rr =>
    rw [hs]
    refine assignInOrder_cons (thn (h1 pins s σ H _ _ _ I r h) fun _ s1 ⟨σ1, H1, I1, q1⟩ => ?_)
    exact h2 pins s1 σ1 H1 _ _ Q I1 rr q1
/-- (a, b, ..) = a tuple of that length -/
def gTup (K : PySem.W.Frag) (n : Nat) (t : TGs) : TG := fun v σ H Q => ∃ a xs, v = .ref a ∧ SqT K H a xs ∧ xs.length = n ∧ t xs σ H Q
theorem pg_tup {es : List Expr} {k : Nat} {t : TGs} {n : Nat} (hc : X.calm = true) (h : PGs X es t)
    (hn : (assignEach es X.env).length = n := by rfl) (hst : (assignEach es X.env).findIdx? (·.1) = none := by rfl) : PG X (.Tuple es k pos) (gTup X.K n t) := by
  intro pins s σ H v u Q I r hw
  obtain ⟨a, xs, e1, hq, hl, hw⟩ := hw
  subst e1
  cases r
  obtain ⟨its, rv, ht, hz⟩ := I.tuple hq
  refine assign_Tuple_tuple (I.ok.hd hc) ht (by simp [hn, ← hl, rv.length]) hst fun h' hx => ?_
  have I1 : Inv X pins σ H { s with heap := h' } := I.kept (t' := s.toks) fun b o e => hx b o (Nat.ne_of_lt (Heap.lt_size e)) e
  exact h pins _ σ H xs _ Q I1 (by simpa using rv) hw
/-- o[i] = .. -/
def gSub (to ti : TE) (t : TSet) : TG := fun v σ H Q => to σ H fun o H1 => ti σ H1 fun i H2 => t o i v H2 fun H3 => Q σ H3
theorem pg_sub {o i : Expr} {to ti : TE} {t : TSet} (ho : PE X o to) (hi : PE X i ti) (hs : PSet X t)
    (ha : ∀ v, assign (.Subscript o i pos) X.env v = (do
      let ov ← holding [v] (eval o X.env)
      let iv ← holding [v, ov] (eval i X.env)
      standAt pos
      holding [v, ov, iv] (setItem ov iv v)
      release [v, ov, iv] []) := by intro _; rfl) : PG X (.Subscript o i pos) (gSub to ti t) := by
  intro pins s σ H v u Q I r h
  rw [ha]
  refine wpAny_bind (wpAny_holding (thn (ho pins s σ H _ I h) fun ov s1 ⟨x, H1, I1, r1, q1⟩ => ?_))
  refine wpAny_bind (wpAny_holding (thn (hi pins s1 σ H1 _ I1 q1) fun iv s2 ⟨y, H2, I2, r2, q2⟩ => ?_))
  refine wpAny_bind (wpAny_standAt (wpAny_bind (wpAny_holding (thn (hs pins s2 σ H2 x y v ov iv u _ I2 r1 r2 r q2) fun _ s3 ⟨H3, I3, q3⟩ => ?_))))
  exact wpAny_release ⟨σ, H3, I3, q3⟩
/-- target = value -/
def tAsg (te : TE) (g : TG) : TS := fun D σ H => te σ H fun x H1 => g x σ H1 D.nx
theorem ps_asg {tg e : Expr} {te : TE} {g : TG} (he : PE X e te) (hg : PG X tg g) (hs : swapsWithSole [tg] e pos.line X.env = pure false := by rfl) (hw : swappedStores [tg] e X.env = pure none := by rfl)
    (h1 : (assignEach [tg] X.env).map (·.2) = [assign tg X.env] := by rfl) : PS X (.Assign [tg] e pos) (tAsg te g) := by
  intro pins s σ H D I h
  refine wpAny_Assign_stores (thn (he pins s σ H _ I h) fun v s1 ⟨x, H1, I1, r1, q1⟩ => ?_) hs hw
  rw [h1]
  exact thn (hg pins s1 σ H1 x v _ I1 r1 q1) fun _ s2 q => q
/-- name = value -/
theorem ps_set {i : Nat} {x : Str} {e : Expr} {te : TE} {pos' : Pos} (hN : X.N.Nodup) (hi : X.N[i]? = some x) (hx : Loc X.env.scope x) (he : PE X e te) (hs : swapsWith e (some (.Name x pos')) pos.line X.env = pure false := by rfl) (hf : X.fn x = true ∨ X.env.scope.names.lookup x = some .local := by first | exact .inl rfl | exact .inr rfl | assumption) :
    PS X (.Assign [.Name x pos'] e pos) (tAsg te (gName i)) := by
  intro pins s σ H D I h
  refine wpAny_Assign_Name (thn (he pins s σ H _ I h) fun v s1 ⟨y, H1, I1, r1, q1⟩ => ?_) hs
  exact store_ok I1 hN hi hx r1 (fun s2 I2 => ⟨_, H1, I2, q1⟩) hf
/-- a, b = x, y with plain local names: stored from the right; the pair itself is not tracked (the opening rows as in PyProof/Rows/TupAssign.lean:23) -/
def tPar (i j : Nat) (ta : TA) : TS := fun D σ H => ta σ H fun vs H1 => ∃ v w, vs = [v, w] ∧ D.nx ((σ.set i (some v)).set j (some w)) H1
theorem ps_par {i j : Nat} {x y : Str} {a b : Expr} {ta : TA} {px py pt : Pos} {kt k2 pt2} (hc : X.calm = true) (hN : X.N.Nodup) (hi : X.N[i]? = some x) (hj : X.N[j]? = some y) (hij : i ≠ j)
    (hx : X.env.scope.names.lookup x = some .local) (hy : X.env.scope.names.lookup y = some .local) (ha : PA X [a, b] ta)
    (hw : swappedStores [.Tuple [.Name x px, .Name y py] kt pt] (.Tuple [a, b] k2 pt2) X.env = pure (some [x, y]))
    (hs : swapsWithSole [.Tuple [.Name x px, .Name y py] kt pt] (.Tuple [a, b] k2 pt2) pos.line X.env = pure false := by rfl) :
    PS X (.Assign [.Tuple [.Name x px, .Name y py] kt pt] (.Tuple [a, b] k2 pt2) pos) (tPar i j ta) := by
  intro pins s σ H D I h
  rw [exec_Assign_arm]
  refine wpAny_bind (wpAny_standAt ?_)
  rw [hs]
  refine wpAny_bind (wpAny_pure ?_)
  rw [if_neg (by decide)]
  refine wpAny_bind (Tuple_ (thn (ha _ pins s σ H _ I h) fun us s1 ⟨vs, H1, I1, r1, q1⟩ => ?_))
  obtain ⟨v, w, e1, q1⟩ := q1
  subst e1
  obtain ⟨u1, u2, rfl, rv, rw'⟩ : ∃ u1 u2, us = [u1, u2] ∧ RelV v u1 ∧ RelV w u2 := by
    cases r1 with
    | cons p q =>
      cases q with
      | cons p' q' =>
        cases q'
        exact ⟨_, _, rfl, p, p'⟩
  refine wpAny_newObj_type ?_ (by show 2 ≤ sizeLine; decide)
  have I2 : Inv X pins σ H1 { s1 with heap := s1.heap.push { cls := .type "tuple", data := .seq [u1, u2].toArray } } := I1.kept (t' := s1.toks) fun b o e => Heap.get?_push_of_some _ e
  rw [hw]
  refine wpAny_bind (wpAny_pure ?_)
  show wpAny (model X.prog X.w) X.A (do rule "assign.swapped-stores"; let items ← unpackItems (.ref s1.heap.objs.size) 2 none; assignInOrder [fun v => bindName X.env y v, fun v => bindName X.env x v] items.reverse; pure Flow.next) _ _ _
  refine wpAny_bind (wpAny_rule (wpAny_bind (unpackItems_tuple (items := #[u1, u2]) (I.ok.hd hc) (IsTup.new s1.heap _) fun h' hx' => ?_)))
  have I3 := I2.kept (h' := h') (t' := s1.toks) fun b o e => hx' b o (Nat.ne_of_lt (Heap.lt_size e)) e
  show wpAny _ _ (assignInOrder [fun v => bindName X.env y v, fun v => bindName X.env x v] [u2, u1] >>= fun _ => pure Flow.next) _ _ _
  refine wpAny_bind (assignInOrder_cons (wpAny_bindName (store_ok I3 hN hj (.inl hy) rw' (fun s2 I4 => ?_) (.inr hy))))
  refine assignInOrder_cons (wpAny_bindName (store_ok I4 hN hi (.inl hx) rv (fun s3 I5 => assignInOrder_nil (wpAny_pure ?_)) (.inr hx)))
  rw [List.set_comm _ _ (Ne.symm hij)] at I5
  exact ⟨_, H1, I5, q1⟩
/-- name op= e -/
def tAug (i : Nat) (te : TE) (ti : TIp) : TS := fun D σ H => ∃ x, σ[i]? = some (some x) ∧ te σ H fun y H1 => ti x y H1 fun z H2 => D.nx (σ.set i (some z)) H2
theorem ps_aug {i : Nat} {x : Str} {e : Expr} {te : TE} {op : Operator} {ti : TIp} {pos' : Pos} (hN : X.N.Nodup) (hi : X.N[i]? = some x) (hx : Loc X.env.scope x) (he : PE X e te) (ho : PIp X op ti) (hf : X.fn x = true ∨ X.env.scope.names.lookup x = some .local := by first | exact .inl rfl | exact .inr rfl | assumption) :
    PS X (.AugAssign (.Name x pos') op e pos) (tAug i te ti) := by
  intro pins s σ H D I h
  obtain ⟨v, e1, h⟩ := h
  obtain ⟨m, hn, hl⟩ := I.loc
  have vis : Vis X.env.scope x := by rcases hx with k | k; exact .inl k; exact .inr (.inl k)
  obtain ⟨u, r, l⟩ := hl i x v hi e1 vis
  refine wpAny_AugAssign_Name ?_
  have go : wpAny (model X.prog X.w) X.A (eval e X.env) (fun w s₂ => wpAny (model X.prog X.w) X.A (inplaceOp op u w) (fun r s₃ => wpAny (model X.prog X.w) X.A (storeName X.env x r) (fun _ => SP X pins D .next) X.xe s₃) X.xe s₂) X.xe s := by
    refine thn (he pins s σ H _ I h) fun w s1 ⟨y, H1, I1, r1, q1⟩ => ?_
    refine thn (ho pins s1 σ H1 v y u w _ I1 r r1 q1) fun z s2 ⟨zv, H2, I2, r2, q2⟩ => ?_
    exact store_ok I2 hN hi hx r2 (fun s3 I3 => ⟨_, H2, I3, q2⟩) hf
  rcases l with ⟨hk, hm⟩ | ⟨hk, c, hc, hcell⟩
  · exact wpAny_loadName_local I.ok.kind hk hn hm go
  · rcases hk with hk | hk
    · exact wpAny_loadName_cell I.ok.kind hk hc hcell go
    · rcases hx with k | k
      · have : X.env.scope.names.lookup x = some .free := hk
        rw [k] at this; cases this
      · have : X.env.scope.names.lookup x = some .free := hk
        rw [k] at this; cases this
/-- o[i] op= e -/
def tAugS (to ti te : TE) (tget : V → V → Hp → VK → Prop) (tip : TIp) (tset : TSet) : TS := fun D σ H => to σ H fun o H1 => ti σ H1 fun i H2 => tget o i H2 fun x H3 => te σ H3 fun y H4 => tip x y H4 fun z H5 => tset o i z H5 fun H6 => D.nx σ H6
/-- o[i], by values -/
def PGet (X : Cx) (t : V → V → Hp → VK → Prop) : Prop :=
  ∀ (pins : List (Addr × Obj)) (s : Shared) (σ : St) (H : Hp) (o i : V) (ov iv : Value) (Q : VK), Inv X pins σ H s → RelV o ov → RelV i iv → t o i H Q →
    wpAny (model X.prog X.w) X.A (getItem ov iv) (EP X pins σ Q) X.xe s
theorem ps_augS {o i e : Expr} {to ti te : TE} {tget : V → V → Hp → VK → Prop} {tip : TIp} {tset : TSet} {op : Operator} {tpos : Pos} (ho : PE X o to) (hi : PE X i ti) (hg : PGet X tget) (he : PE X e te) (hp : PIp X op tip) (hs : PSet X tset)
    (ha : ∀ ov iv new, augStore i ov iv new = (do holding [new, ov, iv] (setItem ov iv new); release [new, ov, iv] []; pure .next) := by intros; rfl) : PS X (.AugAssign (.Subscript o i tpos) op e pos) (tAugS to ti te tget tip tset) := by
  intro pins s σ H D I h
  refine wpAny_AugAssign_SubscriptAny (thn (ho pins s σ H _ I h) fun ov s1 ⟨x1, H1, I1, r1, q1⟩ => ?_) ha
  refine thn (hi pins s1 σ H1 _ I1 q1) fun iv s2 ⟨x2, H2, I2, r2, q2⟩ => ?_
  refine thn (hg pins s2 σ H2 x1 x2 ov iv _ I2 r1 r2 q2) fun old s3 ⟨x3, H3, I3, r3, q3⟩ => ?_
  refine thn (he pins s3 σ H3 _ I3 q3) fun v s4 ⟨x4, H4, I4, r4, q4⟩ => ?_
  refine thn (hp pins s4 σ H4 x3 x4 old v _ I4 r3 r4 q4) fun new s5 ⟨x5, H5, I5, r5, q5⟩ => ?_
  exact thn (hs pins s5 σ H5 x1 x2 x5 ov iv new _ I5 r1 r2 r5 q5) fun _ s6 ⟨H6, I6, q6⟩ => ⟨σ, H6, I6, q6⟩
/-- ints -/
def ipI (f : Int → Int → Int) : TIp := fun x y H Q => ∃ i j, x = .int i ∧ y = .int j ∧ Q (.int (f i j)) H
theorem ip_add : PIp X .Add (ipI fun i j => i + j) := by
  intro pins s σ H x y v u Q I r1 r2 h
  obtain ⟨i, j, e1, e2, q⟩ := h
  subst e1; subst e2
  obtain ⟨t, rfl⟩ := r1
  obtain ⟨t', rfl⟩ := r2
  exact iadd_int ⟨.int _, H, I.tok _, ⟨_, rfl⟩, q⟩
theorem ip_sub : PIp X .Sub (ipI fun i j => i - j) := by
  intro pins s σ H x y v u Q I r1 r2 h
  obtain ⟨i, j, e1, e2, q⟩ := h
  subst e1; subst e2
  obtain ⟨t, rfl⟩ := r1
  obtain ⟨t', rfl⟩ := r2
  exact isub_int ⟨.int _, H, I.tok _, ⟨_, rfl⟩, q⟩
end

/-! ### while -/
section
variable {X : Cx} {pos : Pos}
/-- the invariant W with its measure -/
def tWhile (c : TT) (tb : TS) : TS := fun D σ H => ∃ W : Nat → St → Hp → Prop, (∃ m, W m σ H) ∧ ∀ m σ H, W m σ H →
  c σ H fun b H1 => if b = true then ∃ N : St → Hp → Prop, (∀ σ' H', N σ' H' → ∃ m', m' < m ∧ W m' σ' H') ∧ tb { D with nx := N, ct := N, bk := D.nx } σ H1 else D.nx σ H1
theorem ps_while {c : Expr} {body : List Stmt} {tc : TT} {tb : TS} (hp : PassesOwn (model X.prog X.w) X.A X.env X.xe) (hc : PT X c tc) (hb : PSs X body tb) : PS X (.While c body [] pos) (tWhile tc tb) := by
  intro pins s σ H D I h
  obtain ⟨W, ⟨m0, w0⟩, turn⟩ := h
  refine wpAny_While (codeAny_whileLoop (fun n s' => ∃ σ' H', Inv X pins σ' H' s' ∧ W n σ' H') ?_ m0 ⟨σ, H, I, w0⟩)
  rintro n s1 ⟨σ1, H1, I1, w1⟩
  refine wpAny_passesOwn hp (thn (hc pins s1 σ1 H1 _ I1 (turn n σ1 H1 w1)) fun b s2 ⟨H2, I2, q2⟩ => ?_)
  cases b with
  | true =>
    obtain ⟨N, hN, q2⟩ := q2
    rw [if_pos rfl]
    refine wpAny_passesOwn hp (thn (hb pins s2 σ1 H2 _ I2 q2) fun f s3 q3 => ?_)
    cases f with
    | next =>
      obtain ⟨σ3, H3, I3, n3⟩ := q3
      obtain ⟨m', hm, w3⟩ := hN σ3 H3 n3
      exact ⟨m', hm, σ3, H3, I3, w3⟩
    | cont =>
      obtain ⟨σ3, H3, I3, n3⟩ := q3
      obtain ⟨m', hm, w3⟩ := hN σ3 H3 n3
      exact ⟨m', hm, σ3, H3, I3, w3⟩
    | brk => exact q3
    | ret v => exact q3
  | false =>
    rw [if_neg Bool.false_ne_true]
    exact wpAny_execs_nil ⟨σ1, H2, I2, q2⟩
end

/-! ### what a loop or a comprehension walks -/
/-- at turn i: it yields x (the heap may grow), or it stops -/
structure It where
  go : Nat → Hp → Prop
  yld : Nat → Hp → V → Hp → Prop
  stop : Nat → Hp → Prop
/-- the iterator's own objects may turn: they are not the frame's, not pinned, younger than the entry (or a comprehension's own) -/
def FpOk (X : Cx) (pins : List (Addr × Obj)) (H : Hp) (b : Addr) : Prop :=
  H b = none ∧ b ≠ X.env.locals ∧ b ∉ X.fs ∧ (b ∈ X.ex ∨ X.s₀.heap.objs.size ≤ b) ∧ (∀ x c, X.env.cells.lookup x = some c → c ≠ b) ∧ ∀ p ∈ X.pn ++ pins, p.1 ≠ b
theorem Inv.fpOk {X : Cx} {pins : List (Addr × Obj)} {σ : St} {H H' : Hp} {s : Shared} {b : Addr} (I : Inv X pins σ H s) (hb : s.heap.objs.size ≤ b) (hn : H' b = none) : FpOk X pins H' b := by
  refine ⟨hn, Nat.ne_of_gt (Nat.lt_of_lt_of_le I.lt hb), I.nofs hb, .inr (Nat.le_trans I.sz hb), fun x c e z => ?_, fun p hp z => ?_⟩
  · obtain ⟨v, q⟩ := I.cell x c e
    exact absurd (Nat.lt_of_lt_of_le q.lt (by rw [z]; exact hb)) (Nat.lt_irrefl _)
  · exact absurd (Nat.lt_of_lt_of_le (Heap.lt_size (I.pin p hp).1) (by rw [z]; exact hb)) (Nat.lt_irrefl _)
structure Turn (P : Program) (w : World) (K : PySem.W.Frag) (tg : Expr) (J : It) (fp : List Addr) (it : Addr) (tn : Nat → Heap → Prop) : Prop where
  mem : it ∈ fp
  obj : ∀ i h, tn i h → ∀ b ∈ fp, ∃ o, h.get? b = some o ∧ ∀ v, o.data ≠ .cell v
  keep : ∀ i h h', tn i h → (∀ b ∈ fp, ∀ o, h.get? b = some o → h'.get? b = some o) → tn i h'
  item : ∀ (X : Cx), X.prog = P → X.w = w → X.K = K → X.calm = true → ∀ (i : Nat) (pins : List (Addr × Obj)) (s : Shared) (σ : St) (H : Hp) (E : Value → Shared → Prop), Inv X pins σ H s → (∀ b ∈ fp, FpOk X pins H b) → tn i s.heap → J.go i H →
    wpAny (model P w) X.A (pyNext (.ref it)) (fun r s1 => ∃ u, r = some u ∧
      wpAny (model P w) X.A (letOwnedTupleGo tg (.ref it) u) (fun _ s2 => ∃ x H', Inv X pins σ H' s2 ∧ RelV x u ∧ J.yld i H x H' ∧ tn (i + 1) s2.heap ∧ ∀ b ∈ fp, H' b = none) E s1) E s
  done : ∀ (X : Cx), X.prog = P → X.w = w → X.K = K → X.calm = true → ∀ (i : Nat) (pins : List (Addr × Obj)) (s : Shared) (σ : St) (H : Hp) (E : Value → Shared → Prop), Inv X pins σ H s → (∀ b ∈ fp, FpOk X pins H b) → tn i s.heap → J.stop i H →
    wpAny (model P w) X.A (pyNext (.ref it)) (fun r s1 => r = none ∧ Inv X pins σ H s1) E s
  self : ∀ (A : Around) (i : Nat) (s : Shared) (Q : Value → Shared → Prop) (E : Value → Shared → Prop), tn i s.heap → Q (.ref it) s → wpAny (model P w) A (pyIter (.ref it)) Q E s
abbrev TI := St → Hp → (It → Hp → Prop) → Prop
/-- an iterator has come -/
def PIE (X : Cx) (pins : List (Addr × Obj)) (σ : St) (tg : Expr) (R : It → Hp → Prop) (itv : Value) (s2 : Shared) : Prop :=
  ∃ (it : Addr) (fp : List Addr) (tn : Nat → Heap → Prop) (J : It) (H' : Hp), itv = .ref it ∧ Inv X pins σ H' s2 ∧ Turn X.prog X.w X.K tg J fp it tn ∧ tn 0 s2.heap ∧ (∀ b ∈ fp, FpOk X pins H' b) ∧ R J H'
def PI (X : Cx) (tg iter : Expr) (wi : TI) : Prop :=
  ∀ (pins : List (Addr × Obj)) (s : Shared) (σ : St) (H : Hp) (R : It → Hp → Prop), Inv X pins σ H s → wi σ H R →
    wpAny (model X.prog X.w) X.A (eval iter X.env) (fun v s1 => wpAny (model X.prog X.w) X.A (pyIter v) (PIE X pins σ tg R) X.xe s1) X.xe s

/-- the step ahead of the store is nothing for an iterator that keeps no tuple -/
theorem go_of {M : Model} {A : Around} {E : Value → Shared → Prop} {s : Shared} {tg : Expr} {it : Addr} {u : Value} {o : Obj} {n : String} {vs : Array Value} {Q : Unit → Shared → Prop} (ho : s.heap.get? it = some o) (hc : o.cls = .type n) (hd : o.data = .fields vs)
    (hn : ["enumerate", "zip", "dict_itemiterator", "dict_reverseitemiterator", "odict_iterator", "itertools.zip_longest", "itertools.pairwise"].contains n = false) (hQ : Q () s) : wpAny M A (letOwnedTupleGo tg (.ref it) u) Q E s := by
  unfold letOwnedTupleGo
  cases tg <;> first
    | exact wpAny_pure hQ
    | (cases u <;> first
        | exact wpAny_pure hQ
        | (refine wpAny_bind (wpAny_load ho ?_)
           rw [hc, hd]
           show wpAny M A (if (["enumerate", "zip", "dict_itemiterator", "dict_reverseitemiterator", "odict_iterator", "itertools.zip_longest", "itertools.pairwise"].contains n && vs[0]? == some (rawInt _)) = true then _ else _) Q E s
           rw [if_neg (by intro h; rw [hn, Bool.false_and] at h; cases h)]
           exact wpAny_pure hQ))

/-- the list at a, as it stands at each turn (a loop may append to it) -/
def Itl (K : PySem.W.Frag) (a : Addr) : It :=
  ⟨fun i H => ∃ xs x, SqL K H a xs ∧ xs[i]? = some x, fun i H x H' => H' = H ∧ ∀ xs, SqL K H a xs → xs[i]? = some x, fun i H => ∃ xs, SqL K H a xs ∧ xs.length ≤ i⟩
def Itt (K : PySem.W.Frag) (a : Addr) : It :=
  ⟨fun i H => ∃ xs x, SqT K H a xs ∧ xs[i]? = some x, fun i H x H' => H' = H ∧ ∀ xs, SqT K H a xs → xs[i]? = some x, fun i H => ∃ xs, SqT K H a xs ∧ xs.length ≤ i⟩
/-- lo, lo + 1, .. (n of them) -/
def Itr (lo : Int) (n : Nat) : It := ⟨fun i _ => i < n, fun i H x H' => H' = H ∧ x = .int (lo + i), fun i _ => n ≤ i⟩
theorem turn_list {P : Program} {w : World} {K : PySem.W.Frag} {tg : Expr} (a it : Addr) : Turn P w K tg (Itl K a) [it] it (fun i h => h.IsListIter it a i) where
  mem := by simp
  obj := fun i h st b hb => by
    have e : b = it := by simpa using hb
    subst e
    obtain ⟨o, e, c, d⟩ := st
    exact ⟨o, e, fun v z => by rw [d] at z; cases z⟩
  keep := fun i h h' st k => st.at fun o e => k it (by simp) o e
  item := by
    intro X hP hw hK hc i pins s σ H E I hf st hg
    subst hP hw hK
    obtain ⟨xs, x, hq, hx⟩ := hg
    obtain ⟨its, rv, p, hz⟩ := I.list hq
    obtain ⟨u, hu, ru⟩ := rv.get hx
    obtain ⟨f0, f1, f2, f3, f4, f5⟩ := hf it (by simp)
    refine wpAny_pyNext_list_item st p.isList (x := u) (by simpa using hu) fun h' st' sb => ?_
    have I1 : Inv X pins σ H { s with heap := h' } := I.turned (t' := s.toks) (fun b o hb e => (sb.2 b hb).trans e) f0 f1 f3 f4 f5
    obtain ⟨o, e, c, d⟩ := id st'
    exact ⟨u, rfl, go_of (s := { s with heap := h' }) e c d (by decide) ⟨x, H, I1, ru, ⟨rfl, fun ys hy => by rw [I.list_inj hy hq]; exact hx⟩, st', fun b hb => (hf b hb).1⟩⟩
  done := by
    intro X hP hw hK hc i pins s σ H E I hf st hg
    subst hP hw hK
    obtain ⟨xs, hq, hx⟩ := hg
    obtain ⟨its, rv, p, hz⟩ := I.list hq
    obtain ⟨f0, f1, f2, f3, f4, f5⟩ := hf it (by simp)
    have hl := rv.length
    exact wpAny_pyNext_list_end (I.ok.hd hc) st p.isList (by simp; omega) fun h' eb => ⟨rfl, I.turned (t' := s.toks) (fun b o hb e => eb b o hb e) f0 f1 f3 f4 f5⟩
  self := fun _ _ _ _ _ st h => wpAny_pyIter_listiter st h
theorem turn_tuple {P : Program} {w : World} {K : PySem.W.Frag} {tg : Expr} (a it : Addr) : Turn P w K tg (Itt K a) [it] it (fun i h => h.IsTupleIter it a i) where
  mem := by simp
  obj := fun i h st b hb => by
    have e : b = it := by simpa using hb
    subst e
    obtain ⟨o, e, c, d⟩ := st
    exact ⟨o, e, fun v z => by rw [d] at z; cases z⟩
  keep := fun i h h' st k => st.at fun o e => k it (by simp) o e
  item := by
    intro X hP hw hK hc i pins s σ H E I hf st hg
    subst hP hw hK
    obtain ⟨xs, x, hq, hx⟩ := hg
    obtain ⟨its, rv, p, hz⟩ := I.tuple hq
    obtain ⟨u, hu, ru⟩ := rv.get hx
    obtain ⟨f0, f1, f2, f3, f4, f5⟩ := hf it (by simp)
    refine wpAny_pyNext_tuple_item st (show s.heap.IsTuple a its.toArray from p) (x := u) (by simpa using hu) fun h' st' sb => ?_
    have I1 : Inv X pins σ H { s with heap := h' } := I.turned (t' := s.toks) (fun b o hb e => (sb.2 b hb).trans e) f0 f1 f3 f4 f5
    obtain ⟨o, e, c, d⟩ := id st'
    exact ⟨u, rfl, go_of (s := { s with heap := h' }) e c d (by decide) ⟨x, H, I1, ru, ⟨rfl, fun ys hy => by rw [I.tuple_inj hy hq]; exact hx⟩, st', fun b hb => (hf b hb).1⟩⟩
  done := by
    intro X hP hw hK hc i pins s σ H E I hf st hg
    subst hP hw hK
    obtain ⟨xs, hq, hx⟩ := hg
    obtain ⟨its, rv, p, hz⟩ := I.tuple hq
    obtain ⟨f0, f1, f2, f3, f4, f5⟩ := hf it (by simp)
    have hl := rv.length
    exact wpAny_pyNext_tuple_end (I.ok.hd hc) st (show s.heap.IsTuple a its.toArray from p) (by simp; omega) fun h' eb => ⟨rfl, I.turned (t' := s.toks) (fun b o hb e => eb b o hb e) f0 f1 f3 f4 f5⟩
  self := fun _ _ _ _ _ st h => wpAny_pyIter_tupleiter st h
theorem turn_range {P : Program} {w : World} {K : PySem.W.Frag} {tg : Expr} (it : Addr) (lo : Int) (n : Nat) : Turn P w K tg (Itr lo n) [it] it (fun i h => IsRangeIter h it (lo + (i : Nat) * 1) ((n : Int) - (i : Nat)) 1) where
  mem := by simp
  obj := fun i h st b hb => by
    have e : b = it := by simpa using hb
    subst e
    exact ⟨_, st, fun v z => by
      have z' : Data.fields _ = Data.cell v := z
      cases z'⟩
  keep := fun i h h' st k => k it (by simp) _ st
  item := by
    intro X hP hw hK hc i pins s σ H E I hf st hg
    subst hP hw hK
    obtain ⟨f0, f1, f2, f3, f4, f5⟩ := hf it (by simp)
    have W := Walks.range (prog := X.prog) (w := X.w) (I.ok.hd hc) it lo 1 n
    refine W.item i s _ _ hg st fun v h' tk hv st' kk => ?_
    obtain ⟨t, rfl⟩ := hv
    have I1 : Inv X pins σ H { s with heap := h', toks := tk } := I.turned (fun b o hb e => kk b o (by simpa using hb) e) f0 f1 f3 f4 f5
    refine ⟨_, rfl, go_of (s := { s with heap := h', toks := tk }) (n := "range_iterator") st' rfl rfl (by decide) ⟨.int (lo + i), H, I1, ⟨t, ?_⟩, ⟨rfl, rfl⟩, st', fun b hb => (hf b hb).1⟩⟩
    rw [Int.mul_one]
  done := by
    intro X hP hw hK hc i pins s σ H E I hf st hg
    subst hP hw hK
    obtain ⟨f0, f1, f2, f3, f4, f5⟩ := hf it (by simp)
    exact wpAny_pyNext_range_end (I.ok.hd hc) st (by have : n ≤ i := hg; omega) fun h' eb => ⟨rfl, I.turned (t' := s.toks) (fun b o hb e => eb b o hb e) f0 f1 f3 f4 f5⟩
  self := fun _ _ _ _ _ st h => wpAny_pyIter_rangeiter st h
end L2

namespace L2
open PySem PySem.Spec PyProof.Rows
section
variable {X : Cx} {tg : Expr}
def iList (K : PySem.W.Frag) (tl : TE) : TI := fun σ H R => tl σ H fun x H1 => ∃ a, x = .ref a ∧ (∃ xs, SqL K H1 a xs) ∧ R (Itl K a) H1
def iTup (K : PySem.W.Frag) (tl : TE) : TI := fun σ H R => tl σ H fun x H1 => ∃ a, x = .ref a ∧ (∃ xs, SqT K H1 a xs) ∧ R (Itt K a) H1
theorem pi_list {l : Expr} {tl : TE} (hl : PE X l tl) : PI X tg l (iList X.K tl) := by
  intro pins s σ H R I h
  refine thn (hl pins s σ H _ I h) fun v s1 ⟨x, H1, I1, r1, q1⟩ => ?_
  obtain ⟨a, e, ⟨xs, hq⟩, q⟩ := q1
  subst e
  cases r1
  obtain ⟨its, rv, p, hz⟩ := I1.list hq
  refine wpAny_pyIter_list p.isList ?_
  refine ⟨s1.heap.objs.size, [s1.heap.objs.size], _, _, H1, rfl, I1.kept (t' := s1.toks) fun b o e => Heap.get?_push_of_some _ e, turn_list a _, ⟨_, Heap.get?_push_size _ rfl, rfl, rfl⟩, fun b hb => ?_, q⟩
  have e : b = s1.heap.objs.size := by simpa using hb
  subst e
  exact I1.fpOk (Nat.le_refl _) (I1.hok.fresh (Nat.le_refl _))
theorem pi_tup {l : Expr} {tl : TE} (hl : PE X l tl) : PI X tg l (iTup X.K tl) := by
  intro pins s σ H R I h
  refine thn (hl pins s σ H _ I h) fun v s1 ⟨x, H1, I1, r1, q1⟩ => ?_
  obtain ⟨a, e, ⟨xs, hq⟩, q⟩ := q1
  subst e
  cases r1
  obtain ⟨its, rv, p, hz⟩ := I1.tuple hq
  refine wpAny_pyIter_tuple (show s1.heap.IsTuple a its.toArray from p) ?_
  refine ⟨s1.heap.objs.size, [s1.heap.objs.size], _, _, H1, rfl, I1.kept (t' := s1.toks) fun b o e => Heap.get?_push_of_some _ e, turn_tuple a _, ⟨_, Heap.get?_push_size _ rfl, rfl, rfl⟩, fun b hb => ?_, q⟩
  have e : b = s1.heap.objs.size := by simpa using hb
  subst e
  exact I1.fpOk (Nat.le_refl _) (I1.hok.fresh (Nat.le_refl _))
/-- a range object just made, walked -/
theorem range_it {pins : List (Addr × Obj)} {σ : St} {H : Hp} {s : Shared} {R : It → Hp → Prop} {E : Value → Shared → Prop} {lo hi : Int} {t u v : Tok} {tk : Nat} (I : Inv X pins σ H s) (h1 : -(2 ^ 62) ≤ lo) (h2 : lo < 2 ^ 62) (h3 : -(2 ^ 62) ≤ hi) (h4 : hi < 2 ^ 62)
    (q : R (Itr lo (hi - lo).toNat) H) : wpAny (model X.prog X.w) X.A (pyIter (.ref s.heap.objs.size)) (PIE X pins σ tg R) E { s with heap := s.heap.push { cls := .type "range", data := .fields #[.int lo t, .int hi u, .int 1 v] }, toks := tk } := by
  refine wpAny_pyIter_range (IsRange.new ..) (small_one h1 h2 h3 h4) ?_
  have I1 : Inv X pins σ H { s with heap := s.heap.push { cls := .type "range", data := .fields #[.int lo t, .int hi u, .int 1 v] }, toks := tk } := I.kept fun b o e => Heap.get?_push_of_some _ e
  refine ⟨(s.heap.push { cls := .type "range", data := .fields #[.int lo t, .int hi u, .int 1 v] }).objs.size, [(s.heap.push { cls := .type "range", data := .fields #[.int lo t, .int hi u, .int 1 v] }).objs.size], _, _, H, rfl,
    I1.kept (t' := tk) fun b o e => Heap.get?_push_of_some _ e, turn_range _ lo (hi - lo).toNat, ?_, fun b hb => ?_, q⟩
  · have e1 : lo + ((0 : Nat) : Int) * 1 = lo := by simp
    have e2 : (((hi - lo).toNat : Nat) : Int) - ((0 : Nat) : Int) = Builtin.Range.rangeSize lo hi 1 := by rw [rangeSize_one]; split <;> omega
    show IsRangeIter _ _ (lo + ((0 : Nat) : Int) * 1) ((((hi - lo).toNat : Nat) : Int) - ((0 : Nat) : Int)) 1
    rw [e1, e2]
    exact Heap.get?_push_size _ rfl
  · have e : b = (s.heap.push { cls := .type "range", data := .fields #[.int lo t, .int hi u, .int 1 v] }).objs.size := by simpa using hb
    subst e
    exact I1.fpOk (Nat.le_refl _) (I1.hok.fresh (Nat.le_refl _))
def iRng1 (ta : TA) : TI := fun σ H R => ta σ H fun vs H1 => ∃ j : Int, vs = [.int j] ∧ -(2 ^ 62) ≤ j ∧ j < 2 ^ 62 ∧ R (Itr 0 j.toNat) H1
def iRng2 (ta : TA) : TI := fun σ H R => ta σ H fun vs H1 => ∃ i j : Int, vs = [.int i, .int j] ∧ (-(2 ^ 62) ≤ i ∧ i < 2 ^ 62 ∧ -(2 ^ 62) ≤ j ∧ j < 2 ^ 62) ∧ R (Itr i (j - i).toNat) H1
theorem pi_range1 {a : Expr} {ta : TA} {p pos : Pos} (hg : Gl X "range") (hm : X.mg "range" = none) (ha : PA X [a] ta) (hs : starEach [a] X.env = [(false, eval a X.env)] := by rfl) : PI X tg (.Call (.Name "range" p) [a] [] pos) (iRng1 ta) := by
  intro pins s σ H R I h
  refine Call_ (ld_blt I hg hm boot_range (PyProof.Rows.callWith_type1 (thn (ha pos pins s σ H _ I h) fun us s1 ⟨vs, H1, I1, r1, q1⟩ => ?_) hs rfl))
  obtain ⟨j, e, q1, q2, q⟩ := q1
  subst e
  cases r1 with
  | cons r rr =>
    cases rr
    obtain ⟨t, rfl⟩ := r
    exact call_range_1 (range_it I1 (by omega) (by omega) q1 q2 (by simpa using q))
theorem pi_range2 {a b : Expr} {ta : TA} {p pos : Pos} (hg : Gl X "range") (hm : X.mg "range" = none) (ha : PA X [a, b] ta) (hs : starEach [a, b] X.env = [(false, eval a X.env), (false, eval b X.env)] := by rfl) (hs2 : starEach [b] X.env = [(false, eval b X.env)] := by rfl) :
    PI X tg (.Call (.Name "range" p) [a, b] [] pos) (iRng2 ta) := by
  intro pins s σ H R I h
  refine Call_ (ld_blt I hg hm boot_range (PyProof.Rows.callWith_type1 (thn (ha pos pins s σ H _ I h) fun us s1 ⟨vs, H1, I1, r1, q1⟩ => ?_) (by rw [hs, hs2]) (by rw [hs2]; rfl)))
  obtain ⟨i, j, e, ⟨q1, q2, q3, q4⟩, q⟩ := q1
  subst e
  cases r1 with
  | cons r rr =>
    cases rr with
    | cons r' rr =>
      cases rr
      obtain ⟨t, rfl⟩ := r
      obtain ⟨t', rfl⟩ := r'
      exact call_range_2 (range_it I1 q1 q2 q3 q4 q)

/-! ### for -/
/-- W: the invariant by the turn and a measure; N: what the body is to reach -/
def tFor (wi : TI) (g : TG) (tb : TS) : TS := fun D σ H => wi σ H fun J H1 => ∃ W : Nat → Nat → St → Hp → Prop, (∃ m, W 0 m σ H1) ∧ ∀ i m σ H, W i m σ H →
  (J.stop i H ∧ D.nx σ H) ∨ (J.go i H ∧ ∃ N : St → Hp → Prop, (∀ σ' H', N σ' H' → ∃ m', m' < m ∧ W (i + 1) m' σ' H') ∧ ∀ x H', J.yld i H x H' → g x σ H' fun σ2 H2 => tb { D with nx := N, ct := N, bk := D.nx } σ2 H2)
/-- the records at fp as they stand -/
def pinsAt (fp : List Addr) (h : Heap) : List (Addr × Obj) := fp.filterMap fun b => (h.get? b).map fun o => (b, o)
theorem mem_pinsAt {fp : List Addr} {h : Heap} {b : Addr} {o : Obj} (hb : b ∈ fp) (e : h.get? b = some o) : (b, o) ∈ pinsAt fp h := List.mem_filterMap.mpr ⟨b, hb, by rw [e]; rfl⟩
theorem of_pinsAt {fp : List Addr} {h : Heap} {p : Addr × Obj} (hp : p ∈ pinsAt fp h) : p.1 ∈ fp ∧ h.get? p.1 = some p.2 := by
  obtain ⟨b, hb, e⟩ := List.mem_filterMap.mp hp
  cases q : h.get? b with
  | none => rw [q] at e; cases e
  | some o =>
    rw [q] at e
    have e' : (b, o) = p := Option.some.inj e
    subst e'
    exact ⟨hb, q⟩
theorem Inv.pinned {pins : List (Addr × Obj)} {σ : St} {H : Hp} {s : Shared} {fp : List Addr} (I : Inv X pins σ H s) (hf : ∀ b ∈ fp, FpOk X pins H b) (ho : ∀ b ∈ fp, ∃ o, s.heap.get? b = some o ∧ ∀ v, o.data ≠ .cell v) : Inv X (pins ++ pinsAt fp s.heap) σ H s :=
  I.pins_of fun p hp => (List.mem_append.mp hp).elim (fun z => I.pin p (List.mem_append_right _ z)) fun z => by
    obtain ⟨hb, e⟩ := of_pinsAt z
    obtain ⟨f0, f1, f2, _⟩ := hf p.1 hb
    obtain ⟨o, e', d⟩ := ho p.1 hb
    rw [e] at e'; cases e'
    exact ⟨e, f0, f1, f2, d⟩
theorem Inv.unpinned {pins pl : List (Addr × Obj)} {σ : St} {H : Hp} {s : Shared} (I : Inv X (pins ++ pl) σ H s) : Inv X pins σ H s := I.pins_of fun p hp => I.pin p (List.mem_append_right _ (List.mem_append_left _ hp))
theorem ps_for {iter : Expr} {body : List Stmt} {wi : TI} {g : TG} {tb : TS} {pos : Pos} (hp : PassesOwn (model X.prog X.w) X.A X.env X.xe) (hc : X.calm = true) (hi : PI X tg iter wi) (hg : PG X tg g) (hb : PSs X body tb)
    (hs : ∀ x, foldedSetIterable iter X.env x = pure x := by intro _; rfl) : PS X (.For tg iter body [] pos) (tFor wi g tb) := by
  intro pins s σ H D I h
  refine wpAny_For (thn (hi pins s σ H _ I h) fun v s1 h1 => thn h1 fun itv s2 h2 => ?_) hs
  obtain ⟨it, fp, tn, J, H2, e, I2, T, st2, f2, W, ⟨m0, w0⟩, turn⟩ := h2
  subst e
  -- what stays true of the iterator's objects through the loop
  have stat : ∀ {H' : Hp}, (∀ b ∈ fp, H' b = none) → ∀ b ∈ fp, FpOk X pins H' b := fun hn b hb => ⟨hn b hb, (f2 b hb).2⟩
  refine codeAny_forLoop_any (fun n s' => ∃ i σ' H', Inv X pins σ' H' s' ∧ tn i s'.heap ∧ (∀ b ∈ fp, H' b = none) ∧ W i n σ' H') ?_ m0 ⟨0, σ, H2, I2, st2, fun b hb => (f2 b hb).1, w0⟩
  rintro n s3 ⟨i, σ3, H3, I3, st3, fr3, w3⟩
  rcases turn i n σ3 H3 w3 with ⟨stop, qn⟩ | ⟨go, N, hN, step⟩
  · refine wpAny_passesOwn hp (thn (T.done X rfl rfl rfl hc i pins s3 σ3 H3 X.xe I3 (stat fr3) st3 stop) fun r s4 ⟨hr, I4⟩ => ?_)
    subst hr
    exact wpAny_execs_nil ⟨σ3, H3, I4, qn⟩
  · refine wpAny_passesOwn hp (thn (T.item X rfl rfl rfl hc i pins s3 σ3 H3 X.xe I3 (stat fr3) st3 go) fun r s4 ⟨u, hr, h4⟩ => ?_)
    subst hr
    refine wpAny_passesOwn hp (thn h4 fun _ s5 ⟨x, H5, I5, r5, y5, st5, fr5⟩ => ?_)
    have I5' := I5.pinned (stat fr5) (T.obj _ _ st5)
    refine wpAny_passesOwn hp (thn (hg _ s5 σ3 H5 x u _ I5' r5 (step x H5 y5)) fun _ s6 ⟨σ6, H6, I6, q6⟩ => ?_)
    refine wpAny_passesOwn hp (thn (hb _ s6 σ6 H6 _ I6 q6) fun f s7 q7 => ?_)
    have again : ∀ {σ7 : St} {H7 : Hp}, Inv X (pins ++ pinsAt fp s5.heap) σ7 H7 s7 → N σ7 H7 → ∃ m, m < n ∧ ∃ i σ' H', Inv X pins σ' H' s7 ∧ tn i s7.heap ∧ (∀ b ∈ fp, H' b = none) ∧ W i m σ' H' := fun {σ7 H7} I7 n7 => by
      obtain ⟨m', hm, w7⟩ := hN σ7 H7 n7
      refine ⟨m', hm, i + 1, σ7, H7, I7.unpinned, T.keep _ _ _ st5 fun b hb o e => (I7.pin (b, o) (List.mem_append_right _ (List.mem_append_right _ (mem_pinsAt hb e)))).1, fun b hb => ?_, w7⟩
      obtain ⟨o, e, d⟩ := T.obj _ _ st5 b hb
      exact (I7.pin (b, o) (List.mem_append_right _ (List.mem_append_right _ (mem_pinsAt hb e)))).2.1
    cases f with
    | next => obtain ⟨σ7, H7, I7, n7⟩ := q7; exact again I7 n7
    | cont => obtain ⟨σ7, H7, I7, n7⟩ := q7; exact again I7 n7
    | brk => obtain ⟨σ7, H7, I7, q7⟩ := q7; exact ⟨σ7, H7, I7.unpinned, q7⟩
    | ret v => obtain ⟨x7, σ7, H7, I7, r7, q7⟩ := q7; exact ⟨x7, σ7, H7, I7.unpinned, r7, q7⟩
end

/-! ### the forms one uses -/
/-- over a list that the body leaves as it is -/
theorem for_list {K : PySem.W.Frag} {a : Addr} {xs : List V} {g : TG} {tb : TS} {D : Ends} {σ : St} {H : Hp} (Pv : Nat → St → Hp → Prop) (h0 : Pv 0 σ H) (hl : ∀ i σ H, i ≤ xs.length → Pv i σ H → SqL K H a xs)
    (hs : ∀ i x σ H, xs[i]? = some x → Pv i σ H → g x σ H fun σ2 H2 => tb { D with nx := Pv (i + 1), ct := Pv (i + 1), bk := D.nx } σ2 H2) (hd : ∀ σ H, Pv xs.length σ H → D.nx σ H) :
    ∃ W : Nat → Nat → St → Hp → Prop, (∃ m, W 0 m σ H) ∧ ∀ i m σ H, W i m σ H →
      ((Itl K a).stop i H ∧ D.nx σ H) ∨ ((Itl K a).go i H ∧ ∃ N : St → Hp → Prop, (∀ σ' H', N σ' H' → ∃ m', m' < m ∧ W (i + 1) m' σ' H') ∧ ∀ x H', (Itl K a).yld i H x H' → g x σ H' fun σ2 H2 => tb { D with nx := N, ct := N, bk := D.nx } σ2 H2) := by
  refine ⟨fun i m σ H => m = xs.length - i ∧ i ≤ xs.length ∧ Pv i σ H, ⟨xs.length, by simp, Nat.zero_le _, h0⟩, ?_⟩
  rintro i m σ H ⟨rfl, hi, p⟩
  have q := hl i σ H hi p
  by_cases hlt : i < xs.length
  · refine .inr ⟨⟨xs, xs[i], q, by simp [hlt]⟩, Pv (i + 1), fun σ' H' p' => ⟨xs.length - (i + 1), by omega, rfl, hlt, p'⟩, fun x H' y => ?_⟩
    obtain ⟨e, y⟩ := y
    subst e
    exact hs i x σ _ (y xs q) p
  · have e : i = xs.length := by omega
    subst e
    exact .inl ⟨⟨xs, q, Nat.le_refl _⟩, hd σ H p⟩
theorem for_tup {K : PySem.W.Frag} {a : Addr} {xs : List V} {g : TG} {tb : TS} {D : Ends} {σ : St} {H : Hp} (Pv : Nat → St → Hp → Prop) (h0 : Pv 0 σ H) (hl : ∀ i σ H, i ≤ xs.length → Pv i σ H → SqT K H a xs)
    (hs : ∀ i x σ H, xs[i]? = some x → Pv i σ H → g x σ H fun σ2 H2 => tb { D with nx := Pv (i + 1), ct := Pv (i + 1), bk := D.nx } σ2 H2) (hd : ∀ σ H, Pv xs.length σ H → D.nx σ H) :
    ∃ W : Nat → Nat → St → Hp → Prop, (∃ m, W 0 m σ H) ∧ ∀ i m σ H, W i m σ H →
      ((Itt K a).stop i H ∧ D.nx σ H) ∨ ((Itt K a).go i H ∧ ∃ N : St → Hp → Prop, (∀ σ' H', N σ' H' → ∃ m', m' < m ∧ W (i + 1) m' σ' H') ∧ ∀ x H', (Itt K a).yld i H x H' → g x σ H' fun σ2 H2 => tb { D with nx := N, ct := N, bk := D.nx } σ2 H2) := by
  refine ⟨fun i m σ H => m = xs.length - i ∧ i ≤ xs.length ∧ Pv i σ H, ⟨xs.length, by simp, Nat.zero_le _, h0⟩, ?_⟩
  rintro i m σ H ⟨rfl, hi, p⟩
  have q := hl i σ H hi p
  by_cases hlt : i < xs.length
  · refine .inr ⟨⟨xs, xs[i], q, by simp [hlt]⟩, Pv (i + 1), fun σ' H' p' => ⟨xs.length - (i + 1), by omega, rfl, hlt, p'⟩, fun x H' y => ?_⟩
    obtain ⟨e, y⟩ := y
    subst e
    exact hs i x σ _ (y xs q) p
  · have e : i = xs.length := by omega
    subst e
    exact .inl ⟨⟨xs, q, Nat.le_refl _⟩, hd σ H p⟩
theorem for_range {lo : Int} {n : Nat} {g : TG} {tb : TS} {D : Ends} {σ : St} {H : Hp} (Pv : Nat → St → Hp → Prop) (h0 : Pv 0 σ H)
    (hs : ∀ i σ H, i < n → Pv i σ H → g (.int (lo + i)) σ H fun σ2 H2 => tb { D with nx := Pv (i + 1), ct := Pv (i + 1), bk := D.nx } σ2 H2) (hd : ∀ σ H, Pv n σ H → D.nx σ H) :
    ∃ W : Nat → Nat → St → Hp → Prop, (∃ m, W 0 m σ H) ∧ ∀ i m σ H, W i m σ H →
      ((Itr lo n).stop i H ∧ D.nx σ H) ∨ ((Itr lo n).go i H ∧ ∃ N : St → Hp → Prop, (∀ σ' H', N σ' H' → ∃ m', m' < m ∧ W (i + 1) m' σ' H') ∧ ∀ x H', (Itr lo n).yld i H x H' → g x σ H' fun σ2 H2 => tb { D with nx := N, ct := N, bk := D.nx } σ2 H2) := by
  refine ⟨fun i m σ H => m = n - i ∧ i ≤ n ∧ Pv i σ H, ⟨n, by simp, Nat.zero_le _, h0⟩, ?_⟩
  rintro i m σ H ⟨rfl, hi, p⟩
  by_cases hlt : i < n
  · refine .inr ⟨hlt, Pv (i + 1), fun σ' H' p' => ⟨n - (i + 1), by omega, rfl, hlt, p'⟩, fun x H' y => ?_⟩
    obtain ⟨e, y⟩ := y
    subst e y
    exact hs i σ _ hlt p
  · have e : i = n := by omega
    subst e
    exact .inl ⟨Nat.le_refl _, hd σ H p⟩
/-- while, by a word and a measure of the state -/
theorem while_by {c : TT} {tb : TS} {D : Ends} {σ : St} {H : Hp} (Pv : St → Hp → Prop) (μ : St → Hp → Nat) (h0 : Pv σ H)
    (hs : ∀ σ H, Pv σ H → c σ H fun b H1 => if b = true then tb { D with nx := fun σ' H' => Pv σ' H' ∧ μ σ' H' < μ σ H, ct := fun σ' H' => Pv σ' H' ∧ μ σ' H' < μ σ H, bk := D.nx } σ H1 else D.nx σ H1)
    (mono : ∀ σ H Q Q', (∀ b H1, Q b H1 → Q' b H1) → c σ H Q → c σ H Q') : tWhile c tb D σ H := by
  refine ⟨fun m σ H => m = μ σ H ∧ Pv σ H, ⟨_, rfl, h0⟩, ?_⟩
  rintro m σ H ⟨rfl, p⟩
  refine mono σ H _ _ (fun b H1 q => ?_) (hs σ H p)
  cases b with
  | true => exact ⟨_, fun σ' H' ⟨p', l⟩ => ⟨_, l, rfl, p'⟩, q⟩
  | false => exact q
end L2

namespace L2
open PySem PySem.Spec PyProof.Rows

abbrev R2 := V → V → Hp → VK → Prop
/-- a two-place operation on values: f is binaryOp op, inplaceOp op or compareOp op -/
def OpR (X : Cx) (f : Value → Value → Sem Value) (r : R2) : Prop :=
  ∀ (pins : List (Addr × Obj)) (s : Shared) (σ : St) (H : Hp) (x y : V) (v u : Value) (Q : VK), Inv X pins σ H s → RelV x v → RelV y u → r x y H Q →
    wpAny (model X.prog X.w) X.A (f v u) (EP X pins σ Q) X.xe s
/-- a one-place operation -/
def UnR (X : Cx) (f : Value → Sem Value) (r : V → Hp → VK → Prop) : Prop :=
  ∀ (pins : List (Addr × Obj)) (s : Shared) (σ : St) (H : Hp) (x : V) (v : Value) (Q : VK), Inv X pins σ H s → RelV x v → r x H Q →
    wpAny (model X.prog X.w) X.A (f v) (EP X pins σ Q) X.xe s
/-- a call of a value that is known (a builtin, a type) with values -/
def CallR (X : Cx) (f : Value) (r : List V → Hp → VK → Prop) : Prop :=
  ∀ (pins : List (Addr × Obj)) (s : Shared) (σ : St) (H : Hp) (xs : List V) (us : List Value) (Q : VK), Inv X pins σ H s → Vals xs us → r xs H Q →
    wpAny (model X.prog X.w) X.A (call f us) (EP X pins σ Q) X.xe s
/-- a value's truth -/
def TruR (X : Cx) (r : V → Hp → (Bool → Hp → Prop) → Prop) : Prop :=
  ∀ (pins : List (Addr × Obj)) (s : Shared) (σ : St) (H : Hp) (x : V) (v : Value) (Q : Bool → Hp → Prop), Inv X pins σ H s → RelV x v → r x H Q →
    wpAny (model X.prog X.w) X.A (truthy v) (TP X pins σ Q) X.xe s

def tOp (r : R2) (ta tb : TE) : TE := fun σ H Q => ta σ H fun x H1 => tb σ H1 fun y H2 => r x y H2 Q
def tUn (r : V → Hp → VK → Prop) (ta : TE) : TE := fun σ H Q => ta σ H fun x H1 => r x H1 Q
/-- ints in, under C, and a value out -/
def rI (C : Int → Int → Prop) (g : Int → Int → V) : R2 := fun x y H Q => ∃ i j, x = .int i ∧ y = .int j ∧ C i j ∧ Q (g i j) H
def rI0 (g : Int → Int → V) : R2 := fun x y H Q => ∃ i j, x = .int i ∧ y = .int j ∧ Q (g i j) H
def rU (g : Int → V) : V → Hp → VK → Prop := fun x H Q => ∃ i, x = .int i ∧ Q (g i) H

section
variable {X : Cx} {a b c : Expr} {ta tb tc : TE} {pos : Pos}

theorem binT (ha : PE X a ta) (hb : PE X b tb) {pins : List (Addr × Obj)} {s : Shared} {σ : St} {H : Hp} {R : V → V → Hp → Prop} (I : Inv X pins σ H s)
    (h : ta σ H fun x H1 => tb σ H1 fun y H2 => R x y H2) {Q : Value → Shared → Prop} {f : Value → Value → Sem Value}
    (hf : ∀ v u s2 x y H2, Inv X pins σ H2 s2 → RelV x v → RelV y u → R x y H2 → wpAny (model X.prog X.w) X.A (f v u) Q X.xe s2) :
    wpAny (model X.prog X.w) X.A (eval a X.env) (fun v s₁ => wpAny (model X.prog X.w) X.A (eval b X.env) (fun u s₂ => wpAny (model X.prog X.w) X.A (f v u) Q X.xe s₂) X.xe s₁) X.xe s := by
  refine thn (ha pins s σ H _ I h) fun v s1 ⟨x, H1, I1, r1, q1⟩ => ?_
  refine thn (hb pins s1 σ H1 _ I1 q1) fun u s2 ⟨y, H2, I2, r2, q2⟩ => ?_
  exact hf v u s2 x y H2 I2 r1 r2 q2

theorem pe_op {op : Operator} {r : R2} (ho : OpR X (binaryOp op) r) (ha : PE X a ta) (hb : PE X b tb) : PE X (.BinOp a op b pos) (tOp r ta tb) := by
  intro pins s σ H Q I h
  exact wpAny_BinOp (binT ha hb I h fun v u s2 x y H2 I2 rx ry q => ho pins s2 σ H2 x y v u Q I2 rx ry q)
theorem pe_un {op : UnaryOp} {r : V → Hp → VK → Prop} (ho : UnR X (unaryOp op) r) (ha : PE X a ta) : PE X (.UnaryOp op a pos) (tUn r ta) := by
  intro pins s σ H Q I h
  exact UnaryOp_ (thn (ha pins s σ H _ I h) fun v s1 ⟨x, H1, I1, r1, q1⟩ => ho pins s1 σ H1 x v Q I1 r1 q1)
/-- a op= e at a name: the name's slot i -/
theorem augR {op : Operator} {r : R2} (ho : OpR X (inplaceOp op) r) {pins : List (Addr × Obj)} {s : Shared} {σ : St} {H : Hp} {x y : V} {v u : Value} {Q : VK} (I : Inv X pins σ H s)
    (rx : RelV x v) (ry : RelV y u) (q : r x y H Q) : wpAny (model X.prog X.w) X.A (inplaceOp op v u) (EP X pins σ Q) X.xe s := ho pins s σ H x y v u Q I rx ry q

/-! ### ints -/
theorem opI {f : Value → Value → Sem Value} {C : Int → Int → Prop} {g : Int → Int → Int}
    (rule : ∀ (i j : Int) (t u : Tok) (s : Shared) (Q : Value → Shared → Prop) (E : Value → Shared → Prop), C i j → Q (.int (g i j) s.toks) { s with toks := s.toks + 1 } → wpAny (model X.prog X.w) X.A (f (.int i t) (.int j u)) Q E s) :
    OpR X f (rI C fun i j => .int (g i j)) := by
  intro pins s σ H x y v u Q I rx ry h
  obtain ⟨i, j, rfl, rfl, hc, q⟩ := h
  obtain ⟨t, rfl⟩ := rx
  obtain ⟨t', rfl⟩ := ry
  exact rule i j t t' s _ _ hc ⟨.int (g i j), H, I.tok _, ⟨_, rfl⟩, q⟩
theorem opI0 {f : Value → Value → Sem Value} {g : Int → Int → Int}
    (rule : ∀ (i j : Int) (t u : Tok) (s : Shared) (Q : Value → Shared → Prop) (E : Value → Shared → Prop), Q (.int (g i j) s.toks) { s with toks := s.toks + 1 } → wpAny (model X.prog X.w) X.A (f (.int i t) (.int j u)) Q E s) :
    OpR X f (rI0 fun i j => .int (g i j)) := by
  intro pins s σ H x y v u Q I rx ry h
  obtain ⟨i, j, rfl, rfl, q⟩ := h
  obtain ⟨t, rfl⟩ := rx
  obtain ⟨t', rfl⟩ := ry
  exact rule i j t t' s _ _ ⟨.int (g i j), H, I.tok _, ⟨_, rfl⟩, q⟩
theorem opB0 {f : Value → Value → Sem Value} {g : Int → Int → Bool}
    (rule : ∀ (i j : Int) (t u : Tok) (s : Shared) (Q : Value → Shared → Prop) (E : Value → Shared → Prop), Q (.bool (g i j)) s → wpAny (model X.prog X.w) X.A (f (.int i t) (.int j u)) Q E s) :
    OpR X f (rI0 fun i j => .bl (g i j)) := by
  intro pins s σ H x y v u Q I rx ry h
  obtain ⟨i, j, rfl, rfl, q⟩ := h
  obtain ⟨t, rfl⟩ := rx
  obtain ⟨t', rfl⟩ := ry
  exact rule i j t t' s _ _ ⟨.bl (g i j), H, I, rfl, q⟩

def CDiv (i j : Int) : Prop := 0 < j ∧ j < 1073741824
def CDivN (i j : Int) : Prop := j ≠ 0 ∧ j.natAbs < 1073741824
def CPow (i j : Int) : Prop := 0 ≤ j ∧ j ≤ 1000000 ∧ i.natAbs < 2 ^ 64
def CMul (i j : Int) : Prop := (-(2 ^ 64) < i ∧ i < 2 ^ 64) ∨ (-(2 ^ 64) < j ∧ j < 2 ^ 64)
theorem CMul.ok {i j : Int} (h : CMul i j) : IntMulOk i j := by
  rcases h with ⟨h1, h2⟩ | ⟨h1, h2⟩
  · exact .of_left (intBits_le_64 h1 h2)
  · exact .of_right (intBits_le_64 h1 h2)
theorem two_pow_nn (k : Nat) : (0 : Int) ≤ 2 ^ k := by
  rw [two_pow_cast]
  exact Int.natCast_nonneg _

theorem op_add : OpR X (binaryOp .Add) (rI0 fun i j => .int (i + j)) := opI0 fun _ _ _ _ _ _ _ q => add_int q
theorem op_sub : OpR X (binaryOp .Sub) (rI0 fun i j => .int (i - j)) := opI0 fun _ _ _ _ _ _ _ q => sub_int q
theorem op_mul : OpR X (binaryOp .Mult) (rI CMul fun i j => .int (i * j)) := opI fun _ _ _ _ _ _ _ hc q => mul_int q hc.ok
/-- // by a positive divisor -/
theorem op_fdiv : OpR X (binaryOp .FloorDiv) (rI CDiv fun i j => .int (i / j)) := opI fun i j _ _ _ _ _ hc q => by
  have h1 : (0 : Int) < j := hc.1
  have h2 : j < 1073741824 := hc.2
  exact floordiv_int (by omega) (by rw [Int.fdiv_eq_ediv_of_nonneg i (by omega)]; exact q) (.inl (PyProof.noPylong_small (by omega)))
theorem op_fdivN : OpR X (binaryOp .FloorDiv) (rI CDivN fun i j => .int (i.fdiv j)) := opI fun _ _ _ _ _ _ _ hc q => floordiv_int hc.1 q (.inl (PyProof.noPylong_small hc.2))
/-- % by a positive divisor of any size -/
theorem op_mod : OpR X (binaryOp .Mod) (rI (fun _ j => 0 < j) fun i j => .int (i % j)) := opI fun i j _ _ _ _ _ hc q => by
  have h1 : (0 : Int) < j := hc
  exact mod_int' (by omega) (by rw [Int.fmod_eq_emod_of_nonneg i (by omega)]; exact q)
theorem op_modN : OpR X (binaryOp .Mod) (rI (fun _ j => j ≠ 0) fun i j => .int (i.fmod j)) := opI fun _ _ _ _ _ _ _ hc q => mod_int' hc q
theorem op_pow : OpR X (binaryOp .Pow) (rI CPow fun i j => .int (i ^ j.toNat)) := opI fun _ _ _ _ _ _ _ hc q => pow_int_small hc.1 hc.2.1 hc.2.2 q
theorem op_shl : OpR X (binaryOp .LShift) (rI CPow fun i j => .int (i * 2 ^ j.toNat)) := opI fun _ _ _ _ _ _ _ hc q => lshift_int_small hc.1 hc.2.1 hc.2.2 q
theorem op_shr : OpR X (binaryOp .RShift) (rI (fun _ j => 0 ≤ j) fun i j => .int (i / 2 ^ j.toNat)) := opI fun i j _ _ _ _ _ hc q =>
  rshift_int hc (by rw [Int.fdiv_eq_ediv_of_nonneg i (two_pow_nn _)]; exact q)
theorem op_and : OpR X (binaryOp .BitAnd) (rI0 fun i j => .int (Builtin.bitAnd i j)) := opI0 fun _ _ _ _ _ _ _ q => and_int q
theorem op_or : OpR X (binaryOp .BitOr) (rI0 fun i j => .int (Builtin.bitOr i j)) := opI0 fun _ _ _ _ _ _ _ q => or_int q
theorem op_xor : OpR X (binaryOp .BitXor) (rI0 fun i j => .int (Builtin.bitXor i j)) := opI0 fun _ _ _ _ _ _ _ q => xor_int q

theorem iop_add : OpR X (inplaceOp .Add) (rI0 fun i j => .int (i + j)) := opI0 fun _ _ _ _ _ _ _ q => iadd_int q
theorem iop_sub : OpR X (inplaceOp .Sub) (rI0 fun i j => .int (i - j)) := opI0 fun _ _ _ _ _ _ _ q => isub_int q
theorem iop_mul : OpR X (inplaceOp .Mult) (rI CMul fun i j => .int (i * j)) := opI fun _ _ _ _ _ _ _ hc q => imul_int q hc.ok
theorem iop_fdiv : OpR X (inplaceOp .FloorDiv) (rI CDiv fun i j => .int (i / j)) := opI fun i j _ _ _ _ _ hc q => by
  have h1 : (0 : Int) < j := hc.1
  have h2 : j < 1073741824 := hc.2
  exact ifloordiv_int (by omega) (by rw [Int.fdiv_eq_ediv_of_nonneg i (by omega)]; exact q) (.inl (PyProof.noPylong_small (by omega)))
theorem iop_mod : OpR X (inplaceOp .Mod) (rI (fun _ j => 0 < j) fun i j => .int (i % j)) := opI fun i j _ _ _ _ _ hc q => by
  have h1 : (0 : Int) < j := hc
  exact imod_int (by omega) (by rw [Int.fmod_eq_emod_of_nonneg i (by omega)]; exact q)
theorem iop_shl : OpR X (inplaceOp .LShift) (rI CPow fun i j => .int (i * 2 ^ j.toNat)) := opI fun _ _ _ _ _ _ _ hc q => ilshift_int_small hc.1 hc.2.1 hc.2.2 q
theorem iop_shr : OpR X (inplaceOp .RShift) (rI (fun _ j => 0 ≤ j) fun i j => .int (i / 2 ^ j.toNat)) := opI fun i j _ _ _ _ _ hc q =>
  irshift_int hc (by rw [Int.fdiv_eq_ediv_of_nonneg i (two_pow_nn _)]; exact q)
theorem iop_and : OpR X (inplaceOp .BitAnd) (rI0 fun i j => .int (Builtin.bitAnd i j)) := opI0 fun _ _ _ _ _ _ _ q => iand_int q
theorem iop_or : OpR X (inplaceOp .BitOr) (rI0 fun i j => .int (Builtin.bitOr i j)) := opI0 fun _ _ _ _ _ _ _ q => ior_int q
theorem iop_xor : OpR X (inplaceOp .BitXor) (rI0 fun i j => .int (Builtin.bitXor i j)) := opI0 fun _ _ _ _ _ _ _ q => ixor_int q

theorem unI {f : Value → Sem Value} {g : Int → Int}
    (rule : ∀ (i : Int) (t : Tok) (s : Shared) (Q : Value → Shared → Prop) (E : Value → Shared → Prop), Q (.int (g i) s.toks) { s with toks := s.toks + 1 } → wpAny (model X.prog X.w) X.A (f (.int i t)) Q E s) :
    UnR X f (rU fun i => .int (g i)) := by
  intro pins s σ H x v Q I rx h
  obtain ⟨i, rfl, q⟩ := h
  obtain ⟨t, rfl⟩ := rx
  exact rule i t s _ _ ⟨.int (g i), H, I.tok _, ⟨_, rfl⟩, q⟩
theorem un_neg : UnR X (unaryOp .USub) (rU fun i => .int (-i)) := unI fun _ _ _ _ _ q => neg_int q
theorem un_inv : UnR X (unaryOp .Invert) (rU fun i => .int (Builtin.bitNot i)) := unI fun _ _ _ _ _ q => invert_int q

/-! ### bools among ints: n += (a < b) -/
theorem op_add_ib : OpR X (binaryOp .Add) (fun x y H Q => ∃ i k, x = .int i ∧ y = .bl k ∧ Q (.int (i + b2i k)) H) := by
  intro pins s σ H x y v u Q I rx ry h
  obtain ⟨i, k, rfl, rfl, q⟩ := h
  obtain ⟨t, rfl⟩ := rx
  cases ry
  exact add_int_bool ⟨.int (i + b2i k), H, I.tok _, ⟨_, rfl⟩, q⟩
end

/-! ### comparisons -/
/-- the scalars that == tells apart as data does -/
def scal : V → V → Bool
  | .non, .non => true | .non, .int _ => true | .int _, .non => true | .non, .bl _ => true | .bl _, .non => true | .non, .str _ => true | .str _, .non => true
  | .int _, .int _ => true | .bl _, .bl _ => true | .str _, .str _ => true | .byt _, .byt _ => true
  | .int _, .str _ => true | .str _, .int _ => true | .bl _, .str _ => true | .str _, .bl _ => true
  | _, _ => false
def rEq : R2 := fun x y H Q => scal x y = true ∧ Q (.bl (decide (x = y))) H
def rNe : R2 := fun x y H Q => scal x y = true ∧ Q (.bl (!decide (x = y))) H

theorem dec_int {i j : Int} : decide (V.int i = V.int j) = (i == j) := by
  rw [Bool.eq_iff_iff]
  simp
theorem dec_bl {i j : Bool} : decide (V.bl i = V.bl j) = (i == j) := by
  rw [Bool.eq_iff_iff]
  simp
theorem dec_str {i j : Str} : decide (V.str i = V.str j) = (i == j) := by
  rw [Bool.eq_iff_iff]
  simp
theorem dec_byt {i j : Array UInt8} : decide (V.byt i = V.byt j) = (i.toList == j.toList) := by
  rw [Bool.eq_iff_iff]
  cases i
  cases j
  simp

section
variable {X : Cx} {a b c : Expr} {ta tb tc : TE} {pos : Pos}
theorem fin_bl {pins : List (Addr × Obj)} {σ : St} {H : Hp} {s : Shared} {Q : VK} {k k' : Bool} (I : Inv X pins σ H s) (q : Q (.bl k) H) (e : k = k') : EP X pins σ Q (.bool k') s := by
  subst e
  exact ⟨.bl k, H, I, rfl, q⟩
theorem op_eq : OpR X (compareOp .Eq) rEq := by
  intro pins s σ H x y v u Q I rx ry h
  obtain ⟨hs, q⟩ := h
  cases x with
  | non =>
    cases rx
    cases y with
    | non => cases ry; exact PySem.EqNone.eq_none_none (fin_bl I q (by simp))
    | bl j => cases ry; exact PySem.EqNone.eq_none_bool (fin_bl I q (by simp))
    | int j => obtain ⟨t', rfl⟩ := ry; exact PySem.EqNone.eq_none_int (fin_bl I q (by simp))
    | str j => obtain ⟨t', rfl⟩ := ry; exact PySem.EqNone.eq_none_str (fin_bl I q (by simp))
    | _ => exact absurd (show false = true from hs) Bool.false_ne_true
  | bl i =>
    cases rx
    cases y with
    | non => cases ry; exact PySem.EqNone.eq_bool_none (fin_bl I q (by simp))
    | bl j => cases ry; exact eq_bool (fin_bl I q dec_bl)
    | str j => obtain ⟨t', rfl⟩ := ry; exact PySem.EqMixed.eq_bool_str (fin_bl I q (by simp))
    | _ => exact absurd (show false = true from hs) Bool.false_ne_true
  | int i =>
    obtain ⟨t, rfl⟩ := rx
    cases y with
    | non => cases ry; exact PySem.EqNone.eq_int_none (fin_bl I q (by simp))
    | int j => obtain ⟨t', rfl⟩ := ry; exact eq_int (fin_bl I q dec_int)
    | str j => obtain ⟨t', rfl⟩ := ry; exact PySem.EqMixed.eq_int_str (fin_bl I q (by simp))
    | _ => exact absurd (show false = true from hs) Bool.false_ne_true
  | str i =>
    obtain ⟨t, rfl⟩ := rx
    cases y with
    | non => cases ry; exact PySem.EqNone.eq_str_none (fin_bl I q (by simp))
    | bl j => cases ry; exact PySem.EqMixed.eq_str_bool (fin_bl I q (by simp))
    | int j => obtain ⟨t', rfl⟩ := ry; exact PySem.EqMixed.eq_str_int (fin_bl I q (by simp))
    | str j => obtain ⟨t', rfl⟩ := ry; exact eq_str (fin_bl I q dec_str)
    | _ => exact absurd (show false = true from hs) Bool.false_ne_true
  | byt i =>
    obtain ⟨t, rfl⟩ := rx
    cases y with
    | byt j => obtain ⟨t', rfl⟩ := ry; exact PySem.W.eq_bytes (fin_bl I q dec_byt)
    | _ => exact absurd (show false = true from hs) Bool.false_ne_true
  | _ => cases y <;> exact absurd (show false = true from hs) Bool.false_ne_true
theorem op_ne : OpR X (compareOp .NotEq) rNe := by
  intro pins s σ H x y v u Q I rx ry h
  obtain ⟨hs, q⟩ := h
  cases x with
  | non =>
    cases rx
    cases y with
    | non => cases ry; exact PySem.EqNone.ne_none_none (fin_bl I q (by simp))
    | bl j => cases ry; exact PySem.EqNone.ne_none_bool (fin_bl I q (by simp))
    | int j => obtain ⟨t', rfl⟩ := ry; exact PySem.EqNone.ne_none_int (fin_bl I q (by simp))
    | str j => obtain ⟨t', rfl⟩ := ry; exact PySem.EqNone.ne_none_str (fin_bl I q (by simp))
    | _ => exact absurd (show false = true from hs) Bool.false_ne_true
  | bl i =>
    cases rx
    cases y with
    | non => cases ry; exact PySem.EqNone.ne_bool_none (fin_bl I q (by simp))
    | bl j => cases ry; exact ne_bool (fin_bl I q (congrArg not dec_bl))
    | str j => obtain ⟨t', rfl⟩ := ry; exact PySem.EqMixed.ne_bool_str (fin_bl I q (by simp))
    | _ => exact absurd (show false = true from hs) Bool.false_ne_true
  | int i =>
    obtain ⟨t, rfl⟩ := rx
    cases y with
    | non => cases ry; exact PySem.EqNone.ne_int_none (fin_bl I q (by simp))
    | int j => obtain ⟨t', rfl⟩ := ry; exact ne_int (fin_bl I q (congrArg not dec_int))
    | str j => obtain ⟨t', rfl⟩ := ry; exact PySem.EqMixed.ne_int_str (fin_bl I q (by simp))
    | _ => exact absurd (show false = true from hs) Bool.false_ne_true
  | str i =>
    obtain ⟨t, rfl⟩ := rx
    cases y with
    | non => cases ry; exact PySem.EqNone.ne_str_none (fin_bl I q (by simp))
    | bl j => cases ry; exact PySem.EqMixed.ne_str_bool (fin_bl I q (by simp))
    | int j => obtain ⟨t', rfl⟩ := ry; exact PySem.EqMixed.ne_str_int (fin_bl I q (by simp))
    | str j => obtain ⟨t', rfl⟩ := ry; exact ne_str (fin_bl I q (congrArg not dec_str))
    | _ => exact absurd (show false = true from hs) Bool.false_ne_true
  | byt i =>
    obtain ⟨t, rfl⟩ := rx
    cases y with
    | byt j => obtain ⟨t', rfl⟩ := ry; exact PySem.W.ne_bytes (fin_bl I q (congrArg not dec_byt))
    | _ => exact absurd (show false = true from hs) Bool.false_ne_true
  | _ => cases y <;> exact absurd (show false = true from hs) Bool.false_ne_true

theorem op_lt : OpR X (compareOp .Lt) (rI0 fun i j => .bl (decide (i < j))) := opB0 fun _ _ _ _ _ _ _ q => lt_int q
theorem op_le : OpR X (compareOp .LtE) (rI0 fun i j => .bl (decide (i ≤ j))) := opB0 fun _ _ _ _ _ _ _ q => le_int q
theorem op_gt : OpR X (compareOp .Gt) (rI0 fun i j => .bl (decide (j < i))) := opB0 fun _ _ _ _ _ _ _ q => gt_int q
theorem op_ge : OpR X (compareOp .GtE) (rI0 fun i j => .bl (decide (j ≤ i))) := opB0 fun _ _ _ _ _ _ _ q => ge_int q
theorem op_lt_str : OpR X (compareOp .Lt) (fun x y H Q => ∃ i j, x = .str i ∧ y = .str j ∧ Q (.bl (decide (i.cps.toList < j.cps.toList))) H) := by
  intro pins s σ H x y v u Q I rx ry h
  obtain ⟨i, j, rfl, rfl, q⟩ := h
  obtain ⟨t, rfl⟩ := rx
  obtain ⟨t', rfl⟩ := ry
  exact lt_str (fin_bl I q rfl)
/-- the one string within the other -/
theorem op_in_str : OpR X (compareOp .In) (fun x y H Q => ∃ i j, x = .str i ∧ y = .str j ∧ Q (.bl (!(Builtin.Str.occurrences j i 0 j.length 1).isEmpty)) H) := by
  intro pins s σ H x y v u Q I rx ry h
  obtain ⟨i, j, rfl, rfl, q⟩ := h
  obtain ⟨t, rfl⟩ := rx
  obtain ⟨t', rfl⟩ := ry
  exact in_str (fin_bl I q rfl)

/-- is None, is not None: the right side a value none -/
theorem op_isN : OpR X (compareOp .Is) (fun x y H Q => y = .non ∧ Q (.bl (decide (x = .non))) H) := by
  intro pins s σ H x y v u Q I rx ry h
  obtain ⟨rfl, q⟩ := h
  cases ry
  refine is_none_gen (fin_bl I q ?_)
  cases x <;> first
    | (cases rx; rfl)
    | (obtain ⟨t, rfl⟩ := rx; rfl)
theorem op_notN : OpR X (compareOp .IsNot) (fun x y H Q => y = .non ∧ Q (.bl (!decide (x = .non))) H) := by
  intro pins s σ H x y v u Q I rx ry h
  obtain ⟨rfl, q⟩ := h
  cases ry
  refine isnot_none_gen (fin_bl I q ?_)
  cases x <;> first
    | (cases rx; rfl)
    | (obtain ⟨t, rfl⟩ := rx; rfl)

theorem op_notin_str : OpR X (compareOp .NotIn) (fun x y H Q => ∃ i j, x = .str i ∧ y = .str j ∧ Q (.bl (!(!(Builtin.Str.occurrences j i 0 j.length 1).isEmpty))) H) := by
  intro pins s σ H x y v u Q I rx ry h
  obtain ⟨i, j, rfl, rfl, q⟩ := h
  obtain ⟨t, rfl⟩ := rx
  obtain ⟨t', rfl⟩ := ry
  exact notIn_str (fin_bl I q rfl)
/-- is, is not of two objects that are tracked lists or instances -/
def isObj : HO → Bool
  | .lst _ => true
  | .ins _ _ _ => true
  | _ => false
theorem obj_there {pins : List (Addr × Obj)} {s : Shared} {σ : St} {H : Hp} {a : Addr} {o : HO} (I : Inv X pins σ H s) (h : H a = some o) (p : isObj o = true) : ∃ ob, s.heap.get? a = some ob ∧ ob.cls ≠ .type "tuple" := by
  cases o with
  | lst xs =>
    obtain ⟨_, its, n, _, e⟩ : xs.length ≤ sizeLine ∧ ∃ (its : List Value) (n : Nat), Vals xs its ∧ s.heap.get? a = some { cls := .type "list", data := .seq its.toArray n } := I.hok a _ h
    exact ⟨_, e, (by show Value.type "list" ≠ .type "tuple"; decide +kernel)⟩
  | ins C dx fs =>
    have x := I.hok a _ h
    obtain ⟨_, _, _, e, _⟩ := x
    exact ⟨_, e, (by show Value.ref C ≠ .type "tuple"; exact fun z => by cases z)⟩
  | _ => exact absurd (show false = true from p) Bool.false_ne_true
theorem op_is_ref : OpR X (compareOp .Is) (fun x y H Q => ∃ a b oa ob, x = .ref a ∧ y = .ref b ∧ H a = some oa ∧ isObj oa = true ∧ H b = some ob ∧ isObj ob = true ∧ Q (.bl (decide (a = b))) H) := by
  intro pins s σ H x y v u Q I rx ry h
  obtain ⟨a, b, oa, ob, rfl, rfl, ha, pa, hb, pb, q⟩ := h
  cases rx
  cases ry
  obtain ⟨o1, e1, n1⟩ := obj_there I ha pa
  obtain ⟨o2, e2, _⟩ := obj_there I hb pb
  by_cases z : a = b
  · subst z
    exact wpAny_is_ref_self (fin_bl I q (by simp))
  · exact wpAny_is_ref_other z e1 e2 n1 (fin_bl I q (by simp [z]))
theorem op_isnot_ref : OpR X (compareOp .IsNot) (fun x y H Q => ∃ a b oa ob, x = .ref a ∧ y = .ref b ∧ H a = some oa ∧ isObj oa = true ∧ H b = some ob ∧ isObj ob = true ∧ Q (.bl (!decide (a = b))) H) := by
  intro pins s σ H x y v u Q I rx ry h
  obtain ⟨a, b, oa, ob, rfl, rfl, ha, pa, hb, pb, q⟩ := h
  cases rx
  cases ry
  obtain ⟨o1, e1, n1⟩ := obj_there I ha pa
  obtain ⟨o2, e2, _⟩ := obj_there I hb pb
  by_cases z : a = b
  · subst z
    exact wpAny_isNot_ref_self (fin_bl I q (by simp))
  · exact wpAny_isNot_ref_other z e1 e2 n1 (fin_bl I q (by simp [z]))

/-- two rules for one operation: by cases -/
theorem OpR.or {f : Value → Value → Sem Value} {r r' : R2} (h : OpR X f r) (h' : OpR X f r') : OpR X f (fun x y H Q => r x y H Q ∨ r' x y H Q) := by
  intro pins s σ H x y v u Q I rx ry q
  rcases q with q | q
  · exact h pins s σ H x y v u Q I rx ry q
  · exact h' pins s σ H x y v u Q I rx ry q

theorem nomark (b : Expr) {op : CmpOp} (h : op ≠ .In := by decide) (h2 : op ≠ .NotIn := by decide) : behindInMarks op b = false := by
  have e1 : (op == CmpOp.In) = false := by cases op <;> first | rfl | exact absurd rfl h
  have e2 : (op == CmpOp.NotIn) = false := by cases op <;> first | rfl | exact absurd rfl h2
  cases b <;> simp [behindInMarks, e1, e2]
/-- a comparison as a value; hm: nomark b, or (for in, not in) by with_unfolding_all rfl -/
theorem pe_cmpR {op : CmpOp} {r : R2} (ho : OpR X (compareOp op) r) (ha : PE X a ta) (hb : PE X b tb) (hm : behindInMarks op b = false) : PE X (.Compare a [op] [b] pos) (tOp r ta tb) := by
  intro pins s σ H Q I h
  exact wpAny_Compare1 (binT ha hb I h fun v u s2 x y H2 I2 rx ry q => ho pins s2 σ H2 x y v u Q I2 rx ry q) hm
/-- a reading of a value as a test -/
def tTest (t : TE) : TT := fun σ H Q => t σ H fun x H' => ∃ k, x = .bl k ∧ Q k H'
theorem pt_cmpR {op : CmpOp} {r : R2} (ho : OpR X (compareOp op) r) (ha : PE X a ta) (hb : PE X b tb) (hm : behindInMarks op b = false) : PT X (.Compare a [op] [b] pos) (tTest (tOp r ta tb)) := by
  intro pins s σ H Q I h
  refine wpAny_isTrue_Compare1 (thn (ha pins s σ H _ I h) fun v s1 ⟨x, H1, I1, r1, q1⟩ => thn (hb pins s1 σ H1 _ I1 q1) fun u s2 ⟨y, H2, I2, r2, q2⟩ =>
    thn (ho pins s2 σ H2 x y v u _ I2 r1 r2 q2) fun c s3 ⟨z, H3, I3, r3, k, e, q3⟩ => ?_) hm
  subst e
  cases r3
  exact wpAny_truthy_bool ⟨H3, I3, q3⟩
/-- a op1 b op2 c -/
def tChain (r r' : R2) (ta tb tc : TE) : TE := fun σ H Q => ta σ H fun x H1 => tb σ H1 fun y H2 => r x y H2 fun z H3 => ∃ k, z = .bl k ∧
  (if k = true then tc σ H3 fun w' H4 => r' y w' H4 Q else Q (.bl false) H3)
theorem pe_chain {op op' : CmpOp} {r r' : R2} (ho : OpR X (compareOp op) r) (ho' : OpR X (compareOp op') r') (ha : PE X a ta) (hb : PE X b tb) (hc : PE X c tc)
    (hm : lastMarks [op, op'] [b, c] = false := by with_unfolding_all rfl) : PE X (.Compare a [op, op'] [b, c] pos) (tChain r r' ta tb tc) := by
  intro pins s σ H Q I h
  refine Compare_chain (thn (ha pins s σ H _ I h) fun v s1 ⟨x, H1, I1, r1, q1⟩ => chain_link (thn (hb pins s1 σ H1 _ I1 q1) fun u s2 ⟨y, H2, I2, r2, q2⟩ =>
    thn (ho pins s2 σ H2 x y v u _ I2 r1 r2 q2) fun d s3 ⟨z, H3, I3, r3, k, e, q3⟩ => ?_)) hm
  subst e
  cases r3
  refine wpAny_truthy_bool ?_
  cases k with
  | false => exact ite_ff ⟨.bl false, H3, I3, rfl, q3⟩
  | true => exact ite_tt (chain_last (thn (hc pins s3 σ H3 _ I3 q3) fun w' s4 ⟨z', H4, I4, r4, q4⟩ => ho' pins s4 σ H4 y z' u w' Q I4 r2 r4 q4))
theorem pt_chain {op op' : CmpOp} {r r' : R2} (ho : OpR X (compareOp op) r) (ho' : OpR X (compareOp op') r') (ha : PE X a ta) (hb : PE X b tb) (hc : PE X c tc)
    (hm : lastMarks [op, op'] [b, c] = false := by with_unfolding_all rfl) : PT X (.Compare a [op, op'] [b, c] pos) (tTest (tChain r r' ta tb tc)) := by
  intro pins s σ H Q I h
  refine isTrue_chain (thn (ha pins s σ H _ I h) fun v s1 ⟨x, H1, I1, r1, q1⟩ => test_link (thn (hb pins s1 σ H1 _ I1 q1) fun u s2 ⟨y, H2, I2, r2, q2⟩ =>
    thn (ho pins s2 σ H2 x y v u _ I2 r1 r2 q2) fun d s3 ⟨z, H3, I3, r3, k, e, q3⟩ => ?_)) hm
  subst e
  cases r3
  refine wpAny_truthy_bool ?_
  cases k with
  | false =>
    obtain ⟨k', e', q'⟩ := q3
    cases e'
    exact ite_ff ⟨H3, I3, q'⟩
  | true =>
    refine ite_tt (test_last (thn (hc pins s3 σ H3 _ I3 q3) fun w' s4 ⟨z', H4, I4, r4, q4⟩ => thn (ho' pins s4 σ H4 y z' u w' _ I4 r2 r4 q4) fun d' s5 ⟨z2, H5, I5, r5, k2, e2, q5⟩ => ?_))
    subst e2
    cases r5
    exact wpAny_truthy_bool ⟨H5, I5, q5⟩

/-! ### truth -/
/-- a value's truth by the abstract heap -/
def TruV (K : PySem.W.Frag) (x : V) (H : Hp) (k : Bool) : Prop :=
  match x with
  | .non => k = false
  | .bl b => k = b
  | .int i => k = (i != 0)
  | .str y => y.length ≤ sizeLine ∧ k = ((y.length : Int) != 0)
  | .byt y => y.size ≤ sizeLine ∧ k = ((y.size : Int) != 0)
  | .ref p => (∃ xs, SqL K H p xs ∧ k = !xs.isEmpty) ∨ (∃ xs, SqT K H p xs ∧ k = !xs.isEmpty) ∨ ∃ kvs, H p = some (.dK kvs) ∧ k = !kvs.isEmpty
  | _ => False
theorem isEmpty_kv {κ : Type} {kvs : List (κ × V)} {vs : List (κ × Value)} (r : KV kvs vs) : (!vs.isEmpty) = !kvs.isEmpty := by
  cases r <;> rfl
theorem isEmpty_of {xs : List V} {its : List Value} (r : Vals xs its) : (!its.toArray.isEmpty) = !xs.isEmpty := by
  cases r <;> simp
theorem line63 : (sizeLine : Nat) < 2 ^ 63 := by rw [sizeLine_eq]; decide
theorem tru_ok : TruR X (fun x H Q => ∃ k, TruV X.K x H k ∧ Q k H) := by
  intro pins s σ H x v Q I rx h
  obtain ⟨k, e, q⟩ := h
  have hl := line63
  have hs : sizeLine = 16777216 := sizeLine_eq
  cases x with
  | non =>
    cases rx
    have e' : k = false := e
    subst e'
    exact truthy_none ⟨H, I, q⟩
  | bl b =>
    cases rx
    have e' : k = b := e
    subst e'
    exact wpAny_truthy_bool ⟨H, I, q⟩
  | int i =>
    obtain ⟨t, rfl⟩ := rx
    have e' : k = (i != 0) := e
    subst e'
    exact PySem.P.truthy_int ⟨H, I, q⟩
  | str y =>
    obtain ⟨t, rfl⟩ := rx
    obtain ⟨hy, e'⟩ : y.length ≤ sizeLine ∧ k = ((y.length : Int) != 0) := e
    subst e'
    exact PySem.P.truthy_str (by omega) ⟨H, I.tok _, q⟩
  | byt y =>
    obtain ⟨t, rfl⟩ := rx
    obtain ⟨hy, e'⟩ : y.size ≤ sizeLine ∧ k = ((y.size : Int) != 0) := e
    subst e'
    exact PySem.W.truthy_bytes (by omega) ⟨H, I.tok _, q⟩
  | ref p =>
    cases rx
    have e' : (∃ xs, SqL X.K H p xs ∧ k = !xs.isEmpty) ∨ (∃ xs, SqT X.K H p xs ∧ k = !xs.isEmpty) ∨ ∃ kvs, H p = some (.dK kvs) ∧ k = !kvs.isEmpty := e
    rcases e' with ⟨xs, hx, e'⟩ | ⟨xs, hx, e'⟩ | ⟨kvs, hx, e'⟩
    · subst e'
      obtain ⟨its, r, pl, hz⟩ := I.list hx
      have hlen := r.length
      exact wpAny_truthy_list pl.isList (by simp only [List.size_toArray]; omega) ⟨H, I.tok _, by rw [isEmpty_of r]; exact q⟩
    · subst e'
      obtain ⟨its, r, pl, hz⟩ := I.tuple hx
      have hlen := r.length
      exact truthy_tuple pl (by simp only [List.size_toArray]; omega) ⟨H, I.tok _, by rw [isEmpty_of r]; exact q⟩
    · subst e'
      obtain ⟨hz, hS, vs, r, m⟩ : kvs.length ≤ sizeLine ∧ (p == sysModules) = false ∧ ∃ vs, KV kvs vs ∧ s.heap.DictOf (mixKind X.prog X.w) p vs := I.hok p _ hx
      have hlen : kvs.length = vs.length := Paired.length r
      exact wpAny_truthy_dict hS m (by omega) ⟨H, I.tok _, by rw [isEmpty_kv r]; exact q⟩
  | _ => exact (show False from e).elim
/-- any expression whose test is its value's truth (a name, a call, a subscript, a field ..: he by fun _ => rfl) -/
theorem pt_truth (ha : PE X a ta) (he : ∀ whole, isTrue a X.env whole = (do let v ← whole; standAt a.pos; holding [v] (truthy v))) :
    PT X a (fun σ H Q => ta σ H fun x H' => ∃ k, TruV X.K x H' k ∧ Q k H') := by
  intro pins s σ H Q I h
  exact isTrue_plain (thn (ha pins s σ H _ I h) fun v s1 ⟨x, H1, I1, r1, q1⟩ => tru_ok pins s1 σ H1 x v Q I1 r1 q1) (he _)

/-! ### strs and bytes -/
theorem pe_byt {x : List UInt8} {k : Nat} : PE X (.Constant (.bytes x) k pos) (fun _ H Q => Q (.byt x.toArray) H) := fun _ _ _ H _ I h => PySem.W.Constant_bytes ⟨.byt x.toArray, H, I.tok _, ⟨_, rfl⟩, h⟩
theorem op_add_str : OpR X (binaryOp .Add) (fun x y H Q => ∃ i j, x = .str i ∧ y = .str j ∧ i.length + j.length ≤ sizeLine ∧ Q (.str (i ++ j)) H) := by
  intro pins s σ H x y v u Q I rx ry h
  obtain ⟨i, j, rfl, rfl, hz, q⟩ := h
  obtain ⟨t, rfl⟩ := rx
  obtain ⟨t', rfl⟩ := ry
  exact add_str (fun t' tk => ⟨.str (i ++ j), H, I.tok _, ⟨_, rfl⟩, q⟩) hz
theorem iop_add_str : OpR X (inplaceOp .Add) (fun x y H Q => ∃ i j, x = .str i ∧ y = .str j ∧ i.length + j.length ≤ sizeLine ∧ Q (.str (i ++ j)) H) := by
  intro pins s σ H x y v u Q I rx ry h
  obtain ⟨i, j, rfl, rfl, hz, q⟩ := h
  obtain ⟨t, rfl⟩ := rx
  obtain ⟨t', rfl⟩ := ry
  exact iadd_str (fun t' tk => ⟨.str (i ++ j), H, I.tok _, ⟨_, rfl⟩, q⟩) hz
theorem op_add_byt : OpR X (binaryOp .Add) (fun x y H Q => ∃ i j, x = .byt i ∧ y = .byt j ∧ i.size + j.size ≤ 16777216 ∧ Q (.byt (i ++ j)) H) := by
  intro pins s σ H x y v u Q I rx ry h
  obtain ⟨i, j, rfl, rfl, hz, q⟩ := h
  obtain ⟨t, rfl⟩ := rx
  obtain ⟨t', rfl⟩ := ry
  exact PySem.W.KBy.add_bytes hz (fun t' tk => ⟨.byt (i ++ j), H, I.tok _, ⟨_, rfl⟩, q⟩)

def PlainIxT (b : Expr) : Prop := ∀ o i, subscripted b false o i = operate [o, i] (getItem o i)
/-- s[i], 0 ≤ i < len -/
theorem pe_item_str (ha : PE X a ta) (hb : PE X b tb) (hs : PlainIxT b) :
    PE X (.Subscript a b pos) (tOp (fun x y H Q => ∃ z i c, x = .str z ∧ y = .int i ∧ 0 ≤ i ∧ i < 2 ^ 63 ∧ i < z.length ∧ z.cps[i.toNat]? = some c ∧ Q (.str ⟨#[c]⟩) H) ta tb) := by
  intro pins s σ H Q I h
  refine Subscript_ (binT ha hb I h fun v u s2 x y H2 I2 rx ry q => ?_)
  obtain ⟨z, i, c, rfl, rfl, h0, h63, h1, hc, q⟩ := q
  obtain ⟨t, rfl⟩ := rx
  obtain ⟨t', rfl⟩ := ry
  have e : seqIndex? i z.length = some i.toNat := PySem.StrLaws.seqIndex_nonneg h0 h1
  exact tail_any (typeIs_str s2 z t) slot_str_getitem.lookup (getItem_str (c := c) (by
    have e1 : decide (i < -(2 ^ 63 : Int)) = false := decide_eq_false (by omega)
    have e2 : decide (i ≥ 2 ^ 63) = false := decide_eq_false (by omega)
    rw [e1, e2] <;> rfl) (by rw [e]; exact hc) ⟨.str ⟨#[c]⟩, H2, I2.tok _, ⟨_, rfl⟩, q⟩) (hs _ _)
/-- b[i], 0 ≤ i < len -/
theorem pe_item_byt (ha : PE X a ta) (hb : PE X b tb) (hs : PlainIxT b) :
    PE X (.Subscript a b pos) (tOp (fun x y H Q => ∃ (z : List UInt8) (i : Int), x = .byt z.toArray ∧ y = .int i ∧ z.length ≤ sizeLine ∧ 0 ≤ i ∧ i < z.length ∧ Q (.int ((z.getD i.toNat 0).toNat : Nat)) H) ta tb) := by
  intro pins s σ H Q I h
  refine Subscript_ (binT ha hb I h fun v u s2 x y H2 I2 rx ry q => ?_)
  obtain ⟨z, i, rfl, rfl, hz, h0, h1, q⟩ := q
  obtain ⟨t, rfl⟩ := rx
  obtain ⟨t', rfl⟩ := ry
  have hl : sizeLine = 16777216 := sizeLine_eq
  exact tail_any (PySem.W.typeIs_bytes s2 z.toArray t) PySem.W.FB.slot_bytes_getitem.lookup (PySem.W.getItem_bytes (by omega) h0 h1 ⟨.int ((z.getD i.toNat 0).toNat : Nat), H2, I2.tok _, ⟨_, rfl⟩, q⟩) (hs _ _)

/-! ### scalar builtins, by CallR -/
theorem vals1 {x : V} {us : List Value} (r : Vals [x] us) : ∃ u, us = [u] ∧ RelV x u := by
  cases r with
  | cons r1 r2 => cases r2; exact ⟨_, rfl, r1⟩
theorem vals2 {x y : V} {us : List Value} (r : Vals [x, y] us) : ∃ u w', us = [u, w'] ∧ RelV x u ∧ RelV y w' := by
  cases r with
  | cons r1 r2 =>
    cases r2 with
    | cons r3 r4 => cases r4; exact ⟨_, _, rfl, r1, r3⟩
theorem call_abs : CallR X (.builtin "abs") (fun xs H Q => ∃ i, xs = [.int i] ∧ Q (.int (if i < 0 then -i else i)) H) := by
  intro pins s σ H xs us Q I r h
  obtain ⟨i, rfl, q⟩ := h
  obtain ⟨u, rfl, t, rfl⟩ := vals1 r
  exact call_abs_int fun u tk => ⟨.int (if i < 0 then -i else i), H, I.tok _, ⟨_, rfl⟩, q⟩
theorem call_max2 (hc : X.calm = true) : CallR X (.builtin "max") (fun xs H Q => ∃ i j, xs = [.int i, .int j] ∧ Q (.int (if j > i then j else i)) H) := by
  intro pins s σ H xs us Q I r h
  obtain ⟨i, j, rfl, q⟩ := h
  obtain ⟨u, w', rfl, ⟨t, rfl⟩, ⟨t', rfl⟩⟩ := vals2 r
  refine max_two_ints (I.ok.hd hc) fun h' tk k => ⟨_, H, I.kept k, ?_, q⟩
  by_cases hj : j > i
  · rw [if_pos hj, if_pos hj]; exact ⟨_, rfl⟩
  · rw [if_neg hj, if_neg hj]; exact ⟨_, rfl⟩
theorem call_min2 (hc : X.calm = true) : CallR X (.builtin "min") (fun xs H Q => ∃ i j, xs = [.int i, .int j] ∧ Q (.int (if j < i then j else i)) H) := by
  intro pins s σ H xs us Q I r h
  obtain ⟨i, j, rfl, q⟩ := h
  obtain ⟨u, w', rfl, ⟨t, rfl⟩, ⟨t', rfl⟩⟩ := vals2 r
  refine min_two_ints (I.ok.hd hc) fun h' tk k => ⟨_, H, I.kept k, ?_, q⟩
  by_cases hj : j < i
  · rw [if_pos hj, if_pos hj]; exact ⟨_, rfl⟩
  · rw [if_neg hj, if_neg hj]; exact ⟨_, rfl⟩
theorem call_int1 : CallR X (.type "int") (fun xs H Q => (∃ i, xs = [.int i] ∧ Q (.int i) H) ∨ ∃ k, xs = [.bl k] ∧ Q (.int (if k then 1 else 0)) H) := by
  intro pins s σ H xs us Q I r h
  rcases h with ⟨i, rfl, q⟩ | ⟨k, rfl, q⟩
  · obtain ⟨u, rfl, t, rfl⟩ := vals1 r
    exact call_int_int ⟨.int i, H, I, ⟨_, rfl⟩, q⟩
  · obtain ⟨u, rfl, r1⟩ := vals1 r
    cases r1
    exact call_int_bool ⟨.int (if k then 1 else 0), H, I.tok _, ⟨_, rfl⟩, q⟩
theorem call_bool1 : CallR X (.type "bool") (fun xs H Q => (∃ i, xs = [.int i] ∧ Q (.bl (i != 0)) H) ∨ ∃ k, xs = [.bl k] ∧ Q (.bl k) H) := by
  intro pins s σ H xs us Q I r h
  rcases h with ⟨i, rfl, q⟩ | ⟨k, rfl, q⟩
  · obtain ⟨u, rfl, t, rfl⟩ := vals1 r
    exact call_bool_int ⟨.bl (i != 0), H, I, rfl, q⟩
  · obtain ⟨u, rfl, r1⟩ := vals1 r
    cases r1
    exact call_bool_bool ⟨.bl k, H, I, rfl, q⟩
theorem call_str_int : CallR X (.type "str") (fun xs H Q => ∃ i, xs = [.int i] ∧ i.natAbs.log2 < 1920 ∧ Q (.str (toString i)) H) := by
  intro pins s σ H xs us Q I r h
  obtain ⟨i, rfl, hz, q⟩ := h
  obtain ⟨u, rfl, t, rfl⟩ := vals1 r
  exact PySem.P.str_of_int hz ⟨.str _, H, I.tok _, ⟨_, rfl⟩, q⟩
theorem call_ord : CallR X (.builtin "ord") (fun xs H Q => ∃ x, xs = [.str x] ∧ x.length = 1 ∧ Q (.int (x.cps.getD 0 0 : Nat)) H) := by
  intro pins s σ H xs us Q I r h
  obtain ⟨x, rfl, hz, q⟩ := h
  obtain ⟨u, rfl, t, rfl⟩ := vals1 r
  exact ord_of_one hz ⟨.int _, H, I.tok _, ⟨_, rfl⟩, q⟩
theorem call_chr : CallR X (.builtin "chr") (fun xs H Q => ∃ i, xs = [.int i] ∧ 0 ≤ i ∧ i ≤ 1114111 ∧ Q (.str ⟨#[i.toNat]⟩) H) := by
  intro pins s σ H xs us Q I r h
  obtain ⟨i, rfl, h0, h1, q⟩ := h
  obtain ⟨u, rfl, t, rfl⟩ := vals1 r
  exact chr_of_range h0 h1 ⟨.str _, H, I.tok _, ⟨_, rfl⟩, q⟩
/-- len of a str, a bytes, a list, a tuple -/
def LenV (K : PySem.W.Frag) (x : V) (H : Hp) (n : Nat) : Prop :=
  match x with
  | .str y => y.length ≤ sizeLine ∧ n = y.length
  | .byt y => y.size ≤ sizeLine ∧ n = y.size
  | .ref p => (∃ xs, SqL K H p xs ∧ n = xs.length) ∨ ∃ xs, SqT K H p xs ∧ n = xs.length
  | _ => False
theorem call_len : CallR X (.builtin "len") (fun xs H Q => ∃ x n, xs = [x] ∧ LenV X.K x H n ∧ Q (.int n) H) := by
  intro pins s σ H xs us Q I r h
  obtain ⟨x, n, rfl, e, q⟩ := h
  obtain ⟨u, rfl, rx⟩ := vals1 r
  have hl := line63
  have hs : sizeLine = 16777216 := sizeLine_eq
  cases x with
  | str y =>
    obtain ⟨t, rfl⟩ := rx
    obtain ⟨hy, e'⟩ : y.length ≤ sizeLine ∧ n = y.length := e
    subst e'
    exact len_str (by omega) ⟨.int _, H, I.tok _, ⟨_, rfl⟩, q⟩
  | byt y =>
    obtain ⟨t, rfl⟩ := rx
    obtain ⟨hy, e'⟩ : y.size ≤ sizeLine ∧ n = y.size := e
    subst e'
    exact PySem.W.len_bytes (by omega) ⟨.int _, H, I.tok _, ⟨_, rfl⟩, q⟩
  | ref p =>
    cases rx
    have e' : (∃ xs, SqL X.K H p xs ∧ n = xs.length) ∨ ∃ xs, SqT X.K H p xs ∧ n = xs.length := e
    rcases e' with ⟨xs, hx, e'⟩ | ⟨xs, hx, e'⟩
    · subst e'
      obtain ⟨its, r', pl, hz⟩ := I.list hx
      have hlen := r'.length
      exact Calls.call_len_list pl.isList (by simp only [List.size_toArray]; omega) ⟨.int xs.length, H, I.tok _, ⟨_, by simp only [List.size_toArray]; rw [hlen]⟩, q⟩
    · subst e'
      obtain ⟨its, r', pl, hz⟩ := I.tuple hx
      have hlen := r'.length
      exact len_tuple pl (by simp only [List.size_toArray]; omega) ⟨.int xs.length, H, I.tok _, ⟨_, by simp only [List.size_toArray]; rw [hlen]⟩, q⟩
  | _ => exact (show False from e).elim
/-- divmod: a new tuple -/
theorem call_divmod : CallR X (.builtin "divmod") (fun xs H Q => ∃ i j, xs = [.int i, .int j] ∧ CDiv i j ∧ ∀ p, H p = none → Q (.ref p) (upd H p (.tup [.int (i / j), .int (i % j)]))) := by
  intro pins s σ H xs us Q I r h
  obtain ⟨i, j, rfl, ⟨h1, h2⟩, q⟩ := h
  obtain ⟨u, w', rfl, ⟨t, rfl⟩, ⟨t', rfl⟩⟩ := vals2 r
  refine divmod_int (by omega) ?_ (.inl (PyProof.noPylong_small (by omega)))
  rw [Int.fdiv_eq_ediv_of_nonneg i (by omega), Int.fmod_eq_emod_of_nonneg i (by omega)]
  have hn : H s.heap.objs.size = none := I.hok.fresh (Nat.le_refl _)
  refine ⟨.ref s.heap.objs.size, _, ?_, rfl, q _ hn⟩
  refine I.laid (fun b o e => Heap.get?_push_of_some _ e) (Nat.le_refl _) ⟨by simp only [List.length_cons, List.length_nil]; rw [sizeLine_eq]; decide, [.int (i / j) s.toks, .int (i % j) (s.toks + 1)], .cons ⟨_, rfl⟩ (.cons ⟨_, rfl⟩ .nil), ?_⟩
  exact ⟨_, Heap.get?_push_size s.heap rfl, rfl, 0, rfl⟩
end
end L2

namespace L2
open PySem PySem.Spec PyProof.Rows

/-! ### an instance, its attributes a map -/
structure ObjM (h : Heap) (x dx C : Addr) (mA : Str → Option Value) : Prop where
  obj : h.get? x = some (PySem.W.instObj C dx)
  ns : h.Ns1 dx mA
  ne : dx ≠ x

theorem lookIn_ns {h : Heap} {dx : Addr} {mA : Str → Option Value} (n : h.Ns1 dx mA) : ∃ od, h.get? dx = some od ∧ ∀ name, PySem.W.lookIn name od = some (mA name) := by
  obtain ⟨o, es, ep, ho, hd, hk, _, hm⟩ := n
  refine ⟨o, ho, fun name => ?_⟩
  have e := hm name
  unfold nsFind findBy at e
  rw [← Array.find?_toList] at e
  unfold PySem.W.lookIn
  rw [hd]
  dsimp only
  split
  · rename_i y q
    rw [q] at e
    exact congrArg some e
  · rename_i q
    rw [q] at e
    have a : es.toList.any (·.refKey) = false := by
      rw [List.any_eq_false]
      intro y hy
      obtain ⟨z, t, hkey⟩ := hk y (Array.mem_toList_iff.mp hy)
      simp [DictEntry.refKey, hkey]
    have a' : ¬ es.toList.any (·.refKey) = true := by rw [a]; exact Bool.false_ne_true
    rw [if_neg a']
    exact congrArg some e

theorem ObjM.look {h : Heap} {x dx C : Addr} {mA : Str → Option Value} (I : ObjM h x dx C mA) : ∃ od, PySem.W.InstAt h x (PySem.W.instObj C dx) C (some od) ∧ ∀ name, PySem.W.lookIn name od = some (mA name) :=
  let ⟨od, ho, hl⟩ := lookIn_ns I.ns
  ⟨od, ⟨I.obj, rfl, rfl, ho⟩, hl⟩

section
variable {prog : Program} {w : World} {A : Around} {E : Value → Shared → Prop} {s : Shared} {K : PySem.W.Frag} {x dx C f : Addr} {mA : Str → Option Value} {name : Str} {v : Value}

theorem get_map {expr : Bool} {Q : Value → Shared → Prop} (X : K.In s.heap) (I : ObjM s.heap x dx C mA) (hg : PySem.W.plainGet K C name = true) (hh : PySem.W.hasDictIn K C = true)
    (ha : PySem.W.findIn K (.ref C) name = some none) (hv : mA name = some v) (hv' : PySem.W.handedIn v = true) (h : Q v { s with toks := s.toks + 1 }) :
    wpAny (model prog w) A (getAttr (.ref x) name expr) Q E s := by
  obtain ⟨od, J, hl⟩ := I.look
  exact PySem.W.get_value X J (PySem.W.plainGet_of hg).1 (PySem.W.findObj_own hh ha rfl (by rw [hl, hv])) hv' h

theorem get_const {expr : Bool} {a : Value} {Q : Value → Shared → Prop} (X : K.In s.heap) (I : ObjM s.heap x dx C mA) (hg : PySem.W.plainGet K C name = true) (hh : PySem.W.hasDictIn K C = true)
    (ha : PySem.W.findIn K (.ref C) name = some (some a)) (hn : PySem.W.specialIn K a "__get__" = some none) (hc : PySem.W.copiedNames.contains name = false) (hv : mA name = none) (hv' : PySem.W.handedIn a = true)
    (h : Q a { s with toks := s.toks + 1 }) : wpAny (model prog w) A (getAttr (.ref x) name expr) Q E s := by
  obtain ⟨od, J, hl⟩ := I.look
  exact PySem.W.get_value X J (PySem.W.plainGet_of hg).1 (PySem.W.findObj_cls hh ha hn hv' hc (by rw [hl, hv])) hv' h

theorem get_meth {pl : Sem Bool} {Q : Value × List Value → Shared → Prop} (X : K.In s.heap) (I : ObjM s.heap x dx C mA) (hg : PySem.W.plainGet K C name = true)
    (hf : PySem.W.findIn K (.ref C) name = some (some (.ref f))) (ht : PySem.W.isFn K (.ref f) = true) (hv : mA name = none) (h : Q (.ref f, [.ref x]) s) :
    wpAny (model prog w) A (getMethod (.ref x) name pl) Q E s := by
  obtain ⟨od, J, hl⟩ := I.look
  exact PySem.W.method_fn X J (PySem.W.plainGet_of hg).1 (PySem.W.plainGet_of hg).2 hf (beq_iff_eq.mp ht) (by show (PySem.W.lookIn name od).map (·.isSome) = some false; rw [hl, hv]; rfl) h

theorem set_map {ns : List Str} {Q : Unit → Shared → Prop} (X : K.In s.heap) (I : ObjM s.heap x dx C mA)
    (hs : PySem.W.findIn K (.ref C) "__setattr__" = some (some (.builtin "object.__setattr__"))) (hp : PySem.W.plainOver K C = true) (ht : PySem.W.takerIn K C name = some none) (hh : PySem.W.hasDictIn K C = true)
    (hw : PySem.Within mA ns) (hsz : ns.length ≤ sizeLine)
    (h : ∀ h', ObjM h' x dx C (fun y => if y = name then some v else mA y) → Heap.SameBut dx s.heap h' → Q () { s with heap := h', toks := s.toks + 2 }) :
    wpAny (model prog w) A (setAttr (.ref x) name v) Q E s := by
  obtain ⟨od, J, hl⟩ := I.look
  refine PySem.W.set_plain X J hs (PySem.W.osa_open (s := { s with toks := s.toks + 1 }) (r := none) X J hp ht fun b => ?_)
  obtain ⟨cd, hc, hd'⟩ := PySem.W.any_some hh
  have hx : s.heap.get? x = some ⟨.ref C, some dx, .plain, #[]⟩ := I.obj
  refine wpAny_bind (wpAny_pure (wpAny_bind (wpAny_bind (wpAny_loadPart hx (wpAny_bind (PySem.W.Looks.here (s := { s with toks := s.toks + 1 }) (PySem.W.looks_clsIn X hc) ?_))))))
  rw [hd']
  refine wpAny_pure (a := some dx) (wpAny_bind (wpAny_pure (wpAny_bind ?_)))
  refine wpAny_nsSet1 (s := { s with toks := s.toks + 1 }) I.ns fun h' hn2 hs2 => ?_
  obtain ⟨oD, esD, epD, hoD, hdD, hcD⟩ := hn2.count (PySem.Within.cons name v hw)
  refine wpAny_bind (wpAny_lookBehind hoD (by rw [hdD]; exact pastItsLine_dict (Nat.le_trans hcD (by rw [List.length_cons]; omega))) ?_)
  exact wpAny_pure (h _ ⟨(hs2.2 _ (Ne.symm I.ne)).trans I.obj, hn2, I.ne⟩ hs2)

/-- C(..): the dict at the heap's end, the instance behind it; then its __init__ -/
theorem make_map {R : Result → Shared → Prop} {vs : List Value} {kw : List (Str × Value)} (X : K.In s.heap) (hm : PySem.W.makesIn K C = true)
    (hi : PySem.W.findIn K (.ref C) "__init__" = some (some (.ref f))) (hf : PySem.W.typeIn K (.ref f) = some (.type "function"))
    (h : codeAny (model prog w) (A.under (.builtin "type.__call__" ⟨.ref C :: vs, kw⟩)) (.call (.ref f) ⟨.ref (s.heap.objs.size + 1) :: vs, kw⟩) (PySem.W.InitBack (s.heap.objs.size + 1) R)
      { s with heap := (s.heap.push PySem.W.emptyDict).push (PySem.W.instObj C s.heap.objs.size) }) :
    codeAny (model prog w) A (.call (.ref C) ⟨vs, kw⟩) R s := by
  obtain ⟨hh, g, d, t, os⟩ := s
  exact PySem.W.make_core (PySem.W.makes_of X hm) (PySem.W.looks_findIn X hi) (fun self => PySem.W.bind_fn X self hf) (.inl rfl) h
/-- C() where there is no __init__ but object's -/
theorem make_map0 {R : Result → Shared → Prop} (X : K.In s.heap) (hm : PySem.W.makesIn K C = true)
    (hi : PySem.W.findIn K (.ref C) "__init__" = some (some (.builtin "object.__init__")))
    (hb : ∀ self, PySem.W.Looks (model prog w) s.heap (bindSpecial (.builtin "object.__init__") self) (.builtin "object.__init__", [self]))
    (h : codeAny (model prog w) (A.under (.builtin "type.__call__" ⟨[.ref C], []⟩)) (.call (.builtin "object.__init__") ⟨[.ref (s.heap.objs.size + 1)], []⟩) (PySem.W.InitBack (s.heap.objs.size + 1) R)
      { s with heap := (s.heap.push PySem.W.emptyDict).push (PySem.W.instObj C s.heap.objs.size) }) :
    codeAny (model prog w) A (.call (.ref C) ⟨[], []⟩) R s := by
  obtain ⟨hh, g, d, t, os⟩ := s
  exact PySem.W.make_core (PySem.W.makes_of X hm) (PySem.W.looks_findIn X hi) hb (.inr ⟨rfl, rfl⟩) h
end

/-! ### the attributes as a list of pairs -/
def putF (f : Str) (v : V) : List (Str × V) → List (Str × V)
  | [] => [(f, v)]
  | (g, x) :: r => if g = f then (g, v) :: r else (g, x) :: putF f v r
theorem lookup_putF (f g : Str) (v : V) : ∀ fs : List (Str × V), (putF f v fs).lookup g = if g = f then some v else fs.lookup g
  | [] => by
    show List.lookup g [(f, v)] = _
    by_cases h : g = f
    · have hb : (g == f) = true := beq_iff_eq.mpr h
      simp only [List.lookup, hb, if_pos h]
    · have hb : (g == f) = false := beq_eq_false_iff_ne.mpr h
      simp only [List.lookup, hb, if_neg h]
  | (k, x) :: r => by
    have ih := lookup_putF f g v r
    rw [show putF f v ((k, x) :: r) = (if k = f then (k, v) :: r else (k, x) :: putF f v r) from rfl]
    by_cases hk : k = f
    · rw [if_pos hk]
      by_cases h : g = k
      · have hb : (g == k) = true := beq_iff_eq.mpr h
        simp only [List.lookup, hb, if_pos (h.trans hk)]
      · have hb : (g == k) = false := beq_eq_false_iff_ne.mpr h
        simp only [List.lookup, hb, if_neg (fun e : g = f => h (e.trans hk.symm))]
    · rw [if_neg hk]
      by_cases h : g = k
      · have hb : (g == k) = true := beq_iff_eq.mpr h
        simp only [List.lookup, hb, if_neg (fun e : g = f => hk (h.symm.trans e))]
      · have hb : (g == k) = false := beq_eq_false_iff_ne.mpr h
        simp only [List.lookup, hb]
        exact ih
theorem keys_putF (f : Str) (v : V) : ∀ fs : List (Str × V), f ∈ (putF f v fs).map (·.1) ∧ ∀ g, g ∈ fs.map (·.1) → g ∈ (putF f v fs).map (·.1)
  | [] => ⟨by simp [putF], fun g h => by simp at h⟩
  | (k, x) :: r => by
    obtain ⟨i1, i2⟩ := keys_putF f v r
    rw [show putF f v ((k, x) :: r) = (if k = f then (k, v) :: r else (k, x) :: putF f v r) from rfl]
    by_cases hk : k = f
    · rw [if_pos hk]
      subst hk
      exact ⟨by simp, fun g h => by simpa using h⟩
    · rw [if_neg hk]
      refine ⟨?_, fun g h => ?_⟩
      · rw [List.map_cons]
        exact List.mem_cons_of_mem _ i1
      · rw [List.map_cons] at h ⊢
        rcases List.mem_cons.mp h with e | e
        · exact List.mem_cons.mpr (.inl e)
        · exact List.mem_cons_of_mem _ (i2 g e)
theorem length_putF (f : Str) (v : V) : ∀ fs : List (Str × V), (putF f v fs).length ≤ fs.length + 1
  | [] => by simp [putF]
  | (k, x) :: r => by
    have ih := length_putF f v r
    rw [show putF f v ((k, x) :: r) = (if k = f then (k, v) :: r else (k, x) :: putF f v r) from rfl]
    by_cases hk : k = f
    · rw [if_pos hk, List.length_cons, List.length_cons]; omega
    · rw [if_neg hk, List.length_cons, List.length_cons]; omega

theorem RelO.some_of {v : V} {o : Option Value} (r : RelO (some v) o) : ∃ u, o = some u ∧ RelV v u := by
  cases o with
  | none => exact (show False from r).elim
  | some u => exact ⟨u, rfl, r⟩
theorem RelO.none_of {o : Option Value} (r : RelO none o) : o = none := by
  cases o with
  | none => rfl
  | some u => exact (show False from r).elim
theorem handed_of {v : V} {u : Value} (r : RelV v u) : PySem.W.handedIn u = true := by
  cases v with
  | non => cases (show u = Value.none from r); rfl
  | bl b => cases (show u = Value.bool b from r); rfl
  | int i => obtain ⟨t, e⟩ := (show ∃ t, u = Value.int i t from r); cases e; rfl
  | str x => obtain ⟨t, e⟩ := (show ∃ t, u = Value.str x t from r); cases e; rfl
  | byt b => obtain ⟨t, e⟩ := (show ∃ t, u = Value.bytes b t from r); cases e; rfl
  | flt b => obtain ⟨t, e⟩ := (show ∃ t, u = Value.float b t from r); cases e; rfl
  | ref a => cases (show u = Value.ref a from r); rfl
  | ty n => cases (show u = Value.type n from r); rfl

section
variable {P : Program} {w : World} {H H' : Hp} {h h' : Heap} {a C dx : Addr} {fs fs' : List (Str × V)}
theorem ins_get (hok : HOk P w H h) (e : H a = some (.ins C dx fs)) : ∃ mA, ObjM h a dx C mA ∧ (∀ f, RelO (fs.lookup f) (mA f)) ∧ PySem.Within mA (fs.map (·.1)) ∧ fs.length ≤ 1000 ∧ H dx = some (.own a) := by
  obtain ⟨d, z, ne, ob, mA, n, r, q⟩ := (show ObjOk P w H h a (.ins C dx fs) from hok a _ e)
  exact ⟨mA, ⟨ob, n, ne⟩, r, q, z, d⟩
end

/-! ### what of the text a class must have -/
structure Cls (K : PySem.W.Frag) (C : Addr) : Prop where
  pg : PySem.W.plainGet K C Str.empty = true
  hd : PySem.W.hasDictIn K C = true
  po : PySem.W.plainOver K C = true
  sa : PySem.W.findIn K (.ref C) "__setattr__" = some (some (.builtin "object.__setattr__"))
theorem Cls.get {K : PySem.W.Frag} {C : Addr} (c : Cls K C) (f : Str) : PySem.W.plainGet K C f = true := c.pg
/-- no class of it has the name -/
def NoAttr (K : PySem.W.Frag) (C : Addr) (f : Str) : Prop := PySem.W.findIn K (.ref C) f = some none
theorem NoAttr.taker {K : PySem.W.Frag} {C : Addr} {f : Str} (n : NoAttr K C f) : PySem.W.takerIn K C f = some none := by
  unfold PySem.W.takerIn
  rw [show PySem.W.findIn K (.ref C) f = some none from n]
  rfl
/-- a constant of the class -/
structure Con (K : PySem.W.Frag) (C : Addr) (f : Str) (v : V) (u : Value) : Prop where
  at_ : PySem.W.findIn K (.ref C) f = some (some u)
  rel : RelV v u
  get : PySem.W.specialIn K u "__get__" = some none
  cp : PySem.W.copiedNames.contains f = false
/-- a method: a plain def of the class or of one above it -/
structure Meth (K : PySem.W.Frag) (C : Addr) (m : Str) (f : Addr) : Prop where
  at_ : PySem.W.findIn K (.ref C) m = some (some (.ref f))
  fn : PySem.W.isFn K (.ref f) = true
  kp : PySem.W.keepIn K (.ref f) = true

section
variable {X : Cx} {pins : List (Addr × Obj)} {σ : St} {H : Hp} {s : Shared} {a C dx : Addr} {fs : List (Str × V)} {f : Str} {v : V} {A : Around} {E : Value → Shared → Prop}

theorem getattr_ok {b : Bool} {Q : Value → Shared → Prop} (I : Inv X pins σ H s) (e : H a = some (.ins C dx fs)) (c : Cls X.K C) (n : NoAttr X.K C f) (l : fs.lookup f = some v)
    (h : ∀ u s', Inv X pins σ H s' → RelV v u → Q u s') : wpAny (model X.prog X.w) A (getAttr (.ref a) f b) Q E s := by
  obtain ⟨mA, O, r, _, _, _⟩ := ins_get I.hok e
  obtain ⟨u, hu, ru⟩ := RelO.some_of (v := v) (o := mA f) (by rw [← l]; exact r f)
  exact get_map I.kIn O (c.get f) c.hd n hu (handed_of ru) (h u _ (I.tok _) ru)

theorem getcon_ok {b : Bool} {u : Value} {Q : Value → Shared → Prop} (I : Inv X pins σ H s) (e : H a = some (.ins C dx fs)) (c : Cls X.K C) (k : Con X.K C f v u) (l : fs.lookup f = none)
    (h : ∀ s', Inv X pins σ H s' → Q u s') : wpAny (model X.prog X.w) A (getAttr (.ref a) f b) Q E s := by
  obtain ⟨mA, O, r, _, _, _⟩ := ins_get I.hok e
  have hn : mA f = none := RelO.none_of (by rw [← l]; exact r f)
  exact get_const I.kIn O (c.get f) c.hd k.at_ k.get k.cp hn (handed_of k.rel) (h _ (I.tok _))

theorem getmeth_ok {m : Str} {g : Addr} {pl : Sem Bool} {Q : Value × List Value → Shared → Prop} (I : Inv X pins σ H s) (e : H a = some (.ins C dx fs)) (c : Cls X.K C) (k : Meth X.K C m g) (l : fs.lookup m = none)
    (h : Q (.ref g, [.ref a]) s) : wpAny (model X.prog X.w) A (getMethod (.ref a) m pl) Q E s := by
  obtain ⟨mA, O, r, _, _, _⟩ := ins_get I.hok e
  have hn : mA m = none := RelO.none_of (by rw [← l]; exact r m)
  exact get_meth I.kIn O (c.get m) k.at_ k.fn hn h

theorem setattr_ok {y : V} {u : Value} {Q : Unit → Shared → Prop} (I : Inv X pins σ H s) (e : H a = some (.ins C dx fs)) (c : Cls X.K C) (n : NoAttr X.K C f) (hl : fs.length < 1000) (ry : RelV y u)
    (h : ∀ s', Inv X pins σ (upd H a (.ins C dx (putF f y fs))) s' → Q () s') : wpAny (model X.prog X.w) A (setAttr (.ref a) f u) Q E s := by
  obtain ⟨mA, O, r, wi, _, ho⟩ := ins_get I.hok e
  have hz : (fs.map (·.1)).length ≤ sizeLine := by rw [List.length_map, sizeLine_eq]; omega
  refine set_map I.kIn O c.sa c.po n.taker c.hd wi hz fun h' O' sb => h _ ?_
  have hd : ∃ o, h'.get? dx = some o := let ⟨o, _, _, e', _⟩ := O'.ns; ⟨o, e'⟩
  refine I.write (x := a) (e := dx) (by rw [e]; exact True.intro) (.inr ho) (fun b q hb z => (sb.2 b hb).trans z) hd ?_
  refine ⟨by rw [upd_ne O.ne]; exact ho, ?_, O.ne, O'.obj, _, O'.ns, fun g => ?_, fun g hg => ?_⟩
  · have := length_putF f y fs; omega
  · show RelO ((putF f y fs).lookup g) (if g = f then some u else mA g)
    rw [lookup_putF]
    by_cases q : g = f
    · rw [if_pos q, if_pos q]; exact ry
    · rw [if_neg q, if_neg q]; exact r g
  · by_cases q : g = f
    · rw [q]; exact (keys_putF f y fs).1
    · refine (keys_putF f y fs).2 g (wi g fun z => hg ?_)
      show (if g = f then some u else mA g) = none
      rw [if_neg q]; exact z

/-- a new instance, tracked, without attributes -/
theorem Inv.made (I : Inv X pins σ H s) : Inv X pins σ (upd (upd H s.heap.objs.size (.own (s.heap.objs.size + 1))) (s.heap.objs.size + 1) (.ins C s.heap.objs.size []))
    { s with heap := (s.heap.push PySem.W.emptyDict).push (PySem.W.instObj C s.heap.objs.size) } := by
  have e1 : (s.heap.push PySem.W.emptyDict).get? s.heap.objs.size = some PySem.W.emptyDict := Heap.get?_push_size s.heap rfl
  have e2 : ((s.heap.push PySem.W.emptyDict).push (PySem.W.instObj C s.heap.objs.size)).get? (s.heap.objs.size + 1) = some (PySem.W.instObj C s.heap.objs.size) := by
    have := Heap.get?_push_size (s.heap.push PySem.W.emptyDict) (o := PySem.W.instObj C s.heap.objs.size) rfl
    rwa [Heap.size_push] at this
  have e3 : (s.heap.push PySem.W.emptyDict).Ns s.heap.objs.size (fun _ => none) := ⟨PySem.W.emptyDict, #[], _, e1, rfl, (fun e he => absurd he (by simp)), fun _ => rfl⟩
  have I1 := I.laid (a := s.heap.objs.size) (o := .own (s.heap.objs.size + 1)) (h' := s.heap.push PySem.W.emptyDict) (t' := s.toks) (fun b u q => Heap.get?_push_of_some _ q) (Nat.le_refl _) ⟨_, e1⟩
  refine I1.laid (a := s.heap.objs.size + 1) (o := .ins C s.heap.objs.size []) (t' := s.toks) (fun b u q => Heap.get?_push_of_some _ q) (Nat.le_of_eq (Heap.size_push _ _)) ?_
  have ne : s.heap.objs.size ≠ s.heap.objs.size + 1 := Nat.ne_of_lt (Nat.lt_succ_self _)
  refine ⟨by rw [upd_ne ne, upd_same], Nat.zero_le _, ne, e2, fun _ => none, (Heap.Ns1.of_empty e3).at fun o q => Heap.get?_push_of_some _ q, fun _ => True.intro, fun y hy => absurd rfl hy⟩

/-- e.f where nothing but the object is asked: through attributeBase (super) and the last hold -/
theorem attr_of {prog : Program} {w : World} {env : Env} {e : Expr} {f : Str} {pos : Pos} {s : Shared} {Q : Value → Shared → Prop} (hb : attributeBase e f env (eval e env) = eval e env)
    (h : wpAny (model prog w) A (eval e env) (fun o s₁ => wpAny (model prog w) A (getAttr o f true) Q E s₁) E s) : wpAny (model prog w) A (eval (.Attribute e f pos) env) Q E s :=
  Attribute_any_ h (by rw [arm_eval_Attribute, hb])
end

/-! ### readings and rules -/
/-- e.f, an attribute of the instance -/
def tFld (K : PySem.W.Frag) (ta : TE) (f : Str) : TE := fun σ H Q => ta σ H fun x H1 => ∃ a C dx fs v, x = .ref a ∧ H1 a = some (.ins C dx fs) ∧ Cls K C ∧ NoAttr K C f ∧ fs.lookup f = some v ∧ Q v H1
/-- e.f, a constant of the class -/
def tCon (K : PySem.W.Frag) (ta : TE) (f : Str) : TE := fun σ H Q => ta σ H fun x H1 => ∃ a C dx fs v u, x = .ref a ∧ H1 a = some (.ins C dx fs) ∧ Cls K C ∧ Con K C f v u ∧ fs.lookup f = none ∧ Q v H1
/-- e.f = value -/
def sFld (K : PySem.W.Frag) (ta tv : TE) (f : Str) : TS := fun D σ H => tv σ H fun y H1 => ta σ H1 fun x H2 => ∃ a C dx fs, x = .ref a ∧ H2 a = some (.ins C dx fs) ∧ Cls K C ∧ NoAttr K C f ∧ fs.length < 1000 ∧
  D.nx σ (upd H2 a (.ins C dx (putF f y fs)))
/-- an augmented operator on two values -/
def InOp (X : Cx) (op : Operator) (rd : V → V → Hp → VK → Prop) : Prop :=
  ∀ (pins : List (Addr × Obj)) (s : Shared) (σ : St) (H : Hp) (x y : V) (u v : Value) (Q : VK), Inv X pins σ H s → RelV x u → RelV y v → rd x y H Q → wpAny (model X.prog X.w) X.A (inplaceOp op u v) (EP X pins σ Q) X.xe s
/-- e.f op= value -/
def sFldAug (K : PySem.W.Frag) (ta tv : TE) (rd : V → V → Hp → VK → Prop) (f : Str) : TS := fun D σ H => ta σ H fun x H1 => ∃ a C dx fs v, x = .ref a ∧ H1 a = some (.ins C dx fs) ∧ Cls K C ∧ NoAttr K C f ∧ fs.lookup f = some v ∧
  tv σ H1 fun y H2 => rd v y H2 fun z H3 => ∃ dx' fs', H3 a = some (.ins C dx' fs') ∧ fs'.length < 1000 ∧ D.nx σ (upd H3 a (.ins C dx' (putF f z fs')))

section
variable {X : Cx} {o e value : Expr} {f : Str} {pos pos' tpos : Pos} {ta tv : TE}
theorem pe_fld (he : PE X e ta) (hb : attributeBase e f X.env (eval e X.env) = eval e X.env) : PE X (.Attribute e f pos) (tFld X.K ta f) := by
  intro pins s σ H Q I h
  refine attr_of hb (thn (he pins s σ H _ I h) fun u s1 ⟨x, H1, I1, rx, a, C, dx, fs, v, ex, ea, c, n, l, q⟩ => ?_)
  subst ex
  obtain rfl : u = Value.ref a := rx
  exact getattr_ok I1 ea c n l fun u' s2 I2 ru => ⟨v, H1, I2, ru, q⟩
theorem pe_con (he : PE X e ta) (hb : attributeBase e f X.env (eval e X.env) = eval e X.env) : PE X (.Attribute e f pos) (tCon X.K ta f) := by
  intro pins s σ H Q I h
  refine attr_of hb (thn (he pins s σ H _ I h) fun u s1 ⟨x, H1, I1, rx, a, C, dx, fs, v, u0, ex, ea, c, k, l, q⟩ => ?_)
  subst ex
  obtain rfl : u = Value.ref a := rx
  exact getcon_ok I1 ea c k l fun s2 I2 => ⟨v, H1, I2, k.rel, q⟩
theorem ps_fld (ha : PE X o ta) (hv : PE X value tv) (hs : swapsWith value (some (.Attribute o f pos')) pos.line X.env = pure false) : PS X (.Assign [.Attribute o f pos'] value pos) (sFld X.K ta tv f) := by
  intro pins s σ H D I h
  refine plainObj_wpAny_Assign_Attribute (thn (hv pins s σ H _ I h) fun u s1 ⟨y, H1, I1, ry, q⟩ => thn (ha pins s1 σ H1 _ I1 q) fun ov s2 ⟨x, H2, I2, rx, a, C, dx, fs, ex, ea, c, n, l, q2⟩ => ?_) hs
  subst ex
  obtain rfl : ov = Value.ref a := rx
  exact setattr_ok I2 ea c n l ry fun s3 I3 => ⟨σ, _, I3, q2⟩
theorem ps_fldaug {op : Operator} {rd : V → V → Hp → VK → Prop} (ha : PE X o ta) (hv : PE X value tv) (hop : InOp X op rd) : PS X (.AugAssign (.Attribute o f tpos) op value pos) (sFldAug X.K ta tv rd f) := by
  intro pins s σ H D I h
  refine wpAny_AugAssign_AttributeAny (thn (ha pins s σ H _ I h) fun ov s1 ⟨x, H1, I1, rx, a, C, dx, fs, v, ex, ea, c, n, l, q⟩ => ?_)
  subst ex
  obtain rfl : ov = Value.ref a := rx
  refine getattr_ok I1 ea c n l fun u s2 I2 ru => thn (hv pins s2 σ H1 _ I2 q) fun w3 s3 ⟨y, H2, I3, ry, q3⟩ => thn (hop pins s3 σ H2 v y u w3 _ I3 ru ry q3) fun w4 s4 ⟨z, H3, I4, rz, dx', fs', ea', l', q4⟩ => ?_
  exact setattr_ok I4 ea' c n l' rz fun s5 I5 => ⟨σ, _, I5, q4⟩
def rAdd : V → V → Hp → VK → Prop := fun x y H Q => ∃ i j, x = .int i ∧ y = .int j ∧ Q (.int (i + j)) H
def rSub : V → V → Hp → VK → Prop := fun x y H Q => ∃ i j, x = .int i ∧ y = .int j ∧ Q (.int (i - j)) H
theorem in_add : InOp X .Add rAdd := by
  rintro pins s σ H x y u v Q I rx ry ⟨i, j, rfl, rfl, q⟩
  obtain ⟨t, rfl⟩ := (show ∃ t, u = Value.int i t from rx)
  obtain ⟨t', rfl⟩ := (show ∃ t', v = Value.int j t' from ry)
  exact PyProof.Rows.iadd_int ⟨.int (i + j), H, I.tok _, ⟨_, rfl⟩, q⟩
theorem in_sub : InOp X .Sub rSub := by
  rintro pins s σ H x y u v Q I rx ry ⟨i, j, rfl, rfl, q⟩
  obtain ⟨t, rfl⟩ := (show ∃ t, u = Value.int i t from rx)
  obtain ⟨t', rfl⟩ := (show ∃ t', v = Value.int j t' from ry)
  exact PyProof.Rows.isub_int ⟨.int (i - j), H, I.tok _, ⟨_, rfl⟩, q⟩

/-- what is between an instance and its method: the tree of a method call -/
theorem methcall_of {pl : Sem Bool} {m : Str} {apos : Pos} {args : List Expr} {pins : List (Addr × Obj)} {s : Shared} {σ : St} {H : Hp} {Q : Value → Shared → Prop} {te : TE} (he : PE X e te) (I : Inv X pins σ H s)
    (h : te σ H fun x H1 => ∃ a C dx fs g, x = .ref a ∧ H1 a = some (.ins C dx fs) ∧ Cls X.K C ∧ Meth X.K C m g ∧ fs.lookup m = none ∧
      ∀ s1, Inv X pins σ H1 s1 → wpAny (model X.prog X.w) X.A (callWith pos (.ref g) [.ref a] (backTo pos (starEach args X.env)) (backToKw pos (keywordEach [] X.env))) Q X.xe s1)
    (ht : eval (.Call (.Attribute e m apos) args [] pos) X.env = (do
      let ov ← eval e X.env
      standAt apos.atName
      let (f, first) ← holding [ov] (getMethod ov m pl)
      callWith pos f first (backTo pos (starEach args X.env)) (backToKw pos (keywordEach [] X.env)))) :
    wpAny (model X.prog X.w) X.A (eval (.Call (.Attribute e m apos) args [] pos) X.env) Q X.xe s := by
  refine PySem.W.methodCall_KW (pl := pl) (thn (he pins s σ H _ I h) fun u s1 ⟨x, H1, I1, rx, a, C, dx, fs, g, ex, ea, c, k, l, q⟩ => ?_) ht
  subst ex
  obtain rfl : u = Value.ref a := rx
  exact getmeth_ok I1 ea c k l (q s1 I1)
end

/-! ### isinstance -/
section
variable {X : Cx} {pins : List (Addr × Obj)} {σ : St} {H : Hp} {s : Shared} {A : Around} {E : Value → Shared → Prop} {Q : Value → Shared → Prop} {c : Value} {b : Bool}
/-- the type of a value, as the fragment's deciders take it; for an instance its class -/
inductive TyOf (K : PySem.W.Frag) (H : Hp) : V → Value → Prop where
  | non : TyOf K H .non (.type "NoneType")
  | bl (x : Bool) : TyOf K H (.bl x) (.type "bool")
  | int (i : Int) : TyOf K H (.int i) (.type "int")
  | str (x : Str) : TyOf K H (.str x) (.type "str")
  | flt (x : UInt64) : TyOf K H (.flt x) (.type "float")
  | lst {a : Addr} {xs : List V} (e : H a = some (.lst xs)) : TyOf K H (.ref a) (.type "list")
  | frz {a : Addr} {o : Obj} {xs : List V} (e : H a = some (.frz o (.lst xs))) : TyOf K H (.ref a) (.type "list")
  | tup {a : Addr} {xs : List V} (e : H a = some (.tup xs)) : TyOf K H (.ref a) (.type "tuple")
  | dK {a : Addr} {kvs : List (Key × V)} (e : H a = some (.dK kvs)) : TyOf K H (.ref a) (.type "dict")
  | dT {a : Addr} {kvs : List (List Key × V)} (e : H a = some (.dT kvs)) : TyOf K H (.ref a) (.type "dict")
  | ins {a C dx : Addr} {fs : List (Str × V)} (e : H a = some (.ins C dx fs)) (cl : Cls K C) (ha : PySem.W.findIn K (.ref C) "__class__" = some (some (.builtin "object.__class__")))
      (hn : PySem.W.specialIn K (.builtin "object.__class__") "__get__" = some (some (.builtin "getset_descriptor.__get__"))) (htk : PySem.W.takesIn K (.builtin "object.__class__") = some true)
      (hm : PySem.W.mroIn K C (.type "object") = some true) : TyOf K H (.ref a) (.ref C)
/-- isinstance(x, c) for one class c, a built-in or an own one: kitOne's answer -/
theorem isinst_ok {x : V} {u t : Value} (I : Inv X pins σ H s) (rx : RelV x u) (ty : TyOf X.K H x t) (e : PySem.W.kitOne X.K t c = some b) (h : ∀ tk, Q (.bool b) { s with toks := tk }) :
    wpAny (model X.prog X.w) A (call (.builtin "isinstance") [u, c]) Q E s := by
  cases ty with
  | non => cases (show u = Value.none from rx); exact PySem.W.kia_one PySem.W.kitx_none I.kIn True.intro e (fun z => nomatch z) h
  | bl y => cases (show u = Value.bool y from rx); exact PySem.W.kia_one PySem.W.kitx_bool I.kIn True.intro e (fun z => nomatch z) h
  | int i => obtain ⟨t, q⟩ := (show ∃ t, u = Value.int i t from rx); cases q; exact PySem.W.kia_one PySem.W.kitx_int I.kIn True.intro e (fun z => nomatch z) h
  | str y => obtain ⟨t, q⟩ := (show ∃ t, u = Value.str y t from rx); cases q; exact PySem.W.kia_one PySem.W.kitx_str I.kIn True.intro e (fun z => nomatch z) h
  | flt y => obtain ⟨t, q⟩ := (show ∃ t, u = Value.float y t from rx); cases q; exact PySem.W.kia_one PySem.W.kitx_float I.kIn True.intro e (fun z => nomatch z) h
  | @lst a xs ea =>
    cases (show u = Value.ref a from rx)
    obtain ⟨_, _, n, _, h1⟩ := (show ObjOk X.prog X.w H s.heap a (.lst xs) from I.hok a _ ea)
    exact PySem.W.kia_one PySem.W.kitx_list I.kIn ⟨_, h1, rfl⟩ e (fun z => nomatch z) h
  | @frz a ob xs ea =>
    cases (show u = Value.ref a from rx)
    obtain ⟨_, _, _, n, _, h1⟩ := (show ObjOk X.prog X.w H s.heap a (.frz ob (.lst xs)) from I.hok a _ ea)
    exact PySem.W.kia_one PySem.W.kitx_list I.kIn ⟨_, h1, rfl⟩ e (fun z => nomatch z) h
  | @tup a xs ea =>
    cases (show u = Value.ref a from rx)
    obtain ⟨_, _, _, p⟩ := (show ObjOk X.prog X.w H s.heap a (.tup xs) from I.hok a _ ea)
    obtain ⟨o, h1, h2, _⟩ := p
    exact PySem.W.kia_one PySem.W.kitx_tuple I.kIn ⟨o, h1, h2⟩ e (fun z => nomatch z) h
  | @dK a kvs ea =>
    cases (show u = Value.ref a from rx)
    obtain ⟨_, _, vs, _, p⟩ := (show ObjOk X.prog X.w H s.heap a (.dK kvs) from I.hok a _ ea)
    obtain ⟨o, es, ep, h1, h2, _⟩ := p
    exact PySem.W.kia_one PySem.W.kitx_dict I.kIn ⟨o, h1, h2.1⟩ e (fun z => nomatch z) h
  | @dT a kvs ea =>
    cases (show u = Value.ref a from rx)
    obtain ⟨_, _, xs, _, o, es, ep, h1, h2, _⟩ := (show ObjOk X.prog X.w H s.heap a (.dT kvs) from I.hok a _ ea)
    exact PySem.W.kia_one PySem.W.kitx_dict I.kIn ⟨o, h1, h2.1⟩ e (fun z => nomatch z) h
  | @ins a C dx fs ea cl ha hn htk hm =>
    cases (show u = Value.ref a from rx)
    obtain ⟨mA, O, _⟩ := ins_get I.hok ea
    obtain ⟨od, J, _⟩ := O.look
    exact PySem.W.kia_one (PySem.W.kitx_own (cl.get _) cl.hd ha hn htk hm) I.kIn J e (fun z => nomatch z) h
end
end L2

namespace L2
open PySem PySem.Spec PyProof.Rows

/-! ### room -/
structure Room (k : Nat) (A : Around) : Prop where
  hd : A.handled = none
  dp : A.depth + 3 * k + 5 < recursionLimit
  un : A.units + 16 * k + 200 < cLine
theorem Room.mono {j k : Nat} {A : Around} (r : Room k A) (h : j ≤ k) : Room j A := ⟨r.hd, by have := r.dp; omega, by have := r.un; omega⟩
theorem Room.deeper {k : Nat} {A : Around} (r : Room (k + 1) A) (env : Env) : Room k (A.deeper env) :=
  ⟨r.hd, by have := r.dp; show A.depth + 1 + 3 * k + 5 < _; omega, by have := r.un; show A.units + 3 + 16 * k + 200 < _; omega⟩
theorem Room.in1 {k : Nat} {A : Around} (r : Room (k + 1) A) : Room k A.in1 :=
  ⟨r.hd, by have := r.dp; show A.depth + 3 * k + 5 < _; omega, by have := r.un; show A.units + 1 + 16 * k + 200 < _; omega⟩
theorem make_depth {A : Around} {C : Addr} {us : List Value} {kw : List (Str × Value)} : (A.under (.builtin "type.__call__" ⟨.ref C :: us, kw⟩)).depth = A.depth + 1 := by
  first | rfl | simp [Around.under, Code.weight, Code.isCreation, Code.isGuard, Code.isCaller, Code.frames, Code.isFrame, guardIds]
theorem make_units {A : Around} {C : Addr} {us : List Value} {kw : List (Str × Value)} : (A.under (.builtin "type.__call__" ⟨.ref C :: us, kw⟩)).units = A.units + 1 := by
  first | rfl | simp [Around.under, Code.cUnits, Code.frames, Code.isFrame]
theorem Room.make {k : Nat} {A : Around} (r : Room (k + 1) A) (C : Addr) (us : List Value) (kw : List (Str × Value)) : Room k (A.under (.builtin "type.__call__" ⟨.ref C :: us, kw⟩)) :=
  ⟨r.hd, by have := r.dp; rw [make_depth]; omega, by have := r.un; rw [make_units]; omega⟩
theorem Room.depth {k : Nat} {A : Around} (r : Room k A) : A.depth < recursionLimit := by have := r.dp; omega
theorem Room.units {k : Nat} {A : Around} (r : Room k A) : A.units + 64 < cLine := by have := r.un; omega
theorem Room.units0 {k : Nat} {A : Around} (r : Room k A) : A.units < cLine := by have := r.un; omega

/-! ### argument lists and displays -/
def tNil : TA := fun _ H Q => Q [] H
def tCons (ta : TE) (tr : TA) : TA := fun σ H Q => ta σ H fun x H1 => tr σ H1 fun xs H2 => Q (x :: xs) H2
section
variable {X : Cx} {e : Expr} {es : List Expr} {te : TE} {t : TA} {pos : Pos}
theorem pa_nil : PA X [] tNil := fun _ _ _ _ H Q I h => Calls.spliced_nil ⟨[], H, I, .nil, h⟩
theorem pa_cons (ha : PE X e te) (hr : PA X es t) (hs : starEach (e :: es) X.env = (false, eval e X.env) :: starEach es X.env := by rfl) : PA X (e :: es) (tCons te t) := by
  intro pos pins s σ H Q I h
  rw [hs]
  show wpAny _ _ (spliced ((false, eval e X.env) :: backTo pos (starEach es X.env))) _ _ s
  refine Calls.spliced_cons (thn (ha pins s σ H _ I h) fun u s1 ⟨x, H1, I1, r1, q1⟩ => ?_)
  exact thn (hr pos pins s1 σ H1 _ I1 q1) fun us s2 ⟨xs, H2, I2, r2, q2⟩ => ⟨x :: xs, H2, I2, .cons r1 r2, q2⟩

/-- a tuple, a list of written items -/
def tTup (t : TA) : TE := fun σ H Q => t σ H fun xs H1 => xs.length ≤ sizeLine ∧ ∀ p, H1 p = none → Q (.ref p) (upd H1 p (.tup xs))
def tLst (t : TA) : TE := fun σ H Q => t σ H fun xs H1 => xs.length ≤ sizeLine ∧ ∀ p, H1 p = none → Q (.ref p) (upd H1 p (.lst xs))
theorem pe_tup {x1} (h : PA X es t) : PE X (.Tuple es x1 pos) (tTup t) := by
  intro pins s σ H Q I hq
  refine wpAny_Tuple_spliced (thn (h pos pins s σ H _ I hq) fun us s1 ⟨xs, H1, I1, r, z, q⟩ => ⟨by rw [← r.length]; exact z, ?_⟩)
  have hf : H1 s1.heap.objs.size = none := I1.hok.fresh (Nat.le_refl _)
  refine ⟨.ref s1.heap.objs.size, upd H1 s1.heap.objs.size (.tup xs), I1.laid (t' := s1.toks) (fun b u e => Heap.get?_push_of_some _ e) (Nat.le_refl _) ?_, rfl, q _ hf⟩
  exact ⟨z, us, r, ⟨_, Heap.get?_push_size _ rfl, rfl, _, rfl⟩⟩
theorem pe_lst (h : PA X es t) : PE X (.List es pos) (tLst t) := by
  intro pins s σ H Q I hq
  refine wpAny_List_spliced (thn (h pos pins s σ H _ I hq) fun us s1 ⟨xs, H1, I1, r, z, q⟩ => ⟨by rw [← r.length]; exact z, ?_⟩)
  have hf : H1 s1.heap.objs.size = none := I1.hok.fresh (Nat.le_refl _)
  refine ⟨.ref s1.heap.objs.size, upd H1 s1.heap.objs.size (.lst xs), I1.laid (t' := s1.toks) (fun b u e => Heap.get?_push_of_some _ e) (Nat.le_refl _) ?_, rfl, q _ hf⟩
  exact ⟨z, us, 0, r, Heap.get?_push_size _ rfl⟩
end

/-! ### what a def promises -/
/-- a def's promise: the bound arguments in the parameters' order, the heap, the wanted end, the wanted exception -/
abbrev Sp := List V → Hp → VK → XK → Prop
/-- how an exception lies behind a call (file 08 gives it): the callers' frames, abstract heap and state ahead of the call, the wish, the exception, the state -/
abbrev CXT := List Env → Hp → Shared → XK → Value → Shared → Prop

/-- the state at a call -/
structure Env0 (P : Program) (w : World) (K : PySem.W.Frag) (mg : Str → Option Value) (base : Heap) (A : Around) (outer : List Env) (s : Shared) (H : Hp) : Prop where
  frames : A.frames = some outer
  mod : Mod K mg base
  bs : ∀ b o, base.get? b = some o → s.heap.get? b = some o ∧ H b = none
  bsz : base.objs.size ≤ s.heap.objs.size
  funs : s.heap.FunFrames base outer
  frf : ∀ b ∈ frs outer, H b = none
  hok : HOk P w H s.heap
  bare : AllBare s.gens
/-- a call's end -/
def CE (outer : List Env) (P : Program) (w : World) (H : Hp) (s : Shared) (Q : VK) (u : Value) (s' : Shared) : Prop :=
  ∃ v H', s'.os = s.os ∧ AllBare s'.gens ∧ Un (frs outer) [] H H' s.heap s'.heap ∧ HOk P w H' s'.heap ∧ RelV v u ∧ Q v H'
def CR (CX : CXT) (outer : List Env) (P : Program) (w : World) (H : Hp) (s : Shared) (Q : VK) (E : XK) (r : Result) (s' : Shared) : Prop :=
  match r with
  | .ok (.ret u) => CE outer P w H s Q u s'
  | .ok _ => False
  | .error e => CX outer H s E e s'
structure FnOk (P : Program) (w : World) (K : PySem.W.Frag) (mg : Str → Option Value) (base : Heap) (CX : CXT) (k : Nat) (f : Addr) (fd : FuncData) (ps : List Str) (sp : Sp) : Prop where
  len : ∀ vs H Q E, sp vs H Q E → vs.length = ps.length
  run : ∀ (A : Around) (outer : List Env) (s : Shared) (H : Hp) (args : Args) (us : List Value) (vs : List V) (Q : VK) (E : XK), Room k A → Env0 P w K mg base A outer s H → BindsTo s fd args (ps.zip us) → Vals vs us → sp vs H Q E →
    codeAny (model P w) A (.call (.ref f) args) (CR CX outer P w H s Q E) s
theorem FnOk.mono {P : Program} {w : World} {K : PySem.W.Frag} {mg : Str → Option Value} {base : Heap} {CX : CXT} {j k : Nat} {f : Addr} {fd : FuncData} {ps : List Str} {sp : Sp} (F : FnOk P w K mg base CX j f fd ps sp) (h : j ≤ k) :
    FnOk P w K mg base CX k f fd ps sp := ⟨F.len, fun A outer s H args us vs Q E hr => F.run A outer s H args us vs Q E (hr.mono h)⟩
/-- a weaker promise -/
theorem FnOk.imp {P : Program} {w : World} {K : PySem.W.Frag} {mg : Str → Option Value} {base : Heap} {CX : CXT} {k : Nat} {f : Addr} {fd : FuncData} {ps : List Str} {sp sp' : Sp} (F : FnOk P w K mg base CX k f fd ps sp)
    (h : ∀ vs H Q E, sp' vs H Q E → sp vs H Q E) : FnOk P w K mg base CX k f fd ps sp' :=
  ⟨fun vs H Q E q => F.len vs H Q E (h _ _ _ _ q), fun A outer s H args us vs Q E hr he hb hv hs => F.run A outer s H args us vs Q E hr he hb hv (h _ _ _ _ hs)⟩

theorem Env0.make {P : Program} {w : World} {K : PySem.W.Frag} {mg : Str → Option Value} {base : Heap} {A : Around} {outer : List Env} {s : Shared} {H : Hp} (e : Env0 P w K mg base A outer s H) (C : Addr) (us : List Value) (kw : List (Str × Value)) :
    Env0 P w K mg base (A.under (.builtin "type.__call__" ⟨.ref C :: us, kw⟩)) outer s H := ⟨by first | exact e.frames | (simpa [Around.under, Code.envs, Code.isFrame, pushEnvs] using e.frames), e.mod, e.bs, e.bsz, e.funs, e.frf, e.hok, e.bare⟩
theorem Env0.in1 {P : Program} {w : World} {K : PySem.W.Frag} {mg : Str → Option Value} {base : Heap} {A : Around} {outer : List Env} {s : Shared} {H : Hp} (e : Env0 P w K mg base A outer s H) :
    Env0 P w K mg base A.in1 outer s H := ⟨e.frames, e.mod, e.bs, e.bsz, e.funs, e.frf, e.hok, e.bare⟩

section
variable {X : Cx} {pins : List (Addr × Obj)} {σ : St} {H : Hp} {s s' : Shared}
/-- from a body: what a callee wants -/
theorem Inv.env0 (I : Inv X pins σ H s) : Env0 X.prog X.w X.K X.mg X.base X.A X.stack s H :=
  ⟨I.ok.frames, I.ok.mod, I.bs, Nat.le_trans I.ok.bsz I.sz, I.stack, I.stkFree, I.hok, I.bare⟩
/-- behind a call -/
theorem Inv.after {Q : VK} {u : Value} (I : Inv X pins σ H s) (h : CE X.stack X.prog X.w H s Q u s') : EP X pins σ Q u s' := by
  obtain ⟨v, H', os, bare, un, hok, r, q⟩ := h
  obtain ⟨hh, g, d, t, os'⟩ := s'
  obtain rfl : os' = s.os := os
  exact ⟨v, H', I.call (h' := hh) (g' := g) (d' := d) (t' := t) (ch := []) un hok bare (fun b z => absurd z (by simp)), r, q⟩
end

/-! ### calls -/
/-- f(..): the written arguments, then the defaults dvs; E: what is wanted of an exception -/
def tCall (sp : Sp) (dvs : List V) (E : XK) (t : TA) : TE := fun σ H Q => t σ H fun vs H1 => sp (vs ++ dvs) H1 Q E
/-- o.m(..) of an instance of the class at C -/
def tMeth (C : Addr) (m : Str) (sp : Sp) (dvs : List V) (E : XK) (ta : TE) (t : TA) : TE := fun σ H Q => ta σ H fun x H1 => ∃ a dx fs, x = .ref a ∧ H1 a = some (.ins C dx fs) ∧ fs.lookup m = none ∧
  t σ H1 fun vs H2 => sp (x :: (vs ++ dvs)) H2 Q E
/-- C(..): a new instance and its dict, then __init__ -/
def tMake (C : Addr) (sp : Sp) (dvs : List V) (E : XK) (t : TA) : TE := fun σ H Q => t σ H fun vs H1 => ∀ x dx, H1 x = none → H1 dx = none → dx ≠ x →
  sp (.ref x :: (vs ++ dvs)) (upd (upd H1 dx (.own x)) x (.ins C dx [])) (fun v H2 => v = .non ∧ Q (.ref x) H2) E

/-- how the parameters are bound: us the positional arguments, kw the keywords' values by name, ds the defaults that fill up -/
def Binds (K : PySem.W.Frag) (fd : FuncData) (ps : List Str) (ds : List Value) : Prop :=
  ∀ (s : Shared) (us : List Value), K.In s.heap → (us ++ ds).length = ps.length → BindsTo s fd ⟨us, []⟩ (ps.zip (us ++ ds))
/-- every parameter is given -/
theorem Binds.all {K : PySem.W.Frag} {fd : FuncData} {ps : List Str} (h : ∀ us : List Value, us.length = ps.length → bindArgs fd ⟨us, []⟩ = pure (ps.zip us)) : Binds K fd ps [] := fun s us _ hl => by
  rw [List.append_nil] at hl ⊢
  exact .of_eq (h us hl)

/-- an exception of a callee reaches what this body wants of exceptions -/
def Passes (CX : CXT) (X : Cx) (E : XK) : Prop := ∀ (pins : List (Addr × Obj)) (σ : St) (H : Hp) (s : Shared) (e : Value) (s' : Shared), Inv X pins σ H s → CX X.stack H s E e s' → X.xe e s'

section
variable {X : Cx} {CX : CXT} {k : Nat} {f C : Addr} {fd : FuncData} {ps : List Str} {sp : Sp} {dvs : List V} {ds : List Value} {E : XK} {x m : Str} {p pos apos : Pos} {e o : Expr} {es : List Expr} {ta : TE} {t : TA}

/-- the callee runs -/
theorem run_fn {pins : List (Addr × Obj)} {σ : St} {H : Hp} {s : Shared} {Q : VK} {us : List Value} {vs : List V} (F : FnOk X.prog X.w X.K X.mg X.base CX k f fd ps sp) (hr : Room k X.A) (hb : Binds X.K fd ps ds) (hd : Vals dvs ds) (hx : Passes CX X E)
    (I : Inv X pins σ H s) (r : Vals vs us) (h : sp (vs ++ dvs) H Q E) : wpAny (model X.prog X.w) X.A (call (.ref f) us) (EP X pins σ Q) X.xe s := by
  have r2 : Vals (vs ++ dvs) (us ++ ds) := r.append hd
  have hl : (us ++ ds).length = ps.length := by rw [← r2.length]; exact F.len _ _ _ _ h
  refine wpAny_call (codeAny_mono (F.run X.A X.stack s H ⟨us, []⟩ (us ++ ds) (vs ++ dvs) Q E hr I.env0 (hb s us I.kIn hl) r2 h) fun r s' hq => ?_)
  cases r with
  | error e => exact hx pins σ H s e s' I hq
  | ok fl =>
    cases fl with
    | ret u => exact I.after hq
    | next => exact False.elim hq
    | brk => exact False.elim hq
    | cont => exact False.elim hq

theorem pe_call (F : FnOk X.prog X.w X.K X.mg X.base CX k f fd ps sp) (hr : Room k X.A) (hg : Gl X x) (hm : X.mg x = some (.ref f)) (hk : PySem.W.keepIn X.K (.ref f) = true) (hb : Binds X.K fd ps ds) (hd : Vals dvs ds) (hx : Passes CX X E)
    (ha : PA X (e :: es) t) (hdb : (x == ("__debug__" : Str)) = false := by decide) (he : starEach (e :: es) X.env = (false, eval e X.env) :: starEach es X.env := by rfl) (hpl : (backTo pos (starEach es X.env)).any (·.1) = false := by rfl) :
    PE X (.Call (.Name x p) (e :: es) [] pos) (tCall sp dvs E t) := by
  intro pins s σ H Q I h
  refine wpAny_Call_Name_kw (ld_glob I hg hm ?_ hdb)
  refine PySem.W.callWith_K (h₀ := X.base) I.ok.mod.kin hk (thn (ha pos pins s σ H _ I h) fun us s1 ⟨vs, H1, I1, r, q⟩ => ⟨I1.kIn, ?_⟩) he hpl
  exact run_fn F hr hb hd hx I1 r q
theorem pe_call0 (F : FnOk X.prog X.w X.K X.mg X.base CX k f fd ps sp) (hr : Room k X.A) (hg : Gl X x) (hm : X.mg x = some (.ref f)) (hk : PySem.W.keepIn X.K (.ref f) = true) (hb : Binds X.K fd ps ds) (hd : Vals dvs ds) (hx : Passes CX X E)
    (hdb : (x == ("__debug__" : Str)) = false := by decide) : PE X (.Call (.Name x p) [] [] pos) (tCall sp dvs E tNil) := by
  intro pins s σ H Q I h
  refine wpAny_Call_Name_kw (ld_glob I hg hm ?_ hdb)
  exact PySem.W.callWith_K0 I.kIn hk (run_fn (us := []) F hr hb hd hx I .nil h)

/-- o.m(e, ..) -/
theorem pe_meth {pl : Sem Bool} (he : PE X o ta) (c : Cls X.K C) (hm : Meth X.K C m f) (F : FnOk X.prog X.w X.K X.mg X.base CX k f fd ps sp) (hr : Room k X.A) (hb : Binds X.K fd ps ds) (hd : Vals dvs ds) (hx : Passes CX X E) (ha : PA X (e :: es) t)
    (hst : starEach (e :: es) X.env = (false, eval e X.env) :: starEach es X.env := by rfl) (hpl : (backTo pos (starEach es X.env)).any (·.1) = false := by rfl)
    (ht : eval (.Call (.Attribute o m apos) (e :: es) [] pos) X.env = (do
      let ov ← eval o X.env
      standAt apos.atName
      let (f, first) ← holding [ov] (getMethod ov m pl)
      callWith pos f first (backTo pos (starEach (e :: es) X.env)) (backToKw pos (keywordEach [] X.env))) := by rfl) :
    PE X (.Call (.Attribute o m apos) (e :: es) [] pos) (tMeth C m sp dvs E ta t) := by
  intro pins s σ H Q I h
  refine PySem.W.methodCall_KW (pl := pl) (thn (he pins s σ H _ I h) fun u s1 ⟨x, H1, I1, rx, a, dx, fs, ex, ea, l, q⟩ => ?_) ht
  subst ex
  obtain rfl : u = Value.ref a := rx
  refine getmeth_ok I1 ea c hm l ?_
  refine PySem.W.callWith_K (first := [.ref a]) (h₀ := X.base) I.ok.mod.kin hm.kp (thn (ha pos pins s1 σ H1 _ I1 q) fun us s2 ⟨vs, H2, I2, r, q2⟩ => ⟨I2.kIn, ?_⟩) hst hpl
  exact run_fn (us := .ref a :: us) (vs := .ref a :: vs) F hr hb hd hx I2 (.cons rfl r) q2
/-- o.m() -/
theorem pe_meth0 {pl : Sem Bool} (he : PE X o ta) (c : Cls X.K C) (hm : Meth X.K C m f) (F : FnOk X.prog X.w X.K X.mg X.base CX k f fd ps sp) (hr : Room k X.A) (hb : Binds X.K fd ps ds) (hd : Vals dvs ds) (hx : Passes CX X E)
    (ht : eval (.Call (.Attribute o m apos) [] [] pos) X.env = (do
      let ov ← eval o X.env
      standAt apos.atName
      let (f, first) ← holding [ov] (getMethod ov m pl)
      callWith pos f first (backTo pos (starEach [] X.env)) (backToKw pos (keywordEach [] X.env))) := by rfl) :
    PE X (.Call (.Attribute o m apos) [] [] pos) (tMeth C m sp dvs E ta tNil) := by
  intro pins s σ H Q I h
  refine PySem.W.methodCall_KW (pl := pl) (thn (he pins s σ H _ I h) fun u s1 ⟨x, H1, I1, rx, a, dx, fs, ex, ea, l, q⟩ => ?_) ht
  subst ex
  obtain rfl : u = Value.ref a := rx
  refine getmeth_ok I1 ea c hm l ?_
  exact PySem.W.callWith_K0 (first := [.ref a]) I1.kIn hm.kp (run_fn (us := [.ref a]) (vs := [.ref a]) F hr hb hd hx I1 (.cons rfl .nil) q)

/-- what a class must have to be made -/
structure Mk (K : PySem.W.Frag) (C f : Addr) : Prop where
  makes : PySem.W.makesIn K C = true
  init : PySem.W.findIn K (.ref C) "__init__" = some (some (.ref f))
  fn : PySem.W.isFn K (.ref f) = true
  kp : PySem.W.keepIn K (.ref C) = true

theorem run_make {pins : List (Addr × Obj)} {σ : St} {H : Hp} {s : Shared} {Q : VK} {us : List Value} {vs : List V} (M : Mk X.K C f) (F : FnOk X.prog X.w X.K X.mg X.base CX k f fd ps sp) (hr : Room (k + 1) X.A) (hb : Binds X.K fd ps ds) (hd : Vals dvs ds)
    (hx : Passes CX X E) (I : Inv X pins σ H s) (r : Vals vs us)
    (h : ∀ x dx, H x = none → H dx = none → dx ≠ x → sp (.ref x :: (vs ++ dvs)) (upd (upd H dx (.own x)) x (.ins C dx [])) (fun v H2 => v = .non ∧ Q (.ref x) H2) E) :
    wpAny (model X.prog X.w) X.A (call (.ref C) us) (EP X pins σ Q) X.xe s := by
  have hq := h (s.heap.objs.size + 1) s.heap.objs.size (I.hok.fresh (Nat.le_succ _)) (I.hok.fresh (Nat.le_refl _)) (Nat.ne_of_lt (Nat.lt_succ_self _))
  have I2 := Inv.made (C := C) I
  have r2 : Vals (V.ref (s.heap.objs.size + 1) :: (vs ++ dvs)) (Value.ref (s.heap.objs.size + 1) :: (us ++ ds)) := .cons rfl (r.append hd)
  have hl : (Value.ref (s.heap.objs.size + 1) :: us ++ ds).length = ps.length := by
    have e := r2.length
    rw [F.len _ _ _ _ hq] at e
    exact e.symm
  refine wpAny_call (make_map (f := f) I.kIn M.makes M.init (beq_iff_eq.mp M.fn) (codeAny_mono (F.run _ X.stack _ _ ⟨Value.ref (s.heap.objs.size + 1) :: us, []⟩ (Value.ref (s.heap.objs.size + 1) :: (us ++ ds)) _ _ E (hr.make C us [])
    (I2.env0.make C us []) (hb _ (Value.ref (s.heap.objs.size + 1) :: us) I2.kIn hl) r2 hq) fun r s' hq' => ?_))
  cases r with
  | error e => exact hx pins σ _ _ e s' I2 hq'
  | ok fl =>
    cases fl with
    | ret u =>
      obtain ⟨v, H', I3, rv, ev, q3⟩ := I2.after hq'
      subst ev
      exact ⟨rv, ⟨V.ref (s.heap.objs.size + 1), H', I3, rfl, q3⟩⟩
    | next => exact False.elim hq'
    | brk => exact False.elim hq'
    | cont => exact False.elim hq'
theorem pe_make (M : Mk X.K C f) (F : FnOk X.prog X.w X.K X.mg X.base CX k f fd ps sp) (hr : Room (k + 1) X.A) (hg : Gl X x) (hm : X.mg x = some (.ref C)) (hb : Binds X.K fd ps ds) (hd : Vals dvs ds) (hx : Passes CX X E)
    (ha : PA X (e :: es) t) (hdb : (x == ("__debug__" : Str)) = false := by decide) (he : starEach (e :: es) X.env = (false, eval e X.env) :: starEach es X.env := by rfl) (hpl : (backTo pos (starEach es X.env)).any (·.1) = false := by rfl) :
    PE X (.Call (.Name x p) (e :: es) [] pos) (tMake C sp dvs E t) := by
  intro pins s σ H Q I h
  refine wpAny_Call_Name_kw (ld_glob I hg hm ?_ hdb)
  refine PySem.W.callWith_K (h₀ := X.base) I.ok.mod.kin M.kp (thn (ha pos pins s σ H _ I h) fun us s1 ⟨vs, H1, I1, r, q⟩ => ⟨I1.kIn, ?_⟩) he hpl
  exact run_make M F hr hb hd hx I1 r q
theorem pe_make0 (M : Mk X.K C f) (F : FnOk X.prog X.w X.K X.mg X.base CX k f fd ps sp) (hr : Room (k + 1) X.A) (hg : Gl X x) (hm : X.mg x = some (.ref C)) (hb : Binds X.K fd ps ds) (hd : Vals dvs ds) (hx : Passes CX X E)
    (hdb : (x == ("__debug__" : Str)) = false := by decide) : PE X (.Call (.Name x p) [] [] pos) (tMake C sp dvs E tNil) := by
  intro pins s σ H Q I h
  refine wpAny_Call_Name_kw (ld_glob I hg hm ?_ hdb)
  exact PySem.W.callWith_K0 I.kIn M.kp (run_make (us := []) M F hr hb hd hx I .nil h)
end

/-! ### keywords -/
/-- the values of the keywords, from the left -/
def PK (X : Cx) (kws : List Keyword) (t : TA) : Prop :=
  ∀ (pos : Pos) (pins : List (Addr × Obj)) (s : Shared) (σ : St) (H : Hp) (Q : List V → Hp → Prop), Inv X pins σ H s → t σ H Q → wpAny (model X.prog X.w) X.A (evalAll ((backToKw pos (keywordEach kws X.env)).map (·.2))) (AP X pins σ Q) X.xe s
section
variable {X : Cx} {CX : CXT} {k : Nat} {f C : Addr} {fd : FuncData} {ps ks : List Str} {sp : Sp} {E : XK} {x m : Str} {p pos apos kpos : Pos} {e o : Expr} {es : List Expr} {kws : List Keyword} {te ta : TE} {t tk : TA} {nm : Option Str}
theorem pk_nil : PK X [] tNil := fun _ _ _ _ H Q I h => wpAny_evalAll_nil ⟨[], H, I, .nil, h⟩
theorem pk_cons (ha : PE X e te) (hr : PK X kws t) : PK X (⟨nm, e, kpos⟩ :: kws) (tCons te t) := by
  intro pos pins s σ H Q I h
  show wpAny _ _ (evalAll ((do let v ← eval e X.env; standAt pos; pure v) :: (backToKw pos (keywordEach kws X.env)).map (·.2))) _ _ s
  refine wpAny_evalAll_cons (wpAny_bind (thn (ha pins s σ H _ I h) fun u s1 ⟨x, H1, I1, r1, q1⟩ => wpAny_bind (wpAny_standAt (wpAny_pure ?_))))
  exact thn (hr pos pins s1 σ H1 _ I1 q1) fun us s2 ⟨xs, H2, I2, r2, q2⟩ => ⟨x :: xs, H2, I2, .cons r1 r2, q2⟩

/-- how a call with keywords binds: g puts the positional values us and the keywords' values ws (names ks) in the parameters' order, defaults among them -/
structure KBinds (K : PySem.W.Frag) (fd : FuncData) (ps ks : List Str) (g : List Value → List Value → List Value) (gV : List V → List V → List V) : Prop where
  to : ∀ (s : Shared) (us ws : List Value), K.In s.heap → (g us ws).length = ps.length → BindsTo s fd ⟨us, ks.zip ws⟩ (ps.zip (g us ws))
  rel : ∀ {vs : List V} {us : List Value} {zs : List V} {ws : List Value}, Vals vs us → Vals zs ws → Vals (gV vs zs) (g us ws)
def tCallK (sp : Sp) (gV : List V → List V → List V) (E : XK) (t tk : TA) : TE := fun σ H Q => t σ H fun vs H1 => tk σ H1 fun zs H2 => sp (gV vs zs) H2 Q E
variable {g : List Value → List Value → List Value} {gV : List V → List V → List V}
theorem run_fnk {pins : List (Addr × Obj)} {σ : St} {H : Hp} {s : Shared} {Q : VK} {us ws : List Value} {vs zs : List V} (F : FnOk X.prog X.w X.K X.mg X.base CX k f fd ps sp) (hr : Room k X.A) (hb : KBinds X.K fd ps ks g gV) (hx : Passes CX X E)
    (I : Inv X pins σ H s) (r : Vals vs us) (rz : Vals zs ws) (h : sp (gV vs zs) H Q E) : wpAny (model X.prog X.w) X.A (call (.ref f) us (ks.zip ws)) (EP X pins σ Q) X.xe s := by
  have r2 := hb.rel r rz
  have hl : (g us ws).length = ps.length := by rw [← r2.length]; exact F.len _ _ _ _ h
  refine wpAny_call (codeAny_mono (F.run X.A X.stack s H ⟨us, ks.zip ws⟩ (g us ws) (gV vs zs) Q E hr I.env0 (hb.to s us ws I.kIn hl) r2 h) fun r s' hq => ?_)
  cases r with
  | error e => exact hx pins σ H s e s' I hq
  | ok fl =>
    cases fl with
    | ret u => exact I.after hq
    | next => exact False.elim hq
    | brk => exact False.elim hq
    | cont => exact False.elim hq
/-- f(e, .., k = v, ..) -/
theorem pe_callK (F : FnOk X.prog X.w X.K X.mg X.base CX k f fd ps sp) (hr : Room k X.A) (hg : Gl X x) (hm : X.mg x = some (.ref f)) (hk : PySem.W.keepIn X.K (.ref f) = true) (hb : KBinds X.K fd ps ks g gV) (hx : Passes CX X E)
    (ha : PA X (e :: es) t) (hkw : PK X kws tk) (hall : (backToKw pos (keywordEach kws X.env)).all (·.1.isSome) = true := by rfl) (hks : (backToKw pos (keywordEach kws X.env)).filterMap (·.1) = ks := by rfl)
    (hdb : (x == ("__debug__" : Str)) = false := by decide) (he : starEach (e :: es) X.env = (false, eval e X.env) :: starEach es X.env := by rfl)
    (hpl : ((backTo pos (starEach (e :: es) X.env)).any (·.1) || (backToKw pos (keywordEach kws X.env)).any (·.1.isNone)) = false := by rfl) :
    PE X (.Call (.Name x p) (e :: es) kws pos) (tCallK sp gV E t tk) := by
  intro pins s σ H Q I h
  refine wpAny_Call_Name_kw (ld_glob I hg hm ?_ hdb)
  refine PySem.W.callWith_KW (h₀ := X.base) I.ok.mod.kin hk hall (thn (ha pos pins s σ H _ I h) fun us s1 ⟨vs, H1, I1, r, q⟩ => ?_) hpl he
  refine thn (hkw pos pins s1 σ H1 _ I1 q) fun ws s2 ⟨zs, H2, I2, rz, q2⟩ => ⟨I2.kIn, ?_⟩
  rw [hks]
  exact run_fnk F hr hb hx I2 r rz q2
end

/-! ### a def's body keeps its promise -/
/-- names: the parameters first -/
structure FnScope (N P : List Str) (sc : Scope) : Prop where
  kind : sc.kind = .function
  co : sc.isCoroutine = false
  gen : sc.isGenerator = false
  nd : N.Nodup
  pre : N.take P.length = P
  par : ∀ x ∈ P, sc.names.lookup x = some .local ∨ sc.names.lookup x = some .cell
  nofree : ∀ y ∈ sc.names, y.2 ≠ .free

theorem bindL_out {kindOf : Str → Option NameKind} {x : Str} : ∀ {binds : List (Str × Value)} {m : Str → Option Value}, (∀ v, (x, v) ∉ binds) → bindL kindOf binds m x = m x
  | [], _, _ => rfl
  | (n, v) :: r, m, h => by
    unfold bindL
    rw [bindL_out fun w hw => h w (List.mem_cons_of_mem _ hw)]
    split
    · have : x ≠ n := by rintro rfl; exact h v List.mem_cons_self
      simp [this]
    · rfl
theorem bindC_out {kindOf : Str → Option NameKind} {x : Str} : ∀ {binds : List (Str × Value)} {m : Str → Option Value}, (∀ v, (x, v) ∉ binds) → bindC kindOf binds m x = m x
  | [], _, _ => rfl
  | (n, v) :: r, m, h => by
    unfold bindC
    rw [bindC_out fun w hw => h w (List.mem_cons_of_mem _ hw)]
    split
    · rfl
    · have : x ≠ n := by rintro rfl; exact h v List.mem_cons_self
      simp [this]
theorem bindL_get {kindOf : Str → Option NameKind} {x : Str} {v : Value} : ∀ {P : List Str} {vs : List Value} {i : Nat} {m : Str → Option Value}, P.Nodup → P[i]? = some x → vs[i]? = some v → kindOf x = some .local →
    bindL kindOf (P.zip vs) m x = some v
  | [], _, _, _, _, h, _, _ => by simp at h
  | _ :: _, [], _, _, _, _, h, _ => by simp at h
  | p :: P, w :: vs, 0, m, nd, h1, h2, hk => by
    simp at h1 h2; subst h1; subst h2
    show bindL kindOf ((p, w) :: P.zip vs) m p = _
    unfold bindL
    rw [bindL_out fun v hv => (List.nodup_cons.mp nd).1 (List.of_mem_zip hv).1, if_pos hk]
    simp
  | p :: P, w :: vs, i + 1, m, nd, h1, h2, hk => by
    show bindL kindOf ((p, w) :: P.zip vs) m x = _
    unfold bindL
    exact bindL_get (i := i) (List.nodup_cons.mp nd).2 (by simpa using h1) (by simpa using h2) hk
theorem bindC_get {kindOf : Str → Option NameKind} {x : Str} {v : Value} : ∀ {P : List Str} {vs : List Value} {i : Nat} {m : Str → Option Value}, P.Nodup → P[i]? = some x → vs[i]? = some v → kindOf x ≠ some .local →
    bindC kindOf (P.zip vs) m x = some v
  | [], _, _, _, _, h, _, _ => by simp at h
  | _ :: _, [], _, _, _, _, h, _ => by simp at h
  | p :: P, w :: vs, 0, m, nd, h1, h2, hk => by
    simp at h1 h2; subst h1; subst h2
    show bindC kindOf ((p, w) :: P.zip vs) m p = _
    unfold bindC
    rw [bindC_out fun v hv => (List.nodup_cons.mp nd).1 (List.of_mem_zip hv).1, if_neg hk]
    simp
  | p :: P, w :: vs, i + 1, m, nd, h1, h2, hk => by
    show bindC kindOf ((p, w) :: P.zip vs) m x = _
    unfold bindC
    exact bindC_get (i := i) (List.nodup_cons.mp nd).2 (by simpa using h1) (by simpa using h2) hk

/-- the names' values at the entry -/
def start (N : List Str) (vs : List V) : St := vs.map some ++ List.replicate (N.length - vs.length) none

/-- the context of a def's body, at its entry; an exception leaves the frame, then lies as CX says -/
def cxOf (CX : CXT) (P : Program) (w : World) (K : PySem.W.Frag) (mg : Str → Option Value) (base : Heap) (N : List Str) (qual : Str) (scope : Scope) (f : Addr) (cd : Value) (A : Around) (outer : List Env) (s : Shared) (H : Hp) (E : XK) : Cx where
  prog := P
  w := w
  K := K
  mg := mg
  base := base
  A := A.deeper (envOfC qual scope s.heap.objs.size f cd)
  N := N
  s₀ := s
  H₀ := H
  env := envOfC qual scope s.heap.objs.size f cd
  outer := outer
  stack := envOfC qual scope s.heap.objs.size f cd :: outer
  ex := []
  calm := true
  fn := fun _ => true
  pn := []
  xe := fun e s' => wpAny (model P w) (A.deeper (envOfC qual scope s.heap.objs.size f cd)) (leaving (envOfC qual scope s.heap.objs.size f cd) e) (fun _ s'' => CX outer H s E e s'') (fun e' s'' => CX outer H s E e' s'') s'

theorem cell_has {sc : Scope} {n : Nat} {x : Str} (h : sc.names.lookup x = some .cell) : ∃ c, (cellsFrom n sc.names []).lookup x = some c := by
  have q := PySem.W.cellsFrom_some sc.names n [] (.inl h)
  exact Option.isSome_iff_exists.mp q

theorem inv_start {CX : CXT} {P : Program} {w : World} {K : PySem.W.Frag} {mg : Str → Option Value} {base : Heap} {N ps : List Str} {qual : Str} {scope : Scope} {f : Addr} {cd : Value} {A : Around} {outer : List Env} {s s1 : Shared} {H : Hp} {E : XK} {us : List Value} {vs : List V}
    (S : FnScope N ps scope) (hd : A.handled = none) (e0 : Env0 P w K mg base A outer s H) (hl : vs.length = ps.length) (r : Vals vs us)
    (x : InCallC s s.heap.objs.size (bindL (envOfC qual scope s.heap.objs.size f cd).kindOf (ps.zip us) fun _ => none) (cellsFrom (s.heap.objs.size + 1) scope.names []) (bindC (envOfC qual scope s.heap.objs.size f cd).kindOf (ps.zip us) fun _ => none) s1) :
    Inv (cxOf CX P w K mg base N qual scope f cd A outer s H E) [] (start N vs) H s1 := by
  have hpl : ps.length ≤ N.length := by have := congrArg List.length S.pre; rw [List.length_take] at this; omega
  obtain ⟨h1, tk, rfl, hk⟩ := x.done
  have noA : ∀ b : Addr, b ∉ (cxOf CX P w K mg base N qual scope f cd A outer s H E).ex := fun b z => absurd (show b ∈ ([] : List Addr) from z) (by simp)
  refine ⟨⟨e0.mod, S.kind, rfl, rfl, Nat.le_refl _, fun y z c h1 h2 => ?_, fun y hy => ?_, fun y c _ h => ?_, fun _ => hd, Around.frames_deeper e0.frames, .inr ⟨rfl, rfl⟩, fun b z => absurd z (noA b), e0.bs, e0.bsz, fun b _ _ => noA b, fun b z => absurd z (noA b), e0.funs, e0.frf⟩,
    rfl, e0.bare, Un.kept hk, ⟨_, x.toInCall.ns, fun i y v h1 h2 h3 => ?_⟩, fun y c h => ⟨_, x.cell y c h⟩, e0.hok.fresh (Nat.le_refl _), fun y c h => ?_, fun p hp => absurd (show p ∈ ([] : List (Addr × Obj)) from hp) (by simp), e0.hok.kept hk, ?_⟩
  · exact name_of_addr x.apart (PySem.mem_of_lookup h1) (PySem.mem_of_lookup h2)
  · have hy : scope.names.lookup y = some .cell ∨ scope.names.lookup y = some .free := hy
    rcases hy with hy | hy
    · exact cell_has hy
    · exact absurd rfl (S.nofree _ (PySem.mem_of_lookup hy))
  · exact Nat.le_of_lt (x.above y c (PySem.mem_of_lookup h))
  · have hi : i < vs.length := by
      unfold start at h2
      by_cases hi : i < vs.length
      · exact hi
      · rw [List.getElem?_append_right (by simpa using hi)] at h2
        rw [List.getElem?_replicate] at h2
        split at h2 <;> cases h2
    have ha : vs[i]? = some v := by
      unfold start at h2
      rw [List.getElem?_append_left (by simpa using hi), List.getElem?_map] at h2
      cases e : vs[i]? with
      | none => rw [e] at h2; cases h2
      | some a => rw [e] at h2; cases h2; rfl
    obtain ⟨u, hu, rv⟩ := r.get ha
    have hp : ps[i]? = some y := by
      rw [← S.pre, List.getElem?_take_of_lt (by omega)]; exact h1
    have ndP : ps.Nodup := by rw [← S.pre]; exact S.nd.sublist (List.take_sublist _ _)
    refine ⟨u, rv, ?_⟩
    rcases S.par y (List.mem_of_getElem? hp) with k | k
    · exact .inl ⟨k, bindL_get ndP hp hu k⟩
    · obtain ⟨c, e⟩ := cell_has (n := s.heap.objs.size + 1) k
      refine .inr ⟨.inl k, c, e, ?_⟩
      have q := x.cell y c e
      rw [bindC_get ndP hp hu (by show scope.names.lookup y ≠ _; rw [k]; decide)] at q
      exact q
  · exact e0.hok.fresh (Nat.le_of_lt (x.above y c (PySem.mem_of_lookup h)))
  · unfold start
    show _ = N.length
    rw [List.length_append, List.length_map, List.length_replicate]
    omega

/-- THE RULE: a def (or a method) of the text, by its body. The body's reading t is chosen for each entry; it is run at the parameters' values -/
theorem fn_of {CX : CXT} {P : Program} {w : World} {K : PySem.W.Frag} {mg : Str → Option Value} {base : Heap} {k : Nat} {f : Addr} {name qual : Str} {params : Arguments} {body : List Stmt} {scope : Scope} {dV kV doc pm cdv ct oc : Value} {an od : Option Addr}
    {osl : Array (Option Value)} {N ps : List Str} {sp : Sp} (lk : K.lookup f = some ⟨oc, od, .func (PySem.W.fnOf name qual params body scope dV kV doc pm an cdv ct), osl⟩) (hcd : PySem.W.codeIn K cdv qual = true) (S : FnScope N ps scope)
    (len : ∀ vs H Q E, sp vs H Q E → vs.length = ps.length)
    (hbody : ∀ (A : Around) (outer : List Env) (s : Shared) (H : Hp) (vs : List V) (Q : VK) (E : XK), Room k (A.deeper (envOfC qual scope s.heap.objs.size f cdv)) → sp vs H Q E →
      ∃ t, PSs (cxOf CX P w K mg base N qual scope f cdv A outer s H E) body t ∧ t { nx := fun _ H' => Q .non H', rt := Q } (start N vs) H) :
    FnOk P w K mg base CX (k + 1) f (PySem.W.fnOf name qual params body scope dV kV doc pm an cdv ct) ps sp := by
  refine ⟨len, fun A outer s H args us vs Q E hr e0 hb r hsp => ?_⟩
  have hl := len _ _ _ _ hsp
  have KX : K.In s.heap := e0.mod.kin.keeps fun b o e => (e0.bs b o e).1
  have lim : s.heap.NoLimit := e0.mod.nolimit.keeps fun b o e => (e0.bs b o e).1
  have hkind : ∀ y ∈ ps.zip us, scope.names.lookup y.1 = some .local ∨ (scope.names.lookup y.1 = some .cell ∧ ((cellsFrom (s.heap.objs.size + 1) scope.names []).lookup y.1).isSome = true) := fun ⟨n, v⟩ hy => by
    rcases S.par n (List.of_mem_zip hy).1 with q | q
    · exact .inl q
    · exact .inr ⟨q, PySem.W.cellsFrom_some _ _ _ (.inl q)⟩
  refine codeAny_call_function hr.depth (KX _ _ lk) rfl S.co S.gen rfl (PySem.W.codeRec_of KX hcd) (hb _ _ _ _ ?_)
  refine wpAny_newFunctionEnv_cells S.kind hkind fun env he s1 x => ?_
  subst he
  refine ⟨lim.keeps x.toInCall.keep, codeAny_func ?_⟩
  obtain ⟨t, ht, hq⟩ := hbody A outer s H vs Q E (hr.deeper _) hsp
  have I : Inv (cxOf CX P w K mg base N qual scope f cdv A outer s H E) [] (start N vs) H s1 := inv_start S hr.hd e0 hl r x
  refine wpAny_mono (ht [] s1 (start N vs) H _ I hq) (fun fl s' hs => ?_) fun e s' hs => hs
  have fin : ∀ {σ' : St} {H' : Hp} {v : V} {u : Value}, Inv (cxOf CX P w K mg base N qual scope f cdv A outer s H E) [] σ' H' s' → RelV v u → Q v H' → CE outer P w H s Q u s' :=
    fun {σ' H' v u} J rv q => ⟨v, H', J.os, J.bare, J.base, J.hok, rv, q⟩
  cases fl with
  | ret u =>
    obtain ⟨v, σ', H', J, rv, q⟩ := hs
    exact fin J rv q
  | next =>
    obtain ⟨σ', H', J, q⟩ := hs
    exact fin (v := V.non) (u := Value.none) J rfl q
  | brk =>
    obtain ⟨_, _, _, q⟩ := hs
    exact False.elim q
  | cont =>
    obtain ⟨_, _, _, q⟩ := hs
    exact False.elim q
end L2

namespace L2
open PySem PySem.Spec PyProof.Rows
section
variable {X : Cx} {x : Str} {p pos : Pos} {e : Expr} {es : List Expr} {t : TA} {id T : String} {r : List V → Hp → VK → Prop}

def tCB (r : List V → Hp → VK → Prop) (t : TA) : TE := fun σ H Q => t σ H fun vs H1 => r vs H1 Q
/-- f(e, ..), f a built-in function -/
theorem pe_callB (hc : CallR X (.builtin id) r) (hg : Gl X x) (hm : X.mg x = none) (hv : bootBuiltins x = some (.builtin id)) (ha : PA X (e :: es) t) (hn : x ≠ "__name__" := by decide) (hdb : (x == ("__debug__" : Str)) = false := by decide)
    (he : starEach (e :: es) X.env = (false, eval e X.env) :: starEach es X.env := by rfl) (hpl : (backTo pos (starEach es X.env)).any (·.1) = false := by rfl) : PE X (.Call (.Name x p) (e :: es) [] pos) (tCB r t) := by
  intro pins s σ H Q I h
  refine wpAny_Call_Name_kw (ld_blt I hg hm hv ?_ hn hdb)
  exact PyProof.Rows.callWith_builtin1 (thn (ha pos pins s σ H _ I h) fun us s1 ⟨vs, H1, I1, r1, q1⟩ => hc pins s1 σ H1 vs us Q I1 r1 q1) he hpl
/-- T(e, ..), T a built-in type -/
theorem pe_callTy (hc : CallR X (.type T) r) (hg : Gl X x) (hm : X.mg x = none) (hv : bootBuiltins x = some (.type T)) (ha : PA X (e :: es) t) (hn : x ≠ "__name__" := by decide) (hdb : (x == ("__debug__" : Str)) = false := by decide)
    (he : starEach (e :: es) X.env = (false, eval e X.env) :: starEach es X.env := by rfl) (hpl : (backTo pos (starEach es X.env)).any (·.1) = false := by rfl) : PE X (.Call (.Name x p) (e :: es) [] pos) (tCB r t) := by
  intro pins s σ H Q I h
  refine wpAny_Call_Name_kw (ld_blt I hg hm hv ?_ hn hdb)
  exact PyProof.Rows.callWith_type1 (thn (ha pos pins s σ H _ I h) fun us s1 ⟨vs, H1, I1, r1, q1⟩ => hc pins s1 σ H1 vs us Q I1 r1 q1) he hpl
/-- T() -/
theorem pe_callTy0 (hc : CallR X (.type T) r) (hg : Gl X x) (hm : X.mg x = none) (hv : bootBuiltins x = some (.type T)) (hn : x ≠ "__name__" := by decide) (hdb : (x == ("__debug__" : Str)) = false := by decide) :
    PE X (.Call (.Name x p) [] [] pos) (tCB r tNil) := by
  intro pins s σ H Q I h
  refine wpAny_Call_Name_kw (ld_blt I hg hm hv ?_ hn hdb)
  exact PyProof.Rows.callWith_type0 (hc pins s σ H [] [] Q I .nil h)
end
end L2

namespace HT
open PySem PyProof.Rows

/-- t < u of tuples of ints -/
def lexLt : List Int → List Int → Bool
  | [], [] => false
  | [], _ :: _ => true
  | _ :: _, [] => false
  | x :: xs, y :: ys => if x = y then lexLt xs ys else decide (x < y)
theorem lexLt_cons (x y : Int) (xs ys : List Int) : lexLt (x :: xs) (y :: ys) = if x = y then lexLt xs ys else decide (x < y) := rfl
theorem lexLt_nil_nil : lexLt [] [] = false := rfl
theorem lexLt_nil_cons (y : Int) (ys : List Int) : lexLt [] (y :: ys) = true := rfl
theorem lexLt_cons_nil (x : Int) (xs : List Int) : lexLt (x :: xs) [] = false := rfl

theorem eqAt_int (A : Around) (s : Shared) (a : Int) (t : Tok) (c : Int) (u : Tok) : ∃ e, SeqAt.EqAt A s (.int a t) (.int c u) e ∧ (e = true ↔ a = c) :=
  ⟨(a == c), SeqAt.EqAt.int_int a t c u, by simp⟩
theorem rcLt_int (A : Around) (s : Shared) (a : Int) (t : Tok) (c : Int) (u : Tok) (prog : Program) (w : World) (E : Value → Shared → Prop) (Q : Value → Shared → Prop) (h : Q (.bool (decide (a < c))) s) :
    wpAny (model prog w) A (richCompare .Lt (.int a t) (.int c u)) Q E s :=
  (PyProof.Rows.lt_int h : wpAny (model prog w) A (compareOp .Lt (.int a t) (.int c u)) Q E s)

section
open PySem.SeqAt
open PySem.AutoSeq1 (wpAny_loadPart')
open PySem.MeetsSeq PySem.MeetsSeq2 PySem.MeetsSeq3

theorem tuple_lt_ints (l b : Addr) (items items2 : Array Value) (n n2 : Nat) (dd dd2 : Option Addr) (sl sl2 : Array (Option Value)) (ns ms : List Int) (hi : IntsAre items.toList ns) (hj : IntsAre items2.toList ms) :
    Meets (Builtin.«tuple.__lt__» ⟨[.ref l, .ref b], []⟩)
      (fun _ R s => s.heap.get? l = some { cls := .type "tuple", dict := dd, data := .seq items n, slots := sl } ∧ s.heap.get? b = some { cls := .type "tuple", dict := dd2, data := .seq items2 n2, slots := sl2 } ∧
        R (.ok (.ret (.bool (lexLt ns ms)))) s) :=
  .of_wp fun prog w A R s h => by
    obtain ⟨hp, g, d, tk, os⟩ := s; obtain ⟨hl, hb, h⟩ := h
    have f2 := AutoSeq1.sub_tuple_tuple
    have z1 : items.size = ns.length := by rw [← hi.length]; simp
    have z2 : items2.size = ms.length := by rw [← hj.length]; simp
    wp_walk using wpAny_loadPart' hl, wpAny_loadPart' hb, wpAny_forIn_list _ (fun rest b s' => b.1 = none ∧ s' = ⟨hp, g, d, tk, os⟩ ∧ ∃ (vs ws : List Value) (ns' ms' : List Int), rest = vs.zip ws ∧
      IntsAre vs ns' ∧ IntsAre ws ms' ∧ ns'.length + items2.size = ms'.length + items.size ∧ R (.ok (.ret (.bool (lexLt ns' ms')))) ⟨hp, g, d, tk, os⟩) _
    case turn =>
      rintro ⟨y, x⟩ rest b s' ⟨hb', rfl, vs, ws, ns', ms', hz, hvi, hwi, hlen, hR⟩
      cases hvi with
      | nil => rw [List.zip_nil_left] at hz; cases hz
      | cons a t hvi' =>
        cases hwi with
        | nil => rw [List.zip_nil_right] at hz; cases hz
        | cons c u hwi' =>
          rw [List.zip_cons_cons] at hz
          injection hz with hyx hrest
          injection hyx with hy hx
          subst hy hx
          rw [lexLt_cons] at hR
          simp only [List.length_cons] at hlen
          obtain ⟨e, he, hiff⟩ := eqAt_int A.in1 ⟨hp, g, d, tk, os⟩ a t c u
          refine wpAny_bind (he prog w _ _ ?_)
          cases e with
          | true =>
            rw [if_pos (hiff.mp rfl)] at hR
            wp_walk
            exact ⟨rfl, rfl, _, _, _, _, hrest, hvi', hwi', by omega, hR⟩
          | false =>
            rw [if_neg (fun q => absurd (hiff.mpr q) Bool.false_ne_true)] at hR
            have hri := rcLt_int A.in1 ⟨hp, g, d, tk, os⟩ a t c u prog w
            wp_walk using hri
            exact ⟨_, rfl, by simpa using hR⟩
    case fin =>
      rintro ⟨b1, b2⟩ s' ⟨hb', rfl, vs, ws, ns', ms', hz, hvi, hwi, hlen, hR⟩
      simp only at hb'
      subst hb'
      have hv : lexLt ns' ms' = decide (items.size < items2.size) := by
        cases hvi with
        | nil =>
          cases hwi with
          | nil =>
            simp only [List.length_nil] at hlen
            rw [lexLt_nil_nil]
            exact (decide_eq_false (by omega)).symm
          | cons c u hw =>
            simp only [List.length_nil, List.length_cons] at hlen
            rw [lexLt_nil_cons]
            exact (decide_eq_true (by omega)).symm
        | cons a t hv =>
          cases hwi with
          | nil =>
            simp only [List.length_nil, List.length_cons] at hlen
            rw [lexLt_cons_nil]
            exact (decide_eq_false (by omega)).symm
          | cons c u hw =>
            rw [List.zip_cons_cons] at hz
            cases hz
      rw [hv] at hR
      wp_walk
      exact ⟨_, rfl, by simpa [Builtin.Tuple.tupleCompareSizes] using hR⟩
    case h =>
      exact ⟨rfl, rfl, items.toList, items2.toList, ns, ms, rfl, hi, hj, by omega, h⟩
end

section
variable {prog : Program} {w : World} {A : Around} {E : Value → Shared → Prop} {s : Shared}

theorem lt_tupInts {l b : Addr} {items items2 : Array Value} {ns ms : List Int} {Q : Value → Shared → Prop} (hl : IsTup s.heap l items) (hb : IsTup s.heap b items2) (hi : IntsAre items.toList ns) (hj : IntsAre items2.toList ms)
    (hu : A.units < cLine) (h : Q (.bool (lexLt ns ms)) s) : wpAny (model prog w) A (compareOp .Lt (.ref l) (.ref b)) Q E s := by
  obtain ⟨⟨cls, dd, data, sl⟩, ho, hc, n, hd⟩ := id hl
  obtain ⟨⟨cls2, dd2, data2, sl2⟩, ho2, hc2, n2, hd2⟩ := id hb
  simp only at hc hd hc2 hd2
  subst hc hd hc2 hd2
  exact richCompare_meets_room (op := .Lt) ⟨_, ho, rfl⟩ ⟨_, ho2, rfl⟩ PySem.F.slot_tuple_lt PySem.F.entry_tuple_lt (PySem.F.args_tuple_lt_2 _ _) (tuple_lt_ints l b items items2 n n2 dd dd2 sl sl2 ns ms hi hj)
    ⟨ho, ho2, show Value.bool (lexLt ns ms) ≠ Value.notImplemented ∧ Q (.bool (lexLt ns ms)) s from ⟨(fun x => nomatch x), h⟩⟩ hu

/-- t + u, t not empty -/
theorem cat_tup {t b : Addr} {vs ws : List Value} {Q : Value → Shared → Prop} (ht : IsTup s.heap t vs.toArray) (hb : IsTup s.heap b ws.toArray) (hv : vs ≠ [])
    (h1 : ws = [] → Q (.ref t) s) (h2 : ws ≠ [] → Q (.ref s.heap.objs.size) { s with heap := s.heap.push { cls := .type "tuple", data := .seq (vs ++ ws).toArray } })
    (hsz : vs.length + ws.length ≤ sizeLine) : wpAny (model prog w) A (binaryOp .Add (.ref t) (.ref b)) Q E s := by
  obtain ⟨⟨cls, dd, data, sl⟩, ho, hc, n, hd⟩ := id ht
  obtain ⟨⟨cls2, dd2, data2, sl2⟩, ho2, hc2, n2, hd2⟩ := id hb
  simp only at hc hd hc2 hd2
  subst hc hd hc2 hd2
  have e : vs.toArray ++ ws.toArray = (vs ++ ws).toArray := by simp
  by_cases hw : ws = []
  · exact concat_meets ⟨_, ho, rfl⟩ ⟨_, ho2, rfl⟩ noFill_tuple_add seq_tuple_add PySem.F.slot_tuple_add PySem.F.entry_tuple_add (PySem.F.args_tuple_add_2 _ _)
      (tuple_addW1 t b vs.toArray ws.toArray n n2 dd dd2 sl sl2 (by simpa using hv) (by simp [hw])) ⟨ho, ho2, h1 hw⟩
  · refine concat_meets ⟨_, ho, rfl⟩ ⟨_, ho2, rfl⟩ noFill_tuple_add seq_tuple_add PySem.F.slot_tuple_add PySem.F.entry_tuple_add (PySem.F.args_tuple_add_2 _ _)
      (tuple_addW2 t b vs.toArray ws.toArray n n2 dd dd2 sl sl2 (by simpa using hv) (by simpa using hw) (by rw [List.size_toArray, List.size_toArray]; exact hsz)) ⟨ho, ho2, ?_⟩
    rw [e]
    exact h2 hw

/-! ### t[a:b], not the whole -/
/-- a slice's bound as a place among n (d where it is left out) -/
def sIx (n d : Nat) : Option Int → Nat
  | none => d
  | some v => if v < 0 then (v + (n : Int)).toNat else min v.toNat n
theorem sIx_none (n d : Nat) : sIx n d none = d := rfl
theorem sIx_nat (n d k : Nat) : sIx n d (some (k : Int)) = min k n := by
  show (if (k : Int) < 0 then ((k : Int) + (n : Int)).toNat else min (k : Int).toNat n) = min k n
  rw [if_neg (by omega), Int.toNat_natCast]
theorem sIx_le (n d : Nat) (hd : d ≤ n) (o : Option Int) : sIx n d o ≤ n := by
  cases o with
  | none => exact hd
  | some v =>
    show (if v < 0 then (v + (n : Int)).toNat else min v.toNat n) ≤ n
    by_cases hv : v < 0
    · rw [if_pos hv]; omega
    · rw [if_neg hv]; exact Nat.min_le_right _ _
theorem clip_eq (v : Int) (n d : Nat) : (if v < 0 then max (v + (n : Int)) 0 else min v (n : Int)) = ((sIx n d (some v) : Nat) : Int) := by
  show (if v < 0 then max (v + (n : Int)) 0 else min v (n : Int)) = (((if v < 0 then (v + (n : Int)).toNat else min v.toNat n) : Nat) : Int)
  by_cases hv : v < 0
  · simp only [if_pos hv]; omega
  · simp only [if_neg hv]; omega
theorem adjust_gen (lo hi : Option Int) (n : Nat) : Builtin.Slice.sliceAdjust lo hi 1 (n : Int) = (((sIx n 0 lo : Nat) : Int), ((sIx n n hi : Nat) : Int)) := by
  have h1 : ¬ ((1 : Int) < 0) := by omega
  unfold Builtin.Slice.sliceAdjust
  simp only [h1, if_false]
  refine Prod.ext ?_ ?_
  · cases lo with
    | none => rfl
    | some v => exact clip_eq v n 0
  · cases hi with
    | none => rfl
    | some v => exact clip_eq v n n
theorem places_gen (i j : Nat) : Builtin.Slice.slicePlaces (i : Int) (j : Int) 1 = j - i := by
  unfold Builtin.Slice.slicePlaces
  have h1 : (1 : Int) > 0 := by omega
  simp only [h1, if_true, Int.ediv_one]
  split <;> omega
theorem slicePart_ {v : Value} {o : Option Int} {Q : Option Int → Shared → Prop} (p : IsPart v o) (h : Q o s) : wpAny (model prog w) A (Builtin.Slice.slicePartIndex v) Q E s := by
  cases p with
  | none => exact slicePart_none h
  | int i t => exact slicePart_int h
theorem sliceApplied_gen {sl : Addr} {vl vu : Value} {lo hi : Option Int} {n : Nat} {Q : Int × Int × Nat → Shared → Prop} (hs : s.heap.IsSliceOf sl vl vu .none) (pl : IsPart vl lo) (pu : IsPart vu hi)
    (h : Q (((sIx n 0 lo : Nat) : Int), 1, sIx n n hi - sIx n 0 lo) s) : wpAny (model prog w) A (Builtin.Slice.sliceApplied (.ref sl) (pure (n : Int))) Q E s := by
  obtain ⟨os, hos, hcs, hds⟩ := id hs
  unfold Builtin.Slice.sliceApplied Builtin.Slice.sliceFields
  refine wpAny_bind (wpAny_bind (wpAny_field hos hds (x := vl) rfl (wpAny_bind (wpAny_field hos hds (x := vu) rfl (wpAny_bind (wpAny_field hos hds (x := .none) rfl (wpAny_pure ?_)))))))
  refine wpAny_bind (slicePart_none ?_)
  show wpAny _ _ (if ((1 : Int) == 0) = true then _ else _) _ _ s
  rw [if_neg (by decide)]
  refine wpAny_bind (slicePart_ pl (wpAny_bind (slicePart_ pu (wpAny_bind (wpAny_pure ?_)))))
  show wpAny _ _ (match Builtin.Slice.sliceAdjust lo hi 1 (n : Int) with | (lo, hi) => pure (lo, (1 : Int), Builtin.Slice.slicePlaces lo hi 1)) _ _ s
  rw [adjust_gen lo hi n]
  show wpAny _ _ (pure (((sIx n 0 lo : Nat) : Int), (1 : Int), Builtin.Slice.slicePlaces ((sIx n 0 lo : Nat) : Int) ((sIx n n hi : Nat) : Int) 1)) _ _ s
  rw [places_gen]
  exact wpAny_pure h
theorem pick_gen (xs : Array Value) (i k : Nat) : ((List.range k).filterMap fun (m : Nat) => xs[((i : Int) + (m : Int) * 1).toNat]?).toArray = ((xs.toList.drop i).take k).toArray := by
  have e : (fun (m : Nat) => xs[((i : Int) + (m : Int) * 1).toNat]?) = fun m => xs[i + m]? := by
    funext m
    have : ((i : Int) + (m : Int) * 1).toNat = i + m := by omega
    rw [this]
  rw [e]
  have := pick_run xs i k
  rw [List.filterMap_map] at this
  have e2 : ((fun x => xs[x]?) ∘ fun x => i + x) = fun m => xs[i + m]? := rfl
  rw [e2] at this
  rw [this]

theorem getItem_tuple_cut {t sl : Addr} {items : Array Value} {vl vu : Value} {lo hi : Option Int} {Q : Value → Shared → Prop} (ht : IsTup s.heap t items) (hs : s.heap.IsSliceOf sl vl vu .none) (pl : IsPart vl lo) (pu : IsPart vu hi)
    (hw : ¬ (sIx items.size 0 lo = 0 ∧ sIx items.size items.size hi = items.size))
    (h : Q (.ref s.heap.objs.size) { s with heap := s.heap.push { cls := .type "tuple", data := .seq ((items.toList.drop (sIx items.size 0 lo)).take (sIx items.size items.size hi - sIx items.size 0 lo)).toArray } })
    (hsz : items.size ≤ sizeLine) : wpAny (model prog w) A (getItem (.ref t) (.ref sl)) Q E s := by
  have htake : sizeOk (.seq ((items.toList.drop (sIx items.size 0 lo)).take (sIx items.size items.size hi - sIx items.size 0 lo)).toArray) := by
    show ((items.toList.drop (sIx items.size 0 lo)).take (sIx items.size items.size hi - sIx items.size 0 lo)).toArray.size ≤ sizeLine
    rw [List.size_toArray, List.length_take, List.length_drop, Array.length_toList]
    omega
  have hj : sIx items.size items.size hi ≤ items.size := sIx_le _ _ (Nat.le_refl _) hi
  obtain ⟨os, hos, hcs, hds⟩ := id hs
  have hTs : s.TypeIs (.ref sl) "slice" := ⟨os, hos, hcs⟩
  unfold getItem
  try with_reducible refine wpAny_holding ?_
  first | refine wpAny_bind (wpAny_pure ?_) | skip
  refine wpAny_bind (wpAny_sequenceKey ht.typeIs (by decide) ?_)
  refine wpAny_bind (wpAny_callSpecial?_slot (name := Str.ofString "__getitem__") ht.typeIs PyProof.Rows.slot_tuple_getitem
    (wpAny_call_entry PyProof.Rows.slot_tuple_getitem ht.typeIs entry_tuple_getitem ?_ (args_tuple_getitem _ _)))
  show wpAny _ _ (Builtin.Tuple.tupleItemsOf (.ref t) >>= _) _ _ s
  refine wpAny_bind (tupleItemsOf_ ht ?_)
  refine wpAny_bind (wpAny_typeOf hTs ?_)
  rw [if_pos (by decide)]
  refine wpAny_bind (sliceApplied_gen hs pl pu ?_)
  have hno : ¬ ((((sIx items.size 0 lo : Nat) : Int) == 0 && (1 : Int) == 1 && (sIx items.size items.size hi - sIx items.size 0 lo) == items.size) = true) := by
    intro q
    rw [Bool.and_eq_true, Bool.and_eq_true] at q
    have q1 : ((sIx items.size 0 lo : Nat) : Int) = 0 := eq_of_beq q.1.1
    have q2 : sIx items.size items.size hi - sIx items.size 0 lo = items.size := eq_of_beq q.2
    exact hw ⟨by omega, by omega⟩
  show wpAny _ _ (if (((sIx items.size 0 lo : Nat) : Int) == 0 && (1 : Int) == 1 && (sIx items.size items.size hi - sIx items.size 0 lo) == items.size) = true then _ else _) _ _ s
  rw [if_neg hno, pick_gen]
  first
    | exact wpAny_bind (m := Builtin.Tuple.tupleExact _) (wpAny_newObj_type (wpAny_pure ⟨_, rfl, wpAny_pure h⟩) htake)
    | exact wpAny_bind (m := Builtin.Tuple.tupleExact _) (wpAny_newObj_type (wpAny_bind (wpAny_pure (wpAny_pure ⟨_, rfl, wpAny_pure h⟩))) htake)
    | exact wpAny_bind (wpAny_bind (m := Builtin.Tuple.tupleExact _) (wpAny_newObj_type (wpAny_pure (wpAny_pure ⟨_, rfl, wpAny_pure h⟩)) htake))
    | exact wpAny_bind (wpAny_bind (m := Builtin.Tuple.tupleExact _) (wpAny_newObj_type (wpAny_pure ⟨_, rfl, wpAny_pure h⟩) htake))
end
end HT

namespace L2
open PySem PySem.Spec PyProof.Rows

/-! ### the parts of a slice -/
abbrev TO := St → Hp → (Option Int → Hp → Prop) → Prop
/-- a slice's part (left out, or an int) -/
def PO (X : Cx) (e : Option Expr) (t : TO) : Prop :=
  ∀ (pins : List (Addr × Obj)) (s : Shared) (σ : St) (H : Hp) (Q : Option Int → Hp → Prop), Inv X pins σ H s → t σ H Q →
    wpAny (model X.prog X.w) X.A (evalPart e X.env) (fun u s' => ∃ o H', Inv X pins σ H' s' ∧ IsPart u o ∧ Q o H') X.xe s
def tNoPart : TO := fun _ H Q => Q none H
def tPart (t : TE) : TO := fun σ H Q => t σ H fun x H1 => ∃ i, x = .int i ∧ Q (some i) H1

theorem intsAre_of {ns : List Int} : ∀ {us : List Value}, Vals (ns.map V.int) us → IntsAre us ns := by
  induction ns with
  | nil => intro us r; rw [List.map_nil] at r; cases r; exact .nil
  | cons n ns ih =>
    intro us r
    rw [List.map_cons] at r
    cases r with
    | cons r1 r2 =>
      obtain ⟨t, e⟩ := r1
      subst e
      exact .cons n t (ih r2)

section
variable {X : Cx} {e : Expr} {te : TE} {lo hi : Option Expr} {tl th : TO} {pos p2 : Pos}

theorem po_none : PO X none tNoPart := by
  intro pins s σ H Q I h
  rw [evalPart_none]
  exact wpAny_pure ⟨none, H, I, .none, h⟩
theorem po_some (h : PE X e te) : PO X (some e) (tPart te) := by
  intro pins s σ H Q I hw
  rw [evalPart_some]
  refine thn (h pins s σ H _ I hw) fun u s1 ⟨x, H1, I1, r1, q1⟩ => ?_
  obtain ⟨i, rfl, q⟩ := q1
  obtain ⟨t, rfl⟩ := r1
  exact ⟨some i, H1, I1, .int i t, q⟩

/-- what a slice of a value is, by values: the slice object stands at sl -/
def SlR (X : Cx) (r : V → Option Int → Option Int → Hp → VK → Prop) : Prop :=
  ∀ (pins : List (Addr × Obj)) (s : Shared) (σ : St) (H : Hp) (x : V) (v vl vu : Value) (lo hi : Option Int) (sl : Addr) (Q : VK), Inv X pins σ H s → RelV x v → s.heap.IsSliceOf sl vl vu .none → IsPart vl lo → IsPart vu hi → r x lo hi H Q →
    ∃ T id, typeLookup (.type T) "__getitem__" = pure (some (.builtin id)) ∧ s.TypeIs v T ∧ wpAny (model X.prog X.w) X.A (getItem v (.ref sl)) (EP X pins σ Q) X.xe s
theorem SlR.or {r r' : V → Option Int → Option Int → Hp → VK → Prop} (h : SlR X r) (h' : SlR X r') : SlR X (fun x lo hi H Q => r x lo hi H Q ∨ r' x lo hi H Q) := by
  intro pins s σ H x v vl vu lo hi sl Q I rx hs pl pu q
  rcases q with q | q
  · exact h pins s σ H x v vl vu lo hi sl Q I rx hs pl pu q
  · exact h' pins s σ H x v vl vu lo hi sl Q I rx hs pl pu q
def tSl (r : V → Option Int → Option Int → Hp → VK → Prop) (te : TE) (tl th : TO) : TE := fun σ H Q => te σ H fun x H1 => tl σ H1 fun l H2 => th σ H2 fun u H3 => r x l u H3 Q
/-- a[lo:hi], any a -/
theorem pe_slice {r : V → Option Int → Option Int → Hp → VK → Prop} (hr : SlR X r) (he : PE X e te) (hl : PO X lo tl) (hu : PO X hi th) : PE X (.Subscript e (.Slice lo hi none p2) pos) (tSl r te tl th) := by
  intro pins s σ H Q I h
  refine Subscript_ (thn (he pins s σ H _ I h) fun v s1 ⟨x, H1, I1, r1, q1⟩ => ?_)
  refine wpAny_Slice (thn (hl pins s1 σ H1 _ I1 q1) fun vl s2 ⟨l, H2, I2, pl, q2⟩ => thn (hu pins s2 σ H2 _ I2 q2) fun vu s3 ⟨u, H3, I3, pu, q3⟩ => ?_)
  rw [evalPart_none]
  refine wpAny_pure ?_
  have I4 : Inv X pins σ H3 { s3 with heap := s3.heap.push { cls := .type "slice", data := .fields #[vl, vu, .none] } } := I3.kept (t' := s3.toks) fun b ob q => Heap.get?_push_of_some _ q
  obtain ⟨T, id, hT, ht, hg⟩ := hr pins { s3 with heap := s3.heap.push { cls := .type "slice", data := .fields #[vl, vu, .none] } } σ H3 x v vl vu l u s3.heap.objs.size Q I4 r1 (Heap.IsSliceOf.new ..) pl pu q3
  show wpAny (model X.prog X.w) X.A (subscriptTail e (.Slice lo hi none p2) v (.ref s3.heap.objs.size)) (EP X pins σ Q) X.xe { s3 with heap := s3.heap.push { cls := .type "slice", data := .fields #[vl, vu, .none] } }
  exact tail_any (ops := [.ref s3.heap.objs.size, v]) ht hT hg (by with_unfolding_all rfl)

/-- the items of xs[lo:hi] -/
def cutV (xs : List V) (lo hi : Option Int) : List V := (xs.drop (HT.sIx xs.length 0 lo)).take (HT.sIx xs.length xs.length hi - HT.sIx xs.length 0 lo)
theorem cutV_length (xs : List V) (lo hi : Option Int) : (cutV xs lo hi).length ≤ xs.length := by
  unfold cutV
  rw [List.length_take, List.length_drop]
  omega
/-- t[lo:hi], not the whole of it (the whole would be t itself) -/
def rSlT (K : PySem.W.Frag) : V → Option Int → Option Int → Hp → VK → Prop := fun x lo hi H Q => ∃ a xs, x = .ref a ∧ SqT K H a xs ∧
  ¬ (HT.sIx xs.length 0 lo = 0 ∧ HT.sIx xs.length xs.length hi = xs.length) ∧ ∀ p, H p = none → Q (.ref p) (upd H p (.tup (cutV xs lo hi)))
theorem sl_tup : SlR X (rSlT X.K) := by
  intro pins s σ H x v vl vu lo hi sl Q I rx hs pl pu h
  obtain ⟨a, xs, rfl, hx, hw, q⟩ := h
  cases rx
  obtain ⟨its, r, ht, hz⟩ := I.tuple hx
  have hlen : its.toArray.size = xs.length := by rw [List.size_toArray]; exact r.length.symm
  refine ⟨"tuple", _, PyProof.Rows.slot_tuple_getitem.lookup, ht.typeIs, ?_⟩
  refine HT.getItem_tuple_cut ht hs pl pu (by rw [hlen]; exact hw) ?_ (by rw [hlen]; exact hz)
  rw [hlen]
  refine ⟨.ref s.heap.objs.size, _, I.laid (t' := s.toks) (o := .tup (cutV xs lo hi)) (fun b ob q => Heap.get?_push_of_some _ q) (Nat.le_refl _) ?_, rfl, q _ (I.hok.fresh (Nat.le_refl _))⟩
  exact ⟨Nat.le_trans (cutV_length xs lo hi) hz, _, (r.drop (HT.sIx xs.length 0 lo)).take (HT.sIx xs.length xs.length hi - HT.sIx xs.length 0 lo), IsTup.new _ _⟩

/-! ### t < u, t + u -/
def rLtT (K : PySem.W.Frag) : R2 := fun x y H Q => ∃ a b ns ms, x = .ref a ∧ y = .ref b ∧ SqT K H a (ns.map V.int) ∧ SqT K H b (ms.map V.int) ∧ Q (.bl (HT.lexLt ns ms)) H
theorem op_ltT (hu : X.A.units < cLine) : OpR X (compareOp .Lt) (rLtT X.K) := by
  intro pins s σ H x y v u Q I rx ry h
  obtain ⟨a, b, ns, ms, rfl, rfl, ha, hb, q⟩ := h
  cases rx
  cases ry
  obtain ⟨its, r1, p1, _⟩ := I.tuple ha
  obtain ⟨its2, r2, p2, _⟩ := I.tuple hb
  have i1 : IntsAre its.toArray.toList ns := intsAre_of r1
  have i2 : IntsAre its2.toArray.toList ms := intsAre_of r2
  exact HT.lt_tupInts p1 p2 i1 i2 hu ⟨.bl (HT.lexLt ns ms), H, I, rfl, q⟩
/-- t + u, t not empty: u empty gives t itself -/
def rCatT (K : PySem.W.Frag) : R2 := fun x y H Q => ∃ a b xs ys, x = .ref a ∧ y = .ref b ∧ SqT K H a xs ∧ SqT K H b ys ∧ xs ≠ [] ∧ xs.length + ys.length ≤ sizeLine ∧
  (ys = [] → Q (.ref a) H) ∧ (ys ≠ [] → ∀ p, H p = none → Q (.ref p) (upd H p (.tup (xs ++ ys))))
theorem Vals.nil_iff {xs : List V} {us : List Value} (r : Vals xs us) : us = [] ↔ xs = [] := by
  cases r with
  | nil => simp
  | cons _ _ => simp
theorem op_catT : OpR X (binaryOp .Add) (rCatT X.K) := by
  intro pins s σ H x y v u Q I rx ry h
  obtain ⟨a, b, xs, ys, rfl, rfl, ha, hb, hx, hz, q1, q2⟩ := h
  cases rx
  cases ry
  obtain ⟨its, r1, p1, _⟩ := I.tuple ha
  obtain ⟨its2, r2, p2, _⟩ := I.tuple hb
  refine HT.cat_tup p1 p2 (fun z => hx (r1.nil_iff.mp z)) (fun z => ⟨.ref a, H, I, rfl, q1 (r2.nil_iff.mp z)⟩) (fun z => ?_) (by rw [← r1.length, ← r2.length]; exact hz)
  refine ⟨.ref s.heap.objs.size, _, I.laid (t' := s.toks) (o := .tup (xs ++ ys)) (fun b ob q => Heap.get?_push_of_some _ q) (Nat.le_refl _) ?_, rfl, q2 (fun w => z (r2.nil_iff.mpr w)) _ (I.hok.fresh (Nat.le_refl _))⟩
  exact ⟨by rw [List.length_append]; exact hz, _, r1.append r2, IsTup.new _ _⟩
/-- tuple(t) -/
theorem call_tupleT : CallR X (.type "tuple") (fun xs H Q => ∃ a ys, xs = [.ref a] ∧ SqT X.K H a ys ∧ Q (.ref a) H) := by
  intro pins s σ H xs us Q I r h
  obtain ⟨a, ys, rfl, ha, q⟩ := h
  obtain ⟨u, rfl, ru⟩ := vals1 r
  cases ru
  obtain ⟨its, _, p1, _⟩ := I.tuple ha
  exact call_tuple_same (items := its.toArray) p1 ⟨.ref a, H, I, rfl, q⟩
end
end L2

namespace L2
open PySem PySem.Spec PyProof.Rows

/-! ### places -/
/-- the place that an index of any sign means -/
def ixN (n : Nat) (i : Int) : Option Nat := if 0 ≤ i then (if i < n then some i.toNat else none) else if -(n : Int) ≤ i then some (i + n).toNat else none
def atI {α : Type} (xs : List α) (i : Int) : Option α := (ixN xs.length i).bind fun j => xs[j]?
theorem ixN_seq {n : Nat} {i : Int} {j : Nat} (h : ixN n i = some j) : seqIndex? i n = some j ∧ j < n ∧ -(n : Int) ≤ i ∧ i < n := by
  unfold ixN at h
  by_cases h0 : 0 ≤ i
  · rw [if_pos h0] at h
    by_cases h1 : i < n
    · rw [if_pos h1] at h
      have e : i.toNat = j := Option.some.inj h
      exact ⟨by rw [seqIndex_of h0 h1, e], by omega, by omega, h1⟩
    · rw [if_neg h1] at h; cases h
  · rw [if_neg h0] at h
    by_cases h1 : -(n : Int) ≤ i
    · rw [if_pos h1] at h
      have e : (i + n).toNat = j := Option.some.inj h
      exact ⟨by rw [seqIndex_neg (by omega) h1, e], by omega, h1, by omega⟩
    · rw [if_neg h1] at h; cases h
theorem atI_get {α : Type} {xs : List α} {i : Int} {v : α} (h : atI xs i = some v) : ∃ j, seqIndex? i xs.length = some j ∧ xs[j]? = some v ∧ j < xs.length ∧ -(xs.length : Int) ≤ i ∧ i < xs.length := by
  unfold atI at h
  cases e : ixN xs.length i with
  | none => rw [e] at h; cases h
  | some j =>
    rw [e] at h
    obtain ⟨h1, h2, h3, h4⟩ := ixN_seq e
    exact ⟨j, h1, h, h2, h3, h4⟩
theorem atI_nat {α : Type} {xs : List α} {j : Nat} {v : α} (h : xs[j]? = some v) : atI xs (j : Int) = some v := by
  have hj : j < xs.length := (List.getElem?_eq_some_iff.mp h).1
  have e : ixN xs.length (j : Int) = some j := by
    unfold ixN
    rw [if_pos (by omega), if_pos (by omega)]; simp
  unfold atI; rw [e]; exact h
theorem atI_last {α : Type} (xs : List α) (v : α) : atI (xs ++ [v]) (-1) = some v := by
  have hl : (xs ++ [v]).length = xs.length + 1 := by simp
  have e : ixN (xs ++ [v]).length (-1) = some xs.length := by
    unfold ixN
    rw [hl, if_neg (by decide), if_pos (by omega)]
    congr 1
    omega
  unfold atI
  rw [e]
  show (xs ++ [v])[xs.length]? = some v
  simp

/-! ### what may be subscripted -/
/-- what stands as an index of a plain subscript -/
def PlainIx (b : Expr) : Prop := ∀ o i, subscripted b false o i = operate [o, i] (getItem o i)
/-- a subscript by values -/
def IxR (X : Cx) (r : R2) : Prop :=
  ∀ (value slice : Expr) (pins : List (Addr × Obj)) (s : Shared) (σ : St) (H : Hp) (x y : V) (v u : Value) (Q : VK), Inv X pins σ H s → RelV x v → RelV y u → r x y H Q →
    subscripted slice false v u = operate [v, u] (getItem v u) → wpAny (model X.prog X.w) X.A (subscriptTail value slice v u) (EP X pins σ Q) X.xe s
/-- a call of a builtin's method by values: the receiver, the arguments -/
def MtR (X : Cx) (id : String) (r : V → List V → Hp → VK → Prop) : Prop :=
  ∀ (pins : List (Addr × Obj)) (s : Shared) (σ : St) (H : Hp) (x : V) (xs : List V) (v : Value) (us : List Value) (Q : VK), Inv X pins σ H s → RelV x v → Vals xs us → r x xs H Q →
    wpAny (model X.prog X.w) X.A (call (.builtin id) (v :: us)) (EP X pins σ Q) X.xe s
section
variable {X : Cx} {a b : Expr} {ta tb : TE} {pos : Pos}
theorem IxR.or {r r' : R2} (h : IxR X r) (h' : IxR X r') : IxR X (fun x y H Q => r x y H Q ∨ r' x y H Q) := by
  intro value slice pins s σ H x y v u Q I rx ry q hs
  rcases q with q | q
  · exact h value slice pins s σ H x y v u Q I rx ry q hs
  · exact h' value slice pins s σ H x y v u Q I rx ry q hs
theorem MtR.or {id : String} {r r' : V → List V → Hp → VK → Prop} (h : MtR X id r) (h' : MtR X id r') : MtR X id (fun x xs H Q => r x xs H Q ∨ r' x xs H Q) := by
  intro pins s σ H x xs v us Q I rx rs q
  rcases q with q | q
  · exact h pins s σ H x xs v us Q I rx rs q
  · exact h' pins s σ H x xs v us Q I rx rs q
/-- a[b] -/
theorem pe_ix {r : R2} (hr : IxR X r) (ha : PE X a ta) (hb : PE X b tb) (hs : PlainIx b) : PE X (.Subscript a b pos) (tOp r ta tb) := by
  intro pins s σ H Q I h
  exact Subscript_ (binT ha hb I h fun v u s2 x y H2 I2 rx ry q => hr a b pins s2 σ H2 x y v u Q I2 rx ry q (hs _ _))

def rIxL (K : PySem.W.Frag) : R2 := fun x y H Q => ∃ p xs i v, x = .ref p ∧ y = .int i ∧ SqL K H p xs ∧ atI xs i = some v ∧ Q v H
def rIxT (K : PySem.W.Frag) : R2 := fun x y H Q => ∃ p xs i v, x = .ref p ∧ y = .int i ∧ SqT K H p xs ∧ atI xs i = some v ∧ Q v H
def rIxS : R2 := fun x y H Q => ∃ z i c, x = .str z ∧ y = .int i ∧ z.length ≤ sizeLine ∧ atI z.cps.toList i = some c ∧ Q (.str ⟨#[c]⟩) H
theorem ix_list : IxR X (rIxL X.K) := by
  intro value slice pins s σ H x y v u Q I rx ry h hs
  obtain ⟨p, xs, i, z, rfl, rfl, hq, he, q⟩ := h
  cases rx
  obtain ⟨t, rfl⟩ := ry
  obtain ⟨its, r, pl, hz⟩ := I.list hq
  obtain ⟨j, h1, h2, h3, h4, h5⟩ := atI_get he
  obtain ⟨w, ew, rw'⟩ := r.get h2
  have hl := r.length
  have hn := line63
  have fin : EP X pins σ Q w s := ⟨z, H, I, rw', q⟩
  by_cases h0 : 0 ≤ i
  · have hj : i.toNat = j := by
      rw [seqIndex_of h0 h5] at h1
      exact Option.some.inj h1
    exact item_listR pl.isList h0 (by omega) (by rw [hj]; simpa using ew) fin hs
  · have hj : (i + (its.toArray.size : Int)).toNat = j := by
      rw [seqIndex_neg (by omega) h4] at h1
      rw [List.size_toArray, ← hl]
      exact Option.some.inj h1
    exact subscriptTail_builtinR (x := w) pl.isList.typeIs slot_list_getitem.lookup
      (wpAny_getItem_list_neg (Q := fun r s' => r = w ∧ EP X pins σ Q r s') pl.isList (by omega) (by rw [List.size_toArray] <;> omega) (by omega) (by rw [hj]; simpa using ew) ⟨rfl, fin⟩) hs
theorem ix_tup : IxR X (rIxT X.K) := by
  intro value slice pins s σ H x y v u Q I rx ry h hs
  obtain ⟨p, xs, i, z, rfl, rfl, hq, he, q⟩ := h
  cases rx
  obtain ⟨t, rfl⟩ := ry
  obtain ⟨its, r, pl, hz⟩ := I.tuple hq
  obtain ⟨j, h1, h2, h3, h4, h5⟩ := atI_get he
  obtain ⟨w, ew, rw'⟩ := r.get h2
  have hl := r.length
  have hn := line63
  have fin : EP X pins σ Q w s := ⟨z, H, I, rw', q⟩
  exact subscriptTail_builtinR (x := w) pl.typeIs slot_tuple_getitem.lookup
    (getItem_tuple (j := j) (Q := fun r s' => r = w ∧ EP X pins σ Q r s') pl (by omega) (by omega) (by rw [List.size_toArray, ← hl]; exact h1) (by simpa using ew) ⟨rfl, fin⟩) hs
theorem ix_str : IxR X rIxS := by
  intro value slice pins s σ H x y v u Q I rx ry h hs
  obtain ⟨z, i, c, rfl, rfl, hz, he, q⟩ := h
  obtain ⟨t, rfl⟩ := rx
  obtain ⟨t', rfl⟩ := ry
  obtain ⟨j, h1, h2, h3, h4, h5⟩ := atI_get he
  have hl : z.cps.toList.length = z.length := by simp [Str.length]
  rw [hl] at h1 h4 h5
  have hn := line63
  exact tail_any (typeIs_str s z t) slot_str_getitem.lookup (getItem_str (c := c) (by
    have e1 : decide (i < -(2 ^ 63 : Int)) = false := decide_eq_false (by omega)
    have e2 : decide (i ≥ 2 ^ 63) = false := decide_eq_false (by omega)
    rw [e1, e2, Bool.or_false]) (by rw [h1]; simpa using h2) ⟨.str ⟨#[c]⟩, H, I.tok _, ⟨_, rfl⟩, q⟩) hs
/-- list, tuple or str -/
def rIx (K : PySem.W.Frag) : R2 := fun x y H Q => rIxL K x y H Q ∨ rIxT K x y H Q ∨ rIxS x y H Q
theorem ix_seq : IxR X (rIx X.K) := ix_list.or (ix_tup.or ix_str)

/-! ### xs[i] = v, any sign -/
/-- the list's object behind a store -/
theorem mapSeq_set (its : List Value) (n j : Nat) (u : Value) : Obj.mapSeq (·.setIfInBounds j u) { cls := .type "list", data := .seq its.toArray n } = { cls := .type "list", data := .seq (its.set j u).toArray n } := by
  simp [Obj.mapSeq]
theorem Inv.lst {pins : List (Addr × Obj)} {σ : St} {H : Hp} {s : Shared} {p : Addr} {xs : List V} (I : Inv X pins σ H s) (h : H p = some (.lst xs)) :
    ∃ (its : List Value) (n : Nat), Vals xs its ∧ s.heap.get? p = some { cls := .type "list", data := .seq its.toArray n } ∧ xs.length ≤ sizeLine := by
  obtain ⟨z, its, n, r, e⟩ := I.hok p _ h
  exact ⟨its, n, r, e, z⟩
/-- the list at p is written by an update of its object -/
theorem Inv.lstUpd {pins : List (Addr × Obj)} {σ : St} {H : Hp} {s : Shared} {p : Addr} {xs ys : List V} {its its' : List Value} {n n' : Nat} {f : Obj → Obj} (I : Inv X pins σ H s) (h : H p = some (.lst xs))
    (ho : s.heap.get? p = some { cls := .type "list", data := .seq its.toArray n }) (hf : f { cls := .type "list", data := .seq its.toArray n } = { cls := .type "list", data := .seq its'.toArray n' }) (r : Vals ys its') (hz : ys.length ≤ sizeLine) (t : Nat) :
    Inv X pins σ (upd H p (.lst ys)) { s with heap := s.heap.update p f, toks := t } := by
  have e : (s.heap.update p f).get? p = some { cls := .type "list", data := .seq its'.toArray n' } := by
    rw [Heap.get?_update_self f ho (by rw [hf] <;> rfl), hf]
  refine I.write (x := p) (e := p) (by rw [h]; trivial) (.inl rfl) (fun b u hb q => (Heap.get?_update_other _ _ (Ne.symm hb)).trans q) ⟨_, e⟩ ?_
  exact ⟨hz, its', n', r, e⟩
def rSetL : V → V → V → Hp → (Hp → Prop) → Prop := fun o i v H Q => ∃ p xs k j, o = .ref p ∧ i = .int k ∧ H p = some (.lst xs) ∧ ixN xs.length k = some j ∧ Q (upd H p (.lst (xs.set j v)))
theorem set_list : PSet X rSetL := by
  intro pins s σ H o i v ov iv u Q I ro ri rv h
  obtain ⟨p, xs, k, j, rfl, rfl, hp, hj, q⟩ := h
  cases ro
  obtain ⟨t, rfl⟩ := ri
  obtain ⟨its, n, r, ho, hz⟩ := I.lst hp
  obtain ⟨h1, h2, h3, h4⟩ := ixN_seq hj
  have hl := r.length
  have hn := line63
  have I' : Inv X pins σ (upd H p (.lst (xs.set j v))) { s with heap := s.heap.update p (Obj.mapSeq (·.setIfInBounds j u)) } :=
    I.lstUpd hp ho (mapSeq_set its n j u) (r.set rv j) (by rw [List.length_set]; exact hz) s.toks
  by_cases h0 : 0 ≤ k
  · have hk : k.toNat = j := by
      rw [seqIndex_of h0 h4] at h1
      exact Option.some.inj h1
    exact PySem.W.ki_setAt ho h0 (by omega) (by rw [List.size_toArray, ← hl]; exact h4) (by rw [hk]; exact ⟨_, I', q⟩)
  · have hk : (k + (its.toArray.size : Int)).toNat = j := by
      rw [seqIndex_neg (by omega) h3] at h1
      rw [List.size_toArray, ← hl]
      exact Option.some.inj h1
    exact PySem.W.ki_setBack ho (by omega) (by rw [List.size_toArray, ← hl]; exact h3) (by omega) (by rw [hk]; exact ⟨_, I', q⟩)

/-! ### slices -/
theorem slice_bounds (lo hi : Option Int) (n : Nat) : (sliceBounds lo hi none n).1 = ((HT.sIx n 0 lo : Nat) : Int) ∧ (sliceBounds lo hi none n).2.1 = ((HT.sIx n n hi : Nat) : Int) ∧ (sliceBounds lo hi none n).2.2 = 1 := by
  refine ⟨?_, ?_, rfl⟩
  · cases lo with
    | none => simp [sliceBounds, HT.sIx]
    | some i =>
      simp only [sliceBounds, HT.sIx, Option.getD_none, show (1 : Int) > 0 by decide, if_true]
      by_cases h : i < 0
      · simp only [h, if_true] <;> omega
      · simp only [h, if_false] <;> omega
  · cases hi with
    | none => simp [sliceBounds, HT.sIx]
    | some i =>
      simp only [sliceBounds, HT.sIx, Option.getD_none, show (1 : Int) > 0 by decide, if_true]
      by_cases h : i < 0
      · simp only [h, if_true] <;> omega
      · simp only [h, if_false] <;> omega
theorem slicePick_cut (its : List Value) (lo hi : Option Int) : slicePick its.toArray lo hi none = ((its.drop (HT.sIx its.length 0 lo)).take (HT.sIx its.length its.length hi - HT.sIx its.length 0 lo)).toArray := by
  obtain ⟨h1, h2, h3⟩ := slice_bounds lo hi its.toArray.size
  unfold slicePick
  rw [h1, h2, h3]
  simp only [sliceRange_one, pick_run, List.size_toArray] <;> rfl
/-- xs[lo:hi] of a list: a new list -/
def rSlL (K : PySem.W.Frag) : V → Option Int → Option Int → Hp → VK → Prop := fun x lo hi H Q => ∃ a xs, x = .ref a ∧ SqL K H a xs ∧ ∀ p, H p = none → Q (.ref p) (upd H p (.lst (cutV xs lo hi)))
theorem sl_list : SlR X (rSlL X.K) := by
  intro pins s σ H x v vl vu lo hi sl Q I rx hs pl pu h
  obtain ⟨a, xs, rfl, hx, q⟩ := h
  cases rx
  obtain ⟨its, r, ht, hz⟩ := I.list hx
  have hlen := r.length
  refine ⟨"list", _, slot_list_getitem.lookup, ht.isList.typeIs, ?_⟩
  refine wpAny_getItem_list_slice ht.isList hs pl pu .none (by simp) ?_ (by rw [List.size_toArray] <;> omega)
  rw [slicePick_cut, ← hlen]
  refine ⟨.ref s.heap.objs.size, _, I.laid (t' := s.toks) (o := .lst (cutV xs lo hi)) (fun b ob q => Heap.get?_push_of_some _ q) (Nat.le_refl _) ?_, rfl, q _ (I.hok.fresh (Nat.le_refl _))⟩
  exact ⟨Nat.le_trans (cutV_length xs lo hi) hz, _, 0, (r.drop (HT.sIx xs.length 0 lo)).take (HT.sIx xs.length xs.length hi - HT.sIx xs.length 0 lo), Heap.get?_push_size _ rfl⟩

/-! ### in, not in: flat items -/
def flatV : V → Bool
  | .non => true
  | .bl _ => true
  | .int _ => true
  | .str _ => true
  | _ => false
/-- == of flat values -/
def eqV : V → V → Bool
  | .non, .non => true
  | .bl a, .bl b => a == b
  | .bl a, .int b => (if a then 1 else 0) == b
  | .int a, .bl b => a == (if b then 1 else 0)
  | .int a, .int b => a == b
  | .str a, .str b => a == b
  | _, _ => false
theorem eqAt_V {A : Around} {s : Shared} {y x : V} {u v : Value} (ry : RelV y u) (rx : RelV x v) (fy : flatV y = true) (fx : flatV x = true) : SeqAt.EqAt A s u v (eqV y x) := by
  cases y with
  | non =>
    cases ry
    cases x with
    | non => cases rx; exact SeqAt.EqAt.same _
    | bl b => cases rx; exact SeqAt.EqAt.none_bool b
    | int b => obtain ⟨t, rfl⟩ := rx; exact SeqAt.EqAt.none_int b t
    | str b => obtain ⟨t, rfl⟩ := rx; exact SeqAt.EqAt.none_str b t
    | _ => exact absurd (show false = true from fx) Bool.false_ne_true
  | bl a =>
    cases ry
    cases x with
    | non => cases rx; exact SeqAt.EqAt.bool_none a
    | bl b => cases rx; exact SeqAt.EqAt.bool_bool a b
    | int b => obtain ⟨t, rfl⟩ := rx; exact SeqAt.EqAt.bool_int a b t
    | str b => obtain ⟨t, rfl⟩ := rx; exact SeqAt.EqAt.bool_str a b t
    | _ => exact absurd (show false = true from fx) Bool.false_ne_true
  | int a =>
    obtain ⟨t', rfl⟩ := ry
    cases x with
    | non => cases rx; exact SeqAt.EqAt.int_none a t'
    | bl b => cases rx; exact SeqAt.EqAt.int_bool a t' b
    | int b => obtain ⟨t, rfl⟩ := rx; exact SeqAt.EqAt.int_int a t' b t
    | str b => obtain ⟨t, rfl⟩ := rx; exact SeqAt.EqAt.int_str a t' b t
    | _ => exact absurd (show false = true from fx) Bool.false_ne_true
  | str a =>
    obtain ⟨t', rfl⟩ := ry
    cases x with
    | non => cases rx; exact SeqAt.EqAt.str_none a t'
    | bl b => cases rx; exact SeqAt.EqAt.str_bool a t' b
    | int b => obtain ⟨t, rfl⟩ := rx; exact SeqAt.EqAt.str_int a t' b t
    | str b => obtain ⟨t, rfl⟩ := rx; exact SeqAt.EqAt.str_str a t' b t
    | _ => exact absurd (show false = true from fx) Bool.false_ne_true
  | _ => exact absurd (show false = true from fy) Bool.false_ne_true
/-- the items' answers, read off the values (a value's own answer does not lean on its token) -/
def eqU (x : V) (u : Value) : Bool := match u with
  | .none => eqV .non x
  | .bool b => eqV (.bl b) x
  | .int i _ => eqV (.int i) x
  | .str z _ => eqV (.str z) x
  | _ => false
theorem eqU_of {x y : V} {u : Value} (r : RelV y u) (f : flatV y = true) : eqU x u = eqV y x := by
  cases y with
  | non => cases r; rfl
  | bl b => cases r; rfl
  | int i => obtain ⟨t, rfl⟩ := r; rfl
  | str z => obtain ⟨t, rfl⟩ := r; rfl
  | _ => exact absurd (show false = true from f) Bool.false_ne_true
theorem any_eqU {x : V} : ∀ {xs : List V} {us : List Value}, Vals xs us → xs.all flatV = true → us.any (eqU x) = xs.any fun y => eqV y x
  | _, _, .nil, _ => rfl
  | y :: xs, u :: us, .cons r t, f => by
    rw [List.all_cons, Bool.and_eq_true] at f
    rw [List.any_cons, List.any_cons, eqU_of r f.1, any_eqU t f.2]
theorem mem_eqAt {A : Around} {s : Shared} {x : V} {v : Value} (rx : RelV x v) (fx : flatV x = true) : ∀ {xs : List V} {us : List Value}, Vals xs us → xs.all flatV = true → ∀ u ∈ us, SeqAt.EqAt A s u v (eqU x u)
  | _, _, .nil, _ => fun u hu => by cases hu
  | y :: xs, u :: us, .cons r t, f => fun u' hu => by
    rw [List.all_cons, Bool.and_eq_true] at f
    rcases List.mem_cons.mp hu with rfl | hu
    · rw [eqU_of r f.1]; exact eqAt_V r rx f.1 fx
    · exact mem_eqAt rx fx t f.2 u' hu
def inV (x : V) (xs : List V) : Bool := xs.any fun y => eqV y x
/-- x in a list or tuple of flat items -/
def rIn (K : PySem.W.Frag) (neg : Bool) : R2 := fun x y H Q => ∃ p xs, y = .ref p ∧ (SqL K H p xs ∨ SqT K H p xs) ∧ flatV x = true ∧ xs.all flatV = true ∧ Q (.bl (if neg then !inV x xs else inV x xs)) H
theorem op_in_seq : OpR X (compareOp .In) (rIn X.K false) := by
  intro pins s σ H x y v u Q I rx ry h
  obtain ⟨p, xs, rfl, hq, fx, fs, q⟩ := h
  cases ry
  rcases hq with hq | hq
  · obtain ⟨its, r, pl, hz⟩ := I.list hq
    refine SeqAt.in_listAt (eqU x) pl.isList (fun w hw => mem_eqAt rx fx r fs w (by simpa using hw)) ⟨.bl _, H, I, rfl, ?_⟩
    rw [show its.toArray.any (eqU x) = its.any (eqU x) by simp, any_eqU r fs]
    exact q
  · obtain ⟨its, r, pl, hz⟩ := I.tuple hq
    refine SeqAt.in_tupleAt (eqU x) pl (fun w hw => mem_eqAt rx fx r fs w (by simpa using hw)) ⟨.bl _, H, I, rfl, ?_⟩
    rw [show its.toArray.any (eqU x) = its.any (eqU x) by simp, any_eqU r fs]
    exact q
theorem op_notIn_seq : OpR X (compareOp .NotIn) (rIn X.K true) := by
  intro pins s σ H x y v u Q I rx ry h
  obtain ⟨p, xs, rfl, hq, fx, fs, q⟩ := h
  cases ry
  rcases hq with hq | hq
  · obtain ⟨its, r, pl, hz⟩ := I.list hq
    refine SeqAt.notIn_listAt (eqU x) pl.isList (fun w hw => mem_eqAt rx fx r fs w (by simpa using hw)) ⟨.bl _, H, I, rfl, ?_⟩
    rw [show its.toArray.any (eqU x) = its.any (eqU x) by simp, any_eqU r fs]
    exact q
  · obtain ⟨its, r, pl, hz⟩ := I.tuple hq
    refine SeqAt.notIn_tupleAt (eqU x) pl (fun w hw => mem_eqAt rx fx r fs w (by simpa using hw)) ⟨.bl _, H, I, rfl, ?_⟩
    rw [show its.toArray.any (eqU x) = its.any (eqU x) by simp, any_eqU r fs]
    exact q
theorem op_notIn_str : OpR X (compareOp .NotIn) (fun x y H Q => ∃ i j, x = .str i ∧ y = .str j ∧ Q (.bl (!(!(Builtin.Str.occurrences j i 0 j.length 1).isEmpty))) H) := by
  intro pins s σ H x y v u Q I rx ry h
  obtain ⟨i, j, rfl, rfl, q⟩ := h
  obtain ⟨t, rfl⟩ := rx
  obtain ⟨t', rfl⟩ := ry
  exact notIn_str ⟨.bl _, H, I, rfl, q⟩

/-! ### len, list(x), tuple(x) of any list or tuple that is read -/
theorem call_len_seq : CallR X (.builtin "len") (fun xs H Q => ∃ p ys, xs = [.ref p] ∧ (SqL X.K H p ys ∨ SqT X.K H p ys) ∧ Q (.int ys.length) H) := by
  intro pins s σ H xs us Q I r h
  obtain ⟨p, ys, rfl, hq, q⟩ := h
  obtain ⟨u, rfl, rx⟩ := vals1 r
  cases rx
  have hn := line63
  rcases hq with hq | hq
  · obtain ⟨its, r', pl, hz⟩ := I.list hq
    have hlen := r'.length
    exact Calls.call_len_list pl.isList (by simp only [List.size_toArray] <;> omega) ⟨.int ys.length, H, I.tok _, ⟨s.toks + 1, by rw [List.size_toArray, hlen]⟩, q⟩
  · obtain ⟨its, r', pl, hz⟩ := I.tuple hq
    have hlen := r'.length
    exact len_tuple pl (by simp only [List.size_toArray] <;> omega) ⟨.int ys.length, H, I.tok _, ⟨s.toks + 1, by rw [List.size_toArray, hlen]⟩, q⟩
theorem call_len_str : CallR X (.builtin "len") (fun xs H Q => ∃ z, xs = [.str z] ∧ z.length ≤ sizeLine ∧ Q (.int z.length) H) := by
  intro pins s σ H xs us Q I r h
  obtain ⟨z, rfl, hz, q⟩ := h
  obtain ⟨u, rfl, t, rfl⟩ := vals1 r
  have hn := line63
  exact len_str (by omega) ⟨.int z.length, H, I.tok _, ⟨_, rfl⟩, q⟩
theorem CallR.or {f : Value} {r r' : List V → Hp → VK → Prop} (h : CallR X f r) (h' : CallR X f r') : CallR X f (fun xs H Q => r xs H Q ∨ r' xs H Q) := by
  intro pins s σ H xs us Q I rs q
  rcases q with q | q
  · exact h pins s σ H xs us Q I rs q
  · exact h' pins s σ H xs us Q I rs q
theorem call_list_of : CallR X (.type "list") (fun xs H Q => ∃ p ys, xs = [.ref p] ∧ (SqL X.K H p ys ∨ SqT X.K H p ys) ∧ ∀ l, H l = none → Q (.ref l) (upd H l (.lst ys))) := by
  intro pins s σ H xs us Q I r h
  obtain ⟨p, ys, rfl, hq, q⟩ := h
  obtain ⟨u, rfl, rx⟩ := vals1 r
  cases rx
  have fin : ∀ (its : List Value), Vals ys its → ys.length ≤ sizeLine → ∀ (h' : Heap) (c' : Nat), (∀ b o', s.heap.get? b = some o' → h'.get? b = some o') →
      h'.get? s.heap.objs.size = some { cls := .type "list", dict := none, data := .seq its.toArray c', slots := #[] } → EP X pins σ Q (.ref s.heap.objs.size) { s with heap := h' } := fun its r' hz h' c' kp e =>
    ⟨.ref s.heap.objs.size, _, I.laid (t' := s.toks) kp (Nat.le_refl _) (show ObjOk X.prog X.w _ h' _ (.lst ys) from ⟨hz, its, c', r', e⟩), rfl, q _ (I.hok.fresh (Nat.le_refl _))⟩
  rcases hq with hq | hq
  · obtain ⟨its, r', pl, hz⟩ := I.list hq
    have hlen := r'.length
    obtain ⟨o, ho, hc, n, hd⟩ := pl.isList
    exact call_list_seq p (.inl rfl) ho hc hd (fun h' c' kp e => fin its r' hz h' c' kp e) (by simp only [List.size_toArray] <;> omega)
  · obtain ⟨its, r', pl, hz⟩ := I.tuple hq
    have hlen := r'.length
    obtain ⟨o, ho, hc, n, hd⟩ := pl
    exact call_list_seq p (.inr rfl) ho hc hd (fun h' c' kp e => fin its r' hz h' c' kp e) (by simp only [List.size_toArray] <;> omega)
theorem call_tuple_of : CallR X (.type "tuple") (fun xs H Q => ∃ p ys, xs = [.ref p] ∧ ((SqL X.K H p ys ∧ ∀ l, H l = none → Q (.ref l) (upd H l (.tup ys))) ∨ (SqT X.K H p ys ∧ Q (.ref p) H))) := by
  intro pins s σ H xs us Q I r h
  obtain ⟨p, ys, rfl, h⟩ := h
  obtain ⟨u, rfl, rx⟩ := vals1 r
  cases rx
  rcases h with ⟨hq, q⟩ | ⟨hq, q⟩
  · obtain ⟨its, r', pl, hz⟩ := I.list hq
    have hlen := r'.length
    refine call_tuple_list pl.isList (fun h' kp => ?_) (by simp only [List.size_toArray] <;> omega)
    have I1 : Inv X pins σ H { s with heap := h' } := I.kept (t' := s.toks) kp
    have I2 : Inv X pins σ (upd H h'.objs.size (.tup ys)) { s with heap := h'.push { cls := .type "tuple", data := .seq its.toArray } } :=
      I1.laid (t' := s.toks) (fun b o e => Heap.get?_push_of_some _ e) (Nat.le_refl _) (show ObjOk X.prog X.w _ _ _ (.tup ys) from ⟨hz, its, r', IsTup.new _ _⟩)
    exact ⟨.ref h'.objs.size, _, I2, rfl, q _ (I1.hok.fresh (Nat.le_refl _))⟩
  · obtain ⟨its, r', pl, hz⟩ := I.tuple hq
    exact call_tuple_same pl ⟨.ref p, H, I, rfl, q⟩

/-! ### the call of a builtin's method: o.m(..) -/
/-- the value is of that builtin type -/
def tyV (K : PySem.W.Frag) (T : String) (x : V) (H : Hp) : Prop := match x with
  | .str _ => T = "str"
  | .int _ => T = "int"
  | .ref p => (T = "list" ∧ ∃ xs, SqL K H p xs) ∨ (T = "tuple" ∧ ∃ o, K.lookup p = some o ∧ o.cls = .type "tuple" ∧ o.dict = none) ∨
      (T = "dict" ∧ ((∃ kvs, H p = some (.dK kvs)) ∨ ∃ kvs, H p = some (.dT kvs))) ∨ (T = "set" ∧ ∃ S n, H p = some (.set S n))
  | _ => False
theorem tyV_is {pins : List (Addr × Obj)} {σ : St} {H : Hp} {s : Shared} {T : String} {x : V} {v : Value} (I : Inv X pins σ H s) (r : RelV x v) (ty : tyV X.K T x H) :
    s.TypeIs v T ∧ ∀ a, v = .ref a → ∃ ob, s.heap.get? a = some ob ∧ ob.dict = none := by
  cases x with
  | str z =>
    obtain ⟨t, rfl⟩ := r
    cases (show T = "str" from ty)
    exact ⟨typeIs_str s z t, fun _ e => nomatch e⟩
  | int i =>
    obtain ⟨t, rfl⟩ := r
    cases (show T = "int" from ty)
    exact ⟨typeIs_int s i t, fun _ e => nomatch e⟩
  | ref p =>
    cases r
    rcases ty with ⟨rfl, xs, hq⟩ | ⟨rfl, o, hk, hc, hd⟩ | ⟨rfl, hk⟩ | ⟨rfl, S, n, hk⟩
    · obtain ⟨its, _, pl, _⟩ := I.list hq
      refine ⟨pl.isList.typeIs, fun a e => ?_⟩
      cases e
      obtain ⟨o, n, e, c, hd, _⟩ := pl
      exact ⟨o, e, hd⟩
    · refine ⟨⟨o, I.kIn p o hk, hc⟩, fun a e => ?_⟩
      cases e
      exact ⟨o, I.kIn _ o hk, hd⟩
    · have z : ∃ o, s.heap.get? p = some o ∧ o.ExactDict := by
        rcases hk with ⟨kvs, hk⟩ | ⟨kvs, hk⟩
        · obtain ⟨_, _, _, _, o, _, _, e, ex, _⟩ := I.hok p _ hk
          exact ⟨o, e, ex⟩
        · obtain ⟨_, _, _, _, o, _, _, e, ex, _⟩ := I.hok p _ hk
          exact ⟨o, e, ex⟩
      obtain ⟨o, e, ex⟩ := z
      refine ⟨⟨o, e, ex.1⟩, fun a e2 => ?_⟩
      cases e2
      exact ⟨o, e, ex.2.1⟩
    · obtain ⟨o, _, _, _, e, ex, _⟩ := I.hok p _ hk
      refine ⟨⟨o, e, ex.1⟩, fun a e2 => ?_⟩
      cases e2
      exact ⟨o, e, ex.2.1⟩
  | _ => exact False.elim ty
def tBM0 (K : PySem.W.Frag) (T : String) (r : V → List V → Hp → VK → Prop) (to : TE) : TE := fun σ H Q => to σ H fun x H1 => tyV K T x H1 ∧ r x [] H1 Q
def tBM (K : PySem.W.Frag) (T : String) (r : V → List V → Hp → VK → Prop) (to : TE) (t : TA) : TE := fun σ H Q => to σ H fun x H1 => tyV K T x H1 ∧ t σ H1 fun xs H2 => r x xs H2 Q
variable {o e : Expr} {es : List Expr} {to : TE} {t : TA} {name : Str} {apos cpos : Pos} {T id : String} {r : V → List V → Hp → VK → Prop}
theorem pe_bm0 (pa : PlainAttrs T) (slot : Slot T name id) (hty : typeOf (.builtin id) = pure (.type "method_descriptor")) (hm : MtR X id r) (ho : PE X o to)
    (hbase : attributeBase o name X.env (eval o X.env) = eval o X.env := by rfl) (hline : (apos.endLine == cpos.line) = true := by rfl) : PE X (.Call (.Attribute o name apos) [] [] cpos) (tBM0 X.K T r to) := by
  intro pins s σ H Q I h
  refine wpAny_Call_method0_late hbase hline (thn (ho pins s σ H _ I h) fun v s1 ⟨x, H1, I1, r1, ty, q1⟩ => ?_)
  obtain ⟨h1, h2⟩ := tyV_is I1 r1 ty
  exact ⟨T, id, pa, slot, hty, h1, h2, Calls.callWith_builtin rfl (PySem.evalArgs_none (hm pins s1 σ H1 x [] v [] Q I1 r1 .nil q1))⟩
theorem pe_bm (pa : PlainAttrs T) (slot : Slot T name id) (hty : typeOf (.builtin id) = pure (.type "method_descriptor")) (hm : MtR X id r) (ho : PE X o to) (ha : PA X (e :: es) t)
    (hbase : attributeBase o name X.env (eval o X.env) = eval o X.env := by rfl)
    (hfew : ((backTo cpos (starEach (e :: es) X.env)).all (fun x => !x.1) && (backToKw cpos (keywordEach [] X.env)).all (fun x => x.1.isSome)
      && decide ((e :: es).length + ([] : List Keyword).length + (if ([] : List Keyword).isEmpty then 0 else 1) < 30)) = true := by rfl)
    (hline : (apos.endLine == cpos.line) = true := by rfl) (hs : starEach (e :: es) X.env = (false, eval e X.env) :: starEach es X.env := by rfl) (hplain : (backTo cpos (starEach es X.env)).any (·.1) = false := by rfl) :
    PE X (.Call (.Attribute o name apos) (e :: es) [] cpos) (tBM X.K T r to t) := by
  intro pins s σ H Q I h
  refine wpAny_Call_method_late hbase hfew hline rfl (thn (ho pins s σ H _ I h) fun v s1 ⟨x, H1, I1, r1, ty, q1⟩ => ?_)
  obtain ⟨h1, h2⟩ := tyV_is I1 r1 ty
  refine ⟨T, id, pa, slot, hty, h1, h2, ?_⟩
  have hA := ha cpos pins s1 σ H1 _ I1 q1
  rw [hs] at hA ⊢
  refine Calls.callWith_builtin (by show (false || (backTo cpos (starEach es X.env)).any (·.1)) = false; rw [hplain] <;> rfl) (Calls.evalArgs_plain ?_)
  exact thn hA fun us s2 ⟨vs, H2, I2, r2, q2⟩ => hm pins s2 σ H2 x vs v us Q I2 r1 r2 q2
/- xs.append(e), list.index on a module's tuple .. are MtR facts of 06m -/
end
end L2

namespace L2
open PySem PySem.Spec PyProof.Rows

def MtM (X : Cx) (id : String) (r : V → List V → Hp → VK → Prop) : Prop :=
  ∀ (pins : List (Addr × Obj)) (s : Shared) (σ : St) (H : Hp) (x : V) (xs : List V) (v : Value) (us : List Value) (Q : VK), Inv X pins σ H s → RelV x v → Vals xs us → r x xs H Q →
    wpAny (model X.prog X.w) X.A (call (.builtin id) (v :: us)) (EP X pins σ Q) X.xe s

/-! ### lists of values -/
theorem Vals.one : ∀ {x : V} {us : List Value}, Vals [x] us → ∃ u, us = [u] ∧ RelV x u
  | _, _, .cons r .nil => ⟨_, rfl, r⟩
theorem Vals.two : ∀ {x y : V} {us : List Value}, Vals [x, y] us → ∃ u v, us = [u, v] ∧ RelV x u ∧ RelV y v
  | _, _, _, .cons r (.cons q .nil) => ⟨_, _, rfl, r, q⟩
theorem Vals.zero : ∀ {us : List Value}, Vals [] us → us = []
  | _, .nil => rfl
theorem Vals.dropLast {xs : List V} {us : List Value} (h : Vals xs us) : Vals xs.dropLast us.dropLast := by
  induction h with
  | nil => exact .nil
  | cons r t ih =>
    cases t with
    | nil => exact .nil
    | cons q t' => exact .cons r ih
theorem Vals.eraseIdx : ∀ {xs : List V} {us : List Value} (i : Nat), Vals xs us → Vals (xs.eraseIdx i) (us.eraseIdx i)
  | _, _, _, .nil => .nil
  | _, _, 0, .cons _ t => t
  | _, _, i + 1, .cons r t => .cons r (Vals.eraseIdx i t)
theorem Vals.reverse {xs : List V} {us : List Value} (h : Vals xs us) : Vals xs.reverse us.reverse := by
  induction h with
  | nil => exact .nil
  | cons r t ih => rw [List.reverse_cons, List.reverse_cons]; exact Vals.append ih (.cons r .nil)
theorem Vals.rep {xs : List V} {us : List Value} (h : Vals xs us) : ∀ k : Nat, Vals (List.replicate k xs).flatten (List.replicate k us).flatten
  | 0 => .nil
  | k + 1 => by
    rw [List.replicate_succ, List.replicate_succ, List.flatten_cons, List.flatten_cons]
    exact Vals.append h (Vals.rep h k)
theorem erase_last {α : Type} (l : List α) : l.eraseIdx (l.length - 1) = l.dropLast := by
  induction l with
  | nil => rfl
  | cons a r ih =>
    cases r with
    | nil => rfl
    | cons b r =>
      have e : (a :: b :: r).length - 1 = ((b :: r).length - 1) + 1 := by
        have h1 : (a :: b :: r).length = r.length + 2 := rfl
        have h2 : (b :: r).length = r.length + 1 := rfl
        omega
      rw [e, List.eraseIdx_cons_succ, ih]
      all_goals rfl
theorem len_erase {α : Type} : ∀ (l : List α) (i : Nat), (l.eraseIdx i).length ≤ l.length
  | [], _ => Nat.le_refl _
  | _ :: _, 0 => Nat.le_succ _
  | _ :: r, i + 1 => Nat.succ_le_succ (len_erase r i)
theorem foldl_rep (its : List Value) : ∀ (k : Nat) (acc : List Value),
    List.foldl (fun x1 x2 => x1 ++ x2) acc.toArray (List.replicate k its.toArray) = (acc ++ (List.replicate k its).flatten).toArray
  | 0, acc => by simp
  | k + 1, acc => by
    have e : acc.toArray ++ its.toArray = (acc ++ its).toArray := by simp
    have e2 : (acc ++ its) ++ (List.replicate k its).flatten = acc ++ (List.replicate (k + 1) its).flatten := by
      rw [List.replicate_succ, List.flatten_cons, List.append_assoc]
    rw [← e2, ← foldl_rep its k (acc ++ its), ← e, List.replicate_succ, List.foldl_cons]

section
variable {X : Cx} {pins : List (Addr × Obj)} {σ : St} {H : Hp} {s : Shared} {l b : Addr} {xs ys zs : List V}

/-! ### the two steps: a tracked list is rewritten, a new list is laid -/
theorem Inv.lset {its its' : List Value} {n : Nat} {f : Array Value → Array Value} {t' : Nat} (I : Inv X pins σ H s) (hH : H l = some (.lst xs))
    (e : s.heap.get? l = some { cls := .type "list", data := .seq its.toArray n }) (hf : f its.toArray = its'.toArray) (hv : Vals ys its') (hz : ys.length ≤ sizeLine) :
    Inv X pins σ (upd H l (.lst ys)) { s with heap := s.heap.update l (Obj.mapSeq f), toks := t' } := by
  have q := PySem.IsL.update e f
  rw [hf] at q
  refine I.write (x := l) (e := l) (by rw [hH]; exact trivial) (.inl rfl) (fun b' u hb hu => (Heap.get?_update_other s.heap (Obj.mapSeq f) (Ne.symm hb)).trans hu) ⟨_, q⟩ ?_
  exact ⟨hz, its', _, hv, q⟩
theorem Inv.lnew {its : List Value} {t' : Nat} (I : Inv X pins σ H s) (hv : Vals ys its) (hz : ys.length ≤ sizeLine) :
    Inv X pins σ (upd H s.heap.objs.size (.lst ys)) { s with heap := s.heap.push { cls := .type "list", data := .seq its.toArray }, toks := t' } :=
  I.laid (fun _ _ q => Heap.get?_push_of_some _ q) (Nat.le_refl _) ⟨hz, its, 0, hv, Heap.get?_push_size _ rfl⟩
theorem Inv.fresh (I : Inv X pins σ H s) : H s.heap.objs.size = none := I.hok.fresh (Nat.le_refl _)
theorem Inv.lstM (I : Inv X pins σ H s) (hH : H l = some (.lst xs)) : xs.length ≤ sizeLine ∧ ∃ (its : List Value) (n : Nat), Vals xs its ∧ xs.length = its.length ∧ s.heap.get? l = some { cls := .type "list", data := .seq its.toArray n } := by
  obtain ⟨z, its, n, r, e⟩ := I.hok l _ hH
  exact ⟨z, its, n, r, r.length, e⟩

theorem notLongL {n : Nat} (h : n ≤ sizeLine) : Builtin.List.listTooLong n = false := by
  unfold Builtin.List.listTooLong
  exact decide_eq_false (by omega)
end

section
variable {X : Cx}

/-! ### methods -/
def rAppend : V → List V → Hp → VK → Prop := fun x vs H Q => ∃ l xs y, x = .ref l ∧ vs = [y] ∧ H l = some (.lst xs) ∧ xs.length < sizeLine ∧ Q .non (upd H l (.lst (xs ++ [y])))
theorem mt_append : MtM X "list.append" rAppend := by
  intro pins s σ H x vs v us Q I rx rv h
  obtain ⟨l, xs, y, rfl, rfl, hH, hz, q⟩ := h
  cases rx
  obtain ⟨u, rfl, ru⟩ := rv.one
  obtain ⟨z, its, n, r, hl, e⟩ := I.lstM hH
  refine call_meets F.slot_list_append ⟨_, e, rfl⟩ F.entry_list_append (F.args_list_append_2 _ _) (PySem.list_append l its.toArray n u (by rw [List.size_toArray]; omega)) ⟨e, ?_⟩
  refine ⟨.non, _, I.lset (its' := its ++ [u]) hH e (by simp) (r.append (.cons ru .nil)) ?_, rfl, q⟩
  rw [List.length_append, List.length_singleton]
  omega

def rExtend : V → List V → Hp → VK → Prop := fun x vs H Q => ∃ l b xs zs, x = .ref l ∧ vs = [.ref b] ∧ H l = some (.lst xs) ∧ H b = some (.lst zs) ∧ xs.length + zs.length ≤ sizeLine ∧ Q .non (upd H l (.lst (xs ++ zs)))
theorem mt_extend : MtM X "list.extend" rExtend := by
  intro pins s σ H x vs v us Q I rx rv h
  obtain ⟨l, b, xs, zs, rfl, rfl, hH, hB, hz, q⟩ := h
  cases rx
  obtain ⟨u, rfl, ru⟩ := rv.one
  cases ru
  obtain ⟨z, its, n, r, hl, e⟩ := I.lstM hH
  obtain ⟨z2, its2, n2, r2, hl2, e2⟩ := I.lstM hB
  have hsz : its.toArray.size + its2.toArray.size ≤ sizeLine := by rw [List.size_toArray, List.size_toArray]; omega
  have hlong : ¬ (!its.toArray.isEmpty && Builtin.List.listTooLong (its.toArray.size + its2.toArray.size)) = true := by
    rw [notLongL hsz, Bool.and_false]
    exact Bool.false_ne_true
  refine call_meets F.slot_list_extend ⟨_, e, rfl⟩ F.entry_list_extend (F.args_list_extend_2 _ _)
    (AutoSeq1.list_extend_list_list_0 l its.toArray n b its2.toArray n2 hlong (by rw [List.size_toArray]; omega) (by omega)) ⟨e, e2, ?_⟩
  refine ⟨.non, _, I.lset (its' := its ++ its2) hH e (by simp) (r.append r2) ?_, rfl, q⟩
  rw [List.length_append]
  omega

def rPop : V → List V → Hp → VK → Prop := fun x vs H Q => ∃ l xs y, x = .ref l ∧ vs = [] ∧ H l = some (.lst xs) ∧ xs[xs.length - 1]? = some y ∧ Q y (upd H l (.lst xs.dropLast))
theorem mt_pop : MtM X "list.pop" rPop := by
  intro pins s σ H x vs v us Q I rx rv h
  obtain ⟨l, xs, y, rfl, rfl, hH, hy, q⟩ := h
  cases rx
  have hus := rv.zero
  subst hus
  obtain ⟨z, its, n, r, hl, e⟩ := I.lstM hH
  obtain ⟨u, hu, ru⟩ := r.get hy
  have hy' : its.toArray[its.toArray.size - 1]? = some u := by
    show its.toArray[its.length - 1]? = some u
    rw [← Array.getElem?_toList, ← hl]
    exact hu
  refine call_meets F.slot_list_pop ⟨_, e, rfl⟩ F.entry_list_pop (F.args_list_pop_1 _) (MeetsSeq.list_pop_last l its.toArray n u hy' (by rw [List.size_toArray]; omega)) ⟨e, ?_⟩
  refine ⟨y, _, I.lset (its' := its.dropLast) hH e ?_ r.dropLast ?_, ru, q⟩
  · show its.toArray.eraseIdxIfInBounds (its.toArray.size - 1) = its.dropLast.toArray
    rw [List.size_toArray, List.eraseIdxIfInBounds_toArray, erase_last]
  · rw [List.length_dropLast]
    omega

def rPopAt : V → List V → Hp → VK → Prop := fun x vs H Q => ∃ l xs i k y, x = .ref l ∧ vs = [.int i] ∧ H l = some (.lst xs) ∧ -(2 ^ 63) ≤ i ∧ i < 2 ^ 63 ∧ seqIndex? i xs.length = some k ∧ xs[k]? = some y ∧ Q y (upd H l (.lst (xs.eraseIdx k)))
theorem mt_popAt : MtM X "list.pop" rPopAt := by
  intro pins s σ H x vs v us Q I rx rv h
  obtain ⟨l, xs, i, k, y, rfl, rfl, hH, h1, h2, hk, hy, q⟩ := h
  cases rx
  obtain ⟨u, rfl, ru⟩ := rv.one
  obtain ⟨t, rfl⟩ := ru
  obtain ⟨z, its, n, r, hl, e⟩ := I.lstM hH
  obtain ⟨w, hw, rw'⟩ := r.get hy
  refine call_meets F.slot_list_pop ⟨_, e, rfl⟩ F.entry_list_pop (F.args_list_pop_2 _ _)
    (MeetsSeq.list_pop_at l its.toArray n i t k w (fitsIndex_both h1 h2) (by rw [List.size_toArray, ← hl]; exact hk) (by rw [← Array.getElem?_toList]; exact hw) (by rw [List.size_toArray]; omega)) ⟨e, ?_⟩
  refine ⟨y, _, I.lset (its' := its.eraseIdx k) hH e ?_ (r.eraseIdx k) ?_, rw', q⟩
  · show its.toArray.eraseIdxIfInBounds k = (its.eraseIdx k).toArray
    rw [List.eraseIdxIfInBounds_toArray]
  · have := len_erase xs k
    omega

def rReverse : V → List V → Hp → VK → Prop := fun x vs H Q => ∃ l xs, x = .ref l ∧ vs = [] ∧ H l = some (.lst xs) ∧ Q .non (upd H l (.lst xs.reverse))
theorem mt_reverse : MtM X "list.reverse" rReverse := by
  intro pins s σ H x vs v us Q I rx rv h
  obtain ⟨l, xs, rfl, rfl, hH, q⟩ := h
  cases rx
  have hus := rv.zero
  subst hus
  obtain ⟨z, its, n, r, hl, e⟩ := I.lstM hH
  refine call_meets F.slot_list_reverse ⟨_, e, rfl⟩ F.entry_list_reverse (F.args_list_reverse_1 _) (AutoSeq1.list_reverse_list_0 l its.toArray n (by rw [List.size_toArray]; omega)) ⟨e, ?_⟩
  refine ⟨.non, _, I.lset (its' := its.reverse) hH e (by simp) r.reverse ?_, rfl, q⟩
  rw [List.length_reverse]
  omega

def rClear : V → List V → Hp → VK → Prop := fun x vs H Q => ∃ l xs, x = .ref l ∧ vs = [] ∧ H l = some (.lst xs) ∧ Q .non (upd H l (.lst []))
theorem mt_clear : MtM X "list.clear" rClear := by
  intro pins s σ H x vs v us Q I rx rv h
  obtain ⟨l, xs, rfl, rfl, hH, q⟩ := h
  cases rx
  have hus := rv.zero
  subst hus
  obtain ⟨z, its, n, r, hl, e⟩ := I.lstM hH
  refine call_meets F.slot_list_clear ⟨_, e, rfl⟩ F.entry_list_clear (F.args_list_clear_1 _) (AutoSeq1.list_clear_list_0 l its.toArray n (by rw [List.size_toArray]; omega)) ⟨e, ?_⟩
  exact ⟨.non, _, I.lset (its' := []) (ys := []) hH e rfl .nil (Nat.zero_le _), rfl, q⟩

/-! ### list + list, list += list, list * int -/
def rCat : R2 := fun x y H Q => ∃ l b xs zs, x = .ref l ∧ y = .ref b ∧ H l = some (.lst xs) ∧ H b = some (.lst zs) ∧ xs.length + zs.length ≤ sizeLine ∧ ∀ p, H p = none → Q (.ref p) (upd H p (.lst (xs ++ zs)))
theorem op_cat : OpR X (binaryOp .Add) rCat := by
  intro pins s σ H x y v u Q I rx ry h
  obtain ⟨l, b, xs, zs, rfl, rfl, hH, hB, hz, q⟩ := h
  cases rx
  cases ry
  obtain ⟨z, its, n, r, hl, e⟩ := I.lstM hH
  obtain ⟨z2, its2, n2, r2, hl2, e2⟩ := I.lstM hB
  refine PySem.P.add_list e e2 ?_ (by rw [List.size_toArray, List.size_toArray]; omega)
  have ea : its.toArray ++ its2.toArray = (its ++ its2).toArray := by simp
  rw [ea]
  exact ⟨.ref _, _, I.lnew (t' := s.toks) (r.append r2) (by rw [List.length_append]; omega), rfl, q _ I.fresh⟩
/-- a list times an int (a negative one is nothing) -/
def rRep : R2 := fun x y H Q => ∃ l k xs, x = .ref l ∧ y = .int k ∧ H l = some (.lst xs) ∧ -(2 ^ 63) ≤ k ∧ k < 2 ^ 63 ∧ xs.length * k.toNat ≤ sizeLine ∧
  ∀ p, H p = none → Q (.ref p) (upd H p (.lst (List.replicate k.toNat xs).flatten))
theorem len_rep {α : Type} (xs : List α) (k : Nat) : (List.replicate k xs).flatten.length = k * xs.length := by
  induction k with
  | zero => simp
  | succ k ih => rw [List.replicate_succ, List.flatten_cons, List.length_append, ih, Nat.succ_mul, Nat.add_comm]
theorem op_rep : OpR X (binaryOp .Mult) rRep := by
  intro pins s σ H x y v u Q I rx ry h
  obtain ⟨l, k, xs, rfl, rfl, hH, h1, h2, hz, q⟩ := h
  cases rx
  obtain ⟨t, rfl⟩ := ry
  obtain ⟨z, its, n, r, hl, e⟩ := I.lstM hH
  have hlen : its.toArray.size * k.toNat ≤ sizeLine := by rw [List.size_toArray, ← hl]; exact hz
  have hcap : ¬ its.toArray.size * k.toNat > (2 ^ 63 - 1) / 8 := by
    have : (sizeLine : Nat) ≤ (2 ^ 63 - 1) / 8 := by decide
    omega
  have hfit : ¬ (!Builtin.List.listFitsIndex k) = true := by
    rw [fitsIndex_both h1 h2]
    exact Bool.false_ne_true
  have hlong : ¬ Builtin.List.listTooLong (its.toArray.size * k.toNat) = true := by
    rw [notLongL hlen]
    exact Bool.false_ne_true
  have hnew : List.foldl (fun x1 x2 => x1 ++ x2) #[] (List.replicate (if its.toArray.isEmpty = true then 0 else k.toNat) its.toArray) = (List.replicate k.toNat its).flatten.toArray := by
    have f0 : ∀ m : Nat, List.foldl (fun x1 x2 => x1 ++ x2) #[] (List.replicate m its.toArray) = (List.replicate m its).flatten.toArray := fun m => by
      have := foldl_rep its m []
      rw [List.nil_append] at this
      exact this
    rw [f0]
    cases its with
    | nil => simp
    | cons a r' => rw [if_neg (by simp)]
  refine wpAny_binaryOp_repeat_ref (T := "list") (U := "int") (by decide) ⟨_, e, rfl⟩ (fun s' => typeIs_int s' k t) noFill_list_mul F.fills_int_mul F.slot_int_rmul repeat_list F.slot_int_index.lookup
    (call_meets F.slot_int_rmul (typeIs_int s k t) F.entry_int_rmul (F.args_int_rmul_2 _ _) (int___rmul___int_list k t l its.toArray n)
      ⟨e, rfl, ⟨_, e, rfl⟩, call_meets F.slot_list_mul ⟨_, e, rfl⟩ F.entry_list_mul (F.args_list_mul_2 _ _) (AutoListH.list___mul___list_int_3 l its.toArray n k t hfit hcap hlong) ⟨e, ?_⟩⟩)
  rw [hnew]
  exact ⟨.ref _, _, I.lnew (t' := s.toks) (r.rep k.toNat) (by rw [len_rep, Nat.mul_comm]; exact hz), rfl, q _ I.fresh⟩

/-! ### del xs[i] -/
theorem del_list {pins : List (Addr × Obj)} {s : Shared} {σ : St} {H : Hp} {l : Addr} {xs : List V} {i : Int} {t : Tok} {k : Nat} {Q : Unit → Shared → Prop} (I : Inv X pins σ H s) (hH : H l = some (.lst xs))
    (h1 : -(2 ^ 63) ≤ i) (h2 : i < 2 ^ 63) (hk : seqIndex? i xs.length = some k) (h : ∀ s', Inv X pins σ (upd H l (.lst (xs.eraseIdx k))) s' → Q () s') :
    wpAny (model X.prog X.w) X.A (delItem (.ref l) (.int i t)) Q X.xe s := by
  obtain ⟨z, its, n, r, hl, e⟩ := I.lstM hH
  refine PySem.P.delItem_list (k := k) e (fitsIndex_both h1 h2) (by rw [List.size_toArray, ← hl]; exact hk) (h _ ?_) (by rw [List.size_toArray]; omega)
  refine I.lset (its' := its.eraseIdx k) (t' := s.toks) hH e ?_ (r.eraseIdx k) ?_
  · show its.toArray.eraseIdxIfInBounds k = (its.eraseIdx k).toArray
    rw [List.eraseIdxIfInBounds_toArray]
  · have := len_erase xs k
    omega
end

/-! ### xs[a:b] = ys -/
section
variable {prog : Program} {w : World} {A : Around} {E : Value → Shared → Prop} {s : Shared}
theorem splice_eq (its its2 : List Value) (a c : Nat) : its.toArray.extract 0 a ++ its2.toArray ++ its.toArray.extract c its.toArray.size = (its.take a ++ its2 ++ its.drop c).toArray := by
  apply Array.toList_inj.mp
  first
    | (simp
       exact List.take_of_length_le (by simp))
    | simp [List.take_of_length_le]
    | simp
theorem bounds_run {a c n : Nat} (hac : a ≤ c) (hc : c ≤ n) : sliceBounds (some (a : Int)) (some (c : Int)) none n = ((a : Int), (c : Int), 1) := by
  simp only [sliceBounds, Option.getD_none]
  have h1 : ¬ ((a : Int) < 0) := by omega
  have h2 : ¬ ((c : Int) < 0) := by omega
  simp only [h1, h2, if_false, show (1 : Int) > 0 by decide, if_true]
  congr 1
  · omega
  · congr 1; omega
set_option maxRecDepth 100000 in
/-- list.__setitem__ with a slice of step one and another list -/
theorem setItem_slice {l b sl : Addr} {items new : Array Value} {n n2 : Nat} {vl vu : Value} {a c : Nat} {Q : Unit → Shared → Prop}
    (e : s.heap.get? l = some { cls := .type "list", data := .seq items n }) (e2 : s.heap.get? b = some { cls := .type "list", data := .seq new n2 }) (hne : l ≠ b)
    (hs : s.heap.IsSliceOf sl vl vu .none) (pl : IsPart vl (some (a : Int))) (pu : IsPart vu (some (c : Int))) (hac : a ≤ c) (hc : c ≤ items.size)
    (hsz : items.size + new.size ≤ sizeLine) (h : Q () { s with heap := s.heap.update l (Obj.mapSeq fun xs => xs.extract 0 a ++ new ++ xs.extract c xs.size) }) :
    wpAny (model prog w) A (setItem (.ref l) (.ref sl) (.ref b)) Q E s := by
  have hl : s.heap.IsList l items := PySem.IsL.isList e
  have hb : s.heap.IsList b new := PySem.IsL.isList e2
  obtain ⟨os, hos, hcs, hds⟩ := id hs
  have hTs : s.TypeIs (.ref sl) "slice" := ⟨os, hos, hcs⟩
  have hstep : ¬ ((rawPart none == rawInt 0) = true) := Bool.false_ne_true
  have hsame : Builtin.List.listSameRef (.ref l) (.ref b) = false := by
    unfold Builtin.List.listSameRef
    exact beq_eq_false_iff_ne.mpr hne
  have hmax : (max (a : Int) (c : Int)).toNat = c := by omega
  have hz' : ((fun xs : Array Value => xs.extract 0 a ++ new ++ xs.extract c xs.size) items).size ≤ sizeLine + 1 := by
    simp only [Array.size_append, Array.size_extract]
    omega
  unfold setItem
  try with_reducible refine wpAny_holding ?_
  first | refine wpAny_bind (wpAny_pure ?_) | skip
  refine wpAny_bind (wpAny_sequenceKey hl.typeIs (by decide) ?_)
  refine wpAny_bind (wpAny_callSpecial?_slot (name := Str.ofString "__setitem__") hl.typeIs slot_list_setitem
    (wpAny_call_entry slot_list_setitem hl.typeIs entry_list_setitem ?_ (args_list_setitem _ _ _)))
  show wpAny _ _ (Builtin.List.listSubscript? (.ref sl) >>= _) _ _ s
  refine wpAny_bind ?_
  unfold Builtin.List.listSubscript?
  refine wpAny_bind (wpAny_specialOf hTs slice_no_index ?_)
  simp only [Option.isNone_none, if_true]
  refine wpAny_pure ?_
  show wpAny _ _ (typeOf (.ref sl) >>= _) _ _ s
  refine wpAny_bind (wpAny_typeOf hTs ?_)
  first
    | rw [if_neg (by decide)]
    | refine PySem.W.KFB.if_not (by decide) ?_
  rw [listSliceParts_eq]
  refine wpAny_bind (wpAny_bind (wpAny_field hos hds (x := .none) rfl (wpAny_bind (wpAny_listPart .none ?_))))
  rw [if_neg hstep]
  refine wpAny_bind (wpAny_field hos hds (x := vl) rfl (wpAny_bind (wpAny_listPart pl ?_)))
  refine wpAny_bind (wpAny_field hos hds (x := vu) rfl (wpAny_bind (wpAny_listPart pu (wpAny_pure ?_))))
  first
    | simp only [hsame, Bool.false_eq_true, if_false]
    | refine PySem.W.KFB.if_not hsame ?_
    | (dsimp only
       rw [if_neg (by rw [hsame]; exact Bool.false_ne_true)])
  refine wpAny_bind (m := Builtin.List.listAllItems (.ref b) "must assign iterable to extended slice") ?_
  unfold Builtin.List.listAllItems
  refine wpAny_bind (wpAny_typeOf hb.typeIs ?_)
  first
    | refine PySem.W.KFB.if_so (by decide) ?_
    | rw [if_pos (by decide)]
    | simp only [beq_self_eq_true, Bool.true_or, if_true]
  unfold Builtin.List.listItems
  refine wpAny_bind (wpAny_seqItems e2 rfl (wpAny_pure ?_))
  refine wpAny_bind (wpAny_bind (wpAny_seqItems e rfl (wpAny_pure ?_)))
  refine wpAny_bind (wpAny_of_eq ((sliceIndices_raw (some (a : Int)) (some (c : Int)) none items.size (by simp)).trans (congrArg (pure : Int × Int × Int → Sem (Int × Int × Int)) (bounds_run hac hc))) ?_)
  show wpAny _ _ (if ((1 : Int) == 1) = true then _ else _) _ _ s
  rw [if_pos (by decide)]
  refine wpAny_bind (wpAny_rule ?_)
  first
    | simp only [notLongL hsz, Bool.false_eq_true, if_false]
    | refine PySem.W.KFB.if_not (notLongL hsz) ?_
  first | refine wpAny_bind (wpAny_pure ?_) | skip
  show wpAny _ _ (updateSeq l (fun xs => xs.extract 0 ((a : Int)).toNat ++ new ++ xs.extract (max (a : Int) (c : Int)).toNat xs.size) >>= _) _ _ s
  rw [hmax, Int.toNat_natCast]
  refine wpAny_bind (wpAny_updateSeq (hz := Nat.le_trans (Nat.le_add_right _ _) hsz) (_hz' := hz') e rfl ?_)
  refine wpAny_bind (wpAny_letGo ?_)
  first
    | exact wpAny_bind (wpAny_pure (wpAny_pure ⟨.none, rfl, wpAny_pure h⟩))
    | exact wpAny_pure ⟨.none, rfl, wpAny_pure h⟩
end

section
variable {X : Cx}
/-- xs[a:c] = ys of another list, at the value level: sl is the slice object that was just made -/
theorem set_slice {pins : List (Addr × Obj)} {s : Shared} {σ : St} {H : Hp} {l b sl : Addr} {xs ys : List V} {a c : Int} {vl vu : Value} {Q : Unit → Shared → Prop} (I : Inv X pins σ H s)
    (hH : H l = some (.lst xs)) (hB : H b = some (.lst ys)) (hne : l ≠ b) (hs : s.heap.IsSliceOf sl vl vu .none) (ra : RelV (.int a) vl) (rc : RelV (.int c) vu) (h0 : 0 ≤ a) (hac : a ≤ c) (hc : c ≤ xs.length)
    (hz : xs.length + ys.length ≤ sizeLine) (h : ∀ s', Inv X pins σ (upd H l (.lst (xs.take a.toNat ++ ys ++ xs.drop c.toNat))) s' → Q () s') :
    wpAny (model X.prog X.w) X.A (setItem (.ref l) (.ref sl) (.ref b)) Q X.xe s := by
  obtain ⟨ta, rfl⟩ := ra
  obtain ⟨tc, rfl⟩ := rc
  obtain ⟨z, its, n, r, hl, e⟩ := I.lstM hH
  obtain ⟨z2, its2, n2, r2, hl2, e2⟩ := I.lstM hB
  obtain ⟨a', rfl⟩ := Int.eq_ofNat_of_zero_le h0
  obtain ⟨c', rfl⟩ := Int.eq_ofNat_of_zero_le (Int.le_trans h0 hac)
  simp only [Int.toNat_natCast] at h
  refine setItem_slice (a := a') (c := c') e e2 hne hs (.int _ _) (.int _ _) (by omega) (by rw [List.size_toArray]; omega) (by rw [List.size_toArray, List.size_toArray]; omega) (h _ ?_)
  refine I.lset (its' := its.take a' ++ its2 ++ its.drop c') (t' := s.toks) hH e ?_ (Vals.append (Vals.append (r.take _) r2) (r.drop _)) ?_
  · exact splice_eq its its2 a' c'
  · rw [List.length_append, List.length_append, List.length_take, List.length_drop]
    omega
end
end L2

namespace Att
open PySem PySem.W PySem.Calls PyProof.Rows

/-! ### the script -/
theorem ints_of_wellAll {P : Params} {h : Heap} : ∀ (ns : List Int) (vs : List Value), WellAll P h vs (ns.map WData.int) → IntsAre vs ns := by
  intro ns
  induction ns with
  | nil =>
    intro vs w
    rw [List.map_nil] at w
    cases w
    exact .nil
  | cons n ns ih =>
    intro vs w
    rw [List.map_cons] at w
    cases w with
    | cons a b =>
      cases a
      exact .cons _ _ (ih _ b)

theorem script_of {l : OpenLaw} {n : Nat} (hn : l.most = some n) {P : Params} {h : Heap} {args : List WData} {vals : List Value}
    (hpre : l.row.toRowW.claim.pre args = true) (hwl : WellAll P h vals args) :
    ∃ a vs ns, vals = [Value.ref a] ∧ args = [WData.list (ns.map WData.int)] ∧ h.get? a = some { cls := .type "list", data := .seq vs.toArray } ∧ IntsAre vs ns ∧ ns.length ≤ n := by
  have hsh : WShape.hasAll [] args [.list .int] = true := (pre_splitW hpre).1
  have hc : l.pre.holds [] { args := args } = true := (pre_splitW hpre).2
  obtain ⟨d, r, rfl, h1, h2⟩ := hasAllW_cons hsh
  obtain rfl := hasAllW_nil h2
  obtain ⟨xs, rfl, h3⟩ := hasW_list h1
  obtain ⟨ns, rfl⟩ := items_int h3
  have hlen : ns.length ≤ n := by
    unfold OpenLaw.pre at hc
    have h4 : (WTm.not (.lt (.lit (.int (n : Int))) (.len (.arg 0)))).holds [] { args := [.list (ns.map .int)] } = true := by
      have h4 := (holds_andW hc).1
      rw [hn] at h4
      exact h4
    have h5 := condW_of h4 (w_not (w_lt w_lit (w_len_list (w_arg rfl))))
    rw [List.length_map] at h5
    refine Nat.le_of_not_lt fun q => ?_
    have q' : (n : Int) < ((ns.length : Nat) : Int) := by omega
    first
      | (rw [decide_eq_true q'] at h5; exact absurd h5 (by decide))
      | (simp at h5; omega)
  cases hwl with
  | cons w1 w2 =>
    cases w2
    cases w1 with
    | list ho hall => exact ⟨_, _, ns, rfl, rfl, ho, ints_of_wellAll ns _ hall, hlen⟩

theorem post_true (l : OpenLaw) (args : List WData) : l.row.toRowW.claim.post args (.bool true) args = true :=
  postW_of (r := l.row.toRowW) (X := (true == true))
    (show WShape.has [] (.bool true) .bool = true by first | rfl | decide | simp [WShape.has, WShape.arms, WShape.armsAll])
    (show (WTm.eq .res (.lit (.bool true))).value [] { args := args, res := some (.bool true), after := args } = some (.bool (true == true)) from w_eq_bool (w_res rfl) w_lit) rfl

/-! ### the attachment: holds_open's last premise (the goal 'hc' behind k_head) from a wpAny of the law's body -/
theorem attach {l : OpenLaw} {n : Nat} {q : Program} {loose : List Str} {XP : (Str → Option Value) → Heap → Prop} {YP : World → Heap → Prop} {d : DefRec} {x : Str}
    (hn : l.most = some n) (hdf : d.params.defaults = [])
    (hbind : ∀ pm cd doc v : Value, bindArgs (docDef d.name d.params d.body d.scope pm cd doc) ⟨[v], []⟩ = pure [(x, v)])
    (hx : d.scope.names.lookup x = some .local ∨ d.scope.names.lookup x = some .cell)
    (hk : d.scope.kind = .function) (hco : d.scope.isCoroutine = false) (hgen : d.scope.isGenerator = false)
    (body : ∀ (w : World) (s₀ s₁ s : Shared) (mg mb : Str → Option Value) (fa : Addr) (o : Obj) (pm cd doc : Value) (a : Addr) (vs : List Value) (ns : List Int),
      Ground q loose [] XP w s₀ mg mb s₁.heap → YP w s₁.heap →
      s₁.heap.get? fa = some o → o.data = .func (docDef d.name d.params d.body d.scope pm cd doc) → s₁.heap.CodeRec cd d.name → mg d.name = some (.ref fa) →
      s₁.heap.get? a = some { cls := .type "list", data := .seq vs.toArray } → IntsAre vs ns → ns.length ≤ n →
      s.gens = #[] → s.os = s₁.os →
      Fr s₁.heap s₁.heap.objs.size s.heap (bindL (envOfC d.name d.scope s₁.heap.objs.size fa cd).kindOf [(x, .ref a)] fun _ => none) →
      Cl s₁.heap.objs.size (cellsFrom (s₁.heap.objs.size + 1) d.scope.names []) s.heap (bindC (envOfC d.name d.scope s₁.heap.objs.size fa cd).kindOf [(x, .ref a)] fun _ => none) →
      wpAny (model l.prog w) (callerA.deeper (envOfC d.name d.scope s₁.heap.objs.size fa cd)) (execs d.body (envOfC d.name d.scope s₁.heap.objs.size fa cd))
        (fun f s' => f = .ret (.bool true) ∧ OldK s₁.heap s'.heap ∧ s'.os = s₁.os ∧ AllBare s'.gens) (fun _ _ => False) s) :
    WalkO q loose XP YP l.row.toRowW d [] (fun f vs => PySem.call f vs) := by
  intro w s₀ s₁ mg mb G Y fa o pm cd doc dV kV ho hd hcd hD hmg hg args vals as hpre hlay hrd hwl hlo
  obtain rfl : dV = .none := Dflts.none hD hdf
  obtain rfl : kV = .none := Dflts.noKw hD
  obtain ⟨a, vs, ns, rfl, rfl, hobj, hints, hlen⟩ := script_of hn hpre hwl
  refine enter_call ?_
  refine call_cells_ret (o := o) (by rw [depth_caller]; decide) ho (fd_plain hd) G.T.nolimit hcd (hbind pm cd doc (.ref a)) (fun y hy => ?_) (fun h₁ tk F X => ?_) hco hgen hk
  · obtain rfl : y = (x, Value.ref a) := List.mem_singleton.mp hy
    rcases hx with e | e
    · exact .inl e
    · exact .inr ⟨e, cellsFrom_some _ _ _ (.inl e)⟩
  · refine wpAny_mono (body w s₀ s₁ { s₁ with heap := h₁, toks := tk } mg mb fa o pm cd doc a vs ns G Y ho (fd_plain hd) hcd hmg hobj hints hlen hg rfl F X) (fun f s' hq => ?_) (fun _ _ hq => hq)
    obtain ⟨rfl, h2, h3, h4⟩ := hq
    exact ⟨.inl ⟨.bool true, .bool true, [], rfl, fun _ => rfl, .bool true, post_true l _, fun _ => ⟨List.Pairwise.nil, fun _ hm => (nomatch hm)⟩⟩, h2, h3, h4⟩

/-- the same from a codeAny of the CALL (for a layer whose function contracts speak of calls) -/
theorem attach_call {l : OpenLaw} {n : Nat} {q : Program} {loose : List Str} {XP : (Str → Option Value) → Heap → Prop} {YP : World → Heap → Prop} {d : DefRec}
    (hn : l.most = some n) (hdf : d.params.defaults = [])
    (call : ∀ (w : World) (s₀ s₁ : Shared) (mg mb : Str → Option Value) (fa : Addr) (o : Obj) (pm cd doc : Value) (a : Addr) (vs : List Value) (ns : List Int),
      Ground q loose [] XP w s₀ mg mb s₁.heap → YP w s₁.heap →
      s₁.heap.get? fa = some o → o.data = .func (docDef d.name d.params d.body d.scope pm cd doc) → s₁.heap.CodeRec cd d.name → mg d.name = some (.ref fa) →
      s₁.heap.get? a = some { cls := .type "list", data := .seq vs.toArray } → IntsAre vs ns → ns.length ≤ n → s₁.gens = #[] →
      codeAny (model l.prog w) callerA (.call (.ref fa) ⟨[.ref a], []⟩) (fun r s' => r = .ok (.ret (.bool true)) ∧ OldK s₁.heap s'.heap ∧ s'.os = s₁.os ∧ AllBare s'.gens) s₁) :
    WalkO q loose XP YP l.row.toRowW d [] (fun f vs => PySem.call f vs) := by
  intro w s₀ s₁ mg mb G Y fa o pm cd doc dV kV ho hd hcd hD hmg hg args vals as hpre hlay hrd hwl hlo
  obtain rfl : dV = .none := Dflts.none hD hdf
  obtain rfl : kV = .none := Dflts.noKw hD
  obtain ⟨a, vs, ns, rfl, rfl, hobj, hints, hlen⟩ := script_of hn hpre hwl
  refine enter_call (codeAny_mono (call w s₀ s₁ mg mb fa o pm cd doc a vs ns G Y ho (fd_plain hd) hcd hmg hobj hints hlen hg) fun r s' hq => ?_)
  obtain ⟨rfl, h2, h3, h4⟩ := hq
  exact ⟨.inl ⟨.bool true, .bool true, [], rfl, fun _ => rfl, .bool true, post_true l _, fun _ => ⟨List.Pairwise.nil, fun _ hm => (nomatch hm)⟩⟩, h2, h3, h4⟩

/-- the same where the top left finished generators (o_head chose holds_openN): nothing may have changed at all and no generator may be left -/
theorem attachN {l : OpenLaw} {n : Nat} {q : Program} {loose : List Str} {XP : (Str → Option Value) → Heap → Prop} {YP : World → Heap → Prop} {d : DefRec} {x : Str}
    (hn : l.most = some n) (hdf : d.params.defaults = [])
    (hbind : ∀ pm cd doc v : Value, bindArgs (docDef d.name d.params d.body d.scope pm cd doc) ⟨[v], []⟩ = pure [(x, v)])
    (hx : d.scope.names.lookup x = some .local ∨ d.scope.names.lookup x = some .cell)
    (hk : d.scope.kind = .function) (hco : d.scope.isCoroutine = false) (hgen : d.scope.isGenerator = false)
    (body : ∀ (w : World) (s₀ s₁ s : Shared) (mg mb : Str → Option Value) (fa : Addr) (o : Obj) (pm cd doc : Value) (a : Addr) (vs : List Value) (ns : List Int),
      Ground q loose [] XP w s₀ mg mb s₁.heap → YP w s₁.heap →
      s₁.heap.get? fa = some o → o.data = .func (docDef d.name d.params d.body d.scope pm cd doc) → s₁.heap.CodeRec cd d.name → mg d.name = some (.ref fa) →
      s₁.heap.get? a = some { cls := .type "list", data := .seq vs.toArray } → IntsAre vs ns → ns.length ≤ n →
      s.gens = #[] → s.os = s₁.os →
      Fr s₁.heap s₁.heap.objs.size s.heap (bindL (envOfC d.name d.scope s₁.heap.objs.size fa cd).kindOf [(x, .ref a)] fun _ => none) →
      Cl s₁.heap.objs.size (cellsFrom (s₁.heap.objs.size + 1) d.scope.names []) s.heap (bindC (envOfC d.name d.scope s₁.heap.objs.size fa cd).kindOf [(x, .ref a)] fun _ => none) →
      wpAny (model l.prog w) (callerA.deeper (envOfC d.name d.scope s₁.heap.objs.size fa cd)) (execs d.body (envOfC d.name d.scope s₁.heap.objs.size fa cd))
        (fun f s' => f = .ret (.bool true) ∧ (∀ b o, s₁.heap.get? b = some o → s'.heap.get? b = some o) ∧ s'.os = s₁.os ∧ s'.gens = #[]) (fun _ _ => False) s) :
    WalkN q loose XP YP l.row.toRowW d [] (fun f vs => PySem.call f vs) := by
  intro w s₀ s₁ mg mb G Y fa o pm cd doc dV kV ho hd hcd hD hmg hg args vals as hpre hlay hrd hwl hlo
  obtain rfl : dV = .none := Dflts.none hD hdf
  obtain rfl : kV = .none := Dflts.noKw hD
  obtain ⟨a, vs, ns, rfl, rfl, hobj, hints, hlen⟩ := script_of hn hpre hwl
  refine enter_callW ?_
  refine call_cells_ret (o := o) (by rw [depth_caller]; decide) ho (fd_plain hd) G.T.nolimit hcd (hbind pm cd doc (.ref a)) (fun y hy => ?_) (fun h₁ tk F X => ?_) hco hgen hk
  · obtain rfl : y = (x, Value.ref a) := List.mem_singleton.mp hy
    rcases hx with e | e
    · exact .inl e
    · exact .inr ⟨e, cellsFrom_some _ _ _ (.inl e)⟩
  · refine wpAny_mono (body w s₀ s₁ { s₁ with heap := h₁, toks := tk } mg mb fa o pm cd doc a vs ns G Y ho (fd_plain hd) hcd hmg hobj hints hlen hg rfl F X) (fun f s' hq => ?_) (fun _ _ hq => hq)
    obtain ⟨rfl, h2, h3, h4⟩ := hq
    exact ⟨.inl ⟨.bool true, .bool true, [], rfl, fun _ => rfl, .bool true, post_true l _, fun _ => ⟨List.Pairwise.nil, fun _ hm => (nomatch hm)⟩⟩, h2, h3, h4⟩

/-! ### rules over ANY heap (no ledger) from facts about the written part K: the library's own take a ledger (News) for what they write -/
section
variable {prog : Program} {w : World} {A : Around} {E : Value → Shared → Prop} {s : Shared} {K : Frag}

/-- a def of the module, or a method (qual 'C.m'), entered: the frame is the next address; cells behind it -/
theorem call_fn {R : Result → Shared → Prop} {name qual : Str} {params : Arguments} {body : List Stmt} {scope : Scope} {dV kV doc pm cdv ct oc : Value} {an od : Option Addr} {osl : Array (Option Value)} {f : Addr} {args : Args} {binds : List (Str × Value)}
    (X : K.In s.heap) (hlim : s.heap.NoLimit) (ho : K.lookup f = some ⟨oc, od, .func (fnOf name qual params body scope dV kV doc pm an cdv ct), osl⟩) (hcd : codeIn K cdv qual = true) (hroom : A.depth < recursionLimit)
    (hbind : BindsTo s (fnOf name qual params body scope dV kV doc pm an cdv ct) args binds)
    (hkind : (binds.all fun y => scope.names.lookup y.1 == some .local || scope.names.lookup y.1 == some .cell) = true)
    (h : ∀ s₁, InCallC s s.heap.objs.size (bindL (envOfC qual scope s.heap.objs.size f cdv).kindOf binds fun _ => none) (cellsFrom (s.heap.objs.size + 1) scope.names [])
        (bindC (envOfC qual scope s.heap.objs.size f cdv).kindOf binds fun _ => none) s₁ →
      wpAny (model prog w) (A.deeper (envOfC qual scope s.heap.objs.size f cdv)) (execs body (envOfC qual scope s.heap.objs.size f cdv))
        (fun fl s' => R (.ok (.ret (match fl with | .ret v => v | _ => .none))) s')
        (fun e s' => wpAny (model prog w) (A.deeper (envOfC qual scope s.heap.objs.size f cdv)) (leaving (envOfC qual scope s.heap.objs.size f cdv) e) (fun _ s'' => R (.error e) s'') (fun e' s'' => R (.error e') s'') s') s₁)
    (hco : scope.isCoroutine = false) (hgen : scope.isGenerator = false) (hk : scope.kind = .function) : codeAny (model prog w) A (.call (.ref f) args) R s := by
  refine codeAny_call_function hroom (X _ _ ho) rfl hco hgen rfl (codeRec_of X hcd) (hbind _ _ _ _ ?_)
  refine wpAny_newFunctionEnv_cells hk (kindsX hkind _) fun env he s₁ x => ?_
  subst he
  exact ⟨hlim.keeps x.toInCall.keep, codeAny_func (h s₁ x)⟩

/-- C(..): dict at size, instance at size + 1, then __init__ -/
theorem make_obj {R : Result → Shared → Prop} {C fI : Addr} {rest : List Value} {kw : List (Str × Value)}
    (X : K.In s.heap) (hm : makesIn K C = true) (hi : findIn K (.ref C) "__init__" = some (some (.ref fI))) (hf : isFn K (.ref fI) = true)
    (h : codeAny (model prog w) (A.under (.builtin "type.__call__" ⟨.ref C :: rest, kw⟩)) (.call (.ref fI) ⟨.ref (s.heap.objs.size + 1) :: rest, kw⟩) (InitBack (s.heap.objs.size + 1) R)
      { s with heap := (s.heap.push emptyDict).push (instObj C s.heap.objs.size) }) : codeAny (model prog w) A (.call (.ref C) ⟨rest, kw⟩) R s := by
  obtain ⟨hh, g, d, t, os⟩ := s
  exact make_core (makes_of X hm) (looks_findIn X hi) (fun self => bind_fn X self (beq_iff_eq.mp hf)) (.inl rfl) h

/-- x.name where the instance's dict holds the name and the class does not -/
theorem get_field {x C : Addr} {ox : Obj} {es : List DictEntry} {n : Nat} {name : Str} {expr : Bool} {v : Value} {Q : Value → Shared → Prop}
    (X : K.In s.heap) (I : PySem.W.InstAt s.heap x ox C (some (dictOf es n))) (hg : plainGet K C name = true) (hh : hasDictIn K C = true) (ha : findIn K (.ref C) name = some none)
    (hl : getL name es = some (some v)) (hv : handedIn v = true) (h : Q v { s with toks := s.toks + 1 }) : wpAny (model prog w) A (getAttr (.ref x) name expr) Q E s :=
  get_value X I (plainGet_of hg).1 (findObj_own hh ha rfl hl) hv h

/-- x.m(..): the method found in the class -/
theorem get_method {x C f : Addr} {ox : Obj} {es : List DictEntry} {n : Nat} {name : Str} {pl : Sem Bool} {Q : Value × List Value → Shared → Prop}
    (X : K.In s.heap) (I : PySem.W.InstAt s.heap x ox C (some (dictOf es n))) (hg : plainGet K C name = true) (hf : findIn K (.ref C) name = some (some (.ref f))) (ht : isFn K (.ref f) = true)
    (hl : getL name es = some none) (h : Q (.ref f, [.ref x]) s) : wpAny (model prog w) A (getMethod (.ref x) name pl) Q E s :=
  method_fn X I (plainGet_of hg).1 (plainGet_of hg).2 hf (beq_iff_eq.mp ht) (by show (lookIn name (dictOf es n)).map _ = _; rw [lookIn_dict, hl]; rfl) h

/-! the whole heap as the ledger: makes every rule that writes through a ledger a rule over any heap -/
def noObjs (h : Heap) : Heap := { h with objs := #[] }
theorem noObjs_get (h : Heap) (b : Addr) : (noObjs h).get? b = none := by
  cases e : (noObjs h).get? b with
  | none => rfl
  | some o => exact absurd (Heap.lt_size e) (Nat.not_lt_zero _)
def ledger (h : Heap) (L d : Addr) : List (Addr × Obj) := (List.range h.objs.size).filterMap fun a => if a = L ∨ a = d then none else (h.get? a).map fun o => (a, o)
theorem mem_ledger {h : Heap} {L d a : Addr} {o : Obj} : (a, o) ∈ ledger h L d ↔ a ≠ L ∧ a ≠ d ∧ h.get? a = some o := by
  unfold ledger
  rw [List.mem_filterMap]
  constructor
  · rintro ⟨b, _, e⟩
    split at e
    · cases e
    · rename_i hb
      obtain ⟨o', ho, e'⟩ := Option.map_eq_some_iff.mp e
      cases e'
      exact ⟨fun q => hb (.inl q), fun q => hb (.inr q), ho⟩
  · rintro ⟨n1, n2, ho⟩
    refine ⟨a, List.mem_range.mpr (Heap.lt_size ho), ?_⟩
    rw [if_neg (show ¬ (a = L ∨ a = d) from fun q => q.elim n1 n2), ho] <;> rfl
theorem news_ledger {h : Heap} {L d : Addr} {od : Obj} (hne : d ≠ L) (ho : h.get? d = some od) : News (noObjs h) L h ([] ++ (d, od) :: ledger h L d) := by
  rintro ⟨a, o⟩ hp
  rcases List.mem_cons.mp hp with e | hp
  · cases e
    exact ⟨ho, hne, noObjs_get _ _⟩
  · obtain ⟨n1, n2, e⟩ := mem_ledger.mp hp
    exact ⟨e, n1, noObjs_get _ _⟩
theorem fr_all {h : Heap} {L : Addr} {m : Str → Option Value} (n : h.Ns L m) : Fr (noObjs h) L h m :=
  ⟨n, fun b o e => (by rw [noObjs_get] at e; cases e), Nat.zero_le _⟩
/-- Upd of the head entry (for append_K, setItem_K ..) -/
theorem upd_ledger {h : Heap} {L d : Addr} {o o' : Obj} : Upd d o o' ((d, o) :: ledger h L d) ((d, o') :: ledger h L d) :=
  .head fun ⟨_, _⟩ hp => (mem_ledger.mp hp).2.1

/-- x.name = v over any heap: L is any namespace of the heap (the frame's, say): its map stays, its object is not told; all else but the dict stays -/
theorem set_field {x C dx L : Addr} {ox : Obj} {m : Str → Option Value} {es es' : List DictEntry} {n n' : Nat} {name : Str} {v : Value} {Q : Unit → Shared → Prop}
    (X : K.In s.heap) (I : PySem.W.InstAt s.heap x ox C (some (dictOf es n))) (hd : ox.dict = some dx) (hL : s.heap.Ns L m) (hne : dx ≠ L)
    (hs : findIn K (.ref C) "__setattr__" = some (some (.builtin "object.__setattr__"))) (hp : plainOver K C = true) (ht : takerIn K C name = some none) (hh : hasDictIn K C = true) (hl : (getL name es).isSome = true)
    (e : (putL name (PyData.keyHash w.params name) (.str name (s.toks + 1)) v es, putN name es n) = (es', n')) (hz : es'.length ≤ 1000)
    (h : ∀ h' : Heap, h'.Ns L m → h'.get? dx = some (dictOf es' n') → (∀ b o, b ≠ dx → b ≠ L → s.heap.get? b = some o → h'.get? b = some o) → Q () { s with heap := h', toks := s.toks + 2 }) :
    wpAny (model prog w) A (setAttr (.ref x) name v) Q E s := by
  obtain ⟨e1, e2⟩ := Prod.mk.inj e
  have hdx : s.heap.get? dx = some (dictOf es n) := by
    have := I.dict
    rw [hd] at this
    exact this
  refine set_plain X I hs (osa_dict (s := { s with toks := s.toks + 1 }) (h₀ := noObjs s.heap) (L := L) (m := m) (od := dictOf es n) (od' := dictOf es' n') (es := es') (n := n') (pre := []) (post := ledger s.heap L dx)
    (fr_all hL) (news_ledger hne hdx) X I hd hp ht hh hl (fun _ q => nomatch q) (fun ⟨_, _⟩ q => (mem_ledger.mp q).2.1) (by rw [putName_dict, e1, e2]) rfl hz fun h' F' N' => ?_)
  exact h h' F'.ns (N'.get (List.Mem.head _)) fun b o n1 n2 ho => N'.get (List.Mem.tail _ (mem_ledger.mpr ⟨n2, n1, ho⟩))
end
end Att

namespace L2
open PySem PySem.Spec PyProof.Rows

theorem vals_ints : ∀ {vs : List Value} {ns : List Int}, IntsAre vs ns → Vals (ns.map V.int) vs
  | _, _, .nil => .nil
  | _, _, .cons n t h => .cons ⟨t, rfl⟩ (vals_ints h)

/-- nothing is tracked but the script, known to the object (or it is an object of the module) -/
def Only (H : Hp) : Prop := ∀ b, H b = none ∨ ∃ o xs, H b = some (.frz o (.lst xs))

/-- THE HEAD: the law's promise, at the heap behind the top. F, the promise of the law's def, may use that base is part of the heap (so K.In base, base.Ns mainGlobals mg stand in Mod) -/
theorem law_call {P : Program} {w : World} {K : PySem.W.Frag} {mg mb : Str → Option Value} {CX : CXT} {k : Nat} {fa a : Addr} {fd : FuncData} {x : Str} {sp : Sp} {s₁ : Shared} {vs : List Value} {ns : List Int}
    (KX : K.In s₁.heap) (hns : s₁.heap.Ns mainGlobals mg) (hb : s₁.heap.Ns builtinsNs mb) (hbb : ∀ x : Str, x ≠ "__name__" → mb x = bootBuiltins x) (hlim : s₁.heap.NoLimit) (hg : s₁.gens = #[])
    (ha : s₁.heap.get? a = some { cls := .type "list", data := .seq vs.toArray }) (hi : IntsAre vs ns) (hl : ns.length ≤ sizeLine) (hr : Room k callerA)
    (F : ∀ base : Heap, K.In base → base.Ns mainGlobals mg → FnOk P w K mg base CX k fa fd [x] sp) (hbind : ∀ (s : Shared) (u : Value), BindsTo s fd ⟨[u], []⟩ [(x, u)])
    (hsp : ∀ H : Hp, Only H → SqL K H a (ns.map V.int) → sp [.ref a] H (fun v _ => v = .bl true) fun _ _ _ => False)
    (hCX : ∀ H e s', CX [] H s₁ (fun _ _ _ => False) e s' → False) :
    codeAny (model P w) callerA (.call (.ref fa) ⟨[.ref a], []⟩) (fun r s' => r = .ok (.ret (.bool true)) ∧ OldK s₁.heap s'.heap ∧ s'.os = s₁.os ∧ AllBare s'.gens) s₁ := by
  have rv := vals_ints hi
  have lenV := hi.length
  -- from an abstract heap in which nothing but the script may be tracked
  have core : ∀ H : Hp, Only H → SqL K H a (ns.map V.int) → HOk P w H s₁.heap → (∀ b, H b ≠ none → b = a) → (H a ≠ none → K.lookup a = none) →
      codeAny (model P w) callerA (.call (.ref fa) ⟨[.ref a], []⟩) (fun r s' => r = .ok (.ret (.bool true)) ∧ OldK s₁.heap s'.heap ∧ s'.os = s₁.os ∧ AllBare s'.gens) s₁ := by
    intro H hO hS hok hA hK
    have base_of : ∀ {b : Addr} {o : Obj}, s₁.heap.get? b = some o → H b = none → (hidT s₁.heap H).get? b = some o := fun e n => hidT_get e n
    have noA : ∀ {b : Addr} {o : Obj} {es : Array DictEntry} {ep : Nat}, s₁.heap.get? b = some o → o.data = .dict es ep → H b = none := fun {b o es ep} e d => by
      cases q : H b with
      | none => rfl
      | some u =>
        have e' : b = a := hA b (by rw [q]; simp)
        subst e'
        rw [ha] at e; cases e
        have d' : Data.seq vs.toArray _ = Data.dict es ep := d
        cases d'
    have nsK : ∀ {b : Addr} {m : Str → Option Value}, s₁.heap.Ns b m → (hidT s₁.heap H).Ns b m := fun {b m} ⟨o, es, ep, e, d, r⟩ => ⟨o, es, ep, base_of e (noA e d), d, r⟩
    have hKb : K.In (hidT s₁.heap H) := fun b o e => base_of (KX b o e) (by
      cases q : H b with
      | none => rfl
      | some u =>
        have e' : b = a := hA b (by rw [q]; simp)
        subst e'
        rw [hK (by rw [q]; simp)] at e; cases e)
    have hM : Mod K mg (hidT s₁.heap H) := ⟨hKb, nsK hns, ⟨mb, nsK hb, hbb⟩, let ⟨mc, h1, h2⟩ := hlim; ⟨mc, nsK h1, h2⟩⟩
    have e0 : Env0 P w K mg (hidT s₁.heap H) callerA [] s₁ H := ⟨rfl, hM, fun b o e => of_hidT e, Nat.le_of_eq (hidT_size _ _), trivial, fun b hb => absurd (show b ∈ ([] : List Addr) from hb) (by simp), hok, .of_eq hg⟩
    refine codeAny_mono ((F _ hKb (nsK hns)).run callerA [] s₁ H ⟨[.ref a], []⟩ [.ref a] [.ref a] _ _ hr e0 (hbind s₁ (.ref a)) (.cons rfl .nil) (hsp H hO hS)) fun r s' h => ?_
    cases r with
    | error e => exact (hCX H e s' h).elim
    | ok fl =>
      cases fl with
      | next => exact False.elim h
      | brk => exact False.elim h
      | cont => exact False.elim h
      | ret u =>
        obtain ⟨v, H', os, bare, un, hok', r', q⟩ := h
        have q' : v = .bl true := q
        subst q'
        obtain rfl : u = Value.bool true := r'
        refine ⟨rfl, OldK.of_keep fun b o e => ?_, os, bare⟩
        cases q : H b with
        | none => exact un.keep b o e q (by intro z; exact absurd (show b ∈ ([] : List Addr) from z) (by simp)) (by simp)
        | some u =>
          rcases hO b with z | ⟨ob, xs, z⟩
          · rw [q] at z; cases z
          · have z2 := un.frzs b ob _ z
            obtain ⟨e1, _⟩ := hok b _ z
            obtain ⟨e2, _⟩ := hok' b _ z2
            rw [e] at e1; cases e1
            exact e2
  cases hk : K.lookup a with
  | some o =>
    -- the script is one of the module's own objects
    have e := KX a o hk
    rw [ha] at e
    cases e
    refine core (fun _ => none) (fun _ => .inl rfl) (.inr ⟨_, vs.toArray, _, hk, rfl, rfl, rfl, by rw [List.size_toArray, lenV]; exact hl, by simpa using rv⟩) (fun b u z => by have z' : (none : Option HO) = some u := z; cases z') (fun b z => absurd rfl z) fun z => absurd rfl z
  | none =>
    refine core (fun b => if b = a then some (.frz { cls := .type "list", data := .seq vs.toArray } (.lst (ns.map V.int))) else none) (fun b => ?_) (.inl (.inr ⟨{ cls := .type "list", data := .seq vs.toArray }, if_pos rfl⟩)) (fun b u z => ?_) (fun b z => ?_) fun _ => hk
    · by_cases hb : b = a
      · exact .inr ⟨_, _, if_pos hb⟩
      · exact .inl (if_neg hb)
    · by_cases hb : b = a
      · have z' := (if_pos hb).symm.trans z
        cases z'
        subst hb
        exact ⟨ha, by rw [List.length_map]; exact hl, vs, _, rv, ha⟩
      · have z' := (if_neg hb).symm.trans z
        cases z'
    · by_cases hb : b = a
      · exact hb
      · exact absurd (if_neg hb) z
end L2

namespace L2
open PySem PySem.Spec PyProof.Rows

abbrev KOf {K : PySem.W.Frag} {h : Heap} (_ : K.In h) : PySem.W.Frag := K

/-- the goal that k_head leaves (case hc), from the law's promise. F gives the function object fd (K's own) once, then the promise over every base -/
theorem walk_of {l : PySem.W.OpenLaw} {n k : Nat} {q : Program} {loose : List Str} {XP : (Str → Option Value) → Heap → Prop} {YP : World → Heap → Prop} {d : DefRec} {K : Params → PySem.W.Frag} {CX : World → CXT} {sp : World → Sp} {x : Str}
    (hn : l.most = some n) (hn2 : n ≤ sizeLine) (hdf : d.params.defaults = []) (hr : Room k callerA)
    (hY : ∀ (w : World) (h : Heap), YP w h → (K w.params).In h)
    (F : ∀ (w : World) (mg : Str → Option Value) (fa : Addr) (h : Heap), (K w.params).In h → h.Ns mainGlobals mg → mg d.name = some (.ref fa) →
      ∃ fd : FuncData, (∀ (s : Shared) (u : Value), BindsTo s fd ⟨[u], []⟩ [(x, u)]) ∧
        ∀ base : Heap, (K w.params).In base → base.Ns mainGlobals mg → FnOk l.prog w (K w.params) mg base (CX w) k fa fd [x] (sp w))
    (hsp : ∀ (w : World) (H : Hp) (a : Addr) (ns : List Int), ns.length ≤ n → Only H → SqL (K w.params) H a (ns.map V.int) → sp w [.ref a] H (fun v _ => v = .bl true) fun _ _ _ => False)
    (hCX : ∀ (w : World) (H : Hp) (s : Shared) (e : Value) (s' : Shared), CX w [] H s (fun _ _ _ => False) e s' → False) :
    PySem.W.WalkO q loose XP YP l.row.toRowW d [] (fun f vs => PySem.call f vs) := by
  refine Att.attach_call hn hdf fun w s₀ s₁ mg mb fa o pm cd doc a vs ns G Y ho hd hcd hmg hobj hints hlen hg => ?_
  have KX := hY w _ Y
  obtain ⟨fd, hb, hF⟩ := F w mg fa _ KX G.T.g hmg
  exact law_call KX G.T.g G.T.b G.T.builtins G.T.nolimit hg hobj hints (Nat.le_trans hlen hn2) hr hF hb (fun H hO hS => hsp w H a ns hlen hO hS) fun H e s' => hCX w H s₁ e s'
/-- the same where the promise hangs on the written part alone: (sp := My.sp_law), no hole under a binder -/
theorem walk_ofK {l : PySem.W.OpenLaw} {n k : Nat} {q : Program} {loose : List Str} {XP : (Str → Option Value) → Heap → Prop} {YP : World → Heap → Prop} {d : DefRec} {K : Params → PySem.W.Frag} {CX : CXT} {sp : PySem.W.Frag → Sp} {x : Str}
    (hn : l.most = some n) (hn2 : n ≤ sizeLine) (hdf : d.params.defaults = []) (hr : Room k callerA)
    (hY : ∀ (w : World) (h : Heap), YP w h → (K w.params).In h)
    (F : ∀ (w : World) (mg : Str → Option Value) (fa : Addr) (h : Heap), (K w.params).In h → h.Ns mainGlobals mg → mg d.name = some (.ref fa) →
      ∃ fd : FuncData, (∀ (s : Shared) (u : Value), BindsTo s fd ⟨[u], []⟩ [(x, u)]) ∧
        ∀ base : Heap, (K w.params).In base → base.Ns mainGlobals mg → FnOk l.prog w (K w.params) mg base CX k fa fd [x] (sp (K w.params)))
    (hsp : ∀ (K : PySem.W.Frag) (H : Hp) (a : Addr) (ns : List Int), ns.length ≤ n → Only H → SqL K H a (ns.map V.int) → sp K [.ref a] H (fun v _ => v = .bl true) fun _ _ _ => False)
    (hCX : ∀ (H : Hp) (s : Shared) (e : Value) (s' : Shared), CX [] H s (fun _ _ _ => False) e s' → False) :
    PySem.W.WalkO q loose XP YP l.row.toRowW d [] (fun f vs => PySem.call f vs) :=
  walk_of (K := K) (CX := fun _ => CX) (sp := fun w => sp (K w.params)) hn hn2 hdf hr hY F (fun w H a ns h1 h2 h3 => hsp (K w.params) H a ns h1 h2 h3) fun _ H s e s' => hCX H s e s'
end L2

/- THE LAST THEOREM (shape; LID, My.* are yours):
   My.Adr: a structure of the addresses that your layer names (classes, functions); My.Txt K t: a structure (Prop) of the equations over K;
   My.txt_mk : {K} {implicit addresses ..} (e1 : nsIn K mainGlobals "law" = some (some (.ref f))) (e2 : K.lookup f = some ⟨oc, od, .func (fnOf "law" "law" params body scope dV kV doc pm an cdv ct), sl⟩) (e3 : codeIn K cdv "law" = true) .. : ∃ t, My.Txt K t

set_option maxRecDepth 100000 in
set_option maxHeartbeats 0 in
theorem PySem.Challenge.cw_LID_holds : PySem.Challenge.rw_LID.Holds := by
  w_on; o_law; k_head; (case hw => w_witness2)
  k_fill
  refine L2.walk_of (l := PySem.Challenge.rw_LID) (n := 63) (k := 40) (x := "script") (CX := fun w => ..) (sp := fun _ => My.sp_law) rfl (by decide) rfl ⟨rfl, by decide, by decide⟩ (fun w h Y => PySem.W.kIn_of Y) ?F ?S ?C
  case F =>
    intro w mg fa h KX G hmg
    have T : ∃ t, My.Txt (L2.KOf KX) t := by
      dsimp only [L2.KOf]                          -- K must stand as «<heap const> w.params» for k_is
      refine' My.txt_mk ?e1 ?e2 ?e3 ..
      (case e1 => PySem.W.k_is)                    -- in the order: a name -> its address -> its object -> its parts
      (case e2 => PySem.W.k_is)
      ..
    obtain ⟨t, T⟩ := T
    have e0 := hmg.symm.trans (PySem.W.mg_of KX G T.law)
    cases e0                                       -- fa is the law's own address
    exact ⟨_, fun s u => .of_eq rfl, fun base kb nb => My.law_fn T kb nb⟩     -- if «.of_eq rfl» comes too early: refine' ⟨_, ?b, fun base kb nb => My.law_fn T kb nb⟩; exact fun s u => .of_eq rfl
  case S => exact fun w H a ns hl hO hS => ..
  case C => exact ..
(the tactic k_is has no namespace: write k_is) -/

/-! SHORT WORDS over the layer: a def of the text, its body, what a loop and a test want. -/
namespace L2
open PySem PySem.Spec PyProof.Rows

/-! ### the text by places -/
/-- the j-th statement of a class's body -/
def inClass (s : Stmt) (j : Nat) : Stmt := match s with
  | .ClassDef _ _ _ body _ _ _ _ _ _ _ => body.getD j (.Pass ⟨0, 0, 0, 0⟩)
  | _ => .Pass ⟨0, 0, 0, 0⟩
def defArgs (s : Stmt) : Arguments := match s with
  | .FunctionDef _ a _ _ _ _ _ _ _ _ => a
  | _ => { posonlyargs := [], args := [], vararg := none, kwonlyargs := [], kw_defaults := [], kwarg := none, defaults := [] }
def defBody (s : Stmt) : List Stmt := match s with
  | .FunctionDef _ _ b _ _ _ _ _ _ _ => b
  | _ => []
def defScope (s : Stmt) : Scope := match s with
  | .FunctionDef _ _ _ _ _ _ sc _ _ _ => sc
  | _ => { kind := .function, names := [], isGenerator := false, isCoroutine := false }

/-! ### no exception leaves a def -/
abbrev CX0 : CXT := fun _ _ _ _ _ _ => False
abbrev E0 : XK := fun _ _ _ => False
theorem pass0 {X : Cx} : Passes CX0 X E0 := fun _ _ _ _ _ _ _ h => h.elim

/-! ### a def (or method) of the text as it stands behind the top -/
structure Fun (K : PySem.W.Frag) (x qual : Str) (st : Stmt) (f : Addr) (fd : FuncData) : Prop where
  ex : ∃ (oc : Value) (od : Option Addr) (kV doc pm : Value) (an : Option Addr) (cdv ct : Value) (osl : Array (Option Value)),
    fd = PySem.W.fnOf x qual (defArgs st) (defBody st) (defScope st) .none kV doc pm an cdv ct ∧ K.lookup f = some ⟨oc, od, .func fd, osl⟩ ∧ PySem.W.codeIn K cdv qual = true
  kp : PySem.W.keepIn K (.ref f) = true
section
variable {P : Program} {w : World} {K : PySem.W.Frag} {mg : Str → Option Value} {base : Heap}
/-- THE RULE for a def: its body as a term of rules, and the reading of that term -/
theorem Fun.ok {x qual : Str} {st : Stmt} {f : Addr} {fd : FuncData} {N ps : List Str} {k : Nat} {sp : Sp} (F : Fun K x qual st f fd) (S : FnScope N ps (defScope st)) (len : ∀ vs H Q E, sp vs H Q E → vs.length = ps.length)
    (hbody : ∀ (cdv : Value) (A : Around) (outer : List Env) (s : Shared) (H : Hp) (vs : List V) (Q : VK) (E : XK), Room k (A.deeper (envOfC qual (defScope st) s.heap.objs.size f cdv)) → sp vs H Q E →
      ∃ t, PSs (cxOf CX0 P w K mg base N qual (defScope st) f cdv A outer s H E).nox (defBody st) t ∧ t { nx := fun _ H' => Q .non H', rt := Q } (start N vs) H) : FnOk P w K mg base CX0 (k + 1) f fd ps sp := by
  obtain ⟨oc, od, kV, doc, pm, an, cdv, ct, osl, rfl, lk, hcd⟩ := F.ex
  refine fn_of lk hcd S len fun A outer s H vs Q E hr hsp => ?_
  obtain ⟨t, h, q⟩ := hbody cdv A outer s H vs Q E hr hsp
  exact ⟨t, h.nox, q⟩
/-- how its arguments bind (no defaults): h is «fun _ _ _ _ _ _ us hl => match us, hl with | [_, _], _ => rfl», one _ a parameter -/
theorem Fun.binds {x qual : Str} {st : Stmt} {f : Addr} {fd : FuncData} {ps : List Str} (F : Fun K x qual st f fd)
    (h : ∀ (kV doc pm : Value) (an : Option Addr) (cdv ct : Value) (us : List Value), us.length = ps.length → bindArgs (PySem.W.fnOf x qual (defArgs st) (defBody st) (defScope st) .none kV doc pm an cdv ct) ⟨us, []⟩ = pure (ps.zip us)) : Binds K fd ps [] := by
  obtain ⟨oc, od, kV, doc, pm, an, cdv, ct, osl, rfl, lk, hcd⟩ := F.ex
  exact .all (h kV doc pm an cdv ct)
theorem fun_mk {x qual : Str} {st : Stmt} {f : Addr} {oc : Value} {od an : Option Addr} {osl : Array (Option Value)} {kV doc pm cdv ct : Value} (l : K.lookup f = some ⟨oc, od, .func (PySem.W.fnOf x qual (defArgs st) (defBody st) (defScope st) .none kV doc pm an cdv ct), osl⟩)
    (c : PySem.W.codeIn K cdv qual = true) (k : PySem.W.keepIn K (.ref f) = true) : Fun K x qual st f (PySem.W.fnOf x qual (defArgs st) (defBody st) (defScope st) .none kV doc pm an cdv ct) := ⟨⟨oc, od, kV, doc, pm, an, cdv, ct, osl, rfl, l, c⟩, k⟩
end
theorem hu_of {A : Around} {k : Nat} (hr : Room k A) : A.units + 1 < cLine := Nat.lt_of_le_of_lt (Nat.add_le_add_left (by decide : 1 ≤ 64) _) hr.units
theorem small1000 {n : Nat} (h : n ≤ 1000) : n < sizeLine := Nat.lt_of_le_of_lt h (by decide)

/-! ### expressions in short: the name that stands in the i-th slot -/
section
variable {X : Cx}
theorem pv (i : Nat) {x : Str} {pos : Pos} (hN : X.N[i]? = some x := by rfl) (hv : Vis X.env.scope x := by first | exact Or.inl rfl | exact Or.inr (Or.inl rfl) | exact Or.inr (Or.inr rfl)) (hd : (x == ("__debug__" : Str)) = false := by decide)
    (hcd : (x == ("__classdict__" : Str)) = false := by decide) : PE X (.Name x pos) (tVar i) := pe_var hN hv hd hcd
end

/-! ### tests -/
theorem iteF {A B : Prop} (h : B) : if false = true then A else B := by
  rw [if_neg Bool.false_ne_true]
  exact h
theorem iteT {A B : Prop} (h : A) : if true = true then A else B := by
  rw [if_pos rfl]
  exact h
theorem ite2 {c A B : Prop} [Decidable c] (h1 : c → A) (h2 : ¬ c → B) : if c then A else B := by
  by_cases h : c
  · rw [if_pos h]
    exact h1 h
  · rw [if_neg h]
    exact h2 h
theorem iteNS {c A B : Prop} [Decidable c] (hc : c) (h : B) : if (!decide c) = true then A else B := by
  rw [decide_eq_true hc]
  exact iteF h

/-! ### heaps -/
/-- all that was tracked is as it was -/
def Same (H H' : Hp) : Prop := ∀ b o, H b = some o → H' b = some o
theorem Same.refl (H : Hp) : Same H H := fun _ _ h => h
theorem Same.trans {H H1 H2 : Hp} (a : Same H H1) (b : Same H1 H2) : Same H H2 := fun c o h => b c o (a c o h)
theorem Same.free {H H' : Hp} (e : Same H H') {l : Addr} (h : H' l = Option.none) : H l = Option.none := by
  cases q : H l with
  | none => rfl
  | some o =>
    rw [e l o q] at h
    cases h
theorem Same.seq {K : PySem.W.Frag} {H H' : Hp} {a : Addr} {xs : List V} (e : Same H H') (h : SqL K H a xs) : SqL K H' a xs := by
  rcases h with (h | ⟨o, h⟩) | h
  · exact .inl (.inl (e _ _ h))
  · exact .inl (.inr ⟨o, e _ _ h⟩)
  · exact .inr h

end L2

set_option Elab.async false
set_option linter.all false
set_option maxRecDepth 100000
set_option maxHeartbeats 4000000
namespace L2
open PySem PySem.Spec PyProof.Rows

/-! ### numbers of any size -/
theorem bits_le {k : Int} {a : Nat} (h : k.natAbs < 2 ^ a) : Builtin.Int.intBits k ≤ a := by
  unfold Builtin.Int.intBits
  split
  · exact Nat.zero_le _
  · rename_i h0
    have hp : k.natAbs ≠ 0 := by
      intro z
      apply h0
      have : k = 0 := by omega
      subst this
      rfl
    have := (Nat.log2_lt hp).mpr h
    omega
theorem mulOk_of {i j : Int} {a b : Nat} (hi : i.natAbs < 2 ^ a) (hj : j.natAbs < 2 ^ b) (h : a + b ≤ 134217728) : IntMulOk i j := by
  have h1 := bits_le hi
  have h2 := bits_le hj
  have h3 : Builtin.Int.intTooBig ((Builtin.Int.intBits i : Int) + (Builtin.Int.intBits j : Int)) = false := by
    unfold Builtin.Int.intTooBig
    rw [bitsLine_eq]
    simp
    omega
  unfold IntMulOk
  rw [h3]
  simp
/-- a divisor that may stand: below 2 ^ 9000 -/
def Dv (j : Int) : Prop := j.natAbs.log2 < 9000
theorem Dv.of {j : Int} {a : Nat} (h : j.natAbs < 2 ^ a) (ha : a ≤ 9000) : Dv j := by
  unfold Dv
  by_cases h0 : j.natAbs = 0
  · rw [h0]; decide
  · exact Nat.lt_of_lt_of_le ((Nat.log2_lt h0).mpr h) ha
section
variable {X : Cx}
theorem op_mulB : OpR X (binaryOp .Mult) (rI IntMulOk fun i j => .int (i * j)) := opI fun _ _ _ _ _ _ _ hc q => mul_int q hc
theorem op_fdivP : OpR X (binaryOp .FloorDiv) (rI (fun _ j => 0 < j ∧ Dv j) fun i j => .int (i / j)) := opI fun i j _ _ _ _ _ hc q => by
  refine floordiv_int (by omega) ?_ (.inl (PyProof.noPylong_of_log2 hc.2))
  rw [Int.fdiv_eq_ediv_of_nonneg _ (by omega)]
  exact q
theorem op_fdivX : OpR X (binaryOp .FloorDiv) (rI (fun i j => j ≠ 0 ∧ j ∣ i ∧ Dv j) fun i j => .int (i / j)) := opI fun i j _ _ _ _ _ hc q => by
  refine floordiv_int hc.1 ?_ (.inl (PyProof.noPylong_of_log2 hc.2.2))
  rw [Int.fdiv_eq_ediv_of_dvd hc.2.1]
  exact q
end

/-! ### data in the heap -/
mutual
/-- the value v is the thing d in the abstract heap -/
def Is (K : PySem.W.Frag) (H : Hp) : PyData → V → Prop
  | .none, v => v = .non
  | .bool b, v => v = .bl b
  | .int i, v => v = .int i
  | .str x, v => v = .str x
  | .list xs, v => ∃ a vs, v = .ref a ∧ SqL K H a vs ∧ IsAll K H xs vs
  | .tuple xs, v => ∃ a vs, v = .ref a ∧ SqT K H a vs ∧ IsAll K H xs vs
  | .dict _, _ => False
def IsAll (K : PySem.W.Frag) (H : Hp) : List PyData → List V → Prop
  | [], vs => vs = []
  | d :: ds, vs => ∃ v r, vs = v :: r ∧ Is K H d v ∧ IsAll K H ds r
end
section
variable {K : PySem.W.Frag} {H H' : Hp}
theorem Same.seqT {a : Addr} {xs : List V} (e : Same H H') (h : SqT K H a xs) : SqT K H' a xs := by
  rcases h with (h | ⟨o, h⟩) | h
  · exact .inl (.inl (e _ _ h))
  · exact .inl (.inr ⟨o, e _ _ h⟩)
  · exact .inr h
mutual
theorem Is.same (e : Same H H') : ∀ (d : PyData) (v : V), Is K H d v → Is K H' d v
  | .none, v, h => by simp only [Is] at h ⊢; exact h
  | .bool b, v, h => by simp only [Is] at h ⊢; exact h
  | .int i, v, h => by simp only [Is] at h ⊢; exact h
  | .str x, v, h => by simp only [Is] at h ⊢; exact h
  | .list xs, v, h => by
    simp only [Is] at h ⊢
    obtain ⟨a, vs, e1, h1, h2⟩ := h
    exact ⟨a, vs, e1, e.seq h1, IsAll.same e xs vs h2⟩
  | .tuple xs, v, h => by
    simp only [Is] at h ⊢
    obtain ⟨a, vs, e1, h1, h2⟩ := h
    exact ⟨a, vs, e1, e.seqT h1, IsAll.same e xs vs h2⟩
  | .dict _, v, h => by simp only [Is] at h
theorem IsAll.same (e : Same H H') : ∀ (ds : List PyData) (vs : List V), IsAll K H ds vs → IsAll K H' ds vs
  | [], vs, h => by simp only [IsAll] at h ⊢; exact h
  | d :: ds, vs, h => by
    simp only [IsAll] at h ⊢
    obtain ⟨v, r, e1, h1, h2⟩ := h
    exact ⟨v, r, e1, Is.same e d v h1, IsAll.same e ds r h2⟩
end
end
section
variable {X : Cx} {pins : List (Addr × Obj)} {σ : St} {H : Hp} {s : Shared}
mutual
theorem Is.reads (I : Inv X pins σ H s) : ∀ (d : PyData) (v : V) (u : Value), Is X.K H d v → RelV v u → ∃ as, Reads s.heap u d as
  | .none, v, u, h, r => by
    simp only [Is] at h; subst h
    cases (show u = Value.none from r)
    exact ⟨_, .none⟩
  | .bool b, v, u, h, r => by
    simp only [Is] at h; subst h
    cases (show u = Value.bool b from r)
    exact ⟨_, .bool b⟩
  | .int i, v, u, h, r => by
    simp only [Is] at h; subst h
    obtain ⟨t, rfl⟩ := (show ∃ t, u = Value.int i t from r)
    exact ⟨_, .int i t⟩
  | .str x, v, u, h, r => by
    simp only [Is] at h; subst h
    obtain ⟨t, rfl⟩ := (show ∃ t, u = Value.str x t from r)
    exact ⟨_, .str x t⟩
  | .list xs, v, u, h, r => by
    simp only [Is] at h
    obtain ⟨a, vs, rfl, h1, h2⟩ := h
    cases (show u = Value.ref a from r)
    obtain ⟨its, rv, ⟨o, n, ho, hc, _, hd⟩, _⟩ := I.list h1
    obtain ⟨as, ra⟩ := IsAll.reads I xs vs its h2 rv
    exact ⟨_, .list ho hc hd (by simpa using ra)⟩
  | .tuple xs, v, u, h, r => by
    simp only [Is] at h
    obtain ⟨a, vs, rfl, h1, h2⟩ := h
    cases (show u = Value.ref a from r)
    obtain ⟨its, rv, ⟨o, ho, hc, n, hd⟩, _⟩ := I.tuple h1
    obtain ⟨as, ra⟩ := IsAll.reads I xs vs its h2 rv
    exact ⟨_, .tuple ho hc hd (by simpa using ra)⟩
  | .dict _, v, u, h, r => by simp only [Is] at h
theorem IsAll.reads (I : Inv X pins σ H s) : ∀ (ds : List PyData) (vs : List V) (us : List Value), IsAll X.K H ds vs → Vals vs us → ∃ as, ReadsAll s.heap us ds as
  | [], vs, us, h, r => by
    simp only [IsAll] at h; subst h
    cases r
    exact ⟨_, .nil⟩
  | d :: ds, vs, us, h, r => by
    simp only [IsAll] at h
    obtain ⟨v, rr, rfl, h1, h2⟩ := h
    cases r with
    | cons r1 r2 =>
      obtain ⟨as, q1⟩ := Is.reads I d v _ h1 r1
      obtain ⟨bs, q2⟩ := IsAll.reads I ds rr _ h2 r2
      exact ⟨_, .cons q1 q2⟩
end
end
section
variable {X : Cx}
def rEqD (K : PySem.W.Frag) : R2 := fun x y H Q => ∃ d e, Is K H d x ∧ Is K H e y ∧ SeqAt.shaped d = true ∧ SeqAt.shaped e = true ∧ Q (.bl (PyData.eqv d e)) H
def rNeD (K : PySem.W.Frag) : R2 := fun x y H Q => ∃ d e, Is K H d x ∧ Is K H e y ∧ SeqAt.shaped d = true ∧ SeqAt.shaped e = true ∧ Q (.bl (!PyData.eqv d e)) H
theorem op_eqD (hu : X.A.units + 64 < cLine) : OpR X (compareOp .Eq) (rEqD X.K) := by
  intro pins s σ H x y v u Q I rx ry h
  obtain ⟨d, e, h1, h2, c1, c2, q⟩ := h
  obtain ⟨as, ra⟩ := Is.reads I d x v h1 rx
  obtain ⟨bs, rb⟩ := Is.reads I e y u h2 ry
  exact SeqAt.compareEq_shaped ra rb c1 c2 hu ⟨.bl _, H, I, rfl, q⟩
theorem op_neD (hu : X.A.units + 64 < cLine) : OpR X (compareOp .NotEq) (rNeD X.K) := by
  intro pins s σ H x y v u Q I rx ry h
  obtain ⟨d, e, h1, h2, c1, c2, q⟩ := h
  obtain ⟨as, ra⟩ := Is.reads I d x v h1 rx
  obtain ⟨bs, rb⟩ := Is.reads I e y u h2 ry
  exact SeqAt.compareNe_shaped ra rb c1 c2 hu ⟨.bl _, H, I, rfl, q⟩
end
end L2

set_option Elab.async false
set_option linter.all false
set_option maxRecDepth 100000
set_option maxHeartbeats 4000000
namespace L2
open PySem PySem.Spec PyProof.Rows

/-! ### the type of a value, also of an object of the module -/
inductive Ty (K : PySem.W.Frag) (H : Hp) : V → Value → Prop where
  | non : Ty K H .non (.type "NoneType")
  | bl (x : Bool) : Ty K H (.bl x) (.type "bool")
  | int (i : Int) : Ty K H (.int i) (.type "int")
  | str (x : Str) : Ty K H (.str x) (.type "str")
  | lst {a : Addr} {xs : List V} (e : SqL K H a xs) : Ty K H (.ref a) (.type "list")
  | tup {a : Addr} {xs : List V} (e : SqT K H a xs) : Ty K H (.ref a) (.type "tuple")
def clsV : V → Value
  | .ty n => .type n
  | .ref a => .ref a
  | _ => .none
theorem clsV_of {y : V} {u : Value} (r : RelV y u) (h : clsV y ≠ .none) : u = clsV y := by
  cases y with
  | ty n => exact r
  | ref a => exact r
  | _ => exact absurd rfl h
section
variable {X : Cx}
theorem isi_ok {pins : List (Addr × Obj)} {σ : St} {H : Hp} {s : Shared} {A : Around} {E : Value → Shared → Prop} {Q : Value → Shared → Prop} {c : Value} {b : Bool} {x : V} {u t : Value} (I : Inv X pins σ H s) (rx : RelV x u) (ty : Ty X.K H x t) (e : PySem.W.kitOne X.K t c = some b) (h : ∀ tk, Q (.bool b) { s with toks := tk }) :
    wpAny (model X.prog X.w) A (call (.builtin "isinstance") [u, c]) Q E s := by
  cases ty with
  | non => cases (show u = Value.none from rx); exact PySem.W.kia_one PySem.W.kitx_none I.kIn True.intro e (fun z => nomatch z) h
  | bl y => cases (show u = Value.bool y from rx); exact PySem.W.kia_one PySem.W.kitx_bool I.kIn True.intro e (fun z => nomatch z) h
  | int i => obtain ⟨t, q⟩ := (show ∃ t, u = Value.int i t from rx); cases q; exact PySem.W.kia_one PySem.W.kitx_int I.kIn True.intro e (fun z => nomatch z) h
  | str y => obtain ⟨t, q⟩ := (show ∃ t, u = Value.str y t from rx); cases q; exact PySem.W.kia_one PySem.W.kitx_str I.kIn True.intro e (fun z => nomatch z) h
  | @lst a xs ea =>
    cases (show u = Value.ref a from rx)
    obtain ⟨its, _, ⟨o, n, ho, hc, _⟩, _⟩ := I.list ea
    exact PySem.W.kia_one PySem.W.kitx_list I.kIn ⟨o, ho, hc⟩ e (fun z => nomatch z) h
  | @tup a xs ea =>
    cases (show u = Value.ref a from rx)
    obtain ⟨its, _, ⟨o, ho, hc, _⟩, _⟩ := I.tuple ea
    exact PySem.W.kia_one PySem.W.kitx_tuple I.kIn ⟨o, ho, hc⟩ e (fun z => nomatch z) h
/-- isinstance(x, c): c a class of Python's own or of the text -/
def rIsi (K : PySem.W.Frag) : List V → Hp → VK → Prop := fun xs H Q => ∃ x y t b, xs = [x, y] ∧ clsV y ≠ .none ∧ Ty K H x t ∧ PySem.W.kitOne K t (clsV y) = some b ∧ Q (.bl b) H
theorem call_isi : CallR X (.builtin "isinstance") (rIsi X.K) := by
  intro pins s σ H xs us Q I r h
  obtain ⟨x, y, t, b, rfl, hy, ty, e, q⟩ := h
  obtain ⟨u, v, rfl, ru, rv⟩ := vals2 r
  cases clsV_of rv hy
  exact isi_ok I ru ty e fun tk => ⟨.bl b, H, I.tok tk, rfl, q⟩
/-- a class of Python's own by its name -/
theorem pe_ty {x : Str} {n : String} {pos : Pos} (hg : Gl X x) (hm : X.mg x = none) (hv : bootBuiltins x = some (.type n)) (hn : x ≠ "__name__" := by decide) (hd : (x == ("__debug__" : Str)) = false := by decide) : PE X (.Name x pos) (tC (.ty n)) := pe_bltn hg hm hv rfl hn hd

/-! ### sum of a list of ints, index in a list of flat things -/
theorem call_sum (hc : X.calm = true) : CallR X (.builtin "sum") (fun xs H Q => ∃ (a : Addr) (ns : List Int), xs = [.ref a] ∧ SqL X.K H a (ns.map V.int) ∧ Q (.int ns.sum) H) := by
  intro pins s σ H xs us Q I r h
  obtain ⟨a, ns, rfl, hq, q⟩ := h
  obtain ⟨u, rfl, ru⟩ := vals1 r
  cases (show u = Value.ref a from ru)
  obtain ⟨its, rv, p, hz⟩ := I.list hq
  have hi := intsAre_of rv
  obtain ⟨xs, e⟩ := hi.allInts.items
  have en : ns = List.map (fun x => x.fst) xs.toList := by
    have h1 := nums_intItems xs
    rw [← e] at h1
    rw [← h1, show its.toArray.toList = its from rfl, hi.numsOf]
  refine sum_intListG (xs := xs) (I.ok.hd hc) (by rw [← e]; exact p.isList) fun h' tk t' hk => ⟨.int ns.sum, H, I.kept hk, ?_, q⟩
  refine ⟨t', ?_⟩
  rw [preSum_eq, List.take_of_length_le (by simp), en]
/-- xs.index(y) of flat things, y the j-th and no one ahead of it like it -/
def rIndex (K : PySem.W.Frag) : V → List V → Hp → VK → Prop := fun x vs H Q => ∃ (l : Addr) (xs : List V) (y z : V) (j : Nat), x = .ref l ∧ vs = [y] ∧ SqL K H l xs ∧ flatV y = true ∧ xs.all flatV = true ∧
  xs[j]? = some z ∧ eqV z y = true ∧ (∀ (m : Nat) (w : V), m < j → xs[m]? = some w → eqV w y = false) ∧ Q (.int j) H
theorem mt_index : MtM X "list.index" (rIndex X.K) := by
  intro pins s σ H x vs v us Q I rx rv h
  obtain ⟨l, xs, y, z, j, rfl, rfl, hS, fy, fx, hj, hz, hno, q⟩ := h
  cases rx
  obtain ⟨u, rfl, ru⟩ := rv.one
  obtain ⟨its, r, ⟨o, n, ho, hc, hdd, hd⟩, hle⟩ := I.list hS
  obtain ⟨c, dd, dt, sl⟩ := o
  cases hc
  cases hdd
  cases hd
  obtain ⟨jz, hjz, rz⟩ := r.get hj
  have hjl : j < its.length := (List.getElem?_eq_some_iff.mp hjz).1
  have hjx : j < xs.length := (List.getElem?_eq_some_iff.mp hj).1
  have fz : flatV z = true := List.all_eq_true.mp fx z (List.mem_of_getElem? hj)
  refine call_meets F.slot_list_index ⟨_, ho, rfl⟩ F.entry_list_index (F.args_list_index_2 _ _)
    (SeqAt.list_indexAt l its.toArray n none sl u (eqU y) j (by simpa using hjl) (by rw [sizeLine_eq] at hle; omega) ?_ ?_) ⟨ho, ?_, ?_⟩
  · have e1 : its.toArray[j]'(by simpa using hjl) = jz := by
      have := List.getElem?_eq_some_iff.mp hjz
      simpa using this.2
    rw [e1, eqU_of rz fz]
    exact hz
  · intro m hm hmj
    have hm' : m < its.length := by simpa using hm
    have hmx : m < xs.length := by rw [r.length]; exact hm'
    obtain ⟨um, hum, rm⟩ := r.get (i := m) (x := xs[m]) (by simp [hmx])
    have e1 : its.toArray[m]'hm = um := by
      have := List.getElem?_eq_some_iff.mp hum
      simpa using this.2
    have fm : flatV xs[m] = true := List.all_eq_true.mp fx _ (List.getElem_mem hmx)
    rw [e1, eqU_of rm fm]
    exact hno m xs[m] hmj (by simp [hmx])
  · intro w hw
    exact mem_eqAt ru fy r fx w (by simpa using hw)
  · exact ⟨.int j, H, I.tok _, ⟨_, rfl⟩, q⟩
end
end L2

set_option Elab.async false
set_option linter.all false
set_option maxRecDepth 100000
set_option maxHeartbeats 4000000
namespace L2
open PySem PySem.Spec PyProof.Rows

/-! ### the cells that a comprehension's block draws in -/
def clOf (cells : List (Str × Addr)) : List (Str × NameKind) → List (Str × Addr) → List (Str × Addr)
  | [], acc => acc
  | (n, k) :: r, acc => if k = .free then (match cells.lookup n with | some a => clOf cells r ((n, a) :: acc) | none => clOf cells r acc) else clOf cells r acc
theorem clOf_mem {cells : List (Str × Addr)} : ∀ {names : List (Str × NameKind)} {acc : List (Str × Addr)}, (∀ p ∈ acc, cells.lookup p.1 = some p.2) → ∀ p ∈ clOf cells names acc, cells.lookup p.1 = some p.2
  | [], acc, h, p, hp => h p hp
  | (n, k) :: r, acc, h, p, hp => by
    unfold clOf at hp
    split at hp
    · split at hp
      · rename_i a e
        exact clOf_mem (names := r) (acc := (n, a) :: acc) (fun q hq => by
          rcases List.mem_cons.mp hq with rfl | hq
          · exact e
          · exact h q hq) p hp
      · exact clOf_mem h p hp
    · exact clOf_mem h p hp
theorem clOf_acc {cells : List (Str × Addr)} : ∀ {names : List (Str × NameKind)} {acc : List (Str × Addr)}, ∀ p ∈ acc, p ∈ clOf cells names acc
  | [], acc, p, hp => hp
  | (n, k) :: r, acc, p, hp => by
    unfold clOf
    split
    · split
      · exact clOf_acc p (List.mem_cons_of_mem _ hp)
      · exact clOf_acc p hp
    · exact clOf_acc p hp
theorem clOf_has {cells : List (Str × Addr)} {x : Str} {a : Addr} (e : cells.lookup x = some a) : ∀ {names : List (Str × NameKind)} {acc : List (Str × Addr)}, (x, NameKind.free) ∈ names → (x, a) ∈ clOf cells names acc
  | (n, k) :: r, acc, h => by
    unfold clOf
    rcases List.mem_cons.mp h with h | h
    · cases h
      rw [if_pos rfl, e]
      exact clOf_acc _ (List.mem_cons_self ..)
    · split
      · split
        · exact clOf_has e h
        · exact clOf_has e h
      · exact clOf_has e h
theorem lookup_of_mem {α : Type} {x : Str} {a : α} : ∀ {l : List (Str × α)}, (x, a) ∈ l → ∃ b, l.lookup x = some b
  | (y, b) :: r, h => by
    by_cases e : (x == y) = true
    · exact ⟨b, by simp [List.lookup_cons, e]⟩
    · rcases List.mem_cons.mp h with h | h
      · cases h
        exact absurd (beq_self_eq_true _) e
      · obtain ⟨c, hc⟩ := lookup_of_mem h
        refine ⟨c, ?_⟩
        have e' : (x == y) = false := by simpa using e
        simp only [List.lookup_cons, e']
        exact hc
theorem closureFor_of {scope : Scope} {env : Env} (h : ∀ y ∈ scope.names, y.2 = .free → ∃ a, env.cells.lookup y.1 = some a) : closureFor scope env = pure (clOf env.cells scope.names []) := by
  have key : ∀ (names : List (Str × NameKind)) (acc : List (Str × Addr)), (∀ y ∈ names, y.2 = .free → ∃ a, env.cells.lookup y.1 = some a) →
      (forIn names acc (fun x r => match x with
        | (name, kind) => if (kind == NameKind.free) = true then do let a ← cellOf env name; pure (ForInStep.yield ((name, a) :: r)) else pure (ForInStep.yield r)) : Sem (List (Str × Addr))) = pure (clOf env.cells names acc) := by
    intro names
    induction names with
    | nil => intro acc _; rfl
    | cons p r ih =>
      intro acc hh
      obtain ⟨n, k⟩ := p
      rw [List.forIn_cons]
      by_cases hk : k = .free
      · subst hk
        obtain ⟨a, ea⟩ := hh (n, .free) (List.mem_cons_self ..) rfl
        have e1 : cellOf env n = pure a := by unfold cellOf; rw [ea]
        simp only [beq_self_eq_true, if_true, e1, pure_bind, clOf, ea]
        exact ih _ fun y hy => hh y (List.mem_cons_of_mem _ hy)
      · have hk' : (k == NameKind.free) = false := by simpa using hk
        simp only [hk', Bool.false_eq_true, if_false, pure_bind, clOf, hk]
        exact ih _ fun y hy => hh y (List.mem_cons_of_mem _ hy)
  unfold closureFor
  exact (bind_pure _).trans (key scope.names [] h)

/-! ### what stands in the block's scope -/
theorem relabel_look {scope : Scope} {env : Env} {x : Str} {k : NameKind} : ∀ {names : List (Str × NameKind)},
    (names.map fun (n, k) => if (k == NameKind.free && env.scope.kind == .function && env.kindOf n == some .cell) then (n, NameKind.cell) else (n, k)).lookup x = some k →
    ∃ k0, names.lookup x = some k0 ∧ (x, k0) ∈ names ∧ (k0 = k ∨ (k0 = .free ∧ k = .cell))
  | [], h => by simp at h
  | (n, k0) :: r, h => by
    by_cases e : (x == n) = true
    · have en : x = n := by simpa using e
      subst en
      refine ⟨k0, by simp [List.lookup_cons], List.mem_cons_self .., ?_⟩
      rw [List.map_cons] at h
      by_cases hc : (k0 == NameKind.free && env.scope.kind == .function && env.kindOf x == some .cell) = true
      · simp only [hc, if_true, List.lookup_cons, beq_self_eq_true] at h
        simp only [Bool.and_eq_true, beq_iff_eq] at hc
        exact .inr ⟨hc.1.1, (Option.some.inj h).symm⟩
      · simp only [hc, Bool.false_eq_true, if_false, List.lookup_cons, beq_self_eq_true] at h
        exact .inl (Option.some.inj h)
    · have e' : (x == n) = false := by simpa using e
      rw [List.map_cons] at h
      have h' : (r.map fun (n, k) => if (k == NameKind.free && env.scope.kind == .function && env.kindOf n == some .cell) then (n, NameKind.cell) else (n, k)).lookup x = some k := by
        by_cases hc : (k0 == NameKind.free && env.scope.kind == .function && env.kindOf n == some .cell) = true
        · simp only [hc, if_true, List.lookup_cons, e'] at h
          exact h
        · simp only [hc, Bool.false_eq_true, if_false, List.lookup_cons, e'] at h
          exact h
      obtain ⟨k1, h1, h2, h3⟩ := relabel_look (scope := scope) h'
      exact ⟨k1, by simp only [List.lookup_cons, e']; exact h1, List.mem_cons_of_mem _ h2, h3⟩

/-! ### the context of the block -/
def cxComp (X : Cx) (M : List Str) (scope : Scope) (C : Addr) (s₃ : Shared) (H₃ : Hp) (fp : List Addr) : Cx :=
  { X with N := M, s₀ := s₃, H₀ := H₃, env := compEnvC scope (clOf X.env.cells scope.names []) C X.env, outer := X.stack, stack := X.stack, ex := fp, fn := fun _ => false, pn := [], xe := fun _ _ => False }
/-- what a block's scope must be: no cells of its own, its free names are cells of the def -/
structure CompScope (X : Cx) (scope : Scope) (cap : List Str) : Prop where
  kind : scope.kind = .function
  nocell : ∀ y ∈ scope.names, y.2 ≠ .cell
  cell : ∀ y ∈ scope.names, y.2 = .free → X.env.kindOf y.1 = some .cell
  loc : ∀ y ∈ scope.names, y.2 = .local → scope.names.lookup y.1 = some .local
  cap : ∀ x ∈ cap, scope.names.lookup x ≠ some .local
def capN (X : Cx) (ix : List Nat) : List Str := ix.map fun i => X.N.getD i ""
def capS (k : Nat) (ix : List Nat) (σ : St) : St := List.replicate k none ++ ix.map fun i => (σ[i]?).getD none
section
variable {X : Cx} {pins : List (Addr × Obj)} {σ : St} {H : Hp} {s : Shared}
theorem inv_comp {scope : Scope} {L : List Str} {ix : List Nat} {h' : Heap} {fp : List Addr} {t' : Nat} (S : CompScope X scope (capN X ix)) (I : Inv X pins σ H s) (hf : ∀ b ∈ fp, FpOk X pins H b) (hfp : ∀ b ∈ fp, b < s.heap.objs.size)
    (hix : ∀ i ∈ ix, i < X.N.length) (hn : h'.Ns s.heap.objs.size fun _ => none) (hk : ∀ b u, s.heap.get? b = some u → h'.get? b = some u) :
    Inv (cxComp X (L ++ capN X ix) scope s.heap.objs.size s H fp) [] (capS L.length ix σ) H { s with heap := h', toks := t' } := by
  have cl : ∀ x c, (clOf X.env.cells scope.names []).lookup x = some c → X.env.cells.lookup x = some c := fun x c e =>
    clOf_mem (acc := []) (fun p hp => nomatch hp) (x, c) (PySem.mem_of_lookup e)
  refine ⟨⟨I.ok.mod, S.kind, I.ok.glob, I.ok.blt, Nat.le_refl _, fun x y c e1 e2 => I.ok.inj x y c (cl x c e1) (cl y c e2), fun x hx => ?_, fun x c e => (by cases e), I.ok.hd, I.ok.frames, .inl rfl, fun b hb => ⟨Nat.ne_of_lt (hfp b hb), fun x c e => (hf b hb).2.2.2.2.1 x c (cl x c e)⟩,
    fun b o e => I.bs b o e, Nat.le_trans I.ok.bsz I.sz, fun b o e hb => ?_, fun b hb hz => ?_, I.stack, I.stkFree⟩,
    rfl, I.bare, Un.kept hk, ⟨_, hn, fun i x v h1 h2 h3 => ?_⟩, fun x c e => ?_, I.hok.fresh (Nat.le_refl _), fun x c e => I.freeC x c (cl x c e), fun p hp => absurd (show p ∈ ([] : List (Addr × Obj)) from hp) (by simp), I.hok.kept hk, ?_⟩
  · have hx' : (relabel scope X.env).names.lookup x = some .cell ∨ (relabel scope X.env).names.lookup x = some .free := hx
    have fr : (x, NameKind.free) ∈ scope.names := by
      rcases hx' with q | q
      · obtain ⟨k0, _, h2, h3⟩ := relabel_look (scope := scope) q
        rcases h3 with rfl | ⟨rfl, _⟩
        · exact absurd rfl (S.nocell _ h2)
        · exact h2
      · obtain ⟨k0, _, h2, h3⟩ := relabel_look (scope := scope) q
        rcases h3 with rfl | ⟨_, z⟩
        · exact h2
        · cases z
    obtain ⟨c, hc⟩ := I.ok.has x (.inl (S.cell _ fr rfl))
    exact lookup_of_mem (clOf_has hc fr)
  · rcases (hf b hb).2.2.2.1 with z | z
    · exact I.ok.noex b o e z
    · exact absurd (Heap.lt_size (I.ok.bs b o e).1) (Nat.not_lt.mpr z)
  · rcases List.mem_cons.mp (I.stkSub b hz) with z | z
    · exact (hf b hb).2.1 z
    · exact (hf b hb).2.2.1 z
  · -- a name that is drawn in
    have hi : L.length ≤ i := by
      by_cases hi : i < L.length
      · unfold capS at h2
        rw [List.getElem?_append_left (by simpa using hi), List.getElem?_replicate, if_pos hi] at h2
        cases h2
      · omega
    unfold capS at h2
    rw [List.getElem?_append_right (by simpa using hi), List.length_replicate, List.getElem?_map] at h2
    have h1' : (L ++ capN X ix)[i]? = some x := h1
    rw [List.getElem?_append_right hi] at h1'
    unfold capN at h1'
    rw [List.getElem?_map] at h1'
    cases ej : ix[i - L.length]? with
    | none => rw [ej] at h1'; cases h1'
    | some j =>
      rw [ej] at h1' h2
      have hj : j < X.N.length := hix j (List.mem_of_getElem? ej)
      have e1 : X.N[j]? = some x := by
        have : X.N.getD j "" = x := Option.some.inj h1'
        rw [← this]
        simp [List.getD, hj]
      have e2 : σ[j]? = some (some v) := by
        have z : (σ[j]?).getD none = some v := Option.some.inj h2
        cases q : σ[j]? with
        | none => rw [q] at z; cases z
        | some o => rw [q] at z; exact congrArg some z
      have hx : x ∈ capN X ix := by
        unfold capN
        refine List.mem_map.mpr ⟨j, List.mem_of_getElem? ej, ?_⟩
        exact Option.some.inj h1'
      have h3' : (relabel scope X.env).names.lookup x = some .local ∨ (relabel scope X.env).names.lookup x = some .cell ∨ (relabel scope X.env).names.lookup x = some .free := h3
      have fr : (x, NameKind.free) ∈ scope.names := by
        rcases h3' with q | q | q
        · obtain ⟨k0, g1, g2, g3⟩ := relabel_look (scope := scope) q
          rcases g3 with rfl | ⟨_, z⟩
          · exact absurd g1 (S.cap x hx)
          · cases z
        · obtain ⟨k0, _, g2, g3⟩ := relabel_look (scope := scope) q
          rcases g3 with rfl | ⟨rfl, _⟩
          · exact absurd rfl (S.nocell _ g2)
          · exact g2
        · obtain ⟨k0, _, g2, g3⟩ := relabel_look (scope := scope) q
          rcases g3 with rfl | ⟨_, z⟩
          · exact g2
          · cases z
      have hc : X.env.kindOf x = some .cell := S.cell _ fr rfl
      obtain ⟨m, _, hl⟩ := I.loc
      obtain ⟨u, ru, lk⟩ := hl j x v e1 e2 (.inr (.inl hc))
      refine ⟨u, ru, ?_⟩
      rcases lk with ⟨z, _⟩ | ⟨_, c, ec, ic⟩
      · rw [hc] at z; cases z
      · have k3 : (relabel scope X.env).names.lookup x = some .cell ∨ (relabel scope X.env).names.lookup x = some .free := by
          rcases h3' with q | q | q
          · obtain ⟨k0, g1, g2, g3⟩ := relabel_look (scope := scope) q
            rcases g3 with rfl | ⟨_, z⟩
            · exact absurd g1 (S.cap x hx)
            · cases z
          · exact .inl q
          · exact .inr q
        obtain ⟨c', ec'⟩ := lookup_of_mem (clOf_has (names := scope.names) (acc := []) ec fr)
        have e3 := cl x c' ec'
        rw [ec] at e3
        cases e3
        obtain ⟨oc, g1, g2⟩ := ic
        exact .inr ⟨k3, c, ec', oc, hk _ _ g1, g2⟩
  · obtain ⟨v, oc, g1, g2⟩ := I.cell x c (cl x c e)
    exact ⟨v, oc, hk _ _ g1, g2⟩
  · show (capS L.length ix σ).length = (L ++ capN X ix).length
    unfold capS capN
    simp
end
end L2

set_option Elab.async false
set_option linter.all false
set_option maxRecDepth 100000
set_option maxHeartbeats 4000000
namespace L2
open PySem PySem.Spec PyProof.Rows

section
variable {prog : Program} {w : World} {A : Around} {R : Result → Shared → Prop} {s : Shared}
theorem compLoop_go {elt target iter : Expr} {ifs : List Expr} {scope : Scope} {pos : Pos} {it acc : Value} {env : Env} (I : Nat → Shared → Prop)
    (turn : ∀ n s, I n s → wpAny (model prog w) A (pyNext it) (fun r s₁ => match r with
      | none => R (.ok .next) s₁
      | some v => wpAny (model prog w) A (letOwnedTupleGo target it v) (fun _ s₀ => wpAny (model prog w) A (assign target env v) (fun _ s₂ =>
          wpAny (model prog w) A (forIn ifs true fun c r => if r = true then do let ok ← isTrue c env (eval c env); pure (ForInStep.yield ok) else pure (ForInStep.yield r)) (fun ok s₃ =>
            if ok = true then wpAny (model prog w) A (eval elt env) (fun x s₄ =>
              wpAny (model prog w) A (call (.builtin "list.append") [acc, x]) (fun _ s₅ => ∃ m, m < n ∧ I m s₅) (notedBy (model prog w) A env fun e s' => R (.error e) s') s₄) (notedBy (model prog w) A env fun e s' => R (.error e) s') s₃
            else ∃ m, m < n ∧ I m s₃) (notedBy (model prog w) A env fun e s' => R (.error e) s') s₂) (notedBy (model prog w) A env fun e s' => R (.error e) s') s₀) (notedBy (model prog w) A env fun e s' => R (.error e) s') s₁) (notedBy (model prog w) A env fun e s' => R (.error e) s') s)
    (n : Nat) (h : I n s) :
    codeAny (model prog w) A (.compLoop (.ListComp elt [⟨target, iter, ifs, 0⟩] scope pos) 0 it acc env) R s := by
  refine codeAny_loop rfl I (fun n s hI => ?_) n h
  show wpAny _ A ((compTurn (.ListComp elt [⟨target, iter, ifs, 0⟩] scope pos) 0 it acc env).onRaise (fun x => do noteFrame x env; theTreesLotGoes x)) _ _ s
  refine wpAny_noted ?_
  rw [compTurn_list]
  refine wpAny_bind (wpAny_standAt (wpAny_bind (wpAny_mono (turn n s hI) (fun r s₁ h₁ => ?_) fun _ _ h' => h')))
  cases r with
  | none => exact wpAny_pure h₁
  | some v =>
    refine wpAny_bind (wpAny_mono h₁ (fun _ s₀ h₀ => ?_) fun _ _ h' => h')
    refine wpAny_bind (wpAny_mono h₀ (fun _ s₂ h₂ => wpAny_bind (wpAny_mono h₂ (fun ok s₃ h₃ => ?_) fun _ _ h' => h')) fun _ _ h' => h')
    cases ok with
    | false => exact wpAny_pure ⟨rfl, h₃⟩
    | true =>
      exact wpAny_bind (wpAny_bind (wpAny_mono h₃ (fun x s₄ h₄ => wpAny_bind (wpAny_mono h₄ (fun _ s₅ h₅ => wpAny_pure (wpAny_pure ⟨rfl, h₅⟩)) fun _ _ h' => h')) fun _ _ h' => h'))
end

/-! ### tests of a comprehension -/
def PTs (X : Cx) (ifs : List Expr) (t : TT) : Prop :=
  ∀ (pins : List (Addr × Obj)) (s : Shared) (σ : St) (H : Hp) (Q : Bool → Hp → Prop), Inv X pins σ H s → t σ H Q →
    wpAny (model X.prog X.w) X.A (forIn ifs true fun c r => if r = true then do let ok ← isTrue c X.env (eval c X.env); pure (ForInStep.yield ok) else pure (ForInStep.yield r)) (TP X pins σ Q) X.xe s
def tAll : TT := fun _ H Q => Q true H
theorem pts_nil {X : Cx} : PTs X [] tAll := fun _ _ _ H _ I h => wpAny_tests_nil ⟨H, I, h⟩
theorem pts_one {X : Cx} {c : Expr} {t : TT} (hc : PT X c t) : PTs X [c] t := fun pins s σ H Q I h => wpAny_tests_one (hc pins s σ H Q I h)

/-- a target that stores below the k-th slot alone -/
def GOnly (k : Nat) (g : TG) : Prop := ∀ x σ H Q, g x σ H Q → g x σ H fun σ2 H2 => (σ2.length = σ.length ∧ ∀ i : Nat, k ≤ i → σ2[i]? = σ[i]?) ∧ Q σ2 H2
theorem gonly_name {k i : Nat} (h : i < k) : GOnly k (gName i) := fun x σ H Q q =>
  ⟨⟨by rw [List.length_set], fun j hj => by rw [List.getElem?_set_ne (by omega)]⟩, q⟩
def GsOnly (k : Nat) (g : TGs) : Prop := ∀ vs σ H Q, g vs σ H Q → g vs σ H fun σ2 H2 => (σ2.length = σ.length ∧ ∀ i : Nat, k ≤ i → σ2[i]? = σ[i]?) ∧ Q σ2 H2
theorem gsonly_nil {k : Nat} : GsOnly k gNil := fun vs σ H Q ⟨e, q⟩ => ⟨e, ⟨rfl, fun _ _ => rfl⟩, q⟩
theorem TG_mono_name {i : Nat} {x : V} {σ : St} {H : Hp} {Q Q' : St → Hp → Prop} (h : gName i x σ H Q) (k : ∀ σ2 H2, Q σ2 H2 → Q' σ2 H2) : gName i x σ H Q' := k _ _ h
theorem gsonly_cons {k i : Nat} {u : TGs} (h : i < k) (hu : GsOnly k u) : GsOnly k (gCons (gName i) u) := by
  intro vs σ H Q ⟨v, r, e, q⟩
  refine ⟨v, r, e, ?_⟩
  have q' : u r (σ.set i (some v)) H Q := q
  have z := hu _ _ _ _ q'
  show u r (σ.set i (some v)) H fun σ2 H2 => (σ2.length = σ.length ∧ ∀ i : Nat, k ≤ i → σ2[i]? = σ[i]?) ∧ Q σ2 H2
  have e1 : (fun (σ2 : St) (H2 : Hp) => (σ2.length = (σ.set i (some v)).length ∧ ∀ j : Nat, k ≤ j → σ2[j]? = (σ.set i (some v))[j]?) ∧ Q σ2 H2) = fun (σ2 : St) (H2 : Hp) => (σ2.length = σ.length ∧ ∀ j : Nat, k ≤ j → σ2[j]? = σ[j]?) ∧ Q σ2 H2 := by
    funext σ2 H2
    rw [List.length_set]
    apply propext
    constructor
    · rintro ⟨⟨a, b⟩, c⟩
      exact ⟨⟨a, fun j hj => by rw [b j hj, List.getElem?_set_ne (by omega)]⟩, c⟩
    · rintro ⟨⟨a, b⟩, c⟩
      exact ⟨⟨a, fun j hj => by rw [b j hj, List.getElem?_set_ne (by omega)]⟩, c⟩
  rw [e1] at z
  exact z
theorem gonly_tup {K : PySem.W.Frag} {k n : Nat} {t : TGs} (h : GsOnly k t) : GOnly k (gTup K n t) := fun x σ H Q ⟨a, xs, e, hq, hl, q⟩ => ⟨a, xs, e, hq, hl, h _ _ _ _ q⟩

/-! ### a list by a comprehension of one clause -/
/-- W: the invariant by the turn, a measure, what the list holds, the heap -/
def tComp (k : Nat) (ix : List Nat) (wi : TI) (g : TG) (tc : TT) (te : TE) : TE := fun σ H Q => wi σ H fun J H1 => ∀ l, H1 l = none →
  ∃ W : Nat → Nat → List V → Hp → Prop, (∃ m, W 0 m [] (upd H1 l (.lst []))) ∧ ∀ i m ys H2, W i m ys H2 → H2 l = some (.lst ys) ∧
    ((J.stop i H2 ∧ Q (.ref l) H2) ∨ (J.go i H2 ∧ ∀ x H3, J.yld i H2 x H3 → g x (capS k ix σ) H3 fun σ2 H4 => tc σ2 H4 fun b H5 =>
      if b = true then te σ2 H5 fun v H6 => H6 l = some (.lst ys) ∧ ys.length < sizeLine ∧ ∃ m', m' < m ∧ W (i + 1) m' (ys ++ [v]) (upd H6 l (.lst (ys ++ [v]))) else ∃ m', m' < m ∧ W (i + 1) m' ys H5))
section
variable {X : Cx}
theorem pe_comp {elt tg iter : Expr} {ifs : List Expr} {scope : Scope} {pos : Pos} {L : List Str} {ix : List Nat} {wi : TI} {g : TG} {tc : TT} {te : TE} (hc : X.calm = true) (S : CompScope X scope (capN X ix)) (hix : ∀ i ∈ ix, i < X.N.length) (hi : PI X tg iter wi)
    (hg : ∀ C s₃ H₃ fp, PG (cxComp X (L ++ capN X ix) scope C s₃ H₃ fp) tg g) (hgo : GOnly L.length g)
    (ht : ∀ C s₃ H₃ fp, PTs (cxComp X (L ++ capN X ix) scope C s₃ H₃ fp) ifs tc) (he : ∀ C s₃ H₃ fp, PE (cxComp X (L ++ capN X ix) scope C s₃ H₃ fp) elt te)
    (hs : ∀ x, foldedSetIterable iter X.env x = pure x := by intro _; rfl) :
    PE X (.ListComp elt [⟨tg, iter, ifs, 0⟩] scope pos) (tComp L.length ix wi g tc te) := by
  intro pins s σ H Q I h
  rw [eval_ListComp]
  refine wpAny_comprehension_free (use := none) rfl hs (closureFor_of fun y hy e => I.ok.has y.1 (.inl (S.cell y hy e))) S.kind S.loc (thn (hi pins s σ H _ I h) fun xv s1 h1 => thn h1 fun itv s2 h2 => ?_)
  obtain ⟨it, fp, tn, J, H2, rfl, I2, T, st2, f2, q⟩ := h2
  have nD : H2 s2.heap.objs.size = none := I2.hok.fresh (Nat.le_refl _)
  obtain ⟨W, ⟨m0, w0⟩, turn⟩ := q _ nD
  generalize hD : s2.heap.objs.size = D at nD w0 turn
  have fD : ∀ b ∈ fp, b < D := fun b hb => by
    obtain ⟨o, e, _⟩ := T.obj _ _ st2 b hb
    rw [← hD]
    exact Heap.lt_size e
  have I3 : Inv X pins σ (upd H2 D (.lst [])) { s2 with heap := s2.heap.push { cls := .type "list", data := .seq ([] : List Value).toArray }, toks := s2.toks } := by
    rw [← hD]
    exact I2.laid (t' := s2.toks) (fun b u e => Heap.get?_push_of_some _ e) (Nat.le_refl _) ⟨by simp, [], 0, .nil, Heap.get?_push_size _ rfl⟩
  refine wpAny_newObj_type (wpAny_newFunctionEnv S.nocell (by intro y hy; simp at hy) (fun h₁ hns₁ hsb₁ => ?_) S.kind) (by show 0 ≤ sizeLine; exact Nat.zero_le _)
  rw [hD]
  have st3 : tn 0 (s2.heap.push { cls := .type "list", data := .seq ([] : List Value).toArray }) := T.keep _ _ _ st2 fun b hb o e => Heap.get?_push_of_some _ e
  generalize hp3 : s2.heap.push { cls := .type "list", data := .seq ([] : List Value).toArray } = h3 at I3 st3 hns₁ hsb₁
  dsimp only at hns₁ hsb₁ ⊢
  have sz3 : h3.objs.size = D + 1 := by rw [← hp3, Heap.size_push, hD]
  have old : ∀ b u, h3.get? b = some u → h₁.get? b = some u := fun b u e => hsb₁.extBut b u (Nat.ne_of_lt (Heap.lt_size e)) (Heap.get?_push_of_some _ e)
  have f3 : ∀ b ∈ fp, FpOk X pins (upd H2 D (.lst [])) b := fun b hb => ⟨by rw [upd_ne (Nat.ne_of_lt (fD b hb))]; exact (f2 b hb).1, (f2 b hb).2⟩
  have I4 := inv_comp (L := L) (ix := ix) (t' := s2.toks) S I3 f3 (fun b hb => by show b < h3.objs.size; rw [sz3]; exact Nat.lt_succ_of_lt (fD b hb)) hix (h' := h₁) (by
    have := hns₁
    simpa using this) old
  have st4 : tn 0 h₁ := T.keep _ _ _ st3 fun b hb o e => old b o e
  -- the block
  generalize hC : (cxComp X (L ++ capN X ix) scope h3.objs.size { s2 with heap := h3, toks := s2.toks } (upd H2 D (.lst [])) fp) = Y at I4
  have eEnv : Y.env = compEnvC scope (clOf X.env.cells scope.names []) h3.objs.size X.env := by rw [← hC]; rfl
  have hcY : Y.calm = true := by rw [← hC]; exact hc
  have xeY : Y.xe = fun _ _ => False := by rw [← hC]; rfl
  have eP : Y.prog = X.prog := by rw [← hC]; rfl
  have eW : Y.w = X.w := by rw [← hC]; rfl
  have eK : Y.K = X.K := by rw [← hC]; rfl
  have eA : Y.A = X.A := by rw [← hC]; rfl
  have gY : PG Y tg g := by rw [← hC]; exact hg _ _ _ _
  have tY : PTs Y ifs tc := by rw [← hC]; exact ht _ _ _ _
  have pY : PE Y elt te := by rw [← hC]; exact he _ _ _ _
  have stat : ∀ {H' : Hp}, (∀ b ∈ fp, H' b = none) → ∀ b ∈ fp, FpOk Y [] H' b := fun {H'} hn b hb => by
    have z1 : b ∈ Y.ex := by rw [← hC]; exact hb
    have zp : Y.pn = [] := by rw [← hC]; rfl
    refine ⟨hn b hb, (I4.ok.exf b z1).1, I4.ok.exfs b z1, .inl z1, (I4.ok.exf b z1).2, fun p hp => ?_⟩
    rw [zp] at hp
    exact absurd hp (by simp)
  have fin : ∀ {H' : Hp} {s' : Shared}, Inv Y [] (capS L.length ix σ) H' s' → Q (.ref D) H' → compPost (model X.prog X.w) X.A X.xe none (EP X pins σ Q) (.ref D) h3.objs.size (.ok .next) s' := by
    intro H' s' J' qe
    obtain ⟨m, hm, _⟩ := J'.loc
    rw [eEnv] at hm
    refine ⟨m, hm, fun h' sb => ⟨.ref D, H', ?_, rfl, qe⟩⟩
    have hfr : H' h3.objs.size = none := by
      have := J'.free
      rw [eEnv] at this
      exact this
    have neC : ∀ b u, H' b = some u → b ≠ h3.objs.size := fun b u e z => by rw [z, hfr] at e; cases e
    have base : Un (frs X.stack) fp (upd H2 D (.lst [])) H' h3 s'.heap := by
      have := J'.base
      rw [← hC] at this
      exact this
    have to' : ∀ b o, b ≠ h3.objs.size → s'.heap.get? b = some o → h'.get? b = some o := fun b o hb e => sb.extBut b o hb e
    have lt3 : ∀ b o, h3.get? b = some o → b ≠ h3.objs.size := fun b o e => Nat.ne_of_lt (Heap.lt_size e)
    have un : Un (frs X.stack) fp (upd H2 D (.lst [])) H' h3 h' :=
      ⟨fun b o e n hb hx => to' b o (lt3 b o e) (base.keep b o e n hb hx),
       fun b o e n hb hx => by
        obtain ⟨sl, z⟩ := base.slot b o e n hb hx
        exact ⟨sl, to' _ _ (lt3 b o e) z⟩,
       base.free,
       fun b o e hx => by
        obtain ⟨o', z⟩ := base.there b o e hx
        exact ⟨o', to' _ _ (lt3 b o e) z⟩,
       base.tups, base.frzs, base.tbls⟩
    have hok : HOk X.prog X.w H' h' := fun b u e => by
      have z := J'.hok b u e
      rw [eP, eW] at z
      refine z.stay (fun c v hcv qv => to' c v ?_ qv) (fun _ qq => qq) fun _ _ qq => qq
      rcases hcv with zz | zz
      · rw [zz]; exact neC b u e
      · exact neC c _ zz
    refine I3.call' (s' := { s' with heap := h' }) (ch := fp) ?_ un hok J'.bare fun b hb => ?_
    · have := J'.os
      rw [← hC] at this
      exact this
    · obtain ⟨_, g1, g2, g3, g4, g5⟩ := f2 b hb
      exact ⟨g3, g1, g4, g5⟩
  have key : ∀ s5 : Shared, s5 = { s2 with heap := h₁, toks := s2.toks + ([] : List (Str × Value)).length } →
      codeAny (model X.prog X.w) X.A (.compLoop (.ListComp elt [⟨tg, iter, ifs, 0⟩] scope pos) 0 (.ref it) (.ref D) (compEnvC scope (clOf X.env.cells scope.names []) h3.objs.size X.env))
        (compPost (model X.prog X.w) X.A X.xe none (EP X pins σ Q) (.ref D) h3.objs.size) s5 := by
    rintro s5 rfl
    rw [← eEnv, ← eP, ← eW, ← eA]
    refine compLoop_go (fun n s' => ∃ i ys H', Inv Y [] (capS L.length ix σ) H' s' ∧ tn i s'.heap ∧ (∀ b ∈ fp, H' b = none) ∧ W i n ys H') ?_ m0 ⟨0, [], _, ?_, st4, fun b hb => (f3 b hb).1, w0⟩
    · rintro n s6 ⟨i, ys, H6, I6, st6, fr6, w6⟩
      obtain ⟨hl6, alt⟩ := turn i n ys H6 w6
      rcases alt with ⟨stop, qe⟩ | ⟨go, step⟩
      · have Td := T.done Y eP eW eK hcY i [] s6 _ H6 (fun _ _ => False) I6 (stat fr6) st6 stop
        rw [← eP, ← eW] at Td
        refine wpAny_mono Td (fun r s7 hr7 => ?_) fun _ _ f => f.elim
        obtain ⟨hr, I7⟩ := hr7
        subst hr
        rw [eP, eW, eA]
        exact fin I7 qe
      · have Ti := T.item Y eP eW eK hcY i [] s6 _ H6 (fun _ _ => False) I6 (stat fr6) st6 go
        rw [← eP, ← eW] at Ti
        refine wpAny_mono Ti (fun r s7 hr7 => ?_) fun _ _ f => f.elim
        obtain ⟨u, hr, h7⟩ := hr7
        subst hr
        refine wpAny_mono h7 (fun _ s8 hr8 => ?_) fun _ _ f => f.elim
        obtain ⟨x, H8, I8, r8, y8, st8, fr8⟩ := hr8
        have I8' := I8.pinned (stat fr8) (T.obj _ _ st8)
        have stp := hgo _ _ _ _ (step x H8 y8)
        refine wpAny_mono (gY _ s8 _ H8 x u _ I8' r8 stp) (fun _ s9 ⟨σ9, H9, I9, ⟨k1, k2⟩, q9⟩ => ?_) fun _ _ f => by rw [xeY] at f; exact f.elim
        have weak : ∀ {Hz : Hp} {sz : Shared}, Inv Y ([] ++ pinsAt fp s8.heap) σ9 Hz sz → Inv Y [] (capS L.length ix σ) Hz sz ∧ tn (i + 1) sz.heap ∧ ∀ b ∈ fp, Hz b = none := fun {Hz sz} Iz => by
          refine ⟨Iz.unpinned.weak k1.symm fun j v e => ?_, T.keep _ _ _ st8 fun b hb o e => (Iz.pin (b, o) (List.mem_append_right _ (List.mem_append_right _ (mem_pinsAt hb e)))).1, fun b hb => ?_⟩
          · by_cases hj : L.length ≤ j
            · rw [k2 j hj]; exact e
            · unfold capS at e
              rw [List.getElem?_append_left (by simpa using Nat.lt_of_not_le hj), List.getElem?_replicate, if_pos (Nat.lt_of_not_le hj)] at e
              cases e
          · obtain ⟨o, e, d⟩ := T.obj _ _ st8 b hb
            exact (Iz.pin (b, o) (List.mem_append_right _ (List.mem_append_right _ (mem_pinsAt hb e)))).2.1
        refine wpAny_mono (tY _ s9 σ9 H9 _ I9 q9) (fun ok s10 ⟨H10, I10, q10⟩ => ?_) fun _ _ f => by rw [xeY] at f; exact f.elim
        cases ok with
        | false =>
          have q10' : ∃ m', m' < n ∧ W (i + 1) m' ys H10 := q10
          obtain ⟨m', hm', w10⟩ := q10'
          obtain ⟨z1, z2, z3⟩ := weak I10
          exact ⟨m', hm', i + 1, ys, H10, z1, z2, z3, w10⟩
        | true =>
          refine wpAny_mono (pY _ s10 σ9 H10 _ I10 q10) (fun xv s11 ⟨v, H11, I11, r11, hl11, hz11, m', hm', w11⟩ => ?_) fun _ _ f => by rw [xeY] at f; exact f.elim
          refine wpAny_mono (mt_append (X := Y) _ s11 σ9 H11 (.ref D) [v] (.ref D) [xv] (fun _ Hq => Hq = upd H11 D (.lst (ys ++ [v]))) I11 rfl (.cons r11 .nil) ⟨D, ys, v, rfl, rfl, hl11, hz11, rfl⟩) (fun _ s12 ⟨_, H12, I12, _, e12⟩ => ?_) fun _ _ f => by rw [xeY] at f; exact f.elim
          subst e12
          obtain ⟨z1, z2, z3⟩ := weak I12
          exact ⟨m', hm', i + 1, ys ++ [v], _, z1, z2, z3, w11⟩
    · exact I4
  exact codeAny_compStart_list (key _ rfl) (T.self _ 0 _ _ _ st4 (key _ rfl))
end
end L2

set_option Elab.async false
set_option linter.all false
set_option maxRecDepth 100000
set_option maxHeartbeats 4000000
namespace L2
open PySem PySem.Spec PyProof.Rows

/-! ### exceptions that fly: the object, its own dict, its newest entry -/
def Fl (h : Heap) (e : Addr) (cls : Value) (dd : Option Addr) (T : Addr) (fl : Value) : Prop :=
  ∃ oe vs oT ts, h.get? e = some oe ∧ oe.cls = cls ∧ oe.dict = dd ∧ oe.data = .fields vs ∧ vs[1]? = some (.ref T) ∧ T ≠ e ∧ h.get? T = some oT ∧ oT.data = .fields ts ∧ ts[3]? = some fl
/-- just made -/
def Fl0 (h : Heap) (e : Addr) (cls : Value) (dd : Option Addr) : Prop :=
  ∃ oe vs, h.get? e = some oe ∧ oe.cls = cls ∧ oe.dict = dd ∧ oe.data = .fields vs ∧ vs[1]? = some .none
/-- all but what stands at ex is kept, the frames at fs up to their slots -/
def Kp (fs ex : List Addr) (h h' : Heap) : Prop := ∀ b o, b ∉ ex → h.get? b = some o → (b ∉ fs → h'.get? b = some o) ∧ ∃ sl, h'.get? b = some { o with slots := sl }
theorem Kp.of {fs ex : List Addr} {h h' : Heap} (k : ∀ b o, b ∉ ex → h.get? b = some o → h'.get? b = some o) : Kp fs ex h h' := fun b o hb e => ⟨fun _ => k b o hb e, o.slots, k b o hb e⟩
theorem Kp.trans {fs ex ex' : List Addr} {h h1 h2 : Heap} (a : Kp fs ex h h1) (b : Kp fs ex' h1 h2) (n : ∀ c ∈ ex', c ∈ ex ∨ h.get? c = none) : Kp fs ex h h2 := by
  intro c o hc e
  obtain ⟨a1, sl, a2⟩ := a c o hc e
  have hc' : c ∉ ex' := fun z => by
    rcases n c z with q | q
    · exact hc q
    · rw [e] at q; cases q
  obtain ⟨b1, sl', b2⟩ := b c _ hc' a2
  exact ⟨fun hf => (b c _ hc' (a1 hf)).1 hf, sl', b2⟩
theorem Kp.mono {fs ex ex' : List Addr} {h h' : Heap} (a : Kp fs ex h h') (m : ∀ c ∈ ex, c ∈ ex') : Kp fs ex' h h' := fun b o hb e => a b o (fun z => hb (m b z)) e

theorem Kp.all {fs ex : List Addr} {h h' : Heap} (a : Kp [] ex h h') : Kp fs ex h h' := fun b o hb e => ⟨fun _ => (a b o hb e).1 (by simp), (a b o hb e).2⟩

section
variable {M : Model} {A : Around} {E : Value → Shared → Prop} {s : Shared}
theorem fl_shut {e T : Addr} {cls : Value} {dd : Option Addr} {fl : Value} {Q : Unit → Shared → Prop} (f : Fl s.heap e cls dd T fl)
    (h : ∀ h', Kp [] [T] s.heap h' → Fl h' e cls dd T .none → Q () { s with heap := h' }) : wpAny M A (setFlight (.ref e) none) Q E s := by
  obtain ⟨oe, vs, oT, ts, he, hc, hdd, hd, h1, hne, hT, hdT, h3⟩ := f
  have z3 : 3 < ts.size := (Array.getElem?_eq_some_iff.mp h3).1
  unfold setFlight
  refine wpAny_bind (wpAny_field he hd h1 ?_)
  rw [if_pos (by simp)]
  refine wpAny_setField hT hdT z3 (h _ (Kp.of fun b o hb e => ?_) ⟨oe, vs, _, _, ?_, hc, hdd, hd, h1, hne, Heap.get?_update_self _ hT (Obj.isFreed_of_fields (Obj.data_mapFields hdT _)), Obj.data_mapFields hdT _, by simp [z3]⟩)
  · rw [Heap.get?_update_other _ _ (by intro z; exact hb (by simp [z]))]
    exact e
  · rw [Heap.get?_update_other _ _ hne]
    exact he
theorem dict_mapFields (o : Obj) (f : Array Value → Array Value) : (o.mapFields f).dict = o.dict := by
  obtain ⟨c, d, dt, sl⟩ := o
  cases dt <;> rfl
theorem fl_entry {base : Heap} {env : Env} {outer : List Env} {L e : Addr} {oe : Obj} {vs : Array Value} {head : Value} {nx : Bool} {Q : Unit → Shared → Prop}
    (hfr : A.frames = some (env :: outer)) (hl : s.heap.FunFrames base (env :: outer)) (hf : env.frame = some L) (he : s.heap.get? e = some oe) (hd : oe.data = .fields vs) (hsz : 1 < vs.size)
    (h : ∀ h' T, Kp (frs (env :: outer)) [e] s.heap h' → s.heap.objs.size ≤ T → Fl h' e oe.cls oe.dict T (rawInt L) → Q () { s with heap := h' }) :
    wpAny M A (do let a ← frameOf env; let pl ← entryPlaceOf L nx; let b ← EntryCells.newEntry head a .none (rawInt L) .none pl; setField (.ref e) 1 b) Q E s := by
  have ne : e ∉ frs (env :: outer) := fun hm => by
    obtain ⟨_, o, ho, z⟩ := hl.mem hm
    rw [he] at ho
    cases ho
    exact z vs hd
  refine wpAny_bind (wpAny_frameOf_fun hfr hl hf fun h₁ so => ?_)
  obtain ⟨sz, same, slots⟩ := so
  refine wpAny_bind (wpAny_entryPlaceOf fun pl hpl => ?_)
  unfold EntryCells.newEntry newFields
  refine wpAny_bind (wpAny_newObj_type ?_ (hpl.sizeOk5 _ _ _ _ _))
  generalize hO : ({ cls := .type "traceback", dict := none, data := .fields ([head, .ref L, .none, rawInt L, .none] ++ (if pl.isEmpty then List.replicate 6 Value.none else pl)).toArray } : Obj) = O
  have he1 : h₁.get? e = some oe := (same e ne).trans he
  have he2 : (h₁.push O).get? e = some oe := Heap.get?_push_of_some _ he1
  have hTe : h₁.objs.size ≠ e := Nat.ne_of_gt (Heap.lt_size he1)
  refine wpAny_setField he2 hd hsz (h _ h₁.objs.size (fun b o hb hbo => ?_) (Nat.le_of_eq sz.symm) ?_)
  · have hbe : e ≠ b := fun z => hb (by simp [z])
    have go : ∀ u, h₁.get? b = some u → ((h₁.push O).update e (Obj.mapFields (·.setIfInBounds 1 (Value.ref h₁.objs.size)))).get? b = some u := fun u q => by
      rw [Heap.get?_update_other _ _ hbe]
      exact Heap.get?_push_of_some _ q
    refine ⟨fun hnf => go o ((same b hnf).trans hbo), ?_⟩
    obtain ⟨sl, q⟩ := slots b o hbo
    exact ⟨sl, go _ q⟩
  · have hd3 := Obj.data_mapFields hd (·.setIfInBounds 1 (Value.ref h₁.objs.size))
    refine ⟨_, _, O, _, Heap.get?_update_self _ he2 (Obj.isFreed_of_fields hd3), Obj.cls_mapFields _ _, dict_mapFields _ _, hd3, by simp [hsz], hTe, ?_, by rw [← hO], ?_⟩
    · rw [Heap.get?_update_other _ _ (Ne.symm hTe)]
      exact Heap.get?_push_size h₁ (by rw [← hO]; rfl)
    · simp
theorem fl_note {base : Heap} {env : Env} {outer : List Env} {L e T : Addr} {cls : Value} {dd : Option Addr} {Q : Unit → Shared → Prop}
    (hfr : A.frames = some (env :: outer)) (hl : s.heap.FunFrames base (env :: outer)) (hf : env.frame = some L) (f : Fl s.heap e cls dd T .none)
    (h : ∀ h' T', Kp (frs (env :: outer)) [e, T] s.heap h' → s.heap.objs.size ≤ T' → Fl h' e cls dd T' (rawInt L) → Q () { s with heap := h' }) : wpAny M A (noteFrame (.ref e) env) Q E s := by
  obtain ⟨oe, vs, oT, ts, he, hc, hdd, hd, h1, hne, hT, hdT, h3⟩ := f
  subst hc hdd
  unfold noteFrame
  simp only [hf]
  refine wpAny_bind (wpAny_field he hd h1 ?_)
  rw [if_pos (by simp)]
  refine wpAny_bind (wpAny_field hT hdT h3 ?_)
  rw [if_neg (by simp [rawInt])]
  refine wpAny_bind (wpAny_setField hT hdT (Array.getElem?_eq_some_iff.mp h3).1 ?_)
  have other : ∀ b, b ≠ T → (s.heap.update T (Obj.mapFields (·.setIfInBounds 3 Value.none))).get? b = s.heap.get? b := fun b hb => Heap.get?_update_other _ _ (Ne.symm hb)
  have nT : ∀ b o, s.heap.get? b = some o → (∀ vs, o.data ≠ .fields vs) → b ≠ T := fun b o hb z q => by
    rw [q, hT] at hb
    cases hb
    exact z ts hdT
  refine fl_entry hfr (hl.of_keeps fun b o hb z => ⟨o, (other b (nT b o hb z)).trans hb, rfl⟩) hf ((other e (Ne.symm hne)).trans he) hd (Array.getElem?_eq_some_iff.mp h1).1 fun h' T' k z f' => h h' T' ?_ ?_ f'
  · intro b o hb hbo
    have hbT : b ≠ T := fun q => hb (by simp [q])
    exact k b o (fun q => hb (by simp at q; simp [q])) ((other b hbT).trans hbo)
  · simpa using z
theorem fl_note0 {base : Heap} {env : Env} {outer : List Env} {L e : Addr} {cls : Value} {dd : Option Addr} {Q : Unit → Shared → Prop}
    (hfr : A.frames = some (env :: outer)) (hl : s.heap.FunFrames base (env :: outer)) (hf : env.frame = some L) (f : Fl0 s.heap e cls dd)
    (h : ∀ h' T', Kp (frs (env :: outer)) [e] s.heap h' → s.heap.objs.size ≤ T' → Fl h' e cls dd T' (rawInt L) → Q () { s with heap := h' }) : wpAny M A (noteFrame (.ref e) env) Q E s := by
  obtain ⟨oe, vs, he, hc, hdd, hd, h1⟩ := f
  subst hc hdd
  unfold noteFrame
  simp only [hf]
  refine wpAny_bind (wpAny_field he hd h1 ?_)
  rw [if_neg (by decide)]
  exact fl_entry hfr hl hf he hd (Array.getElem?_eq_some_iff.mp h1).1 h
/-- an exception leaves the frame -/
theorem fl_leave {base : Heap} {env : Env} {outer : List Env} {L e T : Addr} {cls : Value} {dd : Option Addr} {Q : Unit → Shared → Prop}
    (hfr : A.frames = some (env :: outer)) (hl : s.heap.FunFrames base (env :: outer)) (hf : env.frame = some L) (f : Fl s.heap e cls dd T .none)
    (h : ∀ h' T', Kp (frs (env :: outer)) [e, T] s.heap h' → s.heap.objs.size ≤ T' → Fl h' e cls dd T' .none → Q () { s with heap := h' }) : wpAny M A (leaving env (.ref e)) Q E s := by
  unfold leaving
  refine wpAny_bind (fl_note hfr hl hf f fun h1 T' k z f' => fl_shut f' fun h2 k2 f2 => h h2 T' (k.trans k2.all fun c hc => .inr ?_) z f2)
  have : c = T' := by simpa using hc
  subst this
  exact Heap.get?_none_of_le z
theorem fl_leave0 {base : Heap} {env : Env} {outer : List Env} {L e : Addr} {cls : Value} {dd : Option Addr} {Q : Unit → Shared → Prop}
    (hfr : A.frames = some (env :: outer)) (hl : s.heap.FunFrames base (env :: outer)) (hf : env.frame = some L) (f : Fl0 s.heap e cls dd)
    (h : ∀ h' T', Kp (frs (env :: outer)) [e] s.heap h' → s.heap.objs.size ≤ T' → Fl h' e cls dd T' .none → Q () { s with heap := h' }) : wpAny M A (leaving env (.ref e)) Q E s := by
  unfold leaving
  refine wpAny_bind (fl_note0 hfr hl hf f fun h1 T' k z f' => fl_shut f' fun h2 k2 f2 => h h2 T' (k.trans k2.all fun c hc => .inr ?_) z f2)
  have : c = T' := by simpa using hc
  subst this
  exact Heap.get?_none_of_le z
end
end L2

set_option Elab.async false
set_option linter.all false
set_option maxRecDepth 100000
set_option maxHeartbeats 4000000
namespace L2
open PySem PySem.Spec PyProof.Rows

theorem ObjOk.some {P : Program} {w : World} {H : Hp} {h : Heap} {a : Addr} {o : HO} (x : ObjOk P w H h a o) : ∃ ob, h.get? a = some ob := by
  cases o with
  | lst xs => obtain ⟨_, _, _, _, e⟩ := x; exact ⟨_, e⟩
  | tup xs => obtain ⟨_, _, _, ob, e, _⟩ := x; exact ⟨_, e⟩
  | dK kvs => obtain ⟨_, _, _, _, ob, _, _, e, _⟩ := x; exact ⟨_, e⟩
  | dT kvs => obtain ⟨_, _, _, _, ob, _, _, e, _⟩ := x; exact ⟨_, e⟩
  | set S n => obtain ⟨ob, _, _, _, e, _⟩ := x; exact ⟨_, e⟩
  | ins C dx fs => obtain ⟨_, _, _, e, _⟩ := x; exact ⟨_, e⟩
  | own y => exact x
  | xd fs => obtain ⟨_, ⟨od, _, _, e, _⟩, _⟩ := x; exact ⟨_, e⟩
  | met f y => exact ⟨_, x⟩
  | rng lo hi => obtain ⟨_, _, _, e⟩ := x; exact ⟨_, e⟩
  | frz ob u => exact ⟨_, x.1⟩
  | tbl ps => exact ⟨_, x⟩
  | ext φ => exact x.2.1
section
variable {P : Program} {w : World} {H H₀ : Hp} {h h₀ h' : Heap} {fs fs' ex : List Addr}
theorem HOk.kp (x : HOk P w H h) (k : Kp fs ex h h') (hf : ∀ b ∈ fs, H b = none) (he : ∀ b ∈ ex, H b = none) : HOk P w H h' := fun a o e =>
  (x a o e).stay (fun b u hb q => by
    have nn : H b ≠ none := by
      rcases hb with z | z
      · rw [z, e]; simp
      · rw [z]; simp
    exact (k b u (fun z => nn (he b z)) q).1 fun z => nn (hf b z)) (fun _ q => q) fun _ _ q => q
theorem Un.kp (u : Un fs [] H₀ H h₀ h) (k : Kp fs' ex h h') (hx : ∀ b ∈ ex, h₀.get? b = none) (hs : ∀ b ∈ fs', b ∈ fs ∨ h₀.get? b = none) : Un fs [] H₀ H h₀ h' where
  keep := fun b o q n hb hz => (k b o (fun z => by rw [hx b z] at q; cases q) (u.keep b o q n hb hz)).1 fun z => by
    rcases hs b z with y | y
    · exact hb y
    · rw [q] at y; cases y
  slot := fun b o q n hb hz => by
    obtain ⟨sl, e⟩ := u.slot b o q n hb hz
    obtain ⟨_, sl', e'⟩ := k b _ (fun z => by rw [hx b z] at q; cases q) e
    exact ⟨sl', e'⟩
  free := u.free
  there := fun b o q hz => by
    obtain ⟨o', e⟩ := u.there b o q hz
    obtain ⟨_, sl', e'⟩ := k b _ (fun z => by rw [hx b z] at q; cases q) e
    exact ⟨_, e'⟩
  tups := u.tups
  frzs := u.frzs
  tbls := u.tbls
theorem Un.old (u : Un fs [] H₀ H h₀ h) {b : Addr} (n : h.get? b = none) : h₀.get? b = none := by
  cases q : h₀.get? b with
  | none => rfl
  | some o =>
    obtain ⟨o', e⟩ := u.there b o q (by simp)
    rw [n] at e
    cases e
theorem HOk.free (x : HOk P w H h) {b : Addr} (n : h.get? b = none) : H b = none := by
  cases q : H b with
  | none => rfl
  | some o =>
    have := (x b o q).some
    obtain ⟨ob, e⟩ := this
    rw [n] at e
    cases e
end

/-- how an exception lies behind a call: it flies, all else is as the reading says -/
def CXe (P : Program) (w : World) : CXT := fun outer H s E ev s' => ∃ (e : Addr) (cls : Value) (dd : Option Addr) (T : Addr) (H' : Hp), ev = .ref e ∧ s'.os = s.os ∧ AllBare s'.gens ∧ Un (frs outer) [] H H' s.heap s'.heap ∧ HOk P w H' s'.heap ∧
  Fl s'.heap e cls dd T .none ∧ H' e = none ∧ H' T = none ∧ s.heap.get? e = none ∧ s.heap.get? T = none ∧ E cls dd H'
/-- an exception made in this body may leave it, if E wants it so -/
def Throws (X : Cx) (E : XK) : Prop := ∀ (pins : List (Addr × Obj)) (σ : St) (H : Hp) (s : Shared) (e : Addr) (cls : Value) (dd : Option Addr), Inv X pins σ H s → Fl0 s.heap e cls dd → H e = none → X.s₀.heap.get? e = none → E cls dd H → X.xe (.ref e) s
theorem pass_e0 {P : Program} {w : World} {X : Cx} : Passes (CXe P w) X E0 := fun _ _ _ _ _ _ _ ⟨_, _, _, _, _, _, _, _, _, _, _, _, _, _, _, q⟩ => q.elim
section
variable {P : Program} {w : World} {K : PySem.W.Frag} {mg : Str → Option Value} {base : Heap} {N : List Str} {qual : Str} {scope : Scope} {f : Addr} {cd : Value} {A : Around} {outer : List Env} {s : Shared} {H : Hp} {E : XK}
theorem throws_cx : Throws (cxOf (CXe P w) P w K mg base N qual scope f cd A outer s H E) E := by
  intro pins σ H1 s1 e cls dd I fl ne le q
  have hL : s.heap.objs.size ≤ s1.heap.objs.size := I.sz
  refine fl_leave0 (base := base) I.ok.frames I.stack rfl fl fun h' T k z f' => ?_
  have le1 : s.heap.get? T = none := Heap.get?_none_of_le (Nat.le_trans hL z)
  have un : Un (frs outer) [] H H1 s.heap s1.heap := I.base
  refine ⟨e, cls, dd, T, H1, rfl, I.os, I.bare, un.kp k (fun b hb => ?_) (fun b hb => ?_), I.hok.kp k I.stkFree (fun b hb => ?_), f', ne, I.hok.fresh z, le, le1, q⟩
  · obtain rfl : b = e := by simpa using hb
    exact le
  · rcases List.mem_cons.mp (I.stkSub b hb) with y | y
    · exact .inr (Heap.get?_none_of_le (by rw [y]; exact Nat.le_refl _))
    · exact .inl y
  · obtain rfl : b = e := by simpa using hb
    exact ne
theorem pass_cx : Passes (CXe P w) (cxOf (CXe P w) P w K mg base N qual scope f cd A outer s H E) E := by
  intro pins σ H1 s1 ev s2 I ⟨e, cls, dd, T, H2, ee, os, bare, un, hok, fl, ne, nT, le, lT, q⟩
  subst ee
  have I2 := I.call' (ch := []) os un hok bare fun b z => absurd z (by simp)
  have hL : s.heap.objs.size ≤ s1.heap.objs.size := I.sz
  have hL2 : s.heap.objs.size ≤ s2.heap.objs.size := I2.sz
  refine fl_leave (base := base) I2.ok.frames I2.stack rfl fl fun h' T' k z f' => ?_
  have un2 : Un (frs outer) [] H H2 s.heap s2.heap := I2.base
  have un1 : Un (frs outer) [] H H1 s.heap s1.heap := I.base
  refine ⟨e, cls, dd, T', H2, rfl, I2.os, I2.bare, un2.kp k (fun b hb => ?_) (fun b hb => ?_), I2.hok.kp k I2.stkFree (fun b hb => ?_), f', ne, I2.hok.fresh z, un1.old le, Heap.get?_none_of_le (Nat.le_trans hL2 z), q⟩
  · rcases (by simpa using hb : b = e ∨ b = T) with y | y
    · rw [y]; exact un1.old le
    · rw [y]; exact un1.old lT
  · rcases List.mem_cons.mp (I2.stkSub b hb) with y | y
    · exact .inr (Heap.get?_none_of_le (by rw [y]; exact Nat.le_refl _))
    · exact .inl y
  · rcases (by simpa using hb : b = e ∨ b = T) with y | y
    · rw [y]; exact ne
    · rw [y]; exact nT
/-- THE RULE for a def from which exceptions may come -/
theorem Fun.okE {x : Str} {st : Stmt} {fd : FuncData} {ps : List Str} {k : Nat} {sp : Sp} (F : Fun K x qual st f fd) (S : FnScope N ps (defScope st)) (len : ∀ vs H Q E, sp vs H Q E → vs.length = ps.length)
    (hbody : ∀ (cdv : Value) (A : Around) (outer : List Env) (s : Shared) (H : Hp) (vs : List V) (Q : VK) (E : XK), Room k (A.deeper (envOfC qual (defScope st) s.heap.objs.size f cdv)) → sp vs H Q E →
      ∃ t, PSs (cxOf (CXe P w) P w K mg base N qual (defScope st) f cdv A outer s H E) (defBody st) t ∧ t { nx := fun _ H' => Q .non H', rt := Q } (start N vs) H) : FnOk P w K mg base (CXe P w) (k + 1) f fd ps sp := by
  obtain ⟨oc, od, kV, doc, pm, an, cdv, ct, osl, rfl, lk, hcd⟩ := F.ex
  exact fn_of lk hcd S len fun A outer s H vs Q E hr hsp => hbody cdv A outer s H vs Q E hr hsp
/-- a promise without exceptions is one with none -/
theorem FnOk.toE {fd : FuncData} {ps : List Str} {k : Nat} {sp : Sp} (F : FnOk P w K mg base CX0 k f fd ps sp) : FnOk P w K mg base (CXe P w) k f fd ps sp :=
  ⟨F.len, fun A outer s H args us vs Q E hr e0 hb r hs => codeAny_mono (F.run A outer s H args us vs Q E hr e0 hb r hs) fun r s' h => by
    cases r with
    | ok f => cases f <;> exact h
    | error e => exact False.elim h⟩
end

/-! ### raise C(..) of an own class without __init__ -/
section
variable {K : PySem.W.Frag} {h : Heap} {C : Addr} {bmB : List Value} {newId : String}
theorem exc_obj (X : K.In h) (q : PySem.W.excIn K C bmB newId = true) : ∃ bm N nm q bs hdct sn sub ab col dd k0 k1 k2 k3 k5 mN, h.get? C = some (excClassObj nm q C N bs bm hdct sn sub ab col dd k0 k1 k2 k3 k5 newId) ∧ h.Ns N mN ∧ mN "__init__" = none ∧ OwnTail h bmB bm := by
  unfold PySem.W.excIn at q
  split at q
  · rename_i dd cd sl ho
    split at q
    · rename_i C' bm k0 k1 k2 k3 n k5 hm hs
      simp only [Bool.and_eq_true, beq_iff_eq, Bool.not_eq_true'] at q
      obtain ⟨⟨⟨⟨⟨a1, a2⟩, a3⟩, a4⟩, a5⟩, a6⟩ := q
      subst a1 a2
      obtain ⟨nm, bs, mro, ns, qn, hd, sn, sub, ab, col, del⟩ := cd
      subst hm a3
      obtain ⟨l⟩ := sl
      have hs' : l = [k0, k1, k2, k3, some (.builtin n), k5] := hs
      subst hs'
      exact ⟨bm, ns, nm, qn, bs, hd, sn, sub, ab, col, dd, k0, k1, k2, k3, k5, _, X _ _ ho, .of_isNs (PySem.W.isNs_of_in X a5), PySem.W.nsMap_none_of_in X a5 a6, PySem.W.tail_of_in X a4⟩
    · cases q
  · cases q
end
abbrev bmVal : List Value := [.type "ValueError", .type "Exception", .type "BaseException", .type "object"]
/-- an own error class, above it ValueError, nothing of it all with an __init__ of its own -/
def ExcC (K : PySem.W.Frag) (C : Addr) : Prop := PySem.W.excIn K C bmVal "ValueError.__new__" = true ∨ PySem.W.excIn K C bmVal "Exception.__new__" = true ∨ PySem.W.excIn K C bmVal "BaseException.__new__" = true
section
variable {X : Cx} {x : Str} {C : Addr} {np cpos pos : Pos} {e : Expr} {es : List Expr} {ta : TA} {E : XK}
def tRaise (C : Addr) (E : XK) (ta : TA) : TS := fun _ σ H => ta σ H fun vs H1 => vs.length ≤ sizeLine ∧ E (.ref C) none H1
theorem ps_raise (hc : X.calm = true) (ec : PySem.W.excIn X.K C bmVal "Exception.__new__" = true ∨ PySem.W.excIn X.K C bmVal "ValueError.__new__" = true) (hg : Gl X x) (hm : X.mg x = some (.ref C)) (th : Throws X E) (ha : PA X (e :: es) ta)
    (hx : X.ex = [] := by rfl) (hd : (x == ("__debug__" : Str)) = false := by decide) (he : starEach (e :: es) X.env = (false, eval e X.env) :: starEach es X.env := by rfl) (hpl : (backTo cpos (starEach es X.env)).any (·.1) = false := by rfl) :
    PS X (.Raise (some (.Call (.Name x np) (e :: es) [] cpos)) none pos) (tRaise C E ta) := by
  intro pins s σ H D I h
  have KX : X.K.In X.base := I.ok.mod.kin
  have go : ∀ {newId Bn inN : String} {bmN : List Value}, PySem.W.excIn X.K C bmVal newId = true → ExcBaseFacts Bn newId inN bmN → bmVal.contains (.type Bn) = true →
      wpAny (model X.prog X.w) X.A (exec (.Raise (some (.Call (.Name x np) (e :: es) [] cpos)) none pos) X.env) (SP X pins D) X.xe s := by
    intro newId Bn inN bmN q Fn hBn
    obtain ⟨tl, N, nm, qn, bs, hdct, sn, sub, ab, col, dd, k0, k1, k2, k3, k5, mN, hC, hN, hni, T⟩ := exc_obj KX q
    refine wpAny_Raise_call_subU (C := C) (nm := nm) (q := qn) (N := N) (bs := bs) (bm := tl) (hdct := hdct) (sn := sn) (sub := sub) (ab := ab) (col := col) (dd := dd) (k0 := k0) (k1 := k1) (k2 := k2) (k3 := k3) (k5 := k5)
      Fn hBn PySem.F.excBase_ValueError (mN := mN) (T.hasType PySem.F.excBase_ValueError.hasBase) (I.ok.hd hc) (by rw [he]; show (false || (backTo cpos (starEach es X.env)).any (·.1)) = false; rw [hpl]; rfl) hni (ld_glob I hg hm ⟨rfl, ?_⟩ hd)
    have hw := ha cpos pins s σ H _ I h
    rw [he] at hw ⊢
    refine Calls.evalArgs_plain (thn hw fun us s1 ⟨vs, H1, I1, r, ql, q1⟩ => ⟨rfl, ?_, I1.bk _ _ hC, hN.keeps I1.bk, T.keeps I1.bk, fun h' ea mk => ?_⟩)
    · show us.length ≤ sizeLine
      rw [← r.length]
      exact ql
    · obtain ⟨t, ht, _, _⟩ := mk.there
      have I2 : Inv X pins σ H1 { s1 with heap := h', toks := s1.toks } := I1.kept (t' := s1.toks) mk.keeps
      exact th pins σ H1 _ ea (.ref C) none I2 ⟨_, _, ht, rfl, rfl, rfl, rfl⟩ (I1.hok.free mk.new) (by have u := I1.base; rw [hx] at u; exact u.old mk.new) q1
  rcases ec with q | q
  · exact go q PySem.F.excBase_Exception (by decide)
  · exact go q PySem.F.excBase_ValueError (by decide)
end
end L2

set_option Elab.async false
set_option linter.all false
set_option maxRecDepth 100000
set_option maxHeartbeats 4000000
namespace L2
open PySem PySem.Spec PyProof.Rows

/-! ### what is new to a context -/
def Nw (X : Cx) (pins : List (Addr × Obj)) (b : Addr) : Prop :=
  X.s₀.heap.get? b = none ∧ b ≠ X.env.locals ∧ b ∉ X.fs ∧ (∀ x c, X.env.cells.lookup x = some c → c ≠ b) ∧ ∀ p ∈ X.pn ++ pins, p.1 ≠ b
section
variable {X : Cx} {pins : List (Addr × Obj)} {σ : St} {H : Hp} {s : Shared}
theorem Inv.nw (I : Inv X pins σ H s) (hx : X.ex = []) {b : Addr} (n : s.heap.get? b = none) : Nw X pins b := by
  have u := I.base
  rw [hx] at u
  refine ⟨u.old n, fun z => ?_, fun z => ?_, fun x c e z => ?_, fun p hp z => ?_⟩
  · obtain ⟨m, ⟨o, _, _, ho, _⟩, _⟩ := I.loc
    rw [← z, n] at ho
    cases ho
  · obtain ⟨_, o, ho, _⟩ := I.funs.mem z
    rw [n] at ho
    cases ho
  · obtain ⟨v, o, ho, _⟩ := I.cell x c e
    rw [z, n] at ho
    cases ho
  · have := (I.pin p hp).1
    rw [z, n] at this
    cases this
theorem Un.kpx {fs fs' ex ex0 : List Addr} {H₀ : Hp} {h₀ h h' : Heap} (u : Un fs ex0 H₀ H h₀ h) (k : Kp fs' ex h h') (hx : ∀ b ∈ ex, h₀.get? b = none) (hs : ∀ b ∈ fs', b ∈ fs ∨ h₀.get? b = none) : Un fs ex0 H₀ H h₀ h' where
  keep := fun b o q n hb hz => (k b o (fun z => by rw [hx b z] at q; cases q) (u.keep b o q n hb hz)).1 fun z => by
    rcases hs b z with y | y
    · exact hb y
    · rw [q] at y; cases y
  slot := fun b o q n hb hz => by
    obtain ⟨sl, e⟩ := u.slot b o q n hb hz
    obtain ⟨_, sl', e'⟩ := k b _ (fun z => by rw [hx b z] at q; cases q) e
    exact ⟨sl', e'⟩
  free := u.free
  there := fun b o q hz => by
    obtain ⟨o', e⟩ := u.there b o q hz
    obtain ⟨_, sl', e'⟩ := k b _ (fun z => by rw [hx b z] at q; cases q) e
    exact ⟨_, e'⟩
  tups := u.tups
  frzs := u.frzs
  tbls := u.tbls
/-- an exception's entries are written: the frames' slots, the records at ex -/
theorem Inv.kp {h' : Heap} {ex : List Addr} {t' : Nat} (I : Inv X pins σ H s) (k : Kp (frs X.stack) ex s.heap h') (hx : ∀ b ∈ ex, H b = none ∧ Nw X pins b) : Inv X pins σ H { s with heap := h', toks := t' } := by
  have cellK : ∀ x c, X.env.cells.lookup x = some c → ∀ v, s.heap.IsCell c v → h'.IsCell c v := fun x c e v ⟨o, ho, hd⟩ => by
    obtain ⟨_, sl, q⟩ := k c o (fun z => (hx c z).2.2.2.2.1 x c e rfl) ho
    exact ⟨_, q, hd⟩
  refine ⟨I.ok, I.os, I.bare, I.base.kpx k (fun b hb => (hx b hb).2.1) (fun b hb => ?_), ?_, fun x c e => ?_, I.free, I.freeC, fun p hp => ?_, I.hok.kp k I.stkFree (fun b hb => (hx b hb).1), I.len⟩
  · rcases List.mem_cons.mp (I.stkSub b hb) with z | z
    · exact .inr (Heap.get?_none_of_le (by rw [z]; exact I.ok.above))
    · exact .inl z
  · obtain ⟨m, ⟨o, es, ep, ho, r⟩, hl⟩ := I.loc
    obtain ⟨_, sl, q⟩ := k _ o (fun z => (hx _ z).2.2.1 rfl) ho
    refine ⟨m, ⟨_, es, ep, q, r⟩, fun i x v e1 e2 e3 => ?_⟩
    obtain ⟨u, ru, l⟩ := hl i x v e1 e2 e3
    refine ⟨u, ru, ?_⟩
    rcases l with l | ⟨kd, c, e, z⟩
    · exact .inl l
    · exact .inr ⟨kd, c, e, cellK x c e _ z⟩
  · obtain ⟨v, z⟩ := I.cell x c e
    exact ⟨v, cellK x c e v z⟩
  · obtain ⟨e, n, ne, nf, d⟩ := I.pin p hp
    refine ⟨(k p.1 p.2 (fun z => (hx p.1 z).2.2.2.2.2 p hp rfl) e).1 fun z => ?_, n, ne, nf, d⟩
    rcases List.mem_cons.mp (I.stkSub p.1 z) with y | y
    · exact ne y
    · exact nf y
/-- a thing that stands there untracked is tracked from here on -/
theorem Inv.track {a : Addr} {o : HO} (I : Inv X pins σ H s) (n : H a = none) (nw : Nw X pins a) (new : ObjOk X.prog X.w (upd H a o) s.heap a o) : Inv X pins σ (upd H a o) s := by
  have ne : ∀ b u, H b = some u → b ≠ a := fun b u e z => by rw [z, n] at e; cases e
  refine ⟨I.ok, I.os, I.bare, ⟨I.base.keep, I.base.slot, fun b ob e hn hx => ?_, I.base.there, fun b xs e => ?_, fun b ob u e => ?_, fun b ps e => ?_⟩, I.loc, I.cell, ?_, fun x c e => ?_, fun p hp => ?_, fun b u e => ?_, I.len⟩
  · rw [upd_ne (fun z => by rw [z, nw.1] at e; cases e)]
    exact I.base.free b ob e hn hx
  · have := I.base.tups b xs e
    rw [upd_ne (ne _ _ this)]
    exact this
  · have := I.base.frzs b ob u e
    rw [upd_ne (ne _ _ this)]
    exact this
  · obtain ⟨more, z⟩ := I.base.tbls b ps e
    exact ⟨more, by rw [upd_ne (ne _ _ z)]; exact z⟩
  · rw [upd_ne (Ne.symm nw.2.1)]
    exact I.free
  · rw [upd_ne (nw.2.2.2.1 x c e)]
    exact I.freeC x c e
  · obtain ⟨g1, g2, g3, g4, g5⟩ := I.pin p hp
    exact ⟨g1, by rw [upd_ne (nw.2.2.2.2 p hp)]; exact g2, g3, g4, g5⟩
  · by_cases hb : b = a
    · subst hb
      rw [upd_same] at e
      cases e
      exact new
    · rw [upd_ne hb] at e
      exact (I.hok b u e).stay (fun _ _ _ q => q) (fun c q => by rw [upd_ne (ne _ _ q)]; exact q) fun c xs q => by rw [upd_ne (ne _ _ q)]; exact q
end

/-! ### expressions and statements from which exceptions come; the frame's values are as ahead -/
def XP (X : Cx) (pins : List (Addr × Obj)) (σ : St) (E : XK) (ev : Value) (s' : Shared) : Prop :=
  ∃ (e : Addr) (cls : Value) (dd : Option Addr) (T : Addr) (H' : Hp), ev = .ref e ∧ Inv X pins σ H' s' ∧ Fl s'.heap e cls dd T .none ∧ H' e = none ∧ H' T = none ∧ Nw X pins e ∧ Nw X pins T ∧ E cls dd H'
abbrev TX := St → Hp → VK → XK → Prop
def PEX (X : Cx) (e : Expr) (t : TX) : Prop :=
  ∀ (pins : List (Addr × Obj)) (s : Shared) (σ : St) (H : Hp) (Q : VK) (E : XK), Inv X pins σ H s → t σ H Q E → wpAny (model X.prog X.w) X.A (eval e X.env) (EP X pins σ Q) (XP X pins σ E) s
abbrev TSX := Ends → (St → XK) → St → Hp → Prop
def PSX (X : Cx) (st : List Stmt) (t : TSX) : Prop :=
  ∀ (pins : List (Addr × Obj)) (s : Shared) (σ : St) (H : Hp) (D : Ends) (E : St → XK), Inv X pins σ H s → t D E σ H → wpAny (model X.prog X.w) X.A (execs st X.env) (SP X pins D) (fun ev s' => ∃ σ', XP X pins σ' (E σ') ev s') s
section
variable {X : Cx} {k : Nat} {f C : Addr} {fd : FuncData} {ps : List Str} {sp : Sp} {x : Str} {p pos : Pos} {e : Expr} {es : List Expr} {t : TA}
def tCallX (sp : Sp) (t : TA) : TX := fun σ H Q E => t σ H fun vs H1 => sp vs H1 Q E
theorem pex_call (F : FnOk X.prog X.w X.K X.mg X.base (CXe X.prog X.w) k f fd ps sp) (hr : Room k X.A) (hx : X.ex = []) (hg : Gl X x) (hm : X.mg x = some (.ref f)) (hk : PySem.W.keepIn X.K (.ref f) = true) (hb : Binds X.K fd ps [])
    (ha : PA X.nox (e :: es) t) (hdb : (x == ("__debug__" : Str)) = false := by decide) (he : starEach (e :: es) X.env = (false, eval e X.env) :: starEach es X.env := by rfl) (hpl : (backTo pos (starEach es X.env)).any (·.1) = false := by rfl) :
    PEX X (.Call (.Name x p) (e :: es) [] pos) (tCallX sp t) := by
  intro pins s σ H Q E I h
  refine wpAny_Call_Name_kw (ld_glob I hg hm ?_ hdb)
  refine PySem.W.callWith_K (h₀ := X.base) I.ok.mod.kin hk (wpAny_mono (ha pos pins s σ H _ (I.wish _) h) (fun us s1 hh => ?_) fun _ _ z => z.elim) he hpl
  obtain ⟨vs, H1, I1', r, q⟩ := hh
  have I1 := I1'.unwish
  refine ⟨I1.kIn, ?_⟩
  have hl : us.length = ps.length := by rw [← r.length]; exact F.len _ _ _ _ q
  refine wpAny_call (codeAny_mono (F.run X.A X.stack s1 H1 ⟨us, []⟩ (us ++ []) vs Q E hr I1.env0 (hb s1 us I1.kIn (by rw [List.append_nil]; exact hl)) (by rw [List.append_nil]; exact r) q) fun r s' hq => ?_)
  cases r with
  | ok fl =>
    cases fl with
    | ret u => exact I1.after hq
    | next => exact False.elim hq
    | brk => exact False.elim hq
    | cont => exact False.elim hq
  | error ev =>
    obtain ⟨ea, cls, dd, T, H', e1, os, bare, un, hok, fl, ne, nT, oe, oT, qe⟩ := hq
    exact ⟨ea, cls, dd, T, H', e1, I1.call' (ch := []) os un hok bare (fun b z => absurd z (by simp)), fl, ne, nT, I1.nw hx oe, I1.nw hx oT, qe⟩
theorem psx_set {i : Nat} {te : TX} {pos' : Pos} (hN : X.N.Nodup) (hi : X.N[i]? = some x) (hx : Loc X.env.scope x) (he : PEX X e te) (hs : swapsWith e (some (.Name x pos')) pos.line X.env = pure false := by rfl) (hf : X.fn x = true ∨ X.env.scope.names.lookup x = some .local := by first | exact .inl rfl | exact .inr rfl | assumption) :
    PSX X [.Assign [.Name x pos'] e pos] (fun D E σ H => te σ H (fun v H1 => D.nx (σ.set i (some v)) H1) (E σ)) := by
  intro pins s σ H D E I h
  refine wpAny_execs_cons (wpAny_Assign_Name (wpAny_mono (he pins s σ H _ _ I h) (fun v s1 hv => ?_) fun ev s1 q => ⟨σ, q⟩) hs)
  obtain ⟨y, H1, I1, r1, q1⟩ := hv
  exact store_ok I1 hN hi hx r1 (fun s2 I2 => wpAny_execs_nil ⟨_, H1, I2, q1⟩) hf
theorem psx_ret {te : TX} (he : PEX X e te) : PSX X [.Return (some e) pos] (fun D E σ H => te σ H D.rt (E σ)) := by
  intro pins s σ H D E I h
  refine wpAny_execs_cons (wpAny_Return_some (wpAny_mono (he pins s σ H _ _ I h) (fun v s1 hv => ?_) fun ev s1 q => ⟨σ, q⟩))
  obtain ⟨y, H1, I1, r1, q1⟩ := hv
  exact ⟨y, σ, H1, I1, r1, q1⟩
end

/-! ### except C as n -/
def ExcO (e C : Addr) (dd : Option Addr) : HO := .ext fun h => ∃ o vs, h.get? e = some o ∧ o.cls = .ref C ∧ o.dict = dd ∧ o.data = .fields vs
theorem excO_ok {P : Program} {w : World} {H : Hp} {h : Heap} {e C T : Addr} {dd : Option Addr} {fl : Value} (f : Fl h e (.ref C) dd T fl) : ObjOk P w H h e (ExcO e C dd) := by
  obtain ⟨oe, vs, oT, ts, he, hc, hdd, hd, _⟩ := f
  refine ⟨⟨oe, vs, he, hc, hdd, hd⟩, ⟨oe, he⟩, fun h1 h2 ⟨o, us, g1, g2⟩ k => ⟨o, us, k o g1, g2⟩⟩
def cxH (X : Cx) (e : Addr) : Cx := { X with A := X.A.mark (some (.ref e)), calm := false, xe := fun _ _ => False }
theorem Inv.toH {X : Cx} {pins : List (Addr × Obj)} {σ : St} {H : Hp} {s : Shared} (I : Inv X pins σ H s) (e : Addr) : Inv (cxH X e) pins σ H s :=
  ⟨⟨I.ok.mod, I.ok.kind, I.ok.glob, I.ok.blt, I.ok.above, I.ok.inj, I.ok.has, I.ok.cab, (fun z => (by cases z)), I.ok.frames, I.ok.stk, I.ok.exf, I.ok.bs, I.ok.bsz, I.ok.noex, I.ok.exfs, I.ok.funs, I.ok.frf⟩, I.os, I.bare, I.base, I.loc, I.cell, I.free, I.freeC, I.pin, I.hok, I.len⟩
theorem Inv.ofH {X : Cx} {pins : List (Addr × Obj)} {σ : St} {H : Hp} {s : Shared} {e : Addr} (ok : X.Ok) (I : Inv (cxH X e) pins σ H s) : Inv X pins σ H s :=
  ⟨ok, I.os, I.bare, I.base, I.loc, I.cell, I.free, I.freeC, I.pin, I.hok, I.len⟩
/-- an own error class that may stand in an except -/
structure CatchC (K : PySem.W.Frag) (C : Addr) : Prop where
  ty : PySem.W.typeIn K (.ref C) = some (.type "type")
  cl : (PySem.W.clsIn K C).isSome = true
  be : PySem.W.subIn K (.ref C) (.type "BaseException") = some true
theorem exc_matches {K : PySem.W.Frag} {M : Model} {A : Around} {E : Value → Shared → Prop} {s : Shared} {e D C : Addr} {oe : Obj} {b : Bool} {Q : Bool → Shared → Prop} (KX : K.In s.heap) (c : CatchC K C) (he : s.heap.get? e = some oe) (hc : oe.cls = .ref D)
    (hs : PySem.W.subIn K (.ref D) (.ref C) = some b) (hq : Q b s) : wpAny M A (excMatches (.ref e) (.ref C)) Q E s := by
  have L1 : PySem.W.Looks M s.heap (typeOf (.ref C)) (.type "type") := PySem.W.looks_typeIn KX c.ty
  have L2 : PySem.W.Looks M s.heap (isSubtype (.ref C) (.type "BaseException")) true := PySem.W.looks_subIn KX c.be
  have L3 : PySem.W.Looks M s.heap (isSubtype (.ref D) (.ref C)) b := PySem.W.looks_subIn KX hs
  have L4 : PySem.W.Looks M s.heap (isType (.ref C)) true := by
    have cl := c.cl
    unfold PySem.W.clsIn at cl
    split at cl
    · rename_i ho
      intro A' Q' E' s' k q
      unfold isType loadHead
      exact wpAny_bind (wpAny_loadPart (k _ _ (KX _ _ ho)) (wpAny_pure q))
    · cases cl
  have L5 : PySem.W.Looks M s.heap (isExcClass (.ref C)) true := by
    intro A' Q' E' s' k q
    unfold isExcClass
    refine wpAny_bind (L4 _ _ _ _ k ?_)
    rw [if_pos rfl]
    exact L2 _ _ _ _ k q
  have id : ∀ b o, s.heap.get? b = some o → s.heap.get? b = some o := fun _ _ z => z
  unfold excMatches isInstance
  refine wpAny_bind (wpAny_bind (L1 _ _ _ _ id ?_))
  rw [tc_notTuple]
  refine wpAny_pure ?_
  rw [if_neg Bool.false_ne_true]
  refine wpAny_bind (wpAny_pure ?_)
  simp only [List.forIn_cons, List.forIn_nil]
  refine wpAny_bind (wpAny_bind (wpAny_bind (L5 _ _ _ _ id ?_)))
  simp only [Bool.not_true, Bool.false_eq_true, if_false]
  refine wpAny_pure ?_
  refine wpAny_pure ?_
  have L6 : PySem.W.Looks M s.heap (typeOf (.ref e)) (.ref D) := by
    intro A' Q' E' s' k q
    unfold typeOf
    refine wpAny_bind (wpAny_loadPart (k _ _ he) (wpAny_pure ?_))
    rw [hc]
    exact q
  refine wpAny_bind (L6 _ _ _ _ id ?_)
  refine wpAny_bind (wpAny_bind (wpAny_bind (L3 _ _ _ _ id ?_)))
  cases b with
  | true => exact wpAny_pure (wpAny_pure (wpAny_pure hq))
  | false => exact wpAny_pure (wpAny_pure (wpAny_pure hq))
end L2

set_option Elab.async false
set_option linter.all false
set_option maxRecDepth 100000
set_option maxHeartbeats 4000000
namespace L2
open PySem PySem.Spec PyProof.Rows

/-- behind the suite the name goes -/
def endsH (j : Nat) (D : Ends) : Ends := { nx := fun σ H => D.nx (σ.set j none) H, rt := D.rt, bk := fun σ H => D.bk (σ.set j none) H, ct := fun σ H => D.ct (σ.set j none) H }
/-- what is wanted where an exception comes: its class, own dict, then the suite -/
def tExc (K : PySem.W.Frag) (C : Addr) (j : Nat) (ts : TS) (D : Ends) : St → XK := fun σ cls dd H => ∃ B, cls = .ref B ∧ PySem.W.subIn K (.ref B) (.ref C) = some true ∧
  ∀ e, H e = none → ts (endsH j D) (σ.set j (some (.ref e))) (upd H e (ExcO e B dd))
section
variable {X : Cx} {C : Addr} {cn n : Str} {j : Nat} {b₀ : Stmt} {body suite : List Stmt} {pos cp hp : Pos} {tb : TSX} {ts : TS}
theorem name_goes {pins : List (Addr × Obj)} {σ : St} {H : Hp} {s : Shared} {Q : Unit → Shared → Prop} {E : Value → Shared → Prop} (I : Inv X pins σ H s) (hN : X.N.Nodup) (hj : X.N[j]? = some n) (hl : X.env.scope.names.lookup n = some .local)
    (h : ∀ s', Inv X pins (σ.set j none) H s' → Q () s') : wpAny (model X.prog X.w) X.A (do bindName X.env n .none; unbindBehindTheSuite X.env n hp) Q E s := by
  obtain ⟨m, hn, lk⟩ := I.loc
  have hk : (X.env.scope.kind == .class || (X.env.scope.kind == .module && X.env.locals != X.env.globals)) = false := by rw [I.ok.kind]; rfl
  refine wpAny_nameGoes_keeps hl hn hk fun h' v hn' sb => h _ ?_
  have k : ∀ b o, b ≠ X.env.locals → s.heap.get? b = some o → h'.get? b = some o := fun b o hb e => sb.extBut b o hb e
  have neL : ∀ b o, X.s₀.heap.get? b = some o → b ≠ X.env.locals := fun b o e => Nat.ne_of_lt (Nat.lt_of_lt_of_le (Heap.lt_size e) I.ok.above)
  obtain ⟨o', es', ep', ho', r'⟩ := hn'
  refine ⟨I.ok, I.os, I.bare, ⟨fun b o e nn hb hx => k _ _ (neL b o e) (I.base.keep b o e nn hb hx), fun b o e nn hb hx => ?_, I.base.free, fun b o e hx => ?_, I.base.tups, I.base.frzs, I.base.tbls⟩, ⟨_, ⟨o', es', ep', ho', r'⟩, fun i x u e1 e2 e3 => ?_⟩, fun x c e => ?_, I.free, I.freeC, fun p hp => ?_, fun b u e => ?_, ?_⟩
  · obtain ⟨sl, z⟩ := I.base.slot b o e nn hb hx
    exact ⟨sl, k _ _ (neL b o e) z⟩
  · obtain ⟨o2, z⟩ := I.base.there b o e hx
    exact ⟨o2, k _ _ (neL b o e) z⟩
  · by_cases hij : i = j
    · subst hij
      rw [List.getElem?_set] at e2
      split at e2
      · split at e2 <;> cases e2
      · exact absurd rfl (by assumption)
    · rw [List.getElem?_set_ne (Ne.symm hij)] at e2
      obtain ⟨uu, ru, l⟩ := lk i x u e1 e2 e3
      refine ⟨uu, ru, ?_⟩
      have hxn : x ≠ n := fun z => hij (nodup_ix hN (by rw [← z]; exact e1) hj)
      rcases l with ⟨l1, l2⟩ | ⟨kd, c, ec, o3, z1, z2⟩
      · exact .inl ⟨l1, by show (if x = n then v else m x) = some uu; rw [if_neg hxn]; exact l2⟩
      · exact .inr ⟨kd, c, ec, o3, k _ _ (I.cne x c ec) z1, z2⟩
  · obtain ⟨v, o3, z1, z2⟩ := I.cell x c e
    exact ⟨v, o3, k _ _ (I.cne x c e) z1, z2⟩
  · obtain ⟨g1, g2, g3, g4, g5⟩ := I.pin p hp
    exact ⟨k _ _ g3 g1, g2, g3, g4, g5⟩
  · refine (I.hok b u e).stay (fun c vv hc q => k c vv ?_ q) (fun _ q => q) fun _ _ q => q
    intro z
    rcases hc with y | y
    · rw [← y, z, I.free] at e; cases e
    · rw [z, I.free] at y; cases y
  · rw [List.length_set]; exact I.len
theorem ps_try (hc : CatchC X.K C) (hst : X.stack = X.env :: X.outer) (hfr : X.env.frame = some X.env.locals) (hb : PSX X body tb) (hg : Gl X cn) (hm : X.mg cn = some (.ref C)) (hN : X.N.Nodup) (hj : X.N[j]? = some n)
    (hl : X.env.scope.names.lookup n = some .local) (hs : ∀ e, PSs (cxH X e) (b₀ :: suite) ts) (hd : (cn == ("__debug__" : Str)) = false := by decide) :
    PS X (.Try body [.ExceptHandler (some (.Name cn cp)) (some n) (b₀ :: suite) hp] [] [] pos) (fun D σ H => tb D (tExc X.K C j ts D) σ H) := by
  intro pins s σ H D I h
  refine wpAny_Try_except (wpAny_mono (hb pins s σ H D _ I h) (fun f s1 q => ?_) fun ev s1 q => ?_)
  · cases f with
    | next => exact wpAny_execs_nil q
    | ret v => exact q
    | brk => exact q
    | cont => exact q
  · obtain ⟨σ1, e, cls, dd, T, H1, rfl, I1, fl, ne, nT, we, wT, B, rfl, hsub, hsu⟩ := q
    have hfrs : X.A.frames = some (X.env :: X.outer) := by rw [← hst]; exact I1.ok.frames
    have fun1 : s1.heap.FunFrames X.base (X.env :: X.outer) := by rw [← hst]; exact I1.stack
    refine fl_note (base := X.base) hfrs fun1 hfr fl fun h2 T2 k2 z2 f2 => fl_shut f2 fun h3 k3 f3 => ?_
    have oT2 : s1.heap.get? T2 = none := Heap.get?_none_of_le z2
    have k23 : Kp (frs X.stack) [e, T] s1.heap h3 := by
      rw [hst]
      exact k2.trans k3.all fun c hcc => .inr (by have e9 : c = T2 := (by simpa using hcc); rw [e9]; exact oT2)
    have I3 : Inv X pins σ1 H1 { s1 with heap := h3, toks := s1.toks } := I1.kp (t' := s1.toks) k23 fun b hbb => by
      rcases (by simpa using hbb : b = e ∨ b = T) with y | y
      · rw [y]; exact ⟨ne, we⟩
      · rw [y]; exact ⟨nT, wT⟩
    obtain ⟨oe, vs, oT, ts', he, hcl, hdd, hdt, _⟩ := id f3
    refine wpAny_handleBy_cons (codeAny_handlers_test (ld_glob (I3.toH e) hg hm (exc_matches (K := X.K) I3.kIn hc he hcl hsub ?_) hd)) (by intro q; cases q)
    dsimp only
    refine codeAny_handlers_suite_as (fl_shut f3 fun h4 k4 f4 => ?_)
    have I4 : Inv X pins σ1 H1 { s1 with heap := h4, toks := s1.toks } := by
      have nT2 : Nw X pins T2 := by
        have i1 := I1
        refine ⟨?_, ?_, ?_, ?_, ?_⟩
        · cases q : X.s₀.heap.get? T2 with
          | none => rfl
          | some o =>
            have := Heap.lt_size q
            exact absurd (Nat.lt_of_lt_of_le this (Nat.le_trans i1.sz z2)) (Nat.lt_irrefl _)
        · exact Nat.ne_of_gt (Nat.lt_of_lt_of_le i1.lt z2)
        · exact i1.nofs z2
        · intro x c ec z
          obtain ⟨v, o, ho, _⟩ := i1.cell x c ec
          rw [z, oT2] at ho
          cases ho
        · intro p hpp z
          have := (i1.pin p hpp).1
          rw [z, oT2] at this
          cases this
      refine I3.kp (h' := h4) (ex := [T2]) (t' := s1.toks) k4.all fun b hbb => ?_
      obtain rfl : b = T2 := by simpa using hbb
      exact ⟨I1.hok.fresh z2, nT2⟩
    have I5 : Inv X pins σ1 (upd H1 e (ExcO e B dd)) { s1 with heap := h4, toks := s1.toks } := I4.track ne we (excO_ok f4)
    refine store_ok I5 hN hj (.inl hl) (v := .ref e) rfl (fun s6 I6 => ?_) (.inr hl)
    refine wpAny_mono (hs e pins s6 _ _ _ (I6.toH e) (hsu e ne)) (fun f s7 q => ?_) fun _ _ z => z.elim
    cases f with
    | next =>
      obtain ⟨σ7, H7, I7, q7⟩ := q
      exact name_goes (I7.ofH I1.ok) hN hj hl fun s8 I8 => ⟨_, H7, I8, q7⟩
    | brk =>
      obtain ⟨σ7, H7, I7, q7⟩ := q
      exact name_goes (I7.ofH I1.ok) hN hj hl fun s8 I8 => ⟨_, H7, I8, q7⟩
    | cont =>
      obtain ⟨σ7, H7, I7, q7⟩ := q
      exact name_goes (I7.ofH I1.ok) hN hj hl fun s8 I8 => ⟨_, H7, I8, q7⟩
    | ret v =>
      obtain ⟨x7, σ7, H7, I7, r7, q7⟩ := q
      exact name_goes (I7.ofH I1.ok) hN hj hl fun s8 I8 => ⟨x7, _, H7, I8, r7, q7⟩
end
end L2

set_option Elab.async false
set_option linter.all false
set_option maxRecDepth 100000
set_option maxHeartbeats 4000000
namespace L2
open PySem PySem.Spec PyProof.Rows

/-- what is asked of an own error class, of which things are looked at -/
structure ExcK (K : PySem.W.Frag) (D : Addr) : Prop where
  ga : PySem.W.findIn K (.ref D) "__getattribute__" = some (some (.builtin "BaseException.__getattribute__"))
  gn : PySem.W.findIn K (.ref D) "__getattr__" = some none
  cl : PySem.W.findIn K (.ref D) "__class__" = some (some (.builtin "object.__class__"))
  be : PySem.W.subIn K (.ref D) (.type "BaseException") = some true
  ob : PySem.W.mroIn K D (.type "object") = some true
  is : (PySem.W.clsIn K D).isSome = true
section
variable {prog : Program} {w : World} {A : Around} {E : Value → Shared → Prop} {h : Heap} {g : Array GenState} {d : Drawn} {t : Nat} {os : OsState} {K : PySem.W.Frag} {x D : Addr} {ox : Obj} {od : Option Obj}
theorem xc_check {M : Model} {nameV : Value} {Q : Unit → Shared → Prop} (X : K.In h) (c : ExcK K D) (I : PySem.W.InstAt h x ox D od) (hq : Q () ⟨h, g, d, t, os⟩) :
    wpAny M A (checkBuiltinCall "BaseException.__getattribute__" ⟨[.ref x, nameV], []⟩) Q E ⟨h, g, d, t, os⟩ := by
  have hk : builtinKind "BaseException.__getattribute__" = some .slot := by decide +kernel
  have hsplit : splitId "BaseException.__getattribute__" = some ("BaseException", "__getattribute__") := by decide +kernel
  have L0 := I.type (M := M)
  have L1 : PySem.W.Looks M h (isSubtype (.ref D) (.type "BaseException")) true := PySem.W.looks_subIn X c.be
  have ha := F.args_bexc_ga (.ref x) nameV
  simp only [checkBuiltinCall, hk, hsplit]
  unfold isInstance
  refine wpAny_bind (wpAny_bind (L0.at (L1.at ?_)))
  repeat (any_goals (first | assumption | wp_step))
theorem xc_entry {tk : Tok} {Q : Fin → Shared → Prop} (X : K.In h) (c : ExcK K D) (I : PySem.W.InstAt h x ox D od) (hq : Q (.done (.ret (.ref D))) ⟨h, g, d, t, os⟩) :
    wpAny (model prog w) A (Builtin.«object.__getattribute__» ⟨[.ref x, .str "__class__" tk], []⟩) Q E ⟨h, g, d, t, os⟩ := by
  have L0 := I.type (M := model prog w)
  have L1 := PySem.W.looks_findIn (M := model prog w) X c.cl
  have hT5 : (⟨h, g, d, t, os⟩ : Shared).TypeIs (.builtin "object.__class__") "getset_descriptor" := F.typeOf_object_class
  have f5 := F.typeOf_object_class
  have f6 := F.slot_gs_get.lookup
  have f7 := F.slot_gs_set.lookup
  repeat (any_goals (first | assumption | with_reducible refine L0.at ?_ | with_reducible refine L1.at ?_ | wp_step))
  refine PySem.W.class_get (s := ⟨h, g, d, t, os⟩) X I c.ob ?_
  exact wpAny_pure hq
theorem xc_by {tk : Tok} {Q : Value → Shared → Prop} (X : K.In h) (c : ExcK K D) (I : PySem.W.InstAt h x ox D od) (hq : Q (.ref D) ⟨h, g, d, t, os⟩) :
    wpAny (model prog w) A (getAttrBy (.ref x) (.str "__class__" tk) false) Q E ⟨h, g, d, t, os⟩ := by
  have L0 := I.type (M := model prog w)
  have L1 := PySem.W.looks_findIn (M := model prog w) X c.ga
  have L2 := PySem.W.looks_findIn (M := model prog w) X c.gn
  have f3 := PySem.F.attrBase_ValueError.ga.bind (.ref x)
  have hx2 : (Value.builtin "BaseException.__getattribute__" == Value.builtin "object.__getattribute__") = false := by decide +kernel
  repeat (any_goals (first | assumption | with_reducible refine L0.at ?_ | with_reducible refine L1.at ?_ | with_reducible refine L2.at ?_ | wp_step))
  refine codeAny_call_builtin PySem.F.attrBase_ValueError.ga.plain F.entry_bexc_ga (xc_check X c I (xc_entry X c I ?_))
  exact PySem.W.handed_on rfl hq
theorem xc_attr {Q : Option Value → Shared → Prop} (X : K.In h) (c : ExcK K D) (I : PySem.W.InstAt h x ox D od) (hq : Q (some (.ref D)) ⟨h, g, d, t + 1, os⟩) :
    wpAny (model prog w) A (getAttr? (.ref x) "__class__") Q E ⟨h, g, d, t, os⟩ := by
  unfold getAttr? getAttrBy?
  repeat (any_goals (first | assumption | with_reducible apply xc_by X c I | wp_step))
end
theorem kitx_exc {K : PySem.W.Frag} {x D : Addr} (c : ExcK K D) : PySem.W.KitX K (.ref x) (.ref D) (fun h => ∃ ox od, PySem.W.InstAt h x ox D od) where
  ty := fun _ _ _ ⟨_, _, I⟩ => I.type
  it := fun _ _ X _ => by
    have cl := c.is
    unfold PySem.W.clsIn at cl
    split at cl
    · rename_i ho
      intro A' Q' E' s' k q
      unfold isType loadHead
      exact wpAny_bind (wpAny_loadPart (k _ _ (X _ _ ho)) (wpAny_pure q))
    · cases cl
  ne := fun h tp dd its n sl X e => by
    have cl := c.is
    unfold PySem.W.clsIn at cl
    split at cl
    · rename_i ho
      have hne : D ≠ tp := fun z => by
        have := X _ _ ho
        rw [z, e] at this
        cases this
      simpa using hne
    · cases cl
  ca := fun {prog w A E Q s} X ⟨_, _, I⟩ hq => by
    obtain ⟨h, g, d, t, os⟩ := s
    exact xc_attr X c I hq

/-! ### an exception that is kept by a name: what isinstance tells -/
theorem inst_excO {X : Cx} {pins : List (Addr × Obj)} {σ : St} {H : Hp} {s : Shared} {e C : Addr} {dd : Option Addr} (I : Inv X pins σ H s) (h : H e = some (ExcO e C dd)) (hd : ∀ dx, dd = some dx → ∃ fs, H dx = some (.xd fs)) : ∃ ox od, PySem.W.InstAt s.heap e ox C od := by
  obtain ⟨⟨o, vs, ho, hc, hdd, hdt⟩, _⟩ := (show ObjOk X.prog X.w H s.heap e (ExcO e C dd) from I.hok e _ h)
  cases dd with
  | none => exact ⟨o, none, ho, hc, by unfold PySem.W.notCls; rw [hdt], by rw [hdd]; trivial⟩
  | some dx =>
    obtain ⟨fs, hx⟩ := hd dx rfl
    obtain ⟨od, e2⟩ := (I.hok dx _ hx).some
    exact ⟨o, some od, ho, hc, by unfold PySem.W.notCls; rw [hdt], by rw [hdd]; exact e2⟩
/-- isinstance(x, c) of a caught exception -/
def rIsiX (K : PySem.W.Frag) : List V → Hp → VK → Prop := fun xs H Q => ∃ e y C dd b, xs = [.ref e, y] ∧ clsV y ≠ .none ∧ H e = some (ExcO e C dd) ∧ (∀ dx, dd = some dx → ∃ fs, H dx = some (.xd fs)) ∧ ExcK K C ∧ PySem.W.kitOne K (.ref C) (clsV y) = some b ∧ Q (.bl b) H
theorem call_isiX {X : Cx} : CallR X (.builtin "isinstance") (rIsiX X.K) := by
  intro pins s σ H xs us Q I r h
  obtain ⟨e, y, C, dd, b, rfl, hy, he, hd, c, k, q⟩ := h
  obtain ⟨u, v, rfl, ru, rv⟩ := vals2 r
  cases clsV_of rv hy
  cases (show u = Value.ref e from ru)
  exact PySem.W.kia_one (kitx_exc c) I.kIn (inst_excO I he hd) k (fun z => nomatch z) fun tk => ⟨.bl b, H, I.tok tk, rfl, q⟩
end L2

set_option Elab.async false
set_option linter.all false
set_option maxRecDepth 100000
set_option maxHeartbeats 4000000
namespace L2
open PySem PySem.Spec PyProof.Rows

/-! ### defs of the text by their names -/
/-- the def stands by this name -/
def Has (K : PySem.W.Frag) (mg : Str → Option Value) (x : Str) (st : Stmt) : Prop := ∃ (f : Addr) (fd : FuncData), mg x = some (.ref f) ∧ Fun K x x st f fd
/-- a def that may be called by this name, with this promise -/
def Callee (P : Program) (w : World) (K : PySem.W.Frag) (mg : Str → Option Value) (base : Heap) (x : Str) (k : Nat) (ps : List Str) (sp : Sp) : Prop :=
  ∃ (f : Addr) (fd : FuncData), mg x = some (.ref f) ∧ PySem.W.keepIn K (.ref f) = true ∧ Binds K fd ps [] ∧ FnOk P w K mg base (CXe P w) k f fd ps sp
section
variable {P : Program} {w : World} {K : PySem.W.Frag} {mg : Str → Option Value} {base : Heap}
theorem Has.callee {x : Str} {st : Stmt} {N ps : List Str} {k : Nat} {sp : Sp} (h : Has K mg x st) (S : FnScope N ps (defScope st)) (len : ∀ vs H Q E, sp vs H Q E → vs.length = ps.length)
    (hb : ∀ (kV doc pm : Value) (an : Option Addr) (cdv ct : Value) (us : List Value), us.length = ps.length → bindArgs (PySem.W.fnOf x x (defArgs st) (defBody st) (defScope st) .none kV doc pm an cdv ct) ⟨us, []⟩ = pure (ps.zip us))
    (hbody : ∀ (f : Addr) (cdv : Value) (A : Around) (outer : List Env) (s : Shared) (H : Hp) (vs : List V) (Q : VK) (E : XK), Room k (A.deeper (envOfC x (defScope st) s.heap.objs.size f cdv)) → sp vs H Q E →
      ∃ t, PSs (cxOf (CXe P w) P w K mg base N x (defScope st) f cdv A outer s H E) (defBody st) t ∧ t { nx := fun _ H' => Q .non H', rt := Q } (start N vs) H) : Callee P w K mg base x (k + 1) ps sp := by
  obtain ⟨f, fd, hm, F⟩ := h
  exact ⟨f, fd, hm, F.kp, F.binds hb, F.okE S len fun cdv A outer s H vs Q E hr hs => hbody f cdv A outer s H vs Q E hr hs⟩
end
section
variable {X : Cx} {k j : Nat} {ps : List Str} {sp : Sp} {E : XK} {x : Str} {p pos : Pos} {e : Expr} {es : List Expr} {t : TA}
theorem pe_callee (c : Callee X.prog X.w X.K X.mg X.base x k ps sp) (hr : Room j X.A) (hg : Gl X x) (hx : Passes (CXe X.prog X.w) X E) (ha : PA X (e :: es) t) (hj : k ≤ j := by decide) (hdb : (x == ("__debug__" : Str)) = false := by decide)
    (he : starEach (e :: es) X.env = (false, eval e X.env) :: starEach es X.env := by rfl) (hpl : (backTo pos (starEach es X.env)).any (·.1) = false := by rfl) : PE X (.Call (.Name x p) (e :: es) [] pos) (tCall sp [] E t) := by
  obtain ⟨f, fd, hm, hk, hb, F⟩ := c
  exact pe_call F (hr.mono hj) hg hm hk hb .nil hx ha hdb he hpl
theorem pex_callee (c : Callee X.prog X.w X.K X.mg X.base x k ps sp) (hr : Room j X.A) (hx : X.ex = []) (hg : Gl X x) (ha : PA X.nox (e :: es) t) (hj : k ≤ j := by decide) (hdb : (x == ("__debug__" : Str)) = false := by decide)
    (he : starEach (e :: es) X.env = (false, eval e X.env) :: starEach es X.env := by rfl) (hpl : (backTo pos (starEach es X.env)).any (·.1) = false := by rfl) : PEX X (.Call (.Name x p) (e :: es) [] pos) (tCallX sp t) := by
  obtain ⟨f, fd, hm, hk, hb, F⟩ := c
  exact pex_call F (hr.mono hj) hx hg hm hk hb ha hdb he hpl
end
/-- names of Python's own that the text leaves alone -/
def Free (mg : Str → Option Value) (x : Str) : Prop := mg x = none
theorem iteTB {A B : Prop} {c : Bool} (hc : c = true) (h : A) : if c = true then A else B := by rw [if_pos hc]; exact h
theorem iteFB {A B : Prop} {c : Bool} (hc : c = false) (h : B) : if c = true then A else B := by rw [hc]; exact iteF h
theorem iteB {A B : Prop} {c : Bool} (h1 : c = true → A) (h2 : c = false → B) : if c = true then A else B := by
  cases c with
  | true => exact iteT (h1 rfl)
  | false => exact iteF (h2 rfl)
end L2

set_option Elab.async false
set_option linter.all false
set_option maxRecDepth 100000
set_option maxHeartbeats 4000000
namespace L2
open PySem PySem.Spec PyProof.Rows
section
variable {prog : Program} {w : World} {A : Around} {E : Value → Shared → Prop}
theorem drawL {it l : Addr} {items : Array Value} (hne : l ≠ it) : ∀ (n i : Nat) (s : Shared) (Q : List Value → Shared → Prop), s.heap.IsListIter it l i → s.heap.IsList l items → i + n ≤ items.size →
    (∀ h', h'.IsListIter it l (i + n) → Heap.SameBut it s.heap h' → Q ((items.toList.drop i).take n) { s with heap := h' }) → wpAny (model prog w) A (draw (.ref it) n) Q E s := by
  intro n
  induction n with
  | zero =>
    intro i s Q h1 _ _ q
    refine wpAny_pure ?_
    have := q s.heap h1 (Heap.SameBut.refl ..)
    simpa using this
  | succ n ih =>
    intro i s Q h1 h2 hle q
    have hi : i < items.size := by omega
    show wpAny _ _ (pyNext (.ref it) >>= _) Q E s
    refine wpAny_bind (wpAny_pyNext_list_item h1 h2 (x := items[i]) (by simp [hi]) fun h' g1 g2 => ?_)
    have g3 : h'.IsList l items := by
      obtain ⟨o, e, r⟩ := h2
      exact ⟨o, g2.extBut l o hne e, r⟩
    refine wpAny_bind (wpAny_holding (ih (i + 1) _ _ g1 g3 (by omega) fun h'' k1 k2 => wpAny_pure ?_))
    have z := q h'' (by rw [show i + (n + 1) = i + 1 + n by omega]; exact k1) (g2.trans k2)
    rw [List.drop_eq_getElem_cons (by simpa using hi), List.take_succ_cons] at z
    simpa using z
theorem unpackL {s : Shared} {l : Addr} {items : Array Value} {Q : List Value → Shared → Prop} (hh : A.handled = none) (hl : s.heap.IsList l items)
    (q : ∀ h', Heap.ExtBut s.heap.objs.size s.heap h' → Q items.toList { s with heap := h' }) : wpAny (model prog w) A (unpackItems (.ref l) items.size none) Q E s := by
  have ne : l ≠ s.heap.objs.size := by
    obtain ⟨o, e, _⟩ := hl
    exact Nat.ne_of_lt (Heap.lt_size e)
  unfold unpackItems notIterableAtAll
  refine wpAny_bind (wpAny_bind (wpAny_specialOf hl.typeIs slot_list_iter.lookup (wpAny_pure ?_)))
  rw [if_neg (by simp)]
  refine wpAny_bind (wpAny_holding (wpAny_pyIter_list hl ?_))
  have hl' : (s.heap.push { cls := .type "list_iterator", data := .fields #[.ref l, .int 0 0] }).IsList l items := by
    obtain ⟨o, e, r⟩ := hl
    exact ⟨o, Heap.get?_push_of_some _ e, r⟩
  refine wpAny_bind (wpAny_holding (drawL ne items.size 0 _ _ ⟨_, Heap.get?_push_size _ rfl, rfl, rfl⟩ hl' (by omega) fun h1 g1 g2 => ?_))
  rw [List.drop_zero, List.take_of_length_le (by simp), if_neg (by simp)]
  have hl1 : h1.IsList l items := by
    obtain ⟨o, e, r⟩ := hl'
    exact ⟨o, g2.extBut l o ne e, r⟩
  refine wpAny_bind (wpAny_holding (wpAny_pyNext_list_end hh g1 hl1 (by simp) fun h2 k => ?_))
  rw [if_neg (by simp)]
  refine wpAny_pure (q h2 fun b o hb e => ?_)
  exact k b o hb (g2.extBut b o hb (Heap.get?_push_of_some _ e))
end
section
variable {X : Cx} {pos : Pos}
/-- (a, b, ..) = a list of that length -/
def gLst (K : PySem.W.Frag) (n : Nat) (t : TGs) : TG := fun v σ H Q => ∃ a xs, v = .ref a ∧ SqL K H a xs ∧ xs.length = n ∧ t xs σ H Q
theorem pg_lst {es : List Expr} {k : Nat} {t : TGs} {n : Nat} (hc : X.calm = true) (h : PGs X es t)
    (hn : (assignEach es X.env).length = n := by rfl) (hst : (assignEach es X.env).findIdx? (·.1) = none := by rfl) : PG X (.Tuple es k pos) (gLst X.K n t) := by
  intro pins s σ H v u Q I r hw
  obtain ⟨a, xs, rfl, hq, hl, hw⟩ := hw
  cases r
  obtain ⟨its, rv, ht, hz⟩ := I.list hq
  rw [assign_Tuple]
  refine wpAny_bind (wpAny_standAt ?_)
  unfold unpack
  have en : (assignEach es X.env).length = its.toArray.size := by simp [hn, ← hl, rv.length]
  rw [en, hst]
  refine wpAny_bind (wpAny_holding (unpackL (I.ok.hd hc) ht.isList fun h' hx => ?_))
  have I1 : Inv X pins σ H { s with heap := h' } := I.kept (t' := s.toks) fun b o e => hx b o (Nat.ne_of_lt (Heap.lt_size e)) e
  exact h pins _ σ H xs _ Q I1 (by simpa using rv) hw
end
theorem scal_ii {i j : Int} : scal (.int i) (.int j) = true := rfl
theorem scal_bb {i j : Bool} : scal (.bl i) (.bl j) = true := rfl
theorem scal_ss {i j : Str} : scal (.str i) (.str j) = true := rfl
theorem scal_nn : scal .non .non = true := rfl
theorem cx_K {CX : CXT} {P : Program} {w : World} {K : PySem.W.Frag} {mg : Str → Option Value} {base : Heap} {N : List Str} {qual : Str} {scope : Scope} {f : Addr} {cd : Value} {A : Around} {outer : List Env} {s : Shared} {H : Hp} {E : XK} : (cxOf CX P w K mg base N qual scope f cd A outer s H E).K = K := rfl
end L2

set_option Elab.async false
set_option linter.all false
set_option maxRecDepth 100000
set_option maxHeartbeats 4000000
namespace L2
open PySem PySem.Spec PyProof.Rows
theorem nd {M : List Str} (h : M.Nodup) : M.Nodup := h
/-- what is asked of a comprehension's scope, over what is written -/
def compOk (sc scope : Scope) (N : List Str) (ix : List Nat) : Bool :=
  (scope.names.all fun y => y.2 != .cell && (y.2 != .free || sc.names.lookup y.1 == some .cell) && (y.2 != .local || scope.names.lookup y.1 == some .local)) &&
  ((ix.map fun i => N.getD i "").all fun x => scope.names.lookup x != some .local) && ix.all (fun i => decide (i < N.length))
section
variable {X : Cx}
theorem pe_compF {elt tg iter : Expr} {ifs : List Expr} {scope : Scope} {pos : Pos} {wi : TI} {g : TG} {tc : TT} {te : TE} (sc : Scope) (N : List Str) (L : List Str) (ix : List Nat) (M : List Str) (h1 : X.env.scope = sc) (h2 : X.N = N) (hc : X.calm = true) (hk : scope.kind = .function)
    (hd : compOk sc scope N ix = true) (hM : M = L ++ ix.map fun i => N.getD i "") (hi : PI X tg iter wi)
    (hg : ∀ C s₃ H₃ fp, PG (cxComp X M scope C s₃ H₃ fp) tg g) (hgo : GOnly L.length g)
    (ht : ∀ C s₃ H₃ fp, PTs (cxComp X M scope C s₃ H₃ fp) ifs tc) (he : ∀ C s₃ H₃ fp, PE (cxComp X M scope C s₃ H₃ fp) elt te)
    (hs : ∀ x, foldedSetIterable iter X.env x = pure x := by intro _; rfl) :
    PE X (.ListComp elt [⟨tg, iter, ifs, 0⟩] scope pos) (tComp L.length ix wi g tc te) := by
  unfold compOk at hd
  simp only [Bool.and_eq_true, List.all_eq_true, bne_iff_ne, ne_eq, Bool.or_eq_true, beq_iff_eq, decide_eq_true_eq] at hd
  obtain ⟨⟨d1, d2⟩, d3⟩ := hd
  have eM : M = L ++ capN X ix := by rw [hM]; unfold capN; rw [h2]
  subst eM
  refine pe_comp (L := L) (ix := ix) hc ⟨hk, fun y hy => (d1 y hy).1.1, fun y hy e => ?_, fun y hy e => ?_, fun x hx => ?_⟩ (fun i hi => by rw [h2]; exact d3 i hi) hi hg hgo ht he hs
  · rcases (d1 y hy).1.2 with z | z
    · exact absurd e z
    · show X.env.scope.names.lookup y.1 = some .cell
      rw [h1]
      exact z
  · rcases (d1 y hy).2 with z | z
    · exact absurd e z
    · exact z
  · unfold capN at hx
    rw [h2] at hx
    exact d2 x hx
end
/-- for a comprehension over a list that stays: each item gives F, or nothing -/
theorem comp_list {K : PySem.W.Frag} {a l : Addr} {xs : List V} {g : TG} {tc : TT} {te : TE} {σ : St} {H1 : Hp} {Q : VK} (Pv : Nat → List V → Hp → Prop) (h0 : Pv 0 [] (upd H1 l (.lst []))) (hl : ∀ i ys H, Pv i ys H → SqL K H a xs ∧ H l = some (.lst ys) ∧ ys.length ≤ i)
    (hz : xs.length < sizeLine) (hs : ∀ i x ys H, xs[i]? = some x → Pv i ys H → g x σ H fun σ2 H4 => tc σ2 H4 fun b H5 => if b = true then te σ2 H5 fun v H6 => H6 l = some (.lst ys) ∧ Pv (i + 1) (ys ++ [v]) (upd H6 l (.lst (ys ++ [v]))) else Pv (i + 1) ys H5)
    (hd : ∀ ys H, Pv xs.length ys H → Q (.ref l) H)
    (mg : ∀ x σ H Q1 Q2, (∀ σ H, Q1 σ H → Q2 σ H) → g x σ H Q1 → g x σ H Q2) (mc : ∀ σ H Q1 Q2, (∀ b H, Q1 b H → Q2 b H) → tc σ H Q1 → tc σ H Q2) (me : ∀ σ H Q1 Q2, (∀ v H, Q1 v H → Q2 v H) → te σ H Q1 → te σ H Q2) :
    ∃ W : Nat → Nat → List V → Hp → Prop, (∃ m, W 0 m [] (upd H1 l (.lst []))) ∧ ∀ i m ys H2, W i m ys H2 → H2 l = some (.lst ys) ∧
      (((Itl K a).stop i H2 ∧ Q (.ref l) H2) ∨ ((Itl K a).go i H2 ∧ ∀ x H3, (Itl K a).yld i H2 x H3 → g x σ H3 fun σ2 H4 => tc σ2 H4 fun b H5 =>
        if b = true then te σ2 H5 fun v H6 => H6 l = some (.lst ys) ∧ ys.length < sizeLine ∧ ∃ m', m' < m ∧ W (i + 1) m' (ys ++ [v]) (upd H6 l (.lst (ys ++ [v]))) else ∃ m', m' < m ∧ W (i + 1) m' ys H5)) := by
  refine ⟨fun i m ys H => m = xs.length - i ∧ i ≤ xs.length ∧ Pv i ys H, ⟨_, rfl, Nat.zero_le _, h0⟩, ?_⟩
  rintro i m ys H ⟨rfl, hi, p⟩
  obtain ⟨q1, q2, q3⟩ := hl i ys H p
  refine ⟨q2, ?_⟩
  by_cases hlt : i < xs.length
  · refine .inr ⟨⟨xs, xs[i], q1, by simp [hlt]⟩, fun x H3 y => ?_⟩
    obtain ⟨e, y⟩ := y
    subst e
    refine mg _ _ _ _ _ (fun σ4 H4 z => mc _ _ _ _ (fun b H5 z => ?_) z) (hs i x ys _ (y xs q1) p)
    cases b with
    | true =>
      rw [if_pos rfl] at z
      refine iteT (me _ _ (fun v H6 => H6 l = some (.lst ys) ∧ Pv (i + 1) (ys ++ [v]) (upd H6 l (.lst (ys ++ [v])))) _ (fun v H6 z => ⟨z.1, by omega, xs.length - (i + 1), by omega, rfl, hlt, z.2⟩) z)
    | false =>
      rw [if_neg Bool.false_ne_true] at z ⊢
      exact ⟨xs.length - (i + 1), by omega, rfl, hlt, z⟩
  · have e : i = xs.length := by omega
    subst e
    exact .inl ⟨⟨xs, q1, Nat.le_refl _⟩, hd ys H p⟩
end L2

set_option Elab.async false
set_option linter.all false
set_option maxRecDepth 100000
set_option maxHeartbeats 4000000
namespace L2
open PySem PySem.Spec PyProof.Rows
/-- a statement, then the rest, by what holds between the two -/
theorem seq_abs {t u : TS} {D : Ends} {σ : St} {H : Hp} (G : St → Hp → Prop) (h1 : ∀ R : St → Hp → Prop, (∀ σ' H', G σ' H' → R σ' H') → t { D with nx := R } σ H) (h2 : ∀ σ' H', G σ' H' → u D σ' H') : tSeq t u D σ H := h1 _ h2
theorem Same.upd {H : Hp} {l : Addr} {o : HO} (h : H l = none) : Same H (upd H l o) := fun b u e => by rw [upd_ne (ne_of_none e h)]; exact e
theorem nox_K {CX : CXT} {P : Program} {w : World} {K : PySem.W.Frag} {mg : Str → Option Value} {base : Heap} {N : List Str} {qual : Str} {scope : Scope} {f : Addr} {cd : Value} {A : Around} {outer : List Env} {s : Shared} {H : Hp} {E : XK} : (cxOf CX P w K mg base N qual scope f cd A outer s H E).nox.K = K := rfl
/-- a comprehension whose element is worth F of the item and makes nothing -/
theorem comp_map {K : PySem.W.Frag} {a : Addr} {xs : List V} {k : Nat} {ix : List Nat} {te : TE} {tl : TE} {σ : St} {H : Hp} {Q : VK} (F : V → V) (hl : ∀ R : VK, R (.ref a) H → tl σ H R) (hs : SqL K H a xs) (hz : xs.length < sizeLine)
    (me : ∀ σ H Q1 Q2, (∀ v H, Q1 v H → Q2 v H) → te σ H Q1 → te σ H Q2)
    (he : ∀ x ∈ xs, ∀ (H' : Hp) (R : VK), Same H H' → R (F x) H' → te ((capS k ix σ).set 0 (some x)) H' R) (q : ∀ l, H l = none → Q (.ref l) (upd H l (.lst (xs.map F)))) :
    tComp k ix (iList K tl) (gName 0) tAll te σ H Q := by
  refine hl _ ⟨a, rfl, ⟨xs, hs⟩, fun l hn => ?_⟩
  have sm : ∀ o, Same H (upd H l o) := fun o => Same.upd hn
  refine comp_list (K := K) (a := a) (l := l) (xs := xs) (fun i ys H' => ys = (xs.take i).map F ∧ H' = upd H l (.lst ys)) ⟨by simp, rfl⟩ ?_ hz ?_ ?_ (fun x σ H Q1 Q2 h h1 => h _ _ h1) (fun σ H Q1 Q2 h h1 => h _ _ h1) me
  · rintro i ys H' ⟨e, rfl⟩
    refine ⟨Same.seq (sm _) hs, upd_same, ?_⟩
    rw [e, List.length_map, List.length_take]
    omega
  · rintro i x ys H' hx ⟨e, rfl⟩
    simp only [tAll, gName, ↓reduceIte]
    refine he x (List.mem_of_getElem? hx) _ _ (sm _) ⟨upd_same, ?_, upd_upd⟩
    rw [e, List.take_succ, hx]
    simp
  · rintro ys H' ⟨e, rfl⟩
    rw [List.take_length] at e
    subst e
    exact q l hn
section
variable {K : PySem.W.Frag} {D : Ends} {u : TS} {e N : Addr} {o1 o2 : Option V} {H : Hp}
theorem isiX {H : Hp} {e N c : Addr} {b : Bool} {Q : VK} (he : H e = some (ExcO e N none)) (xk : ExcK K N) (k : PySem.W.kitOne K (.ref N) (.ref c) = some b) (q : Q (.bl b) H) : rIsiX K [.ref e, .ref c] H Q :=
  ⟨e, .ref c, N, none, b, rfl, by simp [clsV], he, (fun _ z => nomatch z), xk, k, q⟩
theorem isiXT {H : Hp} {e N : Addr} {T : String} {b : Bool} {Q : VK} (he : H e = some (ExcO e N none)) (xk : ExcK K N) (k : PySem.W.kitOne K (.ref N) (.type T) = some b) (q : Q (.bl b) H) : rIsiX K [.ref e, .ty T] H Q :=
  ⟨e, .ty T, N, none, b, rfl, by simp [clsV], he, (fun _ z => nomatch z), xk, k, q⟩
def tIs (K : PySem.W.Frag) (c : Addr) : TE := tCB (rIsiX K) (tCons (tVar 0) (tCons (tC (.ref c)) tNil))
theorem lst3 {c1 c2 c3 : Addr} {b1 b2 b3 : Bool} {σ : St} {Q : VK} (h0 : σ[0]? = some (some (.ref e))) (he : H e = some (ExcO e N none)) (xk : ExcK K N) (k1 : PySem.W.kitOne K (.ref N) (.ref c1) = some b1) (k2 : PySem.W.kitOne K (.ref N) (.ref c2) = some b2) (k3 : PySem.W.kitOne K (.ref N) (.ref c3) = some b3)
    (q : ∀ p, H p = none → Q (.ref p) (upd H p (.lst [.bl b1, .bl b2, .bl b3]))) : tLst (tCons (tIs K c1) (tCons (tIs K c2) (tCons (tIs K c3) tNil))) σ H Q := by
  simp only [tLst, tIs, tCons, tCB, tVar, tNil, tC]
  exact ⟨_, h0, isiX he xk k1 ⟨_, h0, isiX he xk k2 ⟨_, h0, isiX he xk k3 ⟨by rw [sizeLine_eq]; show 3 ≤ 16777216; decide, q⟩⟩⟩⟩
theorem cls_set {c1 c2 c3 : Addr} {b1 b2 b3 : Bool} (he : H e = some (ExcO e N none)) (xk : ExcK K N) (k1 : PySem.W.kitOne K (.ref N) (.ref c1) = some b1) (k2 : PySem.W.kitOne K (.ref N) (.ref c2) = some b2) (k3 : PySem.W.kitOne K (.ref N) (.ref c3) = some b3)
    (q : ∀ l H', Same H H' → H' l = some (.lst [.bl b1, .bl b2, .bl b3]) → u D [some (.ref e), some (.ref l), o2] H') :
    tSeq (tAsg (tLst (tCons (tIs K c1) (tCons (tIs K c2) (tCons (tIs K c3) tNil)))) (gName 1)) u D [some (.ref e), o1, o2] H := by
  unfold tSeq tAsg
  exact lst3 (σ := [some (.ref e), o1, o2]) rfl he xk k1 k2 k3 fun p hp => q p _ (Same.upd hp) upd_same
theorem cls_cat {c1 c2 c3 : Addr} {b1 b2 b3 : Bool} {l : Addr} {xs : List V} (hl : H l = some (.lst xs)) (hz : xs.length ≤ 1000) (he : H e = some (ExcO e N none)) (xk : ExcK K N) (k1 : PySem.W.kitOne K (.ref N) (.ref c1) = some b1) (k2 : PySem.W.kitOne K (.ref N) (.ref c2) = some b2) (k3 : PySem.W.kitOne K (.ref N) (.ref c3) = some b3)
    (q : ∀ l H', Same H H' → H' l = some (.lst (xs ++ [.bl b1, .bl b2, .bl b3])) → u D [some (.ref e), some (.ref l), o2] H') :
    tSeq (tAsg (tOp rCat (tVar 1) (tLst (tCons (tIs K c1) (tCons (tIs K c2) (tCons (tIs K c3) tNil))))) (gName 1)) u D [some (.ref e), some (.ref l), o2] H := by
  refine ⟨_, rfl, lst3 (σ := [some (.ref e), some (.ref l), o2]) rfl he xk k1 k2 k3 fun p hp => ?_⟩
  refine ⟨l, p, xs, _, rfl, rfl, Same.upd hp _ _ hl, upd_same, ?_, fun p' hp' => q p' _ ((Same.upd hp).trans (Same.upd hp')) upd_same⟩
  rw [sizeLine_eq]
  simp only [List.length_cons, List.length_nil]
  omega
/-- written texts put behind a list -/
def tStr : List Str → TA
  | [] => tNil
  | x :: r => tCons (tC (.str x)) (tStr r)
theorem tStr_eq {σ : St} : ∀ {xs : List Str} {Q : List V → Hp → Prop}, Q (xs.map .str) H → tStr xs σ H Q
  | [], _, q => q
  | x :: r, Q, q => tStr_eq (xs := r) (Q := fun xs H2 => Q (.str x :: xs) H2) q
theorem str_set {ws : List Str} {o0 : Option V} (hz : ws.length ≤ 1000) (q : ∀ l H', Same H H' → H' l = some (.lst (ws.map .str)) → u D [o0, o1, some (.ref l)] H') :
    tSeq (tAsg (tLst (tStr ws)) (gName 2)) u D [o0, o1, o2] H :=
  tStr_eq (σ := [o0, o1, o2]) ⟨by rw [sizeLine_eq, List.length_map]; omega, fun p hp => q p _ (Same.upd hp) upd_same⟩
theorem str_cat {ws : List Str} {o0 : Option V} {l : Addr} {xs : List V} (hl : H l = some (.lst xs)) (hx : xs.length ≤ 1000) (hz : ws.length ≤ 1000) (q : ∀ l H', Same H H' → H' l = some (.lst (xs ++ ws.map .str)) → u D [o0, o1, some (.ref l)] H') :
    tSeq (tAsg (tOp rCat (tVar 2) (tLst (tStr ws))) (gName 2)) u D [o0, o1, some (.ref l)] H := by
  refine ⟨_, rfl, tStr_eq (σ := [o0, o1, some (.ref l)]) ⟨by rw [sizeLine_eq, List.length_map]; omega, fun p hp => ?_⟩⟩
  refine ⟨l, p, xs, _, rfl, rfl, Same.upd hp _ _ hl, upd_same, ?_, fun p' hp' => q p' _ ((Same.upd hp).trans (Same.upd hp')) upd_same⟩
  rw [sizeLine_eq, List.length_map]
  omega
end
end L2
namespace L2
open PySem PySem.Spec PyProof.Rows
/-- a statement, the rest kept shut -/
theorem seq_gen {t u : TS} {D : Ends} {σ : St} {H : Hp} (h : ∀ R : St → Hp → Prop, u D = R → t { D with nx := R } σ H) : tSeq t u D σ H := h _ rfl
end L2
namespace L2
open PySem PySem.Spec PyProof.Rows
/-- a comprehension whose test fails at each item -/
theorem comp_none {K : PySem.W.Frag} {a : Addr} {xs : List V} {k : Nat} {ix : List Nat} {tc : TT} {te : TE} {tl : TE} {σ : St} {H : Hp} {Q : VK} (hl : ∀ R : VK, R (.ref a) H → tl σ H R) (hs : SqL K H a xs) (hz : xs.length < sizeLine)
    (mc : ∀ σ H Q1 Q2, (∀ b H, Q1 b H → Q2 b H) → tc σ H Q1 → tc σ H Q2) (me : ∀ σ H Q1 Q2, (∀ v H, Q1 v H → Q2 v H) → te σ H Q1 → te σ H Q2)
    (ht : ∀ x ∈ xs, ∀ (H' : Hp) (R : Bool → Hp → Prop), Same H H' → (∀ H'', Same H' H'' → R false H'') → tc ((capS k ix σ).set 0 (some x)) H' R) (q : ∀ l H', Same H H' → H' l = some (.lst []) → Q (.ref l) H') :
    tComp k ix (iList K tl) (gName 0) tc te σ H Q := by
  refine hl _ ⟨a, rfl, ⟨xs, hs⟩, fun l hn => ?_⟩
  have sm : Same H (upd H l (.lst [])) := Same.upd hn
  refine comp_list (K := K) (a := a) (l := l) (xs := xs) (fun i ys H' => ys = [] ∧ Same (upd H l (.lst [])) H') ⟨rfl, Same.refl _⟩ ?_ hz ?_ ?_ (fun x σ H Q1 Q2 h h1 => h _ _ h1) mc me
  · rintro i ys H' ⟨rfl, s⟩
    exact ⟨Same.seq (sm.trans s) hs, s _ _ upd_same, Nat.zero_le _⟩
  · rintro i x ys H' hx ⟨rfl, s⟩
    simp only [gName]
    refine ht x (List.mem_of_getElem? hx) _ _ (sm.trans s) fun H'' s'' => ?_
    rw [if_neg Bool.false_ne_true]
    exact ⟨by first | rfl | trivial, s.trans s''⟩
  · rintro ys H' ⟨rfl, s⟩
    exact q l H' (sm.trans s) (s _ _ upd_same)
end L2

set_option linter.all false
/-! numbers in lowest parts -/
namespace Q1
/-- the number worth t by b, in lowest parts -/
def fr (t b : Int) : Int × Int := if b < 0 then (t / -(Int.gcd t b : Int), b / -(Int.gcd t b : Int)) else (t / (Int.gcd t b : Int), b / (Int.gcd t b : Int))
structure Low (p q : Int) : Prop where
  pos : 0 < q
  cop : Int.gcd p q = 1
theorem gcd_pos {t b : Int} (h : b ≠ 0) : 0 < (Int.gcd t b : Int) := by
  have : 0 < Int.gcd t b := Int.gcd_pos_of_ne_zero_right _ h
  omega
theorem div_l {t b : Int} : ((Int.gcd t b : Nat) : Int) ∣ t := Int.gcd_dvd_left ..
theorem div_r {t b : Int} : ((Int.gcd t b : Nat) : Int) ∣ b := Int.gcd_dvd_right ..
theorem cop_div {t b : Int} (h : b ≠ 0) : Int.gcd (t / (Int.gcd t b : Int)) (b / (Int.gcd t b : Int)) = 1 := by
  have hp : 0 < Int.gcd t b := Int.gcd_pos_of_ne_zero_right _ h
  exact Int.gcd_ediv_gcd_ediv_gcd hp
theorem fr_low {t b : Int} (h : b ≠ 0) : Low (fr t b).1 (fr t b).2 := by
  have hg := gcd_pos (t := t) h
  have c := cop_div (t := t) h
  unfold fr
  split
  · rename_i hb
    refine ⟨?_, ?_⟩
    · show 0 < b / -(Int.gcd t b : Int)
      rw [Int.ediv_neg]
      have := Int.ediv_mul_cancel (div_r (t := t) (b := b))
      have h1 : b / (Int.gcd t b : Int) < 0 := by
        rcases Int.lt_trichotomy (b / (Int.gcd t b : Int)) 0 with z | z | z
        · exact z
        · rw [z] at this; omega
        · have := Int.mul_pos z hg; omega
      omega
    · show Int.gcd (t / -(Int.gcd t b : Int)) (b / -(Int.gcd t b : Int)) = 1
      rw [Int.ediv_neg, Int.ediv_neg, Int.gcd_neg, Int.neg_gcd]
      exact c
  · rename_i hb
    refine ⟨?_, c⟩
    show 0 < b / (Int.gcd t b : Int)
    have := Int.ediv_mul_cancel (div_r (t := t) (b := b))
    rcases Int.lt_trichotomy (b / (Int.gcd t b : Int)) 0 with z | z | z
    · have := Int.mul_neg_of_neg_of_pos z hg; omega
    · rw [z] at this; omega
    · exact z
theorem fr_eq {t b : Int} (h : b ≠ 0) : (fr t b).1 * b = t * (fr t b).2 := by
  have e1 := Int.ediv_mul_cancel (div_l (t := t) (b := b))
  have e2 := Int.ediv_mul_cancel (div_r (t := t) (b := b))
  have key : t / (Int.gcd t b : Int) * b = t * (b / (Int.gcd t b : Int)) := by
    calc t / (Int.gcd t b : Int) * b = t / (Int.gcd t b : Int) * (b / (Int.gcd t b : Int) * (Int.gcd t b : Int)) := by rw [e2]
      _ = t / (Int.gcd t b : Int) * (Int.gcd t b : Int) * (b / (Int.gcd t b : Int)) := by rw [Int.mul_assoc, Int.mul_comm (b / _)]
      _ = t * (b / (Int.gcd t b : Int)) := by rw [e1]
  unfold fr
  split
  · show t / -(Int.gcd t b : Int) * b = t * (b / -(Int.gcd t b : Int))
    rw [Int.ediv_neg, Int.ediv_neg, Int.neg_mul, Int.mul_neg, key]
  · exact key
theorem dvd_cop {q p r : Int} (h : q ∣ p * r) (c : Int.gcd p q = 1) : q ∣ r := by
  have h1 : q.natAbs ∣ p.natAbs * r.natAbs := by
    rw [← Int.natAbs_mul]
    exact Int.natAbs_dvd_natAbs.mpr h
  have c' : Nat.Coprime q.natAbs p.natAbs := by
    show Nat.gcd q.natAbs p.natAbs = 1
    rw [Nat.gcd_comm]
    exact c
  exact Int.natAbs_dvd_natAbs.mp (Nat.Coprime.dvd_of_dvd_mul_left c' h1)
theorem low_uniq {p q p' q' : Int} (a : Low p q) (b : Low p' q') (h : p * q' = p' * q) : p = p' ∧ q = q' := by
  have d1 : q ∣ q' := by
    have : q ∣ p * q' := ⟨p', by rw [h, Int.mul_comm]⟩
    exact dvd_cop this a.cop
  have d2 : q' ∣ q := by
    have : q' ∣ p' * q := ⟨p, by rw [← h, Int.mul_comm]⟩
    exact dvd_cop this b.cop
  have e : q = q' := Int.dvd_antisymm (Int.le_of_lt a.pos) (Int.le_of_lt b.pos) d1 d2
  refine ⟨?_, e⟩
  subst e
  exact Int.eq_of_mul_eq_mul_right (Int.ne_of_gt a.pos) h
theorem fr_of {t b p q : Int} (hb : b ≠ 0) (l : Low p q) (h : p * b = t * q) : fr t b = (p, q) := by
  have e := fr_eq (t := t) hb
  have l' := fr_low (t := t) hb
  have : (fr t b).1 * q = p * (fr t b).2 := by
    have h2 : (fr t b).1 * q * b = p * (fr t b).2 * b := by
      calc (fr t b).1 * q * b = (fr t b).1 * b * q := by rw [Int.mul_assoc, Int.mul_comm q, Int.mul_assoc]
        _ = t * (fr t b).2 * q := by rw [e]
        _ = t * q * (fr t b).2 := by rw [Int.mul_assoc, Int.mul_comm (fr t b).2, Int.mul_assoc]
        _ = p * b * (fr t b).2 := by rw [h]
        _ = p * (fr t b).2 * b := by rw [Int.mul_assoc, Int.mul_comm b, Int.mul_assoc]
    exact Int.eq_of_mul_eq_mul_right hb h2
  obtain ⟨a1, a2⟩ := low_uniq l' l this
  exact Prod.ext a1 a2
theorem fr_pos {t b : Int} (h : 0 < b) : fr t b = (t / (Int.gcd t b : Int), b / (Int.gcd t b : Int)) := by
  unfold fr
  rw [if_neg (by omega)]
theorem low_fr {p q : Int} (l : Low p q) : fr p q = (p, q) := fr_of (Int.ne_of_gt l.pos) l rfl
end Q1

set_option linter.all false
namespace Q1
theorem Low.ne {p q : Int} (l : Low p q) : q ≠ 0 := Int.ne_of_gt l.pos
theorem gcd_one {a b : Int} (h : ∀ d : Int, d ∣ a → d ∣ b → d ∣ 1) : Int.gcd a b = 1 := by
  have := h (Int.gcd a b : Int) (Int.gcd_dvd_left ..) (Int.gcd_dvd_right ..)
  have h2 : (Int.gcd a b) ∣ 1 := by
    have := Int.natAbs_dvd_natAbs.mpr this
    simpa using this
  exact Nat.dvd_one.mp h2
theorem dvd_one {a b d : Int} (h : Int.gcd a b = 1) (h1 : d ∣ a) (h2 : d ∣ b) : d ∣ 1 := by
  have := Int.dvd_coe_gcd h1 h2
  rw [h] at this
  exact this
theorem gcd_comm' {a b : Int} (h : Int.gcd a b = 1) : Int.gcd b a = 1 := by rw [Int.gcd_comm]; exact h
theorem gcd_mul {a b c : Int} (h1 : Int.gcd a b = 1) (h2 : Int.gcd a c = 1) : Int.gcd a (b * c) = 1 := by
  refine gcd_one fun d da db => ?_
  have c1 : Int.gcd b d = 1 := gcd_one fun e e1 e2 => dvd_one h1 (Int.dvd_trans e2 da) e1
  exact dvd_one h2 da (dvd_cop db c1)
theorem gcd_of {a b a' b' : Int} (h : Int.gcd a b = 1) (h1 : a' ∣ a) (h2 : b' ∣ b) : Int.gcd a' b' = 1 :=
  gcd_one fun d da db => dvd_one h (Int.dvd_trans da h1) (Int.dvd_trans db h2)
theorem ediv_dvd {a b : Int} (h : b ∣ a) : a / b ∣ a := by
  obtain ⟨c, rfl⟩ := h
  by_cases z : b = 0
  · subst z; simp
  · rw [Int.mul_ediv_cancel_left _ z]; exact ⟨b, Int.mul_comm _ _⟩
theorem pos_of_mul {a b : Int} (h : 0 < a * b) (hb : 0 < b) : 0 < a := by
  rcases Int.lt_trichotomy a 0 with z | z | z
  · have := Int.mul_neg_of_neg_of_pos z hb; omega
  · subst z; simp at h
  · exact z
/-- the sum, as it is reckoned -/
def plusN (p q r s : Int) : Int × Int :=
  let g := (Int.gcd q s : Int)
  let top := p * (s / g) + r * (q / g)
  let e := (Int.gcd top g : Int)
  (top / e, q / g * (s / e))
def timesN (p q r s : Int) : Int × Int :=
  (p / (Int.gcd p s : Int) * (r / (Int.gcd r q : Int)), q / (Int.gcd r q : Int) * (s / (Int.gcd p s : Int)))
theorem plus_core {p q r s g m t e top T G : Int} (l1 : Low p q) (l2 : Low r s) (g0 : 0 < g) (e0 : 0 < e) (hq : q = m * g) (hs : s = t * g) (hmt : Int.gcd m t = 1)
    (ht : top = p * t + r * m) (hT : top = T * e) (hG : g = G * e) (hTG : Int.gcd T G = 1) : Low T (m * (t * G)) ∧ T * (q * s) = (p * s + r * q) * (m * (t * G)) := by
  have hm : 0 < m := pos_of_mul (by rw [← hq]; exact l1.pos) g0
  have htt : 0 < t := pos_of_mul (by rw [← hs]; exact l2.pos) g0
  have hGG : 0 < G := pos_of_mul (by rw [← hG]; exact g0) e0
  refine ⟨⟨Int.mul_pos hm (Int.mul_pos htt hGG), ?_⟩, ?_⟩
  · have dT : T ∣ top := ⟨e, hT⟩
    have c1 : Int.gcd T m = 1 := by
      refine gcd_one fun d da db => ?_
      have h1 : d ∣ p * t := by
        have h2 : d ∣ p * t + r * m := by rw [← ht]; exact Int.dvd_trans da dT
        exact (Int.dvd_add_left (Int.dvd_mul_of_dvd_right db)).mp h2
      have h3 : Int.gcd p d = 1 := gcd_of l1.cop (Int.dvd_refl _) (by rw [hq]; exact Int.dvd_trans db (Int.dvd_mul_right ..))
      exact dvd_one hmt db (dvd_cop h1 h3)
    have c2 : Int.gcd T t = 1 := by
      refine gcd_one fun d da db => ?_
      have h1 : d ∣ r * m := by
        have h2 : d ∣ p * t + r * m := by rw [← ht]; exact Int.dvd_trans da dT
        exact (Int.dvd_add_right (Int.dvd_mul_of_dvd_right db)).mp h2
      have h3 : Int.gcd r d = 1 := gcd_of l2.cop (Int.dvd_refl _) (by rw [hs]; exact Int.dvd_trans db (Int.dvd_mul_right ..))
      exact dvd_one hmt (dvd_cop h1 h3) db
    exact gcd_mul c1 (gcd_mul c2 hTG)
  · have k1 : p * s + r * q = top * g := by
      rw [hq, hs, ht, Int.add_mul, Int.mul_assoc, Int.mul_assoc]
    rw [k1, hT, hq, hs]
    rw [show m * g * (t * g) = m * (t * G) * (e * g) by rw [show t * g = t * (G * e) by rw [hG]]; ac_rfl]
    ac_rfl
theorem plus_eq {p q r s : Int} (l1 : Low p q) (l2 : Low r s) : plusN p q r s = fr (p * s + r * q) (q * s) := by
  have g0 : 0 < (Int.gcd q s : Int) := gcd_pos l2.ne
  have d1 : (Int.gcd q s : Int) ∣ q := Int.gcd_dvd_left ..
  have d2 : (Int.gcd q s : Int) ∣ s := Int.gcd_dvd_right ..
  have e0 : 0 < (Int.gcd (p * (s / (Int.gcd q s : Int)) + r * (q / (Int.gcd q s : Int))) (Int.gcd q s : Int) : Int) := gcd_pos (Int.ne_of_gt g0)
  have d3 := Int.gcd_dvd_left (a := p * (s / (Int.gcd q s : Int)) + r * (q / (Int.gcd q s : Int))) (b := (Int.gcd q s : Int))
  have d4 := Int.gcd_dvd_right (a := p * (s / (Int.gcd q s : Int)) + r * (q / (Int.gcd q s : Int))) (b := (Int.gcd q s : Int))
  have core := plus_core l1 l2 g0 e0 (Int.ediv_mul_cancel d1).symm (Int.ediv_mul_cancel d2).symm (cop_div l2.ne) rfl (Int.ediv_mul_cancel d3).symm (Int.ediv_mul_cancel d4).symm (cop_div (Int.ne_of_gt g0))
  have e : plusN p q r s = (_, _) := rfl
  have hs : s / (Int.gcd (p * (s / (Int.gcd q s : Int)) + r * (q / (Int.gcd q s : Int))) (Int.gcd q s : Int) : Int) = s / (Int.gcd q s : Int) * ((Int.gcd q s : Int) / (Int.gcd (p * (s / (Int.gcd q s : Int)) + r * (q / (Int.gcd q s : Int))) (Int.gcd q s : Int) : Int)) := by
    refine Int.ediv_eq_of_eq_mul_left (Int.ne_of_gt e0) ?_
    rw [Int.mul_assoc, Int.ediv_mul_cancel d4, Int.ediv_mul_cancel d2]
  symm
  refine fr_of (Int.ne_of_gt (Int.mul_pos l1.pos l2.pos)) (p := (plusN p q r s).1) (q := (plusN p q r s).2) ?_ ?_
  · have : (plusN p q r s).2 = _ := rfl
    rw [this]
    show Low _ (q / (Int.gcd q s : Int) * (s / _))
    rw [hs]
    exact core.1
  · show _ * (q * s) = _ * (q / (Int.gcd q s : Int) * (s / _))
    rw [hs]
    exact core.2
theorem low_neg {p q : Int} (l : Low p q) : Low (-p) q := ⟨l.pos, by rw [Int.neg_gcd]; exact l.cop⟩
theorem less_eq {p q r s : Int} (l1 : Low p q) (l2 : Low r s) : plusN p q (-r) s = fr (p * s - r * q) (q * s) := by
  rw [plus_eq l1 (low_neg l2), Int.neg_mul, Int.sub_eq_add_neg]
theorem times_eq {p q r s : Int} (l1 : Low p q) (l2 : Low r s) : timesN p q r s = fr (p * r) (q * s) := by
  have m0 : 0 < (Int.gcd p s : Int) := gcd_pos l2.ne
  have i0 : 0 < (Int.gcd r q : Int) := gcd_pos l1.ne
  have a1 : (Int.gcd p s : Int) ∣ p := Int.gcd_dvd_left ..
  have a2 : (Int.gcd p s : Int) ∣ s := Int.gcd_dvd_right ..
  have b1 : (Int.gcd r q : Int) ∣ r := Int.gcd_dvd_left ..
  have b2 : (Int.gcd r q : Int) ∣ q := Int.gcd_dvd_right ..
  symm
  refine fr_of (Int.ne_of_gt (Int.mul_pos l1.pos l2.pos)) (p := (timesN p q r s).1) (q := (timesN p q r s).2) ⟨?_, ?_⟩ ?_
  · refine Int.mul_pos ?_ ?_
    · exact pos_of_mul (by rw [Int.ediv_mul_cancel b2]; exact l1.pos) i0
    · exact pos_of_mul (by rw [Int.ediv_mul_cancel a2]; exact l2.pos) m0
  · show Int.gcd (p / _ * (r / _)) (q / _ * (s / _)) = 1
    have x1 : Int.gcd (p / (Int.gcd p s : Int)) (q / (Int.gcd r q : Int)) = 1 := gcd_of l1.cop (ediv_dvd a1) (ediv_dvd b2)
    have x2 : Int.gcd (p / (Int.gcd p s : Int)) (s / (Int.gcd p s : Int)) = 1 := cop_div l2.ne
    have x3 : Int.gcd (r / (Int.gcd r q : Int)) (q / (Int.gcd r q : Int)) = 1 := cop_div l1.ne
    have x4 : Int.gcd (r / (Int.gcd r q : Int)) (s / (Int.gcd p s : Int)) = 1 := gcd_of l2.cop (ediv_dvd b1) (ediv_dvd a2)
    exact gcd_comm' (gcd_mul (gcd_comm' (gcd_mul x1 x2)) (gcd_comm' (gcd_mul x3 x4)))
  · show p / (Int.gcd p s : Int) * (r / (Int.gcd r q : Int)) * (q * s) = p * r * (q / (Int.gcd r q : Int) * (s / (Int.gcd p s : Int)))
    have y1 := Int.ediv_mul_cancel a1
    have y2 := Int.ediv_mul_cancel a2
    have y3 := Int.ediv_mul_cancel b1
    have y4 := Int.ediv_mul_cancel b2
    generalize (Int.gcd p s : Int) = m at *
    generalize (Int.gcd r q : Int) = i at *
    generalize p / m = P at *
    generalize s / m = S at *
    generalize r / i = R at *
    generalize q / i = Q at *
    rw [← y1, ← y2, ← y3, ← y4]
    ac_rfl
end Q1

set_option Elab.async false
set_option linter.all false
set_option maxRecDepth 100000
set_option maxHeartbeats 4000000
namespace K1
open PySem L2 PySem.Spec PyProof.Rows
def top (i : Nat) : Stmt := PySem.Challenge.pw_swaprest_k01_numbers.main.body.getD i (.Pass ⟨0, 0, 0, 0⟩)
abbrev s_is_whole : Stmt := top 30
abbrev s_common_divisor : Stmt := top 31
abbrev s_is_number : Stmt := top 32
abbrev s_fraction : Stmt := top 33
structure Blt (mg : Str → Option Value) : Prop where
  n_abs : mg "abs" = none
  n_isinstance : mg "isinstance" = none
  n_int : mg "int" = none
  n_bool : mg "bool" = none
  n_tuple : mg "tuple" = none
  n_len : mg "len" = none
  n_sum : mg "sum" = none
namespace Bt
theorem abs : bootBuiltins "abs" = some (.builtin "abs") := by decide +kernel
theorem isinstance : bootBuiltins "isinstance" = some (.builtin "isinstance") := by decide +kernel
theorem len : bootBuiltins "len" = some (.builtin "len") := by decide +kernel
theorem sum : bootBuiltins "sum" = some (.builtin "sum") := by decide +kernel
theorem int : bootBuiltins "int" = some (.type "int") := by decide +kernel
theorem bool : bootBuiltins "bool" = some (.type "bool") := by decide +kernel
theorem tuple : bootBuiltins "tuple" = some (.type "tuple") := by decide +kernel
theorem ValueError : bootBuiltins "ValueError" = some (.type "ValueError") := by decide +kernel
end Bt
/-! the kinds of data -/
def tyD : PyData → String
  | .none => "NoneType" | .bool _ => "bool" | .int _ => "int" | .str _ => "str" | .list _ => "list" | .tuple _ => "tuple" | .dict _ => "dict"
def isDict : PyData → Bool
  | .dict _ => true | _ => false
theorem ty_of {K : PySem.W.Frag} {H : Hp} {d : PyData} {x : V} (h : Is K H d x) : Ty K H x (.type (tyD d)) := by
  cases d with
  | none => simp only [Is] at h; subst h; exact .non
  | bool b => simp only [Is] at h; subst h; exact .bl b
  | int i => simp only [Is] at h; subst h; exact .int i
  | str s => simp only [Is] at h; subst h; exact .str s
  | list xs => simp only [Is] at h; obtain ⟨a, vs, rfl, h1, _⟩ := h; exact .lst h1
  | tuple xs => simp only [Is] at h; obtain ⟨a, vs, rfl, h1, _⟩ := h; exact .tup h1
  | dict kvs => simp only [Is] at h
def isInt : PyData → Bool
  | .int _ | .bool _ => true | _ => false
def isBool : PyData → Bool
  | .bool _ => true | _ => false
def isTup : PyData → Bool
  | .tuple _ => true | _ => false
def isW : PyData → Bool
  | .int _ => true | _ => false
def kitT (T c : String) : Option Bool := if (Value.type T == Value.type c) = true then some true else if PySem.W.kitMeta c = true then (fastBuiltinMro T).map (·.contains (.type c)) else none
theorem kitT_eq {K : PySem.W.Frag} (T c : String) : PySem.W.kitOne K (.type T) (.type c) = kitT T c := rfl
theorem kit_int {K : PySem.W.Frag} (d : PyData) : PySem.W.kitOne K (.type (tyD d)) (.type "int") = some (isInt d) := by
  rw [kitT_eq]
  cases d with
  | none => exact (by decide +kernel : kitT "NoneType" "int" = some false)
  | bool b => exact (by decide +kernel : kitT "bool" "int" = some true)
  | int b => exact (by decide +kernel : kitT "int" "int" = some true)
  | str b => exact (by decide +kernel : kitT "str" "int" = some false)
  | list b => exact (by decide +kernel : kitT "list" "int" = some false)
  | tuple b => exact (by decide +kernel : kitT "tuple" "int" = some false)
  | dict b => exact (by decide +kernel : kitT "dict" "int" = some false)
theorem kit_bool {K : PySem.W.Frag} (d : PyData) : PySem.W.kitOne K (.type (tyD d)) (.type "bool") = some (isBool d) := by
  rw [kitT_eq]
  cases d with
  | none => exact (by decide +kernel : kitT "NoneType" "bool" = some false)
  | bool b => exact (by decide +kernel : kitT "bool" "bool" = some true)
  | int b => exact (by decide +kernel : kitT "int" "bool" = some false)
  | str b => exact (by decide +kernel : kitT "str" "bool" = some false)
  | list b => exact (by decide +kernel : kitT "list" "bool" = some false)
  | tuple b => exact (by decide +kernel : kitT "tuple" "bool" = some false)
  | dict b => exact (by decide +kernel : kitT "dict" "bool" = some false)
theorem kit_tup {K : PySem.W.Frag} (d : PyData) : PySem.W.kitOne K (.type (tyD d)) (.type "tuple") = some (isTup d) := by
  rw [kitT_eq]
  cases d with
  | none => exact (by decide +kernel : kitT "NoneType" "tuple" = some false)
  | bool b => exact (by decide +kernel : kitT "bool" "tuple" = some false)
  | int b => exact (by decide +kernel : kitT "int" "tuple" = some false)
  | str b => exact (by decide +kernel : kitT "str" "tuple" = some false)
  | list b => exact (by decide +kernel : kitT "list" "tuple" = some false)
  | tuple b => exact (by decide +kernel : kitT "tuple" "tuple" = some true)
  | dict b => exact (by decide +kernel : kitT "dict" "tuple" = some false)
theorem isW_of (d : PyData) : isW d = (isInt d && !isBool d) := by cases d <;> rfl
/-- isinstance of data -/
theorem isi {K : PySem.W.Frag} {H : Hp} {d : PyData} {x : V} {T : String} {b : Bool} {Q : VK} (h : Is K H d x) (k : PySem.W.kitOne K (.type (tyD d)) (.type T) = some b) (q : Q (.bl b) H) : rIsi K [x, .ty T] H Q :=
  ⟨x, .ty T, _, b, rfl, by simp [clsV], ty_of h, k, q⟩
section
variable {P : Program} {w : World} {K : PySem.W.Frag} {mg : Str → Option Value} {base : Heap}
def sp_cd : Sp := fun vs H Q _ => ∃ a b : Int, vs = [.int a, .int b] ∧ Q (.int (Int.gcd a b)) H
theorem k_common_divisor (h : Has K mg "common_divisor" s_common_divisor) (B : Blt mg) : Callee P w K mg base "common_divisor" 1 ["one", "other"] sp_cd := by
  have S : FnScope ["one", "other", "high", "low"] ["one", "other"] (defScope s_common_divisor) := ⟨rfl, rfl, rfl, by decide +kernel, rfl, by decide +kernel, by decide +kernel⟩
  refine h.callee S (fun vs H Q E ⟨a, b, e, _⟩ => by rw [e]; rfl) (fun _ _ _ _ _ _ us hl => match us, hl with | [_, _], _ => rfl) fun f cdv A outer s H vs Q E hr hq => ?_
  obtain ⟨a, b, rfl, q⟩ := hq
  have PO : ∀ {M : Model} {A : Around} {env : Env}, PassesOwn M A env (fun _ _ => False) := PassesOwn.never
  refine ⟨_, PSs.nox (pss_cons (ps_par (i := 2) (j := 3) rfl S.nd rfl rfl (by decide) rfl rfl (pa_cons (pe_callB call_abs rfl B.n_abs Bt.abs (pa_cons (pv 0) pa_nil)) (pa_cons (pe_callB call_abs rfl B.n_abs Bt.abs (pa_cons (pv 1) pa_nil)) pa_nil)) rfl)
      (pss_cons (ps_while (PO) (pt_cmpR op_ne (pv 3) pe_int (nomark _)) (pss_one (ps_par (i := 2) (j := 3) rfl S.nd rfl rfl (by decide) rfl rfl (pa_cons (pv 3) (pa_cons (pe_op op_mod (pv 2) (pv 3)) pa_nil)) rfl)))
      (pss_one (ps_ret (pv 2))))), ?_⟩
  rw [show L2.start ["one", "other", "high", "low"] [V.int a, V.int b] = [some (.int a), some (.int b), none, none] from rfl]
  simp only [tSeq, tNext, tIfS, tIf, tPar, tCons, tCB, tVar, tNil, tC, tOp, tUn, tRet, tRetN, tAsg, gName, gTup, gLst, gCons, gNil, tTest, tB, tAnd, tOr, tNot, tAndV, tOrV, tNotV, tDrop, tTup, tLst, tCall, tCallX, tRaise, rI, rI0, rU, rEq, rNe, rIxT, rIxL, rCat, rEqD, rNeD, rIsi, scal_ii, scal_bb, scal_ss, scal_nn, cx_K, tSl, tPart, tNoPart, gSub, rSetL, tBM, iList, iTup, tFor, List.append_nil, List.getElem?_cons_zero, List.getElem?_cons_succ, Option.some.injEq, exists_eq_left, exists_eq_left', List.cons.injEq, V.int.injEq, V.bl.injEq, V.str.injEq, V.ref.injEq, and_true, true_and, and_assoc, List.set_cons_zero, List.set_cons_succ, List.length_cons, List.length_nil, exists_and_left, reduceCtorEq, decide_false, decide_true, Bool.not_true, Bool.not_false, List.nil_append, List.cons_append]
  refine while_by (fun σ H' => ∃ x y : Int, σ = [some (.int a), some (.int b), some (.int x), some (.int y)] ∧ H' = H ∧ 0 ≤ x ∧ 0 ≤ y ∧ Int.gcd x y = Int.gcd a b)
    (fun σ _ => match σ with | [_, _, _, some (.int y)] => y.toNat | _ => 0) ⟨_, _, rfl, rfl, ?_, ?_, ?_⟩ ?_ ?_
  · split <;> omega
  · split <;> omega
  · rw [show (if a < 0 then -a else a) = (a.natAbs : Int) by split <;> omega, show (if b < 0 then -b else b) = (b.natAbs : Int) by split <;> omega]
    simp [Int.gcd]
  · rintro σ H' ⟨x, y, rfl, rfl, hx, hy, hg⟩
    simp only [tSeq, tNext, tIfS, tIf, tPar, tCons, tCB, tVar, tNil, tC, tOp, tUn, tRet, tRetN, tAsg, gName, gTup, gLst, gCons, gNil, tTest, tB, tAnd, tOr, tNot, tAndV, tOrV, tNotV, tDrop, tTup, tLst, tCall, tCallX, tRaise, rI, rI0, rU, rEq, rNe, rIxT, rIxL, rCat, rEqD, rNeD, rIsi, scal_ii, scal_bb, scal_ss, scal_nn, cx_K, tSl, tPart, tNoPart, gSub, rSetL, tBM, iList, iTup, tFor, List.append_nil, List.getElem?_cons_zero, List.getElem?_cons_succ, Option.some.injEq, exists_eq_left, exists_eq_left', List.cons.injEq, V.int.injEq, V.bl.injEq, V.str.injEq, V.ref.injEq, and_true, true_and, and_assoc, List.set_cons_zero, List.set_cons_succ, List.length_cons, List.length_nil, exists_and_left, reduceCtorEq, decide_false, decide_true, Bool.not_true, Bool.not_false, List.nil_append, List.cons_append]
    refine iteB (fun hc => ?_) (fun hc => ?_)
    · have hy0 : y ≠ 0 := by simpa using hc
      refine ⟨by omega, hy, Int.emod_nonneg _ hy0, ?_, ?_⟩
      · rw [← hg]
        show Nat.gcd y.natAbs (x % y).natAbs = Nat.gcd x.natAbs y.natAbs
        rw [Int.natAbs_emod_of_nonneg hx, Nat.gcd_comm, ← Nat.gcd_rec, Nat.gcd_comm]
      · have := Int.emod_lt_of_pos x (show 0 < y by omega)
        have := Int.emod_nonneg x hy0
        omega
    · have hy0 : y = 0 := by simpa using hc
      subst hy0
      have : (x : Int) = (Int.gcd a b : Int) := by rw [← hg]; simp [Int.gcd]; omega
      rw [this]
      exact q
  · intro σ H Q1 Q2 hm h1
    simp only [tSeq, tNext, tIfS, tIf, tPar, tCons, tCB, tVar, tNil, tC, tOp, tUn, tRet, tRetN, tAsg, gName, gTup, gLst, gCons, gNil, tTest, tB, tAnd, tOr, tNot, tAndV, tOrV, tNotV, tDrop, tTup, tLst, tCall, tCallX, tRaise, rI, rI0, rU, rEq, rNe, rIxT, rIxL, rCat, rEqD, rNeD, rIsi, scal_ii, scal_bb, scal_ss, scal_nn, cx_K, tSl, tPart, tNoPart, gSub, rSetL, tBM, iList, iTup, tFor, List.append_nil, List.getElem?_cons_zero, List.getElem?_cons_succ, Option.some.injEq, exists_eq_left, exists_eq_left', List.cons.injEq, V.int.injEq, V.bl.injEq, V.str.injEq, V.ref.injEq, and_true, true_and, and_assoc, List.set_cons_zero, List.set_cons_succ, List.length_cons, List.length_nil, exists_and_left, reduceCtorEq, decide_false, decide_true, Bool.not_true, Bool.not_false, List.nil_append, List.cons_append] at h1 ⊢
    obtain ⟨v, e, e2, hv⟩ := h1
    exact ⟨v, e, e2, hm _ _ hv⟩
def sp_is_whole (K : PySem.W.Frag) : Sp := fun vs H Q _ => ∃ x d, vs = [x] ∧ Is K H d x ∧ Q (.bl (isW d)) H
theorem k_is_whole (h : Has K mg "is_whole" s_is_whole) (B : Blt mg) : Callee P w K mg base "is_whole" 1 ["one"] (sp_is_whole K) := by
  have S : FnScope ["one"] ["one"] (defScope s_is_whole) := ⟨rfl, rfl, rfl, by decide +kernel, rfl, by decide +kernel, by decide +kernel⟩
  refine h.callee S (fun vs H Q E ⟨_, _, e, _⟩ => by rw [e]; rfl) (fun _ _ _ _ _ _ us hl => match us, hl with | [_], _ => rfl) fun f cdv A outer s H vs Q E hr hq => ?_
  obtain ⟨x, d, rfl, hx, q⟩ := hq
  refine ⟨_, PSs.nox (pss_one (ps_ret (pe_and (pe_callB call_isi rfl B.n_isinstance Bt.isinstance (pa_cons (pv 0) (pa_cons (pe_ty rfl B.n_int Bt.int) pa_nil))) (pe_one (pe_not (pe_callB call_isi rfl B.n_isinstance Bt.isinstance (pa_cons (pv 0) (pa_cons (pe_ty rfl B.n_bool Bt.bool) pa_nil)))))))), ?_⟩
  rw [show L2.start ["one"] [x] = [some x] from rfl]
  simp only [tRet, tAndV, tNotV, tCB, tCons, tVar, tNil, tC, List.getElem?_cons_zero, Option.some.injEq, exists_eq_left']
  refine isi hx (kit_int d) ?_
  simp only [V.bl.injEq, exists_eq_left']
  rw [isW_of] at q
  refine iteB (fun c => isi hx (kit_bool d) ?_) (fun c => ?_)
  · rw [c] at q
    exact ⟨_, rfl, q⟩
  · rw [c] at q
    exact q
theorem isAll_len {K : PySem.W.Frag} {H : Hp} : ∀ {xs : List PyData} {vs : List V}, IsAll K H xs vs → vs.length = xs.length
  | [], vs, h => by simp only [IsAll] at h; rw [h]; rfl
  | d :: ds, vs, h => by
    simp only [IsAll] at h
    obtain ⟨v, r, rfl, _, h2⟩ := h
    rw [List.length_cons, isAll_len h2, List.length_cons]
def isNum : PyData → Bool
  | .tuple [.int p, .int q] => decide (1 ≤ q) && decide (Int.gcd p q = 1)
  | _ => false
theorem isNum_pair (p q : Int) : isNum (.tuple [.int p, .int q]) = (decide (1 ≤ q) && decide (Int.gcd p q = 1)) := rfl
theorem isNum_two {d0 d1 : PyData} (h : isW d0 = false ∨ isW d1 = false) : isNum (.tuple [d0, d1]) = false := by
  cases d0 <;> cases d1 <;> first | rfl | (simp [isW] at h)
theorem isNum_len : ∀ xs : List PyData, xs.length ≠ 2 → isNum (.tuple xs) = false
  | [], _ => rfl
  | [d], _ => by cases d <;> rfl
  | d0 :: d1 :: d2 :: r, _ => by cases d0 <;> (try rfl) <;> cases d1 <;> rfl
  | [_, _], h => absurd rfl h
theorem isNum_not {d : PyData} (h : isTup d = false) : isNum d = false := by
  cases d with
  | tuple xs => cases h
  | _ => rfl
def sp_is_number (K : PySem.W.Frag) : Sp := fun vs H Q _ => ∃ x d, vs = [x] ∧ Is K H d x ∧ Q (.bl (isNum d)) H
theorem k_is_number (h : Has K mg "is_number" s_is_number) (B : Blt mg) (c_is_whole : Callee P w K mg base "is_whole" 1 ["one"] (sp_is_whole K)) (c_common_divisor : Callee P w K mg base "common_divisor" 1 ["one", "other"] sp_cd) :
    Callee P w K mg base "is_number" 2 ["one"] (sp_is_number K) := by
  have S : FnScope ["one", "top", "bottom"] ["one"] (defScope s_is_number) := ⟨rfl, rfl, rfl, by decide +kernel, rfl, by decide +kernel, by decide +kernel⟩
  refine h.callee S (fun vs H Q E ⟨_, _, e, _⟩ => by rw [e]; rfl) (fun _ _ _ _ _ _ us hl => match us, hl with | [_], _ => rfl) fun f cdv A outer s H vs Q E hr hq => ?_
  obtain ⟨x, d, rfl, hx, q⟩ := hq
  refine ⟨_, PSs.nox (pss_cons (ps_if (PW.pt (pw_or (pt_not (pt_val (pe_callB call_isi rfl B.n_isinstance Bt.isinstance (pa_cons (pv 0) (pa_cons (pe_ty rfl B.n_tuple Bt.tuple) pa_nil))))) (pw_or1 (pt_cmpR op_ne (pe_callB call_len_seq rfl B.n_len Bt.len (pa_cons (pv 0) pa_nil)) pe_int (nomark _))))) (pss_one (ps_ret pe_bl)) pss_nil)
      (pss_cons (ps_asg (pv 0) (pg_tup (n := 2) rfl (pgs_cons (pg_name (i := 1) S.nd rfl (Or.inl rfl)) (pgs_cons (pg_name (i := 2) S.nd rfl (Or.inl rfl)) pgs_nil))))
      (pss_cons (ps_if (PW.pt (pw_or (pt_not (pt_val (pe_callee c_is_whole hr rfl pass_e0 (pa_cons (pv 1) pa_nil)))) (pw_or (pt_not (pt_val (pe_callee c_is_whole hr rfl pass_e0 (pa_cons (pv 2) pa_nil)))) (pw_or1 (pt_cmpR op_lt (pv 2) pe_int (nomark _)))))) (pss_one (ps_ret pe_bl)) pss_nil)
      (pss_one (ps_ret (pe_cmpR op_eq (pe_callee c_common_divisor hr rfl pass_e0 (pa_cons (pv 1) (pa_cons (pv 2) pa_nil))) pe_int (nomark _))))))), ?_⟩
  rw [show L2.start ["one", "top", "bottom"] [x] = [some x, none, none] from rfl]
  simp only [tSeq, tNext, tIfS, tIf, tPar, tCons, tCB, tVar, tNil, tC, tOp, tUn, tRet, tRetN, tAsg, gName, gTup, gLst, gCons, gNil, tTest, tB, tAnd, tOr, tNot, tAndV, tOrV, tNotV, tDrop, tTup, tLst, tCall, tCallX, tRaise, rI, rI0, rU, rEq, rNe, rIxT, rIxL, rCat, rEqD, rNeD, rIsi, scal_ii, scal_bb, scal_ss, scal_nn, cx_K, tSl, tPart, tNoPart, gSub, rSetL, tBM, iList, iTup, tFor, List.append_nil, List.getElem?_cons_zero, List.getElem?_cons_succ, Option.some.injEq, exists_eq_left, exists_eq_left', List.cons.injEq, V.int.injEq, V.bl.injEq, V.str.injEq, V.ref.injEq, and_true, true_and, and_assoc, List.set_cons_zero, List.set_cons_succ, List.length_cons, List.length_nil, exists_and_left, reduceCtorEq, decide_false, decide_true, Bool.not_true, Bool.not_false, List.nil_append, List.cons_append]
  refine ⟨by simp [clsV], _, ty_of hx, _, kit_tup d, ?_⟩
  by_cases hd : isTup d = true
  · refine iteFB (by rw [hd]; rfl) ?_
    obtain ⟨xs, rfl⟩ : ∃ xs, d = .tuple xs := by
      cases d with
      | tuple xs => exact ⟨xs, rfl⟩
      | _ => cases hd
    simp only [Is] at hx
    obtain ⟨a, vs, rfl, hs, ha⟩ := hx
    refine ⟨a, rfl, vs, .inr hs, ?_⟩
    have hl : vs.length = xs.length := isAll_len ha
    by_cases h2 : xs.length = 2
    · obtain ⟨d0, d1, rfl⟩ : ∃ d0 d1, xs = [d0, d1] := by
        match xs, h2 with
        | [d0, d1], _ => exact ⟨d0, d1, rfl⟩
      refine iteFB (by rw [hl]; rfl) ?_
      simp only [IsAll] at ha
      obtain ⟨v0, r0, rfl, h0, v1, r1, rfl, h1, rfl⟩ := ha
      refine ⟨a, rfl, _, hs, rfl, v0, _, rfl, v1, _, rfl, rfl, v0, d0, rfl, h0, _, rfl, ?_⟩
      by_cases w0 : isW d0 = true
      · refine iteFB (by rw [w0]; rfl) ⟨v1, d1, rfl, h1, _, rfl, ?_⟩
        by_cases w1 : isW d1 = true
        · refine iteFB (by rw [w1]; rfl) ?_
          obtain ⟨p, rfl⟩ : ∃ i, d0 = .int i := by
            cases d0 with
            | int i => exact ⟨i, rfl⟩
            | _ => cases w0
          obtain ⟨qq, rfl⟩ : ∃ i, d1 = .int i := by
            cases d1 with
            | int i => exact ⟨i, rfl⟩
            | _ => cases w1
          simp only [Is] at h0 h1
          subst h0 h1
          rw [isNum_pair] at q
          refine ⟨qq, rfl, ?_⟩
          refine iteB (fun c => ?_) (fun c => ?_)
          · have c' : qq < 1 := by simpa using c
            rw [decide_eq_false (show ¬ 1 ≤ qq by omega)] at q
            exact q
          · have c' : ¬ qq < 1 := by simpa using c
            rw [decide_eq_true (show 1 ≤ qq by omega), Bool.true_and] at q
            refine ⟨p, qq, rfl, rfl, ?_⟩
            have e : decide (V.int ((Int.gcd p qq : Nat) : Int) = V.int 1) = decide (Int.gcd p qq = 1) := by
              congr 1
              rw [V.int.injEq]
              apply propext
              omega
            rw [e]
            exact q
        · rw [isNum_two (.inr (by simpa using w1))] at q
          exact iteTB (by simp [w1]) (by rw [if_pos trivial]; exact q)
      · rw [isNum_two (.inl (by simpa using w0))] at q
        exact iteTB (by simp [w0]) (by rw [if_pos trivial]; exact q)
    · rw [isNum_len xs h2] at q
      refine iteTB ?_ q
      rw [hl]
      simp
      omega
  · rw [isNum_not (by simpa using hd)] at q
    exact iteTB (by simp [hd]) (by rw [if_pos trivial]; exact q)
def sp_fraction (cN : Addr) : Sp := fun vs H Q E => ∃ t b : Int, vs = [.int t, .int b] ∧ b.natAbs < 2 ^ 1000 ∧ (b = 0 → E (.ref cN) none H) ∧ (b ≠ 0 → ∀ a, H a = none → Q (.ref a) (upd H a (.tup [.int (Q1.fr t b).1, .int (Q1.fr t b).2])))
/-- the classes -/
structure Cls1 (K : PySem.W.Frag) (mg : Str → Option Value) (cN : Addr) : Prop where
  m_NoNumber : mg "NoNumber" = some (.ref cN)
  x_NoNumber : PySem.W.excIn K cN bmVal "Exception.__new__" = true ∨ PySem.W.excIn K cN bmVal "ValueError.__new__" = true
theorem k_fraction {cN : Addr} (h : Has K mg "fraction" s_fraction) (B : Blt mg) (C : Cls1 K mg cN) (c_common_divisor : Callee P w K mg base "common_divisor" 1 ["one", "other"] sp_cd) :
    Callee P w K mg base "fraction" 2 ["top", "bottom"] (sp_fraction cN) := by
  have S : FnScope ["top", "bottom", "shared"] ["top", "bottom"] (defScope s_fraction) := ⟨rfl, rfl, rfl, by decide +kernel, rfl, by decide +kernel, by decide +kernel⟩
  refine h.callee S (fun vs H Q E ⟨_, _, e, _⟩ => by rw [e]; rfl) (fun _ _ _ _ _ _ us hl => match us, hl with | [_, _], _ => rfl) fun f cdv A outer s H vs Q E hr hq => ?_
  obtain ⟨t, b, rfl, hb, h0, h1⟩ := hq
  refine ⟨_, (pss_cons (ps_if (pt_cmpR op_eq (pv 1) pe_int (nomark _)) (pss_one (ps_raise rfl (C.x_NoNumber) rfl C.m_NoNumber throws_cx (pa_cons pe_str pa_nil))) pss_nil)
      (pss_cons (ps_set (i := 2) S.nd rfl (Or.inl rfl) (pe_callee c_common_divisor hr rfl pass_e0 (pa_cons (pv 0) (pa_cons (pv 1) pa_nil))))
      (pss_cons (ps_if (pt_cmpR op_lt (pv 1) pe_int (nomark _)) (pss_one (ps_set (i := 2) S.nd rfl (Or.inl rfl) (pe_un un_neg (pv 2)))) pss_nil)
      (pss_one (ps_ret (pe_tup (pa_cons (pe_op op_fdivX (pv 0) (pv 2)) (pa_cons (pe_op op_fdivX (pv 1) (pv 2)) pa_nil)))))))), ?_⟩
  rw [show L2.start ["top", "bottom", "shared"] [V.int t, V.int b] = [some (.int t), some (.int b), none] from rfl]
  simp only [tSeq, tNext, tIfS, tIf, tPar, tCons, tCB, tVar, tNil, tC, tOp, tUn, tRet, tRetN, tAsg, gName, gTup, gLst, gCons, gNil, tTest, tB, tAnd, tOr, tNot, tAndV, tOrV, tNotV, tDrop, tTup, tLst, tCall, tCallX, tRaise, rI, rI0, rU, rEq, rNe, rIxT, rIxL, rCat, rEqD, rNeD, rIsi, scal_ii, scal_bb, scal_ss, scal_nn, cx_K, tSl, tPart, tNoPart, gSub, rSetL, tBM, iList, iTup, tFor, List.append_nil, List.getElem?_cons_zero, List.getElem?_cons_succ, Option.some.injEq, exists_eq_left, exists_eq_left', List.cons.injEq, V.int.injEq, V.bl.injEq, V.str.injEq, V.ref.injEq, and_true, true_and, and_assoc, List.set_cons_zero, List.set_cons_succ, List.length_cons, List.length_nil, exists_and_left, reduceCtorEq, decide_false, decide_true, Bool.not_true, Bool.not_false, List.nil_append, List.cons_append]
  have gz : (Int.gcd t b : Int).natAbs ≤ b.natAbs ∨ b = 0 := by
    by_cases hz : b = 0
    · exact .inr hz
    · left
      have := Nat.le_of_dvd (by omega) (Int.natAbs_dvd_natAbs.mpr (Int.gcd_dvd_right (a := t) (b := b)))
      exact this
  refine iteB (fun c => ?_) (fun c => ?_)
  · refine ⟨by rw [sizeLine_eq]; decide, h0 (by simpa using c)⟩
  · have hb0 : b ≠ 0 := by simpa using c
    have hg := Q1.gcd_pos (t := t) hb0
    have dv : Dv (Int.gcd t b : Int) := by
      refine Dv.of (a := 1000) ?_ (by decide)
      rcases gz with z | z
      · omega
      · exact absurd z hb0
    refine ⟨t, b, rfl, ?_⟩
    refine iteB (fun c => ?_) (fun c => ?_)
    · have hbn : b < 0 := by simpa using c
      have dv' : Dv (-(Int.gcd t b : Int)) := by unfold Dv at dv ⊢; rw [Int.natAbs_neg]; exact dv
      refine ⟨_, rfl, by omega, (Int.neg_dvd).mpr Q1.div_l, dv', by omega, (Int.neg_dvd).mpr Q1.div_r, dv', by rw [sizeLine_eq]; decide, fun a ha => ?_⟩
      have := h1 hb0 a ha
      unfold Q1.fr at this
      rw [if_pos hbn] at this
      exact this
    · have hbn : ¬ b < 0 := by simpa using c
      refine ⟨_, rfl, by omega, Q1.div_l, dv, _, rfl, by omega, Q1.div_r, dv, by rw [sizeLine_eq]; decide, fun a ha => ?_⟩
      have := h1 hb0 a ha
      unfold Q1.fr at this
      rw [if_neg hbn] at this
      exact this
/-- v is the number p by q -/
def Nm (K : PySem.W.Frag) (H : Hp) (v : V) (p q : Int) : Prop := ∃ a, v = .ref a ∧ SqT K H a [.int p, .int q]
/-- of a size that is multiplied here -/
def Sz (n : Int) : Prop := n.natAbs < 2 ^ 200
theorem Sz.mul {i j : Int} (a : Sz i) (b : Sz j) : IntMulOk i j := mulOk_of a b (by decide)
theorem Sz.lt {i j : Int} (a : Sz i) (b : Sz j) : (i * j).natAbs < 2 ^ 1000 := by
  rw [Int.natAbs_mul]
  unfold Sz at a b
  have h1 : i.natAbs * j.natAbs ≤ 2 ^ 200 * 2 ^ 200 := Nat.mul_le_mul (Nat.le_of_lt a) (Nat.le_of_lt b)
  have h2 : (2 : Nat) ^ 200 * 2 ^ 200 < 2 ^ 1000 := by decide
  omega
theorem at0 {x y : V} : atI [x, y] 0 = some x := rfl
theorem at1 {x y : V} : atI [x, y] 1 = some y := rfl
/-- plus, less, times: two numbers in, one out -/
def sp_two (K : PySem.W.Frag) (g : Int → Int → Int → Int → Int × Int) : Sp := fun vs H Q _ => ∃ x y p q r s, vs = [x, y] ∧ Nm K H x p q ∧ Nm K H y r s ∧ Sz p ∧ Sz q ∧ Sz r ∧ Sz s ∧ 0 < q ∧ 0 < s ∧
  ∀ a, H a = none → Q (.ref a) (upd H a (.tup [.int (g p q r s).1, .int (g p q r s).2]))
/-- the same of numbers in lowest parts; other things may have been made -/
def sp_twoL (K : PySem.W.Frag) (g : Int → Int → Int → Int → Int × Int) : Sp := fun vs H Q _ => ∃ x y p q r s, vs = [x, y] ∧ Nm K H x p q ∧ Nm K H y r s ∧ Sz p ∧ Sz q ∧ Sz r ∧ Sz s ∧ Q1.Low p q ∧ Q1.Low r s ∧
  ∀ a H', Same H H' → H' a = some (.tup [.int (g p q r s).1, .int (g p q r s).2]) → Q (.ref a) H'
def plusQ (p q r s : Int) : Int × Int := Q1.fr (p * s + r * q) (q * s)
def lessQ (p q r s : Int) : Int × Int := Q1.fr (p * s - r * q) (q * s)
def timesQ (p q r s : Int) : Int × Int := Q1.fr (p * r) (q * s)
abbrev s_plus : Stmt := top 34
abbrev s_less : Stmt := top 35
abbrev s_times : Stmt := top 36
abbrev s_over : Stmt := top 37
theorem Sz.div {i : Int} (a : Sz i) (j : Int) : Sz (i / j) := Nat.lt_of_le_of_lt (Int.natAbs_ediv_le_natAbs _ _) a
theorem Sz.dv {i : Int} (a : Sz i) : Dv i := Dv.of (a := 200) a (by decide)
theorem Sz.gcdR {t b : Int} (a : Sz b) (h : b ≠ 0) : Sz (Int.gcd t b : Int) := by
  have := Nat.le_of_dvd (by omega) (Int.natAbs_dvd_natAbs.mpr (Int.gcd_dvd_right (a := t) (b := b)))
  exact Nat.lt_of_le_of_lt this a
theorem Sz.neg {i : Int} (a : Sz i) : Sz (-i) := by unfold Sz at *; rw [Int.natAbs_neg]; exact a
theorem k_plus (h : Has K mg "plus" s_plus) (c_common_divisor : Callee P w K mg base "common_divisor" 1 ["one", "other"] sp_cd) : Callee P w K mg base "plus" 2 ["one", "other"] (sp_twoL K plusQ) := by
  have S : FnScope ["one", "other", "shared", "mine", "its", "top", "again"] ["one", "other"] (defScope s_plus) := ⟨rfl, rfl, rfl, by decide +kernel, rfl, by decide +kernel, by decide +kernel⟩
  refine h.callee S (fun vs H Q E ⟨_, _, _, _, _, _, e, _⟩ => by rw [e]; rfl) (fun _ _ _ _ _ _ us hl => match us, hl with | [_, _], _ => rfl) fun f cdv A outer s H vs Q E hr hq => ?_
  obtain ⟨x, y, p, q, r, u, rfl, ⟨a, rfl, ha⟩, ⟨b, rfl, hb⟩, z1, z2, z3, z4, l1, l2, k⟩ := hq
  refine ⟨_, PSs.nox (pss_cons (ps_set (i := 2) S.nd rfl (Or.inl rfl) (pe_callee c_common_divisor hr rfl pass_e0 (pa_cons (pe_ix ix_tup (pv 0) pe_int (fun _ _ => rfl)) (pa_cons (pe_ix ix_tup (pv 1) pe_int (fun _ _ => rfl)) pa_nil))))
      (pss_cons (ps_par (i := 3) (j := 4) rfl S.nd rfl rfl (by decide) rfl rfl (pa_cons (pe_op op_fdivP (pe_ix ix_tup (pv 0) pe_int (fun _ _ => rfl)) (pv 2)) (pa_cons (pe_op op_fdivP (pe_ix ix_tup (pv 1) pe_int (fun _ _ => rfl)) (pv 2)) pa_nil)) rfl)
      (pss_cons (ps_set (i := 5) S.nd rfl (Or.inl rfl) (pe_op op_add (pe_op op_mulB (pe_ix ix_tup (pv 0) pe_int (fun _ _ => rfl)) (pv 4)) (pe_op op_mulB (pe_ix ix_tup (pv 1) pe_int (fun _ _ => rfl)) (pv 3))))
      (pss_cons (ps_set (i := 6) S.nd rfl (Or.inl rfl) (pe_callee c_common_divisor hr rfl pass_e0 (pa_cons (pv 5) (pa_cons (pv 2) pa_nil))))
      (pss_one (ps_ret (pe_tup (pa_cons (pe_op op_fdivP (pv 5) (pv 6)) (pa_cons (pe_op op_mulB (pv 3) (pe_op op_fdivP (pe_ix ix_tup (pv 1) pe_int (fun _ _ => rfl)) (pv 6))) pa_nil))))))))), ?_⟩
  rw [show L2.start ["one", "other", "shared", "mine", "its", "top", "again"] [V.ref a, V.ref b] = [some (.ref a), some (.ref b), none, none, none, none, none] from rfl]
  simp only [tSeq, tNext, tIfS, tIf, tPar, tCons, tCB, tVar, tNil, tC, tOp, tUn, tRet, tRetN, tAsg, gName, gTup, gLst, gCons, gNil, tTest, tB, tAnd, tOr, tNot, tAndV, tOrV, tNotV, tDrop, tTup, tLst, tCall, tCallX, tRaise, rI, rI0, rU, rEq, rNe, rIxT, rIxL, rCat, rEqD, rNeD, rIsi, scal_ii, scal_bb, scal_ss, scal_nn, cx_K, tSl, tPart, tNoPart, gSub, rSetL, tBM, iList, iTup, tFor, List.append_nil, List.getElem?_cons_zero, List.getElem?_cons_succ, Option.some.injEq, exists_eq_left, exists_eq_left', List.cons.injEq, V.int.injEq, V.bl.injEq, V.str.injEq, V.ref.injEq, and_true, true_and, and_assoc, List.set_cons_zero, List.set_cons_succ, List.length_cons, List.length_nil, exists_and_left, reduceCtorEq, decide_false, decide_true, Bool.not_true, Bool.not_false, List.nil_append, List.cons_append]
  have zg : Sz (Int.gcd q u : Int) := z4.gcdR l2.ne
  have g0 : 0 < (Int.gcd q u : Int) := Q1.gcd_pos l2.ne
  have zm := z2.div (Int.gcd q u : Int)
  have zi := z4.div (Int.gcd q u : Int)
  have ze : ∀ t : Int, Sz (Int.gcd t (Int.gcd q u : Int) : Int) := fun t => zg.gcdR (Int.ne_of_gt g0)
  have e0 : ∀ t : Int, 0 < (Int.gcd t (Int.gcd q u : Int) : Int) := fun t => Q1.gcd_pos (Int.ne_of_gt g0)
  refine ⟨_, ha, _, at1, _, hb, _, at1, _, _, rfl, _, ha, _, at1, _, rfl, _, rfl, g0, zg.dv, _, hb, _, at1, _, rfl, _, rfl, g0, zg.dv, _, ha, _, at0, _, rfl, z1.mul zi, _, hb, _, at0, _, rfl, z3.mul zm, ?_⟩
  refine ⟨_, _, rfl, _, rfl, e0 _, (ze _).dv, _, hb, _, at1, _, rfl, _, rfl, e0 _, (ze _).dv, zm.mul (z4.div _), by rw [sizeLine_eq]; decide, fun c hc => k c _ (fun b o e => by rw [upd_ne (ne_of_none e hc)]; exact e) ?_⟩
  rw [upd_same]
  have := Q1.plus_eq l1 l2
  unfold plusQ
  rw [← this]
  rfl
theorem k_less (h : Has K mg "less" s_less) (c_plus : Callee P w K mg base "plus" 2 ["one", "other"] (sp_twoL K plusQ)) : Callee P w K mg base "less" 3 ["one", "other"] (sp_twoL K lessQ) := by
  have S : FnScope ["one", "other"] ["one", "other"] (defScope s_less) := ⟨rfl, rfl, rfl, by decide +kernel, rfl, by decide +kernel, by decide +kernel⟩
  refine h.callee S (fun vs H Q E ⟨_, _, _, _, _, _, e, _⟩ => by rw [e]; rfl) (fun _ _ _ _ _ _ us hl => match us, hl with | [_, _], _ => rfl) fun f cdv A outer s H vs Q E hr hq => ?_
  obtain ⟨x, y, p, q, r, u, rfl, ⟨a, rfl, ha⟩, ⟨b, rfl, hb⟩, z1, z2, z3, z4, l1, l2, k⟩ := hq
  refine ⟨_, PSs.nox (pss_one (ps_ret (pe_callee c_plus hr rfl pass_e0 (pa_cons (pv 0) (pa_cons (pe_tup (pa_cons (pe_un un_neg (pe_ix ix_tup (pv 1) pe_int (fun _ _ => rfl))) (pa_cons (pe_ix ix_tup (pv 1) pe_int (fun _ _ => rfl)) pa_nil))) pa_nil))))), ?_⟩
  rw [show L2.start ["one", "other"] [V.ref a, V.ref b] = [some (.ref a), some (.ref b)] from rfl]
  simp only [tSeq, tNext, tIfS, tIf, tPar, tCons, tCB, tVar, tNil, tC, tOp, tUn, tRet, tRetN, tAsg, gName, gTup, gLst, gCons, gNil, tTest, tB, tAnd, tOr, tNot, tAndV, tOrV, tNotV, tDrop, tTup, tLst, tCall, tCallX, tRaise, rI, rI0, rU, rEq, rNe, rIxT, rIxL, rCat, rEqD, rNeD, rIsi, scal_ii, scal_bb, scal_ss, scal_nn, cx_K, tSl, tPart, tNoPart, gSub, rSetL, tBM, iList, iTup, tFor, List.append_nil, List.getElem?_cons_zero, List.getElem?_cons_succ, Option.some.injEq, exists_eq_left, exists_eq_left', List.cons.injEq, V.int.injEq, V.bl.injEq, V.str.injEq, V.ref.injEq, and_true, true_and, and_assoc, List.set_cons_zero, List.set_cons_succ, List.length_cons, List.length_nil, exists_and_left, reduceCtorEq, decide_false, decide_true, Bool.not_true, Bool.not_false, List.nil_append, List.cons_append]
  refine ⟨_, hb, _, at0, _, rfl, _, hb, _, at1, by rw [sizeLine_eq]; decide, fun c hc => ?_⟩
  have sa : Same H (upd H c (.tup [.int (-r), .int u])) := fun d o e => by rw [upd_ne (ne_of_none e hc)]; exact e
  refine ⟨_, _, p, q, -r, u, rfl, ⟨a, rfl, Same.seqT sa ha⟩, ⟨c, rfl, SqT.of upd_same⟩, z1, z2, z3.neg, z4, l1, Q1.low_neg l2, fun d H' sd hd => k d H' (sa.trans sd) ?_⟩
  rw [hd]
  unfold plusQ lessQ
  rw [Int.neg_mul, ← Int.sub_eq_add_neg]
theorem k_times (h : Has K mg "times" s_times) (c_common_divisor : Callee P w K mg base "common_divisor" 1 ["one", "other"] sp_cd) : Callee P w K mg base "times" 2 ["one", "other"] (sp_twoL K timesQ) := by
  have S : FnScope ["one", "other", "mine", "its"] ["one", "other"] (defScope s_times) := ⟨rfl, rfl, rfl, by decide +kernel, rfl, by decide +kernel, by decide +kernel⟩
  refine h.callee S (fun vs H Q E ⟨_, _, _, _, _, _, e, _⟩ => by rw [e]; rfl) (fun _ _ _ _ _ _ us hl => match us, hl with | [_, _], _ => rfl) fun f cdv A outer s H vs Q E hr hq => ?_
  obtain ⟨x, y, p, q, r, u, rfl, ⟨a, rfl, ha⟩, ⟨b, rfl, hb⟩, z1, z2, z3, z4, l1, l2, k⟩ := hq
  refine ⟨_, PSs.nox (pss_cons (ps_par (i := 2) (j := 3) rfl S.nd rfl rfl (by decide) rfl rfl (pa_cons (pe_callee c_common_divisor hr rfl pass_e0 (pa_cons (pe_ix ix_tup (pv 0) pe_int (fun _ _ => rfl)) (pa_cons (pe_ix ix_tup (pv 1) pe_int (fun _ _ => rfl)) pa_nil))) (pa_cons (pe_callee c_common_divisor hr rfl pass_e0 (pa_cons (pe_ix ix_tup (pv 1) pe_int (fun _ _ => rfl)) (pa_cons (pe_ix ix_tup (pv 0) pe_int (fun _ _ => rfl)) pa_nil))) pa_nil)) rfl)
      (pss_one (ps_ret (pe_tup (pa_cons (pe_op op_mulB (pe_op op_fdivP (pe_ix ix_tup (pv 0) pe_int (fun _ _ => rfl)) (pv 2)) (pe_op op_fdivP (pe_ix ix_tup (pv 1) pe_int (fun _ _ => rfl)) (pv 3))) (pa_cons (pe_op op_mulB (pe_op op_fdivP (pe_ix ix_tup (pv 0) pe_int (fun _ _ => rfl)) (pv 3)) (pe_op op_fdivP (pe_ix ix_tup (pv 1) pe_int (fun _ _ => rfl)) (pv 2))) pa_nil)))))), ?_⟩
  rw [show L2.start ["one", "other", "mine", "its"] [V.ref a, V.ref b] = [some (.ref a), some (.ref b), none, none] from rfl]
  simp only [tSeq, tNext, tIfS, tIf, tPar, tCons, tCB, tVar, tNil, tC, tOp, tUn, tRet, tRetN, tAsg, gName, gTup, gLst, gCons, gNil, tTest, tB, tAnd, tOr, tNot, tAndV, tOrV, tNotV, tDrop, tTup, tLst, tCall, tCallX, tRaise, rI, rI0, rU, rEq, rNe, rIxT, rIxL, rCat, rEqD, rNeD, rIsi, scal_ii, scal_bb, scal_ss, scal_nn, cx_K, tSl, tPart, tNoPart, gSub, rSetL, tBM, iList, iTup, tFor, List.append_nil, List.getElem?_cons_zero, List.getElem?_cons_succ, Option.some.injEq, exists_eq_left, exists_eq_left', List.cons.injEq, V.int.injEq, V.bl.injEq, V.str.injEq, V.ref.injEq, and_true, true_and, and_assoc, List.set_cons_zero, List.set_cons_succ, List.length_cons, List.length_nil, exists_and_left, reduceCtorEq, decide_false, decide_true, Bool.not_true, Bool.not_false, List.nil_append, List.cons_append]
  have m0 : 0 < (Int.gcd p u : Int) := Q1.gcd_pos l2.ne
  have i0 : 0 < (Int.gcd r q : Int) := Q1.gcd_pos l1.ne
  have zm : Sz (Int.gcd p u : Int) := z4.gcdR l2.ne
  have zi : Sz (Int.gcd r q : Int) := z2.gcdR l1.ne
  refine ⟨_, ha, _, at0, _, hb, _, at1, _, _, rfl, _, hb, _, at0, _, ha, _, at1, _, _, rfl, ?_⟩
  refine ⟨_, ha, _, at0, _, rfl, _, rfl, m0, zm.dv, _, hb, _, at0, _, rfl, _, rfl, i0, zi.dv, (z1.div _).mul (z3.div _), _, ha, _, at1, _, rfl, _, rfl, i0, zi.dv, _, hb, _, at1, _, rfl, _, rfl, m0, zm.dv, (z2.div _).mul (z4.div _), by rw [sizeLine_eq]; decide, fun c hc => k c _ (fun b o e => by rw [upd_ne (ne_of_none e hc)]; exact e) ?_⟩
  rw [upd_same]
  unfold timesQ
  rw [← Q1.times_eq l1 l2]
  rfl
def overQ (p q r s : Int) : Int × Int := Q1.fr (p * s) (q * r)
def sp_over (K : PySem.W.Frag) (cN : Addr) : Sp := fun vs H Q E => ∃ x y p q r s, vs = [x, y] ∧ Nm K H x p q ∧ Nm K H y r s ∧ Sz p ∧ Sz q ∧ Sz r ∧ Sz s ∧ Q1.Low p q ∧ Q1.Low r s ∧ (r = 0 → E (.ref cN) none H) ∧
  (r ≠ 0 → ∀ a H', Same H H' → H' a = some (.tup [.int (overQ p q r s).1, .int (overQ p q r s).2]) → Q (.ref a) H')
theorem fr_negneg {t b : Int} (h : b ≠ 0) : Q1.fr (-t) (-b) = Q1.fr t b := by
  have l := Q1.fr_low (t := t) h
  have e := Q1.fr_eq (t := t) h
  have := Q1.fr_of (t := -t) (b := -b) (by omega) l (by rw [Int.mul_neg, e, Int.neg_mul])
  exact this
theorem k_over {cN : Addr} (h : Has K mg "over" s_over) (C : Cls1 K mg cN) (c_times : Callee P w K mg base "times" 2 ["one", "other"] (sp_twoL K timesQ)) : Callee P w K mg base "over" 3 ["one", "other"] (sp_over K cN) := by
  have S : FnScope ["one", "other", "top", "bottom"] ["one", "other"] (defScope s_over) := ⟨rfl, rfl, rfl, by decide +kernel, rfl, by decide +kernel, by decide +kernel⟩
  refine h.callee S (fun vs H Q E ⟨_, _, _, _, _, _, e, _⟩ => by rw [e]; rfl) (fun _ _ _ _ _ _ us hl => match us, hl with | [_, _], _ => rfl) fun f cdv A outer s H vs Q E hr hq => ?_
  obtain ⟨x, y, p, q, r, u, rfl, ⟨a, rfl, ha⟩, ⟨b, rfl, hb⟩, z1, z2, z3, z4, l1, l2, k0, k⟩ := hq
  refine ⟨_, (pss_cons (ps_asg (pv 1) (pg_tup (n := 2) rfl (pgs_cons (pg_name (i := 2) S.nd rfl (Or.inl rfl)) (pgs_cons (pg_name (i := 3) S.nd rfl (Or.inl rfl)) pgs_nil))))
      (pss_cons (ps_if (pt_cmpR op_eq (pv 2) pe_int (nomark _)) (pss_one (ps_raise rfl (C.x_NoNumber) rfl C.m_NoNumber throws_cx (pa_cons pe_str pa_nil))) pss_nil)
      (pss_one (ps_ret (pe_callee c_times hr rfl pass_e0 (pa_cons (pv 0) (pa_cons (pe_ifExp (pt_cmpR op_gt (pv 2) pe_int (nomark _)) (pe_tup (pa_cons (pv 3) (pa_cons (pv 2) pa_nil))) (pe_tup (pa_cons (pe_un un_neg (pv 3)) (pa_cons (pe_un un_neg (pv 2)) pa_nil)))) pa_nil))))))), ?_⟩
  rw [show L2.start ["one", "other", "top", "bottom"] [V.ref a, V.ref b] = [some (.ref a), some (.ref b), none, none] from rfl]
  simp only [tSeq, tNext, tIfS, tIf, tPar, tCons, tCB, tVar, tNil, tC, tOp, tUn, tRet, tRetN, tAsg, gName, gTup, gLst, gCons, gNil, tTest, tB, tAnd, tOr, tNot, tAndV, tOrV, tNotV, tDrop, tTup, tLst, tCall, tCallX, tRaise, rI, rI0, rU, rEq, rNe, rIxT, rIxL, rCat, rEqD, rNeD, rIsi, scal_ii, scal_bb, scal_ss, scal_nn, cx_K, tSl, tPart, tNoPart, gSub, rSetL, tBM, iList, iTup, tFor, List.append_nil, List.getElem?_cons_zero, List.getElem?_cons_succ, Option.some.injEq, exists_eq_left, exists_eq_left', List.cons.injEq, V.int.injEq, V.bl.injEq, V.str.injEq, V.ref.injEq, and_true, true_and, and_assoc, List.set_cons_zero, List.set_cons_succ, List.length_cons, List.length_nil, exists_and_left, reduceCtorEq, decide_false, decide_true, Bool.not_true, Bool.not_false, List.nil_append, List.cons_append]
  refine ⟨_, hb, rfl, _, _, rfl, _, _, rfl, rfl, ?_⟩
  have le2 : 0 + 1 + 1 ≤ sizeLine := by rw [sizeLine_eq]; decide
  refine ⟨rfl, iteB (fun c => ?_) (fun c => ?_)⟩
  · have r0 : r = 0 := by simpa using c
    exact ⟨by rw [sizeLine_eq]; decide, k0 r0⟩
  · have r0 : r ≠ 0 := by simpa using c
    have gc : Int.gcd u r = 1 := by rw [Int.gcd_comm]; exact l2.cop
    refine ⟨_, rfl, iteB (fun c => ?_) (fun c => ?_)⟩
    · have rp : 0 < r := by simpa using c
      refine ⟨le2, fun d hd => ?_⟩
      have sa : Same H (upd H d (.tup [.int u, .int r])) := fun x o e => by rw [upd_ne (ne_of_none e hd)]; exact e
      exact ⟨_, _, p, q, u, r, rfl, ⟨a, rfl, Same.seqT sa ha⟩, ⟨d, rfl, SqT.of upd_same⟩, z1, z2, z4, z3, l1, ⟨rp, gc⟩, fun x H' sx hx => k r0 x H' (sa.trans sx) hx⟩
    · have rp : ¬ 0 < r := by simpa using c
      refine ⟨_, rfl, _, rfl, le2, fun d hd => ?_⟩
      have sa : Same H (upd H d (.tup [.int (-u), .int (-r)])) := fun x o e => by rw [upd_ne (ne_of_none e hd)]; exact e
      refine ⟨_, _, p, q, -u, -r, rfl, ⟨a, rfl, Same.seqT sa ha⟩, ⟨d, rfl, SqT.of upd_same⟩, z1, z2, z4.neg, z3.neg, l1, ⟨by omega, by rw [Int.gcd_neg, Int.neg_gcd]; exact gc⟩, fun x H' sx hx => k r0 x H' (sa.trans sx) ?_⟩
      rw [hx]
      have e : timesQ p q (-u) (-r) = overQ p q r u := by
        unfold timesQ overQ
        rw [Int.mul_neg, Int.mul_neg]
        exact fr_negneg (by intro z; rcases Int.mul_eq_zero.mp z with y | y; exact l1.ne y; exact r0 y)
      rw [e]
end
end K1

set_option Elab.async false
set_option linter.all false
set_option maxRecDepth 100000
set_option maxHeartbeats 4000000
namespace K1
open PySem L2 PySem.Spec PyProof.Rows
abbrev s__law_mixed : Stmt := top 39
abbrev s__law_purse : Stmt := top 40
abbrev s__law_take : Stmt := top 41
abbrev s__law_at : Stmt := top 42
abbrev s__law_low : Stmt := top 43
section
variable {P : Program} {w : World} {K : PySem.W.Frag} {mg : Str → Option Value} {base : Heap}
def MX : Int := 10 ^ 60 + 7
def sp_mixed : Sp := fun vs H Q _ => ∃ c k : Int, vs = [.int c, .int k] ∧ 0 ≤ k ∧ k < 2 ^ 70 ∧ ∀ r, 0 ≤ r → r < MX → Q (.int r) H
theorem k__law_mixed (h : Has K mg "_law_mixed" s__law_mixed) : Callee P w K mg base "_law_mixed" 1 ["_law_cell", "_law_k"] sp_mixed := by
  have S : FnScope ["_law_cell", "_law_k", "_law_number_here"] ["_law_cell", "_law_k"] (defScope s__law_mixed) := ⟨rfl, rfl, rfl, by decide +kernel, rfl, by decide +kernel, by decide +kernel⟩
  refine h.callee S (fun vs H Q E ⟨_, _, e, _⟩ => by rw [e]; rfl) (fun _ _ _ _ _ _ us hl => match us, hl with | [_, _], _ => rfl) fun f cdv A outer s H vs Q E hr hq => ?_
  obtain ⟨c, k, rfl, k0, k1, q⟩ := hq
  refine ⟨_, PSs.nox (pss_cons (ps_set (i := 2) S.nd rfl (Or.inl rfl) (pe_op op_add (pe_op op_add (pe_op op_mulB (pe_op op_add (pe_op op_mod (pv 0) (pe_op op_add (pe_op op_pow pe_int pe_int) pe_int)) (pe_op op_mulB pe_int (pv 1))) pe_int) (pe_op op_mulB pe_int (pv 1))) pe_int))
      (pss_cons (ps_set (i := 2) S.nd rfl (Or.inl rfl) (pe_op op_mod (pe_op op_mulB (pv 2) (pv 2)) (pe_op op_add (pe_op op_pow pe_int pe_int) pe_int)))
      (pss_one (ps_ret (pe_op op_mod (pe_op op_mulB (pe_op op_add (pv 2) pe_int) (pe_op op_add (pv 2) pe_int)) (pe_op op_add (pe_op op_pow pe_int pe_int) pe_int)))))), ?_⟩
  rw [show L2.start ["_law_cell", "_law_k", "_law_number_here"] [V.int c, V.int k] = [some (.int c), some (.int k), none] from rfl]
  simp only [tSeq, tNext, tIfS, tIf, tPar, tCons, tCB, tVar, tNil, tC, tOp, tUn, tRet, tRetN, tAsg, gName, gTup, gLst, gCons, gNil, tTest, tB, tAnd, tOr, tNot, tAndV, tOrV, tNotV, tDrop, tTup, tLst, tCall, tCallX, tRaise, rI, rI0, rU, rEq, rNe, rIxT, rIxL, rCat, rEqD, rNeD, rIsi, scal_ii, scal_bb, scal_ss, scal_nn, cx_K, tSl, tPart, tNoPart, gSub, rSetL, tBM, iList, iTup, tFor, List.append_nil, List.getElem?_cons_zero, List.getElem?_cons_succ, Option.some.injEq, exists_eq_left, exists_eq_left', List.cons.injEq, V.int.injEq, V.bl.injEq, V.str.injEq, V.ref.injEq, and_true, true_and, and_assoc, List.set_cons_zero, List.set_cons_succ, List.length_cons, List.length_nil, exists_and_left, reduceCtorEq, decide_false, decide_true, Bool.not_true, Bool.not_false, List.nil_append, List.cons_append]
  have e18 : (10 : Int) ^ Int.toNat 18 + 9 = 1000000000000000009 := by decide
  have e60 : (10 : Int) ^ Int.toNat 60 + 7 = MX := by decide
  have mp : (0 : Int) < MX := by decide
  have ml : MX < 2 ^ 200 := by decide
  rw [e18, e60]
  have x0 := Int.emod_nonneg c (show (1000000000000000009 : Int) ≠ 0 by decide)
  have x1 := Int.emod_lt_of_pos c (show (0 : Int) < 1000000000000000009 by decide)
  generalize c % 1000000000000000009 = X at x0 x1 ⊢
  have a0 : 0 ≤ (X + 7 * k) * 739108512309184756019283746561 + 7919 * k + 1 := by omega
  have a1 : (X + 7 * k) * 739108512309184756019283746561 + 7919 * k + 1 < 2 ^ 200 := by omega
  refine ⟨⟨by decide, by decide, by decide⟩, by decide, mulOk_of (a := 70) (b := 80) (by decide) (by omega) (by decide), mulOk_of (a := 100) (b := 100) (by omega) (by decide) (by decide), mulOk_of (a := 70) (b := 80) (by decide) (by omega) (by decide), ?_⟩
  generalize (X + 7 * k) * 739108512309184756019283746561 + 7919 * k + 1 = Y at a0 a1 ⊢
  refine ⟨mulOk_of (a := 200) (b := 200) (by omega) (by omega) (by decide), ⟨by decide, by decide, by decide⟩, mp, ?_⟩
  have r0 := Int.emod_nonneg (Y * Y) (Int.ne_of_gt mp)
  have r1 := Int.emod_lt_of_pos (Y * Y) mp
  generalize Y * Y % MX = R at r0 r1 ⊢
  refine ⟨mulOk_of (a := 201) (b := 201) (by omega) (by omega) (by decide), ⟨by decide, by decide, by decide⟩, mp, q _ (Int.emod_nonneg _ (Int.ne_of_gt mp)) (Int.emod_lt_of_pos _ mp)⟩
structure PuV (n m k : Int) (c : Nat) : Prop where
  n0 : 0 ≤ n
  m0 : 0 ≤ m
  mc : m ≤ c
  k0 : 0 ≤ k
  k1 : k < 2 ^ 70
def Pu (H : Hp) (p : Addr) (c : Nat) : Prop := ∃ n m k : Int, H p = some (.lst [.int n, .int m, .int k]) ∧ PuV n m k c
def But (p : Addr) (H H' : Hp) : Prop := ∀ b o, b ≠ p → H b = some o → H' b = some o
def sp_take : Sp := fun vs H Q _ => ∃ (p : Addr) (many : Int) (c : Nat), vs = [.ref p, .int many] ∧ Pu H p c ∧ 0 < many ∧ many < 2 ^ 70 ∧ c ≤ 1000 ∧ ∀ g H', 0 ≤ g → g < many → Pu H' p (c + 1) → But p H H' → Q (.int g) H'
theorem k__law_take (h : Has K mg "_law_take" s__law_take) (c__law_mixed : Callee P w K mg base "_law_mixed" 1 ["_law_cell", "_law_k"] sp_mixed) : Callee P w K mg base "_law_take" 2 ["_law_purse_here", "_law_many"] sp_take := by
  have S : FnScope ["_law_purse_here", "_law_many", "_law_got"] ["_law_purse_here", "_law_many"] (defScope s__law_take) := ⟨rfl, rfl, rfl, by decide +kernel, rfl, by decide +kernel, by decide +kernel⟩
  refine h.callee S (fun vs H Q E ⟨_, _, _, e, _⟩ => by rw [e]; rfl) (fun _ _ _ _ _ _ us hl => match us, hl with | [_, _], _ => rfl) fun f cdv A outer s H vs Q E hr hq => ?_
  obtain ⟨p, many, c, rfl, ⟨n, m, k, hp, pz⟩, p0, p1, c1, q⟩ := hq
  refine ⟨_, PSs.nox (pss_cons (ps_if (pt_cmpR op_lt (pe_ix ix_list (pv 0) pe_int (fun _ _ => rfl)) (pv 1) (nomark _)) (pss_cons (ps_asg (pe_op op_add (pe_ix ix_list (pv 0) pe_int (fun _ _ => rfl)) pe_int) (pg_sub (pv 0) pe_int set_list))
      (pss_one (ps_asg (pe_op op_add (pe_ix ix_list (pv 0) pe_int (fun _ _ => rfl)) (pe_op op_mulB (pv 1) (pe_callee c__law_mixed hr rfl pass_e0 (pa_cons (pe_ix ix_list (pv 0) pe_int (fun _ _ => rfl)) (pa_cons (pe_op op_add (pe_op op_mulB pe_int (pe_ix ix_list (pv 0) pe_int (fun _ _ => rfl))) pe_int) pa_nil))))) (pg_sub (pv 0) pe_int set_list)))) pss_nil)
      (pss_cons (ps_set (i := 2) S.nd rfl (Or.inl rfl) (pe_op op_mod (pe_ix ix_list (pv 0) pe_int (fun _ _ => rfl)) (pv 1)))
      (pss_cons (ps_asg (pe_op op_fdivP (pe_ix ix_list (pv 0) pe_int (fun _ _ => rfl)) (pv 1)) (pg_sub (pv 0) pe_int set_list))
      (pss_one (ps_ret (pv 2)))))), ?_⟩
  rw [show L2.start ["_law_purse_here", "_law_many", "_law_got"] [V.ref p, V.int many] = [some (.ref p), some (.int many), none] from rfl]
  simp only [tSeq, tNext, tIfS, tIf, tPar, tCons, tCB, tVar, tNil, tC, tOp, tUn, tRet, tRetN, tAsg, gName, gTup, gLst, gCons, gNil, tTest, tB, tAnd, tOr, tNot, tAndV, tOrV, tNotV, tDrop, tTup, tLst, tCall, tCallX, tRaise, rI, rI0, rU, rEq, rNe, rIxT, rIxL, rCat, rEqD, rNeD, rIsi, scal_ii, scal_bb, scal_ss, scal_nn, cx_K, tSl, tPart, tNoPart, gSub, rSetL, tBM, iList, iTup, tFor, List.append_nil, List.getElem?_cons_zero, List.getElem?_cons_succ, Option.some.injEq, exists_eq_left, exists_eq_left', List.cons.injEq, V.int.injEq, V.bl.injEq, V.str.injEq, V.ref.injEq, and_true, true_and, and_assoc, List.set_cons_zero, List.set_cons_succ, List.length_cons, List.length_nil, exists_and_left, reduceCtorEq, decide_false, decide_true, Bool.not_true, Bool.not_false, List.nil_append, List.cons_append]
  have dv : Dv many := Dv.of (a := 70) (by omega) (by decide)
  refine ⟨_, SqL.of hp, _, rfl, _, rfl, ?_⟩
  refine iteB (fun cc => ?_) (fun cc => ?_)
  · have hm := pz.m0
    have hc := pz.mc
    refine ⟨_, SqL.of hp, _, rfl, _, rfl, _, hp, _, rfl, _, SqL.of upd_same, _, rfl, _, SqL.of upd_same, _, rfl, _, SqL.of upd_same, _, rfl, _, rfl, mulOk_of (a := 10) (b := 20) (by decide) (by omega) (by decide), ?_⟩
    refine ⟨k, _, rfl, by omega, by omega, fun r r0 r1 => ?_⟩
    have ml : MX < 2 ^ 200 := by decide
    refine ⟨r, rfl, mulOk_of (a := 70) (b := 200) (by omega) (by omega) (by decide), n, rfl, _, upd_same, _, rfl, _, SqL.of upd_same, _, rfl, _, rfl, p0, _, SqL.of upd_same, _, rfl, _, rfl, p0, dv, _, upd_same, _, rfl, ?_⟩
    have nn : 0 ≤ n + many * r := Int.add_nonneg pz.n0 (Int.mul_nonneg (Int.le_of_lt p0) r0)
    refine q _ _ (Int.emod_nonneg _ (Int.ne_of_gt p0)) (Int.emod_lt_of_pos _ p0) ⟨_, _, _, upd_same, ⟨Int.ediv_nonneg nn (Int.le_of_lt p0), by omega, by omega, pz.k0, pz.k1⟩⟩ fun b o hb e => ?_
    rw [upd_ne hb, upd_ne hb, upd_ne hb]
    exact e
  · refine ⟨_, SqL.of hp, _, rfl, _, rfl, p0, _, SqL.of hp, _, rfl, _, rfl, p0, dv, _, hp, _, rfl, ?_⟩
    refine q _ _ (Int.emod_nonneg _ (Int.ne_of_gt p0)) (Int.emod_lt_of_pos _ p0) ⟨_, _, _, upd_same, ⟨Int.ediv_nonneg pz.n0 (Int.le_of_lt p0), pz.m0, by have := pz.mc; omega, pz.k0, pz.k1⟩⟩ fun b o hb e => ?_
    rw [upd_ne hb]
    exact e
def sp_at (K : PySem.W.Frag) : Sp := fun vs H Q _ => ∃ (a : Addr) (k : Int) (ns : List Int), vs = [.ref a, .int k] ∧ SqL K H a (ns.map V.int) ∧ 0 ≤ k ∧ k < 100 ∧ ∀ i, Q (.int i) H
theorem k__law_at (h : Has K mg "_law_at" s__law_at) (B : Blt mg) : Callee P w K mg base "_law_at" 1 ["_law_script", "_law_k"] (sp_at K) := by
  have S : FnScope ["_law_script", "_law_k"] ["_law_script", "_law_k"] (defScope s__law_at) := ⟨rfl, rfl, rfl, by decide +kernel, rfl, by decide +kernel, by decide +kernel⟩
  refine h.callee S (fun vs H Q E ⟨_, _, _, e, _⟩ => by rw [e]; rfl) (fun _ _ _ _ _ _ us hl => match us, hl with | [_, _], _ => rfl) fun f cdv A outer s H vs Q E hr hq => ?_
  obtain ⟨a, k, ns, rfl, ha, k0, k1, q⟩ := hq
  refine ⟨_, PSs.nox (pss_cons (ps_if (pt_cmpR op_lt (pv 1) (pe_callB call_len_seq rfl B.n_len Bt.len (pa_cons (pv 0) pa_nil)) (nomark _)) (pss_one (ps_ret (pe_ix ix_list (pv 0) (pv 1) (fun _ _ => rfl)))) pss_nil)
      (pss_one (ps_ret (pe_op op_add (pe_op op_mulB pe_int (pv 1)) pe_int)))), ?_⟩
  rw [show L2.start ["_law_script", "_law_k"] [V.ref a, V.int k] = [some (.ref a), some (.int k)] from rfl]
  simp only [tSeq, tNext, tIfS, tIf, tPar, tCons, tCB, tVar, tNil, tC, tOp, tUn, tRet, tRetN, tAsg, gName, gTup, gLst, gCons, gNil, tTest, tB, tAnd, tOr, tNot, tAndV, tOrV, tNotV, tDrop, tTup, tLst, tCall, tCallX, tRaise, rI, rI0, rU, rEq, rNe, rIxT, rIxL, rCat, rEqD, rNeD, rIsi, scal_ii, scal_bb, scal_ss, scal_nn, cx_K, tSl, tPart, tNoPart, gSub, rSetL, tBM, iList, iTup, tFor, List.append_nil, List.getElem?_cons_zero, List.getElem?_cons_succ, Option.some.injEq, exists_eq_left, exists_eq_left', List.cons.injEq, V.int.injEq, V.bl.injEq, V.str.injEq, V.ref.injEq, and_true, true_and, and_assoc, List.set_cons_zero, List.set_cons_succ, List.length_cons, List.length_nil, exists_and_left, reduceCtorEq, decide_false, decide_true, Bool.not_true, Bool.not_false, List.nil_append, List.cons_append]
  refine ⟨_, .inl ha, ?_⟩
  refine iteB (fun c => ?_) (fun c => ?_)
  · have c' : k < ((ns.map V.int).length : Int) := by simpa using c
    rw [List.length_map] at c'
    have hk : k.toNat < ns.length := by omega
    refine ⟨_, ha, .int ns[k.toNat], ?_, q _⟩
    have := atI_nat (xs := ns.map V.int) (j := k.toNat) (v := .int ns[k.toNat]) (by simp [hk])
    rw [Int.toNat_of_nonneg k0] at this
    exact this
  · exact ⟨mulOk_of (a := 10) (b := 10) (by decide) (by omega) (by decide), q _⟩
def sp_low : Sp := fun vs H Q _ => ∃ t b : Int, vs = [.int t, .int b] ∧ 0 < b ∧ b.natAbs < 2 ^ 1000 ∧ ∀ a, H a = none → Q (.ref a) (upd H a (.tup [.int (Q1.fr t b).1, .int (Q1.fr t b).2]))
theorem k__law_low (h : Has K mg "_law_low" s__law_low) (B : Blt mg) : Callee P w K mg base "_law_low" 1 ["_law_top", "_law_bottom"] sp_low := by
  have S : FnScope ["_law_top", "_law_bottom", "_law_one", "_law_other"] ["_law_top", "_law_bottom"] (defScope s__law_low) := ⟨rfl, rfl, rfl, by decide +kernel, rfl, by decide +kernel, by decide +kernel⟩
  refine h.callee S (fun vs H Q E ⟨_, _, e, _⟩ => by rw [e]; rfl) (fun _ _ _ _ _ _ us hl => match us, hl with | [_, _], _ => rfl) fun f cdv A outer s H vs Q E hr hq => ?_
  obtain ⟨t, b, rfl, b0, b1, q⟩ := hq
  have PO : ∀ {M : Model} {A : Around} {env : Env}, PassesOwn M A env (fun _ _ => False) := PassesOwn.never
  refine ⟨_, PSs.nox (pss_cons (ps_set (i := 2) S.nd rfl (Or.inl rfl) (pe_callB call_abs rfl B.n_abs Bt.abs (pa_cons (pv 0) pa_nil)))
      (pss_cons (ps_set (i := 3) S.nd rfl (Or.inl rfl) (pv 1))
      (pss_cons (ps_while (PO) (pt_cmpR op_ne (pv 3) pe_int (nomark _)) (pss_one (ps_par (i := 2) (j := 3) rfl S.nd rfl rfl (by decide) rfl rfl (pa_cons (pv 3) (pa_cons (pe_op op_mod (pv 2) (pv 3)) pa_nil)) rfl)))
      (pss_one (ps_ret (pe_tup (pa_cons (pe_op op_fdivP (pv 0) (pv 2)) (pa_cons (pe_op op_fdivP (pv 1) (pv 2)) pa_nil)))))))), ?_⟩
  rw [show L2.start ["_law_top", "_law_bottom", "_law_one", "_law_other"] [V.int t, V.int b] = [some (.int t), some (.int b), none, none] from rfl]
  simp only [tSeq, tNext, tIfS, tIf, tPar, tCons, tCB, tVar, tNil, tC, tOp, tUn, tRet, tRetN, tAsg, gName, gTup, gLst, gCons, gNil, tTest, tB, tAnd, tOr, tNot, tAndV, tOrV, tNotV, tDrop, tTup, tLst, tCall, tCallX, tRaise, rI, rI0, rU, rEq, rNe, rIxT, rIxL, rCat, rEqD, rNeD, rIsi, scal_ii, scal_bb, scal_ss, scal_nn, cx_K, tSl, tPart, tNoPart, gSub, rSetL, tBM, iList, iTup, tFor, List.append_nil, List.getElem?_cons_zero, List.getElem?_cons_succ, Option.some.injEq, exists_eq_left, exists_eq_left', List.cons.injEq, V.int.injEq, V.bl.injEq, V.str.injEq, V.ref.injEq, and_true, true_and, and_assoc, List.set_cons_zero, List.set_cons_succ, List.length_cons, List.length_nil, exists_and_left, reduceCtorEq, decide_false, decide_true, Bool.not_true, Bool.not_false, List.nil_append, List.cons_append]
  refine while_by (fun σ H' => ∃ x y : Int, σ = [some (.int t), some (.int b), some (.int x), some (.int y)] ∧ H' = H ∧ 0 ≤ x ∧ 0 ≤ y ∧ Int.gcd x y = Int.gcd t b)
    (fun σ _ => match σ with | [_, _, _, some (.int y)] => y.toNat | _ => 0) ⟨_, _, rfl, rfl, ?_, by omega, ?_⟩ ?_ ?_
  · split <;> omega
  · rw [show (if t < 0 then -t else t) = (t.natAbs : Int) by split <;> omega]
    simp [Int.gcd]
  · rintro σ H' ⟨x, y, rfl, rfl, hx, hy, hg⟩
    simp only [tSeq, tNext, tIfS, tIf, tPar, tCons, tCB, tVar, tNil, tC, tOp, tUn, tRet, tRetN, tAsg, gName, gTup, gLst, gCons, gNil, tTest, tB, tAnd, tOr, tNot, tAndV, tOrV, tNotV, tDrop, tTup, tLst, tCall, tCallX, tRaise, rI, rI0, rU, rEq, rNe, rIxT, rIxL, rCat, rEqD, rNeD, rIsi, scal_ii, scal_bb, scal_ss, scal_nn, cx_K, tSl, tPart, tNoPart, gSub, rSetL, tBM, iList, iTup, tFor, List.append_nil, List.getElem?_cons_zero, List.getElem?_cons_succ, Option.some.injEq, exists_eq_left, exists_eq_left', List.cons.injEq, V.int.injEq, V.bl.injEq, V.str.injEq, V.ref.injEq, and_true, true_and, and_assoc, List.set_cons_zero, List.set_cons_succ, List.length_cons, List.length_nil, exists_and_left, reduceCtorEq, decide_false, decide_true, Bool.not_true, Bool.not_false, List.nil_append, List.cons_append]
    refine iteB (fun hc => ?_) (fun hc => ?_)
    · have hy0 : y ≠ 0 := by simpa using hc
      refine ⟨by omega, hy, Int.emod_nonneg _ hy0, ?_, ?_⟩
      · rw [← hg]
        show Nat.gcd y.natAbs (x % y).natAbs = Nat.gcd x.natAbs y.natAbs
        rw [Int.natAbs_emod_of_nonneg hx, Nat.gcd_comm, ← Nat.gcd_rec, Nat.gcd_comm]
      · have := Int.emod_lt_of_pos x (show 0 < y by omega)
        have := Int.emod_nonneg x hy0
        omega
    · have hy0 : y = 0 := by simpa using hc
      subst hy0
      have ex : (x : Int) = (Int.gcd t b : Int) := by rw [← hg]; simp [Int.gcd]; omega
      have gp := Q1.gcd_pos (t := t) (Int.ne_of_gt b0)
      have dv : Dv x := by
        refine Dv.of (a := 1000) ?_ (by decide)
        have := Nat.le_of_dvd (by omega) (Int.natAbs_dvd_natAbs.mpr (Int.gcd_dvd_right (a := t) (b := b)))
        rw [ex]
        exact Nat.lt_of_le_of_lt this b1
      rw [Q1.fr_pos b0] at q
      rw [ex] at dv ⊢
      exact ⟨gp, dv, gp, dv, by rw [sizeLine_eq]; decide, q⟩
  · intro σ H Q1 Q2 hm h1
    simp only [tSeq, tNext, tIfS, tIf, tPar, tCons, tCB, tVar, tNil, tC, tOp, tUn, tRet, tRetN, tAsg, gName, gTup, gLst, gCons, gNil, tTest, tB, tAnd, tOr, tNot, tAndV, tOrV, tNotV, tDrop, tTup, tLst, tCall, tCallX, tRaise, rI, rI0, rU, rEq, rNe, rIxT, rIxL, rCat, rEqD, rNeD, rIsi, scal_ii, scal_bb, scal_ss, scal_nn, cx_K, tSl, tPart, tNoPart, gSub, rSetL, tBM, iList, iTup, tFor, List.append_nil, List.getElem?_cons_zero, List.getElem?_cons_succ, Option.some.injEq, exists_eq_left, exists_eq_left', List.cons.injEq, V.int.injEq, V.bl.injEq, V.str.injEq, V.ref.injEq, and_true, true_and, and_assoc, List.set_cons_zero, List.set_cons_succ, List.length_cons, List.length_nil, exists_and_left, reduceCtorEq, decide_false, decide_true, Bool.not_true, Bool.not_false, List.nil_append, List.cons_append] at h1 ⊢
    obtain ⟨v, e, e2, hv⟩ := h1
    exact ⟨v, e, e2, hm _ _ hv⟩
def sp_purse : Sp := fun vs H Q _ => ∃ c : Int, vs = [.int c, .int 1] ∧ ∀ p H', H p = none → Pu H' p 0 → But p H H' → Q (.ref p) H'
theorem k__law_purse (h : Has K mg "_law_purse" s__law_purse) (c__law_mixed : Callee P w K mg base "_law_mixed" 1 ["_law_cell", "_law_k"] sp_mixed) : Callee P w K mg base "_law_purse" 2 ["_law_cell", "_law_k"] sp_purse := by
  have S : FnScope ["_law_cell", "_law_k"] ["_law_cell", "_law_k"] (defScope s__law_purse) := ⟨rfl, rfl, rfl, by decide +kernel, rfl, by decide +kernel, by decide +kernel⟩
  refine h.callee S (fun vs H Q E ⟨_, e, _⟩ => by rw [e]; rfl) (fun _ _ _ _ _ _ us hl => match us, hl with | [_, _], _ => rfl) fun f cdv A outer s H vs Q E hr hq => ?_
  obtain ⟨c, rfl, q⟩ := hq
  refine ⟨_, PSs.nox (pss_cons (ps_if (pt_cmpR op_ge (pv 0) (pe_op op_pow pe_int pe_int) (nomark _)) (pss_one (ps_ret (pe_lst (pa_cons (pe_op op_sub (pv 0) (pe_op op_pow pe_int pe_int)) (pa_cons pe_int (pa_cons (pv 1) pa_nil)))))) pss_nil)
      (pss_one (ps_ret (pe_lst (pa_cons (pe_callee c__law_mixed hr rfl pass_e0 (pa_cons (pv 0) (pa_cons (pv 1) pa_nil))) (pa_cons pe_int (pa_cons (pe_op op_add (pe_op op_mod (pv 0) (pe_op op_add (pe_op op_pow pe_int pe_int) pe_int)) (pv 1)) pa_nil))))))), ?_⟩
  rw [show L2.start ["_law_cell", "_law_k"] [V.int c, V.int 1] = [some (.int c), some (.int 1)] from rfl]
  simp only [tSeq, tNext, tIfS, tIf, tPar, tCons, tCB, tVar, tNil, tC, tOp, tUn, tRet, tRetN, tAsg, gName, gTup, gLst, gCons, gNil, tTest, tB, tAnd, tOr, tNot, tAndV, tOrV, tNotV, tDrop, tTup, tLst, tCall, tCallX, tRaise, rI, rI0, rU, rEq, rNe, rIxT, rIxL, rCat, rEqD, rNeD, rIsi, scal_ii, scal_bb, scal_ss, scal_nn, cx_K, tSl, tPart, tNoPart, gSub, rSetL, tBM, iList, iTup, tFor, List.append_nil, List.getElem?_cons_zero, List.getElem?_cons_succ, Option.some.injEq, exists_eq_left, exists_eq_left', List.cons.injEq, V.int.injEq, V.bl.injEq, V.str.injEq, V.ref.injEq, and_true, true_and, and_assoc, List.set_cons_zero, List.set_cons_succ, List.length_cons, List.length_nil, exists_and_left, reduceCtorEq, decide_false, decide_true, Bool.not_true, Bool.not_false, List.nil_append, List.cons_append]
  have e18 : (10 : Int) ^ Int.toNat 18 = 1000000000000000000 := by decide
  rw [e18]
  refine ⟨⟨by decide, by decide, by decide⟩, ?_⟩
  refine iteB (fun cc => ?_) (fun cc => ?_)
  · have cc' : 1000000000000000000 ≤ c := by simpa using cc
    refine ⟨⟨by decide, by decide, by decide⟩, by rw [sizeLine_eq]; decide, fun p hp => q p _ hp ⟨_, _, _, upd_same, ⟨by omega, by decide, by decide, by decide, by decide⟩⟩ fun b o hb e => ?_⟩
    rw [upd_ne hb]
    exact e
  · refine ⟨c, 1, rfl, by decide, by decide, fun r r0 r1 => ?_⟩
    have x0 := Int.emod_nonneg c (show (1000000000000000009 : Int) ≠ 0 by decide)
    have x1 := Int.emod_lt_of_pos c (show (0 : Int) < 1000000000000000009 by decide)
    refine ⟨⟨by decide, by decide, by decide⟩, by decide, by rw [sizeLine_eq]; decide, fun p hp => q p _ hp ⟨_, _, _, upd_same, ⟨r0, by decide, by decide, ?_, ?_⟩⟩ fun b o hb e => ?_⟩
    · show 0 ≤ c % (1000000000000000000 + 9) + 1
      omega
    · show c % (1000000000000000000 + 9) + 1 < 2 ^ 70
      omega
    · rw [upd_ne hb]
      exact e
abbrev s__law_plus : Stmt := top 44
abbrev s__law_by : Stmt := top 45
abbrev s__law_not : Stmt := top 46
theorem k__law_plus (h : Has K mg "_law_plus" s__law_plus) (c__law_low : Callee P w K mg base "_law_low" 1 ["_law_top", "_law_bottom"] sp_low) : Callee P w K mg base "_law_plus" 2 ["_law_one", "_law_other"] (sp_two K plusQ) := by
  have S : FnScope ["_law_one", "_law_other"] ["_law_one", "_law_other"] (defScope s__law_plus) := ⟨rfl, rfl, rfl, by decide +kernel, rfl, by decide +kernel, by decide +kernel⟩
  refine h.callee S (fun vs H Q E ⟨_, _, _, _, _, _, e, _⟩ => by rw [e]; rfl) (fun _ _ _ _ _ _ us hl => match us, hl with | [_, _], _ => rfl) fun f cdv A outer s H vs Q E hr hq => ?_
  obtain ⟨x, y, p, q, r, u, rfl, ⟨a, rfl, ha⟩, ⟨b, rfl, hb⟩, z1, z2, z3, z4, p1, p2, k⟩ := hq
  refine ⟨_, PSs.nox (pss_one (ps_ret (pe_callee c__law_low hr rfl pass_e0 (pa_cons (pe_op op_add (pe_op op_mulB (pe_ix ix_tup (pv 0) pe_int (fun _ _ => rfl)) (pe_ix ix_tup (pv 1) pe_int (fun _ _ => rfl))) (pe_op op_mulB (pe_ix ix_tup (pv 1) pe_int (fun _ _ => rfl)) (pe_ix ix_tup (pv 0) pe_int (fun _ _ => rfl)))) (pa_cons (pe_op op_mulB (pe_ix ix_tup (pv 0) pe_int (fun _ _ => rfl)) (pe_ix ix_tup (pv 1) pe_int (fun _ _ => rfl))) pa_nil))))), ?_⟩
  rw [show L2.start ["_law_one", "_law_other"] [V.ref a, V.ref b] = [some (.ref a), some (.ref b)] from rfl]
  simp only [tSeq, tNext, tIfS, tIf, tPar, tCons, tCB, tVar, tNil, tC, tOp, tUn, tRet, tRetN, tAsg, gName, gTup, gLst, gCons, gNil, tTest, tB, tAnd, tOr, tNot, tAndV, tOrV, tNotV, tDrop, tTup, tLst, tCall, tCallX, tRaise, rI, rI0, rU, rEq, rNe, rIxT, rIxL, rCat, rEqD, rNeD, rIsi, scal_ii, scal_bb, scal_ss, scal_nn, cx_K, tSl, tPart, tNoPart, gSub, rSetL, tBM, iList, iTup, tFor, List.append_nil, List.getElem?_cons_zero, List.getElem?_cons_succ, Option.some.injEq, exists_eq_left, exists_eq_left', List.cons.injEq, V.int.injEq, V.bl.injEq, V.str.injEq, V.ref.injEq, and_true, true_and, and_assoc, List.set_cons_zero, List.set_cons_succ, List.length_cons, List.length_nil, exists_and_left, reduceCtorEq, decide_false, decide_true, Bool.not_true, Bool.not_false, List.nil_append, List.cons_append]
  exact ⟨_, ha, _, at0, _, hb, _, at1, _, rfl, _, rfl, z1.mul z4, _, hb, _, at0, _, ha, _, at1, _, rfl, _, rfl, z3.mul z2, _, ha, _, at1, _, hb, _, at1, _, rfl, _, rfl, z2.mul z4, _, _, rfl, Int.mul_pos p1 p2, z2.lt z4, k⟩
theorem k__law_by (h : Has K mg "_law_by" s__law_by) (c__law_low : Callee P w K mg base "_law_low" 1 ["_law_top", "_law_bottom"] sp_low) : Callee P w K mg base "_law_by" 2 ["_law_one", "_law_other"] (sp_two K timesQ) := by
  have S : FnScope ["_law_one", "_law_other"] ["_law_one", "_law_other"] (defScope s__law_by) := ⟨rfl, rfl, rfl, by decide +kernel, rfl, by decide +kernel, by decide +kernel⟩
  refine h.callee S (fun vs H Q E ⟨_, _, _, _, _, _, e, _⟩ => by rw [e]; rfl) (fun _ _ _ _ _ _ us hl => match us, hl with | [_, _], _ => rfl) fun f cdv A outer s H vs Q E hr hq => ?_
  obtain ⟨x, y, p, q, r, u, rfl, ⟨a, rfl, ha⟩, ⟨b, rfl, hb⟩, z1, z2, z3, z4, p1, p2, k⟩ := hq
  refine ⟨_, PSs.nox (pss_one (ps_ret (pe_callee c__law_low hr rfl pass_e0 (pa_cons (pe_op op_mulB (pe_ix ix_tup (pv 0) pe_int (fun _ _ => rfl)) (pe_ix ix_tup (pv 1) pe_int (fun _ _ => rfl))) (pa_cons (pe_op op_mulB (pe_ix ix_tup (pv 0) pe_int (fun _ _ => rfl)) (pe_ix ix_tup (pv 1) pe_int (fun _ _ => rfl))) pa_nil))))), ?_⟩
  rw [show L2.start ["_law_one", "_law_other"] [V.ref a, V.ref b] = [some (.ref a), some (.ref b)] from rfl]
  simp only [tSeq, tNext, tIfS, tIf, tPar, tCons, tCB, tVar, tNil, tC, tOp, tUn, tRet, tRetN, tAsg, gName, gTup, gLst, gCons, gNil, tTest, tB, tAnd, tOr, tNot, tAndV, tOrV, tNotV, tDrop, tTup, tLst, tCall, tCallX, tRaise, rI, rI0, rU, rEq, rNe, rIxT, rIxL, rCat, rEqD, rNeD, rIsi, scal_ii, scal_bb, scal_ss, scal_nn, cx_K, tSl, tPart, tNoPart, gSub, rSetL, tBM, iList, iTup, tFor, List.append_nil, List.getElem?_cons_zero, List.getElem?_cons_succ, Option.some.injEq, exists_eq_left, exists_eq_left', List.cons.injEq, V.int.injEq, V.bl.injEq, V.str.injEq, V.ref.injEq, and_true, true_and, and_assoc, List.set_cons_zero, List.set_cons_succ, List.length_cons, List.length_nil, exists_and_left, reduceCtorEq, decide_false, decide_true, Bool.not_true, Bool.not_false, List.nil_append, List.cons_append]
  exact ⟨_, ha, _, at0, _, hb, _, at0, _, rfl, _, rfl, z1.mul z3, _, ha, _, at1, _, hb, _, at1, _, rfl, _, rfl, z2.mul z4, _, _, rfl, Int.mul_pos p1 p2, z2.lt z4, k⟩
def sp_not (K : PySem.W.Frag) : Sp := fun vs H Q _ => ∃ x p q, vs = [x] ∧ Nm K H x p q ∧ ∀ a, H a = none → Q (.ref a) (upd H a (.tup [.int (-p), .int q]))
theorem k__law_not (h : Has K mg "_law_not" s__law_not) : Callee P w K mg base "_law_not" 1 ["_law_one"] (sp_not K) := by
  have S : FnScope ["_law_one"] ["_law_one"] (defScope s__law_not) := ⟨rfl, rfl, rfl, by decide +kernel, rfl, by decide +kernel, by decide +kernel⟩
  refine h.callee S (fun vs H Q E ⟨_, _, _, e, _⟩ => by rw [e]; rfl) (fun _ _ _ _ _ _ us hl => match us, hl with | [_], _ => rfl) fun f cdv A outer s H vs Q E hr hq => ?_
  obtain ⟨x, p, q, rfl, ⟨a, rfl, ha⟩, k⟩ := hq
  refine ⟨_, PSs.nox (pss_one (ps_ret (pe_tup (pa_cons (pe_op op_sub pe_int (pe_ix ix_tup (pv 0) pe_int (fun _ _ => rfl))) (pa_cons (pe_ix ix_tup (pv 0) pe_int (fun _ _ => rfl)) pa_nil))))), ?_⟩
  rw [show L2.start ["_law_one"] [V.ref a] = [some (.ref a)] from rfl]
  simp only [tSeq, tNext, tIfS, tIf, tPar, tCons, tCB, tVar, tNil, tC, tOp, tUn, tRet, tRetN, tAsg, gName, gTup, gLst, gCons, gNil, tTest, tB, tAnd, tOr, tNot, tAndV, tOrV, tNotV, tDrop, tTup, tLst, tCall, tCallX, tRaise, rI, rI0, rU, rEq, rNe, rIxT, rIxL, rCat, rEqD, rNeD, rIsi, scal_ii, scal_bb, scal_ss, scal_nn, cx_K, tSl, tPart, tNoPart, gSub, rSetL, tBM, iList, iTup, tFor, List.append_nil, List.getElem?_cons_zero, List.getElem?_cons_succ, Option.some.injEq, exists_eq_left, exists_eq_left', List.cons.injEq, V.int.injEq, V.bl.injEq, V.str.injEq, V.ref.injEq, and_true, true_and, and_assoc, List.set_cons_zero, List.set_cons_succ, List.length_cons, List.length_nil, exists_and_left, reduceCtorEq, decide_false, decide_true, Bool.not_true, Bool.not_false, List.nil_append, List.cons_append]
  refine ⟨_, ha, _, at0, _, rfl, _, ha, _, at1, by rw [sizeLine_eq]; decide, fun b hb => ?_⟩
  have := k b hb
  rw [show (0 : Int) - p = -p by omega]
  exact this
end
end K1

set_option Elab.async false
set_option linter.all false
set_option maxRecDepth 100000
set_option maxHeartbeats 4000000
namespace K1
open PySem L2 PySem.Spec PyProof.Rows
abbrev s__law_number : Stmt := top 47
abbrev s__law_is_whole : Stmt := top 48
abbrev s__law_is_number : Stmt := top 49
abbrev s__law_thing : Stmt := top 53
section
variable {P : Program} {w : World} {K : PySem.W.Frag} {mg : Str → Option Value} {base : Heap}
theorem But.refl {p : Addr} {H : Hp} : But p H H := fun _ _ _ e => e
theorem But.trans {p : Addr} {H H1 H2 : Hp} (a : But p H H1) (b : But p H1 H2) : But p H H2 := fun c o hc e => b c o hc (a c o hc e)
theorem But.new {p a : Addr} {H : Hp} {o : HO} (h : H a = none) : But p H (upd H a o) := fun c u hc e => by rw [upd_ne (ne_of_none e h)]; exact e
theorem Pu.new {p a : Addr} {H : Hp} {o : HO} {c : Nat} (h : H a = none) (u : Pu H p c) : Pu (upd H a o) p c := by
  obtain ⟨n, m, k, hp, z⟩ := u
  exact ⟨n, m, k, by rw [upd_ne (ne_of_none hp h)]; exact hp, z⟩
theorem Pu.mono {p : Addr} {H : Hp} {c d : Nat} (h : c ≤ d) (u : Pu H p c) : Pu H p d := by
  obtain ⟨n, m, k, hp, z⟩ := u
  exact ⟨n, m, k, hp, z.n0, z.m0, by have := z.mc; omega, z.k0, z.k1⟩
theorem But.tup {p a : Addr} {H H' : Hp} {xs : List V} {c : Nat} (b : But p H H') (u : Pu H p c) (h : SqT K H a xs) : SqT K H' a xs := by
  obtain ⟨n, m, k, hp, _⟩ := u
  rcases h with (h | ⟨o, h⟩) | h
  · exact .inl (.inl (b _ _ (fun z => by rw [z, hp] at h; cases h) h))
  · exact .inl (.inr ⟨o, b _ _ (fun z => by rw [z, hp] at h; cases h) h⟩)
  · exact .inr h
theorem But.nm {p : Addr} {H H' : Hp} {v : V} {x y : Int} {c : Nat} (b : But p H H') (u : Pu H p c) (h : Nm K H v x y) : Nm K H' v x y := by
  obtain ⟨a, e, h⟩ := h
  exact ⟨a, e, b.tup u h⟩
theorem kn {H : Hp} {x y : Addr} {o u : HO} (h : H x = some o) (n : H y = none) : upd H y u x = some o := by rw [upd_ne (ne_of_none h n)]; exact h
/-- a number in lowest parts, drawn here -/
structure NmL (K : PySem.W.Frag) (H : Hp) (v : V) (p q : Int) : Prop where
  nm : Nm K H v p q
  low : Q1.Low p q
  z1 : p.natAbs < 2 ^ 70
  z2 : q.natAbs < 2 ^ 70
def sp_number (K : PySem.W.Frag) : Sp := fun vs H Q _ => ∃ (p : Addr) (c : Nat), vs = [.ref p] ∧ Pu H p c ∧ c ≤ 900 ∧ ∀ v H' x y, NmL K H' v x y → Pu H' p (c + 3) → But p H H' → Q v H'
theorem fr_size {t b : Int} (h : 0 < b) {n : Nat} (ht : t.natAbs < 2 ^ n) (hb : b.natAbs < 2 ^ n) : (Q1.fr t b).1.natAbs < 2 ^ n ∧ (Q1.fr t b).2.natAbs < 2 ^ n := by
  rw [Q1.fr_pos h]
  have hg := Q1.gcd_pos (t := t) (Int.ne_of_gt h)
  have key : ∀ x : Int, (x / (Int.gcd t b : Int)).natAbs ≤ x.natAbs := fun x => Int.natAbs_ediv_le_natAbs _ _
  exact ⟨Nat.lt_of_le_of_lt (key t) ht, Nat.lt_of_le_of_lt (key b) hb⟩
theorem k__law_number (h : Has K mg "_law_number" s__law_number) (c__law_take : Callee P w K mg base "_law_take" 2 ["_law_purse_here", "_law_many"] sp_take) (c__law_low : Callee P w K mg base "_law_low" 1 ["_law_top", "_law_bottom"] sp_low) :
    Callee P w K mg base "_law_number" 3 ["_law_purse_here"] (sp_number K) := by
  have S : FnScope ["_law_purse_here", "_law_way"] ["_law_purse_here"] (defScope s__law_number) := ⟨rfl, rfl, rfl, by decide +kernel, rfl, by decide +kernel, by decide +kernel⟩
  refine h.callee S (fun vs H Q E ⟨_, _, e, _⟩ => by rw [e]; rfl) (fun _ _ _ _ _ _ us hl => match us, hl with | [_], _ => rfl) fun f cdv A outer s H vs Q E hr hq => ?_
  obtain ⟨p, c, rfl, hu, hc, q⟩ := hq
  refine ⟨_, PSs.nox (pss_cons (ps_set (i := 1) S.nd rfl (Or.inl rfl) (pe_callee c__law_take hr rfl pass_e0 (pa_cons (pv 0) (pa_cons pe_int pa_nil))))
      (pss_cons (ps_if (pt_cmpR op_lt (pv 1) pe_int (nomark _)) (pss_one (ps_ret (pe_ix ix_list (pe_lst (pa_cons (pe_tup (pa_cons pe_int (pa_cons pe_int pa_nil))) (pa_cons (pe_tup (pa_cons pe_int (pa_cons pe_int pa_nil))) (pa_cons (pe_tup (pa_cons (pe_un un_neg pe_int) (pa_cons pe_int pa_nil))) pa_nil)))) (pv 1) (fun _ _ => rfl)))) pss_nil)
      (pss_cons (ps_if (pt_cmpR op_lt (pv 1) pe_int (nomark _)) (pss_one (ps_ret (pe_callee c__law_low hr rfl pass_e0 (pa_cons (pe_op op_sub (pe_callee c__law_take hr rfl pass_e0 (pa_cons (pv 0) (pa_cons pe_int pa_nil))) pe_int) (pa_cons (pe_op op_add pe_int (pe_op op_mulB (pe_callee c__law_take hr rfl pass_e0 (pa_cons (pv 0) (pa_cons pe_int pa_nil))) (pe_op op_sub (pv 1) pe_int))) pa_nil))))) pss_nil)
      (pss_cons (ps_if (pt_cmpR op_lt (pv 1) pe_int (nomark _)) (pss_one (ps_ret (pe_callee c__law_low hr rfl pass_e0 (pa_cons (pe_op op_sub (pe_callee c__law_take hr rfl pass_e0 (pa_cons (pv 0) (pa_cons (pe_op op_add (pe_op op_mulB pe_int (pe_op op_pow pe_int pe_int)) pe_int) pa_nil))) (pe_op op_pow pe_int pe_int)) (pa_cons (pe_op op_add pe_int (pe_op op_mulB (pe_callee c__law_take hr rfl pass_e0 (pa_cons (pv 0) (pa_cons (pe_op op_pow pe_int pe_int) pa_nil))) (pe_op op_sub (pv 1) pe_int))) pa_nil))))) pss_nil)
      (pss_one (ps_ret (pe_callee c__law_low hr rfl pass_e0 (pa_cons (pe_op op_sub (pe_callee c__law_take hr rfl pass_e0 (pa_cons (pv 0) (pa_cons (pe_op op_add (pe_op op_mulB pe_int (pe_op op_pow pe_int pe_int)) pe_int) pa_nil))) (pe_op op_pow pe_int pe_int)) (pa_cons (pe_op op_add pe_int (pe_callee c__law_take hr rfl pass_e0 (pa_cons (pv 0) (pa_cons (pe_op op_pow pe_int pe_int) pa_nil)))) pa_nil))))))))), ?_⟩
  rw [show L2.start ["_law_purse_here", "_law_way"] [V.ref p] = [some (.ref p), none] from rfl]
  simp only [tSeq, tNext, tIfS, tIf, tPar, tCons, tCB, tVar, tNil, tC, tOp, tUn, tRet, tRetN, tAsg, gName, gTup, gLst, gCons, gNil, tTest, tB, tAnd, tOr, tNot, tAndV, tOrV, tNotV, tDrop, tTup, tLst, tCall, tCallX, tRaise, rI, rI0, rU, rEq, rNe, rIxT, rIxL, rCat, rEqD, rNeD, rIsi, scal_ii, scal_bb, scal_ss, scal_nn, cx_K, tSl, tPart, tNoPart, gSub, rSetL, tBM, iList, iTup, tFor, List.append_nil, List.getElem?_cons_zero, List.getElem?_cons_succ, Option.some.injEq, exists_eq_left, exists_eq_left', List.cons.injEq, V.int.injEq, V.bl.injEq, V.str.injEq, V.ref.injEq, and_true, true_and, and_assoc, List.set_cons_zero, List.set_cons_succ, List.length_cons, List.length_nil, exists_and_left, reduceCtorEq, decide_false, decide_true, Bool.not_true, Bool.not_false, List.nil_append, List.cons_append]
  refine ⟨p, 8, c, rfl, hu, by decide, by decide, by omega, fun g H1 g0 g1 u1 b1 => ?_⟩
  simp only [tSeq, tNext, tIfS, tIf, tPar, tCons, tCB, tVar, tNil, tC, tOp, tUn, tRet, tRetN, tAsg, gName, gTup, gLst, gCons, gNil, tTest, tB, tAnd, tOr, tNot, tAndV, tOrV, tNotV, tDrop, tTup, tLst, tCall, tCallX, tRaise, rI, rI0, rU, rEq, rNe, rIxT, rIxL, rCat, rEqD, rNeD, rIsi, scal_ii, scal_bb, scal_ss, scal_nn, cx_K, tSl, tPart, tNoPart, gSub, rSetL, tBM, iList, iTup, tFor, List.append_nil, List.getElem?_cons_zero, List.getElem?_cons_succ, Option.some.injEq, exists_eq_left, exists_eq_left', List.cons.injEq, V.int.injEq, V.bl.injEq, V.str.injEq, V.ref.injEq, and_true, true_and, and_assoc, List.set_cons_zero, List.set_cons_succ, List.length_cons, List.length_nil, exists_and_left, reduceCtorEq, decide_false, decide_true, Bool.not_true, Bool.not_false, List.nil_append, List.cons_append]
  -- what the three other ways come to
  have low : ∀ (t b : Int) (H2 : Hp) (d : Nat), d ≤ 2 → Pu H2 p (c + 1 + d) → But p H1 H2 → 0 < b → t.natAbs < 2 ^ 70 → b.natAbs < 2 ^ 70 → sp_low [.int t, .int b] H2 Q E0 := fun t b H2 d hd u2 b2 b0 zt zb => by
    have z := fr_size b0 zt zb
    refine ⟨t, b, rfl, b0, Nat.lt_of_lt_of_le zb (by decide), fun a ha => q _ _ _ _ ⟨⟨a, rfl, SqT.of upd_same⟩, Q1.fr_low (Int.ne_of_gt b0), z.1, z.2⟩ ((u2.new ha).mono (by omega)) (b1.trans (b2.trans (But.new ha)))⟩
  have le2 : 0 + 1 + 1 ≤ sizeLine := by rw [sizeLine_eq]; decide
  have le3 : 0 + 1 + 1 + 1 ≤ sizeLine := by rw [sizeLine_eq]; decide
  have e3 : (10 : Int) ^ Int.toNat 3 = 1000 := by decide
  have e6 : (10 : Int) ^ Int.toNat 6 = 1000000 := by decide
  have e19 : (10 : Int) ^ Int.toNat 19 = 10000000000000000000 := by decide
  simp only [e3, e6, e19]
  refine iteB (fun c3 => ?_) (fun c3 => ?_)
  · have g3 : g < 3 := by simpa using c3
    refine ⟨le2, fun a ha => ⟨le2, fun b hb => ⟨le2, fun d hd => ⟨le3, fun l hl => ⟨_, SqL.of upd_same, ?_⟩⟩⟩⟩⟩
    have bb := b1.trans ((((But.new (p := p) ha).trans (But.new hb)).trans (But.new hd)).trans (But.new (o := .lst [.ref a, .ref b, .ref d]) hl))
    have uu : Pu _ p (c + 3) := ((((u1.new ha).new hb).new hd).new (o := .lst [.ref a, .ref b, .ref d]) hl).mono (by omega)
    have hg : g = 0 ∨ g = 1 ∨ g = 2 := by omega
    rcases hg with rfl | rfl | rfl
    · exact ⟨_, rfl, q _ _ _ _ ⟨⟨a, rfl, SqT.of (kn (kn (kn upd_same hb) hd) hl)⟩, ⟨by decide, by decide⟩, by decide, by decide⟩ uu bb⟩
    · exact ⟨_, rfl, q _ _ _ _ ⟨⟨b, rfl, SqT.of (kn (kn upd_same hd) hl)⟩, ⟨by decide, by decide⟩, by decide, by decide⟩ uu bb⟩
    · exact ⟨_, rfl, q _ _ _ _ ⟨⟨d, rfl, SqT.of (kn upd_same hl)⟩, ⟨by decide, by decide⟩, by decide, by decide⟩ uu bb⟩
  have g3 : ¬ g < 3 := by simpa using c3
  refine iteB (fun c5 => ?_) (fun c5 => ?_)
  · have g5 : g < 5 := by simpa using c5
    refine ⟨p, 19, c + 1, rfl, u1, by decide, by decide, by omega, fun i H2 i0 i1 u2 b2 => ⟨i, rfl, ⟨p, 5, c + 2, rfl, u2, by decide, by decide, by omega, fun j H3 j0 j1 u3 b3 => ⟨j, rfl, mulOk_of (a := 70) (b := 70) (by omega) (by omega) (by decide), ?_⟩⟩⟩⟩
    have hg : g = 3 ∨ g = 4 := by omega
    rcases hg with rfl | rfl
    · exact low _ _ H3 2 (Nat.le_refl _) u3 (b2.trans b3) (by omega) (by omega) (by omega)
    · exact low _ _ H3 2 (Nat.le_refl _) u3 (b2.trans b3) (by omega) (by omega) (by omega)
  have g5 : ¬ g < 5 := by simpa using c5
  refine iteB (fun c7 => ?_) (fun c7 => ?_)
  · have g7 : g < 7 := by simpa using c7
    refine ⟨⟨by decide, by decide, by decide⟩, mulOk_of (a := 70) (b := 70) (by decide) (by decide) (by decide), p, _, c + 1, rfl, u1, by decide, by decide, by omega, fun i H2 i0 i1 u2 b2 => ⟨⟨by decide, by decide, by decide⟩, i, rfl, ⟨by decide, by decide, by decide⟩, p, _, c + 2, rfl, u2, by decide, by decide, by omega, fun j H3 j0 j1 u3 b3 => ⟨j, rfl, mulOk_of (a := 70) (b := 70) (by omega) (by omega) (by decide), ?_⟩⟩⟩
    have hg : g = 5 ∨ g = 6 := by omega
    rcases hg with rfl | rfl
    · exact low _ _ H3 2 (Nat.le_refl _) u3 (b2.trans b3) (by omega) (by omega) (by omega)
    · exact low _ _ H3 2 (Nat.le_refl _) u3 (b2.trans b3) (by omega) (by omega) (by omega)
  · refine ⟨⟨by decide, by decide, by decide⟩, mulOk_of (a := 70) (b := 70) (by decide) (by decide) (by decide), p, _, c + 1, rfl, u1, by decide, by decide, by omega, fun i H2 i0 i1 u2 b2 => ⟨⟨by decide, by decide, by decide⟩, i, rfl, ⟨by decide, by decide, by decide⟩, p, _, c + 2, rfl, u2, by decide, by decide, by omega, fun j H3 j0 j1 u3 b3 => ⟨j, rfl, ?_⟩⟩⟩
    exact low _ _ H3 2 (Nat.le_refl _) u3 (b2.trans b3) (by omega) (by omega) (by omega)
end
end K1

set_option Elab.async false
set_option linter.all false
set_option maxRecDepth 100000
set_option maxHeartbeats 4000000
namespace K1
open PySem L2 PySem.Spec PyProof.Rows
section
variable {P : Program} {w : World} {K : PySem.W.Frag} {mg : Str → Option Value} {base : Heap}
theorem k__law_is_whole (h : Has K mg "_law_is_whole" s__law_is_whole) (B : Blt mg) : Callee P w K mg base "_law_is_whole" 1 ["_law_told"] (sp_is_whole K) := by
  have S : FnScope ["_law_told"] ["_law_told"] (defScope s__law_is_whole) := ⟨rfl, rfl, rfl, by decide +kernel, rfl, by decide +kernel, by decide +kernel⟩
  refine h.callee S (fun vs H Q E ⟨_, _, e, _⟩ => by rw [e]; rfl) (fun _ _ _ _ _ _ us hl => match us, hl with | [_], _ => rfl) fun f cdv A outer s H vs Q E hr hq => ?_
  obtain ⟨x, d, rfl, hx, q⟩ := hq
  refine ⟨_, PSs.nox (pss_one (ps_ret (pe_and (pe_callB call_isi rfl B.n_isinstance Bt.isinstance (pa_cons (pv 0) (pa_cons (pe_ty rfl B.n_int Bt.int) pa_nil))) (pe_one (pe_not (pe_callB call_isi rfl B.n_isinstance Bt.isinstance (pa_cons (pv 0) (pa_cons (pe_ty rfl B.n_bool Bt.bool) pa_nil)))))))), ?_⟩
  rw [show L2.start ["_law_told"] [x] = [some x] from rfl]
  simp only [tRet, tAndV, tNotV, tCB, tCons, tVar, tNil, tC, List.getElem?_cons_zero, Option.some.injEq, exists_eq_left']
  refine isi hx (kit_int d) ?_
  simp only [V.bl.injEq, exists_eq_left']
  rw [isW_of] at q
  refine iteB (fun c => isi hx (kit_bool d) ?_) (fun c => ?_)
  · rw [c] at q
    exact ⟨_, rfl, q⟩
  · rw [c] at q
    exact q
theorem is_pair {H : Hp} {a : Addr} {p q : Int} (h : SqT K H a [.int p, .int q]) : Is K H (.tuple [.int p, .int q]) (.ref a) := by
  simp only [Is, IsAll]
  exact ⟨a, _, rfl, h, _, _, rfl, rfl, _, _, rfl, rfl, rfl⟩
theorem eqv_pair {p q r s : Int} : PyData.eqv (.tuple [.int p, .int q]) (.tuple [.int r, .int s]) = (p == r && q == s) := by
  simp only [PyData.eqv, PyData.eqvAll, Bool.and_true]
theorem eqv_fr {p q : Int} (h : 0 < q) : PyData.eqv (.tuple [.int (Q1.fr p q).1, .int (Q1.fr p q).2]) (.tuple [.int p, .int q]) = decide (Int.gcd p q = 1) := by
  rw [eqv_pair]
  by_cases c : Int.gcd p q = 1
  · rw [Q1.low_fr ⟨h, c⟩, decide_eq_true c]
    simp
  · rw [decide_eq_false c]
    have l := Q1.fr_low (t := p) (Int.ne_of_gt h)
    cases e1 : ((Q1.fr p q).1 == p) with
    | false => rfl
    | true =>
      cases e2 : ((Q1.fr p q).2 == q) with
      | false => rfl
      | true =>
        have e1' : (Q1.fr p q).1 = p := by simpa using e1
        have e2' : (Q1.fr p q).2 = q := by simpa using e2
        rw [e1', e2'] at l
        exact absurd l.cop c
/-- a pair of ints: its bottom is of a size that divides here -/
def smallD : PyData → Prop
  | .tuple [.int _, .int q] => q.natAbs < 2 ^ 1000
  | _ => True
def sp_lis (K : PySem.W.Frag) : Sp := fun vs H Q _ => ∃ x d, vs = [x] ∧ Is K H d x ∧ smallD d ∧ ∀ H', Same H H' → Q (.bl (isNum d)) H'
theorem k__law_is_number (h : Has K mg "_law_is_number" s__law_is_number) (B : Blt mg) (c__law_is_whole : Callee P w K mg base "_law_is_whole" 1 ["_law_told"] (sp_is_whole K)) (c__law_low : Callee P w K mg base "_law_low" 1 ["_law_top", "_law_bottom"] sp_low) :
    Callee P w K mg base "_law_is_number" 2 ["_law_told"] (sp_lis K) := by
  have S : FnScope ["_law_told"] ["_law_told"] (defScope s__law_is_number) := ⟨rfl, rfl, rfl, by decide +kernel, rfl, by decide +kernel, by decide +kernel⟩
  refine h.callee S (fun vs H Q E ⟨_, _, e, _⟩ => by rw [e]; rfl) (fun _ _ _ _ _ _ us hl => match us, hl with | [_], _ => rfl) fun f cdv A outer s H vs Q E hr hq => ?_
  obtain ⟨x, d, rfl, hx, sm, q⟩ := hq
  have hu := hr.units
  refine ⟨_, PSs.nox (pss_cons (ps_if (PW.pt (pw_or (pt_not (pt_val (pe_callB call_isi rfl B.n_isinstance Bt.isinstance (pa_cons (pv 0) (pa_cons (pe_ty rfl B.n_tuple Bt.tuple) pa_nil))))) (pw_or1 (pt_cmpR op_ne (pe_callB call_len_seq rfl B.n_len Bt.len (pa_cons (pv 0) pa_nil)) pe_int (nomark _))))) (pss_one (ps_ret pe_bl)) pss_nil)
      (pss_cons (ps_if (PW.pt (pw_or (pt_not (pt_val (pe_callee c__law_is_whole hr rfl pass_e0 (pa_cons (pe_ix ix_tup (pv 0) pe_int (fun _ _ => rfl)) pa_nil)))) (pw_or1 (pt_not (pt_val (pe_callee c__law_is_whole hr rfl pass_e0 (pa_cons (pe_ix ix_tup (pv 0) pe_int (fun _ _ => rfl)) pa_nil))))))) (pss_one (ps_ret pe_bl)) pss_nil)
      (pss_one (ps_ret (pe_and (pe_cmpR op_ge (pe_ix ix_tup (pv 0) pe_int (fun _ _ => rfl)) pe_int (nomark _)) (pe_one (pe_cmpR (op_eqD hu) (pe_callee c__law_low hr rfl pass_e0 (pa_cons (pe_ix ix_tup (pv 0) pe_int (fun _ _ => rfl)) (pa_cons (pe_ix ix_tup (pv 0) pe_int (fun _ _ => rfl)) pa_nil))) (pv 0) (nomark _)))))))), ?_⟩
  rw [show L2.start ["_law_told"] [x] = [some x] from rfl]
  simp only [tSeq, tNext, tIfS, tIf, tPar, tCons, tCB, tVar, tNil, tC, tOp, tUn, tRet, tRetN, tAsg, gName, gTup, gLst, gCons, gNil, tTest, tB, tAnd, tOr, tNot, tAndV, tOrV, tNotV, tDrop, tTup, tLst, tCall, tCallX, tRaise, rI, rI0, rU, rEq, rNe, rIxT, rIxL, rCat, rEqD, rNeD, rIsi, scal_ii, scal_bb, scal_ss, scal_nn, cx_K, tSl, tPart, tNoPart, gSub, rSetL, tBM, iList, iTup, tFor, List.append_nil, List.getElem?_cons_zero, List.getElem?_cons_succ, Option.some.injEq, exists_eq_left, exists_eq_left', List.cons.injEq, V.int.injEq, V.bl.injEq, V.str.injEq, V.ref.injEq, and_true, true_and, and_assoc, List.set_cons_zero, List.set_cons_succ, List.length_cons, List.length_nil, exists_and_left, reduceCtorEq, decide_false, decide_true, Bool.not_true, Bool.not_false, List.nil_append, List.cons_append]
  refine ⟨by simp [clsV], _, ty_of hx, _, kit_tup d, ?_⟩
  by_cases hd : isTup d = true
  · refine iteFB (by rw [hd]; rfl) ?_
    obtain ⟨xs, rfl⟩ : ∃ xs, d = .tuple xs := by
      cases d with
      | tuple xs => exact ⟨xs, rfl⟩
      | _ => cases hd
    have hx' := hx
    simp only [Is] at hx
    obtain ⟨a, vs, rfl, hs, ha⟩ := hx
    refine ⟨a, rfl, vs, .inr hs, ?_⟩
    have hl : vs.length = xs.length := isAll_len ha
    by_cases h2 : xs.length = 2
    · obtain ⟨d0, d1, rfl⟩ : ∃ d0 d1, xs = [d0, d1] := by
        match xs, h2 with
        | [d0, d1], _ => exact ⟨d0, d1, rfl⟩
      refine iteFB (by rw [hl]; rfl) ?_
      simp only [IsAll] at ha
      obtain ⟨v0, r0, rfl, h0, v1, r1, rfl, h1, rfl⟩ := ha
      refine ⟨a, rfl, _, hs, _, at0, v0, d0, rfl, h0, _, rfl, ?_⟩
      by_cases w0 : isW d0 = true
      · refine iteFB (by rw [w0]; rfl) ⟨a, rfl, _, hs, _, at1, v1, d1, rfl, h1, _, rfl, ?_⟩
        by_cases w1 : isW d1 = true
        · refine iteFB (by rw [w1]; rfl) ?_
          obtain ⟨p, rfl⟩ : ∃ i, d0 = .int i := by
            cases d0 with
            | int i => exact ⟨i, rfl⟩
            | _ => cases w0
          obtain ⟨qq, rfl⟩ : ∃ i, d1 = .int i := by
            cases d1 with
            | int i => exact ⟨i, rfl⟩
            | _ => cases w1
          simp only [Is] at h0 h1
          subst h0 h1
          rw [isNum_pair] at q
          refine ⟨a, rfl, _, hs, _, at1, _, rfl, ?_⟩
          refine iteB (fun c => ?_) (fun c => ?_)
          · have c' : 1 ≤ qq := by simpa using c
            refine ⟨a, rfl, _, hs, _, at0, a, rfl, _, hs, _, at1, p, qq, rfl, by omega, sm, fun t ht => ?_⟩
            have sa : Same H (upd H t (.tup [.int (Q1.fr p qq).1, .int (Q1.fr p qq).2])) := fun b o e => kn e ht
            refine ⟨_, is_pair (SqT.of upd_same), _, Is.same sa _ _ hx', rfl, rfl, ?_⟩
            have := q _ sa
            rw [decide_eq_true c', Bool.true_and] at this
            rw [eqv_fr (by omega)]
            exact this
          · have c' : ¬ 1 ≤ qq := by simpa using c
            rw [decide_eq_false c'] at q
            exact q H (Same.refl _)
        · rw [isNum_two (.inr (by simpa using w1))] at q
          exact iteTB (by simp [w1]) (q H (Same.refl _))
      · rw [isNum_two (.inl (by simpa using w0))] at q
        exact iteTB (by simp [w0]) (by rw [if_pos trivial]; exact q H (Same.refl _))
    · rw [isNum_len xs h2] at q
      refine iteTB ?_ (q H (Same.refl _))
      rw [hl]
      simp
      omega
  · rw [isNum_not (by simpa using hd)] at q
    exact iteTB (by simp [hd]) (by rw [if_pos trivial]; exact q H (Same.refl _))
end
end K1

set_option Elab.async false
set_option linter.all false
set_option maxRecDepth 100000
set_option maxHeartbeats 4000000
namespace K1
open PySem L2 PySem.Spec PyProof.Rows
abbrev s__law_divided : Stmt := top 51
abbrev s__law_made : Stmt := top 52
section
variable {P : Program} {w : World} {K : PySem.W.Frag} {mg : Str → Option Value} {base : Heap}
structure Cls2 (K : PySem.W.Frag) (mg : Str → Option Value) (cN cS : Addr) : Prop where
  m_SwapError : mg "SwapError" = some (.ref cS)
  c_SwapError : CatchC K cS
  sub : PySem.W.subIn K (.ref cN) (.ref cS) = some true
/-- what a try hands back: the refusal's list, or the number's -/
def ErrOut (cN : Addr) (H : Hp) (Q : VK) : Prop := ∀ l e H', H' l = some (.lst [.non, .ref e]) → H' e = some (ExcO e cN none) → Same H H' → Q (.ref l) H'
def NumOut (H : Hp) (Q : VK) (r : Int × Int) : Prop := ∀ l a H', H' l = some (.lst [.ref a, .non]) → H' a = some (.tup [.int r.1, .int r.2]) → Same H H' → Q (.ref l) H'
def sp_divided (K : PySem.W.Frag) (cN : Addr) : Sp := fun vs H Q _ => ∃ x y p q r s, vs = [x, y] ∧ Nm K H x p q ∧ Nm K H y r s ∧ Sz p ∧ Sz q ∧ Sz r ∧ Sz s ∧ Q1.Low p q ∧ Q1.Low r s ∧ (r = 0 → ErrOut cN H Q) ∧ (r ≠ 0 → NumOut H Q (overQ p q r s))
theorem k__law_divided {cN cS : Addr} (h : Has K mg "_law_divided" s__law_divided) (C : Cls2 K mg cN cS) (c_over : Callee P w K mg base "over" 3 ["one", "other"] (sp_over K cN)) : Callee P w K mg base "_law_divided" 4 ["_law_one", "_law_other"] (sp_divided K cN) := by
  have S : FnScope ["_law_one", "_law_other", "_law_error", "_law_told", "caught"] ["_law_one", "_law_other"] (defScope s__law_divided) := ⟨rfl, rfl, rfl, by decide +kernel, rfl, by decide +kernel, by decide +kernel⟩
  refine h.callee S (fun vs H Q E ⟨_, _, _, _, _, _, e, _⟩ => by rw [e]; rfl) (fun _ _ _ _ _ _ us hl => match us, hl with | [_, _], _ => rfl) fun f cdv A outer s H vs Q E hr hq => ?_
  obtain ⟨x, y, p, q, r, u, rfl, hx, hy, z1, z2, z3, z4, p1, p2, k0, k1⟩ := hq
  refine ⟨_, PSs.nox (pss_cons (ps_set (i := 2) S.nd rfl (Or.inl rfl) pe_non)
      (pss_cons (ps_set (i := 3) S.nd rfl (Or.inl rfl) pe_non)
      (pss_cons (ps_try (j := 4) C.c_SwapError rfl rfl (psx_set (i := 3) S.nd rfl (Or.inl rfl) (pex_callee c_over hr rfl rfl (pa_cons (pv 0) (pa_cons (pv 1) pa_nil)))) rfl C.m_SwapError S.nd rfl rfl (fun _ => (pss_one (ps_set (i := 2) S.nd rfl (Or.inl rfl) (pv 4)))))
      (pss_one (ps_ret (pe_lst (pa_cons (pv 3) (pa_cons (pv 2) pa_nil)))))))), ?_⟩
  rw [show L2.start ["_law_one", "_law_other", "_law_error", "_law_told", "caught"] [x, y] = [some x, some y, none, none, none] from rfl]
  simp only [tSeq, tNext, tIfS, tIf, tPar, tCons, tCB, tVar, tNil, tC, tOp, tUn, tRet, tRetN, tAsg, gName, gTup, gLst, gCons, gNil, tTest, tB, tAnd, tOr, tNot, tAndV, tOrV, tNotV, tDrop, tTup, tLst, tCall, tCallX, tRaise, rI, rI0, rU, rEq, rNe, rIxT, rIxL, rCat, rEqD, rNeD, rIsi, scal_ii, scal_bb, scal_ss, scal_nn, cx_K, tSl, tPart, tNoPart, gSub, rSetL, tBM, iList, iTup, tFor, List.append_nil, List.getElem?_cons_zero, List.getElem?_cons_succ, Option.some.injEq, exists_eq_left, exists_eq_left', List.cons.injEq, V.int.injEq, V.bl.injEq, V.str.injEq, V.ref.injEq, and_true, true_and, and_assoc, List.set_cons_zero, List.set_cons_succ, List.length_cons, List.length_nil, exists_and_left, reduceCtorEq, decide_false, decide_true, Bool.not_true, Bool.not_false, List.nil_append, List.cons_append]
  have le2 : 0 + 1 + 1 ≤ sizeLine := by rw [sizeLine_eq]; decide
  refine ⟨x, y, p, q, r, u, rfl, hx, hy, z1, z2, z3, z4, p1, p2, fun z => ⟨cN, rfl, C.sub, fun e he => ?_⟩, fun z a H' sa ha => ?_⟩
  · simp only [endsH, tSeq, tNext, tIfS, tIf, tPar, tCons, tCB, tVar, tNil, tC, tOp, tUn, tRet, tRetN, tAsg, gName, gTup, gLst, gCons, gNil, tTest, tB, tAnd, tOr, tNot, tAndV, tOrV, tNotV, tDrop, tTup, tLst, tCall, tCallX, tRaise, rI, rI0, rU, rEq, rNe, rIxT, rIxL, rCat, rEqD, rNeD, rIsi, scal_ii, scal_bb, scal_ss, scal_nn, cx_K, tSl, tPart, tNoPart, gSub, rSetL, tBM, iList, iTup, tFor, List.append_nil, List.getElem?_cons_zero, List.getElem?_cons_succ, Option.some.injEq, exists_eq_left, exists_eq_left', List.cons.injEq, V.int.injEq, V.bl.injEq, V.str.injEq, V.ref.injEq, and_true, true_and, and_assoc, List.set_cons_zero, List.set_cons_succ, List.length_cons, List.length_nil, exists_and_left, reduceCtorEq, decide_false, decide_true, Bool.not_true, Bool.not_false, List.nil_append, List.cons_append]
    refine ⟨le2, fun l hl => k0 z l e _ upd_same (kn upd_same hl) fun b o eb => kn (kn eb he) hl⟩
  · simp only [tSeq, tNext, tIfS, tIf, tPar, tCons, tCB, tVar, tNil, tC, tOp, tUn, tRet, tRetN, tAsg, gName, gTup, gLst, gCons, gNil, tTest, tB, tAnd, tOr, tNot, tAndV, tOrV, tNotV, tDrop, tTup, tLst, tCall, tCallX, tRaise, rI, rI0, rU, rEq, rNe, rIxT, rIxL, rCat, rEqD, rNeD, rIsi, scal_ii, scal_bb, scal_ss, scal_nn, cx_K, tSl, tPart, tNoPart, gSub, rSetL, tBM, iList, iTup, tFor, List.append_nil, List.getElem?_cons_zero, List.getElem?_cons_succ, Option.some.injEq, exists_eq_left, exists_eq_left', List.cons.injEq, V.int.injEq, V.bl.injEq, V.str.injEq, V.ref.injEq, and_true, true_and, and_assoc, List.set_cons_zero, List.set_cons_succ, List.length_cons, List.length_nil, exists_and_left, reduceCtorEq, decide_false, decide_true, Bool.not_true, Bool.not_false, List.nil_append, List.cons_append]
    exact ⟨le2, fun l hl => k1 z l a _ upd_same (kn ha hl) fun b o eb => kn (sa _ _ eb) hl⟩
def sp_made (cN : Addr) : Sp := fun vs H Q _ => ∃ t b : Int, vs = [.int t, .int b] ∧ b.natAbs < 2 ^ 1000 ∧ (b = 0 → ErrOut cN H Q) ∧ (b ≠ 0 → NumOut H Q (Q1.fr t b))
theorem k__law_made {cN cS : Addr} (h : Has K mg "_law_made" s__law_made) (C : Cls2 K mg cN cS) (c_fraction : Callee P w K mg base "fraction" 2 ["top", "bottom"] (sp_fraction cN)) : Callee P w K mg base "_law_made" 3 ["_law_top", "_law_bottom"] (sp_made cN) := by
  have S : FnScope ["_law_top", "_law_bottom", "_law_error", "_law_told", "caught"] ["_law_top", "_law_bottom"] (defScope s__law_made) := ⟨rfl, rfl, rfl, by decide +kernel, rfl, by decide +kernel, by decide +kernel⟩
  refine h.callee S (fun vs H Q E ⟨_, _, e, _⟩ => by rw [e]; rfl) (fun _ _ _ _ _ _ us hl => match us, hl with | [_, _], _ => rfl) fun f cdv A outer s H vs Q E hr hq => ?_
  obtain ⟨t, b, rfl, hb, k0, k1⟩ := hq
  refine ⟨_, PSs.nox (pss_cons (ps_set (i := 2) S.nd rfl (Or.inl rfl) pe_non)
      (pss_cons (ps_set (i := 3) S.nd rfl (Or.inl rfl) pe_non)
      (pss_cons (ps_try (j := 4) C.c_SwapError rfl rfl (psx_set (i := 3) S.nd rfl (Or.inl rfl) (pex_callee c_fraction hr rfl rfl (pa_cons (pv 0) (pa_cons (pv 1) pa_nil)))) rfl C.m_SwapError S.nd rfl rfl (fun _ => (pss_one (ps_set (i := 2) S.nd rfl (Or.inl rfl) (pv 4)))))
      (pss_one (ps_ret (pe_lst (pa_cons (pv 3) (pa_cons (pv 2) pa_nil)))))))), ?_⟩
  rw [show L2.start ["_law_top", "_law_bottom", "_law_error", "_law_told", "caught"] [V.int t, V.int b] = [some (.int t), some (.int b), none, none, none] from rfl]
  simp only [tSeq, tNext, tIfS, tIf, tPar, tCons, tCB, tVar, tNil, tC, tOp, tUn, tRet, tRetN, tAsg, gName, gTup, gLst, gCons, gNil, tTest, tB, tAnd, tOr, tNot, tAndV, tOrV, tNotV, tDrop, tTup, tLst, tCall, tCallX, tRaise, rI, rI0, rU, rEq, rNe, rIxT, rIxL, rCat, rEqD, rNeD, rIsi, scal_ii, scal_bb, scal_ss, scal_nn, cx_K, tSl, tPart, tNoPart, gSub, rSetL, tBM, iList, iTup, tFor, List.append_nil, List.getElem?_cons_zero, List.getElem?_cons_succ, Option.some.injEq, exists_eq_left, exists_eq_left', List.cons.injEq, V.int.injEq, V.bl.injEq, V.str.injEq, V.ref.injEq, and_true, true_and, and_assoc, List.set_cons_zero, List.set_cons_succ, List.length_cons, List.length_nil, exists_and_left, reduceCtorEq, decide_false, decide_true, Bool.not_true, Bool.not_false, List.nil_append, List.cons_append]
  have le2 : 0 + 1 + 1 ≤ sizeLine := by rw [sizeLine_eq]; decide
  refine ⟨t, b, rfl, hb, fun z => ⟨cN, rfl, C.sub, fun e he => ?_⟩, fun z a ha => ?_⟩
  · simp only [endsH, tSeq, tNext, tIfS, tIf, tPar, tCons, tCB, tVar, tNil, tC, tOp, tUn, tRet, tRetN, tAsg, gName, gTup, gLst, gCons, gNil, tTest, tB, tAnd, tOr, tNot, tAndV, tOrV, tNotV, tDrop, tTup, tLst, tCall, tCallX, tRaise, rI, rI0, rU, rEq, rNe, rIxT, rIxL, rCat, rEqD, rNeD, rIsi, scal_ii, scal_bb, scal_ss, scal_nn, cx_K, tSl, tPart, tNoPart, gSub, rSetL, tBM, iList, iTup, tFor, List.append_nil, List.getElem?_cons_zero, List.getElem?_cons_succ, Option.some.injEq, exists_eq_left, exists_eq_left', List.cons.injEq, V.int.injEq, V.bl.injEq, V.str.injEq, V.ref.injEq, and_true, true_and, and_assoc, List.set_cons_zero, List.set_cons_succ, List.length_cons, List.length_nil, exists_and_left, reduceCtorEq, decide_false, decide_true, Bool.not_true, Bool.not_false, List.nil_append, List.cons_append]
    refine ⟨le2, fun l hl => k0 z l e _ upd_same (kn upd_same hl) fun b o eb => kn (kn eb he) hl⟩
  · simp only [tSeq, tNext, tIfS, tIf, tPar, tCons, tCB, tVar, tNil, tC, tOp, tUn, tRet, tRetN, tAsg, gName, gTup, gLst, gCons, gNil, tTest, tB, tAnd, tOr, tNot, tAndV, tOrV, tNotV, tDrop, tTup, tLst, tCall, tCallX, tRaise, rI, rI0, rU, rEq, rNe, rIxT, rIxL, rCat, rEqD, rNeD, rIsi, scal_ii, scal_bb, scal_ss, scal_nn, cx_K, tSl, tPart, tNoPart, gSub, rSetL, tBM, iList, iTup, tFor, List.append_nil, List.getElem?_cons_zero, List.getElem?_cons_succ, Option.some.injEq, exists_eq_left, exists_eq_left', List.cons.injEq, V.int.injEq, V.bl.injEq, V.str.injEq, V.ref.injEq, and_true, true_and, and_assoc, List.set_cons_zero, List.set_cons_succ, List.length_cons, List.length_nil, exists_and_left, reduceCtorEq, decide_false, decide_true, Bool.not_true, Bool.not_false, List.nil_append, List.cons_append]
    exact ⟨le2, fun l hl => k1 z l a _ upd_same (kn upd_same hl) fun b o eb => kn (kn eb ha) hl⟩
end
end K1

set_option Elab.async false
set_option linter.all false
set_option maxRecDepth 100000
set_option maxHeartbeats 4000000
namespace K1
open PySem L2 PySem.Spec PyProof.Rows
abbrev s__law_class : Stmt := top 50
structure Adr where
  aBroken : Addr
  aNoCount : Addr
  aNoDeed : Addr
  aNoLeast : Addr
  aNoLine : Addr
  aNoMatch : Addr
  aNoName : Addr
  aNoNumber : Addr
  aNoPair : Addr
  aNoPlace : Addr
  aNoRow : Addr
  aNoShelf : Addr
  aNoSquare : Addr
  aNoSum : Addr
  aNoText : Addr
  aNoTree : Addr
  aNoWord : Addr
  aNotActing : Addr
  aNotBare : Addr
  aNotEaten : Addr
  aNotFree : Addr
  aNotGap : Addr
  aNotKept : Addr
  aNotNought : Addr
  aNotOne : Addr
  aTooDeep : Addr
  aTooLong : Addr
  aSwapError : Addr
structure ClsA (K : PySem.W.Frag) (mg : Str → Option Value) (t : Adr) : Prop where
  x_NoNumber : PySem.W.excIn K t.aNoNumber bmVal "Exception.__new__" = true ∨ PySem.W.excIn K t.aNoNumber bmVal "ValueError.__new__" = true
  c_SwapError : CatchC K t.aSwapError
  sub : PySem.W.subIn K (.ref t.aNoNumber) (.ref t.aSwapError) = some true
  xk : ExcK K t.aNoNumber
  kV : PySem.W.kitOne K (.ref t.aNoNumber) (.type "ValueError") = some true
  m_Broken : mg "Broken" = some (.ref t.aBroken)
  k_Broken : PySem.W.kitOne K (.ref t.aNoNumber) (.ref t.aBroken) = some false
  m_NoCount : mg "NoCount" = some (.ref t.aNoCount)
  k_NoCount : PySem.W.kitOne K (.ref t.aNoNumber) (.ref t.aNoCount) = some false
  m_NoDeed : mg "NoDeed" = some (.ref t.aNoDeed)
  k_NoDeed : PySem.W.kitOne K (.ref t.aNoNumber) (.ref t.aNoDeed) = some false
  m_NoLeast : mg "NoLeast" = some (.ref t.aNoLeast)
  k_NoLeast : PySem.W.kitOne K (.ref t.aNoNumber) (.ref t.aNoLeast) = some false
  m_NoLine : mg "NoLine" = some (.ref t.aNoLine)
  k_NoLine : PySem.W.kitOne K (.ref t.aNoNumber) (.ref t.aNoLine) = some false
  m_NoMatch : mg "NoMatch" = some (.ref t.aNoMatch)
  k_NoMatch : PySem.W.kitOne K (.ref t.aNoNumber) (.ref t.aNoMatch) = some false
  m_NoName : mg "NoName" = some (.ref t.aNoName)
  k_NoName : PySem.W.kitOne K (.ref t.aNoNumber) (.ref t.aNoName) = some false
  m_NoNumber : mg "NoNumber" = some (.ref t.aNoNumber)
  k_NoNumber : PySem.W.kitOne K (.ref t.aNoNumber) (.ref t.aNoNumber) = some true
  m_NoPair : mg "NoPair" = some (.ref t.aNoPair)
  k_NoPair : PySem.W.kitOne K (.ref t.aNoNumber) (.ref t.aNoPair) = some false
  m_NoPlace : mg "NoPlace" = some (.ref t.aNoPlace)
  k_NoPlace : PySem.W.kitOne K (.ref t.aNoNumber) (.ref t.aNoPlace) = some false
  m_NoRow : mg "NoRow" = some (.ref t.aNoRow)
  k_NoRow : PySem.W.kitOne K (.ref t.aNoNumber) (.ref t.aNoRow) = some false
  m_NoShelf : mg "NoShelf" = some (.ref t.aNoShelf)
  k_NoShelf : PySem.W.kitOne K (.ref t.aNoNumber) (.ref t.aNoShelf) = some false
  m_NoSquare : mg "NoSquare" = some (.ref t.aNoSquare)
  k_NoSquare : PySem.W.kitOne K (.ref t.aNoNumber) (.ref t.aNoSquare) = some false
  m_NoSum : mg "NoSum" = some (.ref t.aNoSum)
  k_NoSum : PySem.W.kitOne K (.ref t.aNoNumber) (.ref t.aNoSum) = some false
  m_NoText : mg "NoText" = some (.ref t.aNoText)
  k_NoText : PySem.W.kitOne K (.ref t.aNoNumber) (.ref t.aNoText) = some false
  m_NoTree : mg "NoTree" = some (.ref t.aNoTree)
  k_NoTree : PySem.W.kitOne K (.ref t.aNoNumber) (.ref t.aNoTree) = some false
  m_NoWord : mg "NoWord" = some (.ref t.aNoWord)
  k_NoWord : PySem.W.kitOne K (.ref t.aNoNumber) (.ref t.aNoWord) = some false
  m_NotActing : mg "NotActing" = some (.ref t.aNotActing)
  k_NotActing : PySem.W.kitOne K (.ref t.aNoNumber) (.ref t.aNotActing) = some false
  m_NotBare : mg "NotBare" = some (.ref t.aNotBare)
  k_NotBare : PySem.W.kitOne K (.ref t.aNoNumber) (.ref t.aNotBare) = some false
  m_NotEaten : mg "NotEaten" = some (.ref t.aNotEaten)
  k_NotEaten : PySem.W.kitOne K (.ref t.aNoNumber) (.ref t.aNotEaten) = some false
  m_NotFree : mg "NotFree" = some (.ref t.aNotFree)
  k_NotFree : PySem.W.kitOne K (.ref t.aNoNumber) (.ref t.aNotFree) = some false
  m_NotGap : mg "NotGap" = some (.ref t.aNotGap)
  k_NotGap : PySem.W.kitOne K (.ref t.aNoNumber) (.ref t.aNotGap) = some false
  m_NotKept : mg "NotKept" = some (.ref t.aNotKept)
  k_NotKept : PySem.W.kitOne K (.ref t.aNoNumber) (.ref t.aNotKept) = some false
  m_NotNought : mg "NotNought" = some (.ref t.aNotNought)
  k_NotNought : PySem.W.kitOne K (.ref t.aNoNumber) (.ref t.aNotNought) = some false
  m_NotOne : mg "NotOne" = some (.ref t.aNotOne)
  k_NotOne : PySem.W.kitOne K (.ref t.aNoNumber) (.ref t.aNotOne) = some false
  m_TooDeep : mg "TooDeep" = some (.ref t.aTooDeep)
  k_TooDeep : PySem.W.kitOne K (.ref t.aNoNumber) (.ref t.aTooDeep) = some false
  m_TooLong : mg "TooLong" = some (.ref t.aTooLong)
  k_TooLong : PySem.W.kitOne K (.ref t.aNoNumber) (.ref t.aTooLong) = some false
  m_SwapError : mg "SwapError" = some (.ref t.aSwapError)
  k_SwapError : PySem.W.kitOne K (.ref t.aNoNumber) (.ref t.aSwapError) = some true
section
variable {P : Program} {w : World} {K : PySem.W.Frag} {mg : Str → Option Value} {base : Heap}
theorem pe_cls {X : Cx} {x : Str} {a : Addr} {pos : Pos} (hg : Gl X x) (hm : X.mg x = some (.ref a)) (hd : (x == ("__debug__" : Str)) = false := by decide) : PE X (.Name x pos) (tC (.ref a)) := pe_glob hg hm rfl hd
def sp_class (cN : Addr) : Sp := fun vs H Q _ => ∃ e, vs = [.ref e] ∧ H e = some (ExcO e cN none) ∧ ∀ H', Same H H' → Q (.str "NoNumber") H'
structure BltV (mg : Str → Option Value) : Prop extends Blt mg where
  n_ValueError : mg "ValueError" = none
theorem k__law_class {t : Adr} (h : Has K mg "_law_class" s__law_class) (B : BltV mg) (C : ClsA K mg t) : Callee P w K mg base "_law_class" 1 ["_law_error"] (sp_class t.aNoNumber) := by
  have S : FnScope ["_law_error", "_law_got", "_law_words"] ["_law_error"] (defScope s__law_class) := ⟨rfl, rfl, rfl, by decide +kernel, rfl, by decide +kernel, by decide +kernel⟩
  refine h.callee S (fun vs H Q E ⟨_, e, _⟩ => by rw [e]; rfl) (fun _ _ _ _ _ _ us hl => match us, hl with | [_], _ => rfl) fun f cdv A outer s H vs Q E hr hq => ?_
  obtain ⟨e, rfl, he, q⟩ := hq
  have xk := C.xk
  refine ⟨_, PSs.nox (pss_cons (ps_set (i := 1) S.nd rfl (Or.inl rfl) (pe_lst (pa_cons (pe_callB call_isiX rfl B.n_isinstance Bt.isinstance (pa_cons (pv 0) (pa_cons (pe_cls rfl C.m_Broken) pa_nil))) (pa_cons (pe_callB call_isiX rfl B.n_isinstance Bt.isinstance (pa_cons (pv 0) (pa_cons (pe_cls rfl C.m_NoCount) pa_nil))) (pa_cons (pe_callB call_isiX rfl B.n_isinstance Bt.isinstance (pa_cons (pv 0) (pa_cons (pe_cls rfl C.m_NoDeed) pa_nil))) pa_nil)))))
      (pss_cons (ps_set (i := 1) S.nd rfl (Or.inl rfl) (pe_op op_cat (pv 1) (pe_lst (pa_cons (pe_callB call_isiX rfl B.n_isinstance Bt.isinstance (pa_cons (pv 0) (pa_cons (pe_cls rfl C.m_NoLeast) pa_nil))) (pa_cons (pe_callB call_isiX rfl B.n_isinstance Bt.isinstance (pa_cons (pv 0) (pa_cons (pe_cls rfl C.m_NoLine) pa_nil))) (pa_cons (pe_callB call_isiX rfl B.n_isinstance Bt.isinstance (pa_cons (pv 0) (pa_cons (pe_cls rfl C.m_NoMatch) pa_nil))) pa_nil))))))
      (pss_cons (ps_set (i := 1) S.nd rfl (Or.inl rfl) (pe_op op_cat (pv 1) (pe_lst (pa_cons (pe_callB call_isiX rfl B.n_isinstance Bt.isinstance (pa_cons (pv 0) (pa_cons (pe_cls rfl C.m_NoName) pa_nil))) (pa_cons (pe_callB call_isiX rfl B.n_isinstance Bt.isinstance (pa_cons (pv 0) (pa_cons (pe_cls rfl C.m_NoNumber) pa_nil))) (pa_cons (pe_callB call_isiX rfl B.n_isinstance Bt.isinstance (pa_cons (pv 0) (pa_cons (pe_cls rfl C.m_NoPair) pa_nil))) pa_nil))))))
      (pss_cons (ps_set (i := 1) S.nd rfl (Or.inl rfl) (pe_op op_cat (pv 1) (pe_lst (pa_cons (pe_callB call_isiX rfl B.n_isinstance Bt.isinstance (pa_cons (pv 0) (pa_cons (pe_cls rfl C.m_NoPlace) pa_nil))) (pa_cons (pe_callB call_isiX rfl B.n_isinstance Bt.isinstance (pa_cons (pv 0) (pa_cons (pe_cls rfl C.m_NoRow) pa_nil))) (pa_cons (pe_callB call_isiX rfl B.n_isinstance Bt.isinstance (pa_cons (pv 0) (pa_cons (pe_cls rfl C.m_NoShelf) pa_nil))) pa_nil))))))
      (pss_cons (ps_set (i := 1) S.nd rfl (Or.inl rfl) (pe_op op_cat (pv 1) (pe_lst (pa_cons (pe_callB call_isiX rfl B.n_isinstance Bt.isinstance (pa_cons (pv 0) (pa_cons (pe_cls rfl C.m_NoSquare) pa_nil))) (pa_cons (pe_callB call_isiX rfl B.n_isinstance Bt.isinstance (pa_cons (pv 0) (pa_cons (pe_cls rfl C.m_NoSum) pa_nil))) (pa_cons (pe_callB call_isiX rfl B.n_isinstance Bt.isinstance (pa_cons (pv 0) (pa_cons (pe_cls rfl C.m_NoText) pa_nil))) pa_nil))))))
      (pss_cons (ps_set (i := 1) S.nd rfl (Or.inl rfl) (pe_op op_cat (pv 1) (pe_lst (pa_cons (pe_callB call_isiX rfl B.n_isinstance Bt.isinstance (pa_cons (pv 0) (pa_cons (pe_cls rfl C.m_NoTree) pa_nil))) (pa_cons (pe_callB call_isiX rfl B.n_isinstance Bt.isinstance (pa_cons (pv 0) (pa_cons (pe_cls rfl C.m_NoWord) pa_nil))) (pa_cons (pe_callB call_isiX rfl B.n_isinstance Bt.isinstance (pa_cons (pv 0) (pa_cons (pe_cls rfl C.m_NotActing) pa_nil))) pa_nil))))))
      (pss_cons (ps_set (i := 1) S.nd rfl (Or.inl rfl) (pe_op op_cat (pv 1) (pe_lst (pa_cons (pe_callB call_isiX rfl B.n_isinstance Bt.isinstance (pa_cons (pv 0) (pa_cons (pe_cls rfl C.m_NotBare) pa_nil))) (pa_cons (pe_callB call_isiX rfl B.n_isinstance Bt.isinstance (pa_cons (pv 0) (pa_cons (pe_cls rfl C.m_NotEaten) pa_nil))) (pa_cons (pe_callB call_isiX rfl B.n_isinstance Bt.isinstance (pa_cons (pv 0) (pa_cons (pe_cls rfl C.m_NotFree) pa_nil))) pa_nil))))))
      (pss_cons (ps_set (i := 1) S.nd rfl (Or.inl rfl) (pe_op op_cat (pv 1) (pe_lst (pa_cons (pe_callB call_isiX rfl B.n_isinstance Bt.isinstance (pa_cons (pv 0) (pa_cons (pe_cls rfl C.m_NotGap) pa_nil))) (pa_cons (pe_callB call_isiX rfl B.n_isinstance Bt.isinstance (pa_cons (pv 0) (pa_cons (pe_cls rfl C.m_NotKept) pa_nil))) (pa_cons (pe_callB call_isiX rfl B.n_isinstance Bt.isinstance (pa_cons (pv 0) (pa_cons (pe_cls rfl C.m_NotNought) pa_nil))) pa_nil))))))
      (pss_cons (ps_set (i := 1) S.nd rfl (Or.inl rfl) (pe_op op_cat (pv 1) (pe_lst (pa_cons (pe_callB call_isiX rfl B.n_isinstance Bt.isinstance (pa_cons (pv 0) (pa_cons (pe_cls rfl C.m_NotOne) pa_nil))) (pa_cons (pe_callB call_isiX rfl B.n_isinstance Bt.isinstance (pa_cons (pv 0) (pa_cons (pe_cls rfl C.m_TooDeep) pa_nil))) (pa_cons (pe_callB call_isiX rfl B.n_isinstance Bt.isinstance (pa_cons (pv 0) (pa_cons (pe_cls rfl C.m_TooLong) pa_nil))) pa_nil))))))
      (pss_cons (ps_if (PW.pt (pw_or (pt_not (pt_val (pe_callB call_isiX rfl B.n_isinstance Bt.isinstance (pa_cons (pv 0) (pa_cons (pe_cls rfl C.m_SwapError) pa_nil))))) (pw_or (pt_not (pt_val (pe_callB call_isiX rfl B.n_isinstance Bt.isinstance (pa_cons (pv 0) (pa_cons (pe_ty rfl B.n_ValueError Bt.ValueError) pa_nil))))) (pw_or1 (pt_cmpR op_ne (pe_callB (call_sum rfl) rfl B.n_sum Bt.sum (pa_cons (pe_compF (defScope s__law_class) ["_law_error", "_law_got", "_law_words"] ["_law_one"] [] ["_law_one"] rfl rfl rfl rfl (by decide +kernel) rfl (pi_list (pv 1)) (fun _ _ _ _ => (pg_name (i := 0) (nd (M := ["_law_one"]) (by decide +kernel)) rfl (Or.inl rfl))) (gonly_name (by decide)) (fun _ _ _ _ => pts_nil) (fun _ _ _ _ => (pe_callTy call_int1 rfl B.n_int Bt.int (pa_cons (pv 0) pa_nil)))) pa_nil)) pe_int (nomark _)))))) (pss_one (ps_ret pe_str)) pss_nil)
      (pss_cons (ps_set (i := 2) S.nd rfl (Or.inl rfl) (pe_lst (pa_cons pe_str (pa_cons pe_str (pa_cons pe_str (pa_cons pe_str (pa_cons pe_str (pa_cons pe_str (pa_cons pe_str (pa_cons pe_str (pa_cons pe_str pa_nil)))))))))))
      (pss_cons (ps_set (i := 2) S.nd rfl (Or.inl rfl) (pe_op op_cat (pv 2) (pe_lst (pa_cons pe_str (pa_cons pe_str (pa_cons pe_str (pa_cons pe_str (pa_cons pe_str (pa_cons pe_str (pa_cons pe_str (pa_cons pe_str (pa_cons pe_str pa_nil))))))))))))
      (pss_cons (ps_set (i := 2) S.nd rfl (Or.inl rfl) (pe_op op_cat (pv 2) (pe_lst (pa_cons pe_str (pa_cons pe_str (pa_cons pe_str (pa_cons pe_str (pa_cons pe_str (pa_cons pe_str (pa_cons pe_str (pa_cons pe_str pa_nil)))))))))))
      (pss_one (ps_ret (pe_ix ix_list (pe_op op_cat (pv 2) (pe_lst (pa_cons pe_str pa_nil))) (pe_bm PySem.F.plainAttrs_list PySem.F.slot_list_index PySem.F.type_list_index mt_index (pv 1) (pa_cons pe_bl pa_nil)) (fun _ _ => rfl))))))))))))))))), ?_⟩
  rw [show L2.start ["_law_error", "_law_got", "_law_words"] [V.ref e] = [some (.ref e), none, none] from rfl]
  simp only [nox_K]
  refine cls_set he xk C.k_Broken C.k_NoCount C.k_NoDeed fun l1 H1 s1 h1 => ?_
  refine cls_cat h1 (by decide) (s1 _ _ he) xk C.k_NoLeast C.k_NoLine C.k_NoMatch fun l2 H2 r2 h2 => ?_
  have s2 := s1.trans r2
  refine cls_cat h2 (by decide) (s2 _ _ he) xk C.k_NoName C.k_NoNumber C.k_NoPair fun l3 H3 r3 h3 => ?_
  have s3 := s2.trans r3
  refine cls_cat h3 (by decide) (s3 _ _ he) xk C.k_NoPlace C.k_NoRow C.k_NoShelf fun l4 H4 r4 h4 => ?_
  have s4 := s3.trans r4
  refine cls_cat h4 (by decide) (s4 _ _ he) xk C.k_NoSquare C.k_NoSum C.k_NoText fun l5 H5 r5 h5 => ?_
  have s5 := s4.trans r5
  refine cls_cat h5 (by decide) (s5 _ _ he) xk C.k_NoTree C.k_NoWord C.k_NotActing fun l6 H6 r6 h6 => ?_
  have s6 := s5.trans r6
  refine cls_cat h6 (by decide) (s6 _ _ he) xk C.k_NotBare C.k_NotEaten C.k_NotFree fun l7 H7 r7 h7 => ?_
  have s7 := s6.trans r7
  refine cls_cat h7 (by decide) (s7 _ _ he) xk C.k_NotGap C.k_NotKept C.k_NotNought fun l8 H8 r8 h8 => ?_
  have s8 := s7.trans r8
  refine cls_cat h8 (by decide) (s8 _ _ he) xk C.k_NotOne C.k_TooDeep C.k_TooLong fun l9 H9 r9 h9 => ?_
  have s9 := s8.trans r9
  simp only [List.cons_append, List.nil_append] at h9
  refine seq_abs (fun σ' H' => σ' = [some (.ref e), some (.ref l9), none] ∧ Same H9 H') (fun R hR => ?_) ?_
  · simp only [tSeq, tNext, tIfS, tIf, tPar, tCons, tCB, tVar, tNil, tC, tOp, tUn, tRet, tRetN, tAsg, gName, gTup, gLst, gCons, gNil, tTest, tB, tAnd, tOr, tNot, tAndV, tOrV, tNotV, tDrop, tTup, tLst, tCall, tCallX, tRaise, rI, rI0, rU, rEq, rNe, rIxT, rIxL, rCat, rEqD, rNeD, rIsi, scal_ii, scal_bb, scal_ss, scal_nn, cx_K, tSl, tPart, tNoPart, gSub, rSetL, tBM, iList, iTup, tFor, List.append_nil, List.getElem?_cons_zero, List.getElem?_cons_succ, Option.some.injEq, exists_eq_left, exists_eq_left', List.cons.injEq, V.int.injEq, V.bl.injEq, V.str.injEq, V.ref.injEq, and_true, true_and, and_assoc, List.set_cons_zero, List.set_cons_succ, List.length_cons, List.length_nil, exists_and_left, reduceCtorEq, decide_false, decide_true, Bool.not_true, Bool.not_false, List.nil_append, List.cons_append]
    refine isiX (s9 _ _ he) xk C.k_SwapError ⟨_, rfl, iteFB rfl (isiXT (s9 _ _ he) xk C.kV ⟨_, rfl, iteFB rfl ?_⟩)⟩
    refine comp_map (a := l9) (fun x => match x with | .bl k => .int (if k = true then 1 else 0) | _ => x) (fun R r => ⟨_, rfl, r⟩) (SqL.of h9) (by rw [sizeLine_eq]; decide) ?_ ?_ ?_
    · intro σ H Q1 Q2 hm h1
      simp only [tSeq, tNext, tIfS, tIf, tPar, tCons, tCB, tVar, tNil, tC, tOp, tUn, tRet, tRetN, tAsg, gName, gTup, gLst, gCons, gNil, tTest, tB, tAnd, tOr, tNot, tAndV, tOrV, tNotV, tDrop, tTup, tLst, tCall, tCallX, tRaise, rI, rI0, rU, rEq, rNe, rIxT, rIxL, rCat, rEqD, rNeD, rIsi, scal_ii, scal_bb, scal_ss, scal_nn, cx_K, tSl, tPart, tNoPart, gSub, rSetL, tBM, iList, iTup, tFor, List.append_nil, List.getElem?_cons_zero, List.getElem?_cons_succ, Option.some.injEq, exists_eq_left, exists_eq_left', List.cons.injEq, V.int.injEq, V.bl.injEq, V.str.injEq, V.ref.injEq, and_true, true_and, and_assoc, List.set_cons_zero, List.set_cons_succ, List.length_cons, List.length_nil, exists_and_left, reduceCtorEq, decide_false, decide_true, Bool.not_true, Bool.not_false, List.nil_append, List.cons_append] at h1 ⊢
      obtain ⟨v, e, r⟩ := h1
      refine ⟨v, e, ?_⟩
      rcases r with ⟨i, e2, r⟩ | ⟨i, e2, r⟩
      · exact .inl ⟨i, e2, hm _ _ r⟩
      · exact .inr ⟨i, e2, hm _ _ r⟩
    · intro x hx H' R' sx r
      have : ∃ k, x = .bl k := by
        simp only [List.mem_cons, List.not_mem_nil, or_false] at hx
        rcases hx with h | h | h | h | h | h | h | h | h | h | h | h | h | h | h | h | h | h | h | h | h | h | h | h | h | h | h <;> exact ⟨_, h⟩
      obtain ⟨k, rfl⟩ := this
      exact ⟨_, rfl, .inr ⟨k, rfl, r⟩⟩
    · intro l hl
      exact ⟨l, rfl, [0, 0, 0, 0, 0, 0, 0, 1, 0, 0, 0, 0, 0, 0, 0, 0, 0, 0, 0, 0, 0, 0, 0, 0, 0, 0, 0], SqL.of upd_same, iteFB (by decide) (hR _ _ ⟨rfl, Same.upd hl⟩)⟩
  · rintro σ' H10 ⟨rfl, s10⟩
    refine str_set (ws := ["Broken", "NoCount", "NoDeed", "NoLeast", "NoLine", "NoMatch", "NoName", "NoNumber", "NoPair"]) (by decide) fun m1 H11 s11 g1 => ?_
    refine str_cat g1 (by decide) (ws := ["NoPlace", "NoRow", "NoShelf", "NoSquare", "NoSum", "NoText", "NoTree", "NoWord", "NotActing"]) (by decide) fun m2 H12 s12 g2 => ?_
    refine str_cat g2 (by decide) (ws := ["NotBare", "NotEaten", "NotFree", "NotGap", "NotKept", "NotNought", "NotOne", "TooDeep"]) (by decide) fun m3 H13 s13 g3 => ?_
    simp only [tSeq, tNext, tIfS, tIf, tPar, tCons, tCB, tVar, tNil, tC, tOp, tUn, tRet, tRetN, tAsg, gName, gTup, gLst, gCons, gNil, tTest, tB, tAnd, tOr, tNot, tAndV, tOrV, tNotV, tDrop, tTup, tLst, tCall, tCallX, tRaise, rI, rI0, rU, rEq, rNe, rIxT, rIxL, rCat, rEqD, rNeD, rIsi, scal_ii, scal_bb, scal_ss, scal_nn, cx_K, tSl, tPart, tNoPart, gSub, rSetL, tBM, iList, iTup, tFor, List.append_nil, List.getElem?_cons_zero, List.getElem?_cons_succ, Option.some.injEq, exists_eq_left, exists_eq_left', List.cons.injEq, V.int.injEq, V.bl.injEq, V.str.injEq, V.ref.injEq, and_true, true_and, and_assoc, List.set_cons_zero, List.set_cons_succ, List.length_cons, List.length_nil, exists_and_left, reduceCtorEq, decide_false, decide_true, Bool.not_true, Bool.not_false, List.nil_append, List.cons_append]
    have t13 := ((s10.trans s11).trans s12).trans s13
    refine ⟨by rw [sizeLine_eq]; decide, fun p hp => ⟨_, Same.upd hp _ _ g3, _, upd_same, by rw [sizeLine_eq]; decide, fun p1 hp1 => ?_⟩⟩
    have sf := fun o => (t13.trans (Same.upd (o := .lst [.str "TooLong"]) hp)).trans (Same.upd (o := o) hp1)
    have h14 := fun o => sf o _ _ h9
    refine ⟨.inl ⟨rfl, _, SqL.of (h14 _)⟩, l9, _, .bl true, .bl true, 7, rfl, rfl, SqL.of (h14 _), rfl, rfl, rfl, rfl, ?_, ⟨_, _, rfl, SqL.of upd_same, _, rfl, q _ (s9.trans (sf _))⟩⟩
    intro m w hm hw
    have : m = 0 ∨ m = 1 ∨ m = 2 ∨ m = 3 ∨ m = 4 ∨ m = 5 ∨ m = 6 := by omega
    rcases this with rfl | rfl | rfl | rfl | rfl | rfl | rfl <;> (cases hw; rfl)
end
end K1

set_option Elab.async false
set_option linter.all false
set_option maxRecDepth 100000
set_option maxHeartbeats 4000000
namespace K1
open PySem L2 PySem.Spec PyProof.Rows
section
variable {P : Program} {w : World} {K : PySem.W.Frag} {mg : Str → Option Value} {base : Heap}
theorem Pu.ne {p a : Addr} {H : Hp} {c : Nat} (u : Pu H p c) (h : H a = none) : a ≠ p := by
  obtain ⟨n, m, k, hp, _⟩ := u
  intro z
  rw [z, hp] at h
  cases h
def sp_thing (K : PySem.W.Frag) : Sp := fun vs H Q _ => ∃ (p : Addr) (c : Nat), vs = [.ref p] ∧ Pu H p c ∧ c ≤ 800 ∧ ∀ v H' d, Is K H' d v → smallD d → But p H H' → Q v H'
theorem k__law_thing (h : Has K mg "_law_thing" s__law_thing) (c__law_take : Callee P w K mg base "_law_take" 2 ["_law_purse_here", "_law_many"] sp_take) (c__law_number : Callee P w K mg base "_law_number" 3 ["_law_purse_here"] (sp_number K)) :
    Callee P w K mg base "_law_thing" 4 ["_law_purse_here"] (sp_thing K) := by
  have S : FnScope ["_law_purse_here", "_law_way", "_law_top", "_law_bottom"] ["_law_purse_here"] (defScope s__law_thing) := ⟨rfl, rfl, rfl, by decide +kernel, rfl, by decide +kernel, by decide +kernel⟩
  refine h.callee S (fun vs H Q E ⟨_, _, e, _⟩ => by rw [e]; rfl) (fun _ _ _ _ _ _ us hl => match us, hl with | [_], _ => rfl) fun f cdv A outer s H vs Q E hr hq => ?_
  obtain ⟨p, c, rfl, hu, hc, q⟩ := hq
  refine ⟨_, PSs.nox (pss_cons (ps_set (i := 1) S.nd rfl (Or.inl rfl) (pe_callee c__law_take hr rfl pass_e0 (pa_cons (pv 0) (pa_cons pe_int pa_nil))))
      (pss_cons (ps_set (i := 2) S.nd rfl (Or.inl rfl) (pe_op op_sub (pe_callee c__law_take hr rfl pass_e0 (pa_cons (pv 0) (pa_cons pe_int pa_nil))) pe_int))
      (pss_cons (ps_set (i := 3) S.nd rfl (Or.inl rfl) (pe_op op_sub (pe_callee c__law_take hr rfl pass_e0 (pa_cons (pv 0) (pa_cons pe_int pa_nil))) pe_int))
      (pss_cons (ps_if (pt_cmpR op_lt (pv 1) pe_int (nomark _)) (pss_one (ps_ret (pe_tup (pa_cons (pv 2) (pa_cons (pv 3) pa_nil))))) pss_nil)
      (pss_cons (ps_if (pt_cmpR op_eq (pv 1) pe_int (nomark _)) (pss_one (ps_ret (pe_tup (pa_cons (pe_op op_add (pe_op op_mulB (pv 2) (pe_op op_pow pe_int pe_int)) pe_int) (pa_cons (pe_op op_add pe_int (pe_callee c__law_take hr rfl pass_e0 (pa_cons (pv 0) (pa_cons (pe_op op_pow pe_int pe_int) pa_nil)))) pa_nil))))) pss_nil)
      (pss_cons (ps_if (pt_cmpR op_eq (pv 1) pe_int (nomark _)) (pss_one (ps_ret (pe_ix ix_list (pe_lst (pa_cons (pe_tup pa_nil) (pa_cons (pe_tup (pa_cons (pv 2) pa_nil)) (pa_cons (pe_tup (pa_cons (pv 2) (pa_cons pe_int (pa_cons pe_int pa_nil)))) (pa_cons (pe_tup (pa_cons pe_bl (pa_cons pe_int pa_nil))) (pa_cons (pe_tup (pa_cons pe_int (pa_cons pe_bl pa_nil))) (pa_cons (pe_tup (pa_cons (pv 2) (pa_cons pe_non pa_nil))) (pa_cons (pe_tup (pa_cons pe_str (pa_cons pe_int pa_nil))) pa_nil)))))))) (pe_callee c__law_take hr rfl pass_e0 (pa_cons (pv 0) (pa_cons pe_int pa_nil))) (fun _ _ => rfl)))) pss_nil)
      (pss_cons (ps_if (pt_cmpR op_eq (pv 1) pe_int (nomark _)) (pss_one (ps_ret (pe_ix ix_list (pe_lst (pa_cons (pv 2) (pa_cons pe_bl (pa_cons pe_non (pa_cons pe_str (pa_cons pe_str (pa_cons (pe_lst pa_nil) (pa_cons (pe_lst (pa_cons (pv 2) (pa_cons pe_int pa_nil))) pa_nil)))))))) (pe_callee c__law_take hr rfl pass_e0 (pa_cons (pv 0) (pa_cons pe_int pa_nil))) (fun _ _ => rfl)))) pss_nil)
      (pss_one (ps_ret (pe_callee c__law_number hr rfl pass_e0 (pa_cons (pv 0) pa_nil))))))))))), ?_⟩
  rw [show L2.start ["_law_purse_here", "_law_way", "_law_top", "_law_bottom"] [V.ref p] = [some (.ref p), none, none, none] from rfl]
  simp only [tSeq, tNext, tIfS, tIf, tPar, tCons, tCB, tVar, tNil, tC, tOp, tUn, tRet, tRetN, tAsg, gName, gTup, gLst, gCons, gNil, tTest, tB, tAnd, tOr, tNot, tAndV, tOrV, tNotV, tDrop, tTup, tLst, tCall, tCallX, tRaise, rI, rI0, rU, rEq, rNe, rIxT, rIxL, rCat, rEqD, rNeD, rIsi, scal_ii, scal_bb, scal_ss, scal_nn, cx_K, tSl, tPart, tNoPart, gSub, rSetL, tBM, iList, iTup, tFor, List.append_nil, List.getElem?_cons_zero, List.getElem?_cons_succ, Option.some.injEq, exists_eq_left, exists_eq_left', List.cons.injEq, V.int.injEq, V.bl.injEq, V.str.injEq, V.ref.injEq, and_true, true_and, and_assoc, List.set_cons_zero, List.set_cons_succ, List.length_cons, List.length_nil, exists_and_left, reduceCtorEq, decide_false, decide_true, Bool.not_true, Bool.not_false, List.nil_append, List.cons_append]
  refine ⟨p, 9, c, rfl, hu, by decide, by decide, by omega, fun g H1 g0 g1 u1 b1 => ⟨p, 31, c + 1, rfl, u1, by decide, by decide, by omega, fun i H2 i0 i1 u2 b2 => ⟨i, rfl, p, 9, c + 2, rfl, u2, by decide, by decide, by omega, fun j H3 j0 j1 u3 b3 => ⟨j, rfl, ?_⟩⟩⟩⟩
  have bb := (b1.trans b2).trans b3
  simp only [tSeq, tNext, tIfS, tIf, tPar, tCons, tCB, tVar, tNil, tC, tOp, tUn, tRet, tRetN, tAsg, gName, gTup, gLst, gCons, gNil, tTest, tB, tAnd, tOr, tNot, tAndV, tOrV, tNotV, tDrop, tTup, tLst, tCall, tCallX, tRaise, rI, rI0, rU, rEq, rNe, rIxT, rIxL, rCat, rEqD, rNeD, rIsi, scal_ii, scal_bb, scal_ss, scal_nn, cx_K, tSl, tPart, tNoPart, gSub, rSetL, tBM, iList, iTup, tFor, List.append_nil, List.getElem?_cons_zero, List.getElem?_cons_succ, Option.some.injEq, exists_eq_left, exists_eq_left', List.cons.injEq, V.int.injEq, V.bl.injEq, V.str.injEq, V.ref.injEq, and_true, true_and, and_assoc, List.set_cons_zero, List.set_cons_succ, List.length_cons, List.length_nil, exists_and_left, reduceCtorEq, decide_false, decide_true, Bool.not_true, Bool.not_false, List.nil_append, List.cons_append]
  have e17 : (10 : Int) ^ Int.toNat 17 = 100000000000000000 := by decide
  have e18 : (10 : Int) ^ Int.toNat 18 = 1000000000000000000 := by decide
  simp only [e17, e18]
  have le : ∀ n : Nat, n ≤ 100 → n ≤ sizeLine := fun n hn => by rw [sizeLine_eq]; omega
  refine iteB (fun c3 => ?_) (fun c3 => ?_)
  · refine ⟨le _ (by decide), fun a ha => q _ _ _ (is_pair (SqT.of upd_same)) ?_ (bb.trans (But.new ha))⟩
    show (j - 2).natAbs < 2 ^ 1000
    exact Nat.lt_of_lt_of_le (show (j - 2).natAbs < 2 ^ 70 by omega) (by decide)
  refine iteB (fun c4 => ?_) (fun c4 => ?_)
  · refine ⟨⟨by decide, by decide, by decide⟩, mulOk_of (a := 70) (b := 70) (by omega) (by decide) (by decide), ⟨by decide, by decide, by decide⟩, p, _, c + 3, rfl, u3, by decide, by decide, by omega, fun y H4 y0 y1 u4 b4 => ⟨y, rfl, le _ (by decide), fun a ha => q _ _ _ (is_pair (SqT.of upd_same)) ?_ ((bb.trans b4).trans (But.new ha))⟩⟩
    show (2 + y).natAbs < 2 ^ 1000
    exact Nat.lt_of_lt_of_le (show (2 + y).natAbs < 2 ^ 70 by omega) (by decide)
  refine iteB (fun c5 => ?_) (fun c5 => ?_)
  · refine ⟨le _ (by decide), fun a1 h1 => ⟨le _ (by decide), fun a2 h2 => ⟨le _ (by decide), fun a3 h3 => ⟨le _ (by decide), fun a4 h4 => ⟨le _ (by decide), fun a5 h5 => ⟨le _ (by decide), fun a6 h6 => ⟨le _ (by decide), fun a7 h7 => ⟨le _ (by decide), fun a8 h8 => ?_⟩⟩⟩⟩⟩⟩⟩⟩
    have t1 := SqT.of (K := K) (kn (o := .tup []) (u := .lst [.ref a1, .ref a2, .ref a3, .ref a4, .ref a5, .ref a6, .ref a7]) (kn (kn (kn (kn (kn (kn upd_same h2) h3) h4) h5) h6) h7) h8)
    have t2 := SqT.of (K := K) (kn (u := .lst [.ref a1, .ref a2, .ref a3, .ref a4, .ref a5, .ref a6, .ref a7]) (kn (kn (kn (kn (kn (o := .tup [.int (i - 15)]) upd_same h3) h4) h5) h6) h7) h8)
    have t3 := SqT.of (K := K) (kn (u := .lst [.ref a1, .ref a2, .ref a3, .ref a4, .ref a5, .ref a6, .ref a7]) (kn (kn (kn (kn (o := .tup [.int (i - 15), .int 1, .int 1]) upd_same h4) h5) h6) h7) h8)
    have t4 := SqT.of (K := K) (kn (u := .lst [.ref a1, .ref a2, .ref a3, .ref a4, .ref a5, .ref a6, .ref a7]) (kn (kn (kn (o := .tup [.bl true, .int 1]) upd_same h5) h6) h7) h8)
    have t5 := SqT.of (K := K) (kn (u := .lst [.ref a1, .ref a2, .ref a3, .ref a4, .ref a5, .ref a6, .ref a7]) (kn (kn (o := .tup [.int 1, .bl true]) upd_same h6) h7) h8)
    have t6 := SqT.of (K := K) (kn (u := .lst [.ref a1, .ref a2, .ref a3, .ref a4, .ref a5, .ref a6, .ref a7]) (kn (o := .tup [.int (i - 15), .non]) upd_same h7) h8)
    have t7 := SqT.of (K := K) (kn (u := .lst [.ref a1, .ref a2, .ref a3, .ref a4, .ref a5, .ref a6, .ref a7]) (o := .tup [.str "1", .int 1]) upd_same h8)
    have uw := ((((((u3.new h1).new h2).new h3).new h4).new h5).new h6).new (o := .tup [.str "1", .int 1]) h7
    have n8 := uw.ne h8
    have ub := uw.new (o := .lst [.ref a1, .ref a2, .ref a3, .ref a4, .ref a5, .ref a6, .ref a7]) h8
    have bw := ((((((((bb.trans (But.new h1)).trans (But.new h2)).trans (But.new h3)).trans (But.new h4)).trans (But.new h5)).trans (But.new h6)).trans (But.new h7)).trans (But.new (o := .lst [.ref a1, .ref a2, .ref a3, .ref a4, .ref a5, .ref a6, .ref a7]) h8))
    refine ⟨p, 7, c + 3, rfl, ub, by decide, by decide, by omega, fun y H4 y0 y1 u4 b4 => ⟨_, _, rfl, SqL.of (b4 _ _ n8 upd_same), ?_⟩⟩
    have k1 := b4.tup ub t1
    have k2 := b4.tup ub t2
    have k3 := b4.tup ub t3
    have k4 := b4.tup ub t4
    have k5 := b4.tup ub t5
    have k6 := b4.tup ub t6
    have k7 := b4.tup ub t7
    have hy : y = 0 ∨ y = 1 ∨ y = 2 ∨ y = 3 ∨ y = 4 ∨ y = 5 ∨ y = 6 := by omega
    rcases hy with rfl | rfl | rfl | rfl | rfl | rfl | rfl
    · exact ⟨_, rfl, q _ _ (.tuple []) (by simp only [Is, IsAll]; exact ⟨_, _, rfl, k1, rfl⟩) trivial (bw.trans b4)⟩
    · exact ⟨_, rfl, q _ _ (.tuple [.int (i - 15)]) (by simp only [Is, IsAll]; exact ⟨_, _, rfl, k2, _, _, rfl, rfl, rfl⟩) trivial (bw.trans b4)⟩
    · exact ⟨_, rfl, q _ _ (.tuple [.int (i - 15), .int 1, .int 1]) (by simp only [Is, IsAll]; exact ⟨_, _, rfl, k3, _, _, rfl, rfl, _, _, rfl, rfl, _, _, rfl, rfl, rfl⟩) trivial (bw.trans b4)⟩
    · exact ⟨_, rfl, q _ _ (.tuple [.bool true, .int 1]) (by simp only [Is, IsAll]; exact ⟨_, _, rfl, k4, _, _, rfl, rfl, _, _, rfl, rfl, rfl⟩) trivial (bw.trans b4)⟩
    · exact ⟨_, rfl, q _ _ (.tuple [.int 1, .bool true]) (by simp only [Is, IsAll]; exact ⟨_, _, rfl, k5, _, _, rfl, rfl, _, _, rfl, rfl, rfl⟩) trivial (bw.trans b4)⟩
    · exact ⟨_, rfl, q _ _ (.tuple [.int (i - 15), .none]) (by simp only [Is, IsAll]; exact ⟨_, _, rfl, k6, _, _, rfl, rfl, _, _, rfl, rfl, rfl⟩) trivial (bw.trans b4)⟩
    · exact ⟨_, rfl, q _ _ (.tuple [.str "1", .int 1]) (by simp only [Is, IsAll]; exact ⟨_, _, rfl, k7, _, _, rfl, rfl, _, _, rfl, rfl, rfl⟩) trivial (bw.trans b4)⟩
  refine iteB (fun c6 => ?_) (fun c6 => ?_)
  · refine ⟨le _ (by decide), fun a1 h1 => ⟨le _ (by decide), fun a2 h2 => ⟨le _ (by decide), fun a3 h3 => ?_⟩⟩⟩
    have uw := (u3.new (o := .lst []) h1).new (o := .lst [.int (i - 15), .int 1]) h2
    have n1 := u3.ne h1
    have n2 := (u3.new (o := .lst []) h1).ne h2
    have n3 := uw.ne h3
    have ub := uw.new (o := .lst [.int (i - 15), .bl true, .non, .str "0", .str "1/2", .ref a1, .ref a2]) h3
    have bw := ((bb.trans (But.new (o := .lst []) h1)).trans (But.new (o := .lst [.int (i - 15), .int 1]) h2)).trans (But.new (o := .lst [.int (i - 15), .bl true, .non, .str "0", .str "1/2", .ref a1, .ref a2]) h3)
    refine ⟨p, 7, c + 3, rfl, ub, by decide, by decide, by omega, fun y H4 y0 y1 u4 b4 => ⟨_, _, rfl, SqL.of (b4 _ _ n3 upd_same), ?_⟩⟩
    have k1 := b4 _ _ n1 (kn (kn upd_same h2) h3)
    have k2 := b4 _ _ n2 (kn upd_same h3)
    have hy : y = 0 ∨ y = 1 ∨ y = 2 ∨ y = 3 ∨ y = 4 ∨ y = 5 ∨ y = 6 := by omega
    rcases hy with rfl | rfl | rfl | rfl | rfl | rfl | rfl
    · exact ⟨_, rfl, q _ _ (.int (i - 15)) (by simp only [Is]) trivial (bw.trans b4)⟩
    · exact ⟨_, rfl, q _ _ (.bool true) (by simp only [Is]) trivial (bw.trans b4)⟩
    · exact ⟨_, rfl, q _ _ .none (by simp only [Is]) trivial (bw.trans b4)⟩
    · exact ⟨_, rfl, q _ _ (.str "0") (by simp only [Is]) trivial (bw.trans b4)⟩
    · exact ⟨_, rfl, q _ _ (.str "1/2") (by simp only [Is]) trivial (bw.trans b4)⟩
    · exact ⟨_, rfl, q _ _ (.list []) (by simp only [Is, IsAll]; exact ⟨_, _, rfl, SqL.of k1, rfl⟩) trivial (bw.trans b4)⟩
    · exact ⟨_, rfl, q _ _ (.list [.int (i - 15), .int 1]) (by simp only [Is, IsAll]; exact ⟨_, _, rfl, SqL.of k2, _, _, rfl, rfl, _, _, rfl, rfl, rfl⟩) trivial (bw.trans b4)⟩
  · refine ⟨p, c + 3, rfl, u3, by omega, fun v H4 x y hn u4 b4 => ?_⟩
    obtain ⟨a, rfl, ha⟩ := hn.nm
    refine q _ _ _ (is_pair ha) ?_ (bb.trans b4)
    show y.natAbs < 2 ^ 1000
    exact Nat.lt_of_lt_of_le hn.z2 (by decide)
end
end K1

set_option Elab.async false
set_option linter.all false
set_option maxRecDepth 100000
set_option maxHeartbeats 4000000
namespace K1
open PySem L2 PySem.Spec PyProof.Rows
section
variable {K : PySem.W.Frag}
def rd1 : TS := tAsg (tCall sp_purse [] E0 (tCons (tVar 1) (tCons (tC (V.int 1)) tNil))) (gName 2)
def rd2 (K : PySem.W.Frag) : TS := tAsg (tCall (sp_number K) [] E0 (tCons (tVar 2) tNil)) (gName 3)
def rd3 (K : PySem.W.Frag) : TS := tAsg (tCall (sp_number K) [] E0 (tCons (tVar 2) tNil)) (gName 4)
def rd4 (K : PySem.W.Frag) : TS := (tAsg
                (tLst
                  (tCons (tCall (sp_twoL K plusQ) [] E0 (tCons (tVar 3) (tCons (tVar 4) tNil)))
                    (tCons (tCall (sp_twoL K lessQ) [] E0 (tCons (tVar 3) (tCons (tVar 4) tNil)))
                      (tCons (tCall (sp_twoL K timesQ) [] E0 (tCons (tVar 3) (tCons (tVar 4) tNil))) tNil))))
                (gName 5))
def rd5 (K : PySem.W.Frag) : TS := (tIfS (tTest (tOp (rNeD K)
                      (tComp 1 [] (iList K (tVar 5))
                        (gName 0) (tNot (tB (tCall (sp_lis K) [] E0 (tCons (tVar 0) tNil)))) (tVar 0))
                      (tLst tNil)))
                  (tRet (tC (V.bl false))) tNext)
def rd6 (K : PySem.W.Frag) : TS := (tIfS (tTest (tOp (rNeD K) (tVar 5)
                        (tLst
                          (tCons (tCall (sp_two K plusQ) [] E0 (tCons (tVar 3) (tCons (tVar 4) tNil)))
                            (tCons
                              (tCall (sp_two K plusQ) [] E0
                                (tCons (tVar 3) (tCons (tCall (sp_not K) [] E0 (tCons (tVar 4) tNil)) tNil)))
                              (tCons (tCall (sp_two K timesQ) [] E0 (tCons (tVar 3) (tCons (tVar 4) tNil))) tNil))))))
                    (tRet (tC (V.bl false))) tNext)
def rd7 (K : PySem.W.Frag) (cN : Addr) : TS := (tAsg (tCall (sp_divided K cN) [] E0 (tCons (tVar 3) (tCons (tVar 4) tNil)))
                      (gLst K 2 (gCons (gName 6) (gCons (gName 7) gNil))))
def rd8 (K : PySem.W.Frag) (cN : Addr) : TS := (tIfS (tTest (tOp rEq (tOp (rIxT K) (tVar 4) (tC (V.int 0))) (tC (V.int 0))))
                        (tIfS (tTest (tOp rNe (tCall (sp_class cN) [] E0 (tCons (tVar 7) tNil)) (tC (V.str "NoNumber"))))
                          (tRet (tC (V.bl false))) tNext)
                        (tIfS
                          (tOr
                            (tTest
                              (tOp (fun x y H Q => y = V.non ∧ Q (V.bl !decide (x = V.non)) H) (tVar 7) (tC V.non)))
                            (tOr (tNot (tB (tCall (sp_lis K) [] E0 (tCons (tVar 6) tNil))))
                              (tTest (tOp (rNeD K) (tCall (sp_two K timesQ) [] E0 (tCons (tVar 6) (tCons (tVar 4) tNil))) (tVar 3)))))
                          (tRet (tC (V.bl false))) tNext))
def rd9 : TS := (tAsg
                          (tOp (rI0 fun i j => V.int (i - j))
                            (tCall sp_take [] E0
                              (tCons (tVar 2)
                                (tCons
                                  (tOp (rI0 fun i j => V.int (i + j))
                                    (tOp (rI IntMulOk fun i j => V.int (i * j)) (tC (V.int 2))
                                      (tOp (rI CPow fun i j => V.int (i ^ j.toNat)) (tC (V.int 10)) (tC (V.int 10))))
                                    (tC (V.int 1)))
                                  tNil)))
                            (tOp (rI CPow fun i j => V.int (i ^ j.toNat)) (tC (V.int 10)) (tC (V.int 10))))
                          (gName 8))
def rd10 (K : PySem.W.Frag) : TS := (tAsg
                            (tOp
                              (rIxL K)
                              (tLst
                                (tCons (tC (V.int 0))
                                  (tCons (tC (V.int 1))
                                    (tCons
                                      (tOp (rI0 fun i j => V.int (i - j))
                                        (tOp (rI0 fun i j => V.int (i - j)) (tC (V.int 0)) (tC (V.int 1)))
                                        (tCall sp_take [] E0 (tCons (tVar 2) (tCons (tC (V.int 60)) tNil))))
                                      (tCons (tVar 8)
                                        (tCons
                                          (tOp (rI0 fun i j => V.int (i + j)) (tC (V.int 1))
                                            (tCall sp_take [] E0
                                              (tCons (tVar 2)
                                                (tCons
                                                  (tOp (rI CPow fun i j => V.int (i ^ j.toNat)) (tC (V.int 10))
                                                    (tC (V.int 18)))
                                                  tNil))))
                                          tNil))))))
                              (tCall sp_take [] E0 (tCons (tVar 2) (tCons (tC (V.int 5)) tNil))))
                            (gName 9))
def rd11 (K : PySem.W.Frag) (cN : Addr) : TS := (tAsg (tCall (sp_made cN) [] E0 (tCons (tVar 8) (tCons (tVar 9) tNil)))
                              (gLst K 2 (gCons (gName 6) (gCons (gName 7) gNil))))
def rd12 (K : PySem.W.Frag) (cN : Addr) : TS := (tIfS (tTest (tOp rEq (tVar 9) (tC (V.int 0))))
                                (tIfS
                                  (tTest (tOp rNe (tCall (sp_class cN) [] E0 (tCons (tVar 7) tNil)) (tC (V.str "NoNumber"))))
                                  (tRet (tC (V.bl false))) tNext)
                                (tIfS
                                  (tOr
                                    (tTest
                                      (tOp (fun x y H Q => y = V.non ∧ Q (V.bl !decide (x = V.non)) H) (tVar 7)
                                        (tC V.non)))
                                    (tOr (tNot (tB (tCall (sp_lis K) [] E0 (tCons (tVar 6) tNil))))
                                      (tTest
                                        (tOp rNe
                                          (tOp (rI IntMulOk fun i j => V.int (i * j)) (tOp (rIxT K) (tVar 6) (tC (V.int 0))) (tVar 9))
                                          (tOp (rI IntMulOk fun i j => V.int (i * j)) (tVar 8) (tOp (rIxT K) (tVar 6) (tC (V.int 1))))))))
                                  (tRet (tC (V.bl false))) tNext))
def rd13b (K : PySem.W.Frag) : TS := (tSeq (tAsg (tCall (sp_is_number K) [] E0 (tCons (tVar 10) tNil)) (gName 5))
                                  (tIfS
                                    (tOr
                                      (tNot (tB (tCB (rIsi K) (tCons (tVar 5) (tCons (tC (V.ty "bool")) tNil)))))
                                      (tTest (tOp rNe (tVar 5) (tCall (sp_lis K) [] E0 (tCons (tVar 10) tNil)))))
                                    (tRet (tC (V.bl false))) tNext))
def rd13 (K : PySem.W.Frag) : TS := (tFor
                                (iList K
                                  (tLst
                                    (tCons (tCall (sp_thing K) [] E0 (tCons (tVar 2) tNil))
                                      (tCons (tVar 3) (tCons (tVar 6) tNil)))))
                                (gName 10) (rd13b K))
def rdb (K : PySem.W.Frag) (cN : Addr) : TS := tSeq rd1 (tSeq (rd2 K) (tSeq (rd3 K) (tSeq (rd4 K) (tSeq (rd5 K) (tSeq (rd6 K) (tSeq (rd7 K cN) (tSeq (rd8 K cN) (tSeq rd9 (tSeq (rd10 K) (tSeq (rd11 K cN) (tSeq (rd12 K cN) (rd13 K))))))))))))
/-- what a turn comes to -/
def TurnG (a : Addr) (H0 : Hp) (σ : L2.St) (H : Hp) : Prop := ∃ o1 o2 o3 o4 o5 o6 o7 o8 o9 o10, σ = [some (.ref a), o1, o2, o3, o4, o5, o6, o7, o8, o9, o10] ∧ Same H0 H
theorem same_but {H0 H H' : Hp} {p : Addr} (s : Same H0 H) (n : H0 p = none) (b : But p H H') : Same H0 H' := fun c o e => b c o (ne_of_none e n) (s c o e)
theorem But.same {H H' : Hp} {p : Addr} (b : Same H H') : But p H H' := fun c o _ e => b c o e
theorem Pu.same {H H' : Hp} {p : Addr} {c : Nat} (u : Pu H p c) (b : Same H H') : Pu H' p c := by
  obtain ⟨n, m, k, hp, z⟩ := u
  exact ⟨n, m, k, b _ _ hp, z⟩
theorem Nm.same {H H' : Hp} {v : V} {x y : Int} (h : Nm K H v x y) (b : Same H H') : Nm K H' v x y := by
  obtain ⟨a, e, h⟩ := h
  exact ⟨a, e, b.seqT h⟩
theorem NmL.same {H H' : Hp} {v : V} {x y : Int} (h : NmL K H v x y) (b : Same H H') : NmL K H' v x y := ⟨h.nm.same b, h.low, h.z1, h.z2⟩
theorem NmL.but {H H' : Hp} {p : Addr} {c : Nat} {v : V} {x y : Int} (h : NmL K H v x y) (u : Pu H p c) (b : But p H H') : NmL K H' v x y := ⟨b.nm u h.nm, h.low, h.z1, h.z2⟩
theorem sz70 {i : Int} (h : i.natAbs < 2 ^ 70) : Sz i := Nat.lt_of_lt_of_le h (by decide)
theorem Nm.is {H : Hp} {v : V} {x y : Int} (h : Nm K H v x y) : Is K H (.tuple [.int x, .int y]) v := by
  obtain ⟨a, rfl, h⟩ := h
  exact is_pair h
theorem isNum_fr {t b : Int} (h : b ≠ 0) : isNum (.tuple [.int (Q1.fr t b).1, .int (Q1.fr t b).2]) = true := by
  have l := Q1.fr_low (t := t) h
  rw [isNum_pair, decide_eq_true (show 1 ≤ (Q1.fr t b).2 from l.pos), decide_eq_true l.cop]
  rfl
theorem isNum_low {p q : Int} (l : Q1.Low p q) : isNum (.tuple [.int p, .int q]) = true := by
  rw [isNum_pair, decide_eq_true (show 1 ≤ q from l.pos), decide_eq_true l.cop]
  rfl
theorem small_fr {t b : Int} (h : b.natAbs < 2 ^ 1000) : smallD (.tuple [.int (Q1.fr t b).1, .int (Q1.fr t b).2]) := by
  show (Q1.fr t b).2.natAbs < 2 ^ 1000
  unfold Q1.fr
  split
  · exact Nat.lt_of_le_of_lt (Int.natAbs_ediv_le_natAbs _ _) h
  · exact Nat.lt_of_le_of_lt (Int.natAbs_ediv_le_natAbs _ _) h
theorem eqv_self3 {a b c d e f : Int} : PyData.eqv (.list [.tuple [.int a, .int b], .tuple [.int c, .int d], .tuple [.int e, .int f]]) (.list [.tuple [.int a, .int b], .tuple [.int c, .int d], .tuple [.int e, .int f]]) = true := by
  simp only [PyData.eqv, PyData.eqvAll, beq_self_eq_true, Bool.and_true]
theorem mono_lis {σ : L2.St} {H : Hp} {i : Nat} {Q1 Q2 : Bool → Hp → Prop} (hm : ∀ b H, Q1 b H → Q2 b H) (h1 : tNot (tB (tCall (sp_lis K) [] E0 (tCons (tVar i) tNil))) σ H Q1) : tNot (tB (tCall (sp_lis K) [] E0 (tCons (tVar i) tNil))) σ H Q2 := by
  simp only [tSeq, tNext, tIfS, tIf, tPar, tCons, tCB, tVar, tNil, tC, tOp, tUn, tRet, tRetN, tAsg, gName, gTup, gLst, gCons, gNil, tTest, tB, tAnd, tOr, tNot, tAndV, tOrV, tNotV, tDrop, tTup, tLst, tCall, tCallX, tRaise, rI, rI0, rU, rEq, rNe, rIxT, rIxL, rCat, rEqD, rNeD, rIsi, scal_ii, scal_bb, scal_ss, scal_nn, cx_K, tSl, tPart, tNoPart, gSub, rSetL, tBM, iList, iTup, tFor, List.append_nil, List.getElem?_cons_zero, List.getElem?_cons_succ, Option.some.injEq, exists_eq_left, exists_eq_left', List.cons.injEq, V.int.injEq, V.bl.injEq, V.str.injEq, V.ref.injEq, and_true, true_and, and_assoc, List.set_cons_zero, List.set_cons_succ, List.length_cons, List.length_nil, exists_and_left, reduceCtorEq, decide_false, decide_true, Bool.not_true, Bool.not_false, List.nil_append, List.cons_append] at h1 ⊢
  obtain ⟨v, e, x, d, e1, e2, e3, q⟩ := h1
  exact ⟨v, e, x, d, e1, e2, e3, fun H' s => by obtain ⟨c, e, z⟩ := q H' s; exact ⟨c, e, hm _ _ z⟩⟩
theorem fr_le (t b : Int) : (Q1.fr t b).1.natAbs ≤ t.natAbs ∧ (Q1.fr t b).2.natAbs ≤ b.natAbs := by
  unfold Q1.fr
  split
  · exact ⟨Int.natAbs_ediv_le_natAbs _ _, Int.natAbs_ediv_le_natAbs _ _⟩
  · exact ⟨Int.natAbs_ediv_le_natAbs _ _, Int.natAbs_ediv_le_natAbs _ _⟩
theorem over_back {p q r s : Int} (l : Q1.Low p q) (r0 : r ≠ 0) (s0 : 0 < s) : timesQ (overQ p q r s).1 (overQ p q r s).2 r s = (p, q) := by
  have nz : q * r ≠ 0 := by intro z; rcases Int.mul_eq_zero.mp z with y | y; exact l.ne y; exact r0 y
  have e := Q1.fr_eq (t := p * s) nz
  have lo := Q1.fr_low (t := p * s) nz
  unfold timesQ overQ
  generalize (Q1.fr (p * s) (q * r)).1 = o1 at e lo ⊢
  generalize (Q1.fr (p * s) (q * r)).2 = o2 at e lo ⊢
  refine Q1.fr_of (Int.ne_of_gt (Int.mul_pos lo.pos s0)) l ?_
  calc p * (o2 * s) = p * s * o2 := by ac_rfl
    _ = o1 * (q * r) := e.symm
    _ = o1 * r * q := by ac_rfl
/-- rd13 -/
theorem turn3 {a p : Addr} {H0 H : Hp} {c : Int} {v1 g : V} {x1 y1 : Int} {dg : PyData} {o4 o5 o7 o8 o9 o10 : Option V} {D : Ends} {n : Nat} (s0 : Same H0 H) (n0 : H0 p = none) (u : Pu H p n) (hn : n ≤ 800) (m1 : NmL K H v1 x1 y1) (hg : ∀ H', But p H H' → Is K H' dg g) (sg : smallD dg) (hD : ∀ σ H, TurnG a H0 σ H → D.nx σ H) :
    rd13 K D [some (.ref a), some (.int c), some (.ref p), some v1, o4, o5, some g, o7, o8, o9, o10] H := by
  unfold rd13 tFor iList
  simp only [tLst, tCons, tCall, tVar, tNil, List.append_nil, List.getElem?_cons_zero, List.getElem?_cons_succ, Option.some.injEq, exists_eq_left', exists_eq_left, List.length_cons, List.length_nil, V.ref.injEq]
  refine ⟨p, n, rfl, u, hn, fun vt H1 d it st b1 => ⟨by rw [sizeLine_eq]; decide, fun l hl => ?_⟩⟩
  have m1 := m1.but u b1
  have s1 := same_but s0 n0 b1
  have i1 : Is K H1 (.tuple [.int x1, .int y1]) v1 := m1.nm.is
  have ig := hg H1 b1
  have hl1 : (upd H1 l (.lst [vt, v1, g])) l = some (.lst [vt, v1, g]) := upd_same
  have sl : Same H1 (upd H1 l (.lst [vt, v1, g])) := Same.upd hl
  generalize upd H1 l (.lst [vt, v1, g]) = H2 at hl1 sl
  refine ⟨⟨_, SqL.of hl1⟩, for_list (K := K) (a := l) (xs := [vt, v1, g]) (g := gName 10) (tb := rd13b K) (D := D) (fun i σ H' => ∃ o5 o10, σ = [some (.ref a), some (.int c), some (.ref p), some v1, o4, o5, some g, o7, o8, o9, o10] ∧ Same H2 H') ⟨_, _, rfl, Same.refl _⟩ (fun i σ H' _ ⟨_, _, _, s⟩ => s.seq (SqL.of hl1)) ?_ ?_⟩
  · rintro i x σ H3 hx ⟨o5, o10, rfl, s3⟩
    have : ∃ dd, Is K H3 dd x ∧ smallD dd := by
      have s13 := sl.trans s3
      match i, hx with
      | 0, hx => cases hx; exact ⟨d, Is.same s13 _ _ it, st⟩
      | 1, hx => cases hx; exact ⟨_, Is.same s13 _ _ i1, Nat.lt_of_lt_of_le m1.z2 (by decide)⟩
      | 2, hx => cases hx; exact ⟨dg, Is.same s13 _ _ ig, sg⟩
    obtain ⟨dd, ix, sx⟩ := this
    unfold rd13b
    simp only [tSeq, tNext, tIfS, tIf, tPar, tCons, tCB, tVar, tNil, tC, tOp, tUn, tRet, tRetN, tAsg, gName, gTup, gLst, gCons, gNil, tTest, tB, tAnd, tOr, tNot, tAndV, tOrV, tNotV, tDrop, tTup, tLst, tCall, tCallX, tRaise, rI, rI0, rU, rEq, rNe, rIxT, rIxL, rCat, rEqD, rNeD, rIsi, scal_ii, scal_bb, scal_ss, scal_nn, cx_K, tSl, tPart, tNoPart, gSub, rSetL, tBM, iList, iTup, tFor, List.append_nil, List.getElem?_cons_zero, List.getElem?_cons_succ, Option.some.injEq, exists_eq_left, exists_eq_left', List.cons.injEq, V.int.injEq, V.bl.injEq, V.str.injEq, V.ref.injEq, and_true, true_and, and_assoc, List.set_cons_zero, List.set_cons_succ, List.length_cons, List.length_nil, exists_and_left, reduceCtorEq, decide_false, decide_true, Bool.not_true, Bool.not_false, List.nil_append, List.cons_append]
    refine ⟨x, dd, rfl, ix, ?_⟩
    refine ⟨by simp [clsV], _, .bl _, _, kit_bool (.bool (isNum dd)), iteFB rfl ?_⟩
    exact ⟨x, dd, rfl, ix, sx, fun H4 s4 => ⟨rfl, iteFB (by simp) (s3.trans s4)⟩⟩
  · rintro σ H3 ⟨o5, o10, rfl, s3⟩
    exact hD _ _ ⟨_, _, _, _, _, _, _, _, _, _, rfl, (s1.trans sl).trans s3⟩
/-- rd9 on -/
theorem turn2 {cN a p : Addr} {H0 H : Hp} {c : Int} {v1 : V} {x1 y1 : Int} {o4 o5 o6 o7 o8 o9 o10 : Option V} {D : Ends} {n : Nat} (s0 : Same H0 H) (n0 : H0 p = none) (u : Pu H p n) (hn : n ≤ 700) (m1 : NmL K H v1 x1 y1) (hD : ∀ σ H, TurnG a H0 σ H → D.nx σ H) :
    tSeq rd9 (tSeq (rd10 K) (tSeq (rd11 K cN) (tSeq (rd12 K cN) (rd13 K)))) D [some (.ref a), some (.int c), some (.ref p), some v1, o4, o5, o6, o7, o8, o9, o10] H := by
  have e10 : (10 : Int) ^ Int.toNat 10 = 10000000000 := by decide
  have e18 : (10 : Int) ^ Int.toNat 18 = 1000000000000000000 := by decide
  refine seq_gen fun R hR => ?_
  unfold rd9
  simp only [tSeq, tNext, tIfS, tIf, tPar, tCons, tCB, tVar, tNil, tC, tOp, tUn, tRet, tRetN, tAsg, gName, gTup, gLst, gCons, gNil, tTest, tB, tAnd, tOr, tNot, tAndV, tOrV, tNotV, tDrop, tTup, tLst, tCall, tCallX, tRaise, rI, rI0, rU, rEq, rNe, rIxT, rIxL, rCat, rEqD, rNeD, rIsi, scal_ii, scal_bb, scal_ss, scal_nn, cx_K, tSl, tPart, tNoPart, gSub, rSetL, tBM, iList, iTup, tFor, List.append_nil, List.getElem?_cons_zero, List.getElem?_cons_succ, Option.some.injEq, exists_eq_left, exists_eq_left', List.cons.injEq, V.int.injEq, V.bl.injEq, V.str.injEq, V.ref.injEq, and_true, true_and, and_assoc, List.set_cons_zero, List.set_cons_succ, List.length_cons, List.length_nil, exists_and_left, reduceCtorEq, decide_false, decide_true, Bool.not_true, Bool.not_false, List.nil_append, List.cons_append, e10]
  refine ⟨⟨by decide, by decide, by decide⟩, mulOk_of (a := 70) (b := 70) (by decide) (by decide) (by decide), p, _, n, rfl, u, by decide, by decide, by omega, fun g H1 g0 g1 u1 b1 => ⟨⟨by decide, by decide, by decide⟩, _, rfl, ?_⟩⟩
  have m1 := m1.but u b1
  have s1 := same_but s0 n0 b1
  rw [← hR]; clear hR R
  refine seq_gen fun R hR => ?_
  unfold rd10
  simp only [tSeq, tNext, tIfS, tIf, tPar, tCons, tCB, tVar, tNil, tC, tOp, tUn, tRet, tRetN, tAsg, gName, gTup, gLst, gCons, gNil, tTest, tB, tAnd, tOr, tNot, tAndV, tOrV, tNotV, tDrop, tTup, tLst, tCall, tCallX, tRaise, rI, rI0, rU, rEq, rNe, rIxT, rIxL, rCat, rEqD, rNeD, rIsi, scal_ii, scal_bb, scal_ss, scal_nn, cx_K, tSl, tPart, tNoPart, gSub, rSetL, tBM, iList, iTup, tFor, List.append_nil, List.getElem?_cons_zero, List.getElem?_cons_succ, Option.some.injEq, exists_eq_left, exists_eq_left', List.cons.injEq, V.int.injEq, V.bl.injEq, V.str.injEq, V.ref.injEq, and_true, true_and, and_assoc, List.set_cons_zero, List.set_cons_succ, List.length_cons, List.length_nil, exists_and_left, reduceCtorEq, decide_false, decide_true, Bool.not_true, Bool.not_false, List.nil_append, List.cons_append, e18]
  refine ⟨p, _, _, rfl, u1, by decide, by decide, by omega, fun i H2 i0 i1 u2 b2 => ⟨_, rfl, ⟨by decide, by decide, by decide⟩, p, _, _, rfl, u2, by decide, by decide, by omega, fun j H3 j0 j1 u3 b3 => ⟨_, rfl, by rw [sizeLine_eq]; decide, fun l hl => ?_⟩⟩⟩
  have n3 := u3.ne hl
  have ub := u3.new (o := .lst [V.int 0, V.int 1, V.int (0 - 1 - i), V.int (g - 10000000000), V.int (1 + j)]) hl
  refine ⟨p, _, _, rfl, ub, by decide, by decide, by omega, fun k H4 k0 k1 u4 b4 => ⟨_, _, rfl, SqL.of (b4 _ _ n3 upd_same), ?_⟩⟩
  have m1 := (((m1.but u1 b2).but u2 b3).same (Same.upd (o := .lst [V.int 0, V.int 1, V.int (0 - 1 - i), V.int (g - 10000000000), V.int (1 + j)]) hl)).but ub b4
  have s4 := same_but ((same_but (same_but s1 n0 b2) n0 b3).trans (Same.upd hl)) n0 b4
  have : ∃ bo : Int, atI [V.int 0, V.int 1, V.int (0 - 1 - i), V.int (g - 10000000000), V.int (1 + j)] k = some (.int bo) ∧ bo.natAbs < 2 ^ 70 := by
    have hk : k = 0 ∨ k = 1 ∨ k = 2 ∨ k = 3 ∨ k = 4 := by omega
    rcases hk with rfl | rfl | rfl | rfl | rfl
    · exact ⟨_, rfl, by decide⟩
    · exact ⟨_, rfl, by decide⟩
    · exact ⟨_, rfl, by omega⟩
    · exact ⟨_, rfl, by omega⟩
    · exact ⟨_, rfl, by omega⟩
  obtain ⟨bo, hbo, zbo⟩ := this
  refine ⟨_, hbo, ?_⟩
  have zt : (g - 10000000000).natAbs < 2 ^ 70 := by omega
  generalize g - 10000000000 = tp at zt
  rw [← hR]; clear hR R
  have zb1 : bo.natAbs < 2 ^ 1000 := Nat.lt_of_lt_of_le zbo (by decide)
  refine seq_gen fun R hR => ?_
  unfold rd11
  simp only [tSeq, tNext, tIfS, tIf, tPar, tCons, tCB, tVar, tNil, tC, tOp, tUn, tRet, tRetN, tAsg, gName, gTup, gLst, gCons, gNil, tTest, tB, tAnd, tOr, tNot, tAndV, tOrV, tNotV, tDrop, tTup, tLst, tCall, tCallX, tRaise, rI, rI0, rU, rEq, rNe, rIxT, rIxL, rCat, rEqD, rNeD, rIsi, scal_ii, scal_bb, scal_ss, scal_nn, cx_K, tSl, tPart, tNoPart, gSub, rSetL, tBM, iList, iTup, tFor, List.append_nil, List.getElem?_cons_zero, List.getElem?_cons_succ, Option.some.injEq, exists_eq_left, exists_eq_left', List.cons.injEq, V.int.injEq, V.bl.injEq, V.str.injEq, V.ref.injEq, and_true, true_and, and_assoc, List.set_cons_zero, List.set_cons_succ, List.length_cons, List.length_nil, exists_and_left, reduceCtorEq, decide_false, decide_true, Bool.not_true, Bool.not_false, List.nil_append, List.cons_append]
  by_cases b0 : bo = 0
  · subst b0
    refine ⟨tp, _, rfl, zb1, fun _ l' e H5 hl5 he5 s5 => ⟨l', rfl, _, SqL.of hl5, rfl, _, _, rfl, _, _, rfl, rfl, ?_⟩, fun z => absurd rfl z⟩
    rw [← hR]; clear hR R
    refine seq_gen fun R hR => ?_
    unfold rd12
    simp only [tSeq, tNext, tIfS, tIf, tPar, tCons, tCB, tVar, tNil, tC, tOp, tUn, tRet, tRetN, tAsg, gName, gTup, gLst, gCons, gNil, tTest, tB, tAnd, tOr, tNot, tAndV, tOrV, tNotV, tDrop, tTup, tLst, tCall, tCallX, tRaise, rI, rI0, rU, rEq, rNe, rIxT, rIxL, rCat, rEqD, rNeD, rIsi, scal_ii, scal_bb, scal_ss, scal_nn, cx_K, tSl, tPart, tNoPart, gSub, rSetL, tBM, iList, iTup, tFor, List.append_nil, List.getElem?_cons_zero, List.getElem?_cons_succ, Option.some.injEq, exists_eq_left, exists_eq_left', List.cons.injEq, V.int.injEq, V.bl.injEq, V.str.injEq, V.ref.injEq, and_true, true_and, and_assoc, List.set_cons_zero, List.set_cons_succ, List.length_cons, List.length_nil, exists_and_left, reduceCtorEq, decide_false, decide_true, Bool.not_true, Bool.not_false, List.nil_append, List.cons_append]
    rw [if_pos (by first | trivial | rfl)]
    refine ⟨e, rfl, he5, fun H6 s6 => ⟨rfl, iteFB rfl ?_⟩⟩
    rw [← hR]; clear hR R
    have s46 := s5.trans s6
    exact turn3 (dg := .none) (s4.trans s46) n0 (u4.same s46) (by omega) (m1.same s46) (fun H' _ => by simp only [Is]) trivial hD
  · refine ⟨tp, _, rfl, zb1, fun z => absurd z b0, fun _ l' an H5 hl5 ha5 s5 => ⟨l', rfl, _, SqL.of hl5, rfl, _, _, rfl, _, _, rfl, rfl, ?_⟩⟩
    rw [← hR]; clear hR R
    refine seq_gen fun R hR => ?_
    unfold rd12
    simp only [tSeq, tNext, tIfS, tIf, tPar, tCons, tCB, tVar, tNil, tC, tOp, tUn, tRet, tRetN, tAsg, gName, gTup, gLst, gCons, gNil, tTest, tB, tAnd, tOr, tNot, tAndV, tOrV, tNotV, tDrop, tTup, tLst, tCall, tCallX, tRaise, rI, rI0, rU, rEq, rNe, rIxT, rIxL, rCat, rEqD, rNeD, rIsi, scal_ii, scal_bb, scal_ss, scal_nn, cx_K, tSl, tPart, tNoPart, gSub, rSetL, tBM, iList, iTup, tFor, List.append_nil, List.getElem?_cons_zero, List.getElem?_cons_succ, Option.some.injEq, exists_eq_left, exists_eq_left', List.cons.injEq, V.int.injEq, V.bl.injEq, V.str.injEq, V.ref.injEq, and_true, true_and, and_assoc, List.set_cons_zero, List.set_cons_succ, List.length_cons, List.length_nil, exists_and_left, reduceCtorEq, decide_false, decide_true, Bool.not_true, Bool.not_false, List.nil_append, List.cons_append]
    refine iteFB (by simpa using b0) ?_
    rw [if_neg (by simp)]
    refine ⟨_, _, rfl, is_pair (SqT.of ha5), small_fr zb1, fun H6 s6 => ⟨_, rfl, ?_⟩⟩
    have h6 := SqT.of (K := K) (s6 _ _ ha5)
    have zf := fr_le tp bo
    refine iteFB (by rw [isNum_fr b0]; rfl) ⟨_, h6, _, at0, _, rfl, mulOk_of (a := 70) (b := 70) (by omega) zbo (by decide), _, h6, _, at1, _, rfl, mulOk_of (a := 70) (b := 70) zt (by omega) (by decide), iteFB (by simpa using Q1.fr_eq b0) ?_⟩
    rw [← hR]; clear hR R
    have s46 := s5.trans s6
    have u6 := u4.same s46
    exact turn3 (dg := .tuple [.int (Q1.fr tp bo).1, .int (Q1.fr tp bo).2]) (s4.trans s46) n0 u6 (by omega) (m1.same s46) (fun H' b => is_pair (b.tup u6 h6)) (small_fr zb1) hD
theorem turn {cN a : Addr} {H0 H : Hp} {c : Int} {o2 o3 o4 o5 o6 o7 o8 o9 o10 : Option V} {D : Ends} (s0 : Same H0 H) (hD : ∀ σ H, TurnG a H0 σ H → D.nx σ H) :
    rdb K cN D [some (.ref a), some (.int c), o2, o3, o4, o5, o6, o7, o8, o9, o10] H := by
  unfold rdb
  refine seq_gen fun R hR => ?_
  unfold rd1
  simp only [tSeq, tNext, tIfS, tIf, tPar, tCons, tCB, tVar, tNil, tC, tOp, tUn, tRet, tRetN, tAsg, gName, gTup, gLst, gCons, gNil, tTest, tB, tAnd, tOr, tNot, tAndV, tOrV, tNotV, tDrop, tTup, tLst, tCall, tCallX, tRaise, rI, rI0, rU, rEq, rNe, rIxT, rIxL, rCat, rEqD, rNeD, rIsi, scal_ii, scal_bb, scal_ss, scal_nn, cx_K, tSl, tPart, tNoPart, gSub, rSetL, tBM, iList, iTup, tFor, List.append_nil, List.getElem?_cons_zero, List.getElem?_cons_succ, Option.some.injEq, exists_eq_left, exists_eq_left', List.cons.injEq, V.int.injEq, V.bl.injEq, V.str.injEq, V.ref.injEq, and_true, true_and, and_assoc, List.set_cons_zero, List.set_cons_succ, List.length_cons, List.length_nil, exists_and_left, reduceCtorEq, decide_false, decide_true, Bool.not_true, Bool.not_false, List.nil_append, List.cons_append]
  refine ⟨c, rfl, fun p H1 np u1 b1 => ?_⟩
  have n0 : H0 p = none := s0.free np
  have s1 := same_but s0 n0 b1
  rw [← hR]; clear hR R
  refine seq_gen fun R hR => ?_
  unfold rd2
  simp only [tSeq, tNext, tIfS, tIf, tPar, tCons, tCB, tVar, tNil, tC, tOp, tUn, tRet, tRetN, tAsg, gName, gTup, gLst, gCons, gNil, tTest, tB, tAnd, tOr, tNot, tAndV, tOrV, tNotV, tDrop, tTup, tLst, tCall, tCallX, tRaise, rI, rI0, rU, rEq, rNe, rIxT, rIxL, rCat, rEqD, rNeD, rIsi, scal_ii, scal_bb, scal_ss, scal_nn, cx_K, tSl, tPart, tNoPart, gSub, rSetL, tBM, iList, iTup, tFor, List.append_nil, List.getElem?_cons_zero, List.getElem?_cons_succ, Option.some.injEq, exists_eq_left, exists_eq_left', List.cons.injEq, V.int.injEq, V.bl.injEq, V.str.injEq, V.ref.injEq, and_true, true_and, and_assoc, List.set_cons_zero, List.set_cons_succ, List.length_cons, List.length_nil, exists_and_left, reduceCtorEq, decide_false, decide_true, Bool.not_true, Bool.not_false, List.nil_append, List.cons_append]
  refine ⟨p, 0, rfl, u1, by decide, fun v1 H2 x1 y1 m1 u2 b2 => ?_⟩
  have s2 := same_but s1 n0 b2
  rw [← hR]; clear hR R
  refine seq_gen fun R hR => ?_
  unfold rd3
  simp only [tSeq, tNext, tIfS, tIf, tPar, tCons, tCB, tVar, tNil, tC, tOp, tUn, tRet, tRetN, tAsg, gName, gTup, gLst, gCons, gNil, tTest, tB, tAnd, tOr, tNot, tAndV, tOrV, tNotV, tDrop, tTup, tLst, tCall, tCallX, tRaise, rI, rI0, rU, rEq, rNe, rIxT, rIxL, rCat, rEqD, rNeD, rIsi, scal_ii, scal_bb, scal_ss, scal_nn, cx_K, tSl, tPart, tNoPart, gSub, rSetL, tBM, iList, iTup, tFor, List.append_nil, List.getElem?_cons_zero, List.getElem?_cons_succ, Option.some.injEq, exists_eq_left, exists_eq_left', List.cons.injEq, V.int.injEq, V.bl.injEq, V.str.injEq, V.ref.injEq, and_true, true_and, and_assoc, List.set_cons_zero, List.set_cons_succ, List.length_cons, List.length_nil, exists_and_left, reduceCtorEq, decide_false, decide_true, Bool.not_true, Bool.not_false, List.nil_append, List.cons_append]
  refine ⟨p, _, rfl, u2, by decide, fun v2 H3 x2 y2 m2 u3 b3 => ?_⟩
  have s3 := same_but s2 n0 b3
  have m1 := m1.but u2 b3
  rw [← hR]; clear hR R
  refine seq_gen fun R hR => ?_
  unfold rd4
  simp only [tSeq, tNext, tIfS, tIf, tPar, tCons, tCB, tVar, tNil, tC, tOp, tUn, tRet, tRetN, tAsg, gName, gTup, gLst, gCons, gNil, tTest, tB, tAnd, tOr, tNot, tAndV, tOrV, tNotV, tDrop, tTup, tLst, tCall, tCallX, tRaise, rI, rI0, rU, rEq, rNe, rIxT, rIxL, rCat, rEqD, rNeD, rIsi, scal_ii, scal_bb, scal_ss, scal_nn, cx_K, tSl, tPart, tNoPart, gSub, rSetL, tBM, iList, iTup, tFor, List.append_nil, List.getElem?_cons_zero, List.getElem?_cons_succ, Option.some.injEq, exists_eq_left, exists_eq_left', List.cons.injEq, V.int.injEq, V.bl.injEq, V.str.injEq, V.ref.injEq, and_true, true_and, and_assoc, List.set_cons_zero, List.set_cons_succ, List.length_cons, List.length_nil, exists_and_left, reduceCtorEq, decide_false, decide_true, Bool.not_true, Bool.not_false, List.nil_append, List.cons_append]
  refine ⟨_, _, x1, y1, x2, y2, rfl, m1.nm, m2.nm, sz70 m1.z1, sz70 m1.z2, sz70 m2.z1, sz70 m2.z2, m1.low, m2.low, fun a1 H4 r4 h1 => ?_⟩
  refine ⟨_, _, x1, y1, x2, y2, rfl, m1.nm.same r4, m2.nm.same r4, sz70 m1.z1, sz70 m1.z2, sz70 m2.z1, sz70 m2.z2, m1.low, m2.low, fun a2 H5 r5 h2 => ?_⟩
  refine ⟨_, _, x1, y1, x2, y2, rfl, m1.nm.same (r4.trans r5), m2.nm.same (r4.trans r5), sz70 m1.z1, sz70 m1.z2, sz70 m2.z1, sz70 m2.z2, m1.low, m2.low, fun a3 H6 r6 h3 => ⟨by rw [sizeLine_eq]; decide, fun l hl => ?_⟩⟩
  rw [← hR]; clear hR R
  have r7 : Same H6 (upd H6 l (.lst [.ref a1, .ref a2, .ref a3])) := Same.upd hl
  have hl7 : (upd H6 l (.lst [.ref a1, .ref a2, .ref a3])) l = some (.lst [.ref a1, .ref a2, .ref a3]) := upd_same
  generalize upd H6 l (.lst [.ref a1, .ref a2, .ref a3]) = H7 at r7 hl7
  have r37 := ((r4.trans r5).trans r6).trans r7
  have s7 := s3.trans r37
  have u7 := u3.same r37
  have m1 := m1.same r37
  have m2 := m2.same r37
  have h1 := r7 _ _ (r6 _ _ (r5 _ _ h1))
  have h2 := r7 _ _ (r6 _ _ h2)
  have h3 := r7 _ _ h3
  have p1 := m1.low.pos
  have p2 := m2.low.pos
  have zb : (y1 * y2).natAbs < 2 ^ 1000 := Sz.lt (sz70 m1.z2) (sz70 m2.z2)
  have nb : y1 * y2 ≠ 0 := Int.ne_of_gt (Int.mul_pos p1 p2)
  refine seq_abs (fun σ' H' => σ' = [some (.ref a), some (.int c), some (.ref p), some v1, some v2, some (.ref l), o6, o7, o8, o9, o10] ∧ Same H7 H') (fun R hR => ?_) ?_
  · unfold rd5
    simp only [tSeq, tNext, tIfS, tIf, tPar, tCons, tCB, tVar, tNil, tC, tOp, tUn, tRet, tRetN, tAsg, gName, gTup, gLst, gCons, gNil, tTest, tB, tAnd, tOr, tNot, tAndV, tOrV, tNotV, tDrop, tTup, tLst, tCall, tCallX, tRaise, rI, rI0, rU, rEq, rNe, rIxT, rIxL, rCat, rEqD, rNeD, rIsi, scal_ii, scal_bb, scal_ss, scal_nn, cx_K, tSl, tPart, tNoPart, gSub, rSetL, tBM, iList, iTup, tFor, List.append_nil, List.getElem?_cons_zero, List.getElem?_cons_succ, Option.some.injEq, exists_eq_left, exists_eq_left', List.cons.injEq, V.int.injEq, V.bl.injEq, V.str.injEq, V.ref.injEq, and_true, true_and, and_assoc, List.set_cons_zero, List.set_cons_succ, List.length_cons, List.length_nil, exists_and_left, reduceCtorEq, decide_false, decide_true, Bool.not_true, Bool.not_false, List.nil_append, List.cons_append]
    refine comp_none (a := l) (fun R r => ⟨_, rfl, r⟩) (SqL.of hl7) (by rw [sizeLine_eq]; show 3 < 16777216; decide) (fun _ _ _ _ hm z => mono_lis hm z) (fun σ H Q1 Q2 hm h1 => by simp only [tSeq, tNext, tIfS, tIf, tPar, tCons, tCB, tVar, tNil, tC, tOp, tUn, tRet, tRetN, tAsg, gName, gTup, gLst, gCons, gNil, tTest, tB, tAnd, tOr, tNot, tAndV, tOrV, tNotV, tDrop, tTup, tLst, tCall, tCallX, tRaise, rI, rI0, rU, rEq, rNe, rIxT, rIxL, rCat, rEqD, rNeD, rIsi, scal_ii, scal_bb, scal_ss, scal_nn, cx_K, tSl, tPart, tNoPart, gSub, rSetL, tBM, iList, iTup, tFor, List.append_nil, List.getElem?_cons_zero, List.getElem?_cons_succ, Option.some.injEq, exists_eq_left, exists_eq_left', List.cons.injEq, V.int.injEq, V.bl.injEq, V.str.injEq, V.ref.injEq, and_true, true_and, and_assoc, List.set_cons_zero, List.set_cons_succ, List.length_cons, List.length_nil, exists_and_left, reduceCtorEq, decide_false, decide_true, Bool.not_true, Bool.not_false, List.nil_append, List.cons_append] at h1 ⊢; obtain ⟨v, e, z⟩ := h1; exact ⟨v, e, hm _ _ z⟩) ?_ ?_
    · intro x hx H' R' sx r
      have : ∃ t b : Int, b ≠ 0 ∧ b.natAbs < 2 ^ 1000 ∧ ∃ ax, x = .ref ax ∧ H7 ax = some (.tup [.int (Q1.fr t b).1, .int (Q1.fr t b).2]) := by
        simp only [List.mem_cons, List.not_mem_nil, or_false] at hx
        rcases hx with rfl | rfl | rfl
        · exact ⟨_, _, nb, zb, _, rfl, h1⟩
        · exact ⟨_, _, nb, zb, _, rfl, h2⟩
        · exact ⟨_, _, nb, zb, _, rfl, h3⟩
      obtain ⟨t, b, b0, b1, ax, rfl, hax⟩ := this
      refine ⟨_, rfl, _, _, rfl, is_pair (SqT.of (sx _ _ hax)), small_fr b1, fun H'' s'' => ⟨_, rfl, ?_⟩⟩
      rw [isNum_fr b0]
      exact r H'' s''
    · intro l' H' s' hl'
      refine ⟨by rw [sizeLine_eq]; decide, fun l2 h2 => ⟨.list [], ?_, .list [], ?_, rfl, rfl, iteFB rfl (hR _ _ ⟨rfl, s'.trans (Same.upd h2)⟩)⟩⟩
      · simp only [Is, IsAll]
        exact ⟨_, _, rfl, SqL.of (Same.upd h2 _ _ hl'), rfl⟩
      · simp only [Is, IsAll]
        exact ⟨_, _, rfl, SqL.of upd_same, rfl⟩
  rintro σ' H8 ⟨rfl, r8⟩
  refine seq_abs (fun σ' H' => σ' = [some (.ref a), some (.int c), some (.ref p), some v1, some v2, some (.ref l), o6, o7, o8, o9, o10] ∧ Same H8 H') (fun R hR => ?_) ?_
  · have q1 := m1.nm.same r8
    have q2 := m2.nm.same r8
    unfold rd6
    simp only [tSeq, tNext, tIfS, tIf, tPar, tCons, tCB, tVar, tNil, tC, tOp, tUn, tRet, tRetN, tAsg, gName, gTup, gLst, gCons, gNil, tTest, tB, tAnd, tOr, tNot, tAndV, tOrV, tNotV, tDrop, tTup, tLst, tCall, tCallX, tRaise, rI, rI0, rU, rEq, rNe, rIxT, rIxL, rCat, rEqD, rNeD, rIsi, scal_ii, scal_bb, scal_ss, scal_nn, cx_K, tSl, tPart, tNoPart, gSub, rSetL, tBM, iList, iTup, tFor, List.append_nil, List.getElem?_cons_zero, List.getElem?_cons_succ, Option.some.injEq, exists_eq_left, exists_eq_left', List.cons.injEq, V.int.injEq, V.bl.injEq, V.str.injEq, V.ref.injEq, and_true, true_and, and_assoc, List.set_cons_zero, List.set_cons_succ, List.length_cons, List.length_nil, exists_and_left, reduceCtorEq, decide_false, decide_true, Bool.not_true, Bool.not_false, List.nil_append, List.cons_append]
    refine ⟨_, _, x1, y1, x2, y2, rfl, q1, q2, sz70 m1.z1, sz70 m1.z2, sz70 m2.z1, sz70 m2.z2, p1, p2, fun b1 k1 => ?_⟩
    have t1 := Same.upd (o := .tup [.int (plusQ x1 y1 x2 y2).1, .int (plusQ x1 y1 x2 y2).2]) k1
    refine ⟨_, _, _, rfl, q2.same t1, fun bn kn1 => ?_⟩
    have t2 := t1.trans (Same.upd (o := .tup [.int (-x2), .int y2]) kn1)
    refine ⟨_, _, x1, y1, -x2, y2, rfl, q1.same t2, ⟨bn, rfl, SqT.of upd_same⟩, sz70 m1.z1, sz70 m1.z2, (sz70 m2.z1).neg, sz70 m2.z2, p1, p2, fun b2 k2 => ?_⟩
    have t3 := t2.trans (Same.upd (o := .tup [.int (plusQ x1 y1 (-x2) y2).1, .int (plusQ x1 y1 (-x2) y2).2]) k2)
    refine ⟨_, _, x1, y1, x2, y2, rfl, q1.same t3, q2.same t3, sz70 m1.z1, sz70 m1.z2, sz70 m2.z1, sz70 m2.z2, p1, p2, fun b3 k3 => ⟨by rw [sizeLine_eq]; decide, fun l2 hl2 => ?_⟩⟩
    have t4 := t3.trans (Same.upd (o := .tup [.int (timesQ x1 y1 x2 y2).1, .int (timesQ x1 y1 x2 y2).2]) k3)
    have t5 := t4.trans (Same.upd (o := .lst [.ref b1, .ref b2, .ref b3]) hl2)
    have r85 := r8.trans t5
    have eL : plusQ x1 y1 (-x2) y2 = lessQ x1 y1 x2 y2 := by
      unfold plusQ lessQ
      rw [Int.neg_mul, ← Int.sub_eq_add_neg]
    refine ⟨.list [.tuple [.int (plusQ x1 y1 x2 y2).1, .int (plusQ x1 y1 x2 y2).2], .tuple [.int (lessQ x1 y1 x2 y2).1, .int (lessQ x1 y1 x2 y2).2], .tuple [.int (timesQ x1 y1 x2 y2).1, .int (timesQ x1 y1 x2 y2).2]], ?_, .list [.tuple [.int (plusQ x1 y1 x2 y2).1, .int (plusQ x1 y1 x2 y2).2], .tuple [.int (plusQ x1 y1 (-x2) y2).1, .int (plusQ x1 y1 (-x2) y2).2], .tuple [.int (timesQ x1 y1 x2 y2).1, .int (timesQ x1 y1 x2 y2).2]], ?_, rfl, rfl, ?_⟩
    · simp only [Is, IsAll]
      exact ⟨_, _, rfl, SqL.of (r85 _ _ hl7), _, _, rfl, ⟨_, _, rfl, SqT.of (r85 _ _ h1), _, _, rfl, rfl, _, _, rfl, rfl, rfl⟩, _, _, rfl, ⟨_, _, rfl, SqT.of (r85 _ _ h2), _, _, rfl, rfl, _, _, rfl, rfl, rfl⟩, _, _, rfl, ⟨_, _, rfl, SqT.of (r85 _ _ h3), _, _, rfl, rfl, _, _, rfl, rfl, rfl⟩, rfl⟩
    · simp only [Is, IsAll]
      exact ⟨_, _, rfl, SqL.of upd_same, _, _, rfl, ⟨_, _, rfl, SqT.of (kn (kn (kn (kn upd_same kn1) k2) k3) hl2), _, _, rfl, rfl, _, _, rfl, rfl, rfl⟩, _, _, rfl, ⟨_, _, rfl, SqT.of (kn (kn upd_same k3) hl2), _, _, rfl, rfl, _, _, rfl, rfl, rfl⟩, _, _, rfl, ⟨_, _, rfl, SqT.of (kn upd_same hl2), _, _, rfl, rfl, _, _, rfl, rfl, rfl⟩, rfl⟩
    · refine iteFB ?_ (hR _ _ ⟨rfl, t5⟩)
      rw [eL, eqv_self3]
      rfl
  rintro σ' H9 ⟨rfl, r9⟩
  have r79 := r8.trans r9
  have s9 := s7.trans r79
  have u9 := u7.same r79
  have m1 := m1.same r79
  have m2 := m2.same r79
  refine seq_gen fun R hR => ?_
  unfold rd7
  simp only [tSeq, tNext, tIfS, tIf, tPar, tCons, tCB, tVar, tNil, tC, tOp, tUn, tRet, tRetN, tAsg, gName, gTup, gLst, gCons, gNil, tTest, tB, tAnd, tOr, tNot, tAndV, tOrV, tNotV, tDrop, tTup, tLst, tCall, tCallX, tRaise, rI, rI0, rU, rEq, rNe, rIxT, rIxL, rCat, rEqD, rNeD, rIsi, scal_ii, scal_bb, scal_ss, scal_nn, cx_K, tSl, tPart, tNoPart, gSub, rSetL, tBM, iList, iTup, tFor, List.append_nil, List.getElem?_cons_zero, List.getElem?_cons_succ, Option.some.injEq, exists_eq_left, exists_eq_left', List.cons.injEq, V.int.injEq, V.bl.injEq, V.str.injEq, V.ref.injEq, and_true, true_and, and_assoc, List.set_cons_zero, List.set_cons_succ, List.length_cons, List.length_nil, exists_and_left, reduceCtorEq, decide_false, decide_true, Bool.not_true, Bool.not_false, List.nil_append, List.cons_append]
  refine ⟨_, _, x1, y1, x2, y2, rfl, m1.nm, m2.nm, sz70 m1.z1, sz70 m1.z2, sz70 m2.z1, sz70 m2.z2, m1.low, m2.low, fun x0 l' e H10 hl10 he10 s10 => ⟨l', rfl, _, SqL.of hl10, rfl, _, _, rfl, _, _, rfl, rfl, ?_⟩, fun x0 l' an H10 hl10 ha10 s10 => ⟨l', rfl, _, SqL.of hl10, rfl, _, _, rfl, _, _, rfl, rfl, ?_⟩⟩
  · subst x0
    rw [← hR]; clear hR R
    refine seq_gen fun R hR => ?_
    unfold rd8
    simp only [tSeq, tNext, tIfS, tIf, tPar, tCons, tCB, tVar, tNil, tC, tOp, tUn, tRet, tRetN, tAsg, gName, gTup, gLst, gCons, gNil, tTest, tB, tAnd, tOr, tNot, tAndV, tOrV, tNotV, tDrop, tTup, tLst, tCall, tCallX, tRaise, rI, rI0, rU, rEq, rNe, rIxT, rIxL, rCat, rEqD, rNeD, rIsi, scal_ii, scal_bb, scal_ss, scal_nn, cx_K, tSl, tPart, tNoPart, gSub, rSetL, tBM, iList, iTup, tFor, List.append_nil, List.getElem?_cons_zero, List.getElem?_cons_succ, Option.some.injEq, exists_eq_left, exists_eq_left', List.cons.injEq, V.int.injEq, V.bl.injEq, V.str.injEq, V.ref.injEq, and_true, true_and, and_assoc, List.set_cons_zero, List.set_cons_succ, List.length_cons, List.length_nil, exists_and_left, reduceCtorEq, decide_false, decide_true, Bool.not_true, Bool.not_false, List.nil_append, List.cons_append]
    obtain ⟨a2, rfl, ha2⟩ := m2.nm.same s10
    refine ⟨_, rfl, _, ha2, _, at0, rfl, ?_⟩
    rw [if_pos (by first | trivial | rfl)]
    refine ⟨e, rfl, he10, fun H11 s11 => ⟨rfl, iteFB rfl ?_⟩⟩
    rw [← hR]; clear hR R
    have s911 := s10.trans s11
    exact turn2 (s9.trans s911) n0 (u9.same s911) (by omega) (m1.same s911) hD
  · rw [← hR]; clear hR R
    have zo : (y1 * x2).natAbs < 2 ^ 1000 := Sz.lt (sz70 m1.z2) (sz70 m2.z1)
    have nz : y1 * x2 ≠ 0 := by intro z; rcases Int.mul_eq_zero.mp z with y | y; exact m1.low.ne y; exact x0 y
    have zf := fr_le (x1 * y2) (y1 * x2)
    have lo := Q1.fr_low (t := x1 * y2) nz
    refine seq_gen fun R hR => ?_
    unfold rd8
    simp only [tSeq, tNext, tIfS, tIf, tPar, tCons, tCB, tVar, tNil, tC, tOp, tUn, tRet, tRetN, tAsg, gName, gTup, gLst, gCons, gNil, tTest, tB, tAnd, tOr, tNot, tAndV, tOrV, tNotV, tDrop, tTup, tLst, tCall, tCallX, tRaise, rI, rI0, rU, rEq, rNe, rIxT, rIxL, rCat, rEqD, rNeD, rIsi, scal_ii, scal_bb, scal_ss, scal_nn, cx_K, tSl, tPart, tNoPart, gSub, rSetL, tBM, iList, iTup, tFor, List.append_nil, List.getElem?_cons_zero, List.getElem?_cons_succ, Option.some.injEq, exists_eq_left, exists_eq_left', List.cons.injEq, V.int.injEq, V.bl.injEq, V.str.injEq, V.ref.injEq, and_true, true_and, and_assoc, List.set_cons_zero, List.set_cons_succ, List.length_cons, List.length_nil, exists_and_left, reduceCtorEq, decide_false, decide_true, Bool.not_true, Bool.not_false, List.nil_append, List.cons_append]
    obtain ⟨a2, rfl, ha2⟩ := m2.nm.same s10
    refine ⟨_, rfl, _, ha2, _, at0, rfl, iteFB (by simpa using x0) ?_⟩
    rw [if_neg (by simp)]
    refine ⟨_, _, rfl, is_pair (SqT.of ha10), small_fr zo, fun H11 s11 => ⟨_, rfl, iteFB ?_ ?_⟩⟩
    · unfold overQ
      rw [isNum_fr nz]
      rfl
    · have sz : ∀ {u v : Int}, u.natAbs < 2 ^ 70 → v.natAbs < 2 ^ 70 → (u * v).natAbs < 2 ^ 140 := fun {u v} h1 h2 => by
        rw [Int.natAbs_mul]
        calc u.natAbs * v.natAbs < 2 ^ 70 * 2 ^ 70 := Nat.mul_lt_mul'' h1 h2
          _ = 2 ^ 140 := by decide
      have e1 := sz m1.z1 m2.z2
      have e2 := sz m1.z2 m2.z1
      refine ⟨_, _, _, _, x2, y2, rfl, ⟨_, rfl, SqT.of (s11 _ _ ha10)⟩, ⟨_, rfl, Same.seqT s11 ha2⟩, Nat.lt_of_le_of_lt zf.1 (Nat.lt_trans e1 (by decide)), Nat.lt_of_le_of_lt zf.2 (Nat.lt_trans e2 (by decide)), sz70 m2.z1, sz70 m2.z2, lo.pos, m2.low.pos, fun b hb => ?_⟩
      have s12 := Same.upd (o := .tup [.int (timesQ (overQ x1 y1 x2 y2).1 (overQ x1 y1 x2 y2).2 x2 y2).1, .int (timesQ (overQ x1 y1 x2 y2).1 (overQ x1 y1 x2 y2).2 x2 y2).2]) hb
      have s912 := (s10.trans s11).trans s12
      refine ⟨_, is_pair (SqT.of upd_same), _, (m1.nm.same s912).is, rfl, rfl, iteFB ?_ ?_⟩
      · rw [eqv_pair, over_back m1.low x0 m2.low.pos]
        simp
      · rw [← hR]; clear hR R
        exact turn2 (s9.trans s912) n0 (u9.same s912) (by omega) (m1.same s912) hD
end
end K1

set_option Elab.async false
set_option linter.all false
set_option maxRecDepth 100000
set_option maxHeartbeats 4000000
namespace K1
open PySem L2 PySem.Spec PyProof.Rows
section
variable {K : PySem.W.Frag}
def rd_law (K : PySem.W.Frag) (cN : Addr) : TS := tSeq (tFor (iList K (tOp rCat (tSl (rSlL K) (tVar 0) tNoPart (tPart (tC (V.int 8)))) (tLst (tCons (tOp (rI (fun x j => 0 < j ∧ Dv j) fun i j => V.int (i / j)) (tCall (sp_at K) [] E0 (tCons (tVar 0) (tCons (tC (V.int 0)) tNil))) (tC (V.int 3))) tNil)))) (gName 1) (rdb K cN)) (tRet (tC (V.bl true)))
theorem law_rd {cN a : Addr} {ns : List Int} {H : Hp} {Q : VK} (ha : SqL K H a (ns.map V.int)) (hn : ns.length ≤ 63) (q : ∀ H', Q (.bl true) H') :
    rd_law K cN { nx := fun x H' => Q .non H', rt := Q } [some (.ref a), none, none, none, none, none, none, none, none, none, none] H := by
  unfold rd_law tSeq tFor iList
  simp only [tOp, tSl, tVar, tNoPart, tPart, tC, tLst, tCons, tCall, tNil, rSlL, rCat, rI, tRet, List.append_nil, List.getElem?_cons_zero, List.getElem?_cons_succ, Option.some.injEq, exists_eq_left', exists_eq_left, List.length_cons, List.length_nil, V.ref.injEq, V.int.injEq]
  refine ⟨a, _, rfl, ha, fun p hp => ⟨a, 0, ns, rfl, Same.seq (Same.upd hp) ha, by decide, by decide, fun i => ⟨i, 3, rfl, rfl, ⟨by decide, Dv.of (a := 10) (by decide) (by decide)⟩, by rw [sizeLine_eq]; decide, fun p1 hp1 => ⟨p, p1, _, _, rfl, rfl, kn upd_same hp1, upd_same, ?_, fun p2 hp2 => ?_⟩⟩⟩⟩
  · have := cutV_length (ns.map V.int) none (some 8)
    rw [List.length_map] at this
    rw [sizeLine_eq]
    simp only [List.length_cons, List.length_nil]
    omega
  have hl := upd_same (H := upd (upd H p (HO.lst (cutV (List.map V.int ns) none (some 8)))) p1 (HO.lst [V.int (i / 3)])) (a := p2) (o := .lst (cutV (List.map V.int ns) none (some 8) ++ [V.int (i / 3)]))
  generalize upd (upd (upd H p (HO.lst (cutV (List.map V.int ns) none (some 8)))) p1 (HO.lst [V.int (i / 3)])) p2 (.lst (cutV (List.map V.int ns) none (some 8) ++ [V.int (i / 3)])) = H0 at hl ⊢
  refine ⟨⟨_, SqL.of hl⟩, for_list (K := K) (a := p2) (g := gName 1) (tb := rdb K cN) (D := { nx := tRet (tC (V.bl true)) { nx := fun x H' => Q .non H', rt := Q }, rt := Q }) (fun _ => TurnG a H0) ⟨_, _, _, _, _, _, _, _, _, _, rfl, Same.refl _⟩ (fun i σ H' _ ⟨_, _, _, _, _, _, _, _, _, _, _, s⟩ => s.seq (SqL.of hl)) ?_ (fun σ H _ => q H)⟩
  rintro j x σ H1 hx ⟨o1, o2, o3, o4, o5, o6, o7, o8, o9, o10, rfl, s1⟩
  have : ∃ z, x = .int z := by
    have hm := List.mem_of_getElem? hx
    rw [List.mem_append] at hm
    rcases hm with hm | hm
    · unfold cutV at hm
      have h2 := List.mem_of_mem_drop (List.mem_of_mem_take hm)
      obtain ⟨z, _, e⟩ := List.mem_map.mp h2
      exact ⟨z, e.symm⟩
    · exact ⟨_, List.mem_singleton.mp hm⟩
  obtain ⟨z, rfl⟩ := this
  exact turn s1 fun σ H h => h
end
end K1

set_option Elab.async false
set_option linter.all false
set_option maxRecDepth 100000
set_option maxHeartbeats 4000000
namespace K1
open PySem L2 PySem.Spec PyProof.Rows
abbrev s_law : Stmt := top 54
section
variable {P : Program} {w : World} {K : PySem.W.Frag} {mg : Str → Option Value} {base : Heap}
def sp_law (K : PySem.W.Frag) : Sp := fun vs H Q _ => ∃ (a : Addr) (ns : List Int), vs = [.ref a] ∧ SqL K H a (ns.map V.int) ∧ ns.length ≤ 63 ∧ ∀ H', Q (.bl true) H'
theorem k_law {t : Adr} {f : Addr} {fd : FuncData} (F : Fun K "law" "law" s_law f fd) (B : BltV mg) (C : ClsA K mg t)
    (c_plus : Callee P w K mg base "plus" 2 ["one", "other"] (sp_twoL K plusQ)) (c_less : Callee P w K mg base "less" 3 ["one", "other"] (sp_twoL K lessQ)) (c_times : Callee P w K mg base "times" 2 ["one", "other"] (sp_twoL K timesQ))
    (c_is_number : Callee P w K mg base "is_number" 2 ["one"] (sp_is_number K))
    (c__law_purse : Callee P w K mg base "_law_purse" 2 ["_law_cell", "_law_k"] sp_purse) (c__law_take : Callee P w K mg base "_law_take" 2 ["_law_purse_here", "_law_many"] sp_take) (c__law_at : Callee P w K mg base "_law_at" 1 ["_law_script", "_law_k"] (sp_at K))
    (c__law_number : Callee P w K mg base "_law_number" 3 ["_law_purse_here"] (sp_number K)) (c__law_is_number : Callee P w K mg base "_law_is_number" 2 ["_law_told"] (sp_lis K))
    (c__law_plus : Callee P w K mg base "_law_plus" 2 ["_law_one", "_law_other"] (sp_two K plusQ)) (c__law_by : Callee P w K mg base "_law_by" 2 ["_law_one", "_law_other"] (sp_two K timesQ)) (c__law_not : Callee P w K mg base "_law_not" 1 ["_law_one"] (sp_not K))
    (c__law_divided : Callee P w K mg base "_law_divided" 4 ["_law_one", "_law_other"] (sp_divided K t.aNoNumber)) (c__law_made : Callee P w K mg base "_law_made" 3 ["_law_top", "_law_bottom"] (sp_made t.aNoNumber))
    (c__law_class : Callee P w K mg base "_law_class" 1 ["_law_error"] (sp_class t.aNoNumber)) (c__law_thing : Callee P w K mg base "_law_thing" 4 ["_law_purse_here"] (sp_thing K)) :
    FnOk P w K mg base (CXe P w) 5 f fd ["_law_script"] (sp_law K) := by
  have S : FnScope ["_law_script", "_law_cell", "_law_purse_here", "_law_one", "_law_other", "_law_told", "_law_got", "_law_error", "_law_top", "_law_bottom", "_law_thing_here"] ["_law_script"] (defScope s_law) := ⟨rfl, rfl, rfl, by decide +kernel, rfl, by decide +kernel, by decide +kernel⟩
  refine F.okE S (fun vs H Q E ⟨_, _, e, _⟩ => by rw [e]; rfl) fun cdv A outer s H vs Q E hr hq => ?_
  obtain ⟨a, ns, rfl, ha, hn, q⟩ := hq
  have hu := hr.units
  have PO : ∀ {M : Model} {A : Around} {env : Env}, PassesOwn M A env (fun _ _ => False) := PassesOwn.never
  refine ⟨_, PSs.nox (pss_cons (ps_for (PO) rfl (pi_list (pe_op op_cat (pe_slice sl_list (pv 0) po_none (po_some pe_int)) (pe_lst (pa_cons (pe_op op_fdivP (pe_callee c__law_at hr rfl pass_e0 (pa_cons (pv 0) (pa_cons pe_int pa_nil))) pe_int) pa_nil)))) (pg_name (i := 1) S.nd rfl (Or.inl rfl)) (pss_cons (ps_set (i := 2) S.nd rfl (Or.inl rfl) (pe_callee c__law_purse hr rfl pass_e0 (pa_cons (pv 1) (pa_cons pe_int pa_nil))))
      (pss_cons (ps_set (i := 3) S.nd rfl (Or.inl rfl) (pe_callee c__law_number hr rfl pass_e0 (pa_cons (pv 2) pa_nil)))
      (pss_cons (ps_set (i := 4) S.nd rfl (Or.inl rfl) (pe_callee c__law_number hr rfl pass_e0 (pa_cons (pv 2) pa_nil)))
      (pss_cons (ps_set (i := 5) S.nd rfl (Or.inl rfl) (pe_lst (pa_cons (pe_callee c_plus hr rfl pass_e0 (pa_cons (pv 3) (pa_cons (pv 4) pa_nil))) (pa_cons (pe_callee c_less hr rfl pass_e0 (pa_cons (pv 3) (pa_cons (pv 4) pa_nil))) (pa_cons (pe_callee c_times hr rfl pass_e0 (pa_cons (pv 3) (pa_cons (pv 4) pa_nil))) pa_nil)))))
      (pss_cons (ps_if (pt_cmpR (op_neD hu) (pe_compF (defScope s_law) ["_law_script", "_law_cell", "_law_purse_here", "_law_one", "_law_other", "_law_told", "_law_got", "_law_error", "_law_top", "_law_bottom", "_law_thing_here"] ["_law_number_here"] [] ["_law_number_here"] rfl rfl rfl rfl (by decide +kernel) rfl (pi_list (pv 5)) (fun _ _ _ _ => (pg_name (i := 0) (nd (M := ["_law_number_here"]) (by decide +kernel)) rfl (Or.inl rfl))) (gonly_name (by decide)) (fun _ _ _ _ => (pts_one (pt_not (pt_val (pe_callee c__law_is_number hr rfl pass_e0 (pa_cons (pv 0) pa_nil)))))) (fun _ _ _ _ => (pv 0))) (pe_lst pa_nil) (nomark _)) (pss_one (ps_ret pe_bl)) pss_nil)
      (pss_cons (ps_if (pt_cmpR (op_neD hu) (pv 5) (pe_lst (pa_cons (pe_callee c__law_plus hr rfl pass_e0 (pa_cons (pv 3) (pa_cons (pv 4) pa_nil))) (pa_cons (pe_callee c__law_plus hr rfl pass_e0 (pa_cons (pv 3) (pa_cons (pe_callee c__law_not hr rfl pass_e0 (pa_cons (pv 4) pa_nil)) pa_nil))) (pa_cons (pe_callee c__law_by hr rfl pass_e0 (pa_cons (pv 3) (pa_cons (pv 4) pa_nil))) pa_nil)))) (nomark _)) (pss_one (ps_ret pe_bl)) pss_nil)
      (pss_cons (ps_asg (pe_callee c__law_divided hr rfl pass_e0 (pa_cons (pv 3) (pa_cons (pv 4) pa_nil))) (pg_lst (n := 2) rfl (pgs_cons (pg_name (i := 6) S.nd rfl (Or.inl rfl)) (pgs_cons (pg_name (i := 7) S.nd rfl (Or.inl rfl)) pgs_nil))))
      (pss_cons (ps_if (pt_cmpR op_eq (pe_ix ix_tup (pv 4) pe_int (fun _ _ => rfl)) pe_int (nomark _)) (pss_one (ps_if (pt_cmpR op_ne (pe_callee c__law_class hr rfl pass_e0 (pa_cons (pv 7) pa_nil)) pe_str (nomark _)) (pss_one (ps_ret pe_bl)) pss_nil)) (pss_one (ps_if (PW.pt (pw_or (pt_cmpR op_notN (pv 7) pe_non (nomark _)) (pw_or (pt_not (pt_val (pe_callee c__law_is_number hr rfl pass_e0 (pa_cons (pv 6) pa_nil)))) (pw_or1 (pt_cmpR (op_neD hu) (pe_callee c__law_by hr rfl pass_e0 (pa_cons (pv 6) (pa_cons (pv 4) pa_nil))) (pv 3) (nomark _)))))) (pss_one (ps_ret pe_bl)) pss_nil)))
      (pss_cons (ps_set (i := 8) S.nd rfl (Or.inl rfl) (pe_op op_sub (pe_callee c__law_take hr rfl pass_e0 (pa_cons (pv 2) (pa_cons (pe_op op_add (pe_op op_mulB pe_int (pe_op op_pow pe_int pe_int)) pe_int) pa_nil))) (pe_op op_pow pe_int pe_int)))
      (pss_cons (ps_set (i := 9) S.nd rfl (Or.inl rfl) (pe_ix ix_list (pe_lst (pa_cons pe_int (pa_cons pe_int (pa_cons (pe_op op_sub (pe_op op_sub pe_int pe_int) (pe_callee c__law_take hr rfl pass_e0 (pa_cons (pv 2) (pa_cons pe_int pa_nil)))) (pa_cons (pv 8) (pa_cons (pe_op op_add pe_int (pe_callee c__law_take hr rfl pass_e0 (pa_cons (pv 2) (pa_cons (pe_op op_pow pe_int pe_int) pa_nil)))) pa_nil)))))) (pe_callee c__law_take hr rfl pass_e0 (pa_cons (pv 2) (pa_cons pe_int pa_nil))) (fun _ _ => rfl)))
      (pss_cons (ps_asg (pe_callee c__law_made hr rfl pass_e0 (pa_cons (pv 8) (pa_cons (pv 9) pa_nil))) (pg_lst (n := 2) rfl (pgs_cons (pg_name (i := 6) S.nd rfl (Or.inl rfl)) (pgs_cons (pg_name (i := 7) S.nd rfl (Or.inl rfl)) pgs_nil))))
      (pss_cons (ps_if (pt_cmpR op_eq (pv 9) pe_int (nomark _)) (pss_one (ps_if (pt_cmpR op_ne (pe_callee c__law_class hr rfl pass_e0 (pa_cons (pv 7) pa_nil)) pe_str (nomark _)) (pss_one (ps_ret pe_bl)) pss_nil)) (pss_one (ps_if (PW.pt (pw_or (pt_cmpR op_notN (pv 7) pe_non (nomark _)) (pw_or (pt_not (pt_val (pe_callee c__law_is_number hr rfl pass_e0 (pa_cons (pv 6) pa_nil)))) (pw_or1 (pt_cmpR op_ne (pe_op op_mulB (pe_ix ix_tup (pv 6) pe_int (fun _ _ => rfl)) (pv 9)) (pe_op op_mulB (pv 8) (pe_ix ix_tup (pv 6) pe_int (fun _ _ => rfl))) (nomark _)))))) (pss_one (ps_ret pe_bl)) pss_nil)))
      (pss_one (ps_for (PO) rfl (pi_list (pe_lst (pa_cons (pe_callee c__law_thing hr rfl pass_e0 (pa_cons (pv 2) pa_nil)) (pa_cons (pv 3) (pa_cons (pv 6) pa_nil))))) (pg_name (i := 10) S.nd rfl (Or.inl rfl)) (pss_cons (ps_set (i := 5) S.nd rfl (Or.inl rfl) (pe_callee c_is_number hr rfl pass_e0 (pa_cons (pv 10) pa_nil)))
      (pss_one (ps_if (PW.pt (pw_or (pt_not (pt_val (pe_callB call_isi rfl B.n_isinstance Bt.isinstance (pa_cons (pv 5) (pa_cons (pe_ty rfl B.n_bool Bt.bool) pa_nil))))) (pw_or1 (pt_cmpR op_ne (pv 5) (pe_callee c__law_is_number hr rfl pass_e0 (pa_cons (pv 10) pa_nil)) (nomark _))))) (pss_one (ps_ret pe_bl)) pss_nil))))))))))))))))))
      (pss_one (ps_ret pe_bl))), ?_⟩
  rw [show L2.start ["_law_script", "_law_cell", "_law_purse_here", "_law_one", "_law_other", "_law_told", "_law_got", "_law_error", "_law_top", "_law_bottom", "_law_thing_here"] [V.ref a] = [some (.ref a), none, none, none, none, none, none, none, none, none, none] from rfl]
  simp only [nox_K, cx_K]
  exact law_rd (cN := t.aNoNumber) ha hn q
end
end K1

set_option Elab.async false
set_option linter.all false
set_option maxRecDepth 100000
set_option maxHeartbeats 4000000
namespace K1
open PySem L2 PySem.Spec PyProof.Rows
theorem cls_some {K : PySem.W.Frag} {C : Addr} {b : Value} {r : Bool} (e : PySem.W.subIn K (.ref C) b = some r) : (PySem.W.clsIn K C).isSome = true := by
  obtain ⟨cd, a, _⟩ := Option.bind_eq_some_iff.mp (show PySem.W.mroIn K C b = some r from e)
  rw [a]
  rfl

theorem all_mk {l : PySem.W.OpenLaw} {w : World} {K : PySem.W.Frag} {h : Heap} {mg : Str → Option Value} {fa : Addr} (X : K.In h) (G : h.Ns mainGlobals mg) (hfa : mg "law" = some (.ref fa))
    {f_is_whole f_common_divisor f_is_number f_fraction f_plus f_less f_times f_over f__law_mixed f__law_purse f__law_take f__law_at f__law_low f__law_plus f__law_by f__law_not f__law_number f__law_is_whole f__law_is_number f__law_class f__law_divided f__law_made f__law_thing f_law : Addr}
    {aBroken aNoCount aNoDeed aNoLeast aNoLine aNoMatch aNoName aNoNumber aNoPair aNoPlace aNoRow aNoShelf aNoSquare aNoSum aNoText aNoTree aNoWord aNotActing aNotBare aNotEaten aNotFree aNotGap aNotKept aNotNought aNotOne aTooDeep aTooLong aSwapError : Addr}
    {od_is_whole od_common_divisor od_is_number od_fraction od_plus od_less od_times od_over od__law_mixed od__law_purse od__law_take od__law_at od__law_low od__law_plus od__law_by od__law_not od__law_number od__law_is_whole od__law_is_number od__law_class od__law_divided od__law_made od__law_thing od_law : Option Addr}
    {an_is_whole an_common_divisor an_is_number an_fraction an_plus an_less an_times an_over an__law_mixed an__law_purse an__law_take an__law_at an__law_low an__law_plus an__law_by an__law_not an__law_number an__law_is_whole an__law_is_number an__law_class an__law_divided an__law_made an__law_thing an_law : Option Addr}
    {sl_is_whole sl_common_divisor sl_is_number sl_fraction sl_plus sl_less sl_times sl_over sl__law_mixed sl__law_purse sl__law_take sl__law_at sl__law_low sl__law_plus sl__law_by sl__law_not sl__law_number sl__law_is_whole sl__law_is_number sl__law_class sl__law_divided sl__law_made sl__law_thing sl_law : Array (Option Value)}
    {oc_is_whole oc_common_divisor oc_is_number oc_fraction oc_plus oc_less oc_times oc_over oc__law_mixed oc__law_purse oc__law_take oc__law_at oc__law_low oc__law_plus oc__law_by oc__law_not oc__law_number oc__law_is_whole oc__law_is_number oc__law_class oc__law_divided oc__law_made oc__law_thing oc_law : Value}
    {kV_is_whole kV_common_divisor kV_is_number kV_fraction kV_plus kV_less kV_times kV_over kV__law_mixed kV__law_purse kV__law_take kV__law_at kV__law_low kV__law_plus kV__law_by kV__law_not kV__law_number kV__law_is_whole kV__law_is_number kV__law_class kV__law_divided kV__law_made kV__law_thing kV_law : Value}
    {dc_is_whole dc_common_divisor dc_is_number dc_fraction dc_plus dc_less dc_times dc_over dc__law_mixed dc__law_purse dc__law_take dc__law_at dc__law_low dc__law_plus dc__law_by dc__law_not dc__law_number dc__law_is_whole dc__law_is_number dc__law_class dc__law_divided dc__law_made dc__law_thing dc_law : Value}
    {pm_is_whole pm_common_divisor pm_is_number pm_fraction pm_plus pm_less pm_times pm_over pm__law_mixed pm__law_purse pm__law_take pm__law_at pm__law_low pm__law_plus pm__law_by pm__law_not pm__law_number pm__law_is_whole pm__law_is_number pm__law_class pm__law_divided pm__law_made pm__law_thing pm_law : Value}
    {cd_is_whole cd_common_divisor cd_is_number cd_fraction cd_plus cd_less cd_times cd_over cd__law_mixed cd__law_purse cd__law_take cd__law_at cd__law_low cd__law_plus cd__law_by cd__law_not cd__law_number cd__law_is_whole cd__law_is_number cd__law_class cd__law_divided cd__law_made cd__law_thing cd_law : Value}
    {ct_is_whole ct_common_divisor ct_is_number ct_fraction ct_plus ct_less ct_times ct_over ct__law_mixed ct__law_purse ct__law_take ct__law_at ct__law_low ct__law_plus ct__law_by ct__law_not ct__law_number ct__law_is_whole ct__law_is_number ct__law_class ct__law_divided ct__law_made ct__law_thing ct_law : Value}
    (a_is_whole : PySem.W.nsIn K mainGlobals "is_whole" = some (some (.ref f_is_whole)))
    (l_is_whole : K.lookup f_is_whole = some ⟨oc_is_whole, od_is_whole, .func (PySem.W.fnOf "is_whole" "is_whole" (defArgs s_is_whole) (defBody s_is_whole) (defScope s_is_whole) .none kV_is_whole dc_is_whole pm_is_whole an_is_whole cd_is_whole ct_is_whole), sl_is_whole⟩)
    (c_is_whole : PySem.W.codeIn K cd_is_whole "is_whole" = true)
    (kp_is_whole : PySem.W.keepIn K (.ref f_is_whole) = true)
    (a_common_divisor : PySem.W.nsIn K mainGlobals "common_divisor" = some (some (.ref f_common_divisor)))
    (l_common_divisor : K.lookup f_common_divisor = some ⟨oc_common_divisor, od_common_divisor, .func (PySem.W.fnOf "common_divisor" "common_divisor" (defArgs s_common_divisor) (defBody s_common_divisor) (defScope s_common_divisor) .none kV_common_divisor dc_common_divisor pm_common_divisor an_common_divisor cd_common_divisor ct_common_divisor), sl_common_divisor⟩)
    (c_common_divisor : PySem.W.codeIn K cd_common_divisor "common_divisor" = true)
    (kp_common_divisor : PySem.W.keepIn K (.ref f_common_divisor) = true)
    (a_is_number : PySem.W.nsIn K mainGlobals "is_number" = some (some (.ref f_is_number)))
    (l_is_number : K.lookup f_is_number = some ⟨oc_is_number, od_is_number, .func (PySem.W.fnOf "is_number" "is_number" (defArgs s_is_number) (defBody s_is_number) (defScope s_is_number) .none kV_is_number dc_is_number pm_is_number an_is_number cd_is_number ct_is_number), sl_is_number⟩)
    (c_is_number : PySem.W.codeIn K cd_is_number "is_number" = true)
    (kp_is_number : PySem.W.keepIn K (.ref f_is_number) = true)
    (a_fraction : PySem.W.nsIn K mainGlobals "fraction" = some (some (.ref f_fraction)))
    (l_fraction : K.lookup f_fraction = some ⟨oc_fraction, od_fraction, .func (PySem.W.fnOf "fraction" "fraction" (defArgs s_fraction) (defBody s_fraction) (defScope s_fraction) .none kV_fraction dc_fraction pm_fraction an_fraction cd_fraction ct_fraction), sl_fraction⟩)
    (c_fraction : PySem.W.codeIn K cd_fraction "fraction" = true)
    (kp_fraction : PySem.W.keepIn K (.ref f_fraction) = true)
    (a_plus : PySem.W.nsIn K mainGlobals "plus" = some (some (.ref f_plus)))
    (l_plus : K.lookup f_plus = some ⟨oc_plus, od_plus, .func (PySem.W.fnOf "plus" "plus" (defArgs s_plus) (defBody s_plus) (defScope s_plus) .none kV_plus dc_plus pm_plus an_plus cd_plus ct_plus), sl_plus⟩)
    (c_plus : PySem.W.codeIn K cd_plus "plus" = true)
    (kp_plus : PySem.W.keepIn K (.ref f_plus) = true)
    (a_less : PySem.W.nsIn K mainGlobals "less" = some (some (.ref f_less)))
    (l_less : K.lookup f_less = some ⟨oc_less, od_less, .func (PySem.W.fnOf "less" "less" (defArgs s_less) (defBody s_less) (defScope s_less) .none kV_less dc_less pm_less an_less cd_less ct_less), sl_less⟩)
    (c_less : PySem.W.codeIn K cd_less "less" = true)
    (kp_less : PySem.W.keepIn K (.ref f_less) = true)
    (a_times : PySem.W.nsIn K mainGlobals "times" = some (some (.ref f_times)))
    (l_times : K.lookup f_times = some ⟨oc_times, od_times, .func (PySem.W.fnOf "times" "times" (defArgs s_times) (defBody s_times) (defScope s_times) .none kV_times dc_times pm_times an_times cd_times ct_times), sl_times⟩)
    (c_times : PySem.W.codeIn K cd_times "times" = true)
    (kp_times : PySem.W.keepIn K (.ref f_times) = true)
    (a_over : PySem.W.nsIn K mainGlobals "over" = some (some (.ref f_over)))
    (l_over : K.lookup f_over = some ⟨oc_over, od_over, .func (PySem.W.fnOf "over" "over" (defArgs s_over) (defBody s_over) (defScope s_over) .none kV_over dc_over pm_over an_over cd_over ct_over), sl_over⟩)
    (c_over : PySem.W.codeIn K cd_over "over" = true)
    (kp_over : PySem.W.keepIn K (.ref f_over) = true)
    (a__law_mixed : PySem.W.nsIn K mainGlobals "_law_mixed" = some (some (.ref f__law_mixed)))
    (l__law_mixed : K.lookup f__law_mixed = some ⟨oc__law_mixed, od__law_mixed, .func (PySem.W.fnOf "_law_mixed" "_law_mixed" (defArgs s__law_mixed) (defBody s__law_mixed) (defScope s__law_mixed) .none kV__law_mixed dc__law_mixed pm__law_mixed an__law_mixed cd__law_mixed ct__law_mixed), sl__law_mixed⟩)
    (c__law_mixed : PySem.W.codeIn K cd__law_mixed "_law_mixed" = true)
    (kp__law_mixed : PySem.W.keepIn K (.ref f__law_mixed) = true)
    (a__law_purse : PySem.W.nsIn K mainGlobals "_law_purse" = some (some (.ref f__law_purse)))
    (l__law_purse : K.lookup f__law_purse = some ⟨oc__law_purse, od__law_purse, .func (PySem.W.fnOf "_law_purse" "_law_purse" (defArgs s__law_purse) (defBody s__law_purse) (defScope s__law_purse) .none kV__law_purse dc__law_purse pm__law_purse an__law_purse cd__law_purse ct__law_purse), sl__law_purse⟩)
    (c__law_purse : PySem.W.codeIn K cd__law_purse "_law_purse" = true)
    (kp__law_purse : PySem.W.keepIn K (.ref f__law_purse) = true)
    (a__law_take : PySem.W.nsIn K mainGlobals "_law_take" = some (some (.ref f__law_take)))
    (l__law_take : K.lookup f__law_take = some ⟨oc__law_take, od__law_take, .func (PySem.W.fnOf "_law_take" "_law_take" (defArgs s__law_take) (defBody s__law_take) (defScope s__law_take) .none kV__law_take dc__law_take pm__law_take an__law_take cd__law_take ct__law_take), sl__law_take⟩)
    (c__law_take : PySem.W.codeIn K cd__law_take "_law_take" = true)
    (kp__law_take : PySem.W.keepIn K (.ref f__law_take) = true)
    (a__law_at : PySem.W.nsIn K mainGlobals "_law_at" = some (some (.ref f__law_at)))
    (l__law_at : K.lookup f__law_at = some ⟨oc__law_at, od__law_at, .func (PySem.W.fnOf "_law_at" "_law_at" (defArgs s__law_at) (defBody s__law_at) (defScope s__law_at) .none kV__law_at dc__law_at pm__law_at an__law_at cd__law_at ct__law_at), sl__law_at⟩)
    (c__law_at : PySem.W.codeIn K cd__law_at "_law_at" = true)
    (kp__law_at : PySem.W.keepIn K (.ref f__law_at) = true)
    (a__law_low : PySem.W.nsIn K mainGlobals "_law_low" = some (some (.ref f__law_low)))
    (l__law_low : K.lookup f__law_low = some ⟨oc__law_low, od__law_low, .func (PySem.W.fnOf "_law_low" "_law_low" (defArgs s__law_low) (defBody s__law_low) (defScope s__law_low) .none kV__law_low dc__law_low pm__law_low an__law_low cd__law_low ct__law_low), sl__law_low⟩)
    (c__law_low : PySem.W.codeIn K cd__law_low "_law_low" = true)
    (kp__law_low : PySem.W.keepIn K (.ref f__law_low) = true)
    (a__law_plus : PySem.W.nsIn K mainGlobals "_law_plus" = some (some (.ref f__law_plus)))
    (l__law_plus : K.lookup f__law_plus = some ⟨oc__law_plus, od__law_plus, .func (PySem.W.fnOf "_law_plus" "_law_plus" (defArgs s__law_plus) (defBody s__law_plus) (defScope s__law_plus) .none kV__law_plus dc__law_plus pm__law_plus an__law_plus cd__law_plus ct__law_plus), sl__law_plus⟩)
    (c__law_plus : PySem.W.codeIn K cd__law_plus "_law_plus" = true)
    (kp__law_plus : PySem.W.keepIn K (.ref f__law_plus) = true)
    (a__law_by : PySem.W.nsIn K mainGlobals "_law_by" = some (some (.ref f__law_by)))
    (l__law_by : K.lookup f__law_by = some ⟨oc__law_by, od__law_by, .func (PySem.W.fnOf "_law_by" "_law_by" (defArgs s__law_by) (defBody s__law_by) (defScope s__law_by) .none kV__law_by dc__law_by pm__law_by an__law_by cd__law_by ct__law_by), sl__law_by⟩)
    (c__law_by : PySem.W.codeIn K cd__law_by "_law_by" = true)
    (kp__law_by : PySem.W.keepIn K (.ref f__law_by) = true)
    (a__law_not : PySem.W.nsIn K mainGlobals "_law_not" = some (some (.ref f__law_not)))
    (l__law_not : K.lookup f__law_not = some ⟨oc__law_not, od__law_not, .func (PySem.W.fnOf "_law_not" "_law_not" (defArgs s__law_not) (defBody s__law_not) (defScope s__law_not) .none kV__law_not dc__law_not pm__law_not an__law_not cd__law_not ct__law_not), sl__law_not⟩)
    (c__law_not : PySem.W.codeIn K cd__law_not "_law_not" = true)
    (kp__law_not : PySem.W.keepIn K (.ref f__law_not) = true)
    (a__law_number : PySem.W.nsIn K mainGlobals "_law_number" = some (some (.ref f__law_number)))
    (l__law_number : K.lookup f__law_number = some ⟨oc__law_number, od__law_number, .func (PySem.W.fnOf "_law_number" "_law_number" (defArgs s__law_number) (defBody s__law_number) (defScope s__law_number) .none kV__law_number dc__law_number pm__law_number an__law_number cd__law_number ct__law_number), sl__law_number⟩)
    (c__law_number : PySem.W.codeIn K cd__law_number "_law_number" = true)
    (kp__law_number : PySem.W.keepIn K (.ref f__law_number) = true)
    (a__law_is_whole : PySem.W.nsIn K mainGlobals "_law_is_whole" = some (some (.ref f__law_is_whole)))
    (l__law_is_whole : K.lookup f__law_is_whole = some ⟨oc__law_is_whole, od__law_is_whole, .func (PySem.W.fnOf "_law_is_whole" "_law_is_whole" (defArgs s__law_is_whole) (defBody s__law_is_whole) (defScope s__law_is_whole) .none kV__law_is_whole dc__law_is_whole pm__law_is_whole an__law_is_whole cd__law_is_whole ct__law_is_whole), sl__law_is_whole⟩)
    (c__law_is_whole : PySem.W.codeIn K cd__law_is_whole "_law_is_whole" = true)
    (kp__law_is_whole : PySem.W.keepIn K (.ref f__law_is_whole) = true)
    (a__law_is_number : PySem.W.nsIn K mainGlobals "_law_is_number" = some (some (.ref f__law_is_number)))
    (l__law_is_number : K.lookup f__law_is_number = some ⟨oc__law_is_number, od__law_is_number, .func (PySem.W.fnOf "_law_is_number" "_law_is_number" (defArgs s__law_is_number) (defBody s__law_is_number) (defScope s__law_is_number) .none kV__law_is_number dc__law_is_number pm__law_is_number an__law_is_number cd__law_is_number ct__law_is_number), sl__law_is_number⟩)
    (c__law_is_number : PySem.W.codeIn K cd__law_is_number "_law_is_number" = true)
    (kp__law_is_number : PySem.W.keepIn K (.ref f__law_is_number) = true)
    (a__law_class : PySem.W.nsIn K mainGlobals "_law_class" = some (some (.ref f__law_class)))
    (l__law_class : K.lookup f__law_class = some ⟨oc__law_class, od__law_class, .func (PySem.W.fnOf "_law_class" "_law_class" (defArgs s__law_class) (defBody s__law_class) (defScope s__law_class) .none kV__law_class dc__law_class pm__law_class an__law_class cd__law_class ct__law_class), sl__law_class⟩)
    (c__law_class : PySem.W.codeIn K cd__law_class "_law_class" = true)
    (kp__law_class : PySem.W.keepIn K (.ref f__law_class) = true)
    (a__law_divided : PySem.W.nsIn K mainGlobals "_law_divided" = some (some (.ref f__law_divided)))
    (l__law_divided : K.lookup f__law_divided = some ⟨oc__law_divided, od__law_divided, .func (PySem.W.fnOf "_law_divided" "_law_divided" (defArgs s__law_divided) (defBody s__law_divided) (defScope s__law_divided) .none kV__law_divided dc__law_divided pm__law_divided an__law_divided cd__law_divided ct__law_divided), sl__law_divided⟩)
    (c__law_divided : PySem.W.codeIn K cd__law_divided "_law_divided" = true)
    (kp__law_divided : PySem.W.keepIn K (.ref f__law_divided) = true)
    (a__law_made : PySem.W.nsIn K mainGlobals "_law_made" = some (some (.ref f__law_made)))
    (l__law_made : K.lookup f__law_made = some ⟨oc__law_made, od__law_made, .func (PySem.W.fnOf "_law_made" "_law_made" (defArgs s__law_made) (defBody s__law_made) (defScope s__law_made) .none kV__law_made dc__law_made pm__law_made an__law_made cd__law_made ct__law_made), sl__law_made⟩)
    (c__law_made : PySem.W.codeIn K cd__law_made "_law_made" = true)
    (kp__law_made : PySem.W.keepIn K (.ref f__law_made) = true)
    (a__law_thing : PySem.W.nsIn K mainGlobals "_law_thing" = some (some (.ref f__law_thing)))
    (l__law_thing : K.lookup f__law_thing = some ⟨oc__law_thing, od__law_thing, .func (PySem.W.fnOf "_law_thing" "_law_thing" (defArgs s__law_thing) (defBody s__law_thing) (defScope s__law_thing) .none kV__law_thing dc__law_thing pm__law_thing an__law_thing cd__law_thing ct__law_thing), sl__law_thing⟩)
    (c__law_thing : PySem.W.codeIn K cd__law_thing "_law_thing" = true)
    (kp__law_thing : PySem.W.keepIn K (.ref f__law_thing) = true)
    (a_law : PySem.W.nsIn K mainGlobals "law" = some (some (.ref f_law)))
    (l_law : K.lookup f_law = some ⟨oc_law, od_law, .func (PySem.W.fnOf "law" "law" (defArgs s_law) (defBody s_law) (defScope s_law) .none kV_law dc_law pm_law an_law cd_law ct_law), sl_law⟩)
    (c_law : PySem.W.codeIn K cd_law "law" = true)
    (kp_law : PySem.W.keepIn K (.ref f_law) = true)
    (m_Broken : PySem.W.nsIn K mainGlobals "Broken" = some (some (.ref aBroken)))
    (m_NoCount : PySem.W.nsIn K mainGlobals "NoCount" = some (some (.ref aNoCount)))
    (m_NoDeed : PySem.W.nsIn K mainGlobals "NoDeed" = some (some (.ref aNoDeed)))
    (m_NoLeast : PySem.W.nsIn K mainGlobals "NoLeast" = some (some (.ref aNoLeast)))
    (m_NoLine : PySem.W.nsIn K mainGlobals "NoLine" = some (some (.ref aNoLine)))
    (m_NoMatch : PySem.W.nsIn K mainGlobals "NoMatch" = some (some (.ref aNoMatch)))
    (m_NoName : PySem.W.nsIn K mainGlobals "NoName" = some (some (.ref aNoName)))
    (m_NoNumber : PySem.W.nsIn K mainGlobals "NoNumber" = some (some (.ref aNoNumber)))
    (m_NoPair : PySem.W.nsIn K mainGlobals "NoPair" = some (some (.ref aNoPair)))
    (m_NoPlace : PySem.W.nsIn K mainGlobals "NoPlace" = some (some (.ref aNoPlace)))
    (m_NoRow : PySem.W.nsIn K mainGlobals "NoRow" = some (some (.ref aNoRow)))
    (m_NoShelf : PySem.W.nsIn K mainGlobals "NoShelf" = some (some (.ref aNoShelf)))
    (m_NoSquare : PySem.W.nsIn K mainGlobals "NoSquare" = some (some (.ref aNoSquare)))
    (m_NoSum : PySem.W.nsIn K mainGlobals "NoSum" = some (some (.ref aNoSum)))
    (m_NoText : PySem.W.nsIn K mainGlobals "NoText" = some (some (.ref aNoText)))
    (m_NoTree : PySem.W.nsIn K mainGlobals "NoTree" = some (some (.ref aNoTree)))
    (m_NoWord : PySem.W.nsIn K mainGlobals "NoWord" = some (some (.ref aNoWord)))
    (m_NotActing : PySem.W.nsIn K mainGlobals "NotActing" = some (some (.ref aNotActing)))
    (m_NotBare : PySem.W.nsIn K mainGlobals "NotBare" = some (some (.ref aNotBare)))
    (m_NotEaten : PySem.W.nsIn K mainGlobals "NotEaten" = some (some (.ref aNotEaten)))
    (m_NotFree : PySem.W.nsIn K mainGlobals "NotFree" = some (some (.ref aNotFree)))
    (m_NotGap : PySem.W.nsIn K mainGlobals "NotGap" = some (some (.ref aNotGap)))
    (m_NotKept : PySem.W.nsIn K mainGlobals "NotKept" = some (some (.ref aNotKept)))
    (m_NotNought : PySem.W.nsIn K mainGlobals "NotNought" = some (some (.ref aNotNought)))
    (m_NotOne : PySem.W.nsIn K mainGlobals "NotOne" = some (some (.ref aNotOne)))
    (m_TooDeep : PySem.W.nsIn K mainGlobals "TooDeep" = some (some (.ref aTooDeep)))
    (m_TooLong : PySem.W.nsIn K mainGlobals "TooLong" = some (some (.ref aTooLong)))
    (m_SwapError : PySem.W.nsIn K mainGlobals "SwapError" = some (some (.ref aSwapError)))
    (q_Broken : PySem.W.kitOne K (.ref aNoNumber) (.ref aBroken) = some false)
    (q_NoCount : PySem.W.kitOne K (.ref aNoNumber) (.ref aNoCount) = some false)
    (q_NoDeed : PySem.W.kitOne K (.ref aNoNumber) (.ref aNoDeed) = some false)
    (q_NoLeast : PySem.W.kitOne K (.ref aNoNumber) (.ref aNoLeast) = some false)
    (q_NoLine : PySem.W.kitOne K (.ref aNoNumber) (.ref aNoLine) = some false)
    (q_NoMatch : PySem.W.kitOne K (.ref aNoNumber) (.ref aNoMatch) = some false)
    (q_NoName : PySem.W.kitOne K (.ref aNoNumber) (.ref aNoName) = some false)
    (q_NoNumber : PySem.W.kitOne K (.ref aNoNumber) (.ref aNoNumber) = some true)
    (q_NoPair : PySem.W.kitOne K (.ref aNoNumber) (.ref aNoPair) = some false)
    (q_NoPlace : PySem.W.kitOne K (.ref aNoNumber) (.ref aNoPlace) = some false)
    (q_NoRow : PySem.W.kitOne K (.ref aNoNumber) (.ref aNoRow) = some false)
    (q_NoShelf : PySem.W.kitOne K (.ref aNoNumber) (.ref aNoShelf) = some false)
    (q_NoSquare : PySem.W.kitOne K (.ref aNoNumber) (.ref aNoSquare) = some false)
    (q_NoSum : PySem.W.kitOne K (.ref aNoNumber) (.ref aNoSum) = some false)
    (q_NoText : PySem.W.kitOne K (.ref aNoNumber) (.ref aNoText) = some false)
    (q_NoTree : PySem.W.kitOne K (.ref aNoNumber) (.ref aNoTree) = some false)
    (q_NoWord : PySem.W.kitOne K (.ref aNoNumber) (.ref aNoWord) = some false)
    (q_NotActing : PySem.W.kitOne K (.ref aNoNumber) (.ref aNotActing) = some false)
    (q_NotBare : PySem.W.kitOne K (.ref aNoNumber) (.ref aNotBare) = some false)
    (q_NotEaten : PySem.W.kitOne K (.ref aNoNumber) (.ref aNotEaten) = some false)
    (q_NotFree : PySem.W.kitOne K (.ref aNoNumber) (.ref aNotFree) = some false)
    (q_NotGap : PySem.W.kitOne K (.ref aNoNumber) (.ref aNotGap) = some false)
    (q_NotKept : PySem.W.kitOne K (.ref aNoNumber) (.ref aNotKept) = some false)
    (q_NotNought : PySem.W.kitOne K (.ref aNoNumber) (.ref aNotNought) = some false)
    (q_NotOne : PySem.W.kitOne K (.ref aNoNumber) (.ref aNotOne) = some false)
    (q_TooDeep : PySem.W.kitOne K (.ref aNoNumber) (.ref aTooDeep) = some false)
    (q_TooLong : PySem.W.kitOne K (.ref aNoNumber) (.ref aTooLong) = some false)
    (q_SwapError : PySem.W.kitOne K (.ref aNoNumber) (.ref aSwapError) = some true)
    (qV : PySem.W.kitOne K (.ref aNoNumber) (.type "ValueError") = some true)
    (xN : PySem.W.excIn K aNoNumber bmVal "Exception.__new__" = true ∨ PySem.W.excIn K aNoNumber bmVal "ValueError.__new__" = true)
    (tyS : PySem.W.typeIn K (.ref aSwapError) = some (.type "type"))
    (beS : PySem.W.subIn K (.ref aSwapError) (.type "BaseException") = some true)
    (sbN : PySem.W.subIn K (.ref aNoNumber) (.ref aSwapError) = some true)
    (gaN : PySem.W.findIn K (.ref aNoNumber) "__getattribute__" = some (some (.builtin "BaseException.__getattribute__")))
    (gnN : PySem.W.findIn K (.ref aNoNumber) "__getattr__" = some none)
    (clN : PySem.W.findIn K (.ref aNoNumber) "__class__" = some (some (.builtin "object.__class__")))
    (beN : PySem.W.subIn K (.ref aNoNumber) (.type "BaseException") = some true)
    (obN : PySem.W.mroIn K aNoNumber (.type "object") = some true)
    (n_abs : PySem.W.nsIn K mainGlobals "abs" = some none)
    (n_isinstance : PySem.W.nsIn K mainGlobals "isinstance" = some none)
    (n_int : PySem.W.nsIn K mainGlobals "int" = some none)
    (n_bool : PySem.W.nsIn K mainGlobals "bool" = some none)
    (n_tuple : PySem.W.nsIn K mainGlobals "tuple" = some none)
    (n_len : PySem.W.nsIn K mainGlobals "len" = some none)
    (n_sum : PySem.W.nsIn K mainGlobals "sum" = some none)
    (n_ValueError : PySem.W.nsIn K mainGlobals "ValueError" = some none) :
    ∃ fd : FuncData, (∀ (s : Shared) (v : Value), BindsTo s fd ⟨[v], []⟩ [("_law_script", v)]) ∧ ∀ base : Heap, K.In base → base.Ns mainGlobals mg → FnOk l.prog w K mg base (CXe l.prog w) 5 fa fd ["_law_script"] (sp_law K) := by
  have e := hfa.symm.trans (PySem.W.mg_of X G a_law)
  cases e
  have F_is_whole := fun_mk (st := s_is_whole) l_is_whole c_is_whole kp_is_whole
  have H_is_whole : Has K mg "is_whole" s_is_whole := ⟨_, _, PySem.W.mg_of X G a_is_whole, F_is_whole⟩
  have F_common_divisor := fun_mk (st := s_common_divisor) l_common_divisor c_common_divisor kp_common_divisor
  have H_common_divisor : Has K mg "common_divisor" s_common_divisor := ⟨_, _, PySem.W.mg_of X G a_common_divisor, F_common_divisor⟩
  have F_is_number := fun_mk (st := s_is_number) l_is_number c_is_number kp_is_number
  have H_is_number : Has K mg "is_number" s_is_number := ⟨_, _, PySem.W.mg_of X G a_is_number, F_is_number⟩
  have F_fraction := fun_mk (st := s_fraction) l_fraction c_fraction kp_fraction
  have H_fraction : Has K mg "fraction" s_fraction := ⟨_, _, PySem.W.mg_of X G a_fraction, F_fraction⟩
  have F_plus := fun_mk (st := s_plus) l_plus c_plus kp_plus
  have H_plus : Has K mg "plus" s_plus := ⟨_, _, PySem.W.mg_of X G a_plus, F_plus⟩
  have F_less := fun_mk (st := s_less) l_less c_less kp_less
  have H_less : Has K mg "less" s_less := ⟨_, _, PySem.W.mg_of X G a_less, F_less⟩
  have F_times := fun_mk (st := s_times) l_times c_times kp_times
  have H_times : Has K mg "times" s_times := ⟨_, _, PySem.W.mg_of X G a_times, F_times⟩
  have F_over := fun_mk (st := s_over) l_over c_over kp_over
  have H_over : Has K mg "over" s_over := ⟨_, _, PySem.W.mg_of X G a_over, F_over⟩
  have F__law_mixed := fun_mk (st := s__law_mixed) l__law_mixed c__law_mixed kp__law_mixed
  have H__law_mixed : Has K mg "_law_mixed" s__law_mixed := ⟨_, _, PySem.W.mg_of X G a__law_mixed, F__law_mixed⟩
  have F__law_purse := fun_mk (st := s__law_purse) l__law_purse c__law_purse kp__law_purse
  have H__law_purse : Has K mg "_law_purse" s__law_purse := ⟨_, _, PySem.W.mg_of X G a__law_purse, F__law_purse⟩
  have F__law_take := fun_mk (st := s__law_take) l__law_take c__law_take kp__law_take
  have H__law_take : Has K mg "_law_take" s__law_take := ⟨_, _, PySem.W.mg_of X G a__law_take, F__law_take⟩
  have F__law_at := fun_mk (st := s__law_at) l__law_at c__law_at kp__law_at
  have H__law_at : Has K mg "_law_at" s__law_at := ⟨_, _, PySem.W.mg_of X G a__law_at, F__law_at⟩
  have F__law_low := fun_mk (st := s__law_low) l__law_low c__law_low kp__law_low
  have H__law_low : Has K mg "_law_low" s__law_low := ⟨_, _, PySem.W.mg_of X G a__law_low, F__law_low⟩
  have F__law_plus := fun_mk (st := s__law_plus) l__law_plus c__law_plus kp__law_plus
  have H__law_plus : Has K mg "_law_plus" s__law_plus := ⟨_, _, PySem.W.mg_of X G a__law_plus, F__law_plus⟩
  have F__law_by := fun_mk (st := s__law_by) l__law_by c__law_by kp__law_by
  have H__law_by : Has K mg "_law_by" s__law_by := ⟨_, _, PySem.W.mg_of X G a__law_by, F__law_by⟩
  have F__law_not := fun_mk (st := s__law_not) l__law_not c__law_not kp__law_not
  have H__law_not : Has K mg "_law_not" s__law_not := ⟨_, _, PySem.W.mg_of X G a__law_not, F__law_not⟩
  have F__law_number := fun_mk (st := s__law_number) l__law_number c__law_number kp__law_number
  have H__law_number : Has K mg "_law_number" s__law_number := ⟨_, _, PySem.W.mg_of X G a__law_number, F__law_number⟩
  have F__law_is_whole := fun_mk (st := s__law_is_whole) l__law_is_whole c__law_is_whole kp__law_is_whole
  have H__law_is_whole : Has K mg "_law_is_whole" s__law_is_whole := ⟨_, _, PySem.W.mg_of X G a__law_is_whole, F__law_is_whole⟩
  have F__law_is_number := fun_mk (st := s__law_is_number) l__law_is_number c__law_is_number kp__law_is_number
  have H__law_is_number : Has K mg "_law_is_number" s__law_is_number := ⟨_, _, PySem.W.mg_of X G a__law_is_number, F__law_is_number⟩
  have F__law_class := fun_mk (st := s__law_class) l__law_class c__law_class kp__law_class
  have H__law_class : Has K mg "_law_class" s__law_class := ⟨_, _, PySem.W.mg_of X G a__law_class, F__law_class⟩
  have F__law_divided := fun_mk (st := s__law_divided) l__law_divided c__law_divided kp__law_divided
  have H__law_divided : Has K mg "_law_divided" s__law_divided := ⟨_, _, PySem.W.mg_of X G a__law_divided, F__law_divided⟩
  have F__law_made := fun_mk (st := s__law_made) l__law_made c__law_made kp__law_made
  have H__law_made : Has K mg "_law_made" s__law_made := ⟨_, _, PySem.W.mg_of X G a__law_made, F__law_made⟩
  have F__law_thing := fun_mk (st := s__law_thing) l__law_thing c__law_thing kp__law_thing
  have H__law_thing : Has K mg "_law_thing" s__law_thing := ⟨_, _, PySem.W.mg_of X G a__law_thing, F__law_thing⟩
  have F_law := fun_mk (st := s_law) l_law c_law kp_law
  have B : BltV mg := ⟨⟨PySem.W.mg_none_of X G n_abs, PySem.W.mg_none_of X G n_isinstance, PySem.W.mg_none_of X G n_int, PySem.W.mg_none_of X G n_bool, PySem.W.mg_none_of X G n_tuple, PySem.W.mg_none_of X G n_len, PySem.W.mg_none_of X G n_sum⟩, PySem.W.mg_none_of X G n_ValueError⟩
  let t : Adr := ⟨aBroken, aNoCount, aNoDeed, aNoLeast, aNoLine, aNoMatch, aNoName, aNoNumber, aNoPair, aNoPlace, aNoRow, aNoShelf, aNoSquare, aNoSum, aNoText, aNoTree, aNoWord, aNotActing, aNotBare, aNotEaten, aNotFree, aNotGap, aNotKept, aNotNought, aNotOne, aTooDeep, aTooLong, aSwapError⟩
  have C : ClsA K mg t := ⟨xN, ⟨tyS, cls_some beS, beS⟩, sbN, ⟨gaN, gnN, clN, beN, obN, cls_some beN⟩, qV, PySem.W.mg_of X G m_Broken, q_Broken, PySem.W.mg_of X G m_NoCount, q_NoCount, PySem.W.mg_of X G m_NoDeed, q_NoDeed, PySem.W.mg_of X G m_NoLeast, q_NoLeast, PySem.W.mg_of X G m_NoLine, q_NoLine, PySem.W.mg_of X G m_NoMatch, q_NoMatch, PySem.W.mg_of X G m_NoName, q_NoName, PySem.W.mg_of X G m_NoNumber, q_NoNumber, PySem.W.mg_of X G m_NoPair, q_NoPair, PySem.W.mg_of X G m_NoPlace, q_NoPlace, PySem.W.mg_of X G m_NoRow, q_NoRow, PySem.W.mg_of X G m_NoShelf, q_NoShelf, PySem.W.mg_of X G m_NoSquare, q_NoSquare, PySem.W.mg_of X G m_NoSum, q_NoSum, PySem.W.mg_of X G m_NoText, q_NoText, PySem.W.mg_of X G m_NoTree, q_NoTree, PySem.W.mg_of X G m_NoWord, q_NoWord, PySem.W.mg_of X G m_NotActing, q_NotActing, PySem.W.mg_of X G m_NotBare, q_NotBare, PySem.W.mg_of X G m_NotEaten, q_NotEaten, PySem.W.mg_of X G m_NotFree, q_NotFree, PySem.W.mg_of X G m_NotGap, q_NotGap, PySem.W.mg_of X G m_NotKept, q_NotKept, PySem.W.mg_of X G m_NotNought, q_NotNought, PySem.W.mg_of X G m_NotOne, q_NotOne, PySem.W.mg_of X G m_TooDeep, q_TooDeep, PySem.W.mg_of X G m_TooLong, q_TooLong, PySem.W.mg_of X G m_SwapError, q_SwapError⟩
  have C1 : Cls1 K mg aNoNumber := ⟨C.m_NoNumber, C.x_NoNumber⟩
  have C2 : Cls2 K mg aNoNumber aSwapError := ⟨C.m_SwapError, C.c_SwapError, C.sub⟩
  refine ⟨PySem.W.fnOf "law" "law" (defArgs s_law) (defBody s_law) (defScope s_law) .none kV_law dc_law pm_law an_law cd_law ct_law, fun s v => .of_eq rfl, fun base _ _ => ?_⟩
  · have d_common_divisor := k_common_divisor (P := l.prog) (w := w) (base := base) H_common_divisor B.toBlt
    have d_is_whole := k_is_whole (P := l.prog) (w := w) (base := base) H_is_whole B.toBlt
    have d_is_number := k_is_number H_is_number B.toBlt d_is_whole d_common_divisor
    have d_fraction := k_fraction H_fraction B.toBlt C1 d_common_divisor
    have d_plus := k_plus H_plus d_common_divisor
    have d_less := k_less H_less d_plus
    have d_times := k_times H_times d_common_divisor
    have d_over := k_over H_over C1 d_times
    have d_mixed := k__law_mixed (P := l.prog) (w := w) (base := base) H__law_mixed
    have d_purse := k__law_purse H__law_purse d_mixed
    have d_take := k__law_take H__law_take d_mixed
    have d_at := k__law_at (P := l.prog) (w := w) (base := base) H__law_at B.toBlt
    have d_low := k__law_low (P := l.prog) (w := w) (base := base) H__law_low B.toBlt
    have d_lplus := k__law_plus H__law_plus d_low
    have d_lby := k__law_by H__law_by d_low
    have d_lnot := k__law_not (P := l.prog) (w := w) (base := base) H__law_not
    have d_number := k__law_number H__law_number d_take d_low
    have d_lwhole := k__law_is_whole (P := l.prog) (w := w) (base := base) H__law_is_whole B.toBlt
    have d_lnum := k__law_is_number H__law_is_number B.toBlt d_lwhole d_low
    have d_class := k__law_class (P := l.prog) (w := w) (base := base) H__law_class B C
    have d_divided := k__law_divided H__law_divided C2 d_over
    have d_made := k__law_made H__law_made C2 d_fraction
    have d_thing := k__law_thing H__law_thing d_take d_number
    exact k_law F_law B C d_plus d_less d_times d_is_number d_purse d_take d_at d_number d_lnum d_lplus d_lby d_lnot d_divided d_made d_class d_thing
theorem walk {l : PySem.W.OpenLaw} {q : Program} {loose : List Str} {XP : (Str → Option Value) → Heap → Prop} {YP : World → Heap → Prop} {d : DefRec} {K : Params → PySem.W.Frag} (hn : l.most = some 63) (hdf : d.params.defaults = [])
    (hY : ∀ (w : World) (h : Heap), YP w h → (K w.params).In h)
    (F : ∀ (w : World) (mg : Str → Option Value) (fa : Addr) (h : Heap), (K w.params).In h → h.Ns mainGlobals mg → mg d.name = some (.ref fa) →
      ∃ fd : FuncData, (∀ (s : Shared) (u : Value), BindsTo s fd ⟨[u], []⟩ [("_law_script", u)]) ∧ ∀ base : Heap, (K w.params).In base → base.Ns mainGlobals mg → FnOk l.prog w (K w.params) mg base (CXe l.prog w) 5 fa fd ["_law_script"] (sp_law (K w.params))) :
    PySem.W.WalkO q loose XP YP l.row.toRowW d [] (fun f vs => PySem.call f vs) :=
  L2.walk_of (n := 63) (k := 5) (x := "_law_script") (CX := fun w => CXe l.prog w) (sp := fun w => sp_law (K w.params)) hn (by decide) hdf ⟨rfl, by decide, by decide⟩ hY F (fun _ _ a ns hl _ hS => ⟨a, ns, rfl, hS, hl, fun _ => rfl⟩) fun _ _ _ _ _ ⟨_, _, _, _, _, _, _, _, _, _, _, _, _, _, _, z⟩ => z
end K1

open PySem PySem.W PyProof.Rows
set_option Elab.async false
set_option linter.all false
set_option maxRecDepth 100000
set_option maxHeartbeats 0
theorem PySem.W.Fast.tw1310944521214732992 : True := trivial
theorem PySem.W.Fast.tw3615178456390077923 : True := trivial
theorem PySem.W.Fast.tw2786648768249225349 : True := trivial
theorem PySem.W.Fast.tw8892601084892991942 : True := trivial
theorem PySem.W.Fast.tw11521511281804667912 : True := trivial
theorem PySem.W.Fast.tw10374632558016547081 : True := trivial
theorem PySem.W.Fast.tw17724038513149304489 : True := trivial
theorem PySem.W.Fast.tw6427576097997697322 : True := trivial
theorem PySem.W.Fast.tw17653592248189364939 : True := trivial
theorem PySem.W.Fast.tw938635154573522699 : True := trivial
theorem PySem.W.Fast.tw17436347208924269582 : True := trivial
theorem PySem.W.Fast.tw7210419397980301998 : True := trivial
theorem PySem.W.Fast.tw7704230158044033006 : True := trivial
theorem PySem.W.Fast.tw7772153672920534736 : True := trivial
theorem PySem.W.Fast.tw13114645530532618160 : True := trivial
theorem PySem.W.Fast.tw11018145951921344529 : True := trivial
theorem PySem.W.Fast.tw17426987436379436081 : True := trivial
theorem PySem.W.Fast.tw861502493610598483 : True := trivial
theorem PySem.W.Fast.tw10042083083395451092 : True := trivial
theorem PySem.W.Fast.tw2305414408130554292 : True := trivial
theorem PySem.W.Fast.tw9380741260308362100 : True := trivial
theorem PySem.W.Fast.tw1478030337931831861 : True := trivial
theorem PySem.W.Fast.tw6677843147175625621 : True := trivial
theorem PySem.W.Fast.tw15163409612377130007 : True := trivial
theorem PySem.W.Fast.tw6605169337270321112 : True := trivial
theorem PySem.W.Fast.tw1831729633985795129 : True := trivial
theorem PySem.W.Fast.tw3998647374267775353 : True := trivial
theorem PySem.W.Fast.tw9546706846438436538 : True := trivial
theorem PySem.W.Fast.tw2706584449700448635 : True := trivial
theorem PySem.W.Fast.tw15070367684371235388 : True := trivial
theorem PySem.W.Fast.tw13141224326027532124 : True := trivial
theorem PySem.W.Fast.tw17606023666067251677 : True := trivial
theorem PySem.W.Fast.tw7108796968134382751 : True := trivial
theorem PySem.W.Fast.tw66635256119213503 : True := trivial
open_top hd for PySem.Challenge.rw_swaprest_k01_numbers

set_option Elab.async false
set_option linter.all false
open PySem PySem.W PyProof.Rows
set_option maxRecDepth 100000 in
set_option maxHeartbeats 0 in
theorem PySem.Challenge.cw_swaprest_k01_numbers_holds : PySem.Challenge.rw_swaprest_k01_numbers.Holds := by
  refine hd ?_
  k_fill
  refine K1.walk (l := PySem.Challenge.rw_swaprest_k01_numbers) rfl rfl (fun w h Y => PySem.W.kIn_of Y) ?F
  case F =>
    intro w mg fa h KX G hmg
    refine' K1.all_mk KX G hmg ?a_is_whole ?l_is_whole ?c_is_whole ?kp_is_whole ?a_common_divisor ?l_common_divisor ?c_common_divisor ?kp_common_divisor ?a_is_number ?l_is_number ?c_is_number ?kp_is_number ?a_fraction ?l_fraction ?c_fraction ?kp_fraction ?a_plus ?l_plus ?c_plus ?kp_plus ?a_less ?l_less ?c_less ?kp_less ?a_times ?l_times ?c_times ?kp_times ?a_over ?l_over ?c_over ?kp_over ?a__law_mixed ?l__law_mixed ?c__law_mixed ?kp__law_mixed ?a__law_purse ?l__law_purse ?c__law_purse ?kp__law_purse ?a__law_take ?l__law_take ?c__law_take ?kp__law_take ?a__law_at ?l__law_at ?c__law_at ?kp__law_at ?a__law_low ?l__law_low ?c__law_low ?kp__law_low ?a__law_plus ?l__law_plus ?c__law_plus ?kp__law_plus ?a__law_by ?l__law_by ?c__law_by ?kp__law_by ?a__law_not ?l__law_not ?c__law_not ?kp__law_not ?a__law_number ?l__law_number ?c__law_number ?kp__law_number ?a__law_is_whole ?l__law_is_whole ?c__law_is_whole ?kp__law_is_whole ?a__law_is_number ?l__law_is_number ?c__law_is_number ?kp__law_is_number ?a__law_class ?l__law_class ?c__law_class ?kp__law_class ?a__law_divided ?l__law_divided ?c__law_divided ?kp__law_divided ?a__law_made ?l__law_made ?c__law_made ?kp__law_made ?a__law_thing ?l__law_thing ?c__law_thing ?kp__law_thing ?a_law ?l_law ?c_law ?kp_law ?m_Broken ?m_NoCount ?m_NoDeed ?m_NoLeast ?m_NoLine ?m_NoMatch ?m_NoName ?m_NoNumber ?m_NoPair ?m_NoPlace ?m_NoRow ?m_NoShelf ?m_NoSquare ?m_NoSum ?m_NoText ?m_NoTree ?m_NoWord ?m_NotActing ?m_NotBare ?m_NotEaten ?m_NotFree ?m_NotGap ?m_NotKept ?m_NotNought ?m_NotOne ?m_TooDeep ?m_TooLong ?m_SwapError ?q_Broken ?q_NoCount ?q_NoDeed ?q_NoLeast ?q_NoLine ?q_NoMatch ?q_NoName ?q_NoNumber ?q_NoPair ?q_NoPlace ?q_NoRow ?q_NoShelf ?q_NoSquare ?q_NoSum ?q_NoText ?q_NoTree ?q_NoWord ?q_NotActing ?q_NotBare ?q_NotEaten ?q_NotFree ?q_NotGap ?q_NotKept ?q_NotNought ?q_NotOne ?q_TooDeep ?q_TooLong ?q_SwapError ?qV ?xN ?tyS ?beS ?sbN ?gaN ?gnN ?clN ?beN ?obN ?n_abs ?n_isinstance ?n_int ?n_bool ?n_tuple ?n_len ?n_sum ?n_ValueError
    (case a_is_whole => k_is)
    (case l_is_whole => k_is)
    (case c_is_whole => k_is)
    (case kp_is_whole => k_is)
    (case a_common_divisor => k_is)
    (case l_common_divisor => k_is)
    (case c_common_divisor => k_is)
    (case kp_common_divisor => k_is)
    (case a_is_number => k_is)
    (case l_is_number => k_is)
    (case c_is_number => k_is)
    (case kp_is_number => k_is)
    (case a_fraction => k_is)
    (case l_fraction => k_is)
    (case c_fraction => k_is)
    (case kp_fraction => k_is)
    (case a_plus => k_is)
    (case l_plus => k_is)
    (case c_plus => k_is)
    (case kp_plus => k_is)
    (case a_less => k_is)
    (case l_less => k_is)
    (case c_less => k_is)
    (case kp_less => k_is)
    (case a_times => k_is)
    (case l_times => k_is)
    (case c_times => k_is)
    (case kp_times => k_is)
    (case a_over => k_is)
    (case l_over => k_is)
    (case c_over => k_is)
    (case kp_over => k_is)
    (case a__law_mixed => k_is)
    (case l__law_mixed => k_is)
    (case c__law_mixed => k_is)
    (case kp__law_mixed => k_is)
    (case a__law_purse => k_is)
    (case l__law_purse => k_is)
    (case c__law_purse => k_is)
    (case kp__law_purse => k_is)
    (case a__law_take => k_is)
    (case l__law_take => k_is)
    (case c__law_take => k_is)
    (case kp__law_take => k_is)
    (case a__law_at => k_is)
    (case l__law_at => k_is)
    (case c__law_at => k_is)
    (case kp__law_at => k_is)
    (case a__law_low => k_is)
    (case l__law_low => k_is)
    (case c__law_low => k_is)
    (case kp__law_low => k_is)
    (case a__law_plus => k_is)
    (case l__law_plus => k_is)
    (case c__law_plus => k_is)
    (case kp__law_plus => k_is)
    (case a__law_by => k_is)
    (case l__law_by => k_is)
    (case c__law_by => k_is)
    (case kp__law_by => k_is)
    (case a__law_not => k_is)
    (case l__law_not => k_is)
    (case c__law_not => k_is)
    (case kp__law_not => k_is)
    (case a__law_number => k_is)
    (case l__law_number => k_is)
    (case c__law_number => k_is)
    (case kp__law_number => k_is)
    (case a__law_is_whole => k_is)
    (case l__law_is_whole => k_is)
    (case c__law_is_whole => k_is)
    (case kp__law_is_whole => k_is)
    (case a__law_is_number => k_is)
    (case l__law_is_number => k_is)
    (case c__law_is_number => k_is)
    (case kp__law_is_number => k_is)
    (case a__law_class => k_is)
    (case l__law_class => k_is)
    (case c__law_class => k_is)
    (case kp__law_class => k_is)
    (case a__law_divided => k_is)
    (case l__law_divided => k_is)
    (case c__law_divided => k_is)
    (case kp__law_divided => k_is)
    (case a__law_made => k_is)
    (case l__law_made => k_is)
    (case c__law_made => k_is)
    (case kp__law_made => k_is)
    (case a__law_thing => k_is)
    (case l__law_thing => k_is)
    (case c__law_thing => k_is)
    (case kp__law_thing => k_is)
    (case a_law => k_is)
    (case l_law => k_is)
    (case c_law => k_is)
    (case kp_law => k_is)
    (case m_Broken => k_is)
    (case m_NoCount => k_is)
    (case m_NoDeed => k_is)
    (case m_NoLeast => k_is)
    (case m_NoLine => k_is)
    (case m_NoMatch => k_is)
    (case m_NoName => k_is)
    (case m_NoNumber => k_is)
    (case m_NoPair => k_is)
    (case m_NoPlace => k_is)
    (case m_NoRow => k_is)
    (case m_NoShelf => k_is)
    (case m_NoSquare => k_is)
    (case m_NoSum => k_is)
    (case m_NoText => k_is)
    (case m_NoTree => k_is)
    (case m_NoWord => k_is)
    (case m_NotActing => k_is)
    (case m_NotBare => k_is)
    (case m_NotEaten => k_is)
    (case m_NotFree => k_is)
    (case m_NotGap => k_is)
    (case m_NotKept => k_is)
    (case m_NotNought => k_is)
    (case m_NotOne => k_is)
    (case m_TooDeep => k_is)
    (case m_TooLong => k_is)
    (case m_SwapError => k_is)
    (case q_Broken => kit_is)
    (case q_NoCount => kit_is)
    (case q_NoDeed => kit_is)
    (case q_NoLeast => kit_is)
    (case q_NoLine => kit_is)
    (case q_NoMatch => kit_is)
    (case q_NoName => kit_is)
    (case q_NoNumber => kit_is)
    (case q_NoPair => kit_is)
    (case q_NoPlace => kit_is)
    (case q_NoRow => kit_is)
    (case q_NoShelf => kit_is)
    (case q_NoSquare => kit_is)
    (case q_NoSum => kit_is)
    (case q_NoText => kit_is)
    (case q_NoTree => kit_is)
    (case q_NoWord => kit_is)
    (case q_NotActing => kit_is)
    (case q_NotBare => kit_is)
    (case q_NotEaten => kit_is)
    (case q_NotFree => kit_is)
    (case q_NotGap => kit_is)
    (case q_NotKept => kit_is)
    (case q_NotNought => kit_is)
    (case q_NotOne => kit_is)
    (case q_TooDeep => kit_is)
    (case q_TooLong => kit_is)
    (case q_SwapError => kit_is)
    (case qV => kit_is)
    (case xN => first | exact .inl (by k_exc) | exact .inr (by k_exc))
    (case tyS => k_is)
    (case beS => k_is)
    (case sbN => k_is)
    (case gaN => k_is)
    (case gnN => k_is)
    (case clN => k_is)
    (case beN => k_is)
    (case obN => k_is)
    (case n_abs => k_is)
    (case n_isinstance => k_is)
    (case n_int => k_is)
    (case n_bool => k_is)
    (case n_tuple => k_is)
    (case n_len => k_is)
    (case n_sum => k_is)
    (case n_ValueError => k_is)

