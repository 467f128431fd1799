import PyProof.Rows.All
import Wide.All
import OpenK.AllK
import Wide.FinOn
import Lean
import PyProof.EqAt
import PyProof.EqKinds
import PyProof.TupleCall
import PyProof.EqLayable
import PyProof.StationsW
import PyProof.NsDelKeeps
import PyProof.ExcArgsOwn
import PyProof.ExcAttrAll.ValueError
import PyProof.ZipIter
import PyProof.EnumFor
import PyProof.EnumStmt
import PyProof.EnumMake
import PyProof.ConsumeWalk
import PyProof.Cells
import PyProof.CompUse
import PyProof.DictIter
import PyProof.DictWalks
import PyProof.CollectWalk
import PyProof.WalksS
import PyProof.P3Statements
import PySem.Challenge.RW_swaprest_k52_least_words_told
set_option Elab.async false
set_option linter.all false
set_option maxRecDepth 100000
namespace L2
open PySem PySem.Spec PyProof.Rows
abbrev Key := Sum Int Str
def keyIs : Key → Value → Bool
  | .inl k, v => Value.isInt k v
  | .inr x, v => Value.isStrOf x v
def keyH (w : World) : Key → Int
  | .inl k => hashInt k
  | .inr x => hashStr w x
theorem keyIs_shape : ∀ {k : Key} {v : Value}, keyIs k v = true → (∃ i t, k = Sum.inl i ∧ v = Value.int i t) ∨ (∃ x t, k = Sum.inr x ∧ v = Value.str x t)
  | .inl i, v, h => by
    obtain ⟨t, e⟩ := Value.isInt_shape (k := i) (v := v) h
    exact .inl ⟨i, t, rfl, e⟩
  | .inr x, v, h => by
    obtain ⟨t, e⟩ := Value.isStrOf_shape (x := x) (v := v) h
    exact .inr ⟨x, t, rfl, e⟩
theorem key_ll (a b : Int) : decide ((Sum.inl a : Key) = Sum.inl b) = (a == b) := by
  by_cases e : a = b
  · subst e; simp
  · have h : ¬ (Sum.inl a : Key) = Sum.inl b := fun q => e (Sum.inl.inj q)
    rw [decide_eq_false h]
    exact (beq_eq_false_iff_ne.mpr e).symm
theorem key_rr (a b : Str) : decide ((Sum.inr a : Key) = Sum.inr b) = decide (a = b) := by
  by_cases e : a = b
  · subst e; simp
  · have h : ¬ (Sum.inr a : Key) = Sum.inr b := fun q => e (Sum.inr.inj q)
    rw [decide_eq_false h, decide_eq_false e]
theorem key_lr (a : Int) (b : Str) : decide ((Sum.inl a : Key) = Sum.inr b) = false := decide_eq_false (fun q => nomatch q)
theorem key_rl (a : Str) (b : Int) : decide ((Sum.inr a : Key) = Sum.inl b) = false := decide_eq_false (fun q => nomatch q)
def mixKind (prog : Program) (w : World) : PySem.KeyKind prog w Key where
  is := keyIs
  hash := keyH w
  inj := fun v a b ha hb => by
    rcases keyIs_shape ha with ⟨i, t, rfl, rfl⟩ | ⟨x, t, rfl, rfl⟩
    · rcases keyIs_shape hb with ⟨j, u, rfl, e⟩ | ⟨y, u, rfl, e⟩
      · injection e with e1 _; rw [e1]
      · exact nomatch e
    · rcases keyIs_shape hb with ⟨j, u, rfl, e⟩ | ⟨y, u, rfl, e⟩
      · exact nomatch e
      · injection e with e1 _; rw [e1]
  byValue := fun k v h => by
    rcases keyIs_shape h with ⟨i, t, rfl, rfl⟩ | ⟨x, t, rfl, rfl⟩ <;> rfl
  pyHash := fun hv h => by
    rcases keyIs_shape hv with ⟨i, t, rfl, rfl⟩ | ⟨x, t, rfl, rfl⟩
    · exact wpAny_pyHash_int h
    · exact wpAny_pyHash_str h
  eqBool := fun hu hv h => by
    rcases keyIs_shape hu with ⟨i, t, rfl, rfl⟩ | ⟨x, t, rfl, rfl⟩
    · rcases keyIs_shape hv with ⟨j, u, rfl, rfl⟩ | ⟨y, u, rfl, rfl⟩
      · rw [key_ll] at h; exact wpAny_eqBool_int h
      · rw [key_lr] at h; exact SeqAt.EqAt.int_str i t y u _ _ _ _ h
    · rcases keyIs_shape hv with ⟨j, u, rfl, rfl⟩ | ⟨y, u, rfl, rfl⟩
      · rw [key_rl] at h; exact SeqAt.EqAt.str_int x t j u _ _ _ _ h
      · rw [key_rr] at h; exact wpAny_eqBool_str h
  «strs» := fun k x t v h => by
    rcases keyIs_shape h with ⟨i, u, rfl, e⟩ | ⟨y, u, rfl, e⟩
    · exact nomatch e
    · injection e with e1 _
      subst e1
      cases v <;> rfl
end L2
namespace L2
open PySem PySem.Spec PyProof.Rows
inductive V where
  | non | bl (b : Bool) | int (i : Int) | str (x : Str) | byt (b : Array UInt8) | flt (b : UInt64) | ref (a : Addr) | ty (n : String)
  deriving DecidableEq
def RelV : V → Value → Prop
  | .non, u => u = Value.none
  | .bl b, u => u = Value.bool b
  | .int i, u => ∃ t, u = Value.int i t
  | .str x, u => ∃ t, u = Value.str x t
  | .byt b, u => ∃ t, u = Value.bytes b t
  | .flt b, u => ∃ t, u = Value.float b t
  | .ref a, u => u = Value.ref a
  | .ty n, u => u = Value.type n
abbrev Vals : List V → List Value → Prop := Paired RelV
theorem Vals.length {xs : List V} {us : List Value} (r : Vals xs us) : xs.length = us.length := Paired.length r
theorem Vals.get : ∀ {xs : List V} {us : List Value} {i : Nat} {x : V}, Vals xs us → xs[i]? = some x → ∃ u, us[i]? = some u ∧ RelV x u
  | _, _, _, _, .nil, e => by simp at e
  | _, _, 0, _, .cons r _, e => by simp at e; subst e; exact ⟨_, rfl, r⟩
  | _, _, i + 1, x, .cons _ t, e => by
    obtain ⟨u, h1, h2⟩ := Vals.get (i := i) (x := x) t (by simpa using e)
    exact ⟨u, by simpa using h1, h2⟩
theorem Vals.set {x : V} {u : Value} (r : RelV x u) : ∀ {xs : List V} {us : List Value} (i : Nat), Vals xs us → Vals (xs.set i x) (us.set i u)
  | _, _, _, .nil => .nil
  | _, _, 0, .cons _ t => .cons r t
  | _, _, i + 1, .cons q t => .cons q (Vals.set r i t)
theorem Vals.append : ∀ {xs ys : List V} {us ws : List Value}, Vals xs us → Vals ys ws → Vals (xs ++ ys) (us ++ ws)
  | _, _, _, _, .nil, s => s
  | _, _, _, _, .cons r t, s => .cons r (Vals.append t s)
theorem Vals.take : ∀ {xs : List V} {us : List Value} (n : Nat), Vals xs us → Vals (xs.take n) (us.take n)
  | _, _, 0, _ => .nil
  | _, _, _ + 1, .nil => .nil
  | _, _, n + 1, .cons r t => .cons r (Vals.take n t)
theorem Vals.drop : ∀ {xs : List V} {us : List Value} (n : Nat), Vals xs us → Vals (xs.drop n) (us.drop n)
  | _, _, 0, r => r
  | _, _, _ + 1, .nil => .nil
  | _, _, n + 1, .cons _ t => Vals.drop n t
def RelO : Option V → Option Value → Prop
  | some v, some u => RelV v u
  | none, none => True
  | _, _ => False
def KV {κ : Type} : List (κ × V) → List (κ × Value) → Prop := Paired fun (p : κ × V) (q : κ × Value) => p.1 = q.1 ∧ RelV p.2 q.2
def kV : Key → V
  | .inl i => .int i
  | .inr x => .str x
inductive HO where
  /-- a list -/
  | lst (xs : List V)
  /-- a tuple (never changes) -/
  | tup (xs : List V)
  /-- a dict whose keys are ints and texts; one whose keys are tuples of ints and texts (the empty one is both) -/
  | dK (kvs : List (Key × V)) | dT (kvs : List (List Key × V))
  /-- a set of ints: its members, its size -/
  | set (S : Int → Bool) (n : Nat)
  /-- an instance of the class at C, its dict at dx, its attributes -/
  | ins (C dx : Addr) (fs : List (Str × V))
  /-- the dict of the instance at x -/
  | own (x : Addr)
  /-- the dict of an exception -/
  | xd (fs : List (Str × V))
  /-- a bound method, f of x -/
  | met (f x : Addr)
  /-- a range object lo, lo + 1, .. below hi -/
  | rng (lo hi : Int)
  /-- a thing that is known to the object (the script; a dict while a loop walks it): read, never written while it is so -/
  | frz (o : Obj) (u : HO)
  /-- a code object's table -/
  | tbl (ps : Array Value)
  /-- any other thing, by what is true of its one object (a def of one's own: SetO a S n := HO.ext fun h => ..) -/
  | ext (φ : Heap → Prop)
abbrev Hp := Addr → Option HO
def upd (H : Hp) (a : Addr) (o : HO) : Hp := fun b => if b = a then some o else H b
theorem upd_same {H : Hp} {a : Addr} {o : HO} : upd H a o a = some o := by unfold upd; rw [if_pos rfl]
theorem upd_ne {H : Hp} {a b : Addr} {o : HO} (h : b ≠ a) : upd H a o b = H b := by unfold upd; rw [if_neg h]
theorem upd_upd {H : Hp} {a : Addr} {o u : HO} : upd (upd H a o) a u = upd H a u := by
  funext b; unfold upd; split <;> rfl
theorem ne_of_none {H : Hp} {a b : Addr} {o : HO} (h : H a = some o) (h' : H b = none) : a ≠ b := by
  intro e; subst e; rw [h] at h'; cases h'
section
variable (P : Program) (w : World)
def ObjOk (H : Hp) (h : Heap) (a : Addr) : HO → Prop
  | .lst xs => xs.length ≤ sizeLine ∧ ∃ (its : List Value) (n : Nat), Vals xs its ∧ h.get? a = some { cls := .type "list", data := .seq its.toArray n }
  | .tup xs => xs.length ≤ sizeLine ∧ ∃ its : List Value, Vals xs its ∧ IsTup h a its.toArray
  | .dK kvs => kvs.length ≤ sizeLine ∧ (a == sysModules) = false ∧ ∃ vs, KV kvs vs ∧ h.DictOf (mixKind P w) a vs
  | .dT kvs => kvs.length ≤ sizeLine ∧ (a == sysModules) = false ∧ ∃ xs : List (List Key × Addr × Value),
      Paired (fun (p : List Key × V) (q : List Key × Addr × Value) => p.1 = q.1 ∧ H q.2.1 = some (.tup (p.1.map kV)) ∧ RelV p.2 q.2.2) kvs xs ∧
      ∃ o es ep, h.get? a = some o ∧ o.ExactDict ∧ o.data = .dict es ep ∧ es.toList = xs.map (entryOfKey (tupleKind (mixKind P w))) ∧ (xs.map (·.1)).Nodup
  | .set S n => h.SetOf (intKind P w) a S n
  | .ins C dx fs => H dx = some (.own a) ∧ fs.length ≤ 1000 ∧ dx ≠ a ∧ h.get? a = some (PySem.W.instObj C dx) ∧
      ∃ mA, h.Ns1 dx mA ∧ (∀ f, RelO (fs.lookup f) (mA f)) ∧ PySem.Within mA (fs.map (·.1))
  | .own _ => ∃ o, h.get? a = some o
  | .xd fs => ∃ mA, h.Ns1 a mA ∧ ∀ f, RelO (fs.lookup f) (mA f)
  | .rng lo hi => ∃ t u v, h.get? a = some { cls := .type "range", data := .fields #[.int lo t, .int hi u, .int 1 v] }
  | .frz o u => h.get? a = some o ∧ ObjOk H h a u
  | .tbl ps => h.get? a = some { cls := .none, data := .fields ps }
  | .met f x => h.get? a = some (PySem.W.methodObj (.ref f) (.ref x))
  | .ext φ => φ h ∧ (∃ o, h.get? a = some o) ∧ ∀ h1 h2 : Heap, φ h1 → (∀ o, h1.get? a = some o → h2.get? a = some o) → φ h2
def HOk (H : Hp) (h : Heap) : Prop := ∀ a o, H a = some o → ObjOk P w H h a o
end
section
variable {P : Program} {w : World} {H H' : Hp} {h h' : Heap} {a : Addr} {o : HO}
theorem ObjOk.lt (x : ObjOk P w H h a o) : a < h.objs.size := by
  cases o with
  | lst xs => obtain ⟨_, _, _, _, e⟩ := x; exact Heap.lt_size e
  | tup xs => obtain ⟨_, _, _, p⟩ := x; exact p.lt
  | dK kvs => obtain ⟨_, _, _, _, o, _, _, e, _⟩ := x; exact Heap.lt_size e
  | dT kvs => obtain ⟨_, _, _, _, o, _, _, e, _⟩ := x; exact Heap.lt_size e
  | set S n => obtain ⟨o, _, _, _, e, _⟩ := x; exact Heap.lt_size e
  | ins C dx fs => obtain ⟨_, _, _, e, _⟩ := x; exact Heap.lt_size e
  | own y => obtain ⟨_, e⟩ := x; exact Heap.lt_size e
  | xd fs => obtain ⟨_, ⟨_, _, _, e, _⟩, _⟩ := x; exact Heap.lt_size e
  | rng lo hi => obtain ⟨_, _, _, e⟩ := x; exact Heap.lt_size e
  | frz ob u => obtain ⟨e, _⟩ := x; exact Heap.lt_size e
  | tbl ps => exact Heap.lt_size (show h.get? a = some _ from x)
  | met f y => exact Heap.lt_size (show h.get? a = some _ from x)
  | ext φ => obtain ⟨_, ⟨_, e⟩, _⟩ := x; exact Heap.lt_size e
theorem Paired.mapP {α β : Type} {F G : α → β → Prop} : ∀ {l₁ : List α} {l₂ : List β}, Paired F l₁ l₂ → (∀ a b, F a b → G a b) → Paired G l₁ l₂
  | _, _, .nil, _ => .nil
  | _, _, .cons r t, f => .cons (f _ _ r) (Paired.mapP t f)
theorem ObjOk.stay (x : ObjOk P w H h a o) (k : ∀ b u, (b = a ∨ H b = some (.own a)) → h.get? b = some u → h'.get? b = some u)
    (ho : ∀ b, H b = some (.own a) → H' b = some (.own a)) (ht : ∀ b xs, H b = some (.tup xs) → H' b = some (.tup xs)) : ObjOk P w H' h' a o := by
  induction o with
  | lst xs => obtain ⟨z, its, n, r, e⟩ := x; exact ⟨z, its, n, r, k _ _ (.inl rfl) e⟩
  | tup xs => obtain ⟨z, its, r, ob, e, c⟩ := x; exact ⟨z, its, r, ob, k _ _ (.inl rfl) e, c⟩
  | dK kvs => obtain ⟨z, y, vs, r, ob, es, ep, e, c⟩ := x; exact ⟨z, y, vs, r, ob, es, ep, k _ _ (.inl rfl) e, c⟩
  | dT kvs =>
    obtain ⟨z, y, xs, r, ob, es, ep, e, c⟩ := x
    exact ⟨z, y, xs, Paired.mapP r fun p q z => ⟨z.1, ht _ _ z.2.1, z.2.2⟩, ob, es, ep, k _ _ (.inl rfl) e, c⟩
  | set S n => obtain ⟨ob, es, ep, t, e, c⟩ := x; exact ⟨ob, es, ep, t, k _ _ (.inl rfl) e, c⟩
  | ins C dx fs =>
    obtain ⟨d, z, ne, e, mA, ⟨od, es, ep, e2, c⟩, r⟩ := x
    exact ⟨ho _ d, z, ne, k _ _ (.inl rfl) e, mA, ⟨od, es, ep, k _ _ (.inr d) e2, c⟩, r⟩
  | own y => obtain ⟨ob, e⟩ := x; exact ⟨ob, k _ _ (.inl rfl) e⟩
  | xd fs => obtain ⟨mA, ⟨od, es, ep, e, c⟩, r⟩ := x; exact ⟨mA, ⟨od, es, ep, k _ _ (.inl rfl) e, c⟩, r⟩
  | rng lo hi => obtain ⟨t, u, v, e⟩ := x; exact ⟨t, u, v, k _ _ (.inl rfl) e⟩
  | frz ob u ih => obtain ⟨e, q⟩ := x; exact ⟨k _ _ (.inl rfl) e, ih q⟩
  | tbl ps =>
    have e : h.get? a = some { cls := .none, data := .fields ps } := x
    show h'.get? a = some { cls := .none, data := .fields ps }
    exact k a _ (.inl rfl) e
  | met f y =>
    have e : h.get? a = some (PySem.W.methodObj (.ref f) (.ref y)) := x
    show h'.get? a = some (PySem.W.methodObj (.ref f) (.ref y))
    exact k a _ (.inl rfl) e
  | ext φ => obtain ⟨p, ⟨o, e⟩, st⟩ := x; exact ⟨st _ _ p fun o q => k _ _ (.inl rfl) q, ⟨o, k _ _ (.inl rfl) e⟩, st⟩
theorem HOk.lt (x : HOk P w H h) (e : H a = some o) : a < h.objs.size := (x a o e).lt
theorem HOk.fresh (x : HOk P w H h) (e : h.objs.size ≤ a) : H a = none := by
  cases q : H a with
  | none => rfl
  | some u => exact absurd (Nat.lt_of_lt_of_le (x.lt q) e) (Nat.lt_irrefl _)
theorem HOk.kept (x : HOk P w H h) (k : ∀ b u, h.get? b = some u → h'.get? b = some u) : HOk P w H h' := fun a o e =>
  (x a o e).stay (fun b u _ q => k b u q) (fun _ q => q) fun _ _ q => q
theorem HOk.laid (x : HOk P w H h) (k : ∀ b u, h.get? b = some u → h'.get? b = some u) (hp : h.objs.size ≤ a) (new : ObjOk P w (upd H a o) h' a o) : HOk P w (upd H a o) h' := fun b u e => by
  have hn := x.fresh hp
  by_cases hb : b = a
  · subst hb; rw [upd_same] at e; cases e; exact new
  · rw [upd_ne hb] at e
    exact (x b u e).stay (fun c v _ q => k c v q) (fun c q => by rw [upd_ne (ne_of_none q hn)]; exact q) fun c xs q => by rw [upd_ne (ne_of_none q hn)]; exact q
end
def Rd (H : Hp) (a : Addr) (u : HO) : Prop := H a = some u ∨ ∃ o, H a = some (.frz o u)
theorem Rd.of {H : Hp} {a : Addr} {u : HO} (h : H a = some u) : Rd H a u := .inl h
theorem Rd.ok {P : Program} {w : World} {H : Hp} {h : Heap} {a : Addr} {u : HO} (r : Rd H a u) (x : HOk P w H h) : ObjOk P w H h a u := by
  rcases r with r | ⟨o, r⟩
  · exact x a u r
  · obtain ⟨_, q⟩ := x a _ r
    exact q
def Mut : Option HO → Prop
  | some (.lst _) => True
  | some (.dK _) => True
  | some (.dT _) => True
  | some (.set _ _) => True
  | some (.ins _ _ _) => True
  | some (.ext _) => True
  | _ => False
section
variable {P : Program} {w : World} {H : Hp} {h h' : Heap} {x e : Addr} {o' : HO}
theorem HOk.write (ok : HOk P w H h) (mu : Mut (H x)) (he : e = x ∨ H e = some (.own x)) (k : ∀ b u, b ≠ e → h.get? b = some u → h'.get? b = some u) (heo : ∃ u, h'.get? e = some u)
    (new : ObjOk P w (upd H x o') h' x o') : HOk P w (upd H x o') h' := fun b u q => by
  have nown : ∀ c y, H c = some (.own y) → c ≠ x := fun c y r z => by subst z; rw [r] at mu; exact mu
  have ntup : ∀ c xs, H c = some (.tup xs) → c ≠ x := fun c xs r z => by subst z; rw [r] at mu; exact mu
  by_cases hb : b = x
  · subst hb; rw [upd_same] at q; cases q; exact new
  · rw [upd_ne hb] at q
    by_cases hbe : b = e
    · have q' : H b = some (.own x) := by
        rcases he with z | z
        · exact absurd (hbe.trans z) hb
        · rw [hbe]; exact z
      rw [q] at q'; cases q'
      obtain ⟨v, hv⟩ := heo
      exact ⟨v, by rw [hbe]; exact hv⟩
    · refine (ok b u q).stay (fun c v hc r => k c v ?_ r) (fun c r => by rw [upd_ne (nown c b r)]; exact r) fun c xs r => by rw [upd_ne (ntup c xs r)]; exact r
      rcases hc with rfl | hc
      · exact hbe
      · rintro rfl
        rcases he with z | z
        · exact nown c b hc z
        · rw [hc] at z; cases z; exact hb rfl
end
structure Un (fs ex : List Addr) (H H' : Hp) (h h' : Heap) : Prop where
  keep : ∀ b o, h.get? b = some o → H b = none → b ∉ fs → b ∉ ex → h'.get? b = some o
  slot : ∀ b o, h.get? b = some o → H b = none → b ∈ fs → b ∉ ex → ∃ sl, h'.get? b = some { o with slots := sl }
  free : ∀ b o, h.get? b = some o → H b = none → b ∉ ex → H' b = none
  there : ∀ b o, h.get? b = some o → b ∉ ex → ∃ o', h'.get? b = some o'
  tups : ∀ b xs, H b = some (.tup xs) → H' b = some (.tup xs)
  frzs : ∀ b o u, H b = some (.frz o u) → H' b = some (.frz o u)
  tbls : ∀ b ps, H b = some (.tbl ps) → ∃ more, H' b = some (.tbl (ps ++ more))
section
variable {fs fs' ex ex' : List Addr} {H H1 H2 : Hp} {h h1 h2 h' : Heap} {a x e : Addr} {o : HO}
theorem Un.any (u : Un fs ex H H1 h h1) {b : Addr} {ob : Obj} (q : h.get? b = some ob) (n : H b = none) (hx : b ∉ ex) : ∃ sl, h1.get? b = some { ob with slots := sl } := by
  by_cases hb : b ∈ fs
  · exact u.slot b ob q n hb hx
  · exact ⟨ob.slots, u.keep b ob q n hb hx⟩
theorem Un.trans (a : Un fs ex H H1 h h1) (b : Un fs ex H1 H2 h1 h2) : Un fs ex H H2 h h2 where
  keep := fun c ob q n hc hx => b.keep c ob (a.keep c ob q n hc hx) (a.free c ob q n hx) hc hx
  slot := fun c ob q n hc hx => by
    obtain ⟨sl, e1⟩ := a.slot c ob q n hc hx
    obtain ⟨sl', e2⟩ := b.slot c _ e1 (a.free c ob q n hx) hc hx
    exact ⟨sl', e2⟩
  free := fun c ob q n hx => by
    obtain ⟨o', e1⟩ := a.there c ob q hx
    exact b.free c o' e1 (a.free c ob q n hx) hx
  there := fun c ob q hx => by
    obtain ⟨o', e1⟩ := a.there c ob q hx
    exact b.there c o' e1 hx
  tups := fun c xs q => b.tups c xs (a.tups c xs q)
  frzs := fun c ob xs q => b.frzs c ob xs (a.frzs c ob xs q)
  tbls := fun c ps q => by
    obtain ⟨m1, e1⟩ := a.tbls c ps q
    obtain ⟨m2, e2⟩ := b.tbls c _ e1
    exact ⟨m1 ++ m2, by rw [e2, Array.append_assoc]⟩
theorem Un.kept (k : ∀ b u, h.get? b = some u → h'.get? b = some u) : Un fs ex H H h h' :=
  ⟨fun b ob q _ _ _ => k b ob q, fun b ob q _ _ _ => ⟨ob.slots, k b ob q⟩, fun _ _ _ n _ => n, fun b ob q _ => ⟨ob, k b ob q⟩, fun _ _ q => q, fun _ _ _ q => q, fun _ ps q => ⟨#[], by rw [q]; simp⟩⟩
theorem Un.refl : Un fs ex H H h h := Un.kept fun _ _ q => q
theorem Un.laid (k : ∀ b u, h.get? b = some u → h'.get? b = some u) (hp : h.objs.size ≤ a) (hn : H a = none) : Un fs ex H (upd H a o) h h' where
  keep := fun b u q _ _ _ => k b u q
  slot := fun b u q _ _ _ => ⟨u.slots, k b u q⟩
  free := fun b u q n _ => by rw [upd_ne (Nat.ne_of_lt (Nat.lt_of_lt_of_le (Heap.lt_size q) hp))]; exact n
  there := fun b u q _ => ⟨u, k b u q⟩
  tups := fun b xs q => by rw [upd_ne (ne_of_none q hn)]; exact q
  frzs := fun b u xs q => by rw [upd_ne (ne_of_none q hn)]; exact q
  tbls := fun b ps q => ⟨#[], by rw [upd_ne (ne_of_none q hn), q]; simp⟩
theorem Un.write (mu : Mut (H x)) (he : e = x ∨ H e = some (.own x)) (k : ∀ b u, b ≠ e → h.get? b = some u → h'.get? b = some u) (heo : ∃ u, h'.get? e = some u) : Un fs ex H (upd H x o) h h' := by
  have hx : ∀ b, H b = none → b ≠ x := fun b n z => by subst z; rw [n] at mu; exact mu
  have hb : ∀ b, H b = none → b ≠ e := fun b n z => by
    subst z
    rcases he with r | r
    · exact hx b n r
    · rw [n] at r; cases r
  have hm : ∀ b u, H b = some u → ¬ Mut (some u) → b ≠ x := fun b u q nm z => by subst z; rw [q] at mu; exact nm mu
  refine ⟨fun b u q n _ _ => k b u (hb b n) q, fun b u q n _ _ => ⟨u.slots, k b u (hb b n) q⟩, fun b u q n _ => by rw [upd_ne (hx b n)]; exact n, fun b u q _ => ?_,
    fun b xs q => by rw [upd_ne (hm b _ q fun z => z)]; exact q, fun b u xs q => by rw [upd_ne (hm b _ q fun z => z)]; exact q, fun b ps q => ⟨#[], by rw [upd_ne (hm b _ q fun z => z), q]; simp⟩⟩
  by_cases hbe : b = e
  · subst hbe; exact heo
  · exact ⟨u, k b u hbe q⟩
theorem Un.mono (u : Un fs ex H H1 h h1) (hs : ∀ b ∈ fs, b ∈ fs') (hx : ∀ b ∈ ex, b ∈ ex') : Un fs' ex' H H1 h h1 :=
  ⟨fun b ob q n hb he => u.keep b ob q n (fun z => hb (hs b z)) fun z => he (hx b z), fun _ _ q n _ he => u.any q n fun z => he (hx _ z), fun b ob q n he => u.free b ob q n fun z => he (hx b z), fun b ob q he => u.there b ob q fun z => he (hx b z), u.tups, u.frzs, u.tbls⟩
end
def trk (h : Heap) (H : Hp) : List Addr := (List.range h.objs.size).filter fun a => (H a).isSome
def hidT (h : Heap) (H : Hp) : Heap := PySem.W.hideAll h (trk h H)
theorem hidT_size (h : Heap) (H : Hp) : (hidT h H).objs.size = h.objs.size := PySem.W.hideAll_size _ _
theorem hidT_get {h : Heap} {H : Hp} {b : Addr} {o : Obj} (e : h.get? b = some o) (n : H b = none) : (hidT h H).get? b = some o :=
  PySem.W.hideAll_get _ e fun hm => by
    have q : (H b).isSome = true := (List.mem_filter.mp hm).2
    rw [n] at q; simp at q
theorem of_hidT {h : Heap} {H : Hp} {b : Addr} {o : Obj} (e : (hidT h H).get? b = some o) : h.get? b = some o ∧ H b = none := by
  have e' : h.get? b = some o := PySem.W.of_hideAll (trk h H) e
  refine ⟨e', ?_⟩
  cases q : H b with
  | none => rfl
  | some x =>
    have hm : b ∈ trk h H := List.mem_filter.mpr ⟨List.mem_range.mpr (Heap.lt_size e'), by simp [q]⟩
    have z : (hidT h H).get? b = none := PySem.W.hideAll_none (trk h H) hm
    rw [z] at e; cases e
def allNews (g h : Heap) (L : Addr) : List (Addr × Obj) := (List.range h.objs.size).filterMap fun a => if a = L ∨ (g.get? a).isSome = true then none else (h.get? a).map fun o => (a, o)
def rest (g h : Heap) (L d : Addr) : List (Addr × Obj) := (allNews g h L).filter fun p => decide (p.1 ≠ d)
end L2
namespace L2
open PySem PySem.Spec PyProof.Rows
structure Mod (K : PySem.W.Frag) (mg : Str → Option Value) (base : Heap) : Prop where
  kin : K.In base
  glob : base.Ns mainGlobals mg
  blt : ∃ mb, base.Ns builtinsNs mb ∧ ∀ x : Str, x ≠ "__name__" → mb x = bootBuiltins x
  nolimit : base.NoLimit
structure Cx where
  prog : Program
  w : World
  K : PySem.W.Frag
  mg : Str → Option Value
  base : Heap
  A : Around
  N : List Str
  s₀ : Shared
  H₀ : Hp
  env : Env
  outer : List Env
  stack : List Env
  ex : List Addr
  fn : Str → Bool
  calm : Bool
  pn : List (Addr × Obj)
  xe : Value → Shared → Prop
def frs (l : List Env) : List Addr := l.filterMap (·.frame)
abbrev Cx.fs (X : Cx) : List Addr := frs X.outer
def Vis (sc : Scope) (x : Str) : Prop := sc.names.lookup x = some .local ∨ sc.names.lookup x = some .cell ∨ sc.names.lookup x = some .free
def Loc (sc : Scope) (x : Str) : Prop := sc.names.lookup x = some .local ∨ sc.names.lookup x = some .cell
def Look (env : Env) (h : Heap) (m : Str → Option Value) (x : Str) (u : Value) : Prop :=
  (env.kindOf x = some .local ∧ m x = some u) ∨ ((env.kindOf x = some .cell ∨ env.kindOf x = some .free) ∧ ∃ c, env.cells.lookup x = some c ∧ h.IsCell c (some u))
structure Cx.Ok (X : Cx) : Prop where
  mod : Mod X.K X.mg X.base
  kind : X.env.scope.kind = .function
  glob : X.env.globals = mainGlobals
  blt : X.env.builtins = builtinsNs
  above : X.s₀.heap.objs.size ≤ X.env.locals
  inj : ∀ x y c, X.env.cells.lookup x = some c → X.env.cells.lookup y = some c → x = y
  has : ∀ x, (X.env.kindOf x = some .cell ∨ X.env.kindOf x = some .free) → ∃ c, X.env.cells.lookup x = some c
  cab : ∀ x c, X.fn x = true → X.env.cells.lookup x = some c → X.s₀.heap.objs.size ≤ c
  hd : X.calm = true → X.A.handled = none
  frames : X.A.frames = some X.stack
  stk : X.stack = X.outer ∨ (X.stack = X.env :: X.outer ∧ X.env.frame = some X.env.locals)
  exf : ∀ b ∈ X.ex, b ≠ X.env.locals ∧ ∀ x c, X.env.cells.lookup x = some c → c ≠ b
  bs : ∀ b o, X.base.get? b = some o → X.s₀.heap.get? b = some o ∧ X.H₀ b = none
  bsz : X.base.objs.size ≤ X.s₀.heap.objs.size
  noex : ∀ b o, X.base.get? b = some o → b ∉ X.ex
  exfs : ∀ b ∈ X.ex, b ∉ X.fs
  funs : X.s₀.heap.FunFrames X.base X.outer
  frf : ∀ b ∈ X.fs, X.H₀ b = none
structure Inv (X : Cx) (pins : List (Addr × Obj)) (σ : List (Option V)) (H : Hp) (s : Shared) : Prop where
  ok : X.Ok
  os : s.os = X.s₀.os
  bare : AllBare s.gens
  base : Un X.fs X.ex X.H₀ H X.s₀.heap s.heap
  loc : ∃ m, s.heap.Ns X.env.locals m ∧ ∀ (i : Nat) (x : Str) (v : V), X.N[i]? = some x → σ[i]? = some (some v) → Vis X.env.scope x → ∃ u, RelV v u ∧ Look X.env s.heap m x u
  cell : ∀ x c, X.env.cells.lookup x = some c → ∃ v, s.heap.IsCell c v
  free : H X.env.locals = none
  freeC : ∀ x c, X.env.cells.lookup x = some c → H c = none
  pin : ∀ p ∈ X.pn ++ pins, s.heap.get? p.1 = some p.2 ∧ H p.1 = none ∧ p.1 ≠ X.env.locals ∧ p.1 ∉ X.fs ∧ ∀ v, p.2.data ≠ .cell v
  hok : HOk X.prog X.w H s.heap
  len : σ.length = X.N.length
section
variable {X : Cx} {pins : List (Addr × Obj)} {σ : List (Option V)} {H H' : Hp} {s : Shared} {h' : Heap}
theorem Cx.Ok.nofr (ok : X.Ok) {b : Addr} {o : Obj} (e : X.base.get? b = some o) : b ∉ X.fs := fun hb => by
  have := (ok.funs.mem hb).1
  rw [e] at this; cases this
theorem Inv.bs (I : Inv X pins σ H s) : ∀ b o, X.base.get? b = some o → s.heap.get? b = some o ∧ H b = none := fun b o e =>
  ⟨I.base.keep b o (I.ok.bs b o e).1 (I.ok.bs b o e).2 (I.ok.nofr e) (I.ok.noex b o e), I.base.free b o (I.ok.bs b o e).1 (I.ok.bs b o e).2 (I.ok.noex b o e)⟩
theorem Inv.bk (I : Inv X pins σ H s) : ∀ b o, X.base.get? b = some o → s.heap.get? b = some o := fun b o e => (I.bs b o e).1
theorem Inv.mod (I : Inv X pins σ H s) : Mod X.K X.mg X.base := I.ok.mod
theorem Inv.kIn (I : Inv X pins σ H s) : X.K.In s.heap := I.ok.mod.kin.keeps I.bk
theorem Inv.nolimit (I : Inv X pins σ H s) : s.heap.NoLimit := I.ok.mod.nolimit.keeps I.bk
theorem Inv.fr (I : Inv X pins σ H s) : ∃ m, Fr X.base X.env.locals s.heap m :=
  let ⟨m, hn, _⟩ := I.loc
  ⟨m, hn, I.bk, Nat.le_trans I.ok.bsz I.ok.above⟩
theorem Inv.lt (I : Inv X pins σ H s) : X.env.locals < s.heap.objs.size := let ⟨_, hn, _⟩ := I.loc; hn.lt
theorem Inv.sz (I : Inv X pins σ H s) : X.s₀.heap.objs.size ≤ s.heap.objs.size := Nat.le_trans I.ok.above (Nat.le_of_lt I.lt)
theorem Inv.nofs (I : Inv X pins σ H s) {a : Addr} (h : s.heap.objs.size ≤ a) : a ∉ X.fs := fun hb => by
  obtain ⟨_, o, ho, _⟩ := I.ok.funs.mem hb
  exact absurd (Nat.lt_of_lt_of_le (Heap.lt_size ho) (Nat.le_trans I.sz h)) (Nat.lt_irrefl _)
theorem Inv.cne (I : Inv X pins σ H s) : ∀ x c, X.env.cells.lookup x = some c → c ≠ X.env.locals := fun x c e z => by
  obtain ⟨v, o, ho, hd⟩ := I.cell x c e
  obtain ⟨m, ⟨o', es, ep, ho', hd', _⟩, _⟩ := I.loc
  rw [z, ho'] at ho; cases ho; rw [hd'] at hd; cases hd
theorem Inv.funs (I : Inv X pins σ H s) : s.heap.FunFrames X.base X.outer := by
  have all : ∀ (l : List Env), (∀ b ∈ frs l, b ∈ X.fs) → X.s₀.heap.FunFrames X.base l → s.heap.FunFrames X.base l := by
    intro l
    induction l with
    | nil => intro _ _; trivial
    | cons env r ih =>
      intro hs hl
      obtain ⟨hk, ⟨L, o, hf, hn, ho, hd⟩, hr⟩ := hl
      have hL : L ∈ X.fs := hs L (by unfold frs; rw [List.filterMap_cons, hf]; exact List.mem_cons_self)
      obtain ⟨sl, e⟩ := I.base.slot L o ho (I.ok.frf L hL) hL fun z => I.ok.exfs L z hL
      exact ⟨hk, ⟨L, _, hf, hn, e, hd⟩, ih (fun b hb => hs b (by unfold frs; rw [List.filterMap_cons, hf]; exact List.mem_cons_of_mem _ hb)) hr⟩
  exact all X.outer (fun _ hb => hb) I.ok.funs
theorem Inv.stack (I : Inv X pins σ H s) : s.heap.FunFrames X.base X.stack := by
  rcases I.ok.stk with e | ⟨e, hf⟩
  · rw [e]; exact I.funs
  · rw [e]
    obtain ⟨m, hn, _⟩ := I.loc
    refine .cons (by rw [I.ok.kind]; decide) hf hn ?_ I.funs
    exact Heap.get?_none_of_le (Nat.le_trans I.ok.bsz I.ok.above)
theorem Inv.stkSub (I : Inv X pins σ H s) : ∀ b ∈ frs X.stack, b ∈ X.env.locals :: X.fs := fun b hb => by
  rcases I.ok.stk with e | ⟨e, hf⟩
  · rw [e] at hb; exact List.mem_cons_of_mem _ hb
  · rw [e] at hb
    unfold frs at hb
    rw [List.filterMap_cons, hf] at hb
    exact hb
theorem Inv.stkFree (I : Inv X pins σ H s) : ∀ b ∈ frs X.stack, H b = none := fun b hb => by
  rcases List.mem_cons.mp (I.stkSub b hb) with e | hb
  · rw [e]; exact I.free
  · obtain ⟨_, o, ho, _⟩ := I.ok.funs.mem hb
    exact I.base.free b o ho (I.ok.frf b hb) fun z => I.ok.exfs b z hb
theorem Inv.step {g' : Array GenState} {t' : Nat} {d' : Drawn} {ch : List Addr} (I : Inv X pins σ H s)
    (hch : ∀ b ∈ ch, (b ∈ X.ex ∨ X.s₀.heap.objs.size ≤ b) ∧ b ≠ X.env.locals ∧ (∀ x c, X.env.cells.lookup x = some c → c ≠ b) ∧ ∀ p ∈ X.pn ++ pins, p.1 ≠ b)
    (keep : ∀ b o, b ≠ X.env.locals → b ∉ X.fs → b ∉ ch → s.heap.get? b = some o → H b = none → h'.get? b = some o)
    (slot : ∀ b o, b ≠ X.env.locals → b ∈ X.fs → b ∉ ch → s.heap.get? b = some o → H b = none → ∃ sl, h'.get? b = some { o with slots := sl }) (free : ∀ b o, b ∉ ch → s.heap.get? b = some o → H b = none → H' b = none)
    (there : ∀ b o, b ∉ ch → s.heap.get? b = some o → ∃ o', h'.get? b = some o')
    (tups : ∀ b xs, H b = some (.tup xs) → H' b = some (.tup xs)) (frzs : ∀ b o u, H b = some (.frz o u) → H' b = some (.frz o u)) (tbls : ∀ b ps, H b = some (.tbl ps) → ∃ more, H' b = some (.tbl (ps ++ more)))
    (ns : ∀ m, s.heap.Ns X.env.locals m → h'.Ns X.env.locals m) (hok : HOk X.prog X.w H' h') (hg : AllBare g') :
    Inv X pins σ H' { s with heap := h', gens := g', drawn := d', toks := t' } := by
  have neL : ∀ b o, X.s₀.heap.get? b = some o → b ≠ X.env.locals := fun b o e => Nat.ne_of_lt (Nat.lt_of_lt_of_le (Heap.lt_size e) I.ok.above)
  have neC : ∀ b o, X.s₀.heap.get? b = some o → b ∉ X.ex → b ∉ ch := fun b o e hx hb => by
    rcases (hch b hb).1 with z | z
    · exact hx z
    · exact absurd (Nat.lt_of_lt_of_le (Heap.lt_size e) z) (Nat.lt_irrefl _)
  have cellK : ∀ x c, X.env.cells.lookup x = some c → ∀ v, s.heap.IsCell c v → h'.IsCell c v := fun x c e v ⟨o, ho, hd⟩ => by
    have nch : c ∉ ch := fun z => (hch c z).2.2.1 x c e rfl
    by_cases hc : c ∈ X.fs
    · obtain ⟨sl, q⟩ := slot c o (I.cne x c e) hc nch ho (I.freeC x c e)
      exact ⟨_, q, hd⟩
    · exact ⟨o, keep c o (I.cne x c e) hc nch ho (I.freeC x c e), hd⟩
  refine ⟨I.ok, I.os, hg, ⟨fun b o e n hb hx => ?_, fun b o e n hb hx => ?_, fun b o e n hx => ?_, fun b o e hx => ?_, fun b xs e => tups b xs (I.base.tups b xs e), fun b o xs e => frzs b o xs (I.base.frzs b o xs e), fun b ps e => ?_⟩, ?_, fun x c e => ?_, ?_, fun x c e => ?_, fun p hp => ?_, hok, I.len⟩
  · exact keep b o (neL b o e) hb (neC b o e hx) (I.base.keep b o e n hb hx) (I.base.free b o e n hx)
  · obtain ⟨sl, e1⟩ := I.base.slot b o e n hb hx
    obtain ⟨sl', e2⟩ := slot b _ (neL b o e) hb (neC b o e hx) e1 (I.base.free b o e n hx)
    exact ⟨sl', e2⟩
  · obtain ⟨o', e1⟩ := I.base.there b o e hx
    exact free b o' (neC b o e hx) e1 (I.base.free b o e n hx)
  · obtain ⟨o', e1⟩ := I.base.there b o e hx
    exact there b o' (neC b o e hx) e1
  · obtain ⟨m1, e1⟩ := I.base.tbls b ps e
    obtain ⟨m2, e2⟩ := tbls b _ e1
    exact ⟨m1 ++ m2, by rw [e2, Array.append_assoc]⟩
  · obtain ⟨m, hn, hl⟩ := I.loc
    refine ⟨m, ns m hn, fun i x v e1 e2 e3 => ?_⟩
    obtain ⟨u, r, l⟩ := hl i x v e1 e2 e3
    refine ⟨u, r, ?_⟩
    rcases l with l | ⟨k, c, e, z⟩
    · exact .inl l
    · exact .inr ⟨k, c, e, cellK x c e _ z⟩
  · obtain ⟨v, z⟩ := I.cell x c e
    exact ⟨v, cellK x c e v z⟩
  · obtain ⟨m, ⟨o, _, _, ho, _⟩, _⟩ := I.loc
    exact free _ o (fun z => (hch _ z).2.1 rfl) ho I.free
  · obtain ⟨v, o, ho, hd⟩ := I.cell x c e
    exact free c o (fun z => (hch c z).2.2.1 x c e rfl) ho (I.freeC x c e)
  · obtain ⟨e, n, ne, nf, d⟩ := I.pin p hp
    have nch : p.1 ∉ ch := fun z => (hch p.1 z).2.2.2 p hp rfl
    exact ⟨keep p.1 p.2 ne nf nch e n, free p.1 p.2 nch e n, ne, nf, d⟩
theorem Inv.un {t' : Nat} (I : Inv X pins σ H s) (u : Un X.fs [] H H' s.heap h') (hok : HOk X.prog X.w H' h') : Inv X pins σ H' { s with heap := h', toks := t' } := by
  obtain ⟨m, ⟨o, es, ep, ho, r⟩, _⟩ := id I.loc
  obtain ⟨sl, hL⟩ := u.any ho I.free (by simp)
  exact I.step (g' := s.gens) (d' := s.drawn) (ch := []) (fun _ z => nomatch z) (fun b o _ hb _ e n => u.keep b o e n hb (by simp)) (fun b o _ hb _ e n => u.slot b o e n hb (by simp)) (fun b o _ e n => u.free b o e n (by simp)) (fun b o _ e => u.there b o e (by simp)) u.tups u.frzs u.tbls (fun m' hm => by
    obtain ⟨o', es', ep', ho', r'⟩ := hm
    rw [ho] at ho'; cases ho'
    exact ⟨_, es', ep', hL, r'⟩) hok I.bare
theorem Inv.call {g' : Array GenState} {t' : Nat} {d' : Drawn} {ch : List Addr} (I : Inv X pins σ H s) (u : Un (frs X.stack) ch H H' s.heap h') (hok : HOk X.prog X.w H' h') (hg : AllBare g')
    (hch : ∀ b ∈ ch, (b ∈ X.ex ∨ X.s₀.heap.objs.size ≤ b) ∧ b ≠ X.env.locals ∧ (∀ x c, X.env.cells.lookup x = some c → c ≠ b) ∧ ∀ p ∈ X.pn ++ pins, p.1 ≠ b) :
    Inv X pins σ H' { s with heap := h', gens := g', drawn := d', toks := t' } := by
  obtain ⟨m, ⟨o, es, ep, ho, r⟩, _⟩ := id I.loc
  obtain ⟨sl, hL⟩ := u.any ho I.free fun z => (hch _ z).2.1 rfl
  exact I.step (ch := ch) hch (fun b o hL hb hc e n => u.keep b o e n (fun z => (List.mem_cons.mp (I.stkSub b z)).elim hL hb) hc) (fun b o _ _ hc e n => u.any e n hc) (fun b o hc e n => u.free b o e n hc) (fun b o hc e => u.there b o e hc) u.tups u.frzs u.tbls (fun m' hm => by
    obtain ⟨o', es', ep', ho', r'⟩ := hm
    rw [ho] at ho'; cases ho'
    exact ⟨_, es', ep', hL, r'⟩) hok hg
theorem Inv.turned {t' : Nat} {it : Addr} (I : Inv X pins σ H s) (k : ∀ b o, b ≠ it → s.heap.get? b = some o → h'.get? b = some o) (hn : H it = none) (hL : it ≠ X.env.locals)
    (h1 : it ∈ X.ex ∨ X.s₀.heap.objs.size ≤ it) (h2 : ∀ x c, X.env.cells.lookup x = some c → c ≠ it) (h3 : ∀ p ∈ X.pn ++ pins, p.1 ≠ it) : Inv X pins σ H { s with heap := h', toks := t' } := by
  have nit : ∀ b u, H b = some u → b ≠ it := fun b u e z => by rw [z, hn] at e; cases e
  refine I.step (g' := s.gens) (d' := s.drawn) (ch := [it]) (fun b hb => ?_) (fun b o _ _ hc e _ => k b o (fun z => hc (by simp [z])) e) (fun b o _ _ hc e _ => ⟨o.slots, k b o (fun z => hc (by simp [z])) e⟩) (fun _ _ _ _ n => n)
    (fun b o hc e => ⟨o, k b o (fun z => hc (by simp [z])) e⟩) (fun _ _ e => e) (fun _ _ _ e => e) (fun b ps e => ⟨#[], by rw [e]; simp⟩) (fun m hm => ?_) (fun b u e => ?_) I.bare
  · have e : b = it := by simpa using hb
    subst e
    exact ⟨h1, hL, h2, h3⟩
  · obtain ⟨o, es, ep, ho, r⟩ := hm
    exact ⟨o, es, ep, k _ o (Ne.symm hL) ho, r⟩
  · refine (I.hok b u e).stay (fun c v hc q => k c v ?_ q) (fun _ q => q) fun _ _ q => q
    rcases hc with z | z
    · rw [z]; exact nit b u e
    · exact nit c _ z
theorem Inv.tok (I : Inv X pins σ H s) (t : Nat) : Inv X pins σ H { s with toks := t } := I.un (h' := s.heap) (t' := t) Un.refl I.hok
theorem Inv.kept {t' : Nat} (I : Inv X pins σ H s) (k : ∀ b u, s.heap.get? b = some u → h'.get? b = some u) : Inv X pins σ H { s with heap := h', toks := t' } := I.un (Un.kept k) (I.hok.kept k)
theorem Inv.laid {a : Addr} {o : HO} {t' : Nat} (I : Inv X pins σ H s) (k : ∀ b u, s.heap.get? b = some u → h'.get? b = some u) (hp : s.heap.objs.size ≤ a) (new : ObjOk X.prog X.w (upd H a o) h' a o) :
    Inv X pins σ (upd H a o) { s with heap := h', toks := t' } := I.un (Un.laid k hp (I.hok.fresh hp)) (I.hok.laid k hp new)
theorem Inv.write {x e : Addr} {o : HO} {t' : Nat} (I : Inv X pins σ H s) (mu : Mut (H x)) (he : e = x ∨ H e = some (.own x)) (k : ∀ b u, b ≠ e → s.heap.get? b = some u → h'.get? b = some u) (heo : ∃ u, h'.get? e = some u)
    (new : ObjOk X.prog X.w (upd H x o) h' x o) : Inv X pins σ (upd H x o) { s with heap := h', toks := t' } := I.un (Un.write mu he k heo) (I.hok.write mu he k heo new)
theorem Inv.weak {σ' : List (Option V)} (I : Inv X pins σ H s) (hl : σ'.length = σ.length) (w : ∀ (i : Nat) v, σ'[i]? = some (some v) → σ[i]? = some (some v)) : Inv X pins σ' H s :=
  ⟨I.ok, I.os, I.bare, I.base, let ⟨m, hn, hl'⟩ := I.loc; ⟨m, hn, fun i x v e1 e2 e3 => hl' i x v e1 (w i v e2) e3⟩, I.cell, I.free, I.freeC, I.pin, I.hok, hl.trans I.len⟩
theorem Inv.pins_of {pins' : List (Addr × Obj)} (I : Inv X pins σ H s) (h : ∀ p ∈ pins', s.heap.get? p.1 = some p.2 ∧ H p.1 = none ∧ p.1 ≠ X.env.locals ∧ p.1 ∉ X.fs ∧ ∀ v, p.2.data ≠ .cell v) : Inv X pins' σ H s :=
  ⟨I.ok, I.os, I.bare, I.base, I.loc, I.cell, I.free, I.freeC, fun p hp => (List.mem_append.mp hp).elim (fun z => I.pin p (List.mem_append_left _ z)) (h p), I.hok, I.len⟩
theorem nodup_ix {N : List Str} (hN : N.Nodup) {i j : Nat} {x : Str} (a : N[i]? = some x) (b : N[j]? = some x) : i = j := by
  obtain ⟨h1, e1⟩ := List.getElem?_eq_some_iff.mp a
  obtain ⟨h2, e2⟩ := List.getElem?_eq_some_iff.mp b
  exact (List.getElem_inj hN).mp (e1.trans e2.symm)
theorem store_ok2 {M : Model} {A : Around} {E : Value → Shared → Prop} {i : Nat} {x : Str} {v : V} {u : Value} {Q : Unit → Shared → Prop} (I : Inv X pins σ H s) (hN : X.N.Nodup) (hi : X.N[i]? = some x) (hx : Loc X.env.scope x) (r : RelV v u)
    (h : ∀ s', Inv X pins (σ.set i (some v)) H s' → (∃ a, Heap.SameBut a s.heap s'.heap ∧ (a = X.env.locals ∨ X.env.cells.lookup x = some a)) → Q () s') (hf : X.fn x = true ∨ X.env.scope.names.lookup x = some .local := by first | exact .inl rfl | exact .inr rfl | assumption) : wpAny M A (storeName X.env x u) Q E s := by
  obtain ⟨m, hn, hl⟩ := id I.loc
  have hcls : (X.env.scope.kind == .class || (X.env.scope.kind == .module && X.env.locals != X.env.globals)) = false := by rw [I.ok.kind]; rfl
  have hiσ : i < σ.length := by rw [I.len]; exact (List.getElem?_eq_some_iff.mp hi).1
  have cne := I.cne
  have tracked : ∀ {a : Addr} {h' : Heap}, (∃ o, s.heap.get? a = some o ∧ H a = none) → Heap.SameBut a s.heap h' → HOk X.prog X.w H h' := fun {a h'} ha hs b ob e => by
    obtain ⟨_, _, hfree⟩ := ha
    refine (I.hok b ob e).stay (fun c w' hc q => (hs.2 c ?_).trans q) (fun _ q => q) fun _ _ q => q
    rintro rfl
    rcases hc with rfl | hc
    · rw [hfree] at e; cases e
    · rw [hfree] at hc; cases hc
  rcases hx with hk | hk
  · refine wpAny_storeName_local hk hn (fun h' hn' hs => ?_) hcls
    obtain ⟨oL, _, _, hoL, _⟩ := id hn
    refine h _ ⟨I.ok, I.os, I.bare, ⟨fun b o e n hb hx => ?_, fun b o e n hb hx => ?_, I.base.free, fun b o e hx => ?_, I.base.tups, I.base.frzs, I.base.tbls⟩, ⟨_, hn', fun j y v' e1 e2 e3 => ?_⟩, fun y c e => ?_, I.free, I.freeC, fun p hp => ?_, tracked ⟨oL, hoL, I.free⟩ hs, by simpa using I.len⟩ ⟨_, hs, .inl rfl⟩
    · exact (hs.2 b (Nat.ne_of_lt (Nat.lt_of_lt_of_le (Heap.lt_size e) I.ok.above))).trans (I.base.keep b o e n hb hx)
    · obtain ⟨sl, e1⟩ := I.base.slot b o e n hb hx
      exact ⟨sl, (hs.2 b (Nat.ne_of_lt (Nat.lt_of_lt_of_le (Heap.lt_size e) I.ok.above))).trans e1⟩
    · obtain ⟨o', e1⟩ := I.base.there b o e hx
      exact ⟨o', (hs.2 b (Nat.ne_of_lt (Nat.lt_of_lt_of_le (Heap.lt_size e) I.ok.above))).trans e1⟩
    · by_cases hj : j = i
      · subst hj
        rw [hi] at e1; cases e1
        rw [List.getElem?_set_self hiσ] at e2
        cases e2
        exact ⟨u, r, .inl ⟨hk, by simp⟩⟩
      · rw [List.getElem?_set_ne (Ne.symm hj)] at e2
        obtain ⟨u', r', q⟩ := hl j y v' e1 e2 e3
        refine ⟨u', r', ?_⟩
        rcases q with ⟨k, e⟩ | ⟨k, c, e, z⟩
        · refine .inl ⟨k, ?_⟩
          have : y ≠ x := fun e => hj (nodup_ix hN e1 (e ▸ hi))
          simp [this, e]
        · exact .inr ⟨k, c, e, z.sameBut hs (cne y c e)⟩
    · obtain ⟨w', z⟩ := I.cell y c e
      exact ⟨w', z.sameBut hs (cne y c e)⟩
    · obtain ⟨e, n, ne, nf, d⟩ := I.pin p hp
      exact ⟨(hs.2 p.1 ne).trans e, n, ne, nf, d⟩
  · have hfn : X.fn x = true := by
      rcases hf with z | z
      · exact z
      · rw [z] at hk; cases hk
    obtain ⟨c, hc⟩ := I.ok.has x (.inl hk)
    obtain ⟨w', z⟩ := I.cell x c hc
    refine wpAny_storeName_cell I.ok.kind hk hc z (fun h' hc' hs => ?_)
    obtain ⟨oc, hoc, hocd⟩ := id z
    refine h { s with heap := h' } ⟨I.ok, I.os, I.bare, ⟨fun b o e n hb hx => ?_, fun b o e n hb hx => ?_, I.base.free, fun b o e hx => ?_, I.base.tups, I.base.frzs, I.base.tbls⟩, ⟨m, hn.sameBut hs (Ne.symm (cne x c hc)), fun j y v' e1 e2 e3 => ?_⟩, fun y c' e => ?_, I.free, I.freeC, fun p hp => ?_, tracked ⟨oc, hoc, I.freeC x c hc⟩ hs, by simpa using I.len⟩ ⟨c, hs, .inr hc⟩
    · exact (hs.2 b (Nat.ne_of_lt (Nat.lt_of_lt_of_le (Heap.lt_size e) (I.ok.cab x c hfn hc)))).trans (I.base.keep b o e n hb hx)
    · obtain ⟨sl, e1⟩ := I.base.slot b o e n hb hx
      exact ⟨sl, (hs.2 b (Nat.ne_of_lt (Nat.lt_of_lt_of_le (Heap.lt_size e) (I.ok.cab x c hfn hc)))).trans e1⟩
    · obtain ⟨o', e1⟩ := I.base.there b o e hx
      exact ⟨o', (hs.2 b (Nat.ne_of_lt (Nat.lt_of_lt_of_le (Heap.lt_size e) (I.ok.cab x c hfn hc)))).trans e1⟩
    · by_cases hj : j = i
      · subst hj
        rw [hi] at e1; cases e1
        rw [List.getElem?_set_self hiσ] at e2
        cases e2
        exact ⟨u, r, .inr ⟨.inl hk, c, hc, hc'⟩⟩
      · rw [List.getElem?_set_ne (Ne.symm hj)] at e2
        obtain ⟨u', r', q⟩ := hl j y v' e1 e2 e3
        refine ⟨u', r', ?_⟩
        rcases q with q | ⟨k, c', e, z'⟩
        · exact .inl q
        · refine .inr ⟨k, c', e, z'.sameBut hs ?_⟩
          rintro rfl
          exact hj (nodup_ix hN e1 (I.ok.inj _ _ _ e hc ▸ hi))
    · by_cases hcc : c' = c
      · subst hcc; exact ⟨_, hc'⟩
      · obtain ⟨w2, z2⟩ := I.cell y c' e
        exact ⟨w2, z2.sameBut hs hcc⟩
    · obtain ⟨e, n, ne, nf, d⟩ := I.pin p hp
      refine ⟨(hs.2 p.1 ?_).trans e, n, ne, nf, d⟩
      intro q
      rw [q, hoc] at e
      have q' : oc = p.2 := Option.some.inj e
      exact d w' (by rw [← q']; exact hocd)
theorem store_ok {M : Model} {A : Around} {E : Value → Shared → Prop} {i : Nat} {x : Str} {v : V} {u : Value} {Q : Unit → Shared → Prop} (I : Inv X pins σ H s) (hN : X.N.Nodup) (hi : X.N[i]? = some x) (hx : Loc X.env.scope x) (r : RelV v u)
    (h : ∀ s', Inv X pins (σ.set i (some v)) H s' → Q () s') (hf : X.fn x = true ∨ X.env.scope.names.lookup x = some .local := by first | exact .inl rfl | exact .inr rfl | assumption) : wpAny M A (storeName X.env x u) Q E s :=
  store_ok2 I hN hi hx r (fun s' I' _ => h s' I') hf
theorem Inv.call' {s' : Shared} {ch : List Addr} (I : Inv X pins σ H s) (ho : s'.os = s.os) (u : Un (frs X.stack) ch H H' s.heap s'.heap) (hok : HOk X.prog X.w H' s'.heap) (hg : AllBare s'.gens)
    (hch : ∀ b ∈ ch, (b ∈ X.ex ∨ X.s₀.heap.objs.size ≤ b) ∧ b ≠ X.env.locals ∧ (∀ x c, X.env.cells.lookup x = some c → c ≠ b) ∧ ∀ p ∈ X.pn ++ pins, p.1 ≠ b) : Inv X pins σ H' s' := by
  obtain ⟨h', g', d', t', o'⟩ := s'
  have e : o' = s.os := ho
  subst e
  exact I.call (g' := g') (t' := t') (d' := d') u hok hg hch
end
abbrev XK := Value → Option Addr → Hp → Prop
abbrev St := List (Option V)
abbrev VK := V → Hp → Prop
abbrev TE := St → Hp → VK → Prop
abbrev TT := St → Hp → (Bool → Hp → Prop) → Prop
abbrev TA := St → Hp → (List V → Hp → Prop) → Prop
structure Ends where
  nx : St → Hp → Prop
  rt : VK
  bk : St → Hp → Prop := fun _ _ => False
  ct : St → Hp → Prop := fun _ _ => False
abbrev TS := Ends → St → Hp → Prop
def EP (X : Cx) (pins : List (Addr × Obj)) (σ : St) (Q : VK) (u : Value) (s' : Shared) : Prop := ∃ v H', Inv X pins σ H' s' ∧ RelV v u ∧ Q v H'
def TP (X : Cx) (pins : List (Addr × Obj)) (σ : St) (Q : Bool → Hp → Prop) (b : Bool) (s' : Shared) : Prop := ∃ H', Inv X pins σ H' s' ∧ Q b H'
def AP (X : Cx) (pins : List (Addr × Obj)) (σ : St) (Q : List V → Hp → Prop) (us : List Value) (s' : Shared) : Prop := ∃ vs H', Inv X pins σ H' s' ∧ Vals vs us ∧ Q vs H'
def SP (X : Cx) (pins : List (Addr × Obj)) (D : Ends) (f : Flow) (s' : Shared) : Prop :=
  match f with
  | .next => ∃ σ' H', Inv X pins σ' H' s' ∧ D.nx σ' H'
  | .brk => ∃ σ' H', Inv X pins σ' H' s' ∧ D.bk σ' H'
  | .cont => ∃ σ' H', Inv X pins σ' H' s' ∧ D.ct σ' H'
  | .ret u => ∃ v σ' H', Inv X pins σ' H' s' ∧ RelV v u ∧ D.rt v H'
def PE (X : Cx) (e : Expr) (t : TE) : Prop :=
  ∀ (pins : List (Addr × Obj)) (s : Shared) (σ : St) (H : Hp) (Q : VK), Inv X pins σ H s → t σ H Q → wpAny (model X.prog X.w) X.A (eval e X.env) (EP X pins σ Q) X.xe s
def PT (X : Cx) (e : Expr) (t : TT) : Prop :=
  ∀ (pins : List (Addr × Obj)) (s : Shared) (σ : St) (H : Hp) (Q : Bool → Hp → Prop), Inv X pins σ H s → t σ H Q → wpAny (model X.prog X.w) X.A (isTrue e X.env (eval e X.env)) (TP X pins σ Q) X.xe s
def PW (X : Cx) (e : Expr) (t : TT) : Prop :=
  ∀ (whole : Sem Value) (pins : List (Addr × Obj)) (s : Shared) (σ : St) (H : Hp) (Q : Bool → Hp → Prop), Inv X pins σ H s → t σ H Q → wpAny (model X.prog X.w) X.A (isTrue e X.env whole) (TP X pins σ Q) X.xe s
theorem PW.pt {X : Cx} {e : Expr} {t : TT} (h : PW X e t) : PT X e t := h _
def PA (X : Cx) (es : List Expr) (t : TA) : Prop :=
  ∀ (pos : Pos) (pins : List (Addr × Obj)) (s : Shared) (σ : St) (H : Hp) (Q : List V → Hp → Prop), Inv X pins σ H s → t σ H Q → wpAny (model X.prog X.w) X.A (spliced (backTo pos (starEach es X.env))) (AP X pins σ Q) X.xe s
def PS (X : Cx) (st : Stmt) (t : TS) : Prop :=
  ∀ (pins : List (Addr × Obj)) (s : Shared) (σ : St) (H : Hp) (D : Ends), Inv X pins σ H s → t D σ H → wpAny (model X.prog X.w) X.A (exec st X.env) (SP X pins D) X.xe s
def PSs (X : Cx) (st : List Stmt) (t : TS) : Prop :=
  ∀ (pins : List (Addr × Obj)) (s : Shared) (σ : St) (H : Hp) (D : Ends), Inv X pins σ H s → t D σ H → wpAny (model X.prog X.w) X.A (execs st X.env) (SP X pins D) X.xe s
theorem thn {α : Type} {t : Sem α} {Q Q' : α → Shared → Prop} {M : Model} {A : Around} {E : Value → Shared → Prop} {s : Shared} (h : wpAny M A t Q E s) (hQ : ∀ a s, Q a s → Q' a s) : wpAny M A t Q' E s := wpAny_mono h hQ fun _ _ x => x
end L2
namespace L2
open PySem PySem.Spec PyProof.Rows
section
variable {X : Cx}
def tVar (i : Nat) : TE := fun σ H Q => ∃ v, σ[i]? = some (some v) ∧ Q v H
def tC (v : V) : TE := fun _ H Q => Q v H
theorem pe_var {i : Nat} {x : Str} {pos : Pos} (hN : X.N[i]? = some x) (hv : Vis X.env.scope x) (hd : (x == ("__debug__" : Str)) = false := by decide) (hcd : (x == ("__classdict__" : Str)) = false := by decide) : PE X (.Name x pos) (tVar i) := by
  intro pins s σ H Q I h
  obtain ⟨v, e, h⟩ := h
  obtain ⟨m, hn, hl⟩ := I.loc
  obtain ⟨u, r, l⟩ := hl i x v hN e hv
  have fin : EP X pins σ Q u s := ⟨v, H, I, r, h⟩
  rcases l with ⟨hk, hm⟩ | ⟨hk, c, hc, hcell⟩
  · exact wpAny_Name (wpAny_loadName_local I.ok.kind hk hn hm fin) hd
  · rcases hk with hk | hk
    · exact wpAny_Name (wpAny_loadName_cell I.ok.kind hk hc hcell fin) hd
    · exact wpAny_Name (wpAny_loadName_free I.ok.kind hk hc hcell fin hcd) hd
theorem pe_int {i j pos} : PE X (.Constant (.int i) j pos) (tC (.int i)) := fun _ _ _ H _ I h => wpAny_Constant_int ⟨.int i, H, I.tok _, ⟨_, rfl⟩, h⟩
theorem pe_bl {b j pos} : PE X (.Constant (.bool b) j pos) (tC (.bl b)) := fun _ _ _ H _ I h => Constant_bool ⟨.bl b, H, I, rfl, h⟩
def Gl (X : Cx) (x : Str) : Prop := X.env.kindOf x = some .globalImplicit
theorem ld_glob {E : Value → Shared → Prop} {pins : List (Addr × Obj)} {s : Shared} {σ : St} {H : Hp} {x : Str} {u : Value} {pos : Pos} {Q : Value → Shared → Prop} (I : Inv X pins σ H s) (hg : Gl X x) (hm : X.mg x = some u) (h : Q u s)
    (hd : (x == ("__debug__" : Str)) = false := by decide) : wpAny (model X.prog X.w) X.A (eval (.Name x pos) X.env) Q E s :=
  Calls.Name_function_global I.ok.kind hg (Calls.loadGlobal_global (by rw [I.ok.glob]; exact I.mod.glob.keeps I.bk) hm h) hd
theorem ld_blt {E : Value → Shared → Prop} {pins : List (Addr × Obj)} {s : Shared} {σ : St} {H : Hp} {x : Str} {u : Value} {pos : Pos} {Q : Value → Shared → Prop} (I : Inv X pins σ H s) (hg : Gl X x) (hm : X.mg x = none) (hv : bootBuiltins x = some u) (h : Q u s)
    (hn : x ≠ "__name__" := by decide) (hd : (x == ("__debug__" : Str)) = false := by decide) : wpAny (model X.prog X.w) X.A (eval (.Name x pos) X.env) Q E s := by
  obtain ⟨mb, h1, h2⟩ := I.mod.blt
  exact Calls.Name_function_global I.ok.kind hg (Calls.loadGlobal_builtin (by rw [I.ok.glob]; exact I.mod.glob.keeps I.bk) hm (by rw [I.ok.blt]; exact h1.keeps I.bk) ((h2 x hn).trans hv) h) hd
theorem pe_glob {x : Str} {v : V} {u : Value} {pos : Pos} (hg : Gl X x) (hm : X.mg x = some u) (r : RelV v u) (hd : (x == ("__debug__" : Str)) = false := by decide) : PE X (.Name x pos) (tC v) :=
  fun _ _ _ H _ I h => ld_glob I hg hm ⟨v, H, I, r, h⟩ hd
theorem pe_bltn {x : Str} {v : V} {u : Value} {pos : Pos} (hg : Gl X x) (hm : X.mg x = none) (hv : bootBuiltins x = some u) (r : RelV v u) (hn : x ≠ "__name__" := by decide) (hd : (x == ("__debug__" : Str)) = false := by decide) : PE X (.Name x pos) (tC v) :=
  fun _ _ _ H _ I h => ld_blt I hg hm hv ⟨v, H, I, r, h⟩ hn hd
variable {a b : Expr} {ta tb : TE} {pos : Pos}
def tB (t : TE) : TT := fun σ H Q => t σ H fun x H1 => ∃ c, x = .bl c ∧ Q c H1
variable {tA tB' : TT} {rest : List Expr}
def tAnd (t u : TT) : TT := fun σ H Q => t σ H fun c H1 => if c = true then u σ H1 Q else Q false H1
def tOr (t u : TT) : TT := fun σ H Q => t σ H fun c H1 => if c = true then Q true H1 else u σ H1 Q
def tNot (t : TT) : TT := fun σ H Q => t σ H fun c H1 => Q (!c) H1
theorem pw_or1 (ha : PT X a tA) : PW X (.BoolOp .Or [a] pos) tA := by
  intro wh pins s σ H Q I h
  refine isTrue_or (thn (ha pins s σ H Q I h) fun c s1 e => ?_)
  cases c with
  | false => exact isTrue_or_nil e
  | true => exact e
theorem pw_or (ha : PT X a tA) (hb : PW X (.BoolOp .Or (b :: rest) pos) tB') : PW X (.BoolOp .Or (a :: b :: rest) pos) (tOr tA tB') := by
  intro wh pins s σ H Q I h
  refine isTrue_or (thn (ha pins s σ H _ I h) fun c s1 ⟨H1, I1, q1⟩ => ?_)
  cases c with
  | true => exact ⟨H1, I1, q1⟩
  | false => exact hb wh pins s1 σ H1 Q I1 q1
theorem pt_not (ha : PT X a tA) : PT X (.UnaryOp .Not a pos) (tNot tA) := by
  intro pins s σ H Q I h
  exact isTrue_not (ha pins s σ H (fun c H1 => Q (!c) H1) I h)
def tAndV (ta tb : TE) : TE := fun σ H Q => ta σ H fun x H1 => ∃ c, x = .bl c ∧ if c = true then tb σ H1 Q else Q (.bl false) H1
def tNotV (ta : TE) : TE := fun σ H Q => ta σ H fun x H1 => ∃ c, x = .bl c ∧ Q (.bl (!c)) H1
theorem pe_one {op} {t : TE} (h : PE X a t) : PE X (.BoolOp op [a] pos) t := fun pins s σ H Q I hw => BoolOp_one (h pins s σ H Q I hw)
theorem pe_and (ha : PE X a ta) (hb : PE X (.BoolOp .And (b :: rest) pos) tb) : PE X (.BoolOp .And (a :: b :: rest) pos) (tAndV ta tb) := by
  intro pins s σ H Q I h
  refine BoolOp_and (thn (ha pins s σ H _ I h) fun v s1 ⟨x, H1, I1, r1, q1⟩ => ?_)
  obtain ⟨c, rfl, q1⟩ := q1
  cases r1
  refine wpAny_truthy_bool ?_
  cases c with
  | true => exact hb pins s1 σ H1 Q I1 q1
  | false => exact ⟨.bl false, H1, I1, rfl, q1⟩
theorem pe_not (ha : PE X a ta) : PE X (.UnaryOp .Not a pos) (tNotV ta) := by
  intro pins s σ H Q I h
  refine UnaryOp_ (thn (ha pins s σ H _ I h) fun v s1 ⟨x, H1, I1, r1, q1⟩ => ?_)
  obtain ⟨c, rfl, q1⟩ := q1
  cases r1
  exact not_of (wpAny_truthy_bool ⟨.bl (!c), H1, I1, rfl, q1⟩)
end
end L2
namespace L2
open PySem PySem.Spec PyProof.Rows
def SqL (K : PySem.W.Frag) (H : Hp) (a : Addr) (xs : List V) : Prop :=
  Rd H a (.lst xs) ∨
    ∃ (o : Obj) (its : Array Value) (n : Nat), K.lookup a = some o ∧ o.cls = .type "list" ∧ o.dict = none ∧ o.data = .seq its n ∧ its.size ≤ sizeLine ∧ Vals xs its.toList
def SqT (K : PySem.W.Frag) (H : Hp) (a : Addr) (xs : List V) : Prop :=
  Rd H a (.tup xs) ∨
    ∃ (o : Obj) (its : Array Value) (n : Nat), K.lookup a = some o ∧ o.cls = .type "tuple" ∧ o.data = .seq its n ∧ its.size ≤ sizeLine ∧ Vals xs its.toList
def absV : Value → Option V
  | .none => some .non
  | .bool b => some (.bl b)
  | .int i _ => some (.int i)
  | .str x _ => some (.str x)
  | .bytes b _ => some (.byt b)
  | .float b _ => some (.flt b)
  | .ref a => some (.ref a)
  | .type n => some (.ty n)
  | _ => none
theorem RelV.abs {x : V} {u : Value} (r : RelV x u) : absV u = some x := by
  cases x with
  | non => cases r; rfl
  | bl _ => cases r; rfl
  | int _ => obtain ⟨t, rfl⟩ := r; rfl
  | str _ => obtain ⟨t, rfl⟩ := r; rfl
  | byt _ => obtain ⟨t, rfl⟩ := r; rfl
  | flt _ => obtain ⟨t, rfl⟩ := r; rfl
  | ref _ => cases r; rfl
  | ty _ => cases r; rfl
theorem RelV.inj {x y : V} {u : Value} (r : RelV x u) (q : RelV y u) : x = y := Option.some.inj (r.abs.symm.trans q.abs)
theorem Vals.inj : ∀ {xs ys : List V} {us : List Value}, Vals xs us → Vals ys us → xs = ys
  | _, _, _, .nil, .nil => rfl
  | _, _, _, .cons r t, .cons r' t' => by rw [r.inj r', Vals.inj t t']
section
variable {X : Cx} {pins : List (Addr × Obj)} {σ : St} {H : Hp} {s : Shared} {a : Addr} {xs ys : List V}
theorem SqL.of {K : PySem.W.Frag} (h : H a = some (.lst xs)) : SqL K H a xs := .inl (.inl h)
theorem SqT.of {K : PySem.W.Frag} (h : H a = some (.tup xs)) : SqT K H a xs := .inl (.inl h)
theorem Inv.list (I : Inv X pins σ H s) (h : SqL X.K H a xs) : ∃ its : List Value, Vals xs its ∧ PlainL s.heap a its.toArray ∧ xs.length ≤ sizeLine := by
  rcases h with h | ⟨o, its, n, hk, hc, hd, hs, hz, r⟩
  · obtain ⟨z, its, n, r, e⟩ := h.ok I.hok
    exact ⟨its, r, ⟨_, n, e, rfl, rfl, rfl⟩, z⟩
  · refine ⟨its.toList, r, ⟨o, n, I.kIn a o hk, hc, hd, by simpa using hs⟩, ?_⟩
    have e := r.length
    simp only [Array.length_toList] at e
    omega
theorem Inv.tuple (I : Inv X pins σ H s) (h : SqT X.K H a xs) : ∃ its : List Value, Vals xs its ∧ IsTup s.heap a its.toArray ∧ xs.length ≤ sizeLine := by
  rcases h with h | ⟨o, its, n, hk, hc, hs, hz, r⟩
  · obtain ⟨z, its, r, p⟩ := h.ok I.hok
    exact ⟨its, r, p, z⟩
  · refine ⟨its.toList, r, ⟨o, I.kIn a o hk, hc, n, by simpa using hs⟩, ?_⟩
    have e := r.length
    simp only [Array.length_toList] at e
    omega
theorem Inv.list_inj (I : Inv X pins σ H s) (h : SqL X.K H a xs) (h' : SqL X.K H a ys) : xs = ys := by
  obtain ⟨its, r, ⟨o, n, e, _, _, d⟩, _⟩ := I.list h
  obtain ⟨its', r', ⟨o', n', e', _, _, d'⟩, _⟩ := I.list h'
  rw [e] at e'; cases e'
  rw [d] at d'
  injection d' with d1 _
  have : its = its' := by simpa using congrArg Array.toList d1
  subst this
  exact r.inj r'
theorem Inv.tuple_inj (I : Inv X pins σ H s) (h : SqT X.K H a xs) (h' : SqT X.K H a ys) : xs = ys := by
  obtain ⟨its, r, ⟨o, e, _, n, d⟩, _⟩ := I.tuple h
  obtain ⟨its', r', ⟨o', e', _, n', d'⟩, _⟩ := I.tuple h'
  rw [e] at e'; cases e'
  rw [d] at d'
  injection d' with d1 _
  have : its = its' := by simpa using congrArg Array.toList d1
  subst this
  exact r.inj r'
end
abbrev Cx.wish (X : Cx) (E : Value → Shared → Prop) : Cx := { X with xe := E }
abbrev Cx.nox (X : Cx) : Cx := X.wish fun _ _ => False
theorem Cx.Ok.wish {X : Cx} (ok : X.Ok) (E : Value → Shared → Prop) : (X.wish E).Ok :=
  ⟨ok.mod, ok.kind, ok.glob, ok.blt, ok.above, ok.inj, ok.has, ok.cab, ok.hd, ok.frames, ok.stk, ok.exf, ok.bs, ok.bsz, ok.noex, ok.exfs, ok.funs, ok.frf⟩
theorem Cx.Ok.unwish {X : Cx} {E : Value → Shared → Prop} (ok : (X.wish E).Ok) : X.Ok :=
  ⟨ok.mod, ok.kind, ok.glob, ok.blt, ok.above, ok.inj, ok.has, ok.cab, ok.hd, ok.frames, ok.stk, ok.exf, ok.bs, ok.bsz, ok.noex, ok.exfs, ok.funs, ok.frf⟩
section
variable {X : Cx} {pins : List (Addr × Obj)} {σ : St} {H : Hp} {s : Shared} {E : Value → Shared → Prop}
theorem Inv.wish (I : Inv X pins σ H s) (E : Value → Shared → Prop) : Inv (X.wish E) pins σ H s := ⟨I.ok.wish E, I.os, I.bare, I.base, I.loc, I.cell, I.free, I.freeC, I.pin, I.hok, I.len⟩
theorem Inv.unwish (I : Inv (X.wish E) pins σ H s) : Inv X pins σ H s := ⟨I.ok.unwish, I.os, I.bare, I.base, I.loc, I.cell, I.free, I.freeC, I.pin, I.hok, I.len⟩
theorem SP.unwish {D : Ends} {f : Flow} {s' : Shared} (h : SP (X.wish E) pins D f s') : SP X pins D f s' := by
  cases f with
  | next => obtain ⟨σ', H', I, q⟩ := h; exact ⟨σ', H', I.unwish, q⟩
  | brk => obtain ⟨σ', H', I, q⟩ := h; exact ⟨σ', H', I.unwish, q⟩
  | cont => obtain ⟨σ', H', I, q⟩ := h; exact ⟨σ', H', I.unwish, q⟩
  | ret u => obtain ⟨v, σ', H', I, r, q⟩ := h; exact ⟨v, σ', H', I.unwish, r, q⟩
theorem PE.nox {e : Expr} {t : TE} (h : PE X.nox e t) : PE X e t := fun pins s σ H Q I hw =>
  wpAny_mono (h pins s σ H Q (I.wish _) hw) (fun _ _ ⟨v, H', I', r, q⟩ => ⟨v, H', I'.unwish, r, q⟩) fun _ _ z => False.elim z
theorem PT.nox {e : Expr} {t : TT} (h : PT X.nox e t) : PT X e t := fun pins s σ H Q I hw =>
  wpAny_mono (h pins s σ H Q (I.wish _) hw) (fun _ _ ⟨H', I', q⟩ => ⟨H', I'.unwish, q⟩) fun _ _ z => False.elim z
theorem PSs.nox {st : List Stmt} {t : TS} (h : PSs X.nox st t) : PSs X st t := fun pins s σ H D I hw =>
  wpAny_mono (h pins s σ H D (I.wish _) hw) (fun _ _ q => q.unwish) fun _ _ z => False.elim z
end
section
variable {X : Cx} {st : Stmt} {rest : List Stmt} {t u : TS} {e : Expr} {te : TE} {pos : Pos}
def tNext : TS := fun D σ H => D.nx σ H
def tSeq (t u : TS) : TS := fun D σ H => t { D with nx := u D } σ H
theorem pss_nil : PSs X [] tNext := fun _ _ σ H _ I h => wpAny_execs_nil ⟨σ, H, I, h⟩
theorem pss_cons (h1 : PS X st t) (h2 : PSs X rest u) : PSs X (st :: rest) (tSeq t u) := by
  intro pins s σ H D I h
  refine wpAny_execs_cons (thn (h1 pins s σ H { D with nx := u D } I h) fun f s1 q => ?_)
  cases f with
  | next =>
    obtain ⟨σ', H', I', q⟩ := q
    exact h2 pins s1 σ' H' D I' q
  | ret v => exact q
  | brk => exact q
  | cont => exact q
theorem pss_one (h1 : PS X st t) : PSs X [st] t := by
  intro pins s σ H D I h
  refine wpAny_execs_cons (thn (h1 pins s σ H D I h) fun f s1 q => ?_)
  cases f with
  | next => exact wpAny_execs_nil q
  | ret v => exact q
  | brk => exact q
  | cont => exact q
theorem Inv.quiet {pins : List (Addr × Obj)} {σ : St} {H : Hp} {s : Shared} (I : Inv X pins σ H s) : interactive X.env = false := by simp [interactive, I.ok.kind]
def tDrop (te : TE) : TS := fun D σ H => te σ H fun _ H1 => D.nx σ H1
theorem ps_expr (he : PE X e te) (hs : swapsWith e none pos.line X.env = pure false := by rfl) : PS X (.Expr e pos) (tDrop te) := by
  intro pins s σ H D I h
  exact wpAny_Expr_any (thn (he pins s σ H _ I h) fun v s1 ⟨x, H1, I1, r1, q1⟩ => ⟨σ, H1, I1, q1⟩) I.quiet hs
def tRet (te : TE) : TS := fun D σ H => te σ H D.rt
theorem ps_ret (he : PE X e te) : PS X (.Return (some e) pos) (tRet te) := by
  intro pins s σ H D I h
  exact wpAny_Return_some (thn (he pins s σ H _ I h) fun v s1 ⟨x, H1, I1, r1, q1⟩ => ⟨x, σ, H1, I1, r1, q1⟩)
def tIfS (c : TT) (t u : TS) : TS := fun D σ H => c σ H fun b H1 => if b = true then t D σ H1 else u D σ H1
theorem ps_if {c : Expr} {a b : List Stmt} {tc : TT} (hc : PT X c tc) (ha : PSs X a t) (hb : PSs X b u) : PS X (.If c a b pos) (tIfS tc t u) := by
  intro pins s σ H D I h
  refine wpAny_If (thn (hc pins s σ H _ I h) fun d s1 ⟨H1, I1, q1⟩ => ?_)
  cases d with
  | true => exact ha pins s1 σ H1 D I1 q1
  | false => exact hb pins s1 σ H1 D I1 q1
def tNever : TS := fun _ _ _ => False
theorem ps_never : PS X st tNever := fun _ _ _ _ _ _ h => h.elim
end
abbrev TG := V → St → Hp → (St → Hp → Prop) → Prop
abbrev TGs := List V → St → Hp → (St → Hp → Prop) → Prop
def PG (X : Cx) (target : Expr) (t : TG) : Prop :=
  ∀ (pins : List (Addr × Obj)) (s : Shared) (σ : St) (H : Hp) (v : V) (u : Value) (Q : St → Hp → Prop), Inv X pins σ H s → RelV v u → t v σ H Q →
    wpAny (model X.prog X.w) X.A (assign target X.env u) (fun _ s' => ∃ σ' H', Inv X pins σ' H' s' ∧ Q σ' H') X.xe s
def PGs (X : Cx) (ts : List Expr) (t : TGs) : Prop :=
  ∀ (pins : List (Addr × Obj)) (s : Shared) (σ : St) (H : Hp) (vs : List V) (us : List Value) (Q : St → Hp → Prop), Inv X pins σ H s → Vals vs us → t vs σ H Q →
    wpAny (model X.prog X.w) X.A (assignInOrder ((assignEach ts X.env).map (·.2)) us) (fun _ s' => ∃ σ' H', Inv X pins σ' H' s' ∧ Q σ' H') X.xe s
abbrev TSet := V → V → V → Hp → (Hp → Prop) → Prop
def PSet (X : Cx) (t : TSet) : Prop :=
  ∀ (pins : List (Addr × Obj)) (s : Shared) (σ : St) (H : Hp) (o i v : V) (ov iv u : Value) (Q : Hp → Prop), Inv X pins σ H s → RelV o ov → RelV i iv → RelV v u → t o i v H Q →
    wpAny (model X.prog X.w) X.A (setItem ov iv u) (fun _ s' => ∃ H', Inv X pins σ H' s' ∧ Q H') X.xe s
section
variable {X : Cx} {pos : Pos}
def gName (i : Nat) : TG := fun v σ H Q => Q (σ.set i (some v)) H
theorem pg_name {i : Nat} {x : Str} (hN : X.N.Nodup) (hi : X.N[i]? = some x) (hx : Loc X.env.scope x) (hf : X.fn x = true ∨ X.env.scope.names.lookup x = some .local := by first | exact .inl rfl | exact .inr rfl | assumption) : PG X (.Name x pos) (gName i) := by
  intro pins s σ H v u Q I r h
  exact wpAny_assign_Name (store_ok I hN hi hx r (fun s' I' => ⟨_, H, I', h⟩) hf)
def gNil : TGs := fun vs σ H Q => vs = [] ∧ Q σ H
def gCons (t : TG) (u : TGs) : TGs := fun vs σ H Q => ∃ v r, vs = v :: r ∧ t v σ H fun σ' H' => u r σ' H' Q
theorem pgs_nil : PGs X [] gNil := by
  intro pins s σ H vs us Q I r h
  obtain ⟨e, h⟩ := h
  subst e
  cases r
  exact assignInOrder_nil ⟨σ, H, I, h⟩
theorem pgs_cons {e : Expr} {es : List Expr} {t : TG} {u : TGs} (h1 : PG X e t) (h2 : PGs X es u)
    (hs : (assignEach (e :: es) X.env).map (·.2) = assign e X.env :: (assignEach es X.env).map (·.2) := by rfl) : PGs X (e :: es) (gCons t u) := by
  intro pins s σ H vs us Q I r h
  obtain ⟨v, vr, e1, h⟩ := h
  subst e1
  cases r with
  | cons r rr =>
    rw [hs]
    refine assignInOrder_cons (thn (h1 pins s σ H _ _ _ I r h) fun _ s1 ⟨σ1, H1, I1, q1⟩ => ?_)
    exact h2 pins s1 σ1 H1 _ _ Q I1 rr q1
def gTup (K : PySem.W.Frag) (n : Nat) (t : TGs) : TG := fun v σ H Q => ∃ a xs, v = .ref a ∧ SqT K H a xs ∧ xs.length = n ∧ t xs σ H Q
theorem pg_tup {es : List Expr} {k : Nat} {t : TGs} {n : Nat} (hc : X.calm = true) (h : PGs X es t)
    (hn : (assignEach es X.env).length = n := by rfl) (hst : (assignEach es X.env).findIdx? (·.1) = none := by rfl) : PG X (.Tuple es k pos) (gTup X.K n t) := by
  intro pins s σ H v u Q I r hw
  obtain ⟨a, xs, e1, hq, hl, hw⟩ := hw
  subst e1
  cases r
  obtain ⟨its, rv, ht, hz⟩ := I.tuple hq
  refine assign_Tuple_tuple (I.ok.hd hc) ht (by simp [hn, ← hl, rv.length]) hst fun h' hx => ?_
  have I1 : Inv X pins σ H { s with heap := h' } := I.kept (t' := s.toks) fun b o e => hx b o (Nat.ne_of_lt (Heap.lt_size e)) e
  exact h pins _ σ H xs _ Q I1 (by simpa using rv) hw
def gSub (to ti : TE) (t : TSet) : TG := fun v σ H Q => to σ H fun o H1 => ti σ H1 fun i H2 => t o i v H2 fun H3 => Q σ H3
theorem pg_sub {o i : Expr} {to ti : TE} {t : TSet} (ho : PE X o to) (hi : PE X i ti) (hs : PSet X t)
    (ha : ∀ v, assign (.Subscript o i pos) X.env v = (do
      let ov ← holding [v] (eval o X.env)
      let iv ← holding [v, ov] (eval i X.env)
      standAt pos
      holding [v, ov, iv] (setItem ov iv v)
      release [v, ov, iv] []) := by intro _; rfl) : PG X (.Subscript o i pos) (gSub to ti t) := by
  intro pins s σ H v u Q I r h
  rw [ha]
  refine wpAny_bind (wpAny_holding (thn (ho pins s σ H _ I h) fun ov s1 ⟨x, H1, I1, r1, q1⟩ => ?_))
  refine wpAny_bind (wpAny_holding (thn (hi pins s1 σ H1 _ I1 q1) fun iv s2 ⟨y, H2, I2, r2, q2⟩ => ?_))
  refine wpAny_bind (wpAny_standAt (wpAny_bind (wpAny_holding (thn (hs pins s2 σ H2 x y v ov iv u _ I2 r1 r2 r q2) fun _ s3 ⟨H3, I3, q3⟩ => ?_))))
  exact wpAny_release ⟨σ, H3, I3, q3⟩
def tAsg (te : TE) (g : TG) : TS := fun D σ H => te σ H fun x H1 => g x σ H1 D.nx
theorem ps_asg {tg e : Expr} {te : TE} {g : TG} (he : PE X e te) (hg : PG X tg g) (hs : swapsWithSole [tg] e pos.line X.env = pure false := by rfl) (hw : swappedStores [tg] e X.env = pure none := by rfl)
    (h1 : (assignEach [tg] X.env).map (·.2) = [assign tg X.env] := by rfl) : PS X (.Assign [tg] e pos) (tAsg te g) := by
  intro pins s σ H D I h
  refine wpAny_Assign_stores (thn (he pins s σ H _ I h) fun v s1 ⟨x, H1, I1, r1, q1⟩ => ?_) hs hw
  rw [h1]
  exact thn (hg pins s1 σ H1 x v _ I1 r1 q1) fun _ s2 q => q
theorem ps_set {i : Nat} {x : Str} {e : Expr} {te : TE} {pos' : Pos} (hN : X.N.Nodup) (hi : X.N[i]? = some x) (hx : Loc X.env.scope x) (he : PE X e te) (hs : swapsWith e (some (.Name x pos')) pos.line X.env = pure false := by rfl) (hf : X.fn x = true ∨ X.env.scope.names.lookup x = some .local := by first | exact .inl rfl | exact .inr rfl | assumption) :
    PS X (.Assign [.Name x pos'] e pos) (tAsg te (gName i)) := by
  intro pins s σ H D I h
  refine wpAny_Assign_Name (thn (he pins s σ H _ I h) fun v s1 ⟨y, H1, I1, r1, q1⟩ => ?_) hs
  exact store_ok I1 hN hi hx r1 (fun s2 I2 => ⟨_, H1, I2, q1⟩) hf
end
section
variable {X : Cx} {pos : Pos}
def tWhile (c : TT) (tb : TS) : TS := fun D σ H => ∃ W : Nat → St → Hp → Prop, (∃ m, W m σ H) ∧ ∀ m σ H, W m σ H →
  c σ H fun b H1 => if b = true then ∃ N : St → Hp → Prop, (∀ σ' H', N σ' H' → ∃ m', m' < m ∧ W m' σ' H') ∧ tb { D with nx := N, ct := N, bk := D.nx } σ H1 else D.nx σ H1
theorem ps_while {c : Expr} {body : List Stmt} {tc : TT} {tb : TS} (hp : PassesOwn (model X.prog X.w) X.A X.env X.xe) (hc : PT X c tc) (hb : PSs X body tb) : PS X (.While c body [] pos) (tWhile tc tb) := by
  intro pins s σ H D I h
  obtain ⟨W, ⟨m0, w0⟩, turn⟩ := h
  refine wpAny_While (codeAny_whileLoop (fun n s' => ∃ σ' H', Inv X pins σ' H' s' ∧ W n σ' H') ?_ m0 ⟨σ, H, I, w0⟩)
  rintro n s1 ⟨σ1, H1, I1, w1⟩
  refine wpAny_passesOwn hp (thn (hc pins s1 σ1 H1 _ I1 (turn n σ1 H1 w1)) fun b s2 ⟨H2, I2, q2⟩ => ?_)
  cases b with
  | true =>
    obtain ⟨N, hN, q2⟩ := q2
    rw [if_pos rfl]
    refine wpAny_passesOwn hp (thn (hb pins s2 σ1 H2 _ I2 q2) fun f s3 q3 => ?_)
    cases f with
    | next =>
      obtain ⟨σ3, H3, I3, n3⟩ := q3
      obtain ⟨m', hm, w3⟩ := hN σ3 H3 n3
      exact ⟨m', hm, σ3, H3, I3, w3⟩
    | cont =>
      obtain ⟨σ3, H3, I3, n3⟩ := q3
      obtain ⟨m', hm, w3⟩ := hN σ3 H3 n3
      exact ⟨m', hm, σ3, H3, I3, w3⟩
    | brk => exact q3
    | ret v => exact q3
  | false =>
    rw [if_neg Bool.false_ne_true]
    exact wpAny_execs_nil ⟨σ1, H2, I2, q2⟩
end
structure It where
  go : Nat → Hp → Prop
  yld : Nat → Hp → V → Hp → Prop
  stop : Nat → Hp → Prop
def FpOk (X : Cx) (pins : List (Addr × Obj)) (H : Hp) (b : Addr) : Prop :=
  H b = none ∧ b ≠ X.env.locals ∧ b ∉ X.fs ∧ (b ∈ X.ex ∨ X.s₀.heap.objs.size ≤ b) ∧ (∀ x c, X.env.cells.lookup x = some c → c ≠ b) ∧ ∀ p ∈ X.pn ++ pins, p.1 ≠ b
theorem Inv.fpOk {X : Cx} {pins : List (Addr × Obj)} {σ : St} {H H' : Hp} {s : Shared} {b : Addr} (I : Inv X pins σ H s) (hb : s.heap.objs.size ≤ b) (hn : H' b = none) : FpOk X pins H' b := by
  refine ⟨hn, Nat.ne_of_gt (Nat.lt_of_lt_of_le I.lt hb), I.nofs hb, .inr (Nat.le_trans I.sz hb), fun x c e z => ?_, fun p hp z => ?_⟩
  · obtain ⟨v, q⟩ := I.cell x c e
    exact absurd (Nat.lt_of_lt_of_le q.lt (by rw [z]; exact hb)) (Nat.lt_irrefl _)
  · exact absurd (Nat.lt_of_lt_of_le (Heap.lt_size (I.pin p hp).1) (by rw [z]; exact hb)) (Nat.lt_irrefl _)
structure Turn (P : Program) (w : World) (K : PySem.W.Frag) (tg : Expr) (J : It) (fp : List Addr) (it : Addr) (tn : Nat → Heap → Prop) : Prop where
  mem : it ∈ fp
  obj : ∀ i h, tn i h → ∀ b ∈ fp, ∃ o, h.get? b = some o ∧ ∀ v, o.data ≠ .cell v
  keep : ∀ i h h', tn i h → (∀ b ∈ fp, ∀ o, h.get? b = some o → h'.get? b = some o) → tn i h'
  item : ∀ (X : Cx), X.prog = P → X.w = w → X.K = K → X.calm = true → ∀ (i : Nat) (pins : List (Addr × Obj)) (s : Shared) (σ : St) (H : Hp) (E : Value → Shared → Prop), Inv X pins σ H s → (∀ b ∈ fp, FpOk X pins H b) → tn i s.heap → J.go i H →
    wpAny (model P w) X.A (pyNext (.ref it)) (fun r s1 => ∃ u, r = some u ∧
      wpAny (model P w) X.A (letOwnedTupleGo tg (.ref it) u) (fun _ s2 => ∃ x H', Inv X pins σ H' s2 ∧ RelV x u ∧ J.yld i H x H' ∧ tn (i + 1) s2.heap ∧ ∀ b ∈ fp, H' b = none) E s1) E s
  done : ∀ (X : Cx), X.prog = P → X.w = w → X.K = K → X.calm = true → ∀ (i : Nat) (pins : List (Addr × Obj)) (s : Shared) (σ : St) (H : Hp) (E : Value → Shared → Prop), Inv X pins σ H s → (∀ b ∈ fp, FpOk X pins H b) → tn i s.heap → J.stop i H →
    wpAny (model P w) X.A (pyNext (.ref it)) (fun r s1 => r = none ∧ Inv X pins σ H s1) E s
  self : ∀ (A : Around) (i : Nat) (s : Shared) (Q : Value → Shared → Prop) (E : Value → Shared → Prop), tn i s.heap → Q (.ref it) s → wpAny (model P w) A (pyIter (.ref it)) Q E s
abbrev TI := St → Hp → (It → Hp → Prop) → Prop
def PIE (X : Cx) (pins : List (Addr × Obj)) (σ : St) (tg : Expr) (R : It → Hp → Prop) (itv : Value) (s2 : Shared) : Prop :=
  ∃ (it : Addr) (fp : List Addr) (tn : Nat → Heap → Prop) (J : It) (H' : Hp), itv = .ref it ∧ Inv X pins σ H' s2 ∧ Turn X.prog X.w X.K tg J fp it tn ∧ tn 0 s2.heap ∧ (∀ b ∈ fp, FpOk X pins H' b) ∧ R J H'
def PI (X : Cx) (tg iter : Expr) (wi : TI) : Prop :=
  ∀ (pins : List (Addr × Obj)) (s : Shared) (σ : St) (H : Hp) (R : It → Hp → Prop), Inv X pins σ H s → wi σ H R →
    wpAny (model X.prog X.w) X.A (eval iter X.env) (fun v s1 => wpAny (model X.prog X.w) X.A (pyIter v) (PIE X pins σ tg R) X.xe s1) X.xe s
theorem go_of {M : Model} {A : Around} {E : Value → Shared → Prop} {s : Shared} {tg : Expr} {it : Addr} {u : Value} {o : Obj} {n : String} {vs : Array Value} {Q : Unit → Shared → Prop} (ho : s.heap.get? it = some o) (hc : o.cls = .type n) (hd : o.data = .fields vs)
    (hn : ["enumerate", "zip", "dict_itemiterator", "dict_reverseitemiterator", "odict_iterator", "itertools.zip_longest", "itertools.pairwise"].contains n = false) (hQ : Q () s) : wpAny M A (letOwnedTupleGo tg (.ref it) u) Q E s := by
  unfold letOwnedTupleGo
  cases tg <;> first
    | exact wpAny_pure hQ
    | (cases u <;> first
        | exact wpAny_pure hQ
        | (refine wpAny_bind (wpAny_load ho ?_)
           rw [hc, hd]
           show wpAny M A (if (["enumerate", "zip", "dict_itemiterator", "dict_reverseitemiterator", "odict_iterator", "itertools.zip_longest", "itertools.pairwise"].contains n && vs[0]? == some (rawInt _)) = true then _ else _) Q E s
           rw [if_neg (by intro h; rw [hn, Bool.false_and] at h; cases h)]
           exact wpAny_pure hQ))
def Itl (K : PySem.W.Frag) (a : Addr) : It :=
  ⟨fun i H => ∃ xs x, SqL K H a xs ∧ xs[i]? = some x, fun i H x H' => H' = H ∧ ∀ xs, SqL K H a xs → xs[i]? = some x, fun i H => ∃ xs, SqL K H a xs ∧ xs.length ≤ i⟩
def Itt (K : PySem.W.Frag) (a : Addr) : It :=
  ⟨fun i H => ∃ xs x, SqT K H a xs ∧ xs[i]? = some x, fun i H x H' => H' = H ∧ ∀ xs, SqT K H a xs → xs[i]? = some x, fun i H => ∃ xs, SqT K H a xs ∧ xs.length ≤ i⟩
def Itr (lo : Int) (n : Nat) : It := ⟨fun i _ => i < n, fun i H x H' => H' = H ∧ x = .int (lo + i), fun i _ => n ≤ i⟩
theorem turn_list {P : Program} {w : World} {K : PySem.W.Frag} {tg : Expr} (a it : Addr) : Turn P w K tg (Itl K a) [it] it (fun i h => h.IsListIter it a i) where
  mem := by simp
  obj := fun i h st b hb => by
    have e : b = it := by simpa using hb
    subst e
    obtain ⟨o, e, c, d⟩ := st
    exact ⟨o, e, fun v z => by rw [d] at z; cases z⟩
  keep := fun i h h' st k => st.at fun o e => k it (by simp) o e
  item := by
    intro X hP hw hK hc i pins s σ H E I hf st hg
    subst hP hw hK
    obtain ⟨xs, x, hq, hx⟩ := hg
    obtain ⟨its, rv, p, hz⟩ := I.list hq
    obtain ⟨u, hu, ru⟩ := rv.get hx
    obtain ⟨f0, f1, f2, f3, f4, f5⟩ := hf it (by simp)
    refine wpAny_pyNext_list_item st p.isList (x := u) (by simpa using hu) fun h' st' sb => ?_
    have I1 : Inv X pins σ H { s with heap := h' } := I.turned (t' := s.toks) (fun b o hb e => (sb.2 b hb).trans e) f0 f1 f3 f4 f5
    obtain ⟨o, e, c, d⟩ := id st'
    exact ⟨u, rfl, go_of (s := { s with heap := h' }) e c d (by decide) ⟨x, H, I1, ru, ⟨rfl, fun ys hy => by rw [I.list_inj hy hq]; exact hx⟩, st', fun b hb => (hf b hb).1⟩⟩
  done := by
    intro X hP hw hK hc i pins s σ H E I hf st hg
    subst hP hw hK
    obtain ⟨xs, hq, hx⟩ := hg
    obtain ⟨its, rv, p, hz⟩ := I.list hq
    obtain ⟨f0, f1, f2, f3, f4, f5⟩ := hf it (by simp)
    have hl := rv.length
    exact wpAny_pyNext_list_end (I.ok.hd hc) st p.isList (by simp; omega) fun h' eb => ⟨rfl, I.turned (t' := s.toks) (fun b o hb e => eb b o hb e) f0 f1 f3 f4 f5⟩
  self := fun _ _ _ _ _ st h => wpAny_pyIter_listiter st h
theorem turn_tuple {P : Program} {w : World} {K : PySem.W.Frag} {tg : Expr} (a it : Addr) : Turn P w K tg (Itt K a) [it] it (fun i h => h.IsTupleIter it a i) where
  mem := by simp
  obj := fun i h st b hb => by
    have e : b = it := by simpa using hb
    subst e
    obtain ⟨o, e, c, d⟩ := st
    exact ⟨o, e, fun v z => by rw [d] at z; cases z⟩
  keep := fun i h h' st k => st.at fun o e => k it (by simp) o e
  item := by
    intro X hP hw hK hc i pins s σ H E I hf st hg
    subst hP hw hK
    obtain ⟨xs, x, hq, hx⟩ := hg
    obtain ⟨its, rv, p, hz⟩ := I.tuple hq
    obtain ⟨u, hu, ru⟩ := rv.get hx
    obtain ⟨f0, f1, f2, f3, f4, f5⟩ := hf it (by simp)
    refine wpAny_pyNext_tuple_item st (show s.heap.IsTuple a its.toArray from p) (x := u) (by simpa using hu) fun h' st' sb => ?_
    have I1 : Inv X pins σ H { s with heap := h' } := I.turned (t' := s.toks) (fun b o hb e => (sb.2 b hb).trans e) f0 f1 f3 f4 f5
    obtain ⟨o, e, c, d⟩ := id st'
    exact ⟨u, rfl, go_of (s := { s with heap := h' }) e c d (by decide) ⟨x, H, I1, ru, ⟨rfl, fun ys hy => by rw [I.tuple_inj hy hq]; exact hx⟩, st', fun b hb => (hf b hb).1⟩⟩
  done := by
    intro X hP hw hK hc i pins s σ H E I hf st hg
    subst hP hw hK
    obtain ⟨xs, hq, hx⟩ := hg
    obtain ⟨its, rv, p, hz⟩ := I.tuple hq
    obtain ⟨f0, f1, f2, f3, f4, f5⟩ := hf it (by simp)
    have hl := rv.length
    exact wpAny_pyNext_tuple_end (I.ok.hd hc) st (show s.heap.IsTuple a its.toArray from p) (by simp; omega) fun h' eb => ⟨rfl, I.turned (t' := s.toks) (fun b o hb e => eb b o hb e) f0 f1 f3 f4 f5⟩
  self := fun _ _ _ _ _ st h => wpAny_pyIter_tupleiter st h
theorem turn_range {P : Program} {w : World} {K : PySem.W.Frag} {tg : Expr} (it : Addr) (lo : Int) (n : Nat) : Turn P w K tg (Itr lo n) [it] it (fun i h => IsRangeIter h it (lo + (i : Nat) * 1) ((n : Int) - (i : Nat)) 1) where
  mem := by simp
  obj := fun i h st b hb => by
    have e : b = it := by simpa using hb
    subst e
    exact ⟨_, st, fun v z => by
      have z' : Data.fields _ = Data.cell v := z
      cases z'⟩
  keep := fun i h h' st k => k it (by simp) _ st
  item := by
    intro X hP hw hK hc i pins s σ H E I hf st hg
    subst hP hw hK
    obtain ⟨f0, f1, f2, f3, f4, f5⟩ := hf it (by simp)
    have W := Walks.range (prog := X.prog) (w := X.w) (I.ok.hd hc) it lo 1 n
    refine W.item i s _ _ hg st fun v h' tk hv st' kk => ?_
    obtain ⟨t, rfl⟩ := hv
    have I1 : Inv X pins σ H { s with heap := h', toks := tk } := I.turned (fun b o hb e => kk b o (by simpa using hb) e) f0 f1 f3 f4 f5
    refine ⟨_, rfl, go_of (s := { s with heap := h', toks := tk }) (n := "range_iterator") st' rfl rfl (by decide) ⟨.int (lo + i), H, I1, ⟨t, ?_⟩, ⟨rfl, rfl⟩, st', fun b hb => (hf b hb).1⟩⟩
    rw [Int.mul_one]
  done := by
    intro X hP hw hK hc i pins s σ H E I hf st hg
    subst hP hw hK
    obtain ⟨f0, f1, f2, f3, f4, f5⟩ := hf it (by simp)
    exact wpAny_pyNext_range_end (I.ok.hd hc) st (by have : n ≤ i := hg; omega) fun h' eb => ⟨rfl, I.turned (t' := s.toks) (fun b o hb e => eb b o hb e) f0 f1 f3 f4 f5⟩
  self := fun _ _ _ _ _ st h => wpAny_pyIter_rangeiter st h
end L2
namespace L2
open PySem PySem.Spec PyProof.Rows
section
variable {X : Cx} {tg : Expr}
def iList (K : PySem.W.Frag) (tl : TE) : TI := fun σ H R => tl σ H fun x H1 => ∃ a, x = .ref a ∧ (∃ xs, SqL K H1 a xs) ∧ R (Itl K a) H1
theorem pi_list {l : Expr} {tl : TE} (hl : PE X l tl) : PI X tg l (iList X.K tl) := by
  intro pins s σ H R I h
  refine thn (hl pins s σ H _ I h) fun v s1 ⟨x, H1, I1, r1, q1⟩ => ?_
  obtain ⟨a, e, ⟨xs, hq⟩, q⟩ := q1
  subst e
  cases r1
  obtain ⟨its, rv, p, hz⟩ := I1.list hq
  refine wpAny_pyIter_list p.isList ?_
  refine ⟨s1.heap.objs.size, [s1.heap.objs.size], _, _, H1, rfl, I1.kept (t' := s1.toks) fun b o e => Heap.get?_push_of_some _ e, turn_list a _, ⟨_, Heap.get?_push_size _ rfl, rfl, rfl⟩, fun b hb => ?_, q⟩
  have e : b = s1.heap.objs.size := by simpa using hb
  subst e
  exact I1.fpOk (Nat.le_refl _) (I1.hok.fresh (Nat.le_refl _))
theorem range_it {pins : List (Addr × Obj)} {σ : St} {H : Hp} {s : Shared} {R : It → Hp → Prop} {E : Value → Shared → Prop} {lo hi : Int} {t u v : Tok} {tk : Nat} (I : Inv X pins σ H s) (h1 : -(2 ^ 62) ≤ lo) (h2 : lo < 2 ^ 62) (h3 : -(2 ^ 62) ≤ hi) (h4 : hi < 2 ^ 62)
    (q : R (Itr lo (hi - lo).toNat) H) : wpAny (model X.prog X.w) X.A (pyIter (.ref s.heap.objs.size)) (PIE X pins σ tg R) E { s with heap := s.heap.push { cls := .type "range", data := .fields #[.int lo t, .int hi u, .int 1 v] }, toks := tk } := by
  refine wpAny_pyIter_range (IsRange.new ..) (small_one h1 h2 h3 h4) ?_
  have I1 : Inv X pins σ H { s with heap := s.heap.push { cls := .type "range", data := .fields #[.int lo t, .int hi u, .int 1 v] }, toks := tk } := I.kept fun b o e => Heap.get?_push_of_some _ e
  refine ⟨(s.heap.push { cls := .type "range", data := .fields #[.int lo t, .int hi u, .int 1 v] }).objs.size, [(s.heap.push { cls := .type "range", data := .fields #[.int lo t, .int hi u, .int 1 v] }).objs.size], _, _, H, rfl,
    I1.kept (t' := tk) fun b o e => Heap.get?_push_of_some _ e, turn_range _ lo (hi - lo).toNat, ?_, fun b hb => ?_, q⟩
  · have e1 : lo + ((0 : Nat) : Int) * 1 = lo := by simp
    have e2 : (((hi - lo).toNat : Nat) : Int) - ((0 : Nat) : Int) = Builtin.Range.rangeSize lo hi 1 := by rw [rangeSize_one]; split <;> omega
    show IsRangeIter _ _ (lo + ((0 : Nat) : Int) * 1) ((((hi - lo).toNat : Nat) : Int) - ((0 : Nat) : Int)) 1
    rw [e1, e2]
    exact Heap.get?_push_size _ rfl
  · have e : b = (s.heap.push { cls := .type "range", data := .fields #[.int lo t, .int hi u, .int 1 v] }).objs.size := by simpa using hb
    subst e
    exact I1.fpOk (Nat.le_refl _) (I1.hok.fresh (Nat.le_refl _))
def iRng1 (ta : TA) : TI := fun σ H R => ta σ H fun vs H1 => ∃ j : Int, vs = [.int j] ∧ -(2 ^ 62) ≤ j ∧ j < 2 ^ 62 ∧ R (Itr 0 j.toNat) H1
def iRng2 (ta : TA) : TI := fun σ H R => ta σ H fun vs H1 => ∃ i j : Int, vs = [.int i, .int j] ∧ (-(2 ^ 62) ≤ i ∧ i < 2 ^ 62 ∧ -(2 ^ 62) ≤ j ∧ j < 2 ^ 62) ∧ R (Itr i (j - i).toNat) H1
theorem pi_range1 {a : Expr} {ta : TA} {p pos : Pos} (hg : Gl X "range") (hm : X.mg "range" = none) (ha : PA X [a] ta) (hs : starEach [a] X.env = [(false, eval a X.env)] := by rfl) : PI X tg (.Call (.Name "range" p) [a] [] pos) (iRng1 ta) := by
  intro pins s σ H R I h
  refine Call_ (ld_blt I hg hm boot_range (PyProof.Rows.callWith_type1 (thn (ha pos pins s σ H _ I h) fun us s1 ⟨vs, H1, I1, r1, q1⟩ => ?_) hs rfl))
  obtain ⟨j, e, q1, q2, q⟩ := q1
  subst e
  cases r1 with
  | cons r rr =>
    cases rr
    obtain ⟨t, rfl⟩ := r
    exact call_range_1 (range_it I1 (by omega) (by omega) q1 q2 (by simpa using q))
theorem pi_range2 {a b : Expr} {ta : TA} {p pos : Pos} (hg : Gl X "range") (hm : X.mg "range" = none) (ha : PA X [a, b] ta) (hs : starEach [a, b] X.env = [(false, eval a X.env), (false, eval b X.env)] := by rfl) (hs2 : starEach [b] X.env = [(false, eval b X.env)] := by rfl) :
    PI X tg (.Call (.Name "range" p) [a, b] [] pos) (iRng2 ta) := by
  intro pins s σ H R I h
  refine Call_ (ld_blt I hg hm boot_range (PyProof.Rows.callWith_type1 (thn (ha pos pins s σ H _ I h) fun us s1 ⟨vs, H1, I1, r1, q1⟩ => ?_) (by rw [hs, hs2]) (by rw [hs2]; rfl)))
  obtain ⟨i, j, e, ⟨q1, q2, q3, q4⟩, q⟩ := q1
  subst e
  cases r1 with
  | cons r rr =>
    cases rr with
    | cons r' rr =>
      cases rr
      obtain ⟨t, rfl⟩ := r
      obtain ⟨t', rfl⟩ := r'
      exact call_range_2 (range_it I1 q1 q2 q3 q4 q)
def tFor (wi : TI) (g : TG) (tb : TS) : TS := fun D σ H => wi σ H fun J H1 => ∃ W : Nat → Nat → St → Hp → Prop, (∃ m, W 0 m σ H1) ∧ ∀ i m σ H, W i m σ H →
  (J.stop i H ∧ D.nx σ H) ∨ (J.go i H ∧ ∃ N : St → Hp → Prop, (∀ σ' H', N σ' H' → ∃ m', m' < m ∧ W (i + 1) m' σ' H') ∧ ∀ x H', J.yld i H x H' → g x σ H' fun σ2 H2 => tb { D with nx := N, ct := N, bk := D.nx } σ2 H2)
def pinsAt (fp : List Addr) (h : Heap) : List (Addr × Obj) := fp.filterMap fun b => (h.get? b).map fun o => (b, o)
theorem mem_pinsAt {fp : List Addr} {h : Heap} {b : Addr} {o : Obj} (hb : b ∈ fp) (e : h.get? b = some o) : (b, o) ∈ pinsAt fp h := List.mem_filterMap.mpr ⟨b, hb, by rw [e]; rfl⟩
theorem of_pinsAt {fp : List Addr} {h : Heap} {p : Addr × Obj} (hp : p ∈ pinsAt fp h) : p.1 ∈ fp ∧ h.get? p.1 = some p.2 := by
  obtain ⟨b, hb, e⟩ := List.mem_filterMap.mp hp
  cases q : h.get? b with
  | none => rw [q] at e; cases e
  | some o =>
    rw [q] at e
    have e' : (b, o) = p := Option.some.inj e
    subst e'
    exact ⟨hb, q⟩
theorem Inv.pinned {pins : List (Addr × Obj)} {σ : St} {H : Hp} {s : Shared} {fp : List Addr} (I : Inv X pins σ H s) (hf : ∀ b ∈ fp, FpOk X pins H b) (ho : ∀ b ∈ fp, ∃ o, s.heap.get? b = some o ∧ ∀ v, o.data ≠ .cell v) : Inv X (pins ++ pinsAt fp s.heap) σ H s :=
  I.pins_of fun p hp => (List.mem_append.mp hp).elim (fun z => I.pin p (List.mem_append_right _ z)) fun z => by
    obtain ⟨hb, e⟩ := of_pinsAt z
    obtain ⟨f0, f1, f2, _⟩ := hf p.1 hb
    obtain ⟨o, e', d⟩ := ho p.1 hb
    rw [e] at e'; cases e'
    exact ⟨e, f0, f1, f2, d⟩
theorem Inv.unpinned {pins pl : List (Addr × Obj)} {σ : St} {H : Hp} {s : Shared} (I : Inv X (pins ++ pl) σ H s) : Inv X pins σ H s := I.pins_of fun p hp => I.pin p (List.mem_append_right _ (List.mem_append_left _ hp))
theorem ps_for {iter : Expr} {body : List Stmt} {wi : TI} {g : TG} {tb : TS} {pos : Pos} (hp : PassesOwn (model X.prog X.w) X.A X.env X.xe) (hc : X.calm = true) (hi : PI X tg iter wi) (hg : PG X tg g) (hb : PSs X body tb)
    (hs : ∀ x, foldedSetIterable iter X.env x = pure x := by intro _; rfl) : PS X (.For tg iter body [] pos) (tFor wi g tb) := by
  intro pins s σ H D I h
  refine wpAny_For (thn (hi pins s σ H _ I h) fun v s1 h1 => thn h1 fun itv s2 h2 => ?_) hs
  obtain ⟨it, fp, tn, J, H2, e, I2, T, st2, f2, W, ⟨m0, w0⟩, turn⟩ := h2
  subst e
  have stat : ∀ {H' : Hp}, (∀ b ∈ fp, H' b = none) → ∀ b ∈ fp, FpOk X pins H' b := fun hn b hb => ⟨hn b hb, (f2 b hb).2⟩
  refine codeAny_forLoop_any (fun n s' => ∃ i σ' H', Inv X pins σ' H' s' ∧ tn i s'.heap ∧ (∀ b ∈ fp, H' b = none) ∧ W i n σ' H') ?_ m0 ⟨0, σ, H2, I2, st2, fun b hb => (f2 b hb).1, w0⟩
  rintro n s3 ⟨i, σ3, H3, I3, st3, fr3, w3⟩
  rcases turn i n σ3 H3 w3 with ⟨stop, qn⟩ | ⟨go, N, hN, step⟩
  · refine wpAny_passesOwn hp (thn (T.done X rfl rfl rfl hc i pins s3 σ3 H3 X.xe I3 (stat fr3) st3 stop) fun r s4 ⟨hr, I4⟩ => ?_)
    subst hr
    exact wpAny_execs_nil ⟨σ3, H3, I4, qn⟩
  · refine wpAny_passesOwn hp (thn (T.item X rfl rfl rfl hc i pins s3 σ3 H3 X.xe I3 (stat fr3) st3 go) fun r s4 ⟨u, hr, h4⟩ => ?_)
    subst hr
    refine wpAny_passesOwn hp (thn h4 fun _ s5 ⟨x, H5, I5, r5, y5, st5, fr5⟩ => ?_)
    have I5' := I5.pinned (stat fr5) (T.obj _ _ st5)
    refine wpAny_passesOwn hp (thn (hg _ s5 σ3 H5 x u _ I5' r5 (step x H5 y5)) fun _ s6 ⟨σ6, H6, I6, q6⟩ => ?_)
    refine wpAny_passesOwn hp (thn (hb _ s6 σ6 H6 _ I6 q6) fun f s7 q7 => ?_)
    have again : ∀ {σ7 : St} {H7 : Hp}, Inv X (pins ++ pinsAt fp s5.heap) σ7 H7 s7 → N σ7 H7 → ∃ m, m < n ∧ ∃ i σ' H', Inv X pins σ' H' s7 ∧ tn i s7.heap ∧ (∀ b ∈ fp, H' b = none) ∧ W i m σ' H' := fun {σ7 H7} I7 n7 => by
      obtain ⟨m', hm, w7⟩ := hN σ7 H7 n7
      refine ⟨m', hm, i + 1, σ7, H7, I7.unpinned, T.keep _ _ _ st5 fun b hb o e => (I7.pin (b, o) (List.mem_append_right _ (List.mem_append_right _ (mem_pinsAt hb e)))).1, fun b hb => ?_, w7⟩
      obtain ⟨o, e, d⟩ := T.obj _ _ st5 b hb
      exact (I7.pin (b, o) (List.mem_append_right _ (List.mem_append_right _ (mem_pinsAt hb e)))).2.1
    cases f with
    | next => obtain ⟨σ7, H7, I7, n7⟩ := q7; exact again I7 n7
    | cont => obtain ⟨σ7, H7, I7, n7⟩ := q7; exact again I7 n7
    | brk => obtain ⟨σ7, H7, I7, q7⟩ := q7; exact ⟨σ7, H7, I7.unpinned, q7⟩
    | ret v => obtain ⟨x7, σ7, H7, I7, r7, q7⟩ := q7; exact ⟨x7, σ7, H7, I7.unpinned, r7, q7⟩
end
end L2
namespace L2
open PySem PySem.Spec PyProof.Rows
abbrev R2 := V → V → Hp → VK → Prop
def OpR (X : Cx) (f : Value → Value → Sem Value) (r : R2) : Prop :=
  ∀ (pins : List (Addr × Obj)) (s : Shared) (σ : St) (H : Hp) (x y : V) (v u : Value) (Q : VK), Inv X pins σ H s → RelV x v → RelV y u → r x y H Q →
    wpAny (model X.prog X.w) X.A (f v u) (EP X pins σ Q) X.xe s
def CallR (X : Cx) (f : Value) (r : List V → Hp → VK → Prop) : Prop :=
  ∀ (pins : List (Addr × Obj)) (s : Shared) (σ : St) (H : Hp) (xs : List V) (us : List Value) (Q : VK), Inv X pins σ H s → Vals xs us → r xs H Q →
    wpAny (model X.prog X.w) X.A (call f us) (EP X pins σ Q) X.xe s
def TruR (X : Cx) (r : V → Hp → (Bool → Hp → Prop) → Prop) : Prop :=
  ∀ (pins : List (Addr × Obj)) (s : Shared) (σ : St) (H : Hp) (x : V) (v : Value) (Q : Bool → Hp → Prop), Inv X pins σ H s → RelV x v → r x H Q →
    wpAny (model X.prog X.w) X.A (truthy v) (TP X pins σ Q) X.xe s
def tOp (r : R2) (ta tb : TE) : TE := fun σ H Q => ta σ H fun x H1 => tb σ H1 fun y H2 => r x y H2 Q
def rI (C : Int → Int → Prop) (g : Int → Int → V) : R2 := fun x y H Q => ∃ i j, x = .int i ∧ y = .int j ∧ C i j ∧ Q (g i j) H
def rI0 (g : Int → Int → V) : R2 := fun x y H Q => ∃ i j, x = .int i ∧ y = .int j ∧ Q (g i j) H
section
variable {X : Cx} {a b c : Expr} {ta tb tc : TE} {pos : Pos}
theorem binT (ha : PE X a ta) (hb : PE X b tb) {pins : List (Addr × Obj)} {s : Shared} {σ : St} {H : Hp} {R : V → V → Hp → Prop} (I : Inv X pins σ H s)
    (h : ta σ H fun x H1 => tb σ H1 fun y H2 => R x y H2) {Q : Value → Shared → Prop} {f : Value → Value → Sem Value}
    (hf : ∀ v u s2 x y H2, Inv X pins σ H2 s2 → RelV x v → RelV y u → R x y H2 → wpAny (model X.prog X.w) X.A (f v u) Q X.xe s2) :
    wpAny (model X.prog X.w) X.A (eval a X.env) (fun v s₁ => wpAny (model X.prog X.w) X.A (eval b X.env) (fun u s₂ => wpAny (model X.prog X.w) X.A (f v u) Q X.xe s₂) X.xe s₁) X.xe s := by
  refine thn (ha pins s σ H _ I h) fun v s1 ⟨x, H1, I1, r1, q1⟩ => ?_
  refine thn (hb pins s1 σ H1 _ I1 q1) fun u s2 ⟨y, H2, I2, r2, q2⟩ => ?_
  exact hf v u s2 x y H2 I2 r1 r2 q2
theorem pe_op {op : Operator} {r : R2} (ho : OpR X (binaryOp op) r) (ha : PE X a ta) (hb : PE X b tb) : PE X (.BinOp a op b pos) (tOp r ta tb) := by
  intro pins s σ H Q I h
  exact wpAny_BinOp (binT ha hb I h fun v u s2 x y H2 I2 rx ry q => ho pins s2 σ H2 x y v u Q I2 rx ry q)
theorem opI {f : Value → Value → Sem Value} {C : Int → Int → Prop} {g : Int → Int → Int}
    (rule : ∀ (i j : Int) (t u : Tok) (s : Shared) (Q : Value → Shared → Prop) (E : Value → Shared → Prop), C i j → Q (.int (g i j) s.toks) { s with toks := s.toks + 1 } → wpAny (model X.prog X.w) X.A (f (.int i t) (.int j u)) Q E s) :
    OpR X f (rI C fun i j => .int (g i j)) := by
  intro pins s σ H x y v u Q I rx ry h
  obtain ⟨i, j, rfl, rfl, hc, q⟩ := h
  obtain ⟨t, rfl⟩ := rx
  obtain ⟨t', rfl⟩ := ry
  exact rule i j t t' s _ _ hc ⟨.int (g i j), H, I.tok _, ⟨_, rfl⟩, q⟩
theorem opI0 {f : Value → Value → Sem Value} {g : Int → Int → Int}
    (rule : ∀ (i j : Int) (t u : Tok) (s : Shared) (Q : Value → Shared → Prop) (E : Value → Shared → Prop), Q (.int (g i j) s.toks) { s with toks := s.toks + 1 } → wpAny (model X.prog X.w) X.A (f (.int i t) (.int j u)) Q E s) :
    OpR X f (rI0 fun i j => .int (g i j)) := by
  intro pins s σ H x y v u Q I rx ry h
  obtain ⟨i, j, rfl, rfl, q⟩ := h
  obtain ⟨t, rfl⟩ := rx
  obtain ⟨t', rfl⟩ := ry
  exact rule i j t t' s _ _ ⟨.int (g i j), H, I.tok _, ⟨_, rfl⟩, q⟩
theorem opB0 {f : Value → Value → Sem Value} {g : Int → Int → Bool}
    (rule : ∀ (i j : Int) (t u : Tok) (s : Shared) (Q : Value → Shared → Prop) (E : Value → Shared → Prop), Q (.bool (g i j)) s → wpAny (model X.prog X.w) X.A (f (.int i t) (.int j u)) Q E s) :
    OpR X f (rI0 fun i j => .bl (g i j)) := by
  intro pins s σ H x y v u Q I rx ry h
  obtain ⟨i, j, rfl, rfl, q⟩ := h
  obtain ⟨t, rfl⟩ := rx
  obtain ⟨t', rfl⟩ := ry
  exact rule i j t t' s _ _ ⟨.bl (g i j), H, I, rfl, q⟩
def CPow (i j : Int) : Prop := 0 ≤ j ∧ j ≤ 1000000 ∧ i.natAbs < 2 ^ 64
def CMul (i j : Int) : Prop := (-(2 ^ 64) < i ∧ i < 2 ^ 64) ∨ (-(2 ^ 64) < j ∧ j < 2 ^ 64)
theorem CMul.ok {i j : Int} (h : CMul i j) : IntMulOk i j := by
  rcases h with ⟨h1, h2⟩ | ⟨h1, h2⟩
  · exact .of_left (intBits_le_64 h1 h2)
  · exact .of_right (intBits_le_64 h1 h2)
theorem op_add : OpR X (binaryOp .Add) (rI0 fun i j => .int (i + j)) := opI0 fun _ _ _ _ _ _ _ q => add_int q
theorem op_sub : OpR X (binaryOp .Sub) (rI0 fun i j => .int (i - j)) := opI0 fun _ _ _ _ _ _ _ q => sub_int q
theorem op_modN : OpR X (binaryOp .Mod) (rI (fun _ j => j ≠ 0) fun i j => .int (i.fmod j)) := opI fun _ _ _ _ _ _ _ hc q => mod_int' hc q
theorem op_pow : OpR X (binaryOp .Pow) (rI CPow fun i j => .int (i ^ j.toNat)) := opI fun _ _ _ _ _ _ _ hc q => pow_int_small hc.1 hc.2.1 hc.2.2 q
end
section
variable {X : Cx} {a b c : Expr} {ta tb tc : TE} {pos : Pos}
theorem op_lt : OpR X (compareOp .Lt) (rI0 fun i j => .bl (decide (i < j))) := opB0 fun _ _ _ _ _ _ _ q => lt_int q
theorem op_le : OpR X (compareOp .LtE) (rI0 fun i j => .bl (decide (i ≤ j))) := opB0 fun _ _ _ _ _ _ _ q => le_int q
theorem op_gt : OpR X (compareOp .Gt) (rI0 fun i j => .bl (decide (j < i))) := opB0 fun _ _ _ _ _ _ _ q => gt_int q
theorem op_ge : OpR X (compareOp .GtE) (rI0 fun i j => .bl (decide (j ≤ i))) := opB0 fun _ _ _ _ _ _ _ q => ge_int q
theorem OpR.or {f : Value → Value → Sem Value} {r r' : R2} (h : OpR X f r) (h' : OpR X f r') : OpR X f (fun x y H Q => r x y H Q ∨ r' x y H Q) := by
  intro pins s σ H x y v u Q I rx ry q
  rcases q with q | q
  · exact h pins s σ H x y v u Q I rx ry q
  · exact h' pins s σ H x y v u Q I rx ry q
theorem nomark (b : Expr) {op : CmpOp} (h : op ≠ .In := by decide) (h2 : op ≠ .NotIn := by decide) : behindInMarks op b = false := by
  have e1 : (op == CmpOp.In) = false := by cases op <;> first | rfl | exact absurd rfl h
  have e2 : (op == CmpOp.NotIn) = false := by cases op <;> first | rfl | exact absurd rfl h2
  cases b <;> simp [behindInMarks, e1, e2]
theorem pe_cmpR {op : CmpOp} {r : R2} (ho : OpR X (compareOp op) r) (ha : PE X a ta) (hb : PE X b tb) (hm : behindInMarks op b = false) : PE X (.Compare a [op] [b] pos) (tOp r ta tb) := by
  intro pins s σ H Q I h
  exact wpAny_Compare1 (binT ha hb I h fun v u s2 x y H2 I2 rx ry q => ho pins s2 σ H2 x y v u Q I2 rx ry q) hm
def tTest (t : TE) : TT := fun σ H Q => t σ H fun x H' => ∃ k, x = .bl k ∧ Q k H'
theorem pt_cmpR {op : CmpOp} {r : R2} (ho : OpR X (compareOp op) r) (ha : PE X a ta) (hb : PE X b tb) (hm : behindInMarks op b = false) : PT X (.Compare a [op] [b] pos) (tTest (tOp r ta tb)) := by
  intro pins s σ H Q I h
  refine wpAny_isTrue_Compare1 (thn (ha pins s σ H _ I h) fun v s1 ⟨x, H1, I1, r1, q1⟩ => thn (hb pins s1 σ H1 _ I1 q1) fun u s2 ⟨y, H2, I2, r2, q2⟩ =>
    thn (ho pins s2 σ H2 x y v u _ I2 r1 r2 q2) fun c s3 ⟨z, H3, I3, r3, k, e, q3⟩ => ?_) hm
  subst e
  cases r3
  exact wpAny_truthy_bool ⟨H3, I3, q3⟩
def tChain (r r' : R2) (ta tb tc : TE) : TE := fun σ H Q => ta σ H fun x H1 => tb σ H1 fun y H2 => r x y H2 fun z H3 => ∃ k, z = .bl k ∧
  (if k = true then tc σ H3 fun w' H4 => r' y w' H4 Q else Q (.bl false) H3)
theorem pe_chain {op op' : CmpOp} {r r' : R2} (ho : OpR X (compareOp op) r) (ho' : OpR X (compareOp op') r') (ha : PE X a ta) (hb : PE X b tb) (hc : PE X c tc)
    (hm : lastMarks [op, op'] [b, c] = false := by with_unfolding_all rfl) : PE X (.Compare a [op, op'] [b, c] pos) (tChain r r' ta tb tc) := by
  intro pins s σ H Q I h
  refine Compare_chain (thn (ha pins s σ H _ I h) fun v s1 ⟨x, H1, I1, r1, q1⟩ => chain_link (thn (hb pins s1 σ H1 _ I1 q1) fun u s2 ⟨y, H2, I2, r2, q2⟩ =>
    thn (ho pins s2 σ H2 x y v u _ I2 r1 r2 q2) fun d s3 ⟨z, H3, I3, r3, k, e, q3⟩ => ?_)) hm
  subst e
  cases r3
  refine wpAny_truthy_bool ?_
  cases k with
  | false => exact ite_ff ⟨.bl false, H3, I3, rfl, q3⟩
  | true => exact ite_tt (chain_last (thn (hc pins s3 σ H3 _ I3 q3) fun w' s4 ⟨z', H4, I4, r4, q4⟩ => ho' pins s4 σ H4 y z' u w' Q I4 r2 r4 q4))
theorem pt_chain {op op' : CmpOp} {r r' : R2} (ho : OpR X (compareOp op) r) (ho' : OpR X (compareOp op') r') (ha : PE X a ta) (hb : PE X b tb) (hc : PE X c tc)
    (hm : lastMarks [op, op'] [b, c] = false := by with_unfolding_all rfl) : PT X (.Compare a [op, op'] [b, c] pos) (tTest (tChain r r' ta tb tc)) := by
  intro pins s σ H Q I h
  refine isTrue_chain (thn (ha pins s σ H _ I h) fun v s1 ⟨x, H1, I1, r1, q1⟩ => test_link (thn (hb pins s1 σ H1 _ I1 q1) fun u s2 ⟨y, H2, I2, r2, q2⟩ =>
    thn (ho pins s2 σ H2 x y v u _ I2 r1 r2 q2) fun d s3 ⟨z, H3, I3, r3, k, e, q3⟩ => ?_)) hm
  subst e
  cases r3
  refine wpAny_truthy_bool ?_
  cases k with
  | false =>
    obtain ⟨k', e', q'⟩ := q3
    cases e'
    exact ite_ff ⟨H3, I3, q'⟩
  | true =>
    refine ite_tt (test_last (thn (hc pins s3 σ H3 _ I3 q3) fun w' s4 ⟨z', H4, I4, r4, q4⟩ => thn (ho' pins s4 σ H4 y z' u w' _ I4 r2 r4 q4) fun d' s5 ⟨z2, H5, I5, r5, k2, e2, q5⟩ => ?_))
    subst e2
    cases r5
    exact wpAny_truthy_bool ⟨H5, I5, q5⟩
def TruV (K : PySem.W.Frag) (x : V) (H : Hp) (k : Bool) : Prop :=
  match x with
  | .non => k = false
  | .bl b => k = b
  | .int i => k = (i != 0)
  | .str y => y.length ≤ sizeLine ∧ k = ((y.length : Int) != 0)
  | .byt y => y.size ≤ sizeLine ∧ k = ((y.size : Int) != 0)
  | .ref p => (∃ xs, SqL K H p xs ∧ k = !xs.isEmpty) ∨ (∃ xs, SqT K H p xs ∧ k = !xs.isEmpty) ∨ ∃ kvs, H p = some (.dK kvs) ∧ k = !kvs.isEmpty
  | _ => False
theorem isEmpty_kv {κ : Type} {kvs : List (κ × V)} {vs : List (κ × Value)} (r : KV kvs vs) : (!vs.isEmpty) = !kvs.isEmpty := by
  cases r <;> rfl
theorem isEmpty_of {xs : List V} {its : List Value} (r : Vals xs its) : (!its.toArray.isEmpty) = !xs.isEmpty := by
  cases r <;> simp
theorem line63 : (sizeLine : Nat) < 2 ^ 63 := by rw [sizeLine_eq]; decide
theorem tru_ok : TruR X (fun x H Q => ∃ k, TruV X.K x H k ∧ Q k H) := by
  intro pins s σ H x v Q I rx h
  obtain ⟨k, e, q⟩ := h
  have hl := line63
  have hs : sizeLine = 16777216 := sizeLine_eq
  cases x with
  | non =>
    cases rx
    have e' : k = false := e
    subst e'
    exact truthy_none ⟨H, I, q⟩
  | bl b =>
    cases rx
    have e' : k = b := e
    subst e'
    exact wpAny_truthy_bool ⟨H, I, q⟩
  | int i =>
    obtain ⟨t, rfl⟩ := rx
    have e' : k = (i != 0) := e
    subst e'
    exact PySem.P.truthy_int ⟨H, I, q⟩
  | str y =>
    obtain ⟨t, rfl⟩ := rx
    obtain ⟨hy, e'⟩ : y.length ≤ sizeLine ∧ k = ((y.length : Int) != 0) := e
    subst e'
    exact PySem.P.truthy_str (by omega) ⟨H, I.tok _, q⟩
  | byt y =>
    obtain ⟨t, rfl⟩ := rx
    obtain ⟨hy, e'⟩ : y.size ≤ sizeLine ∧ k = ((y.size : Int) != 0) := e
    subst e'
    exact PySem.W.truthy_bytes (by omega) ⟨H, I.tok _, q⟩
  | ref p =>
    cases rx
    have e' : (∃ xs, SqL X.K H p xs ∧ k = !xs.isEmpty) ∨ (∃ xs, SqT X.K H p xs ∧ k = !xs.isEmpty) ∨ ∃ kvs, H p = some (.dK kvs) ∧ k = !kvs.isEmpty := e
    rcases e' with ⟨xs, hx, e'⟩ | ⟨xs, hx, e'⟩ | ⟨kvs, hx, e'⟩
    · subst e'
      obtain ⟨its, r, pl, hz⟩ := I.list hx
      have hlen := r.length
      exact wpAny_truthy_list pl.isList (by simp only [List.size_toArray]; omega) ⟨H, I.tok _, by rw [isEmpty_of r]; exact q⟩
    · subst e'
      obtain ⟨its, r, pl, hz⟩ := I.tuple hx
      have hlen := r.length
      exact truthy_tuple pl (by simp only [List.size_toArray]; omega) ⟨H, I.tok _, by rw [isEmpty_of r]; exact q⟩
    · subst e'
      obtain ⟨hz, hS, vs, r, m⟩ : kvs.length ≤ sizeLine ∧ (p == sysModules) = false ∧ ∃ vs, KV kvs vs ∧ s.heap.DictOf (mixKind X.prog X.w) p vs := I.hok p _ hx
      have hlen : kvs.length = vs.length := Paired.length r
      exact wpAny_truthy_dict hS m (by omega) ⟨H, I.tok _, by rw [isEmpty_kv r]; exact q⟩
  | _ => exact (show False from e).elim
theorem vals1 {x : V} {us : List Value} (r : Vals [x] us) : ∃ u, us = [u] ∧ RelV x u := by
  cases r with
  | cons r1 r2 => cases r2; exact ⟨_, rfl, r1⟩
theorem vals2 {x y : V} {us : List Value} (r : Vals [x, y] us) : ∃ u w', us = [u, w'] ∧ RelV x u ∧ RelV y w' := by
  cases r with
  | cons r1 r2 =>
    cases r2 with
    | cons r3 r4 => cases r4; exact ⟨_, _, rfl, r1, r3⟩
end
end L2
namespace L2
open PySem PySem.Spec PyProof.Rows
structure ObjM (h : Heap) (x dx C : Addr) (mA : Str → Option Value) : Prop where
  obj : h.get? x = some (PySem.W.instObj C dx)
  ns : h.Ns1 dx mA
  ne : dx ≠ x
section
variable {prog : Program} {w : World} {A : Around} {E : Value → Shared → Prop} {s : Shared} {K : PySem.W.Frag} {x dx C f : Addr} {mA : Str → Option Value} {name : Str} {v : Value}
end
section
variable {P : Program} {w : World} {H H' : Hp} {h h' : Heap} {a C dx : Addr} {fs fs' : List (Str × V)}
end
structure Cls (K : PySem.W.Frag) (C : Addr) : Prop where
  pg : PySem.W.plainGet K C Str.empty = true
  hd : PySem.W.hasDictIn K C = true
  po : PySem.W.plainOver K C = true
  sa : PySem.W.findIn K (.ref C) "__setattr__" = some (some (.builtin "object.__setattr__"))
theorem Cls.get {K : PySem.W.Frag} {C : Addr} (c : Cls K C) (f : Str) : PySem.W.plainGet K C f = true := c.pg
structure Con (K : PySem.W.Frag) (C : Addr) (f : Str) (v : V) (u : Value) : Prop where
  at_ : PySem.W.findIn K (.ref C) f = some (some u)
  rel : RelV v u
  get : PySem.W.specialIn K u "__get__" = some none
  cp : PySem.W.copiedNames.contains f = false
structure Meth (K : PySem.W.Frag) (C : Addr) (m : Str) (f : Addr) : Prop where
  at_ : PySem.W.findIn K (.ref C) m = some (some (.ref f))
  fn : PySem.W.isFn K (.ref f) = true
  kp : PySem.W.keepIn K (.ref f) = true
section
variable {X : Cx} {pins : List (Addr × Obj)} {σ : St} {H : Hp} {s : Shared} {a C dx : Addr} {fs : List (Str × V)} {f : Str} {v : V} {A : Around} {E : Value → Shared → Prop}
theorem Inv.made (I : Inv X pins σ H s) : Inv X pins σ (upd (upd H s.heap.objs.size (.own (s.heap.objs.size + 1))) (s.heap.objs.size + 1) (.ins C s.heap.objs.size []))
    { s with heap := (s.heap.push PySem.W.emptyDict).push (PySem.W.instObj C s.heap.objs.size) } := by
  have e1 : (s.heap.push PySem.W.emptyDict).get? s.heap.objs.size = some PySem.W.emptyDict := Heap.get?_push_size s.heap rfl
  have e2 : ((s.heap.push PySem.W.emptyDict).push (PySem.W.instObj C s.heap.objs.size)).get? (s.heap.objs.size + 1) = some (PySem.W.instObj C s.heap.objs.size) := by
    have := Heap.get?_push_size (s.heap.push PySem.W.emptyDict) (o := PySem.W.instObj C s.heap.objs.size) rfl
    rwa [Heap.size_push] at this
  have e3 : (s.heap.push PySem.W.emptyDict).Ns s.heap.objs.size (fun _ => none) := ⟨PySem.W.emptyDict, #[], _, e1, rfl, (fun e he => absurd he (by simp)), fun _ => rfl⟩
  have I1 := I.laid (a := s.heap.objs.size) (o := .own (s.heap.objs.size + 1)) (h' := s.heap.push PySem.W.emptyDict) (t' := s.toks) (fun b u q => Heap.get?_push_of_some _ q) (Nat.le_refl _) ⟨_, e1⟩
  refine I1.laid (a := s.heap.objs.size + 1) (o := .ins C s.heap.objs.size []) (t' := s.toks) (fun b u q => Heap.get?_push_of_some _ q) (Nat.le_of_eq (Heap.size_push _ _)) ?_
  have ne : s.heap.objs.size ≠ s.heap.objs.size + 1 := Nat.ne_of_lt (Nat.lt_succ_self _)
  refine ⟨by rw [upd_ne ne, upd_same], Nat.zero_le _, ne, e2, fun _ => none, (Heap.Ns1.of_empty e3).at fun o q => Heap.get?_push_of_some _ q, fun _ => True.intro, fun y hy => absurd rfl hy⟩
end
section
variable {X : Cx} {o e value : Expr} {f : Str} {pos pos' tpos : Pos} {ta tv : TE}
end
section
variable {X : Cx} {pins : List (Addr × Obj)} {σ : St} {H : Hp} {s : Shared} {A : Around} {E : Value → Shared → Prop} {Q : Value → Shared → Prop} {c : Value} {b : Bool}
inductive TyOf (K : PySem.W.Frag) (H : Hp) : V → Value → Prop where
  | non : TyOf K H .non (.type "NoneType")
  | bl (x : Bool) : TyOf K H (.bl x) (.type "bool")
  | int (i : Int) : TyOf K H (.int i) (.type "int")
  | str (x : Str) : TyOf K H (.str x) (.type "str")
  | flt (x : UInt64) : TyOf K H (.flt x) (.type "float")
  | lst {a : Addr} {xs : List V} (e : H a = some (.lst xs)) : TyOf K H (.ref a) (.type "list")
  | frz {a : Addr} {o : Obj} {xs : List V} (e : H a = some (.frz o (.lst xs))) : TyOf K H (.ref a) (.type "list")
  | tup {a : Addr} {xs : List V} (e : H a = some (.tup xs)) : TyOf K H (.ref a) (.type "tuple")
  | dK {a : Addr} {kvs : List (Key × V)} (e : H a = some (.dK kvs)) : TyOf K H (.ref a) (.type "dict")
  | dT {a : Addr} {kvs : List (List Key × V)} (e : H a = some (.dT kvs)) : TyOf K H (.ref a) (.type "dict")
  | ins {a C dx : Addr} {fs : List (Str × V)} (e : H a = some (.ins C dx fs)) (cl : Cls K C) (ha : PySem.W.findIn K (.ref C) "__class__" = some (some (.builtin "object.__class__")))
      (hn : PySem.W.specialIn K (.builtin "object.__class__") "__get__" = some (some (.builtin "getset_descriptor.__get__"))) (htk : PySem.W.takesIn K (.builtin "object.__class__") = some true)
      (hm : PySem.W.mroIn K C (.type "object") = some true) : TyOf K H (.ref a) (.ref C)
end
end L2
namespace L2
open PySem PySem.Spec PyProof.Rows
structure Room (k : Nat) (A : Around) : Prop where
  hd : A.handled = none
  dp : A.depth + 3 * k + 5 < recursionLimit
  un : A.units + 16 * k + 200 < cLine
theorem Room.mono {j k : Nat} {A : Around} (r : Room k A) (h : j ≤ k) : Room j A := ⟨r.hd, by have := r.dp; omega, by have := r.un; omega⟩
theorem Room.deeper {k : Nat} {A : Around} (r : Room (k + 1) A) (env : Env) : Room k (A.deeper env) :=
  ⟨r.hd, by have := r.dp; show A.depth + 1 + 3 * k + 5 < _; omega, by have := r.un; show A.units + 3 + 16 * k + 200 < _; omega⟩
theorem Room.in1 {k : Nat} {A : Around} (r : Room (k + 1) A) : Room k A.in1 :=
  ⟨r.hd, by have := r.dp; show A.depth + 3 * k + 5 < _; omega, by have := r.un; show A.units + 1 + 16 * k + 200 < _; omega⟩
theorem Room.depth {k : Nat} {A : Around} (r : Room k A) : A.depth < recursionLimit := by have := r.dp; omega
theorem Room.units {k : Nat} {A : Around} (r : Room k A) : A.units + 64 < cLine := by have := r.un; omega
def tNil : TA := fun _ H Q => Q [] H
def tCons (ta : TE) (tr : TA) : TA := fun σ H Q => ta σ H fun x H1 => tr σ H1 fun xs H2 => Q (x :: xs) H2
section
variable {X : Cx} {e : Expr} {es : List Expr} {te : TE} {t : TA} {pos : Pos}
theorem pa_nil : PA X [] tNil := fun _ _ _ _ H Q I h => Calls.spliced_nil ⟨[], H, I, .nil, h⟩
theorem pa_cons (ha : PE X e te) (hr : PA X es t) (hs : starEach (e :: es) X.env = (false, eval e X.env) :: starEach es X.env := by rfl) : PA X (e :: es) (tCons te t) := by
  intro pos pins s σ H Q I h
  rw [hs]
  show wpAny _ _ (spliced ((false, eval e X.env) :: backTo pos (starEach es X.env))) _ _ s
  refine Calls.spliced_cons (thn (ha pins s σ H _ I h) fun u s1 ⟨x, H1, I1, r1, q1⟩ => ?_)
  exact thn (hr pos pins s1 σ H1 _ I1 q1) fun us s2 ⟨xs, H2, I2, r2, q2⟩ => ⟨x :: xs, H2, I2, .cons r1 r2, q2⟩
def tTup (t : TA) : TE := fun σ H Q => t σ H fun xs H1 => xs.length ≤ sizeLine ∧ ∀ p, H1 p = none → Q (.ref p) (upd H1 p (.tup xs))
def tLst (t : TA) : TE := fun σ H Q => t σ H fun xs H1 => xs.length ≤ sizeLine ∧ ∀ p, H1 p = none → Q (.ref p) (upd H1 p (.lst xs))
theorem pe_tup {x1} (h : PA X es t) : PE X (.Tuple es x1 pos) (tTup t) := by
  intro pins s σ H Q I hq
  refine wpAny_Tuple_spliced (thn (h pos pins s σ H _ I hq) fun us s1 ⟨xs, H1, I1, r, z, q⟩ => ⟨by rw [← r.length]; exact z, ?_⟩)
  have hf : H1 s1.heap.objs.size = none := I1.hok.fresh (Nat.le_refl _)
  refine ⟨.ref s1.heap.objs.size, upd H1 s1.heap.objs.size (.tup xs), I1.laid (t' := s1.toks) (fun b u e => Heap.get?_push_of_some _ e) (Nat.le_refl _) ?_, rfl, q _ hf⟩
  exact ⟨z, us, r, ⟨_, Heap.get?_push_size _ rfl, rfl, _, rfl⟩⟩
theorem pe_lst (h : PA X es t) : PE X (.List es pos) (tLst t) := by
  intro pins s σ H Q I hq
  refine wpAny_List_spliced (thn (h pos pins s σ H _ I hq) fun us s1 ⟨xs, H1, I1, r, z, q⟩ => ⟨by rw [← r.length]; exact z, ?_⟩)
  have hf : H1 s1.heap.objs.size = none := I1.hok.fresh (Nat.le_refl _)
  refine ⟨.ref s1.heap.objs.size, upd H1 s1.heap.objs.size (.lst xs), I1.laid (t' := s1.toks) (fun b u e => Heap.get?_push_of_some _ e) (Nat.le_refl _) ?_, rfl, q _ hf⟩
  exact ⟨z, us, 0, r, Heap.get?_push_size _ rfl⟩
end
abbrev Sp := List V → Hp → VK → XK → Prop
abbrev CXT := List Env → Hp → Shared → XK → Value → Shared → Prop
structure Env0 (P : Program) (w : World) (K : PySem.W.Frag) (mg : Str → Option Value) (base : Heap) (A : Around) (outer : List Env) (s : Shared) (H : Hp) : Prop where
  frames : A.frames = some outer
  mod : Mod K mg base
  bs : ∀ b o, base.get? b = some o → s.heap.get? b = some o ∧ H b = none
  bsz : base.objs.size ≤ s.heap.objs.size
  funs : s.heap.FunFrames base outer
  frf : ∀ b ∈ frs outer, H b = none
  hok : HOk P w H s.heap
  bare : AllBare s.gens
def CE (outer : List Env) (P : Program) (w : World) (H : Hp) (s : Shared) (Q : VK) (u : Value) (s' : Shared) : Prop :=
  ∃ v H', s'.os = s.os ∧ AllBare s'.gens ∧ Un (frs outer) [] H H' s.heap s'.heap ∧ HOk P w H' s'.heap ∧ RelV v u ∧ Q v H'
def CR (CX : CXT) (outer : List Env) (P : Program) (w : World) (H : Hp) (s : Shared) (Q : VK) (E : XK) (r : Result) (s' : Shared) : Prop :=
  match r with
  | .ok (.ret u) => CE outer P w H s Q u s'
  | .ok _ => False
  | .error e => CX outer H s E e s'
structure FnOk (P : Program) (w : World) (K : PySem.W.Frag) (mg : Str → Option Value) (base : Heap) (CX : CXT) (k : Nat) (f : Addr) (fd : FuncData) (ps : List Str) (sp : Sp) : Prop where
  len : ∀ vs H Q E, sp vs H Q E → vs.length = ps.length
  run : ∀ (A : Around) (outer : List Env) (s : Shared) (H : Hp) (args : Args) (us : List Value) (vs : List V) (Q : VK) (E : XK), Room k A → Env0 P w K mg base A outer s H → BindsTo s fd args (ps.zip us) → Vals vs us → sp vs H Q E →
    codeAny (model P w) A (.call (.ref f) args) (CR CX outer P w H s Q E) s
theorem FnOk.mono {P : Program} {w : World} {K : PySem.W.Frag} {mg : Str → Option Value} {base : Heap} {CX : CXT} {j k : Nat} {f : Addr} {fd : FuncData} {ps : List Str} {sp : Sp} (F : FnOk P w K mg base CX j f fd ps sp) (h : j ≤ k) :
    FnOk P w K mg base CX k f fd ps sp := ⟨F.len, fun A outer s H args us vs Q E hr => F.run A outer s H args us vs Q E (hr.mono h)⟩
theorem FnOk.imp {P : Program} {w : World} {K : PySem.W.Frag} {mg : Str → Option Value} {base : Heap} {CX : CXT} {k : Nat} {f : Addr} {fd : FuncData} {ps : List Str} {sp sp' : Sp} (F : FnOk P w K mg base CX k f fd ps sp)
    (h : ∀ vs H Q E, sp' vs H Q E → sp vs H Q E) : FnOk P w K mg base CX k f fd ps sp' :=
  ⟨fun vs H Q E q => F.len vs H Q E (h _ _ _ _ q), fun A outer s H args us vs Q E hr he hb hv hs => F.run A outer s H args us vs Q E hr he hb hv (h _ _ _ _ hs)⟩
theorem Env0.in1 {P : Program} {w : World} {K : PySem.W.Frag} {mg : Str → Option Value} {base : Heap} {A : Around} {outer : List Env} {s : Shared} {H : Hp} (e : Env0 P w K mg base A outer s H) :
    Env0 P w K mg base A.in1 outer s H := ⟨e.frames, e.mod, e.bs, e.bsz, e.funs, e.frf, e.hok, e.bare⟩
section
variable {X : Cx} {pins : List (Addr × Obj)} {σ : St} {H : Hp} {s s' : Shared}
theorem Inv.env0 (I : Inv X pins σ H s) : Env0 X.prog X.w X.K X.mg X.base X.A X.stack s H :=
  ⟨I.ok.frames, I.ok.mod, I.bs, Nat.le_trans I.ok.bsz I.sz, I.stack, I.stkFree, I.hok, I.bare⟩
theorem Inv.after {Q : VK} {u : Value} (I : Inv X pins σ H s) (h : CE X.stack X.prog X.w H s Q u s') : EP X pins σ Q u s' := by
  obtain ⟨v, H', os, bare, un, hok, r, q⟩ := h
  obtain ⟨hh, g, d, t, os'⟩ := s'
  obtain rfl : os' = s.os := os
  exact ⟨v, H', I.call (h' := hh) (g' := g) (d' := d) (t' := t) (ch := []) un hok bare (fun b z => absurd z (by simp)), r, q⟩
end
def tCall (sp : Sp) (dvs : List V) (E : XK) (t : TA) : TE := fun σ H Q => t σ H fun vs H1 => sp (vs ++ dvs) H1 Q E
def Binds (K : PySem.W.Frag) (fd : FuncData) (ps : List Str) (ds : List Value) : Prop :=
  ∀ (s : Shared) (us : List Value), K.In s.heap → (us ++ ds).length = ps.length → BindsTo s fd ⟨us, []⟩ (ps.zip (us ++ ds))
theorem Binds.all {K : PySem.W.Frag} {fd : FuncData} {ps : List Str} (h : ∀ us : List Value, us.length = ps.length → bindArgs fd ⟨us, []⟩ = pure (ps.zip us)) : Binds K fd ps [] := fun s us _ hl => by
  rw [List.append_nil] at hl ⊢
  exact .of_eq (h us hl)
def Passes (CX : CXT) (X : Cx) (E : XK) : Prop := ∀ (pins : List (Addr × Obj)) (σ : St) (H : Hp) (s : Shared) (e : Value) (s' : Shared), Inv X pins σ H s → CX X.stack H s E e s' → X.xe e s'
section
variable {X : Cx} {CX : CXT} {k : Nat} {f C : Addr} {fd : FuncData} {ps : List Str} {sp : Sp} {dvs : List V} {ds : List Value} {E : XK} {x m : Str} {p pos apos : Pos} {e o : Expr} {es : List Expr} {ta : TE} {t : TA}
theorem run_fn {pins : List (Addr × Obj)} {σ : St} {H : Hp} {s : Shared} {Q : VK} {us : List Value} {vs : List V} (F : FnOk X.prog X.w X.K X.mg X.base CX k f fd ps sp) (hr : Room k X.A) (hb : Binds X.K fd ps ds) (hd : Vals dvs ds) (hx : Passes CX X E)
    (I : Inv X pins σ H s) (r : Vals vs us) (h : sp (vs ++ dvs) H Q E) : wpAny (model X.prog X.w) X.A (call (.ref f) us) (EP X pins σ Q) X.xe s := by
  have r2 : Vals (vs ++ dvs) (us ++ ds) := r.append hd
  have hl : (us ++ ds).length = ps.length := by rw [← r2.length]; exact F.len _ _ _ _ h
  refine wpAny_call (codeAny_mono (F.run X.A X.stack s H ⟨us, []⟩ (us ++ ds) (vs ++ dvs) Q E hr I.env0 (hb s us I.kIn hl) r2 h) fun r s' hq => ?_)
  cases r with
  | error e => exact hx pins σ H s e s' I hq
  | ok fl =>
    cases fl with
    | ret u => exact I.after hq
    | next => exact False.elim hq
    | brk => exact False.elim hq
    | cont => exact False.elim hq
theorem pe_call (F : FnOk X.prog X.w X.K X.mg X.base CX k f fd ps sp) (hr : Room k X.A) (hg : Gl X x) (hm : X.mg x = some (.ref f)) (hk : PySem.W.keepIn X.K (.ref f) = true) (hb : Binds X.K fd ps ds) (hd : Vals dvs ds) (hx : Passes CX X E)
    (ha : PA X (e :: es) t) (hdb : (x == ("__debug__" : Str)) = false := by decide) (he : starEach (e :: es) X.env = (false, eval e X.env) :: starEach es X.env := by rfl) (hpl : (backTo pos (starEach es X.env)).any (·.1) = false := by rfl) :
    PE X (.Call (.Name x p) (e :: es) [] pos) (tCall sp dvs E t) := by
  intro pins s σ H Q I h
  refine wpAny_Call_Name_kw (ld_glob I hg hm ?_ hdb)
  refine PySem.W.callWith_K (h₀ := X.base) I.ok.mod.kin hk (thn (ha pos pins s σ H _ I h) fun us s1 ⟨vs, H1, I1, r, q⟩ => ⟨I1.kIn, ?_⟩) he hpl
  exact run_fn F hr hb hd hx I1 r q
structure Mk (K : PySem.W.Frag) (C f : Addr) : Prop where
  makes : PySem.W.makesIn K C = true
  init : PySem.W.findIn K (.ref C) "__init__" = some (some (.ref f))
  fn : PySem.W.isFn K (.ref f) = true
  kp : PySem.W.keepIn K (.ref C) = true
end
section
variable {X : Cx} {CX : CXT} {k : Nat} {f C : Addr} {fd : FuncData} {ps ks : List Str} {sp : Sp} {E : XK} {x m : Str} {p pos apos kpos : Pos} {e o : Expr} {es : List Expr} {kws : List Keyword} {te ta : TE} {t tk : TA} {nm : Option Str}
structure KBinds (K : PySem.W.Frag) (fd : FuncData) (ps ks : List Str) (g : List Value → List Value → List Value) (gV : List V → List V → List V) : Prop where
  to : ∀ (s : Shared) (us ws : List Value), K.In s.heap → (g us ws).length = ps.length → BindsTo s fd ⟨us, ks.zip ws⟩ (ps.zip (g us ws))
  rel : ∀ {vs : List V} {us : List Value} {zs : List V} {ws : List Value}, Vals vs us → Vals zs ws → Vals (gV vs zs) (g us ws)
variable {g : List Value → List Value → List Value} {gV : List V → List V → List V}
end
structure FnScope (N P : List Str) (sc : Scope) : Prop where
  kind : sc.kind = .function
  co : sc.isCoroutine = false
  gen : sc.isGenerator = false
  nd : N.Nodup
  pre : N.take P.length = P
  par : ∀ x ∈ P, sc.names.lookup x = some .local ∨ sc.names.lookup x = some .cell
  nofree : ∀ y ∈ sc.names, y.2 ≠ .free
theorem bindL_out {kindOf : Str → Option NameKind} {x : Str} : ∀ {binds : List (Str × Value)} {m : Str → Option Value}, (∀ v, (x, v) ∉ binds) → bindL kindOf binds m x = m x
  | [], _, _ => rfl
  | (n, v) :: r, m, h => by
    unfold bindL
    rw [bindL_out fun w hw => h w (List.mem_cons_of_mem _ hw)]
    split
    · have : x ≠ n := by rintro rfl; exact h v List.mem_cons_self
      simp [this]
    · rfl
theorem bindC_out {kindOf : Str → Option NameKind} {x : Str} : ∀ {binds : List (Str × Value)} {m : Str → Option Value}, (∀ v, (x, v) ∉ binds) → bindC kindOf binds m x = m x
  | [], _, _ => rfl
  | (n, v) :: r, m, h => by
    unfold bindC
    rw [bindC_out fun w hw => h w (List.mem_cons_of_mem _ hw)]
    split
    · rfl
    · have : x ≠ n := by rintro rfl; exact h v List.mem_cons_self
      simp [this]
theorem bindL_get {kindOf : Str → Option NameKind} {x : Str} {v : Value} : ∀ {P : List Str} {vs : List Value} {i : Nat} {m : Str → Option Value}, P.Nodup → P[i]? = some x → vs[i]? = some v → kindOf x = some .local →
    bindL kindOf (P.zip vs) m x = some v
  | [], _, _, _, _, h, _, _ => by simp at h
  | _ :: _, [], _, _, _, _, h, _ => by simp at h
  | p :: P, w :: vs, 0, m, nd, h1, h2, hk => by
    simp at h1 h2; subst h1; subst h2
    show bindL kindOf ((p, w) :: P.zip vs) m p = _
    unfold bindL
    rw [bindL_out fun v hv => (List.nodup_cons.mp nd).1 (List.of_mem_zip hv).1, if_pos hk]
    simp
  | p :: P, w :: vs, i + 1, m, nd, h1, h2, hk => by
    show bindL kindOf ((p, w) :: P.zip vs) m x = _
    unfold bindL
    exact bindL_get (i := i) (List.nodup_cons.mp nd).2 (by simpa using h1) (by simpa using h2) hk
theorem bindC_get {kindOf : Str → Option NameKind} {x : Str} {v : Value} : ∀ {P : List Str} {vs : List Value} {i : Nat} {m : Str → Option Value}, P.Nodup → P[i]? = some x → vs[i]? = some v → kindOf x ≠ some .local →
    bindC kindOf (P.zip vs) m x = some v
  | [], _, _, _, _, h, _, _ => by simp at h
  | _ :: _, [], _, _, _, _, h, _ => by simp at h
  | p :: P, w :: vs, 0, m, nd, h1, h2, hk => by
    simp at h1 h2; subst h1; subst h2
    show bindC kindOf ((p, w) :: P.zip vs) m p = _
    unfold bindC
    rw [bindC_out fun v hv => (List.nodup_cons.mp nd).1 (List.of_mem_zip hv).1, if_neg hk]
    simp
  | p :: P, w :: vs, i + 1, m, nd, h1, h2, hk => by
    show bindC kindOf ((p, w) :: P.zip vs) m x = _
    unfold bindC
    exact bindC_get (i := i) (List.nodup_cons.mp nd).2 (by simpa using h1) (by simpa using h2) hk
def start (N : List Str) (vs : List V) : St := vs.map some ++ List.replicate (N.length - vs.length) none
def cxOf (CX : CXT) (P : Program) (w : World) (K : PySem.W.Frag) (mg : Str → Option Value) (base : Heap) (N : List Str) (qual : Str) (scope : Scope) (f : Addr) (cd : Value) (A : Around) (outer : List Env) (s : Shared) (H : Hp) (E : XK) : Cx where
  prog := P
  w := w
  K := K
  mg := mg
  base := base
  A := A.deeper (envOfC qual scope s.heap.objs.size f cd)
  N := N
  s₀ := s
  H₀ := H
  env := envOfC qual scope s.heap.objs.size f cd
  outer := outer
  stack := envOfC qual scope s.heap.objs.size f cd :: outer
  ex := []
  calm := true
  fn := fun _ => true
  pn := []
  xe := fun e s' => wpAny (model P w) (A.deeper (envOfC qual scope s.heap.objs.size f cd)) (leaving (envOfC qual scope s.heap.objs.size f cd) e) (fun _ s'' => CX outer H s E e s'') (fun e' s'' => CX outer H s E e' s'') s'
theorem cell_has {sc : Scope} {n : Nat} {x : Str} (h : sc.names.lookup x = some .cell) : ∃ c, (cellsFrom n sc.names []).lookup x = some c := by
  have q := PySem.W.cellsFrom_some sc.names n [] (.inl h)
  exact Option.isSome_iff_exists.mp q
theorem inv_start {CX : CXT} {P : Program} {w : World} {K : PySem.W.Frag} {mg : Str → Option Value} {base : Heap} {N ps : List Str} {qual : Str} {scope : Scope} {f : Addr} {cd : Value} {A : Around} {outer : List Env} {s s1 : Shared} {H : Hp} {E : XK} {us : List Value} {vs : List V}
    (S : FnScope N ps scope) (hd : A.handled = none) (e0 : Env0 P w K mg base A outer s H) (hl : vs.length = ps.length) (r : Vals vs us)
    (x : InCallC s s.heap.objs.size (bindL (envOfC qual scope s.heap.objs.size f cd).kindOf (ps.zip us) fun _ => none) (cellsFrom (s.heap.objs.size + 1) scope.names []) (bindC (envOfC qual scope s.heap.objs.size f cd).kindOf (ps.zip us) fun _ => none) s1) :
    Inv (cxOf CX P w K mg base N qual scope f cd A outer s H E) [] (start N vs) H s1 := by
  have hpl : ps.length ≤ N.length := by have := congrArg List.length S.pre; rw [List.length_take] at this; omega
  obtain ⟨h1, tk, rfl, hk⟩ := x.done
  have noA : ∀ b : Addr, b ∉ (cxOf CX P w K mg base N qual scope f cd A outer s H E).ex := fun b z => absurd (show b ∈ ([] : List Addr) from z) (by simp)
  refine ⟨⟨e0.mod, S.kind, rfl, rfl, Nat.le_refl _, fun y z c h1 h2 => ?_, fun y hy => ?_, fun y c _ h => ?_, fun _ => hd, Around.frames_deeper e0.frames, .inr ⟨rfl, rfl⟩, fun b z => absurd z (noA b), e0.bs, e0.bsz, fun b _ _ => noA b, fun b z => absurd z (noA b), e0.funs, e0.frf⟩,
    rfl, e0.bare, Un.kept hk, ⟨_, x.toInCall.ns, fun i y v h1 h2 h3 => ?_⟩, fun y c h => ⟨_, x.cell y c h⟩, e0.hok.fresh (Nat.le_refl _), fun y c h => ?_, fun p hp => absurd (show p ∈ ([] : List (Addr × Obj)) from hp) (by simp), e0.hok.kept hk, ?_⟩
  · exact name_of_addr x.apart (PySem.mem_of_lookup h1) (PySem.mem_of_lookup h2)
  · have hy : scope.names.lookup y = some .cell ∨ scope.names.lookup y = some .free := hy
    rcases hy with hy | hy
    · exact cell_has hy
    · exact absurd rfl (S.nofree _ (PySem.mem_of_lookup hy))
  · exact Nat.le_of_lt (x.above y c (PySem.mem_of_lookup h))
  · have hi : i < vs.length := by
      unfold start at h2
      by_cases hi : i < vs.length
      · exact hi
      · rw [List.getElem?_append_right (by simpa using hi)] at h2
        rw [List.getElem?_replicate] at h2
        split at h2 <;> cases h2
    have ha : vs[i]? = some v := by
      unfold start at h2
      rw [List.getElem?_append_left (by simpa using hi), List.getElem?_map] at h2
      cases e : vs[i]? with
      | none => rw [e] at h2; cases h2
      | some a => rw [e] at h2; cases h2; rfl
    obtain ⟨u, hu, rv⟩ := r.get ha
    have hp : ps[i]? = some y := by
      rw [← S.pre, List.getElem?_take_of_lt (by omega)]; exact h1
    have ndP : ps.Nodup := by rw [← S.pre]; exact S.nd.sublist (List.take_sublist _ _)
    refine ⟨u, rv, ?_⟩
    rcases S.par y (List.mem_of_getElem? hp) with k | k
    · exact .inl ⟨k, bindL_get ndP hp hu k⟩
    · obtain ⟨c, e⟩ := cell_has (n := s.heap.objs.size + 1) k
      refine .inr ⟨.inl k, c, e, ?_⟩
      have q := x.cell y c e
      rw [bindC_get ndP hp hu (by show scope.names.lookup y ≠ _; rw [k]; decide)] at q
      exact q
  · exact e0.hok.fresh (Nat.le_of_lt (x.above y c (PySem.mem_of_lookup h)))
  · unfold start
    show _ = N.length
    rw [List.length_append, List.length_map, List.length_replicate]
    omega
theorem fn_of {CX : CXT} {P : Program} {w : World} {K : PySem.W.Frag} {mg : Str → Option Value} {base : Heap} {k : Nat} {f : Addr} {name qual : Str} {params : Arguments} {body : List Stmt} {scope : Scope} {dV kV doc pm cdv ct oc : Value} {an od : Option Addr}
    {osl : Array (Option Value)} {N ps : List Str} {sp : Sp} (lk : K.lookup f = some ⟨oc, od, .func (PySem.W.fnOf name qual params body scope dV kV doc pm an cdv ct), osl⟩) (hcd : PySem.W.codeIn K cdv qual = true) (S : FnScope N ps scope)
    (len : ∀ vs H Q E, sp vs H Q E → vs.length = ps.length)
    (hbody : ∀ (A : Around) (outer : List Env) (s : Shared) (H : Hp) (vs : List V) (Q : VK) (E : XK), Room k (A.deeper (envOfC qual scope s.heap.objs.size f cdv)) → sp vs H Q E →
      ∃ t, PSs (cxOf CX P w K mg base N qual scope f cdv A outer s H E) body t ∧ t { nx := fun _ H' => Q .non H', rt := Q } (start N vs) H) :
    FnOk P w K mg base CX (k + 1) f (PySem.W.fnOf name qual params body scope dV kV doc pm an cdv ct) ps sp := by
  refine ⟨len, fun A outer s H args us vs Q E hr e0 hb r hsp => ?_⟩
  have hl := len _ _ _ _ hsp
  have KX : K.In s.heap := e0.mod.kin.keeps fun b o e => (e0.bs b o e).1
  have lim : s.heap.NoLimit := e0.mod.nolimit.keeps fun b o e => (e0.bs b o e).1
  have hkind : ∀ y ∈ ps.zip us, scope.names.lookup y.1 = some .local ∨ (scope.names.lookup y.1 = some .cell ∧ ((cellsFrom (s.heap.objs.size + 1) scope.names []).lookup y.1).isSome = true) := fun ⟨n, v⟩ hy => by
    rcases S.par n (List.of_mem_zip hy).1 with q | q
    · exact .inl q
    · exact .inr ⟨q, PySem.W.cellsFrom_some _ _ _ (.inl q)⟩
  refine codeAny_call_function hr.depth (KX _ _ lk) rfl S.co S.gen rfl (PySem.W.codeRec_of KX hcd) (hb _ _ _ _ ?_)
  refine wpAny_newFunctionEnv_cells S.kind hkind fun env he s1 x => ?_
  subst he
  refine ⟨lim.keeps x.toInCall.keep, codeAny_func ?_⟩
  obtain ⟨t, ht, hq⟩ := hbody A outer s H vs Q E (hr.deeper _) hsp
  have I : Inv (cxOf CX P w K mg base N qual scope f cdv A outer s H E) [] (start N vs) H s1 := inv_start S hr.hd e0 hl r x
  refine wpAny_mono (ht [] s1 (start N vs) H _ I hq) (fun fl s' hs => ?_) fun e s' hs => hs
  have fin : ∀ {σ' : St} {H' : Hp} {v : V} {u : Value}, Inv (cxOf CX P w K mg base N qual scope f cdv A outer s H E) [] σ' H' s' → RelV v u → Q v H' → CE outer P w H s Q u s' :=
    fun {σ' H' v u} J rv q => ⟨v, H', J.os, J.bare, J.base, J.hok, rv, q⟩
  cases fl with
  | ret u =>
    obtain ⟨v, σ', H', J, rv, q⟩ := hs
    exact fin J rv q
  | next =>
    obtain ⟨σ', H', J, q⟩ := hs
    exact fin (v := V.non) (u := Value.none) J rfl q
  | brk =>
    obtain ⟨_, _, _, q⟩ := hs
    exact False.elim q
  | cont =>
    obtain ⟨_, _, _, q⟩ := hs
    exact False.elim q
end L2
namespace L2
open PySem PySem.Spec PyProof.Rows
section
variable {X : Cx} {x : Str} {p pos : Pos} {e : Expr} {es : List Expr} {t : TA} {id T : String} {r : List V → Hp → VK → Prop}
def tCB (r : List V → Hp → VK → Prop) (t : TA) : TE := fun σ H Q => t σ H fun vs H1 => r vs H1 Q
theorem pe_callB (hc : CallR X (.builtin id) r) (hg : Gl X x) (hm : X.mg x = none) (hv : bootBuiltins x = some (.builtin id)) (ha : PA X (e :: es) t) (hn : x ≠ "__name__" := by decide) (hdb : (x == ("__debug__" : Str)) = false := by decide)
    (he : starEach (e :: es) X.env = (false, eval e X.env) :: starEach es X.env := by rfl) (hpl : (backTo pos (starEach es X.env)).any (·.1) = false := by rfl) : PE X (.Call (.Name x p) (e :: es) [] pos) (tCB r t) := by
  intro pins s σ H Q I h
  refine wpAny_Call_Name_kw (ld_blt I hg hm hv ?_ hn hdb)
  exact PyProof.Rows.callWith_builtin1 (thn (ha pos pins s σ H _ I h) fun us s1 ⟨vs, H1, I1, r1, q1⟩ => hc pins s1 σ H1 vs us Q I1 r1 q1) he hpl
end
end L2
namespace HT
open PySem PyProof.Rows
def lexLt : List Int → List Int → Bool
  | [], [] => false
  | [], _ :: _ => true
  | _ :: _, [] => false
  | x :: xs, y :: ys => if x = y then lexLt xs ys else decide (x < y)
theorem lexLt_cons (x y : Int) (xs ys : List Int) : lexLt (x :: xs) (y :: ys) = if x = y then lexLt xs ys else decide (x < y) := rfl
theorem lexLt_nil_nil : lexLt [] [] = false := rfl
theorem lexLt_nil_cons (y : Int) (ys : List Int) : lexLt [] (y :: ys) = true := rfl
theorem lexLt_cons_nil (x : Int) (xs : List Int) : lexLt (x :: xs) [] = false := rfl
theorem eqAt_int (A : Around) (s : Shared) (a : Int) (t : Tok) (c : Int) (u : Tok) : ∃ e, SeqAt.EqAt A s (.int a t) (.int c u) e ∧ (e = true ↔ a = c) :=
  ⟨(a == c), SeqAt.EqAt.int_int a t c u, by simp⟩
theorem rcLt_int (A : Around) (s : Shared) (a : Int) (t : Tok) (c : Int) (u : Tok) (prog : Program) (w : World) (E : Value → Shared → Prop) (Q : Value → Shared → Prop) (h : Q (.bool (decide (a < c))) s) :
    wpAny (model prog w) A (richCompare .Lt (.int a t) (.int c u)) Q E s :=
  (PyProof.Rows.lt_int h : wpAny (model prog w) A (compareOp .Lt (.int a t) (.int c u)) Q E s)
section
open PySem.SeqAt
open PySem.AutoSeq1 (wpAny_loadPart')
open PySem.MeetsSeq PySem.MeetsSeq2 PySem.MeetsSeq3
theorem tuple_lt_ints (l b : Addr) (items items2 : Array Value) (n n2 : Nat) (dd dd2 : Option Addr) (sl sl2 : Array (Option Value)) (ns ms : List Int) (hi : IntsAre items.toList ns) (hj : IntsAre items2.toList ms) :
    Meets (Builtin.«tuple.__lt__» ⟨[.ref l, .ref b], []⟩)
      (fun _ R s => s.heap.get? l = some { cls := .type "tuple", dict := dd, data := .seq items n, slots := sl } ∧ s.heap.get? b = some { cls := .type "tuple", dict := dd2, data := .seq items2 n2, slots := sl2 } ∧
        R (.ok (.ret (.bool (lexLt ns ms)))) s) :=
  .of_wp fun prog w A R s h => by
    obtain ⟨hp, g, d, tk, os⟩ := s; obtain ⟨hl, hb, h⟩ := h
    have f2 := AutoSeq1.sub_tuple_tuple
    have z1 : items.size = ns.length := by rw [← hi.length]; simp
    have z2 : items2.size = ms.length := by rw [← hj.length]; simp
    wp_walk using wpAny_loadPart' hl, wpAny_loadPart' hb, wpAny_forIn_list _ (fun rest b s' => b.1 = none ∧ s' = ⟨hp, g, d, tk, os⟩ ∧ ∃ (vs ws : List Value) (ns' ms' : List Int), rest = vs.zip ws ∧
      IntsAre vs ns' ∧ IntsAre ws ms' ∧ ns'.length + items2.size = ms'.length + items.size ∧ R (.ok (.ret (.bool (lexLt ns' ms')))) ⟨hp, g, d, tk, os⟩) _
    case turn =>
      rintro ⟨y, x⟩ rest b s' ⟨hb', rfl, vs, ws, ns', ms', hz, hvi, hwi, hlen, hR⟩
      cases hvi with
      | nil => rw [List.zip_nil_left] at hz; cases hz
      | cons a t hvi' =>
        cases hwi with
        | nil => rw [List.zip_nil_right] at hz; cases hz
        | cons c u hwi' =>
          rw [List.zip_cons_cons] at hz
          injection hz with hyx hrest
          injection hyx with hy hx
          subst hy hx
          rw [lexLt_cons] at hR
          simp only [List.length_cons] at hlen
          obtain ⟨e, he, hiff⟩ := eqAt_int A.in1 ⟨hp, g, d, tk, os⟩ a t c u
          refine wpAny_bind (he prog w _ _ ?_)
          cases e with
          | true =>
            rw [if_pos (hiff.mp rfl)] at hR
            wp_walk
            exact ⟨rfl, rfl, _, _, _, _, hrest, hvi', hwi', by omega, hR⟩
          | false =>
            rw [if_neg (fun q => absurd (hiff.mpr q) Bool.false_ne_true)] at hR
            have hri := rcLt_int A.in1 ⟨hp, g, d, tk, os⟩ a t c u prog w
            wp_walk using hri
            exact ⟨_, rfl, by simpa using hR⟩
    case fin =>
      rintro ⟨b1, b2⟩ s' ⟨hb', rfl, vs, ws, ns', ms', hz, hvi, hwi, hlen, hR⟩
      simp only at hb'
      subst hb'
      have hv : lexLt ns' ms' = decide (items.size < items2.size) := by
        cases hvi with
        | nil =>
          cases hwi with
          | nil =>
            simp only [List.length_nil] at hlen
            rw [lexLt_nil_nil]
            exact (decide_eq_false (by omega)).symm
          | cons c u hw =>
            simp only [List.length_nil, List.length_cons] at hlen
            rw [lexLt_nil_cons]
            exact (decide_eq_true (by omega)).symm
        | cons a t hv =>
          cases hwi with
          | nil =>
            simp only [List.length_nil, List.length_cons] at hlen
            rw [lexLt_cons_nil]
            exact (decide_eq_false (by omega)).symm
          | cons c u hw =>
            rw [List.zip_cons_cons] at hz
            cases hz
      rw [hv] at hR
      wp_walk
      exact ⟨_, rfl, by simpa [Builtin.Tuple.tupleCompareSizes] using hR⟩
    case h =>
      exact ⟨rfl, rfl, items.toList, items2.toList, ns, ms, rfl, hi, hj, by omega, h⟩
end
section
variable {prog : Program} {w : World} {A : Around} {E : Value → Shared → Prop} {s : Shared}
theorem lt_tupInts {l b : Addr} {items items2 : Array Value} {ns ms : List Int} {Q : Value → Shared → Prop} (hl : IsTup s.heap l items) (hb : IsTup s.heap b items2) (hi : IntsAre items.toList ns) (hj : IntsAre items2.toList ms)
    (hu : A.units < cLine) (h : Q (.bool (lexLt ns ms)) s) : wpAny (model prog w) A (compareOp .Lt (.ref l) (.ref b)) Q E s := by
  obtain ⟨⟨cls, dd, data, sl⟩, ho, hc, n, hd⟩ := id hl
  obtain ⟨⟨cls2, dd2, data2, sl2⟩, ho2, hc2, n2, hd2⟩ := id hb
  simp only at hc hd hc2 hd2
  subst hc hd hc2 hd2
  exact richCompare_meets_room (op := .Lt) ⟨_, ho, rfl⟩ ⟨_, ho2, rfl⟩ PySem.F.slot_tuple_lt PySem.F.entry_tuple_lt (PySem.F.args_tuple_lt_2 _ _) (tuple_lt_ints l b items items2 n n2 dd dd2 sl sl2 ns ms hi hj)
    ⟨ho, ho2, show Value.bool (lexLt ns ms) ≠ Value.notImplemented ∧ Q (.bool (lexLt ns ms)) s from ⟨(fun x => nomatch x), h⟩⟩ hu
theorem cat_tup {t b : Addr} {vs ws : List Value} {Q : Value → Shared → Prop} (ht : IsTup s.heap t vs.toArray) (hb : IsTup s.heap b ws.toArray) (hv : vs ≠ [])
    (h1 : ws = [] → Q (.ref t) s) (h2 : ws ≠ [] → Q (.ref s.heap.objs.size) { s with heap := s.heap.push { cls := .type "tuple", data := .seq (vs ++ ws).toArray } })
    (hsz : vs.length + ws.length ≤ sizeLine) : wpAny (model prog w) A (binaryOp .Add (.ref t) (.ref b)) Q E s := by
  obtain ⟨⟨cls, dd, data, sl⟩, ho, hc, n, hd⟩ := id ht
  obtain ⟨⟨cls2, dd2, data2, sl2⟩, ho2, hc2, n2, hd2⟩ := id hb
  simp only at hc hd hc2 hd2
  subst hc hd hc2 hd2
  have e : vs.toArray ++ ws.toArray = (vs ++ ws).toArray := by simp
  by_cases hw : ws = []
  · exact concat_meets ⟨_, ho, rfl⟩ ⟨_, ho2, rfl⟩ noFill_tuple_add seq_tuple_add PySem.F.slot_tuple_add PySem.F.entry_tuple_add (PySem.F.args_tuple_add_2 _ _)
      (tuple_addW1 t b vs.toArray ws.toArray n n2 dd dd2 sl sl2 (by simpa using hv) (by simp [hw])) ⟨ho, ho2, h1 hw⟩
  · refine concat_meets ⟨_, ho, rfl⟩ ⟨_, ho2, rfl⟩ noFill_tuple_add seq_tuple_add PySem.F.slot_tuple_add PySem.F.entry_tuple_add (PySem.F.args_tuple_add_2 _ _)
      (tuple_addW2 t b vs.toArray ws.toArray n n2 dd dd2 sl sl2 (by simpa using hv) (by simpa using hw) (by rw [List.size_toArray, List.size_toArray]; exact hsz)) ⟨ho, ho2, ?_⟩
    rw [e]
    exact h2 hw
def sIx (n d : Nat) : Option Int → Nat
  | none => d
  | some v => if v < 0 then (v + (n : Int)).toNat else min v.toNat n
theorem sIx_le (n d : Nat) (hd : d ≤ n) (o : Option Int) : sIx n d o ≤ n := by
  cases o with
  | none => exact hd
  | some v =>
    show (if v < 0 then (v + (n : Int)).toNat else min v.toNat n) ≤ n
    by_cases hv : v < 0
    · rw [if_pos hv]; omega
    · rw [if_neg hv]; exact Nat.min_le_right _ _
theorem clip_eq (v : Int) (n d : Nat) : (if v < 0 then max (v + (n : Int)) 0 else min v (n : Int)) = ((sIx n d (some v) : Nat) : Int) := by
  show (if v < 0 then max (v + (n : Int)) 0 else min v (n : Int)) = (((if v < 0 then (v + (n : Int)).toNat else min v.toNat n) : Nat) : Int)
  by_cases hv : v < 0
  · simp only [if_pos hv]; omega
  · simp only [if_neg hv]; omega
theorem adjust_gen (lo hi : Option Int) (n : Nat) : Builtin.Slice.sliceAdjust lo hi 1 (n : Int) = (((sIx n 0 lo : Nat) : Int), ((sIx n n hi : Nat) : Int)) := by
  have h1 : ¬ ((1 : Int) < 0) := by omega
  unfold Builtin.Slice.sliceAdjust
  simp only [h1, if_false]
  refine Prod.ext ?_ ?_
  · cases lo with
    | none => rfl
    | some v => exact clip_eq v n 0
  · cases hi with
    | none => rfl
    | some v => exact clip_eq v n n
theorem places_gen (i j : Nat) : Builtin.Slice.slicePlaces (i : Int) (j : Int) 1 = j - i := by
  unfold Builtin.Slice.slicePlaces
  have h1 : (1 : Int) > 0 := by omega
  simp only [h1, if_true, Int.ediv_one]
  split <;> omega
theorem slicePart_ {v : Value} {o : Option Int} {Q : Option Int → Shared → Prop} (p : IsPart v o) (h : Q o s) : wpAny (model prog w) A (Builtin.Slice.slicePartIndex v) Q E s := by
  cases p with
  | none => exact slicePart_none h
  | int i t => exact slicePart_int h
theorem sliceApplied_gen {sl : Addr} {vl vu : Value} {lo hi : Option Int} {n : Nat} {Q : Int × Int × Nat → Shared → Prop} (hs : s.heap.IsSliceOf sl vl vu .none) (pl : IsPart vl lo) (pu : IsPart vu hi)
    (h : Q (((sIx n 0 lo : Nat) : Int), 1, sIx n n hi - sIx n 0 lo) s) : wpAny (model prog w) A (Builtin.Slice.sliceApplied (.ref sl) (pure (n : Int))) Q E s := by
  obtain ⟨os, hos, hcs, hds⟩ := id hs
  unfold Builtin.Slice.sliceApplied Builtin.Slice.sliceFields
  refine wpAny_bind (wpAny_bind (wpAny_field hos hds (x := vl) rfl (wpAny_bind (wpAny_field hos hds (x := vu) rfl (wpAny_bind (wpAny_field hos hds (x := .none) rfl (wpAny_pure ?_)))))))
  refine wpAny_bind (slicePart_none ?_)
  show wpAny _ _ (if ((1 : Int) == 0) = true then _ else _) _ _ s
  rw [if_neg (by decide)]
  refine wpAny_bind (slicePart_ pl (wpAny_bind (slicePart_ pu (wpAny_bind (wpAny_pure ?_)))))
  show wpAny _ _ (match Builtin.Slice.sliceAdjust lo hi 1 (n : Int) with | (lo, hi) => pure (lo, (1 : Int), Builtin.Slice.slicePlaces lo hi 1)) _ _ s
  rw [adjust_gen lo hi n]
  show wpAny _ _ (pure (((sIx n 0 lo : Nat) : Int), (1 : Int), Builtin.Slice.slicePlaces ((sIx n 0 lo : Nat) : Int) ((sIx n n hi : Nat) : Int) 1)) _ _ s
  rw [places_gen]
  exact wpAny_pure h
theorem pick_gen (xs : Array Value) (i k : Nat) : ((List.range k).filterMap fun (m : Nat) => xs[((i : Int) + (m : Int) * 1).toNat]?).toArray = ((xs.toList.drop i).take k).toArray := by
  have e : (fun (m : Nat) => xs[((i : Int) + (m : Int) * 1).toNat]?) = fun m => xs[i + m]? := by
    funext m
    have : ((i : Int) + (m : Int) * 1).toNat = i + m := by omega
    rw [this]
  rw [e]
  have := pick_run xs i k
  rw [List.filterMap_map] at this
  have e2 : ((fun x => xs[x]?) ∘ fun x => i + x) = fun m => xs[i + m]? := rfl
  rw [e2] at this
  rw [this]
theorem getItem_tuple_cut {t sl : Addr} {items : Array Value} {vl vu : Value} {lo hi : Option Int} {Q : Value → Shared → Prop} (ht : IsTup s.heap t items) (hs : s.heap.IsSliceOf sl vl vu .none) (pl : IsPart vl lo) (pu : IsPart vu hi)
    (hw : ¬ (sIx items.size 0 lo = 0 ∧ sIx items.size items.size hi = items.size))
    (h : Q (.ref s.heap.objs.size) { s with heap := s.heap.push { cls := .type "tuple", data := .seq ((items.toList.drop (sIx items.size 0 lo)).take (sIx items.size items.size hi - sIx items.size 0 lo)).toArray } })
    (hsz : items.size ≤ sizeLine) : wpAny (model prog w) A (getItem (.ref t) (.ref sl)) Q E s := by
  have htake : sizeOk (.seq ((items.toList.drop (sIx items.size 0 lo)).take (sIx items.size items.size hi - sIx items.size 0 lo)).toArray) := by
    show ((items.toList.drop (sIx items.size 0 lo)).take (sIx items.size items.size hi - sIx items.size 0 lo)).toArray.size ≤ sizeLine
    rw [List.size_toArray, List.length_take, List.length_drop, Array.length_toList]
    omega
  have hj : sIx items.size items.size hi ≤ items.size := sIx_le _ _ (Nat.le_refl _) hi
  obtain ⟨os, hos, hcs, hds⟩ := id hs
  have hTs : s.TypeIs (.ref sl) "slice" := ⟨os, hos, hcs⟩
  unfold getItem
  try with_reducible refine wpAny_holding ?_
  first | refine wpAny_bind (wpAny_pure ?_) | skip
  refine wpAny_bind (wpAny_sequenceKey ht.typeIs (by decide) ?_)
  refine wpAny_bind (wpAny_callSpecial?_slot (name := Str.ofString "__getitem__") ht.typeIs PyProof.Rows.slot_tuple_getitem
    (wpAny_call_entry PyProof.Rows.slot_tuple_getitem ht.typeIs entry_tuple_getitem ?_ (args_tuple_getitem _ _)))
  show wpAny _ _ (Builtin.Tuple.tupleItemsOf (.ref t) >>= _) _ _ s
  refine wpAny_bind (tupleItemsOf_ ht ?_)
  refine wpAny_bind (wpAny_typeOf hTs ?_)
  rw [if_pos (by decide)]
  refine wpAny_bind (sliceApplied_gen hs pl pu ?_)
  have hno : ¬ ((((sIx items.size 0 lo : Nat) : Int) == 0 && (1 : Int) == 1 && (sIx items.size items.size hi - sIx items.size 0 lo) == items.size) = true) := by
    intro q
    rw [Bool.and_eq_true, Bool.and_eq_true] at q
    have q1 : ((sIx items.size 0 lo : Nat) : Int) = 0 := eq_of_beq q.1.1
    have q2 : sIx items.size items.size hi - sIx items.size 0 lo = items.size := eq_of_beq q.2
    exact hw ⟨by omega, by omega⟩
  show wpAny _ _ (if (((sIx items.size 0 lo : Nat) : Int) == 0 && (1 : Int) == 1 && (sIx items.size items.size hi - sIx items.size 0 lo) == items.size) = true then _ else _) _ _ s
  rw [if_neg hno, pick_gen]
  first
    | exact wpAny_bind (m := Builtin.Tuple.tupleExact _) (wpAny_newObj_type (wpAny_pure ⟨_, rfl, wpAny_pure h⟩) htake)
    | exact wpAny_bind (m := Builtin.Tuple.tupleExact _) (wpAny_newObj_type (wpAny_bind (wpAny_pure (wpAny_pure ⟨_, rfl, wpAny_pure h⟩))) htake)
    | exact wpAny_bind (wpAny_bind (m := Builtin.Tuple.tupleExact _) (wpAny_newObj_type (wpAny_pure (wpAny_pure ⟨_, rfl, wpAny_pure h⟩)) htake))
    | exact wpAny_bind (wpAny_bind (m := Builtin.Tuple.tupleExact _) (wpAny_newObj_type (wpAny_pure ⟨_, rfl, wpAny_pure h⟩) htake))
end
end HT
namespace L2
open PySem PySem.Spec PyProof.Rows
abbrev TO := St → Hp → (Option Int → Hp → Prop) → Prop
def PO (X : Cx) (e : Option Expr) (t : TO) : Prop :=
  ∀ (pins : List (Addr × Obj)) (s : Shared) (σ : St) (H : Hp) (Q : Option Int → Hp → Prop), Inv X pins σ H s → t σ H Q →
    wpAny (model X.prog X.w) X.A (evalPart e X.env) (fun u s' => ∃ o H', Inv X pins σ H' s' ∧ IsPart u o ∧ Q o H') X.xe s
def tNoPart : TO := fun _ H Q => Q none H
def tPart (t : TE) : TO := fun σ H Q => t σ H fun x H1 => ∃ i, x = .int i ∧ Q (some i) H1
theorem intsAre_of {ns : List Int} : ∀ {us : List Value}, Vals (ns.map V.int) us → IntsAre us ns := by
  induction ns with
  | nil => intro us r; rw [List.map_nil] at r; cases r; exact .nil
  | cons n ns ih =>
    intro us r
    rw [List.map_cons] at r
    cases r with
    | cons r1 r2 =>
      obtain ⟨t, e⟩ := r1
      subst e
      exact .cons n t (ih r2)
section
variable {X : Cx} {e : Expr} {te : TE} {lo hi : Option Expr} {tl th : TO} {pos p2 : Pos}
theorem po_none : PO X none tNoPart := by
  intro pins s σ H Q I h
  rw [evalPart_none]
  exact wpAny_pure ⟨none, H, I, .none, h⟩
theorem po_some (h : PE X e te) : PO X (some e) (tPart te) := by
  intro pins s σ H Q I hw
  rw [evalPart_some]
  refine thn (h pins s σ H _ I hw) fun u s1 ⟨x, H1, I1, r1, q1⟩ => ?_
  obtain ⟨i, rfl, q⟩ := q1
  obtain ⟨t, rfl⟩ := r1
  exact ⟨some i, H1, I1, .int i t, q⟩
def SlR (X : Cx) (r : V → Option Int → Option Int → Hp → VK → Prop) : Prop :=
  ∀ (pins : List (Addr × Obj)) (s : Shared) (σ : St) (H : Hp) (x : V) (v vl vu : Value) (lo hi : Option Int) (sl : Addr) (Q : VK), Inv X pins σ H s → RelV x v → s.heap.IsSliceOf sl vl vu .none → IsPart vl lo → IsPart vu hi → r x lo hi H Q →
    ∃ T id, typeLookup (.type T) "__getitem__" = pure (some (.builtin id)) ∧ s.TypeIs v T ∧ wpAny (model X.prog X.w) X.A (getItem v (.ref sl)) (EP X pins σ Q) X.xe s
theorem SlR.or {r r' : V → Option Int → Option Int → Hp → VK → Prop} (h : SlR X r) (h' : SlR X r') : SlR X (fun x lo hi H Q => r x lo hi H Q ∨ r' x lo hi H Q) := by
  intro pins s σ H x v vl vu lo hi sl Q I rx hs pl pu q
  rcases q with q | q
  · exact h pins s σ H x v vl vu lo hi sl Q I rx hs pl pu q
  · exact h' pins s σ H x v vl vu lo hi sl Q I rx hs pl pu q
def tSl (r : V → Option Int → Option Int → Hp → VK → Prop) (te : TE) (tl th : TO) : TE := fun σ H Q => te σ H fun x H1 => tl σ H1 fun l H2 => th σ H2 fun u H3 => r x l u H3 Q
theorem pe_slice {r : V → Option Int → Option Int → Hp → VK → Prop} (hr : SlR X r) (he : PE X e te) (hl : PO X lo tl) (hu : PO X hi th) : PE X (.Subscript e (.Slice lo hi none p2) pos) (tSl r te tl th) := by
  intro pins s σ H Q I h
  refine Subscript_ (thn (he pins s σ H _ I h) fun v s1 ⟨x, H1, I1, r1, q1⟩ => ?_)
  refine wpAny_Slice (thn (hl pins s1 σ H1 _ I1 q1) fun vl s2 ⟨l, H2, I2, pl, q2⟩ => thn (hu pins s2 σ H2 _ I2 q2) fun vu s3 ⟨u, H3, I3, pu, q3⟩ => ?_)
  rw [evalPart_none]
  refine wpAny_pure ?_
  have I4 : Inv X pins σ H3 { s3 with heap := s3.heap.push { cls := .type "slice", data := .fields #[vl, vu, .none] } } := I3.kept (t' := s3.toks) fun b ob q => Heap.get?_push_of_some _ q
  obtain ⟨T, id, hT, ht, hg⟩ := hr pins { s3 with heap := s3.heap.push { cls := .type "slice", data := .fields #[vl, vu, .none] } } σ H3 x v vl vu l u s3.heap.objs.size Q I4 r1 (Heap.IsSliceOf.new ..) pl pu q3
  show wpAny (model X.prog X.w) X.A (subscriptTail e (.Slice lo hi none p2) v (.ref s3.heap.objs.size)) (EP X pins σ Q) X.xe { s3 with heap := s3.heap.push { cls := .type "slice", data := .fields #[vl, vu, .none] } }
  exact tail_any (ops := [.ref s3.heap.objs.size, v]) ht hT hg (by with_unfolding_all rfl)
def cutV (xs : List V) (lo hi : Option Int) : List V := (xs.drop (HT.sIx xs.length 0 lo)).take (HT.sIx xs.length xs.length hi - HT.sIx xs.length 0 lo)
theorem cutV_length (xs : List V) (lo hi : Option Int) : (cutV xs lo hi).length ≤ xs.length := by
  unfold cutV
  rw [List.length_take, List.length_drop]
  omega
def rSlT (K : PySem.W.Frag) : V → Option Int → Option Int → Hp → VK → Prop := fun x lo hi H Q => ∃ a xs, x = .ref a ∧ SqT K H a xs ∧
  ¬ (HT.sIx xs.length 0 lo = 0 ∧ HT.sIx xs.length xs.length hi = xs.length) ∧ ∀ p, H p = none → Q (.ref p) (upd H p (.tup (cutV xs lo hi)))
theorem sl_tup : SlR X (rSlT X.K) := by
  intro pins s σ H x v vl vu lo hi sl Q I rx hs pl pu h
  obtain ⟨a, xs, rfl, hx, hw, q⟩ := h
  cases rx
  obtain ⟨its, r, ht, hz⟩ := I.tuple hx
  have hlen : its.toArray.size = xs.length := by rw [List.size_toArray]; exact r.length.symm
  refine ⟨"tuple", _, PyProof.Rows.slot_tuple_getitem.lookup, ht.typeIs, ?_⟩
  refine HT.getItem_tuple_cut ht hs pl pu (by rw [hlen]; exact hw) ?_ (by rw [hlen]; exact hz)
  rw [hlen]
  refine ⟨.ref s.heap.objs.size, _, I.laid (t' := s.toks) (o := .tup (cutV xs lo hi)) (fun b ob q => Heap.get?_push_of_some _ q) (Nat.le_refl _) ?_, rfl, q _ (I.hok.fresh (Nat.le_refl _))⟩
  exact ⟨Nat.le_trans (cutV_length xs lo hi) hz, _, (r.drop (HT.sIx xs.length 0 lo)).take (HT.sIx xs.length xs.length hi - HT.sIx xs.length 0 lo), IsTup.new _ _⟩
def rCatT (K : PySem.W.Frag) : R2 := fun x y H Q => ∃ a b xs ys, x = .ref a ∧ y = .ref b ∧ SqT K H a xs ∧ SqT K H b ys ∧ xs ≠ [] ∧ xs.length + ys.length ≤ sizeLine ∧
  (ys = [] → Q (.ref a) H) ∧ (ys ≠ [] → ∀ p, H p = none → Q (.ref p) (upd H p (.tup (xs ++ ys))))
theorem Vals.nil_iff {xs : List V} {us : List Value} (r : Vals xs us) : us = [] ↔ xs = [] := by
  cases r with
  | nil => simp
  | cons _ _ => simp
theorem op_catT : OpR X (binaryOp .Add) (rCatT X.K) := by
  intro pins s σ H x y v u Q I rx ry h
  obtain ⟨a, b, xs, ys, rfl, rfl, ha, hb, hx, hz, q1, q2⟩ := h
  cases rx
  cases ry
  obtain ⟨its, r1, p1, _⟩ := I.tuple ha
  obtain ⟨its2, r2, p2, _⟩ := I.tuple hb
  refine HT.cat_tup p1 p2 (fun z => hx (r1.nil_iff.mp z)) (fun z => ⟨.ref a, H, I, rfl, q1 (r2.nil_iff.mp z)⟩) (fun z => ?_) (by rw [← r1.length, ← r2.length]; exact hz)
  refine ⟨.ref s.heap.objs.size, _, I.laid (t' := s.toks) (o := .tup (xs ++ ys)) (fun b ob q => Heap.get?_push_of_some _ q) (Nat.le_refl _) ?_, rfl, q2 (fun w => z (r2.nil_iff.mpr w)) _ (I.hok.fresh (Nat.le_refl _))⟩
  exact ⟨by rw [List.length_append]; exact hz, _, r1.append r2, IsTup.new _ _⟩
end
end L2
namespace L2
open PySem PySem.Spec PyProof.Rows
def ixN (n : Nat) (i : Int) : Option Nat := if 0 ≤ i then (if i < n then some i.toNat else none) else if -(n : Int) ≤ i then some (i + n).toNat else none
def atI {α : Type} (xs : List α) (i : Int) : Option α := (ixN xs.length i).bind fun j => xs[j]?
theorem ixN_seq {n : Nat} {i : Int} {j : Nat} (h : ixN n i = some j) : seqIndex? i n = some j ∧ j < n ∧ -(n : Int) ≤ i ∧ i < n := by
  unfold ixN at h
  by_cases h0 : 0 ≤ i
  · rw [if_pos h0] at h
    by_cases h1 : i < n
    · rw [if_pos h1] at h
      have e : i.toNat = j := Option.some.inj h
      exact ⟨by rw [seqIndex_of h0 h1, e], by omega, by omega, h1⟩
    · rw [if_neg h1] at h; cases h
  · rw [if_neg h0] at h
    by_cases h1 : -(n : Int) ≤ i
    · rw [if_pos h1] at h
      have e : (i + n).toNat = j := Option.some.inj h
      exact ⟨by rw [seqIndex_neg (by omega) h1, e], by omega, h1, by omega⟩
    · rw [if_neg h1] at h; cases h
theorem atI_get {α : Type} {xs : List α} {i : Int} {v : α} (h : atI xs i = some v) : ∃ j, seqIndex? i xs.length = some j ∧ xs[j]? = some v ∧ j < xs.length ∧ -(xs.length : Int) ≤ i ∧ i < xs.length := by
  unfold atI at h
  cases e : ixN xs.length i with
  | none => rw [e] at h; cases h
  | some j =>
    rw [e] at h
    obtain ⟨h1, h2, h3, h4⟩ := ixN_seq e
    exact ⟨j, h1, h, h2, h3, h4⟩
def PlainIx (b : Expr) : Prop := ∀ o i, subscripted b false o i = operate [o, i] (getItem o i)
def IxR (X : Cx) (r : R2) : Prop :=
  ∀ (value slice : Expr) (pins : List (Addr × Obj)) (s : Shared) (σ : St) (H : Hp) (x y : V) (v u : Value) (Q : VK), Inv X pins σ H s → RelV x v → RelV y u → r x y H Q →
    subscripted slice false v u = operate [v, u] (getItem v u) → wpAny (model X.prog X.w) X.A (subscriptTail value slice v u) (EP X pins σ Q) X.xe s
def MtR (X : Cx) (id : String) (r : V → List V → Hp → VK → Prop) : Prop :=
  ∀ (pins : List (Addr × Obj)) (s : Shared) (σ : St) (H : Hp) (x : V) (xs : List V) (v : Value) (us : List Value) (Q : VK), Inv X pins σ H s → RelV x v → Vals xs us → r x xs H Q →
    wpAny (model X.prog X.w) X.A (call (.builtin id) (v :: us)) (EP X pins σ Q) X.xe s
section
variable {X : Cx} {a b : Expr} {ta tb : TE} {pos : Pos}
theorem IxR.or {r r' : R2} (h : IxR X r) (h' : IxR X r') : IxR X (fun x y H Q => r x y H Q ∨ r' x y H Q) := by
  intro value slice pins s σ H x y v u Q I rx ry q hs
  rcases q with q | q
  · exact h value slice pins s σ H x y v u Q I rx ry q hs
  · exact h' value slice pins s σ H x y v u Q I rx ry q hs
theorem MtR.or {id : String} {r r' : V → List V → Hp → VK → Prop} (h : MtR X id r) (h' : MtR X id r') : MtR X id (fun x xs H Q => r x xs H Q ∨ r' x xs H Q) := by
  intro pins s σ H x xs v us Q I rx rs q
  rcases q with q | q
  · exact h pins s σ H x xs v us Q I rx rs q
  · exact h' pins s σ H x xs v us Q I rx rs q
theorem pe_ix {r : R2} (hr : IxR X r) (ha : PE X a ta) (hb : PE X b tb) (hs : PlainIx b) : PE X (.Subscript a b pos) (tOp r ta tb) := by
  intro pins s σ H Q I h
  exact Subscript_ (binT ha hb I h fun v u s2 x y H2 I2 rx ry q => hr a b pins s2 σ H2 x y v u Q I2 rx ry q (hs _ _))
def rIxL (K : PySem.W.Frag) : R2 := fun x y H Q => ∃ p xs i v, x = .ref p ∧ y = .int i ∧ SqL K H p xs ∧ atI xs i = some v ∧ Q v H
def rIxT (K : PySem.W.Frag) : R2 := fun x y H Q => ∃ p xs i v, x = .ref p ∧ y = .int i ∧ SqT K H p xs ∧ atI xs i = some v ∧ Q v H
theorem ix_list : IxR X (rIxL X.K) := by
  intro value slice pins s σ H x y v u Q I rx ry h hs
  obtain ⟨p, xs, i, z, rfl, rfl, hq, he, q⟩ := h
  cases rx
  obtain ⟨t, rfl⟩ := ry
  obtain ⟨its, r, pl, hz⟩ := I.list hq
  obtain ⟨j, h1, h2, h3, h4, h5⟩ := atI_get he
  obtain ⟨w, ew, rw'⟩ := r.get h2
  have hl := r.length
  have hn := line63
  have fin : EP X pins σ Q w s := ⟨z, H, I, rw', q⟩
  by_cases h0 : 0 ≤ i
  · have hj : i.toNat = j := by
      rw [seqIndex_of h0 h5] at h1
      exact Option.some.inj h1
    exact item_listR pl.isList h0 (by omega) (by rw [hj]; simpa using ew) fin hs
  · have hj : (i + (its.toArray.size : Int)).toNat = j := by
      rw [seqIndex_neg (by omega) h4] at h1
      rw [List.size_toArray, ← hl]
      exact Option.some.inj h1
    exact subscriptTail_builtinR (x := w) pl.isList.typeIs slot_list_getitem.lookup
      (wpAny_getItem_list_neg (Q := fun r s' => r = w ∧ EP X pins σ Q r s') pl.isList (by omega) (by rw [List.size_toArray] <;> omega) (by omega) (by rw [hj]; simpa using ew) ⟨rfl, fin⟩) hs
theorem ix_tup : IxR X (rIxT X.K) := by
  intro value slice pins s σ H x y v u Q I rx ry h hs
  obtain ⟨p, xs, i, z, rfl, rfl, hq, he, q⟩ := h
  cases rx
  obtain ⟨t, rfl⟩ := ry
  obtain ⟨its, r, pl, hz⟩ := I.tuple hq
  obtain ⟨j, h1, h2, h3, h4, h5⟩ := atI_get he
  obtain ⟨w, ew, rw'⟩ := r.get h2
  have hl := r.length
  have hn := line63
  have fin : EP X pins σ Q w s := ⟨z, H, I, rw', q⟩
  exact subscriptTail_builtinR (x := w) pl.typeIs slot_tuple_getitem.lookup
    (getItem_tuple (j := j) (Q := fun r s' => r = w ∧ EP X pins σ Q r s') pl (by omega) (by omega) (by rw [List.size_toArray, ← hl]; exact h1) (by simpa using ew) ⟨rfl, fin⟩) hs
theorem mapSeq_set (its : List Value) (n j : Nat) (u : Value) : Obj.mapSeq (·.setIfInBounds j u) { cls := .type "list", data := .seq its.toArray n } = { cls := .type "list", data := .seq (its.set j u).toArray n } := by
  simp [Obj.mapSeq]
theorem Inv.lst {pins : List (Addr × Obj)} {σ : St} {H : Hp} {s : Shared} {p : Addr} {xs : List V} (I : Inv X pins σ H s) (h : H p = some (.lst xs)) :
    ∃ (its : List Value) (n : Nat), Vals xs its ∧ s.heap.get? p = some { cls := .type "list", data := .seq its.toArray n } ∧ xs.length ≤ sizeLine := by
  obtain ⟨z, its, n, r, e⟩ := I.hok p _ h
  exact ⟨its, n, r, e, z⟩
theorem Inv.lstUpd {pins : List (Addr × Obj)} {σ : St} {H : Hp} {s : Shared} {p : Addr} {xs ys : List V} {its its' : List Value} {n n' : Nat} {f : Obj → Obj} (I : Inv X pins σ H s) (h : H p = some (.lst xs))
    (ho : s.heap.get? p = some { cls := .type "list", data := .seq its.toArray n }) (hf : f { cls := .type "list", data := .seq its.toArray n } = { cls := .type "list", data := .seq its'.toArray n' }) (r : Vals ys its') (hz : ys.length ≤ sizeLine) (t : Nat) :
    Inv X pins σ (upd H p (.lst ys)) { s with heap := s.heap.update p f, toks := t } := by
  have e : (s.heap.update p f).get? p = some { cls := .type "list", data := .seq its'.toArray n' } := by
    rw [Heap.get?_update_self f ho (by rw [hf] <;> rfl), hf]
  refine I.write (x := p) (e := p) (by rw [h]; trivial) (.inl rfl) (fun b u hb q => (Heap.get?_update_other _ _ (Ne.symm hb)).trans q) ⟨_, e⟩ ?_
  exact ⟨hz, its', n', r, e⟩
def rSetL : V → V → V → Hp → (Hp → Prop) → Prop := fun o i v H Q => ∃ p xs k j, o = .ref p ∧ i = .int k ∧ H p = some (.lst xs) ∧ ixN xs.length k = some j ∧ Q (upd H p (.lst (xs.set j v)))
theorem set_list : PSet X rSetL := by
  intro pins s σ H o i v ov iv u Q I ro ri rv h
  obtain ⟨p, xs, k, j, rfl, rfl, hp, hj, q⟩ := h
  cases ro
  obtain ⟨t, rfl⟩ := ri
  obtain ⟨its, n, r, ho, hz⟩ := I.lst hp
  obtain ⟨h1, h2, h3, h4⟩ := ixN_seq hj
  have hl := r.length
  have hn := line63
  have I' : Inv X pins σ (upd H p (.lst (xs.set j v))) { s with heap := s.heap.update p (Obj.mapSeq (·.setIfInBounds j u)) } :=
    I.lstUpd hp ho (mapSeq_set its n j u) (r.set rv j) (by rw [List.length_set]; exact hz) s.toks
  by_cases h0 : 0 ≤ k
  · have hk : k.toNat = j := by
      rw [seqIndex_of h0 h4] at h1
      exact Option.some.inj h1
    exact PySem.W.ki_setAt ho h0 (by omega) (by rw [List.size_toArray, ← hl]; exact h4) (by rw [hk]; exact ⟨_, I', q⟩)
  · have hk : (k + (its.toArray.size : Int)).toNat = j := by
      rw [seqIndex_neg (by omega) h3] at h1
      rw [List.size_toArray, ← hl]
      exact Option.some.inj h1
    exact PySem.W.ki_setBack ho (by omega) (by rw [List.size_toArray, ← hl]; exact h3) (by omega) (by rw [hk]; exact ⟨_, I', q⟩)
theorem slice_bounds (lo hi : Option Int) (n : Nat) : (sliceBounds lo hi none n).1 = ((HT.sIx n 0 lo : Nat) : Int) ∧ (sliceBounds lo hi none n).2.1 = ((HT.sIx n n hi : Nat) : Int) ∧ (sliceBounds lo hi none n).2.2 = 1 := by
  refine ⟨?_, ?_, rfl⟩
  · cases lo with
    | none => simp [sliceBounds, HT.sIx]
    | some i =>
      simp only [sliceBounds, HT.sIx, Option.getD_none, show (1 : Int) > 0 by decide, if_true]
      by_cases h : i < 0
      · simp only [h, if_true] <;> omega
      · simp only [h, if_false] <;> omega
  · cases hi with
    | none => simp [sliceBounds, HT.sIx]
    | some i =>
      simp only [sliceBounds, HT.sIx, Option.getD_none, show (1 : Int) > 0 by decide, if_true]
      by_cases h : i < 0
      · simp only [h, if_true] <;> omega
      · simp only [h, if_false] <;> omega
theorem slicePick_cut (its : List Value) (lo hi : Option Int) : slicePick its.toArray lo hi none = ((its.drop (HT.sIx its.length 0 lo)).take (HT.sIx its.length its.length hi - HT.sIx its.length 0 lo)).toArray := by
  obtain ⟨h1, h2, h3⟩ := slice_bounds lo hi its.toArray.size
  unfold slicePick
  rw [h1, h2, h3]
  simp only [sliceRange_one, pick_run, List.size_toArray] <;> rfl
def rSlL (K : PySem.W.Frag) : V → Option Int → Option Int → Hp → VK → Prop := fun x lo hi H Q => ∃ a xs, x = .ref a ∧ SqL K H a xs ∧ ∀ p, H p = none → Q (.ref p) (upd H p (.lst (cutV xs lo hi)))
theorem sl_list : SlR X (rSlL X.K) := by
  intro pins s σ H x v vl vu lo hi sl Q I rx hs pl pu h
  obtain ⟨a, xs, rfl, hx, q⟩ := h
  cases rx
  obtain ⟨its, r, ht, hz⟩ := I.list hx
  have hlen := r.length
  refine ⟨"list", _, slot_list_getitem.lookup, ht.isList.typeIs, ?_⟩
  refine wpAny_getItem_list_slice ht.isList hs pl pu .none (by simp) ?_ (by rw [List.size_toArray] <;> omega)
  rw [slicePick_cut, ← hlen]
  refine ⟨.ref s.heap.objs.size, _, I.laid (t' := s.toks) (o := .lst (cutV xs lo hi)) (fun b ob q => Heap.get?_push_of_some _ q) (Nat.le_refl _) ?_, rfl, q _ (I.hok.fresh (Nat.le_refl _))⟩
  exact ⟨Nat.le_trans (cutV_length xs lo hi) hz, _, 0, (r.drop (HT.sIx xs.length 0 lo)).take (HT.sIx xs.length xs.length hi - HT.sIx xs.length 0 lo), Heap.get?_push_size _ rfl⟩
theorem call_len_seq : CallR X (.builtin "len") (fun xs H Q => ∃ p ys, xs = [.ref p] ∧ (SqL X.K H p ys ∨ SqT X.K H p ys) ∧ Q (.int ys.length) H) := by
  intro pins s σ H xs us Q I r h
  obtain ⟨p, ys, rfl, hq, q⟩ := h
  obtain ⟨u, rfl, rx⟩ := vals1 r
  cases rx
  have hn := line63
  rcases hq with hq | hq
  · obtain ⟨its, r', pl, hz⟩ := I.list hq
    have hlen := r'.length
    exact Calls.call_len_list pl.isList (by simp only [List.size_toArray] <;> omega) ⟨.int ys.length, H, I.tok _, ⟨s.toks + 1, by rw [List.size_toArray, hlen]⟩, q⟩
  · obtain ⟨its, r', pl, hz⟩ := I.tuple hq
    have hlen := r'.length
    exact len_tuple pl (by simp only [List.size_toArray] <;> omega) ⟨.int ys.length, H, I.tok _, ⟨s.toks + 1, by rw [List.size_toArray, hlen]⟩, q⟩
theorem CallR.or {f : Value} {r r' : List V → Hp → VK → Prop} (h : CallR X f r) (h' : CallR X f r') : CallR X f (fun xs H Q => r xs H Q ∨ r' xs H Q) := by
  intro pins s σ H xs us Q I rs q
  rcases q with q | q
  · exact h pins s σ H xs us Q I rs q
  · exact h' pins s σ H xs us Q I rs q
def tyV (K : PySem.W.Frag) (T : String) (x : V) (H : Hp) : Prop := match x with
  | .str _ => T = "str"
  | .int _ => T = "int"
  | .ref p => (T = "list" ∧ ∃ xs, SqL K H p xs) ∨ (T = "tuple" ∧ ∃ o, K.lookup p = some o ∧ o.cls = .type "tuple" ∧ o.dict = none) ∨
      (T = "dict" ∧ ((∃ kvs, H p = some (.dK kvs)) ∨ ∃ kvs, H p = some (.dT kvs))) ∨ (T = "set" ∧ ∃ S n, H p = some (.set S n))
  | _ => False
theorem tyV_is {pins : List (Addr × Obj)} {σ : St} {H : Hp} {s : Shared} {T : String} {x : V} {v : Value} (I : Inv X pins σ H s) (r : RelV x v) (ty : tyV X.K T x H) :
    s.TypeIs v T ∧ ∀ a, v = .ref a → ∃ ob, s.heap.get? a = some ob ∧ ob.dict = none := by
  cases x with
  | str z =>
    obtain ⟨t, rfl⟩ := r
    cases (show T = "str" from ty)
    exact ⟨typeIs_str s z t, fun _ e => nomatch e⟩
  | int i =>
    obtain ⟨t, rfl⟩ := r
    cases (show T = "int" from ty)
    exact ⟨typeIs_int s i t, fun _ e => nomatch e⟩
  | ref p =>
    cases r
    rcases ty with ⟨rfl, xs, hq⟩ | ⟨rfl, o, hk, hc, hd⟩ | ⟨rfl, hk⟩ | ⟨rfl, S, n, hk⟩
    · obtain ⟨its, _, pl, _⟩ := I.list hq
      refine ⟨pl.isList.typeIs, fun a e => ?_⟩
      cases e
      obtain ⟨o, n, e, c, hd, _⟩ := pl
      exact ⟨o, e, hd⟩
    · refine ⟨⟨o, I.kIn p o hk, hc⟩, fun a e => ?_⟩
      cases e
      exact ⟨o, I.kIn _ o hk, hd⟩
    · have z : ∃ o, s.heap.get? p = some o ∧ o.ExactDict := by
        rcases hk with ⟨kvs, hk⟩ | ⟨kvs, hk⟩
        · obtain ⟨_, _, _, _, o, _, _, e, ex, _⟩ := I.hok p _ hk
          exact ⟨o, e, ex⟩
        · obtain ⟨_, _, _, _, o, _, _, e, ex, _⟩ := I.hok p _ hk
          exact ⟨o, e, ex⟩
      obtain ⟨o, e, ex⟩ := z
      refine ⟨⟨o, e, ex.1⟩, fun a e2 => ?_⟩
      cases e2
      exact ⟨o, e, ex.2.1⟩
    · obtain ⟨o, _, _, _, e, ex, _⟩ := I.hok p _ hk
      refine ⟨⟨o, e, ex.1⟩, fun a e2 => ?_⟩
      cases e2
      exact ⟨o, e, ex.2.1⟩
  | _ => exact False.elim ty
def tBM0 (K : PySem.W.Frag) (T : String) (r : V → List V → Hp → VK → Prop) (to : TE) : TE := fun σ H Q => to σ H fun x H1 => tyV K T x H1 ∧ r x [] H1 Q
def tBM (K : PySem.W.Frag) (T : String) (r : V → List V → Hp → VK → Prop) (to : TE) (t : TA) : TE := fun σ H Q => to σ H fun x H1 => tyV K T x H1 ∧ t σ H1 fun xs H2 => r x xs H2 Q
variable {o e : Expr} {es : List Expr} {to : TE} {t : TA} {name : Str} {apos cpos : Pos} {T id : String} {r : V → List V → Hp → VK → Prop}
theorem pe_bm0 (pa : PlainAttrs T) (slot : Slot T name id) (hty : typeOf (.builtin id) = pure (.type "method_descriptor")) (hm : MtR X id r) (ho : PE X o to)
    (hbase : attributeBase o name X.env (eval o X.env) = eval o X.env := by rfl) (hline : (apos.endLine == cpos.line) = true := by rfl) : PE X (.Call (.Attribute o name apos) [] [] cpos) (tBM0 X.K T r to) := by
  intro pins s σ H Q I h
  refine wpAny_Call_method0_late hbase hline (thn (ho pins s σ H _ I h) fun v s1 ⟨x, H1, I1, r1, ty, q1⟩ => ?_)
  obtain ⟨h1, h2⟩ := tyV_is I1 r1 ty
  exact ⟨T, id, pa, slot, hty, h1, h2, Calls.callWith_builtin rfl (PySem.evalArgs_none (hm pins s1 σ H1 x [] v [] Q I1 r1 .nil q1))⟩
theorem pe_bm (pa : PlainAttrs T) (slot : Slot T name id) (hty : typeOf (.builtin id) = pure (.type "method_descriptor")) (hm : MtR X id r) (ho : PE X o to) (ha : PA X (e :: es) t)
    (hbase : attributeBase o name X.env (eval o X.env) = eval o X.env := by rfl)
    (hfew : ((backTo cpos (starEach (e :: es) X.env)).all (fun x => !x.1) && (backToKw cpos (keywordEach [] X.env)).all (fun x => x.1.isSome)
      && decide ((e :: es).length + ([] : List Keyword).length + (if ([] : List Keyword).isEmpty then 0 else 1) < 30)) = true := by rfl)
    (hline : (apos.endLine == cpos.line) = true := by rfl) (hs : starEach (e :: es) X.env = (false, eval e X.env) :: starEach es X.env := by rfl) (hplain : (backTo cpos (starEach es X.env)).any (·.1) = false := by rfl) :
    PE X (.Call (.Attribute o name apos) (e :: es) [] cpos) (tBM X.K T r to t) := by
  intro pins s σ H Q I h
  refine wpAny_Call_method_late hbase hfew hline rfl (thn (ho pins s σ H _ I h) fun v s1 ⟨x, H1, I1, r1, ty, q1⟩ => ?_)
  obtain ⟨h1, h2⟩ := tyV_is I1 r1 ty
  refine ⟨T, id, pa, slot, hty, h1, h2, ?_⟩
  have hA := ha cpos pins s1 σ H1 _ I1 q1
  rw [hs] at hA ⊢
  refine Calls.callWith_builtin (by show (false || (backTo cpos (starEach es X.env)).any (·.1)) = false; rw [hplain] <;> rfl) (Calls.evalArgs_plain ?_)
  exact thn hA fun us s2 ⟨vs, H2, I2, r2, q2⟩ => hm pins s2 σ H2 x vs v us Q I2 r1 r2 q2
/- xs.append(e), list.index on a module's tuple .. are MtR facts of 06m -/
end
end L2
namespace L2
open PySem PySem.Spec PyProof.Rows
def MtM (X : Cx) (id : String) (r : V → List V → Hp → VK → Prop) : Prop :=
  ∀ (pins : List (Addr × Obj)) (s : Shared) (σ : St) (H : Hp) (x : V) (xs : List V) (v : Value) (us : List Value) (Q : VK), Inv X pins σ H s → RelV x v → Vals xs us → r x xs H Q →
    wpAny (model X.prog X.w) X.A (call (.builtin id) (v :: us)) (EP X pins σ Q) X.xe s
theorem Vals.one : ∀ {x : V} {us : List Value}, Vals [x] us → ∃ u, us = [u] ∧ RelV x u
  | _, _, .cons r .nil => ⟨_, rfl, r⟩
theorem Vals.two : ∀ {x y : V} {us : List Value}, Vals [x, y] us → ∃ u v, us = [u, v] ∧ RelV x u ∧ RelV y v
  | _, _, _, .cons r (.cons q .nil) => ⟨_, _, rfl, r, q⟩
theorem Vals.zero : ∀ {us : List Value}, Vals [] us → us = []
  | _, .nil => rfl
theorem Vals.reverse {xs : List V} {us : List Value} (h : Vals xs us) : Vals xs.reverse us.reverse := by
  induction h with
  | nil => exact .nil
  | cons r t ih => rw [List.reverse_cons, List.reverse_cons]; exact Vals.append ih (.cons r .nil)
theorem Vals.rep {xs : List V} {us : List Value} (h : Vals xs us) : ∀ k : Nat, Vals (List.replicate k xs).flatten (List.replicate k us).flatten
  | 0 => .nil
  | k + 1 => by
    rw [List.replicate_succ, List.replicate_succ, List.flatten_cons, List.flatten_cons]
    exact Vals.append h (Vals.rep h k)
theorem foldl_rep (its : List Value) : ∀ (k : Nat) (acc : List Value),
    List.foldl (fun x1 x2 => x1 ++ x2) acc.toArray (List.replicate k its.toArray) = (acc ++ (List.replicate k its).flatten).toArray
  | 0, acc => by simp
  | k + 1, acc => by
    have e : acc.toArray ++ its.toArray = (acc ++ its).toArray := by simp
    have e2 : (acc ++ its) ++ (List.replicate k its).flatten = acc ++ (List.replicate (k + 1) its).flatten := by
      rw [List.replicate_succ, List.flatten_cons, List.append_assoc]
    rw [← e2, ← foldl_rep its k (acc ++ its), ← e, List.replicate_succ, List.foldl_cons]
section
variable {X : Cx} {pins : List (Addr × Obj)} {σ : St} {H : Hp} {s : Shared} {l b : Addr} {xs ys zs : List V}
theorem Inv.lset {its its' : List Value} {n : Nat} {f : Array Value → Array Value} {t' : Nat} (I : Inv X pins σ H s) (hH : H l = some (.lst xs))
    (e : s.heap.get? l = some { cls := .type "list", data := .seq its.toArray n }) (hf : f its.toArray = its'.toArray) (hv : Vals ys its') (hz : ys.length ≤ sizeLine) :
    Inv X pins σ (upd H l (.lst ys)) { s with heap := s.heap.update l (Obj.mapSeq f), toks := t' } := by
  have q := PySem.IsL.update e f
  rw [hf] at q
  refine I.write (x := l) (e := l) (by rw [hH]; exact trivial) (.inl rfl) (fun b' u hb hu => (Heap.get?_update_other s.heap (Obj.mapSeq f) (Ne.symm hb)).trans hu) ⟨_, q⟩ ?_
  exact ⟨hz, its', _, hv, q⟩
theorem Inv.lnew {its : List Value} {t' : Nat} (I : Inv X pins σ H s) (hv : Vals ys its) (hz : ys.length ≤ sizeLine) :
    Inv X pins σ (upd H s.heap.objs.size (.lst ys)) { s with heap := s.heap.push { cls := .type "list", data := .seq its.toArray }, toks := t' } :=
  I.laid (fun _ _ q => Heap.get?_push_of_some _ q) (Nat.le_refl _) ⟨hz, its, 0, hv, Heap.get?_push_size _ rfl⟩
theorem Inv.fresh (I : Inv X pins σ H s) : H s.heap.objs.size = none := I.hok.fresh (Nat.le_refl _)
theorem Inv.lstM (I : Inv X pins σ H s) (hH : H l = some (.lst xs)) : xs.length ≤ sizeLine ∧ ∃ (its : List Value) (n : Nat), Vals xs its ∧ xs.length = its.length ∧ s.heap.get? l = some { cls := .type "list", data := .seq its.toArray n } := by
  obtain ⟨z, its, n, r, e⟩ := I.hok l _ hH
  exact ⟨z, its, n, r, r.length, e⟩
end
section
variable {X : Cx}
def rAppend : V → List V → Hp → VK → Prop := fun x vs H Q => ∃ l xs y, x = .ref l ∧ vs = [y] ∧ H l = some (.lst xs) ∧ xs.length < sizeLine ∧ Q .non (upd H l (.lst (xs ++ [y])))
theorem mt_append : MtM X "list.append" rAppend := by
  intro pins s σ H x vs v us Q I rx rv h
  obtain ⟨l, xs, y, rfl, rfl, hH, hz, q⟩ := h
  cases rx
  obtain ⟨u, rfl, ru⟩ := rv.one
  obtain ⟨z, its, n, r, hl, e⟩ := I.lstM hH
  refine call_meets F.slot_list_append ⟨_, e, rfl⟩ F.entry_list_append (F.args_list_append_2 _ _) (PySem.list_append l its.toArray n u (by rw [List.size_toArray]; omega)) ⟨e, ?_⟩
  refine ⟨.non, _, I.lset (its' := its ++ [u]) hH e (by simp) (r.append (.cons ru .nil)) ?_, rfl, q⟩
  rw [List.length_append, List.length_singleton]
  omega
def rReverse : V → List V → Hp → VK → Prop := fun x vs H Q => ∃ l xs, x = .ref l ∧ vs = [] ∧ H l = some (.lst xs) ∧ Q .non (upd H l (.lst xs.reverse))
theorem mt_reverse : MtM X "list.reverse" rReverse := by
  intro pins s σ H x vs v us Q I rx rv h
  obtain ⟨l, xs, rfl, rfl, hH, q⟩ := h
  cases rx
  have hus := rv.zero
  subst hus
  obtain ⟨z, its, n, r, hl, e⟩ := I.lstM hH
  refine call_meets F.slot_list_reverse ⟨_, e, rfl⟩ F.entry_list_reverse (F.args_list_reverse_1 _) (AutoSeq1.list_reverse_list_0 l its.toArray n (by rw [List.size_toArray]; omega)) ⟨e, ?_⟩
  refine ⟨.non, _, I.lset (its' := its.reverse) hH e (by simp) r.reverse ?_, rfl, q⟩
  rw [List.length_reverse]
  omega
theorem len_rep {α : Type} (xs : List α) (k : Nat) : (List.replicate k xs).flatten.length = k * xs.length := by
  induction k with
  | zero => simp
  | succ k ih => rw [List.replicate_succ, List.flatten_cons, List.length_append, ih, Nat.succ_mul, Nat.add_comm]
end
section
variable {prog : Program} {w : World} {A : Around} {E : Value → Shared → Prop} {s : Shared}
end
section
variable {X : Cx}
end
end L2
namespace Att
open PySem PySem.W PySem.Calls PyProof.Rows
theorem ints_of_wellAll {P : Params} {h : Heap} : ∀ (ns : List Int) (vs : List Value), WellAll P h vs (ns.map WData.int) → IntsAre vs ns := by
  intro ns
  induction ns with
  | nil =>
    intro vs w
    rw [List.map_nil] at w
    cases w
    exact .nil
  | cons n ns ih =>
    intro vs w
    rw [List.map_cons] at w
    cases w with
    | cons a b =>
      cases a
      exact .cons _ _ (ih _ b)
theorem script_of {l : OpenLaw} {n : Nat} (hn : l.most = some n) {P : Params} {h : Heap} {args : List WData} {vals : List Value}
    (hpre : l.row.toRowW.claim.pre args = true) (hwl : WellAll P h vals args) :
    ∃ a vs ns, vals = [Value.ref a] ∧ args = [WData.list (ns.map WData.int)] ∧ h.get? a = some { cls := .type "list", data := .seq vs.toArray } ∧ IntsAre vs ns ∧ ns.length ≤ n := by
  have hsh : WShape.hasAll [] args [.list .int] = true := (pre_splitW hpre).1
  have hc : l.pre.holds [] { args := args } = true := (pre_splitW hpre).2
  obtain ⟨d, r, rfl, h1, h2⟩ := hasAllW_cons hsh
  obtain rfl := hasAllW_nil h2
  obtain ⟨xs, rfl, h3⟩ := hasW_list h1
  obtain ⟨ns, rfl⟩ := items_int h3
  have hlen : ns.length ≤ n := by
    unfold OpenLaw.pre at hc
    have h4 : (WTm.not (.lt (.lit (.int (n : Int))) (.len (.arg 0)))).holds [] { args := [.list (ns.map .int)] } = true := by
      have h4 := (holds_andW hc).1
      rw [hn] at h4
      exact h4
    have h5 := condW_of h4 (w_not (w_lt w_lit (w_len_list (w_arg rfl))))
    rw [List.length_map] at h5
    refine Nat.le_of_not_lt fun q => ?_
    have q' : (n : Int) < ((ns.length : Nat) : Int) := by omega
    first
      | (rw [decide_eq_true q'] at h5; exact absurd h5 (by decide))
      | (simp at h5; omega)
  cases hwl with
  | cons w1 w2 =>
    cases w2
    cases w1 with
    | list ho hall => exact ⟨_, _, ns, rfl, rfl, ho, ints_of_wellAll ns _ hall, hlen⟩
theorem post_true (l : OpenLaw) (args : List WData) : l.row.toRowW.claim.post args (.bool true) args = true :=
  postW_of (r := l.row.toRowW) (X := (true == true))
    (show WShape.has [] (.bool true) .bool = true by first | rfl | decide | simp [WShape.has, WShape.arms, WShape.armsAll])
    (show (WTm.eq .res (.lit (.bool true))).value [] { args := args, res := some (.bool true), after := args } = some (.bool (true == true)) from w_eq_bool (w_res rfl) w_lit) rfl
theorem attach_call {l : OpenLaw} {n : Nat} {q : Program} {loose : List Str} {XP : (Str → Option Value) → Heap → Prop} {YP : World → Heap → Prop} {d : DefRec}
    (hn : l.most = some n) (hdf : d.params.defaults = [])
    (call : ∀ (w : World) (s₀ s₁ : Shared) (mg mb : Str → Option Value) (fa : Addr) (o : Obj) (pm cd doc : Value) (a : Addr) (vs : List Value) (ns : List Int),
      Ground q loose [] XP w s₀ mg mb s₁.heap → YP w s₁.heap →
      s₁.heap.get? fa = some o → o.data = .func (docDef d.name d.params d.body d.scope pm cd doc) → s₁.heap.CodeRec cd d.name → mg d.name = some (.ref fa) →
      s₁.heap.get? a = some { cls := .type "list", data := .seq vs.toArray } → IntsAre vs ns → ns.length ≤ n → s₁.gens = #[] →
      codeAny (model l.prog w) callerA (.call (.ref fa) ⟨[.ref a], []⟩) (fun r s' => r = .ok (.ret (.bool true)) ∧ OldK s₁.heap s'.heap ∧ s'.os = s₁.os ∧ AllBare s'.gens) s₁) :
    WalkO q loose XP YP l.row.toRowW d [] (fun f vs => PySem.call f vs) := by
  intro w s₀ s₁ mg mb G Y fa o pm cd doc dV kV ho hd hcd hD hmg hg args vals as hpre hlay hrd hwl hlo
  obtain rfl : dV = .none := Dflts.none hD hdf
  obtain rfl : kV = .none := Dflts.noKw hD
  obtain ⟨a, vs, ns, rfl, rfl, hobj, hints, hlen⟩ := script_of hn hpre hwl
  refine enter_call (codeAny_mono (call w s₀ s₁ mg mb fa o pm cd doc a vs ns G Y ho (fd_plain hd) hcd hmg hobj hints hlen hg) fun r s' hq => ?_)
  obtain ⟨rfl, h2, h3, h4⟩ := hq
  exact ⟨.inl ⟨.bool true, .bool true, [], rfl, fun _ => rfl, .bool true, post_true l _, fun _ => ⟨List.Pairwise.nil, fun _ hm => (nomatch hm)⟩⟩, h2, h3, h4⟩
section
variable {prog : Program} {w : World} {A : Around} {E : Value → Shared → Prop} {s : Shared} {K : Frag}
def ledger (h : Heap) (L d : Addr) : List (Addr × Obj) := (List.range h.objs.size).filterMap fun a => if a = L ∨ a = d then none else (h.get? a).map fun o => (a, o)
end
end Att
namespace L2
open PySem PySem.Spec PyProof.Rows
theorem vals_ints : ∀ {vs : List Value} {ns : List Int}, IntsAre vs ns → Vals (ns.map V.int) vs
  | _, _, .nil => .nil
  | _, _, .cons n t h => .cons ⟨t, rfl⟩ (vals_ints h)
def Only (H : Hp) : Prop := ∀ b, H b = none ∨ ∃ o xs, H b = some (.frz o (.lst xs))
theorem law_call {P : Program} {w : World} {K : PySem.W.Frag} {mg mb : Str → Option Value} {CX : CXT} {k : Nat} {fa a : Addr} {fd : FuncData} {x : Str} {sp : Sp} {s₁ : Shared} {vs : List Value} {ns : List Int}
    (KX : K.In s₁.heap) (hns : s₁.heap.Ns mainGlobals mg) (hb : s₁.heap.Ns builtinsNs mb) (hbb : ∀ x : Str, x ≠ "__name__" → mb x = bootBuiltins x) (hlim : s₁.heap.NoLimit) (hg : s₁.gens = #[])
    (ha : s₁.heap.get? a = some { cls := .type "list", data := .seq vs.toArray }) (hi : IntsAre vs ns) (hl : ns.length ≤ sizeLine) (hr : Room k callerA)
    (F : ∀ base : Heap, K.In base → base.Ns mainGlobals mg → FnOk P w K mg base CX k fa fd [x] sp) (hbind : ∀ (s : Shared) (u : Value), BindsTo s fd ⟨[u], []⟩ [(x, u)])
    (hsp : ∀ H : Hp, Only H → SqL K H a (ns.map V.int) → sp [.ref a] H (fun v _ => v = .bl true) fun _ _ _ => False)
    (hCX : ∀ H e s', CX [] H s₁ (fun _ _ _ => False) e s' → False) :
    codeAny (model P w) callerA (.call (.ref fa) ⟨[.ref a], []⟩) (fun r s' => r = .ok (.ret (.bool true)) ∧ OldK s₁.heap s'.heap ∧ s'.os = s₁.os ∧ AllBare s'.gens) s₁ := by
  have rv := vals_ints hi
  have lenV := hi.length
  have core : ∀ H : Hp, Only H → SqL K H a (ns.map V.int) → HOk P w H s₁.heap → (∀ b, H b ≠ none → b = a) → (H a ≠ none → K.lookup a = none) →
      codeAny (model P w) callerA (.call (.ref fa) ⟨[.ref a], []⟩) (fun r s' => r = .ok (.ret (.bool true)) ∧ OldK s₁.heap s'.heap ∧ s'.os = s₁.os ∧ AllBare s'.gens) s₁ := by
    intro H hO hS hok hA hK
    have base_of : ∀ {b : Addr} {o : Obj}, s₁.heap.get? b = some o → H b = none → (hidT s₁.heap H).get? b = some o := fun e n => hidT_get e n
    have noA : ∀ {b : Addr} {o : Obj} {es : Array DictEntry} {ep : Nat}, s₁.heap.get? b = some o → o.data = .dict es ep → H b = none := fun {b o es ep} e d => by
      cases q : H b with
      | none => rfl
      | some u =>
        have e' : b = a := hA b (by rw [q]; simp)
        subst e'
        rw [ha] at e; cases e
        have d' : Data.seq vs.toArray _ = Data.dict es ep := d
        cases d'
    have nsK : ∀ {b : Addr} {m : Str → Option Value}, s₁.heap.Ns b m → (hidT s₁.heap H).Ns b m := fun {b m} ⟨o, es, ep, e, d, r⟩ => ⟨o, es, ep, base_of e (noA e d), d, r⟩
    have hKb : K.In (hidT s₁.heap H) := fun b o e => base_of (KX b o e) (by
      cases q : H b with
      | none => rfl
      | some u =>
        have e' : b = a := hA b (by rw [q]; simp)
        subst e'
        rw [hK (by rw [q]; simp)] at e; cases e)
    have hM : Mod K mg (hidT s₁.heap H) := ⟨hKb, nsK hns, ⟨mb, nsK hb, hbb⟩, let ⟨mc, h1, h2⟩ := hlim; ⟨mc, nsK h1, h2⟩⟩
    have e0 : Env0 P w K mg (hidT s₁.heap H) callerA [] s₁ H := ⟨rfl, hM, fun b o e => of_hidT e, Nat.le_of_eq (hidT_size _ _), trivial, fun b hb => absurd (show b ∈ ([] : List Addr) from hb) (by simp), hok, .of_eq hg⟩
    refine codeAny_mono ((F _ hKb (nsK hns)).run callerA [] s₁ H ⟨[.ref a], []⟩ [.ref a] [.ref a] _ _ hr e0 (hbind s₁ (.ref a)) (.cons rfl .nil) (hsp H hO hS)) fun r s' h => ?_
    cases r with
    | error e => exact (hCX H e s' h).elim
    | ok fl =>
      cases fl with
      | next => exact False.elim h
      | brk => exact False.elim h
      | cont => exact False.elim h
      | ret u =>
        obtain ⟨v, H', os, bare, un, hok', r', q⟩ := h
        have q' : v = .bl true := q
        subst q'
        obtain rfl : u = Value.bool true := r'
        refine ⟨rfl, OldK.of_keep fun b o e => ?_, os, bare⟩
        cases q : H b with
        | none => exact un.keep b o e q (by intro z; exact absurd (show b ∈ ([] : List Addr) from z) (by simp)) (by simp)
        | some u =>
          rcases hO b with z | ⟨ob, xs, z⟩
          · rw [q] at z; cases z
          · have z2 := un.frzs b ob _ z
            obtain ⟨e1, _⟩ := hok b _ z
            obtain ⟨e2, _⟩ := hok' b _ z2
            rw [e] at e1; cases e1
            exact e2
  cases hk : K.lookup a with
  | some o =>
    have e := KX a o hk
    rw [ha] at e
    cases e
    refine core (fun _ => none) (fun _ => .inl rfl) (.inr ⟨_, vs.toArray, _, hk, rfl, rfl, rfl, by rw [List.size_toArray, lenV]; exact hl, by simpa using rv⟩) (fun b u z => by have z' : (none : Option HO) = some u := z; cases z') (fun b z => absurd rfl z) fun z => absurd rfl z
  | none =>
    refine core (fun b => if b = a then some (.frz { cls := .type "list", data := .seq vs.toArray } (.lst (ns.map V.int))) else none) (fun b => ?_) (.inl (.inr ⟨{ cls := .type "list", data := .seq vs.toArray }, if_pos rfl⟩)) (fun b u z => ?_) (fun b z => ?_) fun _ => hk
    · by_cases hb : b = a
      · exact .inr ⟨_, _, if_pos hb⟩
      · exact .inl (if_neg hb)
    · by_cases hb : b = a
      · have z' := (if_pos hb).symm.trans z
        cases z'
        subst hb
        exact ⟨ha, by rw [List.length_map]; exact hl, vs, _, rv, ha⟩
      · have z' := (if_neg hb).symm.trans z
        cases z'
    · by_cases hb : b = a
      · exact hb
      · exact absurd (if_neg hb) z
end L2
namespace L2
open PySem PySem.Spec PyProof.Rows
abbrev KOf {K : PySem.W.Frag} {h : Heap} (_ : K.In h) : PySem.W.Frag := K
theorem walk_of {l : PySem.W.OpenLaw} {n k : Nat} {q : Program} {loose : List Str} {XP : (Str → Option Value) → Heap → Prop} {YP : World → Heap → Prop} {d : DefRec} {K : Params → PySem.W.Frag} {CX : World → CXT} {sp : World → Sp} {x : Str}
    (hn : l.most = some n) (hn2 : n ≤ sizeLine) (hdf : d.params.defaults = []) (hr : Room k callerA)
    (hY : ∀ (w : World) (h : Heap), YP w h → (K w.params).In h)
    (F : ∀ (w : World) (mg : Str → Option Value) (fa : Addr) (h : Heap), (K w.params).In h → h.Ns mainGlobals mg → mg d.name = some (.ref fa) →
      ∃ fd : FuncData, (∀ (s : Shared) (u : Value), BindsTo s fd ⟨[u], []⟩ [(x, u)]) ∧
        ∀ base : Heap, (K w.params).In base → base.Ns mainGlobals mg → FnOk l.prog w (K w.params) mg base (CX w) k fa fd [x] (sp w))
    (hsp : ∀ (w : World) (H : Hp) (a : Addr) (ns : List Int), ns.length ≤ n → Only H → SqL (K w.params) H a (ns.map V.int) → sp w [.ref a] H (fun v _ => v = .bl true) fun _ _ _ => False)
    (hCX : ∀ (w : World) (H : Hp) (s : Shared) (e : Value) (s' : Shared), CX w [] H s (fun _ _ _ => False) e s' → False) :
    PySem.W.WalkO q loose XP YP l.row.toRowW d [] (fun f vs => PySem.call f vs) := by
  refine Att.attach_call hn hdf fun w s₀ s₁ mg mb fa o pm cd doc a vs ns G Y ho hd hcd hmg hobj hints hlen hg => ?_
  have KX := hY w _ Y
  obtain ⟨fd, hb, hF⟩ := F w mg fa _ KX G.T.g hmg
  exact law_call KX G.T.g G.T.b G.T.builtins G.T.nolimit hg hobj hints (Nat.le_trans hlen hn2) hr hF hb (fun H hO hS => hsp w H a ns hlen hO hS) fun H e s' => hCX w H s₁ e s'
end L2
/- THE LAST THEOREM (shape; LID, My.* are yours):
   My.Adr: a structure of the addresses that your layer names (classes, functions); My.Txt K t: a structure (Prop) of the equations over K;
   My.txt_mk : {K} {implicit addresses ..} (e1 : nsIn K mainGlobals "law" = some (some (.ref f))) (e2 : K.lookup f = some ⟨oc, od, .func (fnOf "law" "law" params body scope dV kV doc pm an cdv ct), sl⟩) (e3 : codeIn K cdv "law" = true) .. : ∃ t, My.Txt K t
set_option maxRecDepth 100000 in
set_option maxHeartbeats 0 in
theorem PySem.Challenge.cw_LID_holds : PySem.Challenge.rw_LID.Holds := by
  w_on; o_law; k_head; (case hw => w_witness2)
  k_fill
  refine L2.walk_of (l := PySem.Challenge.rw_LID) (n := 63) (k := 40) (x := "script") (CX := fun w => ..) (sp := fun _ => My.sp_law) rfl (by decide) rfl ⟨rfl, by decide, by decide⟩ (fun w h Y => PySem.W.kIn_of Y) ?F ?S ?C
  case F =>
    intro w mg fa h KX G hmg
    have T : ∃ t, My.Txt (L2.KOf KX) t := by
      dsimp only [L2.KOf]                          -- K must stand as «<heap const> w.params» for k_is
      refine' My.txt_mk ?e1 ?e2 ?e3 ..
      (case e1 => PySem.W.k_is)                    -- in the order: a name -> its address -> its object -> its parts
      (case e2 => PySem.W.k_is)
      ..
    obtain ⟨t, T⟩ := T
    have e0 := hmg.symm.trans (PySem.W.mg_of KX G T.law)
    cases e0                                       -- fa is the law's own address
    exact ⟨_, fun s u => .of_eq rfl, fun base kb nb => My.law_fn T kb nb⟩     -- if «.of_eq rfl» comes too early: refine' ⟨_, ?b, fun base kb nb => My.law_fn T kb nb⟩; exact fun s u => .of_eq rfl
  case S => exact fun w H a ns hl hO hS => ..
  case C => exact ..
(the tactic k_is has no namespace: write k_is) -/
/-! SHORT WORDS over the layer: a def of the text, its body, what a loop and a test want. -/
namespace L2
open PySem PySem.Spec PyProof.Rows
def defArgs (s : Stmt) : Arguments := match s with
  | .FunctionDef _ a _ _ _ _ _ _ _ _ => a
  | _ => { posonlyargs := [], args := [], vararg := none, kwonlyargs := [], kw_defaults := [], kwarg := none, defaults := [] }
def defBody (s : Stmt) : List Stmt := match s with
  | .FunctionDef _ _ b _ _ _ _ _ _ _ => b
  | _ => []
def defScope (s : Stmt) : Scope := match s with
  | .FunctionDef _ _ _ _ _ _ sc _ _ _ => sc
  | _ => { kind := .function, names := [], isGenerator := false, isCoroutine := false }
abbrev CX0 : CXT := fun _ _ _ _ _ _ => False
abbrev E0 : XK := fun _ _ _ => False
structure Fun (K : PySem.W.Frag) (x qual : Str) (st : Stmt) (f : Addr) (fd : FuncData) : Prop where
  ex : ∃ (oc : Value) (od : Option Addr) (kV doc pm : Value) (an : Option Addr) (cdv ct : Value) (osl : Array (Option Value)),
    fd = PySem.W.fnOf x qual (defArgs st) (defBody st) (defScope st) .none kV doc pm an cdv ct ∧ K.lookup f = some ⟨oc, od, .func fd, osl⟩ ∧ PySem.W.codeIn K cdv qual = true
  kp : PySem.W.keepIn K (.ref f) = true
section
variable {P : Program} {w : World} {K : PySem.W.Frag} {mg : Str → Option Value} {base : Heap}
theorem Fun.ok {x qual : Str} {st : Stmt} {f : Addr} {fd : FuncData} {N ps : List Str} {k : Nat} {sp : Sp} (F : Fun K x qual st f fd) (S : FnScope N ps (defScope st)) (len : ∀ vs H Q E, sp vs H Q E → vs.length = ps.length)
    (hbody : ∀ (cdv : Value) (A : Around) (outer : List Env) (s : Shared) (H : Hp) (vs : List V) (Q : VK) (E : XK), Room k (A.deeper (envOfC qual (defScope st) s.heap.objs.size f cdv)) → sp vs H Q E →
      ∃ t, PSs (cxOf CX0 P w K mg base N qual (defScope st) f cdv A outer s H E).nox (defBody st) t ∧ t { nx := fun _ H' => Q .non H', rt := Q } (start N vs) H) : FnOk P w K mg base CX0 (k + 1) f fd ps sp := by
  obtain ⟨oc, od, kV, doc, pm, an, cdv, ct, osl, rfl, lk, hcd⟩ := F.ex
  refine fn_of lk hcd S len fun A outer s H vs Q E hr hsp => ?_
  obtain ⟨t, h, q⟩ := hbody cdv A outer s H vs Q E hr hsp
  exact ⟨t, h.nox, q⟩
theorem Fun.binds {x qual : Str} {st : Stmt} {f : Addr} {fd : FuncData} {ps : List Str} (F : Fun K x qual st f fd)
    (h : ∀ (kV doc pm : Value) (an : Option Addr) (cdv ct : Value) (us : List Value), us.length = ps.length → bindArgs (PySem.W.fnOf x qual (defArgs st) (defBody st) (defScope st) .none kV doc pm an cdv ct) ⟨us, []⟩ = pure (ps.zip us)) : Binds K fd ps [] := by
  obtain ⟨oc, od, kV, doc, pm, an, cdv, ct, osl, rfl, lk, hcd⟩ := F.ex
  exact .all (h kV doc pm an cdv ct)
theorem fun_mk {x qual : Str} {st : Stmt} {f : Addr} {oc : Value} {od an : Option Addr} {osl : Array (Option Value)} {kV doc pm cdv ct : Value} (l : K.lookup f = some ⟨oc, od, .func (PySem.W.fnOf x qual (defArgs st) (defBody st) (defScope st) .none kV doc pm an cdv ct), osl⟩)
    (c : PySem.W.codeIn K cdv qual = true) (k : PySem.W.keepIn K (.ref f) = true) : Fun K x qual st f (PySem.W.fnOf x qual (defArgs st) (defBody st) (defScope st) .none kV doc pm an cdv ct) := ⟨⟨oc, od, kV, doc, pm, an, cdv, ct, osl, rfl, l, c⟩, k⟩
end
section
variable {X : Cx}
theorem pv (i : Nat) {x : Str} {pos : Pos} (hN : X.N[i]? = some x := by rfl) (hv : Vis X.env.scope x := by first | exact Or.inl rfl | exact Or.inr (Or.inl rfl) | exact Or.inr (Or.inr rfl)) (hd : (x == ("__debug__" : Str)) = false := by decide)
    (hcd : (x == ("__classdict__" : Str)) = false := by decide) : PE X (.Name x pos) (tVar i) := pe_var hN hv hd hcd
end
theorem iteF {A B : Prop} (h : B) : if false = true then A else B := by
  rw [if_neg Bool.false_ne_true]
  exact h
theorem iteT {A B : Prop} (h : A) : if true = true then A else B := by
  rw [if_pos rfl]
  exact h
def Same (H H' : Hp) : Prop := ∀ b o, H b = some o → H' b = some o
theorem Same.refl (H : Hp) : Same H H := fun _ _ h => h
theorem Same.trans {H H1 H2 : Hp} (a : Same H H1) (b : Same H1 H2) : Same H H2 := fun c o h => b c o (a c o h)
theorem Same.free {H H' : Hp} (e : Same H H') {l : Addr} (h : H' l = Option.none) : H l = Option.none := by
  cases q : H l with
  | none => rfl
  | some o =>
    rw [e l o q] at h
    cases h
theorem Same.seq {K : PySem.W.Frag} {H H' : Hp} {a : Addr} {xs : List V} (e : Same H H') (h : SqL K H a xs) : SqL K H' a xs := by
  rcases h with (h | ⟨o, h⟩) | h
  · exact .inl (.inl (e _ _ h))
  · exact .inl (.inr ⟨o, e _ _ h⟩)
  · exact .inr h
end L2
set_option Elab.async false
set_option linter.all false
set_option maxRecDepth 100000
set_option maxHeartbeats 4000000
namespace L2
open PySem PySem.Spec PyProof.Rows
theorem bits_le {k : Int} {a : Nat} (h : k.natAbs < 2 ^ a) : Builtin.Int.intBits k ≤ a := by
  unfold Builtin.Int.intBits
  split
  · exact Nat.zero_le _
  · rename_i h0
    have hp : k.natAbs ≠ 0 := by
      intro z
      apply h0
      have : k = 0 := by omega
      subst this
      rfl
    have := (Nat.log2_lt hp).mpr h
    omega
theorem mulOk_of {i j : Int} {a b : Nat} (hi : i.natAbs < 2 ^ a) (hj : j.natAbs < 2 ^ b) (h : a + b ≤ 134217728) : IntMulOk i j := by
  have h1 := bits_le hi
  have h2 := bits_le hj
  have h3 : Builtin.Int.intTooBig ((Builtin.Int.intBits i : Int) + (Builtin.Int.intBits j : Int)) = false := by
    unfold Builtin.Int.intTooBig
    rw [bitsLine_eq]
    simp
    omega
  unfold IntMulOk
  rw [h3]
  simp
def Dv (j : Int) : Prop := j.natAbs.log2 < 9000
theorem Dv.of {j : Int} {a : Nat} (h : j.natAbs < 2 ^ a) (ha : a ≤ 9000) : Dv j := by
  unfold Dv
  by_cases h0 : j.natAbs = 0
  · rw [h0]; decide
  · exact Nat.lt_of_lt_of_le ((Nat.log2_lt h0).mpr h) ha
section
variable {X : Cx}
theorem op_mulB : OpR X (binaryOp .Mult) (rI IntMulOk fun i j => .int (i * j)) := opI fun _ _ _ _ _ _ _ hc q => mul_int q hc
end
mutual
/-- the value v is the thing d in the abstract heap -/
def Is (K : PySem.W.Frag) (H : Hp) : PyData → V → Prop
  | .none, v => v = .non
  | .bool b, v => v = .bl b
  | .int i, v => v = .int i
  | .str x, v => v = .str x
  | .list xs, v => ∃ a vs, v = .ref a ∧ SqL K H a vs ∧ IsAll K H xs vs
  | .tuple xs, v => ∃ a vs, v = .ref a ∧ SqT K H a vs ∧ IsAll K H xs vs
  | .dict _, _ => False
def IsAll (K : PySem.W.Frag) (H : Hp) : List PyData → List V → Prop
  | [], vs => vs = []
  | d :: ds, vs => ∃ v r, vs = v :: r ∧ Is K H d v ∧ IsAll K H ds r
end
section
variable {K : PySem.W.Frag} {H H' : Hp}
theorem Same.seqT {a : Addr} {xs : List V} (e : Same H H') (h : SqT K H a xs) : SqT K H' a xs := by
  rcases h with (h | ⟨o, h⟩) | h
  · exact .inl (.inl (e _ _ h))
  · exact .inl (.inr ⟨o, e _ _ h⟩)
  · exact .inr h
mutual
theorem Is.same (e : Same H H') : ∀ (d : PyData) (v : V), Is K H d v → Is K H' d v
  | .none, v, h => by simp only [Is] at h ⊢; exact h
  | .bool b, v, h => by simp only [Is] at h ⊢; exact h
  | .int i, v, h => by simp only [Is] at h ⊢; exact h
  | .str x, v, h => by simp only [Is] at h ⊢; exact h
  | .list xs, v, h => by
    simp only [Is] at h ⊢
    obtain ⟨a, vs, e1, h1, h2⟩ := h
    exact ⟨a, vs, e1, e.seq h1, IsAll.same e xs vs h2⟩
  | .tuple xs, v, h => by
    simp only [Is] at h ⊢
    obtain ⟨a, vs, e1, h1, h2⟩ := h
    exact ⟨a, vs, e1, e.seqT h1, IsAll.same e xs vs h2⟩
  | .dict _, v, h => by simp only [Is] at h
theorem IsAll.same (e : Same H H') : ∀ (ds : List PyData) (vs : List V), IsAll K H ds vs → IsAll K H' ds vs
  | [], vs, h => by simp only [IsAll] at h ⊢; exact h
  | d :: ds, vs, h => by
    simp only [IsAll] at h ⊢
    obtain ⟨v, r, e1, h1, h2⟩ := h
    exact ⟨v, r, e1, Is.same e d v h1, IsAll.same e ds r h2⟩
end
end
section
variable {X : Cx} {pins : List (Addr × Obj)} {σ : St} {H : Hp} {s : Shared}
mutual
theorem Is.reads (I : Inv X pins σ H s) : ∀ (d : PyData) (v : V) (u : Value), Is X.K H d v → RelV v u → ∃ as, Reads s.heap u d as
  | .none, v, u, h, r => by
    simp only [Is] at h; subst h
    cases (show u = Value.none from r)
    exact ⟨_, .none⟩
  | .bool b, v, u, h, r => by
    simp only [Is] at h; subst h
    cases (show u = Value.bool b from r)
    exact ⟨_, .bool b⟩
  | .int i, v, u, h, r => by
    simp only [Is] at h; subst h
    obtain ⟨t, rfl⟩ := (show ∃ t, u = Value.int i t from r)
    exact ⟨_, .int i t⟩
  | .str x, v, u, h, r => by
    simp only [Is] at h; subst h
    obtain ⟨t, rfl⟩ := (show ∃ t, u = Value.str x t from r)
    exact ⟨_, .str x t⟩
  | .list xs, v, u, h, r => by
    simp only [Is] at h
    obtain ⟨a, vs, rfl, h1, h2⟩ := h
    cases (show u = Value.ref a from r)
    obtain ⟨its, rv, ⟨o, n, ho, hc, _, hd⟩, _⟩ := I.list h1
    obtain ⟨as, ra⟩ := IsAll.reads I xs vs its h2 rv
    exact ⟨_, .list ho hc hd (by simpa using ra)⟩
  | .tuple xs, v, u, h, r => by
    simp only [Is] at h
    obtain ⟨a, vs, rfl, h1, h2⟩ := h
    cases (show u = Value.ref a from r)
    obtain ⟨its, rv, ⟨o, ho, hc, n, hd⟩, _⟩ := I.tuple h1
    obtain ⟨as, ra⟩ := IsAll.reads I xs vs its h2 rv
    exact ⟨_, .tuple ho hc hd (by simpa using ra)⟩
  | .dict _, v, u, h, r => by simp only [Is] at h
theorem IsAll.reads (I : Inv X pins σ H s) : ∀ (ds : List PyData) (vs : List V) (us : List Value), IsAll X.K H ds vs → Vals vs us → ∃ as, ReadsAll s.heap us ds as
  | [], vs, us, h, r => by
    simp only [IsAll] at h; subst h
    cases r
    exact ⟨_, .nil⟩
  | d :: ds, vs, us, h, r => by
    simp only [IsAll] at h
    obtain ⟨v, rr, rfl, h1, h2⟩ := h
    cases r with
    | cons r1 r2 =>
      obtain ⟨as, q1⟩ := Is.reads I d v _ h1 r1
      obtain ⟨bs, q2⟩ := IsAll.reads I ds rr _ h2 r2
      exact ⟨_, .cons q1 q2⟩
end
end
section
variable {X : Cx}
def rEqD (K : PySem.W.Frag) : R2 := fun x y H Q => ∃ d e, Is K H d x ∧ Is K H e y ∧ SeqAt.shaped d = true ∧ SeqAt.shaped e = true ∧ Q (.bl (PyData.eqv d e)) H
def rNeD (K : PySem.W.Frag) : R2 := fun x y H Q => ∃ d e, Is K H d x ∧ Is K H e y ∧ SeqAt.shaped d = true ∧ SeqAt.shaped e = true ∧ Q (.bl (!PyData.eqv d e)) H
theorem op_eqD (hu : X.A.units + 64 < cLine) : OpR X (compareOp .Eq) (rEqD X.K) := by
  intro pins s σ H x y v u Q I rx ry h
  obtain ⟨d, e, h1, h2, c1, c2, q⟩ := h
  obtain ⟨as, ra⟩ := Is.reads I d x v h1 rx
  obtain ⟨bs, rb⟩ := Is.reads I e y u h2 ry
  exact SeqAt.compareEq_shaped ra rb c1 c2 hu ⟨.bl _, H, I, rfl, q⟩
theorem op_neD (hu : X.A.units + 64 < cLine) : OpR X (compareOp .NotEq) (rNeD X.K) := by
  intro pins s σ H x y v u Q I rx ry h
  obtain ⟨d, e, h1, h2, c1, c2, q⟩ := h
  obtain ⟨as, ra⟩ := Is.reads I d x v h1 rx
  obtain ⟨bs, rb⟩ := Is.reads I e y u h2 ry
  exact SeqAt.compareNe_shaped ra rb c1 c2 hu ⟨.bl _, H, I, rfl, q⟩
end
end L2
set_option Elab.async false
set_option linter.all false
set_option maxRecDepth 100000
set_option maxHeartbeats 4000000
namespace L2
open PySem PySem.Spec PyProof.Rows
inductive Ty (K : PySem.W.Frag) (H : Hp) : V → Value → Prop where
  | non : Ty K H .non (.type "NoneType")
  | bl (x : Bool) : Ty K H (.bl x) (.type "bool")
  | int (i : Int) : Ty K H (.int i) (.type "int")
  | str (x : Str) : Ty K H (.str x) (.type "str")
  | lst {a : Addr} {xs : List V} (e : SqL K H a xs) : Ty K H (.ref a) (.type "list")
  | tup {a : Addr} {xs : List V} (e : SqT K H a xs) : Ty K H (.ref a) (.type "tuple")
def clsV : V → Value
  | .ty n => .type n
  | .ref a => .ref a
  | _ => .none
theorem clsV_of {y : V} {u : Value} (r : RelV y u) (h : clsV y ≠ .none) : u = clsV y := by
  cases y with
  | ty n => exact r
  | ref a => exact r
  | _ => exact absurd rfl h
section
variable {X : Cx}
theorem isi_ok {pins : List (Addr × Obj)} {σ : St} {H : Hp} {s : Shared} {A : Around} {E : Value → Shared → Prop} {Q : Value → Shared → Prop} {c : Value} {b : Bool} {x : V} {u t : Value} (I : Inv X pins σ H s) (rx : RelV x u) (ty : Ty X.K H x t) (e : PySem.W.kitOne X.K t c = some b) (h : ∀ tk, Q (.bool b) { s with toks := tk }) :
    wpAny (model X.prog X.w) A (call (.builtin "isinstance") [u, c]) Q E s := by
  cases ty with
  | non => cases (show u = Value.none from rx); exact PySem.W.kia_one PySem.W.kitx_none I.kIn True.intro e (fun z => nomatch z) h
  | bl y => cases (show u = Value.bool y from rx); exact PySem.W.kia_one PySem.W.kitx_bool I.kIn True.intro e (fun z => nomatch z) h
  | int i => obtain ⟨t, q⟩ := (show ∃ t, u = Value.int i t from rx); cases q; exact PySem.W.kia_one PySem.W.kitx_int I.kIn True.intro e (fun z => nomatch z) h
  | str y => obtain ⟨t, q⟩ := (show ∃ t, u = Value.str y t from rx); cases q; exact PySem.W.kia_one PySem.W.kitx_str I.kIn True.intro e (fun z => nomatch z) h
  | @lst a xs ea =>
    cases (show u = Value.ref a from rx)
    obtain ⟨its, _, ⟨o, n, ho, hc, _⟩, _⟩ := I.list ea
    exact PySem.W.kia_one PySem.W.kitx_list I.kIn ⟨o, ho, hc⟩ e (fun z => nomatch z) h
  | @tup a xs ea =>
    cases (show u = Value.ref a from rx)
    obtain ⟨its, _, ⟨o, ho, hc, _⟩, _⟩ := I.tuple ea
    exact PySem.W.kia_one PySem.W.kitx_tuple I.kIn ⟨o, ho, hc⟩ e (fun z => nomatch z) h
def rIsi (K : PySem.W.Frag) : List V → Hp → VK → Prop := fun xs H Q => ∃ x y t b, xs = [x, y] ∧ clsV y ≠ .none ∧ Ty K H x t ∧ PySem.W.kitOne K t (clsV y) = some b ∧ Q (.bl b) H
theorem call_isi : CallR X (.builtin "isinstance") (rIsi X.K) := by
  intro pins s σ H xs us Q I r h
  obtain ⟨x, y, t, b, rfl, hy, ty, e, q⟩ := h
  obtain ⟨u, v, rfl, ru, rv⟩ := vals2 r
  cases clsV_of rv hy
  exact isi_ok I ru ty e fun tk => ⟨.bl b, H, I.tok tk, rfl, q⟩
theorem pe_ty {x : Str} {n : String} {pos : Pos} (hg : Gl X x) (hm : X.mg x = none) (hv : bootBuiltins x = some (.type n)) (hn : x ≠ "__name__" := by decide) (hd : (x == ("__debug__" : Str)) = false := by decide) : PE X (.Name x pos) (tC (.ty n)) := pe_bltn hg hm hv rfl hn hd
end
end L2
set_option Elab.async false
set_option linter.all false
set_option maxRecDepth 100000
set_option maxHeartbeats 4000000
namespace L2
open PySem PySem.Spec PyProof.Rows
def clOf (cells : List (Str × Addr)) : List (Str × NameKind) → List (Str × Addr) → List (Str × Addr)
  | [], acc => acc
  | (n, k) :: r, acc => if k = .free then (match cells.lookup n with | some a => clOf cells r ((n, a) :: acc) | none => clOf cells r acc) else clOf cells r acc
theorem clOf_mem {cells : List (Str × Addr)} : ∀ {names : List (Str × NameKind)} {acc : List (Str × Addr)}, (∀ p ∈ acc, cells.lookup p.1 = some p.2) → ∀ p ∈ clOf cells names acc, cells.lookup p.1 = some p.2
  | [], acc, h, p, hp => h p hp
  | (n, k) :: r, acc, h, p, hp => by
    unfold clOf at hp
    split at hp
    · split at hp
      · rename_i a e
        exact clOf_mem (names := r) (acc := (n, a) :: acc) (fun q hq => by
          rcases List.mem_cons.mp hq with rfl | hq
          · exact e
          · exact h q hq) p hp
      · exact clOf_mem h p hp
    · exact clOf_mem h p hp
theorem clOf_acc {cells : List (Str × Addr)} : ∀ {names : List (Str × NameKind)} {acc : List (Str × Addr)}, ∀ p ∈ acc, p ∈ clOf cells names acc
  | [], acc, p, hp => hp
  | (n, k) :: r, acc, p, hp => by
    unfold clOf
    split
    · split
      · exact clOf_acc p (List.mem_cons_of_mem _ hp)
      · exact clOf_acc p hp
    · exact clOf_acc p hp
theorem clOf_has {cells : List (Str × Addr)} {x : Str} {a : Addr} (e : cells.lookup x = some a) : ∀ {names : List (Str × NameKind)} {acc : List (Str × Addr)}, (x, NameKind.free) ∈ names → (x, a) ∈ clOf cells names acc
  | (n, k) :: r, acc, h => by
    unfold clOf
    rcases List.mem_cons.mp h with h | h
    · cases h
      rw [if_pos rfl, e]
      exact clOf_acc _ (List.mem_cons_self ..)
    · split
      · split
        · exact clOf_has e h
        · exact clOf_has e h
      · exact clOf_has e h
theorem lookup_of_mem {α : Type} {x : Str} {a : α} : ∀ {l : List (Str × α)}, (x, a) ∈ l → ∃ b, l.lookup x = some b
  | (y, b) :: r, h => by
    by_cases e : (x == y) = true
    · exact ⟨b, by simp [List.lookup_cons, e]⟩
    · rcases List.mem_cons.mp h with h | h
      · cases h
        exact absurd (beq_self_eq_true _) e
      · obtain ⟨c, hc⟩ := lookup_of_mem h
        refine ⟨c, ?_⟩
        have e' : (x == y) = false := by simpa using e
        simp only [List.lookup_cons, e']
        exact hc
theorem closureFor_of {scope : Scope} {env : Env} (h : ∀ y ∈ scope.names, y.2 = .free → ∃ a, env.cells.lookup y.1 = some a) : closureFor scope env = pure (clOf env.cells scope.names []) := by
  have key : ∀ (names : List (Str × NameKind)) (acc : List (Str × Addr)), (∀ y ∈ names, y.2 = .free → ∃ a, env.cells.lookup y.1 = some a) →
      (forIn names acc (fun x r => match x with
        | (name, kind) => if (kind == NameKind.free) = true then do let a ← cellOf env name; pure (ForInStep.yield ((name, a) :: r)) else pure (ForInStep.yield r)) : Sem (List (Str × Addr))) = pure (clOf env.cells names acc) := by
    intro names
    induction names with
    | nil => intro acc _; rfl
    | cons p r ih =>
      intro acc hh
      obtain ⟨n, k⟩ := p
      rw [List.forIn_cons]
      by_cases hk : k = .free
      · subst hk
        obtain ⟨a, ea⟩ := hh (n, .free) (List.mem_cons_self ..) rfl
        have e1 : cellOf env n = pure a := by unfold cellOf; rw [ea]
        simp only [beq_self_eq_true, if_true, e1, pure_bind, clOf, ea]
        exact ih _ fun y hy => hh y (List.mem_cons_of_mem _ hy)
      · have hk' : (k == NameKind.free) = false := by simpa using hk
        simp only [hk', Bool.false_eq_true, if_false, pure_bind, clOf, hk]
        exact ih _ fun y hy => hh y (List.mem_cons_of_mem _ hy)
  unfold closureFor
  exact (bind_pure _).trans (key scope.names [] h)
theorem relabel_look {scope : Scope} {env : Env} {x : Str} {k : NameKind} : ∀ {names : List (Str × NameKind)},
    (names.map fun (n, k) => if (k == NameKind.free && env.scope.kind == .function && env.kindOf n == some .cell) then (n, NameKind.cell) else (n, k)).lookup x = some k →
    ∃ k0, names.lookup x = some k0 ∧ (x, k0) ∈ names ∧ (k0 = k ∨ (k0 = .free ∧ k = .cell))
  | [], h => by simp at h
  | (n, k0) :: r, h => by
    by_cases e : (x == n) = true
    · have en : x = n := by simpa using e
      subst en
      refine ⟨k0, by simp [List.lookup_cons], List.mem_cons_self .., ?_⟩
      rw [List.map_cons] at h
      by_cases hc : (k0 == NameKind.free && env.scope.kind == .function && env.kindOf x == some .cell) = true
      · simp only [hc, if_true, List.lookup_cons, beq_self_eq_true] at h
        simp only [Bool.and_eq_true, beq_iff_eq] at hc
        exact .inr ⟨hc.1.1, (Option.some.inj h).symm⟩
      · simp only [hc, Bool.false_eq_true, if_false, List.lookup_cons, beq_self_eq_true] at h
        exact .inl (Option.some.inj h)
    · have e' : (x == n) = false := by simpa using e
      rw [List.map_cons] at h
      have h' : (r.map fun (n, k) => if (k == NameKind.free && env.scope.kind == .function && env.kindOf n == some .cell) then (n, NameKind.cell) else (n, k)).lookup x = some k := by
        by_cases hc : (k0 == NameKind.free && env.scope.kind == .function && env.kindOf n == some .cell) = true
        · simp only [hc, if_true, List.lookup_cons, e'] at h
          exact h
        · simp only [hc, Bool.false_eq_true, if_false, List.lookup_cons, e'] at h
          exact h
      obtain ⟨k1, h1, h2, h3⟩ := relabel_look (scope := scope) h'
      exact ⟨k1, by simp only [List.lookup_cons, e']; exact h1, List.mem_cons_of_mem _ h2, h3⟩
structure CompScope (X : Cx) (scope : Scope) (cap : List Str) : Prop where
  kind : scope.kind = .function
  nocell : ∀ y ∈ scope.names, y.2 ≠ .cell
  cell : ∀ y ∈ scope.names, y.2 = .free → X.env.kindOf y.1 = some .cell
  loc : ∀ y ∈ scope.names, y.2 = .local → scope.names.lookup y.1 = some .local
  cap : ∀ x ∈ cap, scope.names.lookup x ≠ some .local
def capN (X : Cx) (ix : List Nat) : List Str := ix.map fun i => X.N.getD i ""
def capS (k : Nat) (ix : List Nat) (σ : St) : St := List.replicate k none ++ ix.map fun i => (σ[i]?).getD none
section
variable {X : Cx} {pins : List (Addr × Obj)} {σ : St} {H : Hp} {s : Shared}
end
end L2
set_option Elab.async false
set_option linter.all false
set_option maxRecDepth 100000
set_option maxHeartbeats 4000000
namespace L2
open PySem PySem.Spec PyProof.Rows
section
variable {prog : Program} {w : World} {A : Around} {R : Result → Shared → Prop} {s : Shared}
theorem compLoop_go {elt target iter : Expr} {ifs : List Expr} {scope : Scope} {pos : Pos} {it acc : Value} {env : Env} (I : Nat → Shared → Prop)
    (turn : ∀ n s, I n s → wpAny (model prog w) A (pyNext it) (fun r s₁ => match r with
      | none => R (.ok .next) s₁
      | some v => wpAny (model prog w) A (letOwnedTupleGo target it v) (fun _ s₀ => wpAny (model prog w) A (assign target env v) (fun _ s₂ =>
          wpAny (model prog w) A (forIn ifs true fun c r => if r = true then do let ok ← isTrue c env (eval c env); pure (ForInStep.yield ok) else pure (ForInStep.yield r)) (fun ok s₃ =>
            if ok = true then wpAny (model prog w) A (eval elt env) (fun x s₄ =>
              wpAny (model prog w) A (call (.builtin "list.append") [acc, x]) (fun _ s₅ => ∃ m, m < n ∧ I m s₅) (notedBy (model prog w) A env fun e s' => R (.error e) s') s₄) (notedBy (model prog w) A env fun e s' => R (.error e) s') s₃
            else ∃ m, m < n ∧ I m s₃) (notedBy (model prog w) A env fun e s' => R (.error e) s') s₂) (notedBy (model prog w) A env fun e s' => R (.error e) s') s₀) (notedBy (model prog w) A env fun e s' => R (.error e) s') s₁) (notedBy (model prog w) A env fun e s' => R (.error e) s') s)
    (n : Nat) (h : I n s) :
    codeAny (model prog w) A (.compLoop (.ListComp elt [⟨target, iter, ifs, 0⟩] scope pos) 0 it acc env) R s := by
  refine codeAny_loop rfl I (fun n s hI => ?_) n h
  show wpAny _ A ((compTurn (.ListComp elt [⟨target, iter, ifs, 0⟩] scope pos) 0 it acc env).onRaise (fun x => do noteFrame x env; theTreesLotGoes x)) _ _ s
  refine wpAny_noted ?_
  rw [compTurn_list]
  refine wpAny_bind (wpAny_standAt (wpAny_bind (wpAny_mono (turn n s hI) (fun r s₁ h₁ => ?_) fun _ _ h' => h')))
  cases r with
  | none => exact wpAny_pure h₁
  | some v =>
    refine wpAny_bind (wpAny_mono h₁ (fun _ s₀ h₀ => ?_) fun _ _ h' => h')
    refine wpAny_bind (wpAny_mono h₀ (fun _ s₂ h₂ => wpAny_bind (wpAny_mono h₂ (fun ok s₃ h₃ => ?_) fun _ _ h' => h')) fun _ _ h' => h')
    cases ok with
    | false => exact wpAny_pure ⟨rfl, h₃⟩
    | true =>
      exact wpAny_bind (wpAny_bind (wpAny_mono h₃ (fun x s₄ h₄ => wpAny_bind (wpAny_mono h₄ (fun _ s₅ h₅ => wpAny_pure (wpAny_pure ⟨rfl, h₅⟩)) fun _ _ h' => h')) fun _ _ h' => h'))
end
def PTs (X : Cx) (ifs : List Expr) (t : TT) : Prop :=
  ∀ (pins : List (Addr × Obj)) (s : Shared) (σ : St) (H : Hp) (Q : Bool → Hp → Prop), Inv X pins σ H s → t σ H Q →
    wpAny (model X.prog X.w) X.A (forIn ifs true fun c r => if r = true then do let ok ← isTrue c X.env (eval c X.env); pure (ForInStep.yield ok) else pure (ForInStep.yield r)) (TP X pins σ Q) X.xe s
def tAll : TT := fun _ H Q => Q true H
theorem pts_nil {X : Cx} : PTs X [] tAll := fun _ _ _ H _ I h => wpAny_tests_nil ⟨H, I, h⟩
theorem pts_one {X : Cx} {c : Expr} {t : TT} (hc : PT X c t) : PTs X [c] t := fun pins s σ H Q I h => wpAny_tests_one (hc pins s σ H Q I h)
def GOnly (k : Nat) (g : TG) : Prop := ∀ x σ H Q, g x σ H Q → g x σ H fun σ2 H2 => (σ2.length = σ.length ∧ ∀ i : Nat, k ≤ i → σ2[i]? = σ[i]?) ∧ Q σ2 H2
def tComp (k : Nat) (ix : List Nat) (wi : TI) (g : TG) (tc : TT) (te : TE) : TE := fun σ H Q => wi σ H fun J H1 => ∀ l, H1 l = none →
  ∃ W : Nat → Nat → List V → Hp → Prop, (∃ m, W 0 m [] (upd H1 l (.lst []))) ∧ ∀ i m ys H2, W i m ys H2 → H2 l = some (.lst ys) ∧
    ((J.stop i H2 ∧ Q (.ref l) H2) ∨ (J.go i H2 ∧ ∀ x H3, J.yld i H2 x H3 → g x (capS k ix σ) H3 fun σ2 H4 => tc σ2 H4 fun b H5 =>
      if b = true then te σ2 H5 fun v H6 => H6 l = some (.lst ys) ∧ ys.length < sizeLine ∧ ∃ m', m' < m ∧ W (i + 1) m' (ys ++ [v]) (upd H6 l (.lst (ys ++ [v]))) else ∃ m', m' < m ∧ W (i + 1) m' ys H5))
section
variable {X : Cx}
end
end L2
set_option Elab.async false
set_option linter.all false
set_option maxRecDepth 100000
set_option maxHeartbeats 4000000
namespace L2
open PySem PySem.Spec PyProof.Rows
def Fl (h : Heap) (e : Addr) (cls : Value) (dd : Option Addr) (T : Addr) (fl : Value) : Prop :=
  ∃ oe vs oT ts, h.get? e = some oe ∧ oe.cls = cls ∧ oe.dict = dd ∧ oe.data = .fields vs ∧ vs[1]? = some (.ref T) ∧ T ≠ e ∧ h.get? T = some oT ∧ oT.data = .fields ts ∧ ts[3]? = some fl
def Kp (fs ex : List Addr) (h h' : Heap) : Prop := ∀ b o, b ∉ ex → h.get? b = some o → (b ∉ fs → h'.get? b = some o) ∧ ∃ sl, h'.get? b = some { o with slots := sl }
theorem Kp.of {fs ex : List Addr} {h h' : Heap} (k : ∀ b o, b ∉ ex → h.get? b = some o → h'.get? b = some o) : Kp fs ex h h' := fun b o hb e => ⟨fun _ => k b o hb e, o.slots, k b o hb e⟩
theorem Kp.trans {fs ex ex' : List Addr} {h h1 h2 : Heap} (a : Kp fs ex h h1) (b : Kp fs ex' h1 h2) (n : ∀ c ∈ ex', c ∈ ex ∨ h.get? c = none) : Kp fs ex h h2 := by
  intro c o hc e
  obtain ⟨a1, sl, a2⟩ := a c o hc e
  have hc' : c ∉ ex' := fun z => by
    rcases n c z with q | q
    · exact hc q
    · rw [e] at q; cases q
  obtain ⟨b1, sl', b2⟩ := b c _ hc' a2
  exact ⟨fun hf => (b c _ hc' (a1 hf)).1 hf, sl', b2⟩
theorem Kp.mono {fs ex ex' : List Addr} {h h' : Heap} (a : Kp fs ex h h') (m : ∀ c ∈ ex, c ∈ ex') : Kp fs ex' h h' := fun b o hb e => a b o (fun z => hb (m b z)) e
theorem Kp.all {fs ex : List Addr} {h h' : Heap} (a : Kp [] ex h h') : Kp fs ex h h' := fun b o hb e => ⟨fun _ => (a b o hb e).1 (by simp), (a b o hb e).2⟩
section
variable {M : Model} {A : Around} {E : Value → Shared → Prop} {s : Shared}
end
end L2
set_option Elab.async false
set_option linter.all false
set_option maxRecDepth 100000
set_option maxHeartbeats 4000000
namespace L2
open PySem PySem.Spec PyProof.Rows
theorem ObjOk.some {P : Program} {w : World} {H : Hp} {h : Heap} {a : Addr} {o : HO} (x : ObjOk P w H h a o) : ∃ ob, h.get? a = some ob := by
  cases o with
  | lst xs => obtain ⟨_, _, _, _, e⟩ := x; exact ⟨_, e⟩
  | tup xs => obtain ⟨_, _, _, ob, e, _⟩ := x; exact ⟨_, e⟩
  | dK kvs => obtain ⟨_, _, _, _, ob, _, _, e, _⟩ := x; exact ⟨_, e⟩
  | dT kvs => obtain ⟨_, _, _, _, ob, _, _, e, _⟩ := x; exact ⟨_, e⟩
  | set S n => obtain ⟨ob, _, _, _, e, _⟩ := x; exact ⟨_, e⟩
  | ins C dx fs => obtain ⟨_, _, _, e, _⟩ := x; exact ⟨_, e⟩
  | own y => exact x
  | xd fs => obtain ⟨_, ⟨od, _, _, e, _⟩, _⟩ := x; exact ⟨_, e⟩
  | met f y => exact ⟨_, x⟩
  | rng lo hi => obtain ⟨_, _, _, e⟩ := x; exact ⟨_, e⟩
  | frz ob u => exact ⟨_, x.1⟩
  | tbl ps => exact ⟨_, x⟩
  | ext φ => exact x.2.1
section
variable {P : Program} {w : World} {H H₀ : Hp} {h h₀ h' : Heap} {fs fs' ex : List Addr}
theorem HOk.kp (x : HOk P w H h) (k : Kp fs ex h h') (hf : ∀ b ∈ fs, H b = none) (he : ∀ b ∈ ex, H b = none) : HOk P w H h' := fun a o e =>
  (x a o e).stay (fun b u hb q => by
    have nn : H b ≠ none := by
      rcases hb with z | z
      · rw [z, e]; simp
      · rw [z]; simp
    exact (k b u (fun z => nn (he b z)) q).1 fun z => nn (hf b z)) (fun _ q => q) fun _ _ q => q
theorem Un.kp (u : Un fs [] H₀ H h₀ h) (k : Kp fs' ex h h') (hx : ∀ b ∈ ex, h₀.get? b = none) (hs : ∀ b ∈ fs', b ∈ fs ∨ h₀.get? b = none) : Un fs [] H₀ H h₀ h' where
  keep := fun b o q n hb hz => (k b o (fun z => by rw [hx b z] at q; cases q) (u.keep b o q n hb hz)).1 fun z => by
    rcases hs b z with y | y
    · exact hb y
    · rw [q] at y; cases y
  slot := fun b o q n hb hz => by
    obtain ⟨sl, e⟩ := u.slot b o q n hb hz
    obtain ⟨_, sl', e'⟩ := k b _ (fun z => by rw [hx b z] at q; cases q) e
    exact ⟨sl', e'⟩
  free := u.free
  there := fun b o q hz => by
    obtain ⟨o', e⟩ := u.there b o q hz
    obtain ⟨_, sl', e'⟩ := k b _ (fun z => by rw [hx b z] at q; cases q) e
    exact ⟨_, e'⟩
  tups := u.tups
  frzs := u.frzs
  tbls := u.tbls
theorem Un.old (u : Un fs [] H₀ H h₀ h) {b : Addr} (n : h.get? b = none) : h₀.get? b = none := by
  cases q : h₀.get? b with
  | none => rfl
  | some o =>
    obtain ⟨o', e⟩ := u.there b o q (by simp)
    rw [n] at e
    cases e
theorem HOk.free (x : HOk P w H h) {b : Addr} (n : h.get? b = none) : H b = none := by
  cases q : H b with
  | none => rfl
  | some o =>
    have := (x b o q).some
    obtain ⟨ob, e⟩ := this
    rw [n] at e
    cases e
end
def CXe (P : Program) (w : World) : CXT := fun outer H s E ev s' => ∃ (e : Addr) (cls : Value) (dd : Option Addr) (T : Addr) (H' : Hp), ev = .ref e ∧ s'.os = s.os ∧ AllBare s'.gens ∧ Un (frs outer) [] H H' s.heap s'.heap ∧ HOk P w H' s'.heap ∧
  Fl s'.heap e cls dd T .none ∧ H' e = none ∧ H' T = none ∧ s.heap.get? e = none ∧ s.heap.get? T = none ∧ E cls dd H'
theorem pass_e0 {P : Program} {w : World} {X : Cx} : Passes (CXe P w) X E0 := fun _ _ _ _ _ _ _ ⟨_, _, _, _, _, _, _, _, _, _, _, _, _, _, _, q⟩ => q.elim
section
variable {P : Program} {w : World} {K : PySem.W.Frag} {mg : Str → Option Value} {base : Heap} {N : List Str} {qual : Str} {scope : Scope} {f : Addr} {cd : Value} {A : Around} {outer : List Env} {s : Shared} {H : Hp} {E : XK}
theorem Fun.okE {x : Str} {st : Stmt} {fd : FuncData} {ps : List Str} {k : Nat} {sp : Sp} (F : Fun K x qual st f fd) (S : FnScope N ps (defScope st)) (len : ∀ vs H Q E, sp vs H Q E → vs.length = ps.length)
    (hbody : ∀ (cdv : Value) (A : Around) (outer : List Env) (s : Shared) (H : Hp) (vs : List V) (Q : VK) (E : XK), Room k (A.deeper (envOfC qual (defScope st) s.heap.objs.size f cdv)) → sp vs H Q E →
      ∃ t, PSs (cxOf (CXe P w) P w K mg base N qual (defScope st) f cdv A outer s H E) (defBody st) t ∧ t { nx := fun _ H' => Q .non H', rt := Q } (start N vs) H) : FnOk P w K mg base (CXe P w) (k + 1) f fd ps sp := by
  obtain ⟨oc, od, kV, doc, pm, an, cdv, ct, osl, rfl, lk, hcd⟩ := F.ex
  exact fn_of lk hcd S len fun A outer s H vs Q E hr hsp => hbody cdv A outer s H vs Q E hr hsp
end
section
variable {K : PySem.W.Frag} {h : Heap} {C : Addr} {bmB : List Value} {newId : String}
end
section
variable {X : Cx} {x : Str} {C : Addr} {np cpos pos : Pos} {e : Expr} {es : List Expr} {ta : TA} {E : XK}
end
end L2
set_option Elab.async false
set_option linter.all false
set_option maxRecDepth 100000
set_option maxHeartbeats 4000000
namespace L2
open PySem PySem.Spec PyProof.Rows
def Nw (X : Cx) (pins : List (Addr × Obj)) (b : Addr) : Prop :=
  X.s₀.heap.get? b = none ∧ b ≠ X.env.locals ∧ b ∉ X.fs ∧ (∀ x c, X.env.cells.lookup x = some c → c ≠ b) ∧ ∀ p ∈ X.pn ++ pins, p.1 ≠ b
section
variable {X : Cx} {pins : List (Addr × Obj)} {σ : St} {H : Hp} {s : Shared}
theorem Un.kpx {fs fs' ex ex0 : List Addr} {H₀ : Hp} {h₀ h h' : Heap} (u : Un fs ex0 H₀ H h₀ h) (k : Kp fs' ex h h') (hx : ∀ b ∈ ex, h₀.get? b = none) (hs : ∀ b ∈ fs', b ∈ fs ∨ h₀.get? b = none) : Un fs ex0 H₀ H h₀ h' where
  keep := fun b o q n hb hz => (k b o (fun z => by rw [hx b z] at q; cases q) (u.keep b o q n hb hz)).1 fun z => by
    rcases hs b z with y | y
    · exact hb y
    · rw [q] at y; cases y
  slot := fun b o q n hb hz => by
    obtain ⟨sl, e⟩ := u.slot b o q n hb hz
    obtain ⟨_, sl', e'⟩ := k b _ (fun z => by rw [hx b z] at q; cases q) e
    exact ⟨sl', e'⟩
  free := u.free
  there := fun b o q hz => by
    obtain ⟨o', e⟩ := u.there b o q hz
    obtain ⟨_, sl', e'⟩ := k b _ (fun z => by rw [hx b z] at q; cases q) e
    exact ⟨_, e'⟩
  tups := u.tups
  frzs := u.frzs
  tbls := u.tbls
theorem Inv.kp {h' : Heap} {ex : List Addr} {t' : Nat} (I : Inv X pins σ H s) (k : Kp (frs X.stack) ex s.heap h') (hx : ∀ b ∈ ex, H b = none ∧ Nw X pins b) : Inv X pins σ H { s with heap := h', toks := t' } := by
  have cellK : ∀ x c, X.env.cells.lookup x = some c → ∀ v, s.heap.IsCell c v → h'.IsCell c v := fun x c e v ⟨o, ho, hd⟩ => by
    obtain ⟨_, sl, q⟩ := k c o (fun z => (hx c z).2.2.2.2.1 x c e rfl) ho
    exact ⟨_, q, hd⟩
  refine ⟨I.ok, I.os, I.bare, I.base.kpx k (fun b hb => (hx b hb).2.1) (fun b hb => ?_), ?_, fun x c e => ?_, I.free, I.freeC, fun p hp => ?_, I.hok.kp k I.stkFree (fun b hb => (hx b hb).1), I.len⟩
  · rcases List.mem_cons.mp (I.stkSub b hb) with z | z
    · exact .inr (Heap.get?_none_of_le (by rw [z]; exact I.ok.above))
    · exact .inl z
  · obtain ⟨m, ⟨o, es, ep, ho, r⟩, hl⟩ := I.loc
    obtain ⟨_, sl, q⟩ := k _ o (fun z => (hx _ z).2.2.1 rfl) ho
    refine ⟨m, ⟨_, es, ep, q, r⟩, fun i x v e1 e2 e3 => ?_⟩
    obtain ⟨u, ru, l⟩ := hl i x v e1 e2 e3
    refine ⟨u, ru, ?_⟩
    rcases l with l | ⟨kd, c, e, z⟩
    · exact .inl l
    · exact .inr ⟨kd, c, e, cellK x c e _ z⟩
  · obtain ⟨v, z⟩ := I.cell x c e
    exact ⟨v, cellK x c e v z⟩
  · obtain ⟨e, n, ne, nf, d⟩ := I.pin p hp
    refine ⟨(k p.1 p.2 (fun z => (hx p.1 z).2.2.2.2.2 p hp rfl) e).1 fun z => ?_, n, ne, nf, d⟩
    rcases List.mem_cons.mp (I.stkSub p.1 z) with y | y
    · exact ne y
    · exact nf y
end
def XP (X : Cx) (pins : List (Addr × Obj)) (σ : St) (E : XK) (ev : Value) (s' : Shared) : Prop :=
  ∃ (e : Addr) (cls : Value) (dd : Option Addr) (T : Addr) (H' : Hp), ev = .ref e ∧ Inv X pins σ H' s' ∧ Fl s'.heap e cls dd T .none ∧ H' e = none ∧ H' T = none ∧ Nw X pins e ∧ Nw X pins T ∧ E cls dd H'
abbrev TSX := Ends → (St → XK) → St → Hp → Prop
section
variable {X : Cx} {k : Nat} {f C : Addr} {fd : FuncData} {ps : List Str} {sp : Sp} {x : Str} {p pos : Pos} {e : Expr} {es : List Expr} {t : TA}
end
structure CatchC (K : PySem.W.Frag) (C : Addr) : Prop where
  ty : PySem.W.typeIn K (.ref C) = some (.type "type")
  cl : (PySem.W.clsIn K C).isSome = true
  be : PySem.W.subIn K (.ref C) (.type "BaseException") = some true
end L2
set_option Elab.async false
set_option linter.all false
set_option maxRecDepth 100000
set_option maxHeartbeats 4000000
namespace L2
open PySem PySem.Spec PyProof.Rows
section
variable {X : Cx} {C : Addr} {cn n : Str} {j : Nat} {b₀ : Stmt} {body suite : List Stmt} {pos cp hp : Pos} {tb : TSX} {ts : TS}
end
end L2
set_option Elab.async false
set_option linter.all false
set_option maxRecDepth 100000
set_option maxHeartbeats 4000000
namespace L2
open PySem PySem.Spec PyProof.Rows
structure ExcK (K : PySem.W.Frag) (D : Addr) : Prop where
  ga : PySem.W.findIn K (.ref D) "__getattribute__" = some (some (.builtin "BaseException.__getattribute__"))
  gn : PySem.W.findIn K (.ref D) "__getattr__" = some none
  cl : PySem.W.findIn K (.ref D) "__class__" = some (some (.builtin "object.__class__"))
  be : PySem.W.subIn K (.ref D) (.type "BaseException") = some true
  ob : PySem.W.mroIn K D (.type "object") = some true
  is : (PySem.W.clsIn K D).isSome = true
section
variable {prog : Program} {w : World} {A : Around} {E : Value → Shared → Prop} {h : Heap} {g : Array GenState} {d : Drawn} {t : Nat} {os : OsState} {K : PySem.W.Frag} {x D : Addr} {ox : Obj} {od : Option Obj}
end
end L2
set_option Elab.async false
set_option linter.all false
set_option maxRecDepth 100000
set_option maxHeartbeats 4000000
namespace L2
open PySem PySem.Spec PyProof.Rows
def Has (K : PySem.W.Frag) (mg : Str → Option Value) (x : Str) (st : Stmt) : Prop := ∃ (f : Addr) (fd : FuncData), mg x = some (.ref f) ∧ Fun K x x st f fd
def Callee (P : Program) (w : World) (K : PySem.W.Frag) (mg : Str → Option Value) (base : Heap) (x : Str) (k : Nat) (ps : List Str) (sp : Sp) : Prop :=
  ∃ (f : Addr) (fd : FuncData), mg x = some (.ref f) ∧ PySem.W.keepIn K (.ref f) = true ∧ Binds K fd ps [] ∧ FnOk P w K mg base (CXe P w) k f fd ps sp
section
variable {P : Program} {w : World} {K : PySem.W.Frag} {mg : Str → Option Value} {base : Heap}
theorem Has.callee {x : Str} {st : Stmt} {N ps : List Str} {k : Nat} {sp : Sp} (h : Has K mg x st) (S : FnScope N ps (defScope st)) (len : ∀ vs H Q E, sp vs H Q E → vs.length = ps.length)
    (hb : ∀ (kV doc pm : Value) (an : Option Addr) (cdv ct : Value) (us : List Value), us.length = ps.length → bindArgs (PySem.W.fnOf x x (defArgs st) (defBody st) (defScope st) .none kV doc pm an cdv ct) ⟨us, []⟩ = pure (ps.zip us))
    (hbody : ∀ (f : Addr) (cdv : Value) (A : Around) (outer : List Env) (s : Shared) (H : Hp) (vs : List V) (Q : VK) (E : XK), Room k (A.deeper (envOfC x (defScope st) s.heap.objs.size f cdv)) → sp vs H Q E →
      ∃ t, PSs (cxOf (CXe P w) P w K mg base N x (defScope st) f cdv A outer s H E) (defBody st) t ∧ t { nx := fun _ H' => Q .non H', rt := Q } (start N vs) H) : Callee P w K mg base x (k + 1) ps sp := by
  obtain ⟨f, fd, hm, F⟩ := h
  exact ⟨f, fd, hm, F.kp, F.binds hb, F.okE S len fun cdv A outer s H vs Q E hr hs => hbody f cdv A outer s H vs Q E hr hs⟩
end
section
variable {X : Cx} {k j : Nat} {ps : List Str} {sp : Sp} {E : XK} {x : Str} {p pos : Pos} {e : Expr} {es : List Expr} {t : TA}
theorem pe_callee (c : Callee X.prog X.w X.K X.mg X.base x k ps sp) (hr : Room j X.A) (hg : Gl X x) (hx : Passes (CXe X.prog X.w) X E) (ha : PA X (e :: es) t) (hj : k ≤ j := by decide) (hdb : (x == ("__debug__" : Str)) = false := by decide)
    (he : starEach (e :: es) X.env = (false, eval e X.env) :: starEach es X.env := by rfl) (hpl : (backTo pos (starEach es X.env)).any (·.1) = false := by rfl) : PE X (.Call (.Name x p) (e :: es) [] pos) (tCall sp [] E t) := by
  obtain ⟨f, fd, hm, hk, hb, F⟩ := c
  exact pe_call F (hr.mono hj) hg hm hk hb .nil hx ha hdb he hpl
end
end L2
set_option Elab.async false
set_option linter.all false
set_option maxRecDepth 100000
set_option maxHeartbeats 4000000
namespace L2
open PySem PySem.Spec PyProof.Rows
section
variable {prog : Program} {w : World} {A : Around} {E : Value → Shared → Prop}
end
section
variable {X : Cx} {pos : Pos}
end
end L2
set_option Elab.async false
set_option linter.all false
set_option maxRecDepth 100000
set_option maxHeartbeats 4000000
namespace L2
open PySem PySem.Spec PyProof.Rows
theorem nd {M : List Str} (h : M.Nodup) : M.Nodup := h
section
variable {X : Cx}
end
end L2
set_option Elab.async false
set_option linter.all false
set_option maxRecDepth 100000
set_option maxHeartbeats 4000000
namespace L2
open PySem PySem.Spec PyProof.Rows
theorem Same.upd {H : Hp} {l : Addr} {o : HO} (h : H l = none) : Same H (upd H l o) := fun b u e => by rw [upd_ne (ne_of_none e h)]; exact e
section
variable {K : PySem.W.Frag} {D : Ends} {u : TS} {e N : Addr} {o1 o2 : Option V} {H : Hp}
end
end L2
namespace L2
open PySem PySem.Spec PyProof.Rows
end L2
namespace L2
open PySem PySem.Spec PyProof.Rows
end L2
set_option Elab.async false
set_option linter.all false
set_option maxRecDepth 100000
set_option maxHeartbeats 4000000
namespace L2
open PySem PySem.Spec PyProof.Rows
section
variable {X : Cx} {pins : List (Addr × Obj)} {σ : List (Option V)} {H H' : Hp} {s : Shared} {h' : Heap}
theorem Inv.turnedL {t' : Nat} {fp : List Addr} (I : Inv X pins σ H s) (k : ∀ b o, b ∉ fp → s.heap.get? b = some o → h'.get? b = some o) (hf : ∀ b ∈ fp, FpOk X pins H b) : Inv X pins σ H { s with heap := h', toks := t' } := by
  have nit : ∀ b u, H b = some u → b ∉ fp := fun b u e z => by
    have := (hf b z).1
    rw [e] at this
    cases this
  have hL : X.env.locals ∉ fp := fun z => (hf _ z).2.1 rfl
  refine I.step (g' := s.gens) (d' := s.drawn) (ch := fp) (fun b hb => ?_) (fun b o _ _ hc e _ => k b o hc e) (fun b o _ _ hc e _ => ⟨o.slots, k b o hc e⟩) (fun _ _ _ _ n => n)
    (fun b o hc e => ⟨o, k b o hc e⟩) (fun _ _ e => e) (fun _ _ _ e => e) (fun b ps e => ⟨#[], by rw [e]; simp⟩) (fun m hm => ?_) (fun b u e => ?_) I.bare
  · obtain ⟨_, h1, _, h3, h4, h5⟩ := hf b hb
    exact ⟨h3, h1, h4, h5⟩
  · obtain ⟨o, es, ep, ho, r⟩ := hm
    exact ⟨o, es, ep, k _ o hL ho, r⟩
  · refine (I.hok b u e).stay (fun c v hc q => k c v ?_ q) (fun _ q => q) fun _ _ q => q
    rcases hc with z | z
    · rw [z]; exact nit b u e
    · exact nit c _ z
end
section
variable {X : Cx}
end
section
variable {X : Cx}
theorem bools_of {bs : List Bool} : ∀ {us : List Value}, Vals (bs.map V.bl) us → us = bs.map Value.bool := by
  induction bs with
  | nil => intro us h; cases h; rfl
  | cons b r ih =>
    intro us h
    cases h with
    | cons h1 h2 =>
      have := ih h2
      cases h1
      rw [this]
      rfl
theorem call_all (hc : X.calm = true) : CallR X (.builtin "all") (fun xs H Q => ∃ (a : Addr) (bs : List Bool), xs = [.ref a] ∧ SqL X.K H a (bs.map V.bl) ∧ Q (.bl (bs.all id)) H) := by
  intro pins s σ H xs us Q I r h
  obtain ⟨a, bs, rfl, hq, q⟩ := h
  obtain ⟨u, rfl, rx⟩ := vals1 r
  cases rx
  obtain ⟨its, rv, p, hz⟩ := I.list hq
  have e := bools_of rv
  subst e
  have hne : a ≠ s.heap.objs.size := by
    obtain ⟨o, eo, _⟩ := p.isList
    exact Nat.ne_of_lt (Heap.lt_size eo)
  have W := Walks.list (prog := X.prog) (w := X.w) (A := X.A.in1) (show X.A.in1.handled = none from I.ok.hd hc) s.heap.objs.size a hne (bs.map Value.bool).toArray
  refine call_all_walk (wpAny_pyIter_list p.isList ⟨_, _, _, _, _, _, fun i => bs.getD i true, rfl, W, ⟨⟨_, Heap.get?_push_size _ rfl, rfl, rfl⟩, p.isList.push _⟩, ?_, fun h' tk hk => ⟨.bl (bs.all id), H, ?_, ?_, q⟩⟩)
  · intro i v s' Q' E' hP hQ
    have hP' : (bs.map Value.bool)[i]? = some v := by simpa using hP
    rw [List.getElem?_map] at hP'
    cases e : bs[i]? with
    | none => rw [e] at hP'; cases hP'
    | some b =>
      rw [e] at hP'
      cases hP'
      have : bs.getD i true = b := by simp [List.getD, e]
      have hQ2 : Q' (bs.getD i true) s' := hQ
      rw [this] at hQ2
      exact wpAny_pure hQ2
  · refine Inv.turnedL (s := { s with heap := s.heap.push { cls := .type "list_iterator", data := .fields #[.ref a, .int 0 0] }, toks := s.toks }) (t' := tk) (fp := [s.heap.objs.size]) (I.kept (t' := s.toks) fun b o e => Heap.get?_push_of_some _ e) (fun b o hb e => hk b o hb e) fun b hb => ?_
    have e : b = s.heap.objs.size := by simpa using hb
    subst e
    exact I.fpOk (Nat.le_refl _) (I.hok.fresh (Nat.le_refl _))
  · show Value.bool _ = Value.bool _
    congr 1
    simp only [List.size_toArray, List.length_map]
    rw [Bool.eq_iff_iff, List.all_eq_true, List.all_eq_true]
    constructor
    · intro h b hb
      obtain ⟨i, hi, e⟩ := List.getElem_of_mem hb
      have := h i (List.mem_range.mpr hi)
      simpa [List.getD, hi, e] using this
    · intro h i hi
      have hi' := List.mem_range.mp hi
      have := h bs[i] (List.getElem_mem hi')
      simpa [List.getD, hi'] using this
end
end L2
set_option Elab.async false
set_option linter.all false
set_option maxRecDepth 100000
set_option maxHeartbeats 4000000
namespace L2
open PySem PySem.Spec PyProof.Rows
theorem cf_app : ∀ (names : List (Str × NameKind)) (n : Nat) (acc : List (Str × Addr)), cellsFrom n names acc = cellsFrom n names [] ++ acc
  | [], n, acc => rfl
  | (x, k) :: r, n, acc => by
    unfold cellsFrom
    split
    · rw [cf_app r (n + 1) ((x, n) :: acc), cf_app r (n + 1) [(x, n)]]
      simp
    · exact cf_app r n acc
theorem cf_name : ∀ (names : List (Str × NameKind)) (n : Nat) (p : Str × Addr), p ∈ cellsFrom n names [] → (p.1, NameKind.cell) ∈ names
  | [], n, p, h => nomatch h
  | (x, k) :: r, n, p, h => by
    unfold cellsFrom at h
    split at h
    · rename_i hk
      rw [cf_app] at h
      rcases List.mem_append.mp h with h | h
      · exact List.mem_cons_of_mem _ (cf_name r _ p h)
      · have e : p = (x, n) := by simpa using h
        have hk' : k = .cell := by simpa using hk
        subst e hk'
        exact List.mem_cons_self ..
    · exact List.mem_cons_of_mem _ (cf_name r _ p h)
theorem cf_has {x : Str} : ∀ (names : List (Str × NameKind)) (n : Nat), (x, NameKind.cell) ∈ names → ∃ c, (x, c) ∈ cellsFrom n names []
  | (y, k) :: r, n, h => by
    unfold cellsFrom
    rcases List.mem_cons.mp h with e | h
    · cases e
      rw [if_pos (by rfl), cf_app]
      exact ⟨n, List.mem_append_right _ (List.mem_singleton.mpr rfl)⟩
    · split
      · obtain ⟨c, hc⟩ := cf_has r (n + 1) h
        exact ⟨c, by rw [cf_app]; exact List.mem_append_left _ hc⟩
      · exact cf_has r n h
theorem lookup_app {α : Type} {x : Str} {c : α} : ∀ {l m : List (Str × α)}, (l ++ m).lookup x = some c → l.lookup x = some c ∨ (l.lookup x = none ∧ m.lookup x = some c)
  | [], m, h => .inr ⟨rfl, h⟩
  | (y, b) :: r, m, h => by
    rw [List.cons_append, List.lookup_cons] at h
    rw [List.lookup_cons]
    split at h
    · exact .inl h
    · exact lookup_app h
theorem lookup_app_has {α : Type} {x : Str} {c : α} : ∀ {l m : List (Str × α)}, m.lookup x = some c → ∃ d, (l ++ m).lookup x = some d
  | [], m, h => ⟨c, h⟩
  | (y, b) :: r, m, h => by
    rw [List.cons_append, List.lookup_cons]
    split
    · exact ⟨_, rfl⟩
    · exact lookup_app_has h
theorem lookup_app_none {α : Type} {x : Str} : ∀ {l m : List (Str × α)}, l.lookup x = none → (l ++ m).lookup x = m.lookup x
  | [], m, h => rfl
  | (y, b) :: r, m, h => by
    rw [List.lookup_cons] at h
    rw [List.cons_append, List.lookup_cons]
    split at h
    · cases h
    · exact lookup_app_none h
theorem lookup_none_of {α : Type} {x : Str} : ∀ {l : List (Str × α)}, (∀ p ∈ l, p.1 ≠ x) → l.lookup x = none
  | [], _ => rfl
  | (y, b) :: r, h => by
    rw [List.lookup_cons]
    have : (x == y) = false := by
      have := h (y, b) (List.mem_cons_self ..)
      simpa using fun e => this e.symm
    rw [this]
    exact lookup_none_of fun p hp => h p (List.mem_cons_of_mem _ hp)
def ownC (C : Addr) (scope : Scope) : List (Str × Addr) := cellsFrom (C + 1) scope.names []
def cxCompC (X : Cx) (M : List Str) (scope : Scope) (C : Addr) (s₃ : Shared) (H₃ : Hp) (fp : List Addr) : Cx :=
  { X with N := M, s₀ := s₃, H₀ := H₃, env := compEnvC scope (ownC C scope ++ clOf X.env.cells scope.names []) C X.env, outer := X.stack, stack := X.stack, ex := fp, fn := fun x => scope.names.contains (x, NameKind.cell), pn := [], xe := fun _ _ => False }
structure CompScopeC (X : Cx) (scope : Scope) (cap : List Str) : Prop where
  kind : scope.kind = .function
  cell : ∀ y ∈ scope.names, y.2 = .free → X.env.kindOf y.1 = some .cell
  loc : ∀ y ∈ scope.names, y.2 = .local → scope.names.lookup y.1 = some .local
  cap : ∀ x ∈ cap, scope.names.lookup x ≠ some .local ∧ (x, NameKind.cell) ∉ scope.names
  dis : ∀ y ∈ scope.names, y.2 = .free → (y.1, NameKind.cell) ∉ scope.names
theorem ns_pushCells {C : Addr} {m : Str → Option Value} : ∀ (names : List (Str × NameKind)) {h : Heap}, h.Ns C m → (pushCells h names).Ns C m := fun names h hn => by
  obtain ⟨o, es, ep, ho, r⟩ := hn
  exact ⟨o, es, ep, pushCells_keeps names h C o ho, r⟩
section
variable {X : Cx} {pins : List (Addr × Obj)} {σ : St} {H : Hp} {s : Shared}
theorem inv_compC {scope : Scope} {L : List Str} {ix : List Nat} {h' : Heap} {fp : List Addr} {t' : Nat} (S : CompScopeC X scope (capN X ix)) (I : Inv X pins σ H s) (hf : ∀ b ∈ fp, FpOk X pins H b) (hfp : ∀ b ∈ fp, b < s.heap.objs.size)
    (hix : ∀ i ∈ ix, i < X.N.length) (hn : h'.Ns s.heap.objs.size fun _ => none) (hk : ∀ b u, s.heap.get? b = some u → h'.get? b = some u) (hcs : CellsOk h' (s.heap.objs.size + 1) (ownC s.heap.objs.size scope)) :
    Inv (cxCompC X (L ++ capN X ix) scope s.heap.objs.size s H fp) [] (capS L.length ix σ) H { s with heap := h', toks := t' } := by
  have cl : ∀ x c, (clOf X.env.cells scope.names []).lookup x = some c → X.env.cells.lookup x = some c := fun x c e =>
    clOf_mem (acc := []) (fun p hp => nomatch hp) (x, c) (PySem.mem_of_lookup e)
  have old : ∀ x c, X.env.cells.lookup x = some c → c < s.heap.objs.size := fun x c e => by
    obtain ⟨v, q⟩ := I.cell x c e
    exact q.lt
  have own : ∀ x c, (ownC s.heap.objs.size scope).lookup x = some c → h'.IsCell c none ∧ s.heap.objs.size + 1 ≤ c ∧ (x, NameKind.cell) ∈ scope.names := fun x c e => by
    have m := PySem.mem_of_lookup e
    exact ⟨(hcs.empty x c m).1, (hcs.empty x c m).2, cf_name _ _ _ m⟩
  have al : ∀ x c, (ownC s.heap.objs.size scope ++ clOf X.env.cells scope.names []).lookup x = some c → (ownC s.heap.objs.size scope).lookup x = some c ∨ ((ownC s.heap.objs.size scope).lookup x = none ∧ X.env.cells.lookup x = some c) := fun x c e => by
    rcases lookup_app e with h | ⟨h1, h2⟩
    · exact .inl h
    · exact .inr ⟨h1, cl x c h2⟩
  have ownHas : ∀ x, (x, NameKind.cell) ∈ scope.names → ∃ c, (ownC s.heap.objs.size scope).lookup x = some c := fun x hx => by
    obtain ⟨c, hc⟩ := cf_has scope.names (s.heap.objs.size + 1) hx
    exact lookup_of_mem hc
  refine ⟨⟨I.ok.mod, S.kind, I.ok.glob, I.ok.blt, Nat.le_refl _, fun x y c e1 e2 => ?_, fun x hx => ?_, fun x c e1 e2 => ?_, I.ok.hd, I.ok.frames, .inl rfl, fun b hb => ⟨Nat.ne_of_lt (hfp b hb), fun x c e => ?_⟩,
    fun b o e => I.bs b o e, Nat.le_trans I.ok.bsz I.sz, fun b o e hb => ?_, fun b hb hz => ?_, I.stack, I.stkFree⟩,
    rfl, I.bare, Un.kept hk, ⟨_, hn, fun i x v h1 h2 h3 => ?_⟩, fun x c e => ?_, I.hok.fresh (Nat.le_refl _), fun x c e => ?_, fun p hp => absurd (show p ∈ ([] : List (Addr × Obj)) from hp) (by simp), I.hok.kept hk, ?_⟩
  · rcases al x c e1 with a1 | ⟨_, a1⟩ <;> rcases al y c e2 with a2 | ⟨_, a2⟩
    · exact name_of_addr hcs.apart (PySem.mem_of_lookup a1) (PySem.mem_of_lookup a2)
    · exact absurd (old y c a2) (Nat.not_lt.mpr (Nat.le_of_succ_le (own x c a1).2.1))
    · exact absurd (old x c a1) (Nat.not_lt.mpr (Nat.le_of_succ_le (own y c a2).2.1))
    · exact I.ok.inj x y c a1 a2
  · have hx' : (relabel scope X.env).names.lookup x = some .cell ∨ (relabel scope X.env).names.lookup x = some .free := hx
    have fr : (x, NameKind.cell) ∈ scope.names ∨ (x, NameKind.free) ∈ scope.names := by
      rcases hx' with q | q
      · obtain ⟨k0, _, h2, h3⟩ := relabel_look (scope := scope) q
        rcases h3 with rfl | ⟨rfl, _⟩
        · exact .inl h2
        · exact .inr h2
      · obtain ⟨k0, _, h2, h3⟩ := relabel_look (scope := scope) q
        rcases h3 with rfl | ⟨_, z⟩
        · exact .inr h2
        · cases z
    rcases fr with fr | fr
    · obtain ⟨c, hc⟩ := ownHas x fr
      show ∃ c, (ownC s.heap.objs.size scope ++ clOf X.env.cells scope.names []).lookup x = some c
      exact lookup_of_mem (List.mem_append_left _ (PySem.mem_of_lookup hc))
    · obtain ⟨c, hc⟩ := I.ok.has x (.inl (S.cell _ fr rfl))
      obtain ⟨d, hd⟩ := lookup_of_mem (clOf_has (names := scope.names) (acc := []) hc fr)
      exact lookup_app_has hd
  · have hx : (x, NameKind.cell) ∈ scope.names := by
      have e1' : scope.names.contains (x, NameKind.cell) = true := e1
      simpa using e1'
    rcases al x c e2 with a1 | ⟨a1, _⟩
    · exact Nat.le_of_succ_le (own x c a1).2.1
    · obtain ⟨d, hd⟩ := ownHas x hx
      rw [a1] at hd
      cases hd
  · rcases al x c e with a1 | ⟨_, a1⟩
    · exact Nat.ne_of_gt (Nat.lt_of_lt_of_le (hfp b hb) (Nat.le_of_succ_le (own x c a1).2.1))
    · exact (hf b hb).2.2.2.2.1 x c a1
  · rcases (hf b hb).2.2.2.1 with z | z
    · exact I.ok.noex b o e z
    · exact absurd (Heap.lt_size (I.ok.bs b o e).1) (Nat.not_lt.mpr z)
  · rcases List.mem_cons.mp (I.stkSub b hz) with z | z
    · exact (hf b hb).2.1 z
    · exact (hf b hb).2.2.1 z
  · -- a name that is drawn in
    have hi : L.length ≤ i := by
      by_cases hi : i < L.length
      · unfold capS at h2
        rw [List.getElem?_append_left (by simpa using hi), List.getElem?_replicate, if_pos hi] at h2
        cases h2
      · omega
    unfold capS at h2
    rw [List.getElem?_append_right (by simpa using hi), List.length_replicate, List.getElem?_map] at h2
    have h1' : (L ++ capN X ix)[i]? = some x := h1
    rw [List.getElem?_append_right hi] at h1'
    unfold capN at h1'
    rw [List.getElem?_map] at h1'
    cases ej : ix[i - L.length]? with
    | none => rw [ej] at h1'; cases h1'
    | some j =>
      rw [ej] at h1' h2
      have hj : j < X.N.length := hix j (List.mem_of_getElem? ej)
      have e1 : X.N[j]? = some x := by
        have : X.N.getD j "" = x := Option.some.inj h1'
        rw [← this]
        simp [List.getD, hj]
      have e2 : σ[j]? = some (some v) := by
        have z : (σ[j]?).getD none = some v := Option.some.inj h2
        cases q : σ[j]? with
        | none => rw [q] at z; cases z
        | some o => rw [q] at z; exact congrArg some z
      have hx : x ∈ capN X ix := by
        unfold capN
        refine List.mem_map.mpr ⟨j, List.mem_of_getElem? ej, ?_⟩
        exact Option.some.inj h1'
      have h3' : (relabel scope X.env).names.lookup x = some .local ∨ (relabel scope X.env).names.lookup x = some .cell ∨ (relabel scope X.env).names.lookup x = some .free := h3
      have fr : (x, NameKind.free) ∈ scope.names := by
        rcases h3' with q | q | q
        · obtain ⟨k0, g1, g2, g3⟩ := relabel_look (scope := scope) q
          rcases g3 with rfl | ⟨_, z⟩
          · exact absurd g1 (S.cap x hx).1
          · cases z
        · obtain ⟨k0, _, g2, g3⟩ := relabel_look (scope := scope) q
          rcases g3 with rfl | ⟨rfl, _⟩
          · exact absurd g2 (S.cap x hx).2
          · exact g2
        · obtain ⟨k0, _, g2, g3⟩ := relabel_look (scope := scope) q
          rcases g3 with rfl | ⟨_, z⟩
          · exact g2
          · cases z
      have hc : X.env.kindOf x = some .cell := S.cell _ fr rfl
      obtain ⟨m, _, hl⟩ := I.loc
      obtain ⟨u, ru, lk⟩ := hl j x v e1 e2 (.inr (.inl hc))
      refine ⟨u, ru, ?_⟩
      rcases lk with ⟨z, _⟩ | ⟨_, c, ec, ic⟩
      · rw [hc] at z; cases z
      · have k3 : (relabel scope X.env).names.lookup x = some .cell ∨ (relabel scope X.env).names.lookup x = some .free := by
          rcases h3' with q | q | q
          · obtain ⟨k0, g1, g2, g3⟩ := relabel_look (scope := scope) q
            rcases g3 with rfl | ⟨_, z⟩
            · exact absurd g1 (S.cap x hx).1
            · cases z
          · exact .inl q
          · exact .inr q
        obtain ⟨c', ec'⟩ := lookup_of_mem (clOf_has (names := scope.names) (acc := []) ec fr)
        have e3 := cl x c' ec'
        rw [ec] at e3
        cases e3
        obtain ⟨oc, g1, g2⟩ := ic
        have no : (ownC s.heap.objs.size scope).lookup x = none := lookup_none_of fun p hp z => (S.cap x hx).2 (by rw [← z]; exact cf_name _ _ _ hp)
        exact .inr ⟨k3, c, (lookup_app_none no).trans ec', oc, hk _ _ g1, g2⟩
  · rcases al x c e with a1 | ⟨_, a1⟩
    · exact ⟨none, (own x c a1).1⟩
    · obtain ⟨v, oc, g1, g2⟩ := I.cell x c a1
      exact ⟨v, oc, hk _ _ g1, g2⟩
  · rcases al x c e with a1 | ⟨_, a1⟩
    · exact I.hok.fresh (Nat.le_of_succ_le (own x c a1).2.1)
    · exact I.freeC x c a1
  · show (capS L.length ix σ).length = (L ++ capN X ix).length
    unfold capS capN
    simp
end
theorem newEnvC {M : Model} {A : Around} {E : Value → Shared → Prop} {s : Shared} {scope : Scope} {globals : Addr} {cl : List (Str × Addr)} {qual : Str} {outer : Env} {Q : Env → Shared → Prop}
    (hQ : ∀ h', h'.Ns s.heap.objs.size (fun _ => none) → (∀ b u, s.heap.get? b = some u → h'.get? b = some u) → CellsOk h' (s.heap.objs.size + 1) (ownC s.heap.objs.size scope) →
      Q { scope := scope, locals := s.heap.objs.size, globals := globals, cells := ownC s.heap.objs.size scope ++ cl, qual := qual, func := none, code := outer.code, frame := outer.frame, builtins := outer.builtins } { s with heap := h' }) :
    wpAny M A (newFunctionEnv scope globals cl [] qual none .none (some outer)) Q E s := by
  simp only [newFunctionEnv, Option.isSome_some, if_true]
  refine wpAny_bind (wpAny_alloc ?_)
  refine wpAny_bind (wpAny_layCells _ (fun name kind cells => by cases hkc : kind == NameKind.cell <;> simp [hkc]) _ _ _ _ ?_)
  have ok := cellsFrom_ok scope.names (s.heap.push { cls := .type "dict", data := .dict #[] }) (s.heap.objs.size + 1) [] ⟨fun _ _ hm => (nomatch hm), List.Pairwise.nil⟩ (by rw [Heap.size_push]; exact Nat.le_refl _)
  rw [Heap.size_push] at ok
  rw [show ({ s with heap := s.heap.push { cls := .type "dict", data := .dict #[] } } : Shared).heap.objs.size = s.heap.objs.size + 1 from Heap.size_push .., cf_app]
  refine wpAny_bind ?_
  rw [List.forIn_nil]
  refine wpAny_pure (wpAny_pure ?_)
  exact hQ _ (ns_pushCells _ (Heap.Ns.new ..)) (fun b u e => pushCells_keeps _ _ _ _ (Heap.get?_push_of_some _ e)) ok
section
variable {X : Cx}
theorem pe_compC {elt tg iter : Expr} {ifs : List Expr} {scope : Scope} {pos : Pos} {L : List Str} {ix : List Nat} {wi : TI} {g : TG} {tc : TT} {te : TE} (hc : X.calm = true) (S : CompScopeC X scope (capN X ix)) (hix : ∀ i ∈ ix, i < X.N.length) (hi : PI X tg iter wi)
    (hg : ∀ C s₃ H₃ fp, PG (cxCompC X (L ++ capN X ix) scope C s₃ H₃ fp) tg g) (hgo : GOnly L.length g)
    (ht : ∀ C s₃ H₃ fp, PTs (cxCompC X (L ++ capN X ix) scope C s₃ H₃ fp) ifs tc) (he : ∀ C s₃ H₃ fp, PE (cxCompC X (L ++ capN X ix) scope C s₃ H₃ fp) elt te)
    (hs : ∀ x, foldedSetIterable iter X.env x = pure x := by intro _; rfl) :
    PE X (.ListComp elt [⟨tg, iter, ifs, 0⟩] scope pos) (tComp L.length ix wi g tc te) := by
  intro pins s σ H Q I h
  rw [eval_ListComp]
  refine wpAny_comprehension_free (use := none) rfl hs (closureFor_of fun y hy e => I.ok.has y.1 (.inl (S.cell y hy e))) S.kind S.loc (thn (hi pins s σ H _ I h) fun xv s1 h1 => thn h1 fun itv s2 h2 => ?_)
  obtain ⟨it, fp, tn, J, H2, rfl, I2, T, st2, f2, q⟩ := h2
  have nD : H2 s2.heap.objs.size = none := I2.hok.fresh (Nat.le_refl _)
  obtain ⟨W, ⟨m0, w0⟩, turn⟩ := q _ nD
  generalize hD : s2.heap.objs.size = D at nD w0 turn
  have fD : ∀ b ∈ fp, b < D := fun b hb => by
    obtain ⟨o, e, _⟩ := T.obj _ _ st2 b hb
    rw [← hD]
    exact Heap.lt_size e
  have I3 : Inv X pins σ (upd H2 D (.lst [])) { s2 with heap := s2.heap.push { cls := .type "list", data := .seq ([] : List Value).toArray }, toks := s2.toks } := by
    rw [← hD]
    exact I2.laid (t' := s2.toks) (fun b u e => Heap.get?_push_of_some _ e) (Nat.le_refl _) ⟨by simp, [], 0, .nil, Heap.get?_push_size _ rfl⟩
  refine wpAny_newObj_type (newEnvC (fun h₁ hns₁ hsb₁ hcs₁ => ?_)) (by show 0 ≤ sizeLine; exact Nat.zero_le _)
  rw [hD]
  have st3 : tn 0 (s2.heap.push { cls := .type "list", data := .seq ([] : List Value).toArray }) := T.keep _ _ _ st2 fun b hb o e => Heap.get?_push_of_some _ e
  generalize hp3 : s2.heap.push { cls := .type "list", data := .seq ([] : List Value).toArray } = h3 at I3 st3 hns₁ hsb₁ hcs₁
  dsimp only at hns₁ hsb₁ hcs₁ ⊢
  have sz3 : h3.objs.size = D + 1 := by rw [← hp3, Heap.size_push, hD]
  have old : ∀ b u, h3.get? b = some u → h₁.get? b = some u := fun b u e => hsb₁ b u e
  have f3 : ∀ b ∈ fp, FpOk X pins (upd H2 D (.lst [])) b := fun b hb => ⟨by rw [upd_ne (Nat.ne_of_lt (fD b hb))]; exact (f2 b hb).1, (f2 b hb).2⟩
  have I4 := inv_compC (L := L) (ix := ix) (t' := s2.toks) S I3 f3 (fun b hb => by show b < h3.objs.size; rw [sz3]; exact Nat.lt_succ_of_lt (fD b hb)) hix (h' := h₁) hns₁ old hcs₁
  have st4 : tn 0 h₁ := T.keep _ _ _ st3 fun b hb o e => old b o e
  generalize hC : (cxCompC X (L ++ capN X ix) scope h3.objs.size { s2 with heap := h3, toks := s2.toks } (upd H2 D (.lst [])) fp) = Y at I4
  have eEnv : Y.env = compEnvC scope (ownC h3.objs.size scope ++ clOf X.env.cells scope.names []) h3.objs.size X.env := by rw [← hC]; rfl
  have hcY : Y.calm = true := by rw [← hC]; exact hc
  have xeY : Y.xe = fun _ _ => False := by rw [← hC]; rfl
  have eP : Y.prog = X.prog := by rw [← hC]; rfl
  have eW : Y.w = X.w := by rw [← hC]; rfl
  have eK : Y.K = X.K := by rw [← hC]; rfl
  have eA : Y.A = X.A := by rw [← hC]; rfl
  have gY : PG Y tg g := by rw [← hC]; exact hg _ _ _ _
  have tY : PTs Y ifs tc := by rw [← hC]; exact ht _ _ _ _
  have pY : PE Y elt te := by rw [← hC]; exact he _ _ _ _
  have stat : ∀ {H' : Hp}, (∀ b ∈ fp, H' b = none) → ∀ b ∈ fp, FpOk Y [] H' b := fun {H'} hn b hb => by
    have z1 : b ∈ Y.ex := by rw [← hC]; exact hb
    have zp : Y.pn = [] := by rw [← hC]; rfl
    refine ⟨hn b hb, (I4.ok.exf b z1).1, I4.ok.exfs b z1, .inl z1, (I4.ok.exf b z1).2, fun p hp => ?_⟩
    rw [zp] at hp
    exact absurd hp (by simp)
  have fin : ∀ {H' : Hp} {s' : Shared}, Inv Y [] (capS L.length ix σ) H' s' → Q (.ref D) H' → compPost (model X.prog X.w) X.A X.xe none (EP X pins σ Q) (.ref D) h3.objs.size (.ok .next) s' := by
    intro H' s' J' qe
    obtain ⟨m, hm, _⟩ := J'.loc
    rw [eEnv] at hm
    refine ⟨m, hm, fun h' sb => ⟨.ref D, H', ?_, rfl, qe⟩⟩
    have hfr : H' h3.objs.size = none := by
      have := J'.free
      rw [eEnv] at this
      exact this
    have neC : ∀ b u, H' b = some u → b ≠ h3.objs.size := fun b u e z => by rw [z, hfr] at e; cases e
    have base : Un (frs X.stack) fp (upd H2 D (.lst [])) H' h3 s'.heap := by
      have := J'.base
      rw [← hC] at this
      exact this
    have to' : ∀ b o, b ≠ h3.objs.size → s'.heap.get? b = some o → h'.get? b = some o := fun b o hb e => sb.extBut b o hb e
    have lt3 : ∀ b o, h3.get? b = some o → b ≠ h3.objs.size := fun b o e => Nat.ne_of_lt (Heap.lt_size e)
    have un : Un (frs X.stack) fp (upd H2 D (.lst [])) H' h3 h' :=
      ⟨fun b o e n hb hx => to' b o (lt3 b o e) (base.keep b o e n hb hx),
       fun b o e n hb hx => by
        obtain ⟨sl, z⟩ := base.slot b o e n hb hx
        exact ⟨sl, to' _ _ (lt3 b o e) z⟩,
       base.free,
       fun b o e hx => by
        obtain ⟨o', z⟩ := base.there b o e hx
        exact ⟨o', to' _ _ (lt3 b o e) z⟩,
       base.tups, base.frzs, base.tbls⟩
    have hok : HOk X.prog X.w H' h' := fun b u e => by
      have z := J'.hok b u e
      rw [eP, eW] at z
      refine z.stay (fun c v hcv qv => to' c v ?_ qv) (fun _ qq => qq) fun _ _ qq => qq
      rcases hcv with zz | zz
      · rw [zz]; exact neC b u e
      · exact neC c _ zz
    refine I3.call' (s' := { s' with heap := h' }) (ch := fp) ?_ un hok J'.bare fun b hb => ?_
    · have := J'.os
      rw [← hC] at this
      exact this
    · obtain ⟨_, g1, g2, g3, g4, g5⟩ := f2 b hb
      exact ⟨g3, g1, g4, g5⟩
  have key : ∀ s5 : Shared, s5 = { s2 with heap := h₁, toks := s2.toks } →
      codeAny (model X.prog X.w) X.A (.compLoop (.ListComp elt [⟨tg, iter, ifs, 0⟩] scope pos) 0 (.ref it) (.ref D) (compEnvC scope (ownC h3.objs.size scope ++ clOf X.env.cells scope.names []) h3.objs.size X.env))
        (compPost (model X.prog X.w) X.A X.xe none (EP X pins σ Q) (.ref D) h3.objs.size) s5 := by
    rintro s5 rfl
    rw [← eEnv, ← eP, ← eW, ← eA]
    refine compLoop_go (fun n s' => ∃ i ys H', Inv Y [] (capS L.length ix σ) H' s' ∧ tn i s'.heap ∧ (∀ b ∈ fp, H' b = none) ∧ W i n ys H') ?_ m0 ⟨0, [], _, ?_, st4, fun b hb => (f3 b hb).1, w0⟩
    · rintro n s6 ⟨i, ys, H6, I6, st6, fr6, w6⟩
      obtain ⟨hl6, alt⟩ := turn i n ys H6 w6
      rcases alt with ⟨stop, qe⟩ | ⟨go, step⟩
      · have Td := T.done Y eP eW eK hcY i [] s6 _ H6 (fun _ _ => False) I6 (stat fr6) st6 stop
        rw [← eP, ← eW] at Td
        refine wpAny_mono Td (fun r s7 hr7 => ?_) fun _ _ f => f.elim
        obtain ⟨hr, I7⟩ := hr7
        subst hr
        rw [eP, eW, eA]
        exact fin I7 qe
      · have Ti := T.item Y eP eW eK hcY i [] s6 _ H6 (fun _ _ => False) I6 (stat fr6) st6 go
        rw [← eP, ← eW] at Ti
        refine wpAny_mono Ti (fun r s7 hr7 => ?_) fun _ _ f => f.elim
        obtain ⟨u, hr, h7⟩ := hr7
        subst hr
        refine wpAny_mono h7 (fun _ s8 hr8 => ?_) fun _ _ f => f.elim
        obtain ⟨x, H8, I8, r8, y8, st8, fr8⟩ := hr8
        have I8' := I8.pinned (stat fr8) (T.obj _ _ st8)
        have stp := hgo _ _ _ _ (step x H8 y8)
        refine wpAny_mono (gY _ s8 _ H8 x u _ I8' r8 stp) (fun _ s9 ⟨σ9, H9, I9, ⟨k1, k2⟩, q9⟩ => ?_) fun _ _ f => by rw [xeY] at f; exact f.elim
        have weak : ∀ {Hz : Hp} {sz : Shared}, Inv Y ([] ++ pinsAt fp s8.heap) σ9 Hz sz → Inv Y [] (capS L.length ix σ) Hz sz ∧ tn (i + 1) sz.heap ∧ ∀ b ∈ fp, Hz b = none := fun {Hz sz} Iz => by
          refine ⟨Iz.unpinned.weak k1.symm fun j v e => ?_, T.keep _ _ _ st8 fun b hb o e => (Iz.pin (b, o) (List.mem_append_right _ (List.mem_append_right _ (mem_pinsAt hb e)))).1, fun b hb => ?_⟩
          · by_cases hj : L.length ≤ j
            · rw [k2 j hj]; exact e
            · unfold capS at e
              rw [List.getElem?_append_left (by simpa using Nat.lt_of_not_le hj), List.getElem?_replicate, if_pos (Nat.lt_of_not_le hj)] at e
              cases e
          · obtain ⟨o, e, d⟩ := T.obj _ _ st8 b hb
            exact (Iz.pin (b, o) (List.mem_append_right _ (List.mem_append_right _ (mem_pinsAt hb e)))).2.1
        refine wpAny_mono (tY _ s9 σ9 H9 _ I9 q9) (fun ok s10 ⟨H10, I10, q10⟩ => ?_) fun _ _ f => by rw [xeY] at f; exact f.elim
        cases ok with
        | false =>
          have q10' : ∃ m', m' < n ∧ W (i + 1) m' ys H10 := q10
          obtain ⟨m', hm', w10⟩ := q10'
          obtain ⟨z1, z2, z3⟩ := weak I10
          exact ⟨m', hm', i + 1, ys, H10, z1, z2, z3, w10⟩
        | true =>
          refine wpAny_mono (pY _ s10 σ9 H10 _ I10 q10) (fun xv s11 ⟨v, H11, I11, r11, hl11, hz11, m', hm', w11⟩ => ?_) fun _ _ f => by rw [xeY] at f; exact f.elim
          refine wpAny_mono (mt_append (X := Y) _ s11 σ9 H11 (.ref D) [v] (.ref D) [xv] (fun _ Hq => Hq = upd H11 D (.lst (ys ++ [v]))) I11 rfl (.cons r11 .nil) ⟨D, ys, v, rfl, rfl, hl11, hz11, rfl⟩) (fun _ s12 ⟨_, H12, I12, _, e12⟩ => ?_) fun _ _ f => by rw [xeY] at f; exact f.elim
          subst e12
          obtain ⟨z1, z2, z3⟩ := weak I12
          exact ⟨m', hm', i + 1, ys ++ [v], _, z1, z2, z3, w11⟩
    · exact I4
  exact codeAny_compStart_list (key _ rfl) (T.self _ 0 _ _ _ st4 (key _ rfl))
end
end L2
set_option Elab.async false
set_option linter.all false
set_option maxRecDepth 100000
set_option maxHeartbeats 4000000
namespace L2
open PySem PySem.Spec PyProof.Rows
def compOkC (sc scope : Scope) (N : List Str) (ix : List Nat) : Bool :=
  (scope.names.all fun y => (y.2 != .free || sc.names.lookup y.1 == some .cell) && (y.2 != .local || scope.names.lookup y.1 == some .local) && (y.2 != .free || !(scope.names.contains (y.1, NameKind.cell)))) &&
  ((ix.map fun i => N.getD i "").all fun x => scope.names.lookup x != some .local && !(scope.names.contains (x, NameKind.cell))) && ix.all (fun i => decide (i < N.length))
section
variable {X : Cx}
theorem pe_compK {elt tg iter : Expr} {ifs : List Expr} {scope : Scope} {pos : Pos} {wi : TI} {g : TG} {tc : TT} {te : TE} (L : List Str) (ix : List Nat) (M : List Str) (hc : X.calm = true) (hk : scope.kind = .function)
    (hd : compOkC X.env.scope scope X.N ix = true) (hM : M = L ++ ix.map fun i => X.N.getD i "") (hi : PI X tg iter wi)
    (hg : ∀ C s₃ H₃ fp, PG (cxCompC X M scope C s₃ H₃ fp) tg g) (hgo : GOnly L.length g)
    (ht : ∀ C s₃ H₃ fp, PTs (cxCompC X M scope C s₃ H₃ fp) ifs tc) (he : ∀ C s₃ H₃ fp, PE (cxCompC X M scope C s₃ H₃ fp) elt te)
    (hs : ∀ x, foldedSetIterable iter X.env x = pure x := by intro _; rfl) :
    PE X (.ListComp elt [⟨tg, iter, ifs, 0⟩] scope pos) (tComp L.length ix wi g tc te) := by
  unfold compOkC at hd
  simp only [Bool.and_eq_true, List.all_eq_true, bne_iff_ne, ne_eq, Bool.or_eq_true, beq_iff_eq, decide_eq_true_eq, Bool.not_eq_true', List.contains_eq_mem, decide_eq_false_iff_not] at hd
  obtain ⟨⟨d1, d2⟩, d3⟩ := hd
  have eM : M = L ++ capN X ix := by rw [hM]; unfold capN; rfl
  subst eM
  refine pe_compC (L := L) (ix := ix) hc ⟨hk, fun y hy e => ?_, fun y hy e => ?_, fun x hx => ?_, fun y hy e => ?_⟩ d3 hi hg hgo ht he hs
  · rcases (d1 y hy).1.1 with z | z
    · exact absurd e z
    · exact z
  · rcases (d1 y hy).1.2 with z | z
    · exact absurd e z
    · exact z
  · unfold capN at hx
    exact d2 x hx
  · rcases (d1 y hy).2 with z | z
    · exact absurd e z
    · exact z
end
end L2
set_option Elab.async false
set_option linter.all false
set_option maxRecDepth 100000
set_option maxHeartbeats 4000000
namespace L2
open PySem PySem.Spec PyProof.Rows
section
variable {X : Cx} {K : PySem.W.Frag}
end
end L2
set_option Elab.async false
set_option linter.all false
set_option maxRecDepth 100000
set_option maxHeartbeats 4000000
namespace L2
open PySem PySem.Spec PyProof.Rows
section
variable {X : Cx}
theorem ps_setC {elt tg iter : Expr} {ifs : List Expr} {scope : Scope} {pos : Pos} {L : List Str} {ix : List Nat} {wi : TI} {g : TG} {tc : TT} {te : TE} {i0 : Nat} {x0 : Str} {pos' spos : Pos} (hN : X.N.Nodup) (hii : X.N[i0]? = some x0) (hx0 : Loc X.env.scope x0) (hf0 : X.fn x0 = true ∨ X.env.scope.names.lookup x0 = some .local)
    (hsw : swapsWith (.ListComp elt [⟨tg, iter, ifs, 0⟩] scope pos) (some (.Name x0 pos')) spos.line X.env = pure true) (hc : X.calm = true) (S : CompScopeC X scope (capN X ix)) (hix : ∀ i ∈ ix, i < X.N.length) (hi : PI X tg iter wi)
    (hg : ∀ C s₃ H₃ fp, PG (cxCompC X (L ++ capN X ix) scope C s₃ H₃ fp) tg g) (hgo : GOnly L.length g)
    (ht : ∀ C s₃ H₃ fp, PTs (cxCompC X (L ++ capN X ix) scope C s₃ H₃ fp) ifs tc) (he : ∀ C s₃ H₃ fp, PE (cxCompC X (L ++ capN X ix) scope C s₃ H₃ fp) elt te)
    (hs : ∀ x, foldedSetIterable iter X.env x = pure x := by intro _; rfl) :
    PS X (.Assign [.Name x0 pos'] (.ListComp elt [⟨tg, iter, ifs, 0⟩] scope pos) spos) (tAsg (tComp L.length ix wi g tc te) (gName i0)) := by
  intro pins s σ H Dn I h
  have h : tComp L.length ix wi g tc te σ H (fun v H1 => Dn.nx (σ.set i0 (some v)) H1) := h
  generalize hQ : (fun v H1 => Dn.nx (σ.set i0 (some v)) H1 : VK) = Q at h
  rw [exec_Assign_Name_used _ _ _ _ hsw]
  refine wpAny_bind (wpAny_standAt (wpAny_bind ?_))
  show wpAny _ _ (do let _ ← comprehension (.ListComp elt [⟨tg, iter, ifs, 0⟩] scope pos) scope X.env _ (newList []) false (eval iter X.env) (some (assign (.Name x0 pos') X.env))) _ _ s
  refine wpAny_bind (wpAny_mono (wpAny_comprehension_free (use := some (assign (.Name x0 pos') X.env)) (Q := fun _ s' => SP X pins Dn .next s') rfl hs (closureFor_of fun y hy e => I.ok.has y.1 (.inl (S.cell y hy e))) S.kind S.loc (thn (hi pins s σ H _ I h) fun xv s1 h1 => thn h1 fun itv s2 h2 => ?_)) (fun _ s' hq => wpAny_pure (wpAny_pure hq)) fun _ _ e => e)
  obtain ⟨it, fp, tn, J, H2, rfl, I2, T, st2, f2, q⟩ := h2
  have nD : H2 s2.heap.objs.size = none := I2.hok.fresh (Nat.le_refl _)
  obtain ⟨W, ⟨m0, w0⟩, turn⟩ := q _ nD
  generalize hD : s2.heap.objs.size = D at nD w0 turn
  have fD : ∀ b ∈ fp, b < D := fun b hb => by
    obtain ⟨o, e, _⟩ := T.obj _ _ st2 b hb
    rw [← hD]
    exact Heap.lt_size e
  have I3 : Inv X pins σ (upd H2 D (.lst [])) { s2 with heap := s2.heap.push { cls := .type "list", data := .seq ([] : List Value).toArray }, toks := s2.toks } := by
    rw [← hD]
    exact I2.laid (t' := s2.toks) (fun b u e => Heap.get?_push_of_some _ e) (Nat.le_refl _) ⟨by simp, [], 0, .nil, Heap.get?_push_size _ rfl⟩
  refine wpAny_newObj_type (newEnvC (fun h₁ hns₁ hsb₁ hcs₁ => ?_)) (by show 0 ≤ sizeLine; exact Nat.zero_le _)
  rw [hD]
  have st3 : tn 0 (s2.heap.push { cls := .type "list", data := .seq ([] : List Value).toArray }) := T.keep _ _ _ st2 fun b hb o e => Heap.get?_push_of_some _ e
  generalize hp3 : s2.heap.push { cls := .type "list", data := .seq ([] : List Value).toArray } = h3 at I3 st3 hns₁ hsb₁ hcs₁
  dsimp only at hns₁ hsb₁ hcs₁ ⊢
  have sz3 : h3.objs.size = D + 1 := by rw [← hp3, Heap.size_push, hD]
  have old : ∀ b u, h3.get? b = some u → h₁.get? b = some u := fun b u e => hsb₁ b u e
  have f3 : ∀ b ∈ fp, FpOk X pins (upd H2 D (.lst [])) b := fun b hb => ⟨by rw [upd_ne (Nat.ne_of_lt (fD b hb))]; exact (f2 b hb).1, (f2 b hb).2⟩
  have I4 := inv_compC (L := L) (ix := ix) (t' := s2.toks) S I3 f3 (fun b hb => by show b < h3.objs.size; rw [sz3]; exact Nat.lt_succ_of_lt (fD b hb)) hix (h' := h₁) hns₁ old hcs₁
  have st4 : tn 0 h₁ := T.keep _ _ _ st3 fun b hb o e => old b o e
  generalize hC : (cxCompC X (L ++ capN X ix) scope h3.objs.size { s2 with heap := h3, toks := s2.toks } (upd H2 D (.lst [])) fp) = Y at I4
  have eEnv : Y.env = compEnvC scope (ownC h3.objs.size scope ++ clOf X.env.cells scope.names []) h3.objs.size X.env := by rw [← hC]; rfl
  have hcY : Y.calm = true := by rw [← hC]; exact hc
  have xeY : Y.xe = fun _ _ => False := by rw [← hC]; rfl
  have eP : Y.prog = X.prog := by rw [← hC]; rfl
  have eW : Y.w = X.w := by rw [← hC]; rfl
  have eK : Y.K = X.K := by rw [← hC]; rfl
  have eA : Y.A = X.A := by rw [← hC]; rfl
  have gY : PG Y tg g := by rw [← hC]; exact hg _ _ _ _
  have tY : PTs Y ifs tc := by rw [← hC]; exact ht _ _ _ _
  have pY : PE Y elt te := by rw [← hC]; exact he _ _ _ _
  have stat : ∀ {H' : Hp}, (∀ b ∈ fp, H' b = none) → ∀ b ∈ fp, FpOk Y [] H' b := fun {H'} hn b hb => by
    have z1 : b ∈ Y.ex := by rw [← hC]; exact hb
    have zp : Y.pn = [] := by rw [← hC]; rfl
    refine ⟨hn b hb, (I4.ok.exf b z1).1, I4.ok.exfs b z1, .inl z1, (I4.ok.exf b z1).2, fun p hp => ?_⟩
    rw [zp] at hp
    exact absurd hp (by simp)
  have fin : ∀ {H' : Hp} {s' : Shared}, Inv Y [] (capS L.length ix σ) H' s' → Q (.ref D) H' → compPost (model X.prog X.w) X.A X.xe (some (assign (.Name x0 pos') X.env)) (fun _ s' => SP X pins Dn .next s') (.ref D) h3.objs.size (.ok .next) s' := by
    intro H' s' J' qe
    obtain ⟨m, hm, _⟩ := J'.loc
    rw [eEnv] at hm
    have hfr : H' h3.objs.size = none := by
      have := J'.free
      rw [eEnv] at this
      exact this
    have mk : ∀ h', Heap.SameBut h3.objs.size s'.heap h' → Inv X pins σ H' { s' with heap := h' } := by
      intro h' sb
      have hfr : H' h3.objs.size = none := by
        have := J'.free
        rw [eEnv] at this
        exact this
      have neC : ∀ b u, H' b = some u → b ≠ h3.objs.size := fun b u e z => by rw [z, hfr] at e; cases e
      have base : Un (frs X.stack) fp (upd H2 D (.lst [])) H' h3 s'.heap := by
        have := J'.base
        rw [← hC] at this
        exact this
      have to' : ∀ b o, b ≠ h3.objs.size → s'.heap.get? b = some o → h'.get? b = some o := fun b o hb e => sb.extBut b o hb e
      have lt3 : ∀ b o, h3.get? b = some o → b ≠ h3.objs.size := fun b o e => Nat.ne_of_lt (Heap.lt_size e)
      have un : Un (frs X.stack) fp (upd H2 D (.lst [])) H' h3 h' :=
        ⟨fun b o e n hb hx => to' b o (lt3 b o e) (base.keep b o e n hb hx),
         fun b o e n hb hx => by
          obtain ⟨sl, z⟩ := base.slot b o e n hb hx
          exact ⟨sl, to' _ _ (lt3 b o e) z⟩,
         base.free,
         fun b o e hx => by
          obtain ⟨o', z⟩ := base.there b o e hx
          exact ⟨o', to' _ _ (lt3 b o e) z⟩,
         base.tups, base.frzs, base.tbls⟩
      have hok : HOk X.prog X.w H' h' := fun b u e => by
        have z := J'.hok b u e
        rw [eP, eW] at z
        refine z.stay (fun c v hcv qv => to' c v ?_ qv) (fun _ qq => qq) fun _ _ qq => qq
        rcases hcv with zz | zz
        · rw [zz]; exact neC b u e
        · exact neC c _ zz
      refine I3.call' (s' := { s' with heap := h' }) (ch := fp) ?_ un hok J'.bare fun b hb => ?_
      · have := J'.os
        rw [← hC] at this
        exact this
      · obtain ⟨_, g1, g2, g3, g4, g5⟩ := f2 b hb
        exact ⟨g3, g1, g4, g5⟩
    have I5 : Inv X pins σ H' s' := mk s'.heap (Heap.SameBut.refl ..)
    show wpAny _ _ (assign (.Name x0 pos') X.env (.ref D)) _ _ s'
    refine wpAny_assign_Name (store_ok2 (v := .ref D) I5 hN hii hx0 rfl (fun s'' I6 hh => ?_) hf0)
    obtain ⟨a6, sb6, ha6⟩ := hh
    have neC : a6 ≠ h3.objs.size := by
      rcases ha6 with z | z
      · rw [z]; exact Nat.ne_of_lt I3.lt
      · obtain ⟨v6, q6⟩ := I3.cell x0 a6 z
        exact Nat.ne_of_lt q6.lt
    refine ⟨m, hm.sameBut sb6 (Ne.symm neC), fun h'' sb2 => ⟨_, H', ?_, by rw [← hQ] at qe; exact qe⟩⟩
    refine Inv.turnedL (t' := s''.toks) (fp := [h3.objs.size]) I6 (fun b o hb e => sb2.extBut b o (by simpa using hb) e) fun b hb => ?_
    have e : b = h3.objs.size := by simpa using hb
    subst e
    exact I3.fpOk (Nat.le_refl _) hfr
  have key : ∀ s5 : Shared, s5 = { s2 with heap := h₁, toks := s2.toks } →
      codeAny (model X.prog X.w) X.A (.compLoop (.ListComp elt [⟨tg, iter, ifs, 0⟩] scope pos) 0 (.ref it) (.ref D) (compEnvC scope (ownC h3.objs.size scope ++ clOf X.env.cells scope.names []) h3.objs.size X.env))
        (compPost (model X.prog X.w) X.A X.xe (some (assign (.Name x0 pos') X.env)) (fun _ s' => SP X pins Dn .next s') (.ref D) h3.objs.size) s5 := by
    rintro s5 rfl
    rw [← eEnv, ← eP, ← eW, ← eA]
    refine compLoop_go (fun n s' => ∃ i ys H', Inv Y [] (capS L.length ix σ) H' s' ∧ tn i s'.heap ∧ (∀ b ∈ fp, H' b = none) ∧ W i n ys H') ?_ m0 ⟨0, [], _, ?_, st4, fun b hb => (f3 b hb).1, w0⟩
    · rintro n s6 ⟨i, ys, H6, I6, st6, fr6, w6⟩
      obtain ⟨hl6, alt⟩ := turn i n ys H6 w6
      rcases alt with ⟨stop, qe⟩ | ⟨go, step⟩
      · have Td := T.done Y eP eW eK hcY i [] s6 _ H6 (fun _ _ => False) I6 (stat fr6) st6 stop
        rw [← eP, ← eW] at Td
        refine wpAny_mono Td (fun r s7 hr7 => ?_) fun _ _ f => f.elim
        obtain ⟨hr, I7⟩ := hr7
        subst hr
        rw [eP, eW, eA]
        exact fin I7 qe
      · have Ti := T.item Y eP eW eK hcY i [] s6 _ H6 (fun _ _ => False) I6 (stat fr6) st6 go
        rw [← eP, ← eW] at Ti
        refine wpAny_mono Ti (fun r s7 hr7 => ?_) fun _ _ f => f.elim
        obtain ⟨u, hr, h7⟩ := hr7
        subst hr
        refine wpAny_mono h7 (fun _ s8 hr8 => ?_) fun _ _ f => f.elim
        obtain ⟨x, H8, I8, r8, y8, st8, fr8⟩ := hr8
        have I8' := I8.pinned (stat fr8) (T.obj _ _ st8)
        have stp := hgo _ _ _ _ (step x H8 y8)
        refine wpAny_mono (gY _ s8 _ H8 x u _ I8' r8 stp) (fun _ s9 ⟨σ9, H9, I9, ⟨k1, k2⟩, q9⟩ => ?_) fun _ _ f => by rw [xeY] at f; exact f.elim
        have weak : ∀ {Hz : Hp} {sz : Shared}, Inv Y ([] ++ pinsAt fp s8.heap) σ9 Hz sz → Inv Y [] (capS L.length ix σ) Hz sz ∧ tn (i + 1) sz.heap ∧ ∀ b ∈ fp, Hz b = none := fun {Hz sz} Iz => by
          refine ⟨Iz.unpinned.weak k1.symm fun j v e => ?_, T.keep _ _ _ st8 fun b hb o e => (Iz.pin (b, o) (List.mem_append_right _ (List.mem_append_right _ (mem_pinsAt hb e)))).1, fun b hb => ?_⟩
          · by_cases hj : L.length ≤ j
            · rw [k2 j hj]; exact e
            · unfold capS at e
              rw [List.getElem?_append_left (by simpa using Nat.lt_of_not_le hj), List.getElem?_replicate, if_pos (Nat.lt_of_not_le hj)] at e
              cases e
          · obtain ⟨o, e, d⟩ := T.obj _ _ st8 b hb
            exact (Iz.pin (b, o) (List.mem_append_right _ (List.mem_append_right _ (mem_pinsAt hb e)))).2.1
        refine wpAny_mono (tY _ s9 σ9 H9 _ I9 q9) (fun ok s10 ⟨H10, I10, q10⟩ => ?_) fun _ _ f => by rw [xeY] at f; exact f.elim
        cases ok with
        | false =>
          have q10' : ∃ m', m' < n ∧ W (i + 1) m' ys H10 := q10
          obtain ⟨m', hm', w10⟩ := q10'
          obtain ⟨z1, z2, z3⟩ := weak I10
          exact ⟨m', hm', i + 1, ys, H10, z1, z2, z3, w10⟩
        | true =>
          refine wpAny_mono (pY _ s10 σ9 H10 _ I10 q10) (fun xv s11 ⟨v, H11, I11, r11, hl11, hz11, m', hm', w11⟩ => ?_) fun _ _ f => by rw [xeY] at f; exact f.elim
          refine wpAny_mono (mt_append (X := Y) _ s11 σ9 H11 (.ref D) [v] (.ref D) [xv] (fun _ Hq => Hq = upd H11 D (.lst (ys ++ [v]))) I11 rfl (.cons r11 .nil) ⟨D, ys, v, rfl, rfl, hl11, hz11, rfl⟩) (fun _ s12 ⟨_, H12, I12, _, e12⟩ => ?_) fun _ _ f => by rw [xeY] at f; exact f.elim
          subst e12
          obtain ⟨z1, z2, z3⟩ := weak I12
          exact ⟨m', hm', i + 1, ys ++ [v], _, z1, z2, z3, w11⟩
    · exact I4
  exact codeAny_compStart_list (key _ rfl) (T.self _ 0 _ _ _ st4 (key _ rfl))
theorem ps_setK {elt tg iter : Expr} {ifs : List Expr} {scope : Scope} {pos : Pos} {wi : TI} {g : TG} {tc : TT} {te : TE} {x0 : Str} {pos' spos : Pos} (i0 : Nat) (L : List Str) (ix : List Nat) (M : List Str) (hN : X.N.Nodup) (hii : X.N[i0]? = some x0) (hx0 : X.env.scope.names.lookup x0 = some .local)
    (hsw : swapsWith (.ListComp elt [⟨tg, iter, ifs, 0⟩] scope pos) (some (.Name x0 pos')) spos.line X.env = pure true) (hc : X.calm = true) (hk : scope.kind = .function)
    (hd : compOkC X.env.scope scope X.N ix = true) (hM : M = L ++ ix.map fun i => X.N.getD i "") (hi : PI X tg iter wi)
    (hg : ∀ C s₃ H₃ fp, PG (cxCompC X M scope C s₃ H₃ fp) tg g) (hgo : GOnly L.length g)
    (ht : ∀ C s₃ H₃ fp, PTs (cxCompC X M scope C s₃ H₃ fp) ifs tc) (he : ∀ C s₃ H₃ fp, PE (cxCompC X M scope C s₃ H₃ fp) elt te)
    (hs : ∀ x, foldedSetIterable iter X.env x = pure x := by intro _; rfl) :
    PS X (.Assign [.Name x0 pos'] (.ListComp elt [⟨tg, iter, ifs, 0⟩] scope pos) spos) (tAsg (tComp L.length ix wi g tc te) (gName i0)) := by
  unfold compOkC at hd
  simp only [Bool.and_eq_true, List.all_eq_true, bne_iff_ne, ne_eq, Bool.or_eq_true, beq_iff_eq, decide_eq_true_eq, Bool.not_eq_true', List.contains_eq_mem, decide_eq_false_iff_not] at hd
  obtain ⟨⟨d1, d2⟩, d3⟩ := hd
  have eM : M = L ++ capN X ix := by rw [hM]; unfold capN; rfl
  subst eM
  refine ps_setC (L := L) (ix := ix) hN hii (.inl hx0) (.inr hx0) hsw hc ⟨hk, fun y hy e => ?_, fun y hy e => ?_, fun x hx => ?_, fun y hy e => ?_⟩ d3 hi hg hgo ht he hs
  · rcases (d1 y hy).1.1 with z | z
    · exact absurd e z
    · exact z
  · rcases (d1 y hy).1.2 with z | z
    · exact absurd e z
    · exact z
  · unfold capN at hx
    exact d2 x hx
  · rcases (d1 y hy).2 with z | z
    · exact absurd e z
    · exact z
end
end L2
set_option Elab.async false
set_option linter.all false
set_option maxRecDepth 100000
set_option maxHeartbeats 4000000
namespace L2
open PySem PySem.Spec PyProof.Rows
section
variable {X : Cx} {pins : List (Addr × Obj)} {σ : List (Option V)} {H : Hp} {s : Shared}
end
theorem KV.len {kvs : List (Key × V)} {vs : List (Key × Value)} (h : KV kvs vs) : kvs.length = vs.length := Paired.length h
section
variable {X : Cx} {tg : Expr}
end
end L2
set_option Elab.async false
set_option linter.all false
set_option maxRecDepth 100000
set_option maxHeartbeats 4000000
namespace L2
open PySem PySem.Spec PyProof.Rows
section
variable {κ : Type} [DecidableEq κ]
def valV (kvs : List (κ × V)) (k : κ) : Option V := (kvs.find? fun kv => decide (kv.1 = k)).map (·.2)
def putK (kvs : List (κ × V)) (k : κ) (v : V) : List (κ × V) :=
  if (kvs.any fun kv => decide (kv.1 = k)) = true then kvs.map (fun kv => if kv.1 = k then (kv.1, v) else kv) else kvs ++ [(k, v)]
def dropK (kvs : List (κ × V)) (k : κ) : List (κ × V) := kvs.filter fun kv => decide (kv.1 ≠ k)
theorem valV_pos {p : κ × V} {r : List (κ × V)} {k : κ} (e : p.1 = k) : valV (p :: r) k = some p.2 := by simp [valV, List.find?_cons, e]
theorem valV_neg {p : κ × V} {r : List (κ × V)} {k : κ} (e : ¬ p.1 = k) : valV (p :: r) k = valV r k := by simp [valV, List.find?_cons, e]
theorem valV_any (k : κ) : ∀ kvs : List (κ × V), (kvs.any fun kv => decide (kv.1 = k)) = (valV kvs k).isSome
  | [] => rfl
  | p :: r => by
    rw [List.any_cons]
    by_cases e : p.1 = k
    · simp only [valV_pos e, decide_eq_true e, Bool.true_or, Option.isSome_some]
    · rw [valV_neg e, decide_eq_false e, Bool.false_or]; exact valV_any k r
theorem RelO.isSome_eq {o : Option V} {u : Option Value} (r : RelO o u) : o.isSome = u.isSome := by
  cases o with
  | none => cases u with
    | none => rfl
    | some _ => exact (show False from r).elim
  | some _ => cases u with
    | none => exact (show False from r).elim
    | some _ => rfl
theorem RelO.getD {o : Option V} {u : Option Value} {d : V} {d' : Value} (r : RelO o u) (rd : RelV d d') : RelV (o.getD d) (u.getD d') := by
  cases o with
  | none => cases u with
    | none => exact rd
    | some _ => exact (show False from r).elim
  | some _ => cases u with
    | none => exact (show False from r).elim
    | some _ => exact r
theorem KV.val {kvs : List (κ × V)} {vs : List (κ × Value)} (r : KV kvs vs) (k : κ) : RelO (valV kvs k) (valueAt vs k) := by
  unfold KV at r
  induction r with
  | nil => exact True.intro
  | @cons p q ps qs h t ih =>
    obtain ⟨h1, h2⟩ := h
    by_cases e : p.1 = k
    · have e' : q.1 = k := h1.symm.trans e
      have b : valueAt (q :: qs) k = some q.2 := by simp [valueAt, List.find?_cons, e']
      rw [valV_pos e, b]; exact h2
    · have e' : ¬ q.1 = k := fun z => e (h1.trans z)
      have b : valueAt (q :: qs) k = valueAt qs k := by simp [valueAt, List.find?_cons, e']
      rw [valV_neg e, b]; exact ih
theorem KV.any {kvs : List (κ × V)} {vs : List (κ × Value)} (r : KV kvs vs) (k : κ) : (kvs.any fun kv => decide (kv.1 = k)) = vs.any fun kv => decide (kv.1 = k) := by
  unfold KV at r
  induction r with
  | nil => rfl
  | cons h t ih => rw [List.any_cons, List.any_cons, ih, h.1]
theorem KV.repl {kvs : List (κ × V)} {vs : List (κ × Value)} (r : KV kvs vs) (k : κ) {y : V} {u : Value} (ry : RelV y u) :
    KV (kvs.map fun kv => if kv.1 = k then (kv.1, y) else kv) (vs.map fun kv => if kv.1 = k then (kv.1, u) else kv) := by
  unfold KV at r ⊢
  induction r with
  | nil => exact .nil
  | @cons p q ps qs h t ih =>
    rw [List.map_cons, List.map_cons]
    refine .cons ?_ ih
    obtain ⟨h1, h2⟩ := h
    by_cases e : p.1 = k
    · rw [if_pos e, if_pos (h1.symm.trans e)]; exact ⟨h1, ry⟩
    · rw [if_neg e, if_neg (fun z => e (h1.trans z))]; exact ⟨h1, h2⟩
theorem KV.put {kvs : List (κ × V)} {vs : List (κ × Value)} (r : KV kvs vs) (k : κ) {y : V} {u : Value} (ry : RelV y u) : KV (putK kvs k y) (stored vs k u) := by
  unfold putK stored
  rw [r.any k]
  by_cases e : (vs.any fun kv => decide (kv.1 = k)) = true
  · rw [if_pos e, if_pos e]; exact r.repl k ry
  · rw [if_neg e, if_neg e]; exact Paired.snoc r ⟨rfl, ry⟩
theorem KV.drop {kvs : List (κ × V)} {vs : List (κ × Value)} (r : KV kvs vs) (k : κ) : KV (dropK kvs k) (without vs k) := by
  unfold KV at r ⊢
  unfold dropK without
  induction r with
  | nil => exact .nil
  | @cons p q ps qs h t ih =>
    obtain ⟨h1, h2⟩ := h
    rw [List.filter_cons, List.filter_cons]
    by_cases e : p.1 = k
    · have a : ¬ decide (p.1 ≠ k) = true := by simp [e]
      have b : ¬ decide (q.1 ≠ k) = true := by simp [h1.symm.trans e]
      rw [if_neg a, if_neg b]; exact ih
    · have e' : ¬ q.1 = k := fun z => e (h1.trans z)
      have a : decide (p.1 ≠ k) = true := by simp [e]
      have b : decide (q.1 ≠ k) = true := by simp [e']
      rw [if_pos a, if_pos b]; exact .cons ⟨h1, h2⟩ ih
theorem KV.keys {kvs : List (κ × V)} {vs : List (κ × Value)} (r : KV kvs vs) : kvs.map (·.1) = vs.map (·.1) := by
  unfold KV at r
  induction r with
  | nil => rfl
  | cons h t ih => rw [List.map_cons, List.map_cons, ih, h.1]
theorem KV.length {kvs : List (κ × V)} {vs : List (κ × Value)} (r : KV kvs vs) : kvs.length = vs.length := Paired.length r
end
abbrev KT (H : Hp) : List (List Key × V) → List (List Key × Addr × Value) → Prop := Paired fun p q => p.1 = q.1 ∧ H q.2.1 = some (.tup (p.1.map kV)) ∧ RelV p.2 q.2.2
theorem KT.val {H : Hp} {kvs : List (List Key × V)} {xs : List (List Key × Addr × Value)} (r : KT H kvs xs) (k : List Key) : RelO (valV kvs k) ((atKey xs k).map (·.2)) := by
  induction r with
  | nil => exact True.intro
  | @cons p q ps qs h t ih =>
    obtain ⟨h1, _, h2⟩ := h
    by_cases e : p.1 = k
    · have e' : q.1 = k := h1.symm.trans e
      have b : atKey (q :: qs) k = some q.2 := by simp [atKey, List.find?_cons, e']
      rw [valV_pos e, b]; exact h2
    · have e' : ¬ q.1 = k := fun z => e (h1.trans z)
      have b : atKey (q :: qs) k = atKey qs k := by simp [atKey, List.find?_cons, e']
      rw [valV_neg e, b]; exact ih
theorem KT.repl {H : Hp} {kvs : List (List Key × V)} {xs : List (List Key × Addr × Value)} (r : KT H kvs xs) (k : List Key) {y : V} {u : Value} (ry : RelV y u) :
    KT H (kvs.map fun kv => if kv.1 = k then (kv.1, y) else kv) (xs.map (putAt k u)) := by
  induction r with
  | nil => exact .nil
  | @cons p q ps qs h t ih =>
    rw [List.map_cons, List.map_cons]
    refine .cons ?_ ih
    obtain ⟨h1, h2, h3⟩ := h
    unfold putAt
    by_cases e : p.1 = k
    · rw [if_pos e, if_pos (h1.symm.trans e)]; exact ⟨h1, h2, ry⟩
    · rw [if_neg e, if_neg (fun z => e (h1.trans z))]; exact ⟨h1, h2, h3⟩
theorem KT.put {H : Hp} {kvs : List (List Key × V)} {xs : List (List Key × Addr × Value)} (r : KT H kvs xs) (k : List Key) {b : Addr} {y : V} {u : Value} (hb : H b = some (.tup (k.map kV))) (ry : RelV y u) :
    KT H (putK kvs k y) (storedH xs k b u) := by
  have e : (kvs.any fun kv => decide (kv.1 = k)) = (atKey xs k).isSome := by
    rw [valV_any, (r.val k).isSome_eq, Option.isSome_map]
  unfold putK storedH
  rw [e]
  by_cases q : (atKey xs k).isSome = true
  · rw [if_pos q, if_pos q]; exact r.repl k ry
  · rw [if_neg q, if_neg q]; exact Paired.snoc r ⟨rfl, hb, ry⟩
theorem KT.keeps {H H' : Hp} {kvs : List (List Key × V)} {xs : List (List Key × Addr × Value)} (r : KT H kvs xs) (ht : ∀ b ys, H b = some (.tup ys) → H' b = some (.tup ys)) : KT H' kvs xs :=
  Paired.mapP r fun _ _ z => ⟨z.1, ht _ _ z.2.1, z.2.2⟩
section
variable {P : Program} {w : World} {H : Hp} {h : Heap} {a : Addr}
end
def DGet (H : Hp) (a : Addr) (y : V) (r : Option V) : Prop :=
  (∃ kvs k, Rd H a (.dK kvs) ∧ y = kV k ∧ r = valV kvs k) ∨ ∃ kvs k b, Rd H a (.dT kvs) ∧ y = .ref b ∧ H b = some (.tup (k.map kV)) ∧ r = valV kvs k
def DPut (H : Hp) (a : Addr) (y v : V) (H' : Hp) : Prop :=
  (∃ kvs k, H a = some (.dK kvs) ∧ y = kV k ∧ kvs.length < sizeLine ∧ H' = upd H a (.dK (putK kvs k v))) ∨
  ∃ kvs k b, H a = some (.dT kvs) ∧ y = .ref b ∧ H b = some (.tup (k.map kV)) ∧ kvs.length < sizeLine ∧ H' = upd H a (.dT (putK kvs k v))
theorem DGet.k {H : Hp} {a : Addr} {kvs : List (Key × V)} {k : Key} (e : H a = some (.dK kvs)) : DGet H a (kV k) (valV kvs k) := .inl ⟨kvs, k, .inl e, rfl, rfl⟩
theorem DGet.t {H : Hp} {a b : Addr} {kvs : List (List Key × V)} {k : List Key} (e : H a = some (.dT kvs)) (eb : H b = some (.tup (k.map kV))) : DGet H a (.ref b) (valV kvs k) := .inr ⟨kvs, k, b, .inl e, rfl, eb, rfl⟩
theorem DPut.k {H : Hp} {a : Addr} {kvs : List (Key × V)} {k : Key} {v : V} (e : H a = some (.dK kvs)) (hl : kvs.length < sizeLine) : DPut H a (kV k) v (upd H a (.dK (putK kvs k v))) := .inl ⟨kvs, k, e, rfl, hl, rfl⟩
theorem DPut.t {H : Hp} {a b : Addr} {kvs : List (List Key × V)} {k : List Key} {v : V} (e : H a = some (.dT kvs)) (eb : H b = some (.tup (k.map kV))) (hl : kvs.length < sizeLine) :
    DPut H a (.ref b) v (upd H a (.dT (putK kvs k v))) := .inr ⟨kvs, k, b, e, rfl, eb, hl, rfl⟩
section
variable {X : Cx} {pins : List (Addr × Obj)} {σ : St} {H : Hp} {s : Shared} {a : Addr} {y v : V} {u r : Value} {o : Option V} {A : Around} {E : Value → Shared → Prop}
end
section
variable {X : Cx} {pins : List (Addr × Obj)} {σ : St} {H : Hp} {s : Shared} {a : Addr} {kvs : List (Key × V)} {k : Key} {u : Value} {A : Around} {E : Value → Shared → Prop}
end
section
variable {X : Cx} {o i e value : Expr} {pos pos' tpos : Pos} {td ty tv : TE}
end
section
variable {X : Cx} {pos : Pos}
end
structure M1 (X : Cx) (o : Expr) (m : Str) (apos : Pos) (e : Expr) (cpos : Pos) : Prop where
  base : attributeBase o m X.env (eval o X.env) = eval o X.env
  few : ((backTo cpos (starEach [e] X.env)).all (fun x => !x.1) && (backToKw cpos (keywordEach [] X.env)).all (fun x => x.1.isSome)
    && decide (([e] : List Expr).length + ([] : List Keyword).length + (if ([] : List Keyword).isEmpty then 0 else 1) < 30)) = true
  line : (apos.endLine == cpos.line) = true
  trees : backTo cpos (starEach [e] X.env) = [(false, eval e X.env)]
structure M2 (X : Cx) (o : Expr) (m : Str) (apos : Pos) (e f : Expr) (cpos : Pos) : Prop where
  base : attributeBase o m X.env (eval o X.env) = eval o X.env
  few : ((backTo cpos (starEach [e, f] X.env)).all (fun x => !x.1) && (backToKw cpos (keywordEach [] X.env)).all (fun x => x.1.isSome)
    && decide (([e, f] : List Expr).length + ([] : List Keyword).length + (if ([] : List Keyword).isEmpty then 0 else 1) < 30)) = true
  line : (apos.endLine == cpos.line) = true
  trees : backTo cpos (starEach [e, f] X.env) = [(false, eval e X.env), (false, eval f X.env)]
section
variable {X : Cx} {pins : List (Addr × Obj)} {σ : St} {H : Hp} {s : Shared} {a : Addr} {y d : V} {u r : Value} {o : Option V} {A : Around} {E : Value → Shared → Prop}
end
section
variable {X : Cx} {o e f : Expr} {apos cpos : Pos} {td ty tx : TE}
end
section
variable {X : Cx} {pins : List (Addr × Obj)} {σ : St} {H : Hp} {s : Shared} {a : Addr} {kvs : List (Key × V)} {A : Around} {E : Value → Shared → Prop}
end
section
variable {X : Cx} {pins : List (Addr × Obj)} {σ : St} {H : Hp} {s : Shared} {a : Addr} {y : V} {u : Value} {A : Around} {E : Value → Shared → Prop}
end
end L2
namespace L2
open PySem PySem.Spec PyProof.Rows
section
variable {κ : Type} [DecidableEq κ]
end
end L2
set_option Elab.async false
set_option linter.all false
set_option maxRecDepth 100000
set_option maxHeartbeats 4000000
namespace L2
open PySem PySem.Spec PyProof.Rows
section
variable {prog : Program} {w : World} {A : Around} {R : Result → Shared → Prop} {s : Shared}
end
section
variable {X : Cx} {pins : List (Addr × Obj)} {σ : St} {H : Hp} {s : Shared} {a : Addr} {kvs : List (Key × V)} {k : Key} {v : V} {u r : Value} {A : Around} {E : Value → Shared → Prop}
end
section
variable {X : Cx}
end
end L2
set_option Elab.async false
set_option linter.all false
set_option maxRecDepth 100000
set_option maxHeartbeats 4000000
namespace L2
open PySem PySem.Spec PyProof.Rows
end L2
set_option Elab.async false
set_option linter.all false
set_option maxRecDepth 100000
set_option maxHeartbeats 4000000
namespace L2
open PySem PySem.Spec PyProof.Rows
section
variable {X : Cx}
end
end L2
set_option Elab.async false
set_option linter.all false
set_option maxRecDepth 100000
set_option maxHeartbeats 4000000
namespace L2
open PySem PySem.Spec PyProof.Rows
section
variable {prog : Program} {w : World} {A : Around} {E : Value → Shared → Prop} {s : Shared} {K : Type} [DecidableEq K] {knd : PySem.KeyKind prog w K}
end
end L2
namespace L2
open PySem PySem.Spec PyProof.Rows
end L2
set_option Elab.async false
set_option linter.all false
set_option maxRecDepth 100000
set_option maxHeartbeats 4000000
namespace L2
open PySem PySem.Spec PyProof.Rows
abbrev Em := Value → Env → Sem PySem.Fin → Sem PySem.Fin
def emApp (elt : Expr) : Em := fun acc env k => do
  let _ ← (do
    let x ← eval elt env
    let _ ← call (.builtin "list.append") [acc, x]
    pure ())
  k
def emRun (e : Expr) (d : Nat) (iter : Expr) : Em := fun acc env k => do
  let x ← eval iter env
  standAt iter.pos
  let x ← foldedSetIterable iter env x
  let it ← holding [x] (pyIter x)
  let _ ← runOwn (Code.compStart e d it acc env) env
  k
def turnOf (e : Expr) (d : Nat) (target iter : Expr) (ifs : List Expr) (em : Em) (it acc : Value) (env : Env) : Sem PySem.Fin := do
  standAt iter.pos
  let r ← pyNext it
  match r with
  | none => pure (.done .next)
  | some v => do
    letOwnedTupleGo target it v
    assign target env v
    let ok ← forIn ifs true fun c r => if r = true then do let ok ← isTrue c env (eval c env); pure (ForInStep.yield ok) else pure (ForInStep.yield r)
    if ok = true then em acc env (again (.compLoop e d it acc env))
    else again (.compLoop e d it acc env)
theorem turn20 (elt t0 i0 t1 i1 : Expr) (c0 c1 : List Expr) (scope : Scope) (pos : Pos) (it acc : Value) (env : Env) :
    compTurn (.ListComp elt [⟨t0, i0, c0, 0⟩, ⟨t1, i1, c1, 0⟩] scope pos) 0 it acc env = turnOf (.ListComp elt [⟨t0, i0, c0, 0⟩, ⟨t1, i1, c1, 0⟩] scope pos) 0 t0 i0 c0 (emRun (.ListComp elt [⟨t0, i0, c0, 0⟩, ⟨t1, i1, c1, 0⟩] scope pos) 1 i1) it acc env := by
  rfl
theorem turn21 (elt t0 i0 t1 i1 : Expr) (c0 c1 : List Expr) (scope : Scope) (pos : Pos) (it acc : Value) (env : Env) :
    compTurn (.ListComp elt [⟨t0, i0, c0, 0⟩, ⟨t1, i1, c1, 0⟩] scope pos) 1 it acc env = turnOf (.ListComp elt [⟨t0, i0, c0, 0⟩, ⟨t1, i1, c1, 0⟩] scope pos) 1 t1 i1 c1 (emApp elt) it acc env := by
  rfl
section
variable {prog : Program} {w : World} {A : Around} {R : Result → Shared → Prop} {s : Shared}
theorem loopE {elt : Expr} {gens : List Comprehension} {scope : Scope} {pos : Pos} {d : Nat} {target iter : Expr} {ifs : List Expr} {em : Em} {it acc : Value} {env : Env}
    (ht : compTurn (.ListComp elt gens scope pos) d it acc env = turnOf (.ListComp elt gens scope pos) d target iter ifs em it acc env) (I : Nat → Shared → Prop)
    (turn : ∀ n s, I n s → wpAny (model prog w) A (pyNext it) (fun r s₁ => match r with
      | none => R (.ok .next) s₁
      | some v => wpAny (model prog w) A (letOwnedTupleGo target it v) (fun _ s₀ => wpAny (model prog w) A (assign target env v) (fun _ s₂ =>
          wpAny (model prog w) A (forIn ifs true fun c r => if r = true then do let ok ← isTrue c env (eval c env); pure (ForInStep.yield ok) else pure (ForInStep.yield r)) (fun ok s₃ =>
            if ok = true then ∀ (k : Sem PySem.Fin) (P : PySem.Fin → Shared → Prop), (∀ s', (∃ m, m < n ∧ I m s') → wpAny (model prog w) A k P (notedBy (model prog w) A env fun e s' => R (.error e) s') s') → wpAny (model prog w) A (em acc env k) P (notedBy (model prog w) A env fun e s' => R (.error e) s') s₃
            else ∃ m, m < n ∧ I m s₃) (notedBy (model prog w) A env fun e s' => R (.error e) s') s₂) (notedBy (model prog w) A env fun e s' => R (.error e) s') s₀) (notedBy (model prog w) A env fun e s' => R (.error e) s') s₁) (notedBy (model prog w) A env fun e s' => R (.error e) s') s)
    (n : Nat) (h : I n s) :
    codeAny (model prog w) A (.compLoop (.ListComp elt gens scope pos) d it acc env) R s := by
  refine codeAny_loop rfl I (fun n s hI => ?_) n h
  show wpAny _ A ((compTurn (.ListComp elt gens scope pos) d it acc env).onRaise (fun x => do noteFrame x env; theTreesLotGoes x)) _ _ s
  refine wpAny_noted ?_
  rw [ht]
  unfold turnOf
  refine wpAny_bind (wpAny_standAt (wpAny_bind (wpAny_mono (turn n s hI) (fun r s₁ h₁ => ?_) fun _ _ h' => h')))
  cases r with
  | none => exact wpAny_pure h₁
  | some v =>
    refine wpAny_bind (wpAny_mono h₁ (fun _ s₀ h₀ => ?_) fun _ _ h' => h')
    refine wpAny_bind (wpAny_mono h₀ (fun _ s₂ h₂ => wpAny_bind (wpAny_mono h₂ (fun ok s₃ h₃ => ?_) fun _ _ h' => h')) fun _ _ h' => h')
    cases ok with
    | false => exact wpAny_pure ⟨rfl, h₃⟩
    | true => exact h₃ _ _ fun s' hs => wpAny_pure ⟨rfl, hs⟩
theorem startE {elt t0 i0 t1 i1 : Expr} {c0 c1 : List Expr} {scope : Scope} {pos : Pos} {it acc : Value} {env : Env}
    (h0 : codeAny (model prog w) A (.compLoop (.ListComp elt [⟨t0, i0, c0, 0⟩, ⟨t1, i1, c1, 0⟩] scope pos) 1 it acc env) R s)
    (h : wpAny (model prog w) A (pyIter it) (fun it' s' => codeAny (model prog w) A (.compLoop (.ListComp elt [⟨t0, i0, c0, 0⟩, ⟨t1, i1, c1, 0⟩] scope pos) 1 it' acc env) R s') (notedBy (model prog w) A env fun x s' => R (.error x) s') s) :
    codeAny (model prog w) A (.compStart (.ListComp elt [⟨t0, i0, c0, 0⟩, ⟨t1, i1, c1, 0⟩] scope pos) 1 it acc env) R s := by
  refine codeAny_of_tree ?_
  show wpAny _ _ ((compStart (.ListComp elt [⟨t0, i0, c0, 0⟩, ⟨t1, i1, c1, 0⟩] scope pos) 1 it acc env).onRaise (fun x => do noteFrame x env; standAt theWindowsPlace)) _ _ s
  refine wpAny_notedAt ?_
  unfold compStart
  show wpAny _ _ (ask >>= _) _ _ s
  refine wpAny_bind (wpAny_askSetting (wpAny_ite ?_))
  split
  · exact wpAny_bind (wpAny_pure (wpAny_pure ⟨rfl, h0⟩))
  · refine wpAny_bind (wpAny_rule ?_)
    show wpAny _ _ (standAt i1.pos >>= _) _ _ s
    exact wpAny_bind (wpAny_standAt (wpAny_bind (wpAny_mono h (fun it' s' h' => wpAny_pure ⟨rfl, h'⟩) fun _ _ x => x)))
end
abbrev TU := Addr → List V → St → Hp → (List V → Hp → Prop) → Prop
def PU (X : Cx) (em : Em) (tu : TU) : Prop := ∀ (pins : List (Addr × Obj)) (s : Shared) (σ : St) (H : Hp) (l : Addr) (ys : List V) (Q : List V → Hp → Prop) (k : Sem PySem.Fin) (P : PySem.Fin → Shared → Prop) (E : Value → Shared → Prop), Inv X pins σ H s → tu l ys σ H Q →
  (∀ s' ys' H', Inv X pins σ H' s' → Q ys' H' → wpAny (model X.prog X.w) X.A k P E s') → wpAny (model X.prog X.w) X.A (em (.ref l) X.env k) P E s
def tuApp (te : TE) : TU := fun l ys σ H Q => te σ H fun v H6 => H6 l = some (.lst ys) ∧ ys.length < sizeLine ∧ Q (ys ++ [v]) (upd H6 l (.lst (ys ++ [v])))
def tuRun (k : Nat) (wi : TI) (g : TG) (tc : TT) (tu : TU) : TU := fun l ys σ H Q => (∀ j, j < k → σ[j]? = some none) ∧ wi σ H fun J H1 => ∃ W : Nat → Nat → List V → Hp → Prop, (∃ m, W 0 m ys H1) ∧ ∀ i m ys H2, W i m ys H2 →
  ((J.stop i H2 ∧ Q ys H2) ∨ (J.go i H2 ∧ ∀ x H3, J.yld i H2 x H3 → g x σ H3 fun σ2 H4 => tc σ2 H4 fun b H5 =>
      if b = true then tu l ys σ2 H5 fun ys' H6 => ∃ m', m' < m ∧ W (i + 1) m' ys' H6 else ∃ m', m' < m ∧ W (i + 1) m' ys H5))
def tComp2 (k : Nat) (ix : List Nat) (wi : TI) (g : TG) (tc : TT) (tu : TU) : TE := fun σ H Q => wi σ H fun J H1 => ∀ l, H1 l = none →
  ∃ W : Nat → Nat → List V → Hp → Prop, (∃ m, W 0 m [] (upd H1 l (.lst []))) ∧ ∀ i m ys H2, W i m ys H2 →
    ((J.stop i H2 ∧ Q (.ref l) H2) ∨ (J.go i H2 ∧ ∀ x H3, J.yld i H2 x H3 → g x (capS k ix σ) H3 fun σ2 H4 => tc σ2 H4 fun b H5 =>
      if b = true then tu l ys σ2 H5 fun ys' H6 => ∃ m', m' < m ∧ W (i + 1) m' ys' H6 else ∃ m', m' < m ∧ W (i + 1) m' ys H5))
section
variable {X : Cx}
theorem pu_app {elt : Expr} {te : TE} (hx : X.xe = fun _ _ => False) (he : PE X elt te) : PU X (emApp elt) (tuApp te) := by
  intro pins s σ H l ys Q k P E I h hk
  unfold emApp
  refine wpAny_bind (wpAny_bind (wpAny_mono (he pins s σ H _ I h) (fun xv s1 ⟨v, H1, I1, r1, hl, hz, q⟩ => ?_) fun _ _ f => by rw [hx] at f; exact f.elim))
  refine wpAny_bind (wpAny_mono (mt_append (X := X) _ s1 σ H1 (.ref l) [v] (.ref l) [xv] (fun _ Hq => Hq = upd H1 l (.lst (ys ++ [v]))) I1 rfl (.cons r1 .nil) ⟨l, ys, v, rfl, rfl, hl, hz, rfl⟩) (fun _ s2 ⟨_, H2, I2, _, e2⟩ => ?_) fun _ _ f => by rw [hx] at f; exact f.elim)
  subst e2
  exact wpAny_pure (hk s2 _ _ I2 q)
theorem pu_run {elt t0 i0 tg iter : Expr} {c0 ifs : List Expr} {scope : Scope} {pos : Pos} {k2 : Nat} {wi : TI} {g : TG} {tc : TT} {tu : TU} (hx : X.xe = fun _ _ => False) (hc : X.calm = true) (hi : PI X tg iter wi) (hg : PG X tg g) (hgo : GOnly k2 g) (ht : PTs X ifs tc)
    (hu : PU X (emApp elt) tu) (hs : ∀ x, foldedSetIterable iter X.env x = pure x := by intro _; rfl) : PU X (emRun (.ListComp elt [⟨t0, i0, c0, 0⟩, ⟨tg, iter, ifs, 0⟩] scope pos) 1 iter) (tuRun k2 wi g tc tu) := by
  intro pins s σ H l ys Q k P E I ⟨hσ, h⟩ hk
  unfold emRun
  refine wpAny_bind (wpAny_mono (hi pins s σ H _ I h) (fun xv s1 h1 => wpAny_bind (wpAny_standAt ?_)) fun _ _ f => by rw [hx] at f; exact f.elim)
  rw [hs]
  refine wpAny_bind (wpAny_pure (wpAny_bind (wpAny_holding (wpAny_mono h1 (fun itv s2 h2 => ?_) fun _ _ f => by rw [hx] at f; exact f.elim))))
  obtain ⟨it, fp, tn, J, H2, rfl, I2, T, st2, f2, W, ⟨m0, w0⟩, turn⟩ := h2
  have stat : ∀ {H' : Hp}, (∀ b ∈ fp, H' b = none) → ∀ b ∈ fp, FpOk X pins H' b := fun hn b hb => ⟨hn b hb, (f2 b hb).2⟩
  have key : ∀ s5 : Shared, s5 = s2 → codeAny (model X.prog X.w) X.A (.compLoop (.ListComp elt [⟨t0, i0, c0, 0⟩, ⟨tg, iter, ifs, 0⟩] scope pos) 1 (.ref it) (.ref l) X.env)
      (fun r s' => match r with | .ok f => wpAny (model X.prog X.w) X.A k P E s' | .error e => cameBackBy (model X.prog X.w) X.A X.env E e s') s5 := by
    rintro s5 rfl
    refine loopE (turn21 ..) (fun n s' => ∃ i ys H', Inv X pins σ H' s' ∧ tn i s'.heap ∧ (∀ b ∈ fp, H' b = none) ∧ W i n ys H') ?_ m0 ⟨0, ys, _, I2, st2, fun b hb => (f2 b hb).1, w0⟩
    rintro n s6 ⟨i, ys, H6, I6, st6, fr6, w6⟩
    rcases turn i n ys H6 w6 with ⟨stop, qe⟩ | ⟨go, step⟩
    · have Td := T.done X rfl rfl rfl hc i pins s6 _ H6 (fun _ _ => False) I6 (stat fr6) st6 stop
      refine wpAny_mono Td (fun r s7 hr7 => ?_) fun _ _ f => f.elim
      obtain ⟨hr, I7⟩ := hr7
      subst hr
      exact hk s7 ys H6 I7 qe
    · have Ti := T.item X rfl rfl rfl hc i pins s6 _ H6 (fun _ _ => False) I6 (stat fr6) st6 go
      refine wpAny_mono Ti (fun r s7 hr7 => ?_) fun _ _ f => f.elim
      obtain ⟨u, hr, h7⟩ := hr7
      subst hr
      refine wpAny_mono h7 (fun _ s8 hr8 => ?_) fun _ _ f => f.elim
      obtain ⟨x, H8, I8, r8, y8, st8, fr8⟩ := hr8
      have I8' := I8.pinned (stat fr8) (T.obj _ _ st8)
      have stp := hgo _ _ _ _ (step x H8 y8)
      refine wpAny_mono (hg _ s8 _ H8 x u _ I8' r8 stp) (fun _ s9 ⟨σ9, H9, I9, ⟨k1, k2'⟩, q9⟩ => ?_) fun _ _ f => by rw [hx] at f; exact f.elim
      have weak : ∀ {Hz : Hp} {sz : Shared}, Inv X (pins ++ pinsAt fp s8.heap) σ9 Hz sz → Inv X pins σ Hz sz ∧ tn (i + 1) sz.heap ∧ ∀ b ∈ fp, Hz b = none := fun {Hz sz} Iz => by
        refine ⟨Iz.unpinned.weak k1.symm fun j v e => ?_, T.keep _ _ _ st8 fun b hb o e => (Iz.pin (b, o) (List.mem_append_right _ (List.mem_append_right _ (mem_pinsAt hb e)))).1, fun b hb => ?_⟩
        · by_cases hj : k2 ≤ j
          · rw [k2' j hj]; exact e
          · rw [hσ j (Nat.lt_of_not_le hj)] at e
            cases e
        · obtain ⟨o, e, d⟩ := T.obj _ _ st8 b hb
          exact (Iz.pin (b, o) (List.mem_append_right _ (List.mem_append_right _ (mem_pinsAt hb e)))).2.1
      refine wpAny_mono (ht _ s9 σ9 H9 _ I9 q9) (fun ok s10 ⟨H10, I10, q10⟩ => ?_) fun _ _ f => by rw [hx] at f; exact f.elim
      cases ok with
      | false =>
        have q10' : ∃ m', m' < n ∧ W (i + 1) m' ys H10 := q10
        obtain ⟨m', hm', w10⟩ := q10'
        obtain ⟨z1, z2, z3⟩ := weak I10
        exact ⟨m', hm', i + 1, ys, H10, z1, z2, z3, w10⟩
      | true =>
        show ∀ (k : Sem PySem.Fin) (P : PySem.Fin → Shared → Prop), _ → _
        intro k' P' hk'
        refine hu _ s10 σ9 H10 l ys _ k' P' _ I10 q10 fun s' ys' H' Iz ⟨m', hm', w11⟩ => ?_
        obtain ⟨z1, z2, z3⟩ := weak Iz
        exact hk' s' ⟨m', hm', i + 1, ys', H', z1, z2, z3, w11⟩
  exact wpAny_bind (wpAny_runOwn (h := none) (startE (key _ rfl) (T.self _ 0 _ _ _ st2 (key _ rfl))))
end
end L2
set_option Elab.async false
set_option linter.all false
set_option maxRecDepth 100000
set_option maxHeartbeats 4000000
namespace L2
open PySem PySem.Spec PyProof.Rows
section
variable {X : Cx}
theorem ps_set2C {elt tg iter t1 i1 : Expr} {ifs c1 : List Expr} {scope : Scope} {pos : Pos} {L : List Str} {ix : List Nat} {wi : TI} {g : TG} {tc : TT} {tu : TU} {i0 : Nat} {x0 : Str} {pos' spos : Pos} (hN : X.N.Nodup) (hii : X.N[i0]? = some x0) (hx0 : Loc X.env.scope x0) (hf0 : X.fn x0 = true ∨ X.env.scope.names.lookup x0 = some .local)
    (hsw : swapsWith (.ListComp elt [⟨tg, iter, ifs, 0⟩, ⟨t1, i1, c1, 0⟩] scope pos) (some (.Name x0 pos')) spos.line X.env = pure true) (hc : X.calm = true) (S : CompScopeC X scope (capN X ix)) (hix : ∀ i ∈ ix, i < X.N.length) (hi : PI X tg iter wi)
    (hg : ∀ C s₃ H₃ fp, PG (cxCompC X (L ++ capN X ix) scope C s₃ H₃ fp) tg g) (hgo : GOnly L.length g)
    (ht : ∀ C s₃ H₃ fp, PTs (cxCompC X (L ++ capN X ix) scope C s₃ H₃ fp) ifs tc) (he : ∀ C s₃ H₃ fp, PU (cxCompC X (L ++ capN X ix) scope C s₃ H₃ fp) (emRun (.ListComp elt [⟨tg, iter, ifs, 0⟩, ⟨t1, i1, c1, 0⟩] scope pos) 1 i1) tu)
    (hs : ∀ x, foldedSetIterable iter X.env x = pure x := by intro _; rfl) :
    PS X (.Assign [.Name x0 pos'] (.ListComp elt [⟨tg, iter, ifs, 0⟩, ⟨t1, i1, c1, 0⟩] scope pos) spos) (tAsg (tComp2 L.length ix wi g tc tu) (gName i0)) := by
  intro pins s σ H Dn I h
  have h : tComp2 L.length ix wi g tc tu σ H (fun v H1 => Dn.nx (σ.set i0 (some v)) H1) := h
  generalize hQ : (fun v H1 => Dn.nx (σ.set i0 (some v)) H1 : VK) = Q at h
  rw [exec_Assign_Name_used _ _ _ _ hsw]
  refine wpAny_bind (wpAny_standAt (wpAny_bind ?_))
  show wpAny _ _ (do let _ ← comprehension (.ListComp elt [⟨tg, iter, ifs, 0⟩, ⟨t1, i1, c1, 0⟩] scope pos) scope X.env _ (newList []) false (eval iter X.env) (some (assign (.Name x0 pos') X.env))) _ _ s
  refine wpAny_bind (wpAny_mono (wpAny_comprehension_free (use := some (assign (.Name x0 pos') X.env)) (Q := fun _ s' => SP X pins Dn .next s') rfl hs (closureFor_of fun y hy e => I.ok.has y.1 (.inl (S.cell y hy e))) S.kind S.loc (thn (hi pins s σ H _ I h) fun xv s1 h1 => thn h1 fun itv s2 h2 => ?_)) (fun _ s' hq => wpAny_pure (wpAny_pure hq)) fun _ _ e => e)
  obtain ⟨it, fp, tn, J, H2, rfl, I2, T, st2, f2, q⟩ := h2
  have nD : H2 s2.heap.objs.size = none := I2.hok.fresh (Nat.le_refl _)
  obtain ⟨W, ⟨m0, w0⟩, turn⟩ := q _ nD
  generalize hD : s2.heap.objs.size = D at nD w0 turn
  have fD : ∀ b ∈ fp, b < D := fun b hb => by
    obtain ⟨o, e, _⟩ := T.obj _ _ st2 b hb
    rw [← hD]
    exact Heap.lt_size e
  have I3 : Inv X pins σ (upd H2 D (.lst [])) { s2 with heap := s2.heap.push { cls := .type "list", data := .seq ([] : List Value).toArray }, toks := s2.toks } := by
    rw [← hD]
    exact I2.laid (t' := s2.toks) (fun b u e => Heap.get?_push_of_some _ e) (Nat.le_refl _) ⟨by simp, [], 0, .nil, Heap.get?_push_size _ rfl⟩
  refine wpAny_newObj_type (newEnvC (fun h₁ hns₁ hsb₁ hcs₁ => ?_)) (by show 0 ≤ sizeLine; exact Nat.zero_le _)
  rw [hD]
  have st3 : tn 0 (s2.heap.push { cls := .type "list", data := .seq ([] : List Value).toArray }) := T.keep _ _ _ st2 fun b hb o e => Heap.get?_push_of_some _ e
  generalize hp3 : s2.heap.push { cls := .type "list", data := .seq ([] : List Value).toArray } = h3 at I3 st3 hns₁ hsb₁ hcs₁
  dsimp only at hns₁ hsb₁ hcs₁ ⊢
  have sz3 : h3.objs.size = D + 1 := by rw [← hp3, Heap.size_push, hD]
  have old : ∀ b u, h3.get? b = some u → h₁.get? b = some u := fun b u e => hsb₁ b u e
  have f3 : ∀ b ∈ fp, FpOk X pins (upd H2 D (.lst [])) b := fun b hb => ⟨by rw [upd_ne (Nat.ne_of_lt (fD b hb))]; exact (f2 b hb).1, (f2 b hb).2⟩
  have I4 := inv_compC (L := L) (ix := ix) (t' := s2.toks) S I3 f3 (fun b hb => by show b < h3.objs.size; rw [sz3]; exact Nat.lt_succ_of_lt (fD b hb)) hix (h' := h₁) hns₁ old hcs₁
  have st4 : tn 0 h₁ := T.keep _ _ _ st3 fun b hb o e => old b o e
  generalize hC : (cxCompC X (L ++ capN X ix) scope h3.objs.size { s2 with heap := h3, toks := s2.toks } (upd H2 D (.lst [])) fp) = Y at I4
  have eEnv : Y.env = compEnvC scope (ownC h3.objs.size scope ++ clOf X.env.cells scope.names []) h3.objs.size X.env := by rw [← hC]; rfl
  have hcY : Y.calm = true := by rw [← hC]; exact hc
  have xeY : Y.xe = fun _ _ => False := by rw [← hC]; rfl
  have eP : Y.prog = X.prog := by rw [← hC]; rfl
  have eW : Y.w = X.w := by rw [← hC]; rfl
  have eK : Y.K = X.K := by rw [← hC]; rfl
  have eA : Y.A = X.A := by rw [← hC]; rfl
  have gY : PG Y tg g := by rw [← hC]; exact hg _ _ _ _
  have tY : PTs Y ifs tc := by rw [← hC]; exact ht _ _ _ _
  have pY : PU Y (emRun (.ListComp elt [⟨tg, iter, ifs, 0⟩, ⟨t1, i1, c1, 0⟩] scope pos) 1 i1) tu := by rw [← hC]; exact he _ _ _ _
  have stat : ∀ {H' : Hp}, (∀ b ∈ fp, H' b = none) → ∀ b ∈ fp, FpOk Y [] H' b := fun {H'} hn b hb => by
    have z1 : b ∈ Y.ex := by rw [← hC]; exact hb
    have zp : Y.pn = [] := by rw [← hC]; rfl
    refine ⟨hn b hb, (I4.ok.exf b z1).1, I4.ok.exfs b z1, .inl z1, (I4.ok.exf b z1).2, fun p hp => ?_⟩
    rw [zp] at hp
    exact absurd hp (by simp)
  have fin : ∀ {H' : Hp} {s' : Shared}, Inv Y [] (capS L.length ix σ) H' s' → Q (.ref D) H' → compPost (model X.prog X.w) X.A X.xe (some (assign (.Name x0 pos') X.env)) (fun _ s' => SP X pins Dn .next s') (.ref D) h3.objs.size (.ok .next) s' := by
    intro H' s' J' qe
    obtain ⟨m, hm, _⟩ := J'.loc
    rw [eEnv] at hm
    have hfr : H' h3.objs.size = none := by
      have := J'.free
      rw [eEnv] at this
      exact this
    have mk : ∀ h', Heap.SameBut h3.objs.size s'.heap h' → Inv X pins σ H' { s' with heap := h' } := by
      intro h' sb
      have hfr : H' h3.objs.size = none := by
        have := J'.free
        rw [eEnv] at this
        exact this
      have neC : ∀ b u, H' b = some u → b ≠ h3.objs.size := fun b u e z => by rw [z, hfr] at e; cases e
      have base : Un (frs X.stack) fp (upd H2 D (.lst [])) H' h3 s'.heap := by
        have := J'.base
        rw [← hC] at this
        exact this
      have to' : ∀ b o, b ≠ h3.objs.size → s'.heap.get? b = some o → h'.get? b = some o := fun b o hb e => sb.extBut b o hb e
      have lt3 : ∀ b o, h3.get? b = some o → b ≠ h3.objs.size := fun b o e => Nat.ne_of_lt (Heap.lt_size e)
      have un : Un (frs X.stack) fp (upd H2 D (.lst [])) H' h3 h' :=
        ⟨fun b o e n hb hx => to' b o (lt3 b o e) (base.keep b o e n hb hx),
         fun b o e n hb hx => by
          obtain ⟨sl, z⟩ := base.slot b o e n hb hx
          exact ⟨sl, to' _ _ (lt3 b o e) z⟩,
         base.free,
         fun b o e hx => by
          obtain ⟨o', z⟩ := base.there b o e hx
          exact ⟨o', to' _ _ (lt3 b o e) z⟩,
         base.tups, base.frzs, base.tbls⟩
      have hok : HOk X.prog X.w H' h' := fun b u e => by
        have z := J'.hok b u e
        rw [eP, eW] at z
        refine z.stay (fun c v hcv qv => to' c v ?_ qv) (fun _ qq => qq) fun _ _ qq => qq
        rcases hcv with zz | zz
        · rw [zz]; exact neC b u e
        · exact neC c _ zz
      refine I3.call' (s' := { s' with heap := h' }) (ch := fp) ?_ un hok J'.bare fun b hb => ?_
      · have := J'.os
        rw [← hC] at this
        exact this
      · obtain ⟨_, g1, g2, g3, g4, g5⟩ := f2 b hb
        exact ⟨g3, g1, g4, g5⟩
    have I5 : Inv X pins σ H' s' := mk s'.heap (Heap.SameBut.refl ..)
    show wpAny _ _ (assign (.Name x0 pos') X.env (.ref D)) _ _ s'
    refine wpAny_assign_Name (store_ok2 (v := .ref D) I5 hN hii hx0 rfl (fun s'' I6 hh => ?_) hf0)
    obtain ⟨a6, sb6, ha6⟩ := hh
    have neC : a6 ≠ h3.objs.size := by
      rcases ha6 with z | z
      · rw [z]; exact Nat.ne_of_lt I3.lt
      · obtain ⟨v6, q6⟩ := I3.cell x0 a6 z
        exact Nat.ne_of_lt q6.lt
    refine ⟨m, hm.sameBut sb6 (Ne.symm neC), fun h'' sb2 => ⟨_, H', ?_, by rw [← hQ] at qe; exact qe⟩⟩
    refine Inv.turnedL (t' := s''.toks) (fp := [h3.objs.size]) I6 (fun b o hb e => sb2.extBut b o (by simpa using hb) e) fun b hb => ?_
    have e : b = h3.objs.size := by simpa using hb
    subst e
    exact I3.fpOk (Nat.le_refl _) hfr
  have key : ∀ s5 : Shared, s5 = { s2 with heap := h₁, toks := s2.toks } →
      codeAny (model X.prog X.w) X.A (.compLoop (.ListComp elt [⟨tg, iter, ifs, 0⟩, ⟨t1, i1, c1, 0⟩] scope pos) 0 (.ref it) (.ref D) (compEnvC scope (ownC h3.objs.size scope ++ clOf X.env.cells scope.names []) h3.objs.size X.env))
        (compPost (model X.prog X.w) X.A X.xe (some (assign (.Name x0 pos') X.env)) (fun _ s' => SP X pins Dn .next s') (.ref D) h3.objs.size) s5 := by
    rintro s5 rfl
    rw [← eEnv, ← eP, ← eW, ← eA]
    refine loopE (turn20 ..) (fun n s' => ∃ i ys H', Inv Y [] (capS L.length ix σ) H' s' ∧ tn i s'.heap ∧ (∀ b ∈ fp, H' b = none) ∧ W i n ys H') ?_ m0 ⟨0, [], _, ?_, st4, fun b hb => (f3 b hb).1, w0⟩
    · rintro n s6 ⟨i, ys, H6, I6, st6, fr6, w6⟩
      have alt := turn i n ys H6 w6
      rcases alt with ⟨stop, qe⟩ | ⟨go, step⟩
      · have Td := T.done Y eP eW eK hcY i [] s6 _ H6 (fun _ _ => False) I6 (stat fr6) st6 stop
        rw [← eP, ← eW] at Td
        refine wpAny_mono Td (fun r s7 hr7 => ?_) fun _ _ f => f.elim
        obtain ⟨hr, I7⟩ := hr7
        subst hr
        rw [eP, eW, eA]
        exact fin I7 qe
      · have Ti := T.item Y eP eW eK hcY i [] s6 _ H6 (fun _ _ => False) I6 (stat fr6) st6 go
        rw [← eP, ← eW] at Ti
        refine wpAny_mono Ti (fun r s7 hr7 => ?_) fun _ _ f => f.elim
        obtain ⟨u, hr, h7⟩ := hr7
        subst hr
        refine wpAny_mono h7 (fun _ s8 hr8 => ?_) fun _ _ f => f.elim
        obtain ⟨x, H8, I8, r8, y8, st8, fr8⟩ := hr8
        have I8' := I8.pinned (stat fr8) (T.obj _ _ st8)
        have stp := hgo _ _ _ _ (step x H8 y8)
        refine wpAny_mono (gY _ s8 _ H8 x u _ I8' r8 stp) (fun _ s9 ⟨σ9, H9, I9, ⟨k1, k2⟩, q9⟩ => ?_) fun _ _ f => by rw [xeY] at f; exact f.elim
        have weak : ∀ {Hz : Hp} {sz : Shared}, Inv Y ([] ++ pinsAt fp s8.heap) σ9 Hz sz → Inv Y [] (capS L.length ix σ) Hz sz ∧ tn (i + 1) sz.heap ∧ ∀ b ∈ fp, Hz b = none := fun {Hz sz} Iz => by
          refine ⟨Iz.unpinned.weak k1.symm fun j v e => ?_, T.keep _ _ _ st8 fun b hb o e => (Iz.pin (b, o) (List.mem_append_right _ (List.mem_append_right _ (mem_pinsAt hb e)))).1, fun b hb => ?_⟩
          · by_cases hj : L.length ≤ j
            · rw [k2 j hj]; exact e
            · unfold capS at e
              rw [List.getElem?_append_left (by simpa using Nat.lt_of_not_le hj), List.getElem?_replicate, if_pos (Nat.lt_of_not_le hj)] at e
              cases e
          · obtain ⟨o, e, d⟩ := T.obj _ _ st8 b hb
            exact (Iz.pin (b, o) (List.mem_append_right _ (List.mem_append_right _ (mem_pinsAt hb e)))).2.1
        refine wpAny_mono (tY _ s9 σ9 H9 _ I9 q9) (fun ok s10 ⟨H10, I10, q10⟩ => ?_) fun _ _ f => by rw [xeY] at f; exact f.elim
        cases ok with
        | false =>
          have q10' : ∃ m', m' < n ∧ W (i + 1) m' ys H10 := q10
          obtain ⟨m', hm', w10⟩ := q10'
          obtain ⟨z1, z2, z3⟩ := weak I10
          exact ⟨m', hm', i + 1, ys, H10, z1, z2, z3, w10⟩
        | true =>
          show ∀ (k : Sem PySem.Fin) (P : PySem.Fin → Shared → Prop), _ → _
          intro k P hk
          refine (pY _ s10 σ9 H10 D ys _ k P _ I10 q10 fun s' ys' H' Iz ⟨m', hm', w11⟩ => ?_)
          obtain ⟨z1, z2, z3⟩ := weak Iz
          exact hk s' ⟨m', hm', i + 1, ys', H', z1, z2, z3, w11⟩
    · exact I4
  exact codeAny_compStart_list (key _ rfl) (T.self _ 0 _ _ _ st4 (key _ rfl))
theorem ps_set2K {elt tg iter t1 i1 : Expr} {ifs c1 : List Expr} {scope : Scope} {pos : Pos} {wi : TI} {g : TG} {tc : TT} {tu : TU} {x0 : Str} {pos' spos : Pos} (i0 : Nat) (L : List Str) (ix : List Nat) (M : List Str) (hN : X.N.Nodup) (hii : X.N[i0]? = some x0) (hx0 : X.env.scope.names.lookup x0 = some .local)
    (hsw : swapsWith (.ListComp elt [⟨tg, iter, ifs, 0⟩, ⟨t1, i1, c1, 0⟩] scope pos) (some (.Name x0 pos')) spos.line X.env = pure true) (hc : X.calm = true) (hk : scope.kind = .function)
    (hd : compOkC X.env.scope scope X.N ix = true) (hM : M = L ++ ix.map fun i => X.N.getD i "") (hi : PI X tg iter wi)
    (hg : ∀ C s₃ H₃ fp, PG (cxCompC X M scope C s₃ H₃ fp) tg g) (hgo : GOnly L.length g)
    (ht : ∀ C s₃ H₃ fp, PTs (cxCompC X M scope C s₃ H₃ fp) ifs tc) (he : ∀ C s₃ H₃ fp, PU (cxCompC X M scope C s₃ H₃ fp) (emRun (.ListComp elt [⟨tg, iter, ifs, 0⟩, ⟨t1, i1, c1, 0⟩] scope pos) 1 i1) tu)
    (hs : ∀ x, foldedSetIterable iter X.env x = pure x := by intro _; rfl) :
    PS X (.Assign [.Name x0 pos'] (.ListComp elt [⟨tg, iter, ifs, 0⟩, ⟨t1, i1, c1, 0⟩] scope pos) spos) (tAsg (tComp2 L.length ix wi g tc tu) (gName i0)) := by
  unfold compOkC at hd
  simp only [Bool.and_eq_true, List.all_eq_true, bne_iff_ne, ne_eq, Bool.or_eq_true, beq_iff_eq, decide_eq_true_eq, Bool.not_eq_true', List.contains_eq_mem, decide_eq_false_iff_not] at hd
  obtain ⟨⟨d1, d2⟩, d3⟩ := hd
  have eM : M = L ++ capN X ix := by rw [hM]; unfold capN; rfl
  subst eM
  refine ps_set2C (L := L) (ix := ix) hN hii (.inl hx0) (.inr hx0) hsw hc ⟨hk, fun y hy e => ?_, fun y hy e => ?_, fun x hx => ?_, fun y hy e => ?_⟩ d3 hi hg hgo ht he hs
  · rcases (d1 y hy).1.1 with z | z
    · exact absurd e z
    · exact z
  · rcases (d1 y hy).1.2 with z | z
    · exact absurd e z
    · exact z
  · unfold capN at hx
    exact d2 x hx
  · rcases (d1 y hy).2 with z | z
    · exact absurd e z
    · exact z
end
end L2
set_option linter.all false
namespace Q1
def fr (t b : Int) : Int × Int := if b < 0 then (t / -(Int.gcd t b : Int), b / -(Int.gcd t b : Int)) else (t / (Int.gcd t b : Int), b / (Int.gcd t b : Int))
structure Low (p q : Int) : Prop where
  pos : 0 < q
  cop : Int.gcd p q = 1
theorem fr_pos {t b : Int} (h : 0 < b) : fr t b = (t / (Int.gcd t b : Int), b / (Int.gcd t b : Int)) := by
  unfold fr
  rw [if_neg (by omega)]
end Q1
set_option linter.all false
namespace Q1
theorem Low.ne {p q : Int} (l : Low p q) : q ≠ 0 := Int.ne_of_gt l.pos
end Q1
set_option linter.all false
namespace QR
open Q1
theorem gcdc (t : Int) (d : Nat) : (Int.gcd t (d : Int)) = Nat.gcd t.natAbs d := by
  show Nat.gcd t.natAbs (d : Int).natAbs = _
  simp
theorem norm {t : Int} {d : Nat} (h : d ≠ 0) : fr t (d : Int) = ((Rat.normalize t d h).num, ((Rat.normalize t d h).den : Int)) := by
  rw [fr_pos (by omega), Rat.normalize_eq, gcdc]
  simp
theorem add (r s : Rat) : fr (r.num * s.den + s.num * r.den) ((r.den : Int) * s.den) = ((r + s).num, ((r + s).den : Int)) := by
  rw [Rat.add_def, ← norm]
  congr 1
theorem mul (r s : Rat) : fr (r.num * s.num) ((r.den : Int) * s.den) = ((r * s).num, ((r * s).den : Int)) := by
  rw [Rat.mul_def, ← norm]
  congr 1
def Bd (n : Nat) (r : Rat) : Prop := r.num.natAbs < 2 ^ n ∧ r.den < 2 ^ n
theorem Bd.mono {n m : Nat} {r : Rat} (h : Bd n r) (k : n ≤ m) : Bd m r := ⟨Nat.lt_of_lt_of_le h.1 (Nat.pow_le_pow_right (by decide) k), Nat.lt_of_lt_of_le h.2 (Nat.pow_le_pow_right (by decide) k)⟩
theorem fr_le (t b : Int) : (fr t b).1.natAbs ≤ t.natAbs ∧ (fr t b).2.natAbs ≤ b.natAbs := by
  unfold fr
  split
  · exact ⟨Int.natAbs_ediv_le_natAbs _ _, Int.natAbs_ediv_le_natAbs _ _⟩
  · exact ⟨Int.natAbs_ediv_le_natAbs _ _, Int.natAbs_ediv_le_natAbs _ _⟩
theorem mul_lt {a b n m : Nat} (h1 : a < 2 ^ n) (h2 : b < 2 ^ m) : a * b < 2 ^ (n + m) := by
  rw [Nat.pow_add]
  exact Nat.mul_lt_mul'' h1 h2
theorem Bd.add {n m : Nat} {r s : Rat} (h : Bd n r) (k : Bd m s) : Bd (n + m + 1) (r + s) := by
  have e := QR.add r s
  have l := fr_le (r.num * s.den + s.num * r.den) ((r.den : Int) * s.den)
  rw [e] at l
  simp only at l
  have a1 : r.num.natAbs * s.den < 2 ^ (n + m) := mul_lt h.1 k.2
  have a2 : s.num.natAbs * r.den < 2 ^ (n + m) := by rw [Nat.mul_comm, Nat.mul_comm]; rw [Nat.add_comm]; exact mul_lt k.1 h.2
  have a3 : r.den * s.den < 2 ^ (n + m) := mul_lt h.2 k.2
  have p2 : 2 ^ (n + m + 1) = 2 ^ (n + m) + 2 ^ (n + m) := by rw [Nat.pow_succ]; omega
  refine ⟨?_, ?_⟩
  · refine Nat.lt_of_le_of_lt l.1 (Nat.lt_of_le_of_lt (Int.natAbs_add_le _ _) ?_)
    rw [Int.natAbs_mul, Int.natAbs_mul, Int.natAbs_natCast, Int.natAbs_natCast, p2]
    omega
  · have := l.2
    rw [Int.natAbs_mul, Int.natAbs_natCast, Int.natAbs_natCast, Int.natAbs_natCast] at this
    rw [p2]
    omega
theorem Bd.mul {n m : Nat} {r s : Rat} (h : Bd n r) (k : Bd m s) : Bd (n + m) (r * s) := by
  have e := QR.mul r s
  have l := fr_le (r.num * s.num) ((r.den : Int) * s.den)
  rw [e] at l
  simp only at l
  refine ⟨?_, ?_⟩
  · refine Nat.lt_of_le_of_lt l.1 ?_
    rw [Int.natAbs_mul]
    exact mul_lt h.1 k.1
  · have := l.2
    rw [Int.natAbs_mul, Int.natAbs_natCast, Int.natAbs_natCast, Int.natAbs_natCast] at this
    exact Nat.lt_of_le_of_lt this (mul_lt h.2 k.2)
theorem Bd.zero (n : Nat) : Bd (n + 1) 0 := by
  refine ⟨?_, ?_⟩
  · show (0 : Nat) < 2 ^ (n + 1)
    exact Nat.pos_of_ne_zero (by simp)
  · show (1 : Nat) < 2 ^ (n + 1)
    exact Nat.one_lt_two_pow (by omega)
def part (xs ys : List Rat) : Nat → Rat
  | 0 => 0
  | i + 1 => part xs ys i + xs.getD i 0 * ys.getD i 0
end QR
set_option Elab.async false
set_option linter.all false
set_option maxRecDepth 100000
set_option maxHeartbeats 4000000
namespace KC
open PySem L2 PySem.Spec PyProof.Rows
structure Blt (mg : Str → Option Value) : Prop where
  n_abs : mg "abs" = none
  n_isinstance : mg "isinstance" = none
  n_int : mg "int" = none
  n_bool : mg "bool" = none
  n_tuple : mg "tuple" = none
  n_len : mg "len" = none
  n_all : mg "all" = none
  n_list : mg "list" = none
  n_range : mg "range" = none
  n_zip : mg "zip" = none
  n_enumerate : mg "enumerate" = none
namespace Bt
theorem abs : bootBuiltins "abs" = some (.builtin "abs") := by decide +kernel
theorem isinstance : bootBuiltins "isinstance" = some (.builtin "isinstance") := by decide +kernel
theorem len : bootBuiltins "len" = some (.builtin "len") := by decide +kernel
theorem all : bootBuiltins "all" = some (.builtin "all") := by decide +kernel
theorem int : bootBuiltins "int" = some (.type "int") := by decide +kernel
theorem bool : bootBuiltins "bool" = some (.type "bool") := by decide +kernel
theorem tuple : bootBuiltins "tuple" = some (.type "tuple") := by decide +kernel
theorem list : bootBuiltins "list" = some (.type "list") := by decide +kernel
end Bt
def tyD : PyData → String
  | .none => "NoneType" | .bool _ => "bool" | .int _ => "int" | .str _ => "str" | .list _ => "list" | .tuple _ => "tuple" | .dict _ => "dict"
def isInt : PyData → Bool
  | .int _ | .bool _ => true | _ => false
def isBool : PyData → Bool
  | .bool _ => true | _ => false
def kitT (T c : String) : Option Bool := if (Value.type T == Value.type c) = true then some true else if PySem.W.kitMeta c = true then (fastBuiltinMro T).map (·.contains (.type c)) else none
theorem kitT_eq {K : PySem.W.Frag} (T c : String) : PySem.W.kitOne K (.type T) (.type c) = kitT T c := rfl
theorem kit_int {K : PySem.W.Frag} (d : PyData) : PySem.W.kitOne K (.type (tyD d)) (.type "int") = some (isInt d) := by
  rw [kitT_eq]
  cases d with
  | none => exact (by decide +kernel : kitT "NoneType" "int" = some false)
  | bool b => exact (by decide +kernel : kitT "bool" "int" = some true)
  | int b => exact (by decide +kernel : kitT "int" "int" = some true)
  | str b => exact (by decide +kernel : kitT "str" "int" = some false)
  | list b => exact (by decide +kernel : kitT "list" "int" = some false)
  | tuple b => exact (by decide +kernel : kitT "tuple" "int" = some false)
  | dict b => exact (by decide +kernel : kitT "dict" "int" = some false)
theorem kit_bool {K : PySem.W.Frag} (d : PyData) : PySem.W.kitOne K (.type (tyD d)) (.type "bool") = some (isBool d) := by
  rw [kitT_eq]
  cases d with
  | none => exact (by decide +kernel : kitT "NoneType" "bool" = some false)
  | bool b => exact (by decide +kernel : kitT "bool" "bool" = some true)
  | int b => exact (by decide +kernel : kitT "int" "bool" = some false)
  | str b => exact (by decide +kernel : kitT "str" "bool" = some false)
  | list b => exact (by decide +kernel : kitT "list" "bool" = some false)
  | tuple b => exact (by decide +kernel : kitT "tuple" "bool" = some false)
  | dict b => exact (by decide +kernel : kitT "dict" "bool" = some false)
theorem kit_list {K : PySem.W.Frag} : PySem.W.kitOne K (.type "list") (.type "list") = some true := by
  rw [kitT_eq]; exact (by decide +kernel : kitT "list" "list" = some true)
theorem at0 {x y : V} : atI [x, y] 0 = some x := rfl
theorem at1 {x y : V} : atI [x, y] 1 = some y := rfl
def Sz (n : Int) : Prop := n.natAbs < 2 ^ 4000
theorem Sz.mul {i j : Int} (a : Sz i) (b : Sz j) : IntMulOk i j := mulOk_of a b (by decide)
theorem Sz.lt {i j : Int} (a : Sz i) (b : Sz j) : (i * j).natAbs < 2 ^ 8000 := by
  rw [Int.natAbs_mul, show 8000 = 4000 + 4000 from rfl]
  exact QR.mul_lt a b
section
variable {K : PySem.W.Frag} {H H' : Hp}
def Num (K : PySem.W.Frag) (H : Hp) (v : V) (r : Rat) : Prop := ∃ a, v = .ref a ∧ SqT K H a [.int r.num, .int (r.den : Int)]
theorem Num.same {v : V} {r : Rat} (h : Num K H v r) (e : Same H H') : Num K H' v r := by
  obtain ⟨a, rfl, h⟩ := h
  exact ⟨a, rfl, e.seqT h⟩
theorem tup_ne {l a : Addr} {xs ys : List V} {zs : List V} (hl : H l = some (.lst ys)) (h : SqT K H a xs) : SqT K (upd H l (.lst zs)) a xs := by
  rcases h with (h | ⟨o, h⟩) | h
  · exact .inl (.inl (by rw [upd_ne (fun z => by rw [z, hl] at h; cases h)]; exact h))
  · exact .inl (.inr ⟨o, by rw [upd_ne (fun z => by rw [z, hl] at h; cases h)]; exact h⟩)
  · exact .inr h
theorem Num.put {v : V} {r : Rat} {l : Addr} {ys zs : List V} (h : Num K H v r) (hl : H l = some (.lst ys)) : Num K (upd H l (.lst zs)) v r := by
  obtain ⟨a, rfl, h⟩ := h
  exact ⟨a, rfl, tup_ne hl h⟩
def NumAll (K : PySem.W.Frag) (H : Hp) : List V → List Rat → Prop
  | [], [] => True
  | v :: vs, r :: rs => Num K H v r ∧ NumAll K H vs rs
  | _, _ => False
theorem NumAll.len : ∀ {vs : List V} {rs : List Rat}, NumAll K H vs rs → vs.length = rs.length
  | [], [], _ => rfl
  | v :: vs, r :: rs, h => by rw [List.length_cons, List.length_cons, NumAll.len h.2]
theorem NumAll.map {f : ∀ {v r}, Num K H v r → Num K H' v r} : ∀ {vs : List V} {rs : List Rat}, NumAll K H vs rs → NumAll K H' vs rs
  | [], [], _ => trivial
  | v :: vs, r :: rs, h => ⟨f h.1, NumAll.map (f := f) h.2⟩
theorem NumAll.same {vs : List V} {rs : List Rat} (h : NumAll K H vs rs) (e : Same H H') : NumAll K H' vs rs := h.map (f := fun z => z.same e)
theorem NumAll.put {vs : List V} {rs : List Rat} {l : Addr} {ys zs : List V} (h : NumAll K H vs rs) (hl : H l = some (.lst ys)) : NumAll K (upd H l (.lst zs)) vs rs := h.map (f := fun z => z.put hl)
theorem NumAll.get : ∀ {vs : List V} {rs : List Rat} {i : Nat} {v : V}, NumAll K H vs rs → vs[i]? = some v → Num K H v (rs.getD i 0) ∧ i < rs.length
  | v :: vs, r :: rs, 0, w, h, e => by
    have : v = w := by simpa using e
    subst this
    exact ⟨h.1, by simp⟩
  | v :: vs, r :: rs, i + 1, w, h, e => by
    have := NumAll.get (i := i) h.2 (by simpa using e)
    exact ⟨by simpa using this.1, by simpa using this.2⟩
  | [], [], i, w, h, e => by simp at e
theorem NumAll.snoc {v : V} {r : Rat} (hv : Num K H v r) : ∀ {vs : List V} {rs : List Rat}, NumAll K H vs rs → NumAll K H (vs ++ [v]) (rs ++ [r])
  | [], [], _ => ⟨hv, trivial⟩
  | _ :: vs, _ :: rs, h => ⟨h.1, NumAll.snoc hv h.2⟩
def Row (K : PySem.W.Frag) (H : Hp) (a : Addr) (rs : List Rat) : Prop := ∃ vs, H a = some (.lst vs) ∧ NumAll K H vs rs
theorem Row.same {a : Addr} {rs : List Rat} (h : Row K H a rs) (e : Same H H') : Row K H' a rs := by
  obtain ⟨vs, h1, h2⟩ := h
  exact ⟨vs, e _ _ h1, h2.same e⟩
theorem Row.put {a l : Addr} {rs : List Rat} {ys zs : List V} (h : Row K H a rs) (hl : H l = some (.lst ys)) (n : a ≠ l) : Row K (upd H l (.lst zs)) a rs := by
  obtain ⟨vs, h1, h2⟩ := h
  exact ⟨vs, by rw [upd_ne n]; exact h1, h2.put hl⟩
def RowAll (K : PySem.W.Frag) (H : Hp) : List Addr → List (List Rat) → Prop
  | [], [] => True
  | a :: as, r :: rs => Row K H a r ∧ RowAll K H as rs
  | _, _ => False
theorem RowAll.len : ∀ {as : List Addr} {A : List (List Rat)}, RowAll K H as A → as.length = A.length
  | [], [], _ => rfl
  | v :: vs, r :: rs, h => by rw [List.length_cons, List.length_cons, RowAll.len h.2]
theorem RowAll.same (e : Same H H') : ∀ {as : List Addr} {A : List (List Rat)}, RowAll K H as A → RowAll K H' as A
  | [], [], _ => trivial
  | v :: vs, r :: rs, h => ⟨h.1.same e, RowAll.same e h.2⟩
theorem RowAll.put {l : Addr} {ys zs : List V} (hl : H l = some (.lst ys)) : ∀ {as : List Addr} {A : List (List Rat)}, (∀ a ∈ as, a ≠ l) → RowAll K H as A → RowAll K (upd H l (.lst zs)) as A
  | [], [], _, _ => trivial
  | v :: vs, r :: rs, n, h => ⟨h.1.put hl (n v (List.mem_cons_self ..)), RowAll.put hl (fun a ha => n a (List.mem_cons_of_mem _ ha)) h.2⟩
theorem RowAll.get : ∀ {as : List Addr} {A : List (List Rat)} {i : Nat} {a : Addr}, RowAll K H as A → as[i]? = some a → Row K H a (A.getD i []) ∧ i < A.length
  | v :: vs, r :: rs, 0, w, h, e => by
    have : v = w := by simpa using e
    subst this
    exact ⟨h.1, by simp⟩
  | v :: vs, r :: rs, i + 1, w, h, e => by
    have := RowAll.get (i := i) h.2 (by simpa using e)
    exact ⟨by simpa using this.1, by simpa using this.2⟩
  | [], [], i, w, h, e => by simp at e
theorem RowAll.snoc {a : Addr} {r : List Rat} (hv : Row K H a r) : ∀ {as : List Addr} {A : List (List Rat)}, RowAll K H as A → RowAll K H (as ++ [a]) (A ++ [r])
  | [], [], _ => ⟨hv, trivial⟩
  | _ :: vs, _ :: rs, h => ⟨h.1, RowAll.snoc hv h.2⟩
def Sqr (K : PySem.W.Frag) (H : Hp) (a : Addr) (A : List (List Rat)) : Prop := ∃ as : List Addr, H a = some (.lst (as.map V.ref)) ∧ RowAll K H as A
theorem Sqr.same {a : Addr} {A : List (List Rat)} (h : Sqr K H a A) (e : Same H H') : Sqr K H' a A := by
  obtain ⟨as, h1, h2⟩ := h
  exact ⟨as, e _ _ h1, h2.same e⟩
end
end KC
set_option Elab.async false
set_option linter.all false
set_option maxRecDepth 100000
set_option maxHeartbeats 4000000
namespace KC
open PySem L2 PySem.Spec PyProof.Rows
theorem getD_some {α : Type} {as : List α} {i : Nat} {d : α} (h : i < as.length) : as[i]? = some (as.getD i d) := by simp [List.getD, h]
section
variable {K : PySem.W.Frag} {k : Nat} {ix : List Nat} {wi : TI} {te : TE} {σ : L2.St} {H : Hp} {Q : VK}
end
end KC
set_option Elab.async false
set_option linter.all false
set_option maxRecDepth 100000
set_option maxHeartbeats 4000000
namespace KC
open PySem L2 PySem.Spec PyProof.Rows
def numD (r : Rat) : PyData := .tuple [.int r.num, .int (r.den : Int)]
def rowD (rs : List Rat) : PyData := .list (rs.map numD)
def sqD (A : List (List Rat)) : PyData := .list (A.map rowD)
section
variable {K : PySem.W.Frag} {H H' : Hp}
theorem Num.is {v : V} {r : Rat} (h : Num K H v r) : Is K H (numD r) v := by
  obtain ⟨a, rfl, h⟩ := h
  simp only [numD, Is, IsAll]
  exact ⟨a, _, rfl, h, _, _, rfl, rfl, _, _, rfl, rfl, rfl⟩
theorem NumAll.is : ∀ {vs : List V} {rs : List Rat}, NumAll K H vs rs → IsAll K H (rs.map numD) vs
  | [], [], _ => by simp only [List.map_nil, IsAll]
  | v :: vs, r :: rs, h => by
    simp only [List.map_cons, IsAll]
    exact ⟨v, vs, rfl, h.1.is, NumAll.is h.2⟩
theorem Row.is {a : Addr} {rs : List Rat} (h : Row K H a rs) : Is K H (rowD rs) (.ref a) := by
  obtain ⟨vs, h1, h2⟩ := h
  simp only [rowD, Is]
  exact ⟨a, vs, rfl, SqL.of h1, h2.is⟩
theorem RowAll.is : ∀ {as : List Addr} {A : List (List Rat)}, RowAll K H as A → IsAll K H (A.map rowD) (as.map V.ref)
  | [], [], _ => by simp only [List.map_nil, IsAll]
  | v :: vs, r :: rs, h => by
    simp only [List.map_cons, IsAll]
    exact ⟨_, _, rfl, h.1.is, RowAll.is h.2⟩
theorem Sqr.is {a : Addr} {A : List (List Rat)} (h : Sqr K H a A) : Is K H (sqD A) (.ref a) := by
  obtain ⟨as, h1, h2⟩ := h
  simp only [sqD, Is]
  exact ⟨a, _, rfl, SqL.of h1, h2.is⟩
end
end KC
set_option Elab.async false
set_option linter.all false
set_option maxRecDepth 100000
namespace FL
open PySem
abbrev D := PyData
inductive R (α : Type) where
  | bad
  | err (c : String) (fs : List D)
  | ok (a : α)
def R.bind {α β : Type} (r : R α) (k : α → R β) : R β := match r with
  | .bad => .bad
  | .err c f => .err c f
  | .ok a => k a
theorem bind_ok {α β : Type} (a : α) (k : α → R β) : (R.ok a).bind k = k a := rfl
theorem bind_bad {α β : Type} (k : α → R β) : (R.bad : R α).bind k = .bad := rfl
theorem bind_err {α β : Type} (c : String) (f : List D) (k : α → R β) : (R.err c f : R α).bind k = .err c f := rfl
def chk {α : Type} (c : Bool) (r : R α) : R α := if c = true then r else .bad
theorem chk_ok {α : Type} {c : Bool} {r : R α} (h : c = true) : chk c r = r := if_pos h
inductive Sl where
  | no
  | val (d : D)
  | ow (p : Bool) (d : D)
abbrev En := List Sl
inductive Fl where
  | nx | bk | ct
  | rt (d : D)
  | rf (d : D)
abbrev EF := En → R (D × En)
abbrev TF := En → R (Bool × En)
abbrev AF := En → R (List D × En)
abbrev SF := En → R (Fl × En)
abbrev GF := D → En → R En
def tyOf : D → String
  | .none => "NoneType" | .bool _ => "bool" | .int _ => "int" | .str _ => "str" | .list _ => "list" | .tuple _ => "tuple" | .dict _ => "dict"
def isI (T : String) (d : D) : Bool := match d with
  | .bool _ => T == "bool" || T == "int"
  | d => tyOf d == T
def lim : Nat := 1000000
def intsOf : List D → Option (List Int)
  | [] => some []
  | .int i :: r => (intsOf r).map (i :: ·)
  | _ :: _ => none
def boolsOf : List D → Option (List Bool)
  | [] => some []
  | .bool i :: r => (boolsOf r).map (i :: ·)
  | _ :: _ => none
def R.of {α : Type} : Option α → R α
  | none => .bad
  | some a => .ok a
def leB (a b : Nat) : Bool := Nat.ble a b
theorem leB_iff {a b : Nat} : leB a b = true ↔ a ≤ b := Iff.of_eq Nat.ble_eq
theorem leB_of {a b : Nat} (h : a ≤ b) : leB a b = true := leB_iff.mpr h
theorem le_of {a b : Nat} (h : leB a b = true) : a ≤ b := leB_iff.mp h
def mulOk (i j : Int) : Bool := leB (i.natAbs.log2 + j.natAbs.log2 + 2) 134217728
def addD : D → D → R D
  | .int i, .int j => .ok (.int (i + j))
  | .list a, .list b => chk (leB (a.length + b.length) lim) (.ok (.list (a ++ b)))
  | .tuple a, .tuple b => chk (leB (a.length + b.length) lim) (.ok (.tuple (a ++ b)))
  | _, _ => .bad
def subD : D → D → R D
  | .int i, .int j => .ok (.int (i - j))
  | _, _ => .bad
def mulD : D → D → R D
  | .int i, .int j => chk (mulOk i j) (.ok (.int (i * j)))
  | .tuple a, .int k => chk (!a.isEmpty && leB 2 k.toNat && leB k.toNat 1000000 && leB (a.length * k.toNat) lim) (.ok (.tuple (List.replicate k.toNat a).flatten))
  | _, _ => .bad
def fdivD : D → D → R D
  | .int i, .int j => chk (decide (j ≠ 0) && leB (j.natAbs.log2 + 1) 9000) (.ok (.int (i.fdiv j)))
  | _, _ => .bad
def modD : D → D → R D
  | .int i, .int j => chk (decide (j ≠ 0)) (.ok (.int (i.fmod j)))
  | _, _ => .bad
def powD : D → D → R D
  | .int i, .int j => chk (decide (0 ≤ j) && leB j.toNat 1000000 && leB i.natAbs 18446744073709551615) (.ok (.int (i ^ j.toNat)))
  | _, _ => .bad
def shlD : D → D → R D
  | .int i, .int j => chk (decide (0 ≤ j) && leB j.toNat 1000000 && leB i.natAbs 18446744073709551615) (.ok (.int (i * 2 ^ j.toNat)))
  | _, _ => .bad
def eqD (a b : D) : R D := chk (SeqAt.shaped a && SeqAt.shaped b) (.ok (.bool (PyData.eqv a b)))
def neD (a b : D) : R D := chk (SeqAt.shaped a && SeqAt.shaped b) (.ok (.bool (!PyData.eqv a b)))
def lexLt : List Int → List Int → Bool
  | [], [] => false
  | [], _ :: _ => true
  | _ :: _, [] => false
  | x :: xs, y :: ys => if x = y then lexLt xs ys else decide (x < y)
def lexLe : List Int → List Int → Bool
  | [], [] => true
  | [], _ :: _ => true
  | _ :: _, [] => false
  | x :: xs, y :: ys => if x = y then lexLe xs ys else decide (x ≤ y)
def lexGt : List Int → List Int → Bool
  | [], [] => false
  | [], _ :: _ => false
  | _ :: _, [] => true
  | x :: xs, y :: ys => if x = y then lexGt xs ys else decide (y < x)
def lexGe : List Int → List Int → Bool
  | [], [] => true
  | [], _ :: _ => false
  | _ :: _, [] => true
  | x :: xs, y :: ys => if x = y then lexGe xs ys else decide (y ≤ x)
def cmpD (p : Int → Int → Bool) (q : List Int → List Int → Bool) : D → D → R D
  | .int i, .int j => .ok (.bool (p i j))
  | .tuple a, .tuple b => (R.of (intsOf a)).bind fun x => (R.of (intsOf b)).bind fun y => .ok (.bool (q x y))
  | _, _ => .bad
def ltD : D → D → R D := cmpD (fun i j => decide (i < j)) lexLt
def leD : D → D → R D := cmpD (fun i j => decide (i ≤ j)) lexLe
def gtD : D → D → R D := cmpD (fun i j => decide (j < i)) lexGt
def geD : D → D → R D := cmpD (fun i j => decide (j ≤ i)) lexGe
def ixN (n : Nat) (i : Int) : Option Nat := if 0 ≤ i then (if i < n then some i.toNat else none) else if -(n : Int) ≤ i then some (i + n).toNat else none
def atI {α : Type} (xs : List α) (i : Int) : Option α := (ixN xs.length i).bind fun j => xs[j]?
def ixD : D → D → R D
  | .list a, .int i => R.of (atI a i)
  | .tuple a, .int i => R.of (atI a i)
  | _, _ => .bad
def sIx (n d : Nat) : Option Int → Nat
  | none => d
  | some v => if v < 0 then (v + (n : Int)).toNat else min v.toNat n
def cut {α : Type} (xs : List α) (lo hi : Option Int) : List α := (xs.drop (sIx xs.length 0 lo)).take (sIx xs.length xs.length hi - sIx xs.length 0 lo)
def sliceD (d : D) (lo hi : Option Int) : R D := match d with
  | .list a => .ok (.list (cut a lo hi))
  | .tuple a => .ok (.tuple (cut a lo hi))
  | _ => .bad
def truD : D → R Bool
  | .none => .ok false
  | .bool b => .ok b
  | .int i => .ok (i != 0)
  | .list a => .ok (!a.isEmpty)
  | .tuple a => .ok (!a.isEmpty)
  | _ => .bad
def lenD : D → R D
  | .list a => .ok (.int a.length)
  | .tuple a => .ok (.int a.length)
  | _ => .bad
def max2D : D → D → R D
  | .int i, .int j => .ok (.int (if j > i then j else i))
  | _, _ => .bad
def maxL : List Int → Option Int
  | [] => none
  | x :: xs => some (xs.foldl (fun m y => if y > m then y else m) x)
def minL : List Int → Option Int
  | [] => none
  | x :: xs => some (xs.foldl (fun m y => if y < m then y else m) x)
def maxD : D → R D
  | .list a => (R.of (intsOf a)).bind fun x => (R.of (maxL x)).bind fun m => .ok (.int m)
  | _ => .bad
def minD : D → R D
  | .list a => (R.of (intsOf a)).bind fun x => (R.of (minL x)).bind fun m => .ok (.int m)
  | _ => .bad
def allD : D → R D
  | .list a => (R.of (boolsOf a)).bind fun x => .ok (.bool (x.all id))
  | _ => .bad
def listD : D → R D
  | .list a => .ok (.list a)
  | .tuple a => .ok (.list a)
  | _ => .bad
def tupleD : D → R D
  | .list a => .ok (.tuple a)
  | .tuple a => .ok (.tuple a)
  | _ => .bad
def tyOk (d : D) : Bool := match d with
  | .dict _ => false
  | _ => true
def isiD' (T : String) (d : D) : R D := chk (tyOk d) (.ok (.bool (isI T d)))
def one (g : D → R D) : List D → R D
  | [d] => g d
  | _ => .bad
def two (g : D → D → R D) : List D → R D
  | [d, e] => g d e
  | _ => .bad
def itemsD : D → R (List D)
  | .list a => .ok a
  | .tuple a => .ok a
  | _ => .bad
def rng (lo hi : Int) : List D := (List.range (hi - lo).toNat).map fun (i : Nat) => .int (lo + (i : Int))
def rngOk (i : Int) : Bool := leB i.natAbs 1000000000
def range1D : List D → R (List D)
  | [.int j] => chk (rngOk j && leB j.toNat lim) (.ok (rng 0 j))
  | _ => .bad
def range2D : List D → R (List D)
  | [.int i, .int j] => chk (rngOk i && rngOk j && leB (j - i).toNat lim) (.ok (rng i j))
  | _ => .bad
def eC (d : D) : EF := fun ρ => .ok (d, ρ)
def eV (i : Nat) : EF := fun ρ => match ρ[i]? with
  | some (.val d) => .ok (d, ρ)
  | _ => .bad
def e1 (g : D → R D) (f : EF) : EF := fun ρ => (f ρ).bind fun x => (g x.1).bind fun d => .ok (d, x.2)
def e2 (g : D → D → R D) (f h : EF) : EF := fun ρ => (f ρ).bind fun x => (h x.2).bind fun y => (g x.1 y.1).bind fun d => .ok (d, y.2)
def eAnd (f h : EF) : EF := fun ρ => (f ρ).bind fun x => match x.1 with
  | .bool true => h x.2
  | .bool false => .ok (.bool false, x.2)
  | _ => .bad
def eOr (f h : EF) : EF := fun ρ => (f ρ).bind fun x => match x.1 with
  | .bool true => .ok (.bool true, x.2)
  | .bool false => h x.2
  | _ => .bad
def eNot (f : EF) : EF := fun ρ => (f ρ).bind fun x => match x.1 with
  | .bool b => .ok (.bool (!b), x.2)
  | _ => .bad
def eIf (t : TF) (f h : EF) : EF := fun ρ => (t ρ).bind fun c => if c.1 = true then f c.2 else h c.2
def eChain (g h : D → D → R D) (f1 f2 f3 : EF) : EF := fun ρ => (f1 ρ).bind fun x => (f2 x.2).bind fun y => (g x.1 y.1).bind fun c => match c with
  | .bool true => (f3 y.2).bind fun z => (h y.1 z.1).bind fun d => .ok (d, z.2)
  | .bool false => .ok (.bool false, y.2)
  | _ => .bad
def aNil : AF := fun ρ => .ok ([], ρ)
def aCons (f : EF) (a : AF) : AF := fun ρ => (f ρ).bind fun x => (a x.2).bind fun y => .ok (x.1 :: y.1, y.2)
def eTup (a : AF) : EF := fun ρ => (a ρ).bind fun x => chk (leB x.1.length lim) (.ok (.tuple x.1, x.2))
def eLst (a : AF) : EF := fun ρ => (a ρ).bind fun x => chk (leB x.1.length lim) (.ok (.list x.1, x.2))
def eCall (G : List D → R D) (a : AF) : EF := fun ρ => (a ρ).bind fun x => (G x.1).bind fun d => .ok (d, x.2)
abbrev OF := En → R (Option Int × En)
def oNone : OF := fun ρ => .ok (none, ρ)
def oSome (f : EF) : OF := fun ρ => (f ρ).bind fun x => match x.1 with
  | .int i => .ok (some i, x.2)
  | _ => .bad
def eSl (f : EF) (lo hi : OF) : EF := fun ρ => (f ρ).bind fun x => (lo x.2).bind fun l => (hi l.2).bind fun u => (sliceD x.1 l.1 u.1).bind fun d => .ok (d, u.2)
def mutAt (ρ : En) (i : Nat) : R D := match ρ[i]? with
  | some (.ow _ d) => .ok d
  | _ => .bad
def lstAt (ρ : En) (i : Nat) : R (List D) := match ρ[i]? with
  | some (.ow _ (.list a)) => .ok a
  | _ => .bad
def m1 (g : D → R D) (i : Nat) : EF := fun ρ => (mutAt ρ i).bind fun c => (g c).bind fun d => .ok (d, ρ)
def m2 (g : D → D → R D) (i : Nat) (h : EF) : EF := fun ρ => (mutAt ρ i).bind fun _ => (h ρ).bind fun y => (mutAt y.2 i).bind fun c => (g c y.1).bind fun d => .ok (d, y.2)
def m2r (g : D → D → R D) (f : EF) (i : Nat) : EF := fun ρ => (f ρ).bind fun x => (mutAt x.2 i).bind fun c => (g x.1 c).bind fun d => .ok (d, x.2)
def m2m (g : D → D → R D) (i j : Nat) : EF := fun ρ => (mutAt ρ i).bind fun c => (mutAt ρ j).bind fun e => (g c e).bind fun d => .ok (d, ρ)
def mSl (i : Nat) (lo hi : OF) : EF := fun ρ => (mutAt ρ i).bind fun _ => (lo ρ).bind fun l => (hi l.2).bind fun u => (mutAt u.2 i).bind fun c => (sliceD c l.1 u.1).bind fun d => .ok (d, u.2)
def mLst2 (g : D → D → R D) (i : Nat) (h : EF) : EF := fun ρ => (mutAt ρ i).bind fun _ => (h ρ).bind fun y => (mutAt y.2 i).bind fun c => (g (.list [c]) y.1).bind fun d => .ok (d, y.2)
inductive Ar where
  | v (f : EF)
  | m (i : Nat)
  | t (f : EF)
inductive Itm where
  | vd (d : D)
  | mi (i : Nat)
  | td (d : D)
def arEv : List Ar → En → R (List Itm × En)
  | [], ρ => .ok ([], ρ)
  | .v f :: r, ρ => (f ρ).bind fun x => (arEv r x.2).bind fun y => .ok (.vd x.1 :: y.1, y.2)
  | .m i :: r, ρ => (mutAt ρ i).bind fun _ => (arEv r ρ).bind fun y => .ok (.mi i :: y.1, y.2)
  | .t f :: r, ρ => (f ρ).bind fun x => (arEv r x.2).bind fun y => .ok (.td x.1 :: y.1, y.2)
def arIn (ρ : En) : List Itm → R (List D)
  | [] => .ok []
  | .vd d :: r => (arIn ρ r).bind fun ds => .ok (d :: ds)
  | .mi i :: r => (mutAt ρ i).bind fun d => (arIn ρ r).bind fun ds => .ok (d :: ds)
  | .td d :: r => (arIn ρ r).bind fun ds => .ok (d :: ds)
def putMut (ρ : En) (i : Nat) (d : D) : En := match ρ[i]? with
  | some (.ow p _) => ρ.set i (.ow p d)
  | _ => ρ
def arPs : List Itm → List D → List (Nat × Sl)
  | .mi i :: r, d :: ds => (i, .ow true d) :: arPs r ds
  | .vd _ :: r, _ :: ds => arPs r ds
  | .td _ :: r, _ :: ds => arPs r ds
  | _, _ => []
def bk1 (m : List (Nat × Sl)) (i : Nat) (x : Sl) : Sl := match x, m.lookup i with
  | .ow p _, some (.ow _ d) => .ow p d
  | x, _ => x
def bkL (m : List (Nat × Sl)) : Nat → En → En
  | _, [] => []
  | n, x :: r => bk1 m n x :: bkL m (n + 1) r
def arOut (ρ : En) (a : List Itm) (os : List D) : En := bkL (arPs a os) 0 ρ
def eCallM (F : List D → R (D × List D)) (a : List Ar) : EF := fun ρ => (arEv a ρ).bind fun x => (arIn x.2 x.1).bind fun ds => (F ds).bind fun y => .ok (y.1, arOut x.2 x.1 y.2)
def tE (f : EF) : TF := fun ρ => (f ρ).bind fun x => (truD x.1).bind fun b => .ok (b, x.2)
def tB (f : EF) : TF := fun ρ => (f ρ).bind fun x => match x.1 with
  | .bool b => .ok (b, x.2)
  | _ => .bad
def tAnd (t u : TF) : TF := fun ρ => (t ρ).bind fun c => if c.1 = true then u c.2 else .ok (false, c.2)
def tOr (t u : TF) : TF := fun ρ => (t ρ).bind fun c => if c.1 = true then .ok (true, c.2) else u c.2
def tNot (t : TF) : TF := fun ρ => (t ρ).bind fun c => .ok (!c.1, c.2)
def tM (i : Nat) : TF := fun ρ => (mutAt ρ i).bind fun c => (truD c).bind fun b => .ok (b, ρ)
def tTrue : TF := fun ρ => .ok (true, ρ)
abbrev IF := En → R (List D × En)
def iE (f : EF) : IF := fun ρ => (f ρ).bind fun x => (itemsD x.1).bind fun l => .ok (l, x.2)
def iR1 (a : AF) : IF := fun ρ => (a ρ).bind fun x => (range1D x.1).bind fun l => .ok (l, x.2)
def iR2 (a : AF) : IF := fun ρ => (a ρ).bind fun x => (range2D x.1).bind fun l => .ok (l, x.2)
def gN (i : Nat) : GF := fun d ρ => match ρ[i]? with
  | some (.ow true _) => .bad
  | some _ => .ok (ρ.set i (.val d))
  | none => .bad
def gAll : List GF → List D → En → R En
  | [], [], ρ => .ok ρ
  | g :: r, d :: ds, ρ => (g d ρ).bind fun ρ1 => gAll r ds ρ1
  | _, _, _ => .bad
def gT (gs : List GF) : GF := fun d ρ => match d with
  | .tuple ds => gAll gs ds ρ
  | _ => .bad
def blk (k : Nat) (ix : List Nat) (ρ : En) : En := List.replicate k .no ++ ix.map fun i => (ρ[i]?).getD .no
def back (ρ : En) (ix : List Nat) (cs : En) : En := bkL (ix.zip cs) 0 ρ
def compL (k : Nat) (ix : List Nat) (g : GF) (t : TF) (f : EF) : List D → En → List D → R (List D × En)
  | [], ρ, acc => .ok (acc, ρ)
  | x :: xs, ρ, acc => (g x (blk k ix ρ)).bind fun β => (t β).bind fun c =>
      if c.1 = true then (f c.2).bind fun y => chk (leB (acc.length + 1) lim) (compL k ix g t f xs (back ρ ix (y.2.drop k)) (acc ++ [y.1]))
      else compL k ix g t f xs (back ρ ix (c.2.drop k)) acc
def eComp (k : Nat) (ix : List Nat) (it : IF) (g : GF) (t : TF) (f : EF) : EF := fun ρ => (it ρ).bind fun x => (compL k ix g t f x.1 x.2 []).bind fun y => .ok (.list y.1, y.2)
def eCompM (k : Nat) (ix : List Nat) (io : Nat) (g : GF) (t : TF) (f : EF) : EF := fun ρ => (lstAt ρ io).bind fun l => (compL k ix g t f l ρ []).bind fun y => .ok (.list y.1, y.2)
def sNx : SF := fun ρ => .ok (.nx, ρ)
def sSeq (s t : SF) : SF := fun ρ => (s ρ).bind fun x => match x.1 with
  | .nx => t x.2
  | _ => .ok x
def sE (f : EF) : SF := fun ρ => (f ρ).bind fun x => .ok (.nx, x.2)
def sSet (g : GF) (f : EF) : SF := fun ρ => (f ρ).bind fun x => (g x.1 x.2).bind fun ρ1 => .ok (.nx, ρ1)
def sOwn (i : Nat) (f : EF) : SF := fun ρ => (f ρ).bind fun x => match x.2[i]? with
  | some (.ow true _) => .bad
  | some _ => .ok (.nx, x.2.set i (.ow false x.1))
  | none => .bad
def sThen (i : Nat) (s : SF) : SF := fun ρ => (s ρ).bind fun x => match x.1 with
  | .nx => (match x.2[i]? with
    | some (.ow false d) => .ok (.nx, x.2.set i (.val d))
    | _ => .bad)
  | _ => .ok x
def sPar (i j : Nat) (f h : EF) : SF := fun ρ => (f ρ).bind fun x => (h x.2).bind fun y => (gN i x.1 y.2).bind fun ρ1 => (gN j y.1 ρ1).bind fun ρ2 => .ok (.nx, ρ2)
def eRep (f n : EF) : EF := fun ρ => (f ρ).bind fun x => (n x.2).bind fun y => match y.1 with
  | .int k => chk (decide (0 ≤ k) && leB k.toNat 1000000) (.ok (.list (List.replicate k.toNat x.1), y.2))
  | _ => .bad
def sFrz (i : Nat) (s : SF) : SF := fun ρ => match ρ[i]? with
  | some (.ow false d) => s (ρ.set i (.val d))
  | _ => .bad
def sRet (f : EF) : SF := fun ρ => (f ρ).bind fun x => .ok (.rt x.1, x.2)
def sRetF (f : EF) : SF := fun ρ => (f ρ).bind fun x => .ok (.rf x.1, x.2)
def sRetM (i : Nat) : SF := fun ρ => match ρ[i]? with
  | some (.ow false d) => .ok (.rf d, ρ)
  | _ => .bad
def sRetN : SF := fun ρ => .ok (.rt .none, ρ)
def sIf (t : TF) (a b : SF) : SF := fun ρ => (t ρ).bind fun c => if c.1 = true then a c.2 else b c.2
def sBad : SF := fun _ => .bad
def sBrk : SF := fun ρ => .ok (.bk, ρ)
def sCnt : SF := fun ρ => .ok (.ct, ρ)
def forL (g : GF) (b : SF) : List D → En → R (Fl × En)
  | [], ρ => .ok (.nx, ρ)
  | x :: xs, ρ => (g x ρ).bind fun ρ1 => (b ρ1).bind fun y => match y.1 with
    | .nx | .ct => forL g b xs y.2
    | .bk => .ok (.nx, y.2)
    | .rt d => .ok (.rt d, y.2)
    | .rf d => .ok (.rf d, y.2)
def sFor (it : IF) (g : GF) (b : SF) : SF := fun ρ => (it ρ).bind fun x => forL g b x.1 x.2
def whileL (t : TF) (b : SF) : Nat → En → R (Fl × En)
  | 0, _ => .bad
  | n + 1, ρ => (t ρ).bind fun c => if c.1 = true then (b c.2).bind fun y => match y.1 with
      | .nx | .ct => whileL t b n y.2
      | .bk => .ok (.nx, y.2)
      | .rt d => .ok (.rt d, y.2)
      | .rf d => .ok (.rf d, y.2)
    else .ok (.nx, c.2)
def sWhile (fuel : En → Nat) (t : TF) (b : SF) : SF := fun ρ => whileL t b (fuel ρ) ρ
def updM (i : Nat) (u : List D → D → R (List D)) (f : EF) : SF := fun ρ => (lstAt ρ i).bind fun _ => (f ρ).bind fun x => (lstAt x.2 i).bind fun c => (u c x.1).bind fun c' => .ok (.nx, putMut x.2 i (.list c'))
def appD (a : List D) (d : D) : R (List D) := chk (leB (a.length + 1) lim) (.ok (a ++ [d]))
def updM0 (i : Nat) (u : List D → R (List D)) : SF := fun ρ => (lstAt ρ i).bind fun c => (u c).bind fun c' => .ok (.nx, putMut ρ i (.list c'))
def revD (a : List D) : R (List D) := .ok a.reverse
def setM (i : Nat) (f k : EF) : SF := fun ρ => (f ρ).bind fun x => (lstAt x.2 i).bind fun _ => (k x.2).bind fun y => (lstAt y.2 i).bind fun c => match y.1 with
  | .int j => (R.of (ixN c.length j)).bind fun n => .ok (.nx, putMut y.2 i (.list (c.set n x.1)))
  | _ => .bad
def slots : List Bool → List D → En
  | m :: ms, d :: ds => (if m = true then .ow true d else .val d) :: slots ms ds
  | _, _ => []
def outD (m : Bool) (d : D) (x : Option Sl) : D := match m, x with
  | true, some (.ow _ d') => d'
  | _, _ => d
def outs : List Bool → List D → En → List D
  | m :: ms, d :: ds, ρ => outD m d ρ.head? :: outs ms ds ρ.tail
  | _, _, _ => []
def run (ms : List Bool) (fr : Bool) (n : Nat) (b : SF) (ds : List D) : R (D × List D) :=
  if ds.length = ms.length then (b (slots ms ds ++ List.replicate (n - ds.length) .no)).bind fun x => match x.1, fr with
    | .rt d, false => .ok (d, outs ms ds x.2)
    | .rf d, true => .ok (d, outs ms ds x.2)
    | .nx, false => .ok (.none, outs ms ds x.2)
    | _, _ => .bad
  else .bad
def runP (fr : Bool) (k n : Nat) (b : SF) (ds : List D) : R D := (run (List.replicate k false) fr n b ds).bind fun x => .ok x.1
end FL
set_option Elab.async false
set_option linter.all false
set_option maxRecDepth 100000
namespace FL
open PySem
def compL2 (k : Nat) (ix : List Nat) (g : GF) (t : TF) (k2 : Nat) (it2 : IF) (g2 : GF) (t2 : TF) (f : EF) : List D → En → List D → R (List D × En)
  | [], ρ, acc => .ok (acc, ρ)
  | x :: xs, ρ, acc => (g x (blk k ix ρ)).bind fun β => (t β).bind fun c =>
      if c.1 = true then (it2 c.2).bind fun z => (compL k2 (List.range' k2 (z.2.length - k2)) g2 t2 f z.1 z.2 acc).bind fun y => compL2 k ix g t k2 it2 g2 t2 f xs (back ρ ix (y.2.drop k)) y.1
      else compL2 k ix g t k2 it2 g2 t2 f xs (back ρ ix (c.2.drop k)) acc
def eComp2 (k : Nat) (ix : List Nat) (it : IF) (g : GF) (t : TF) (k2 : Nat) (it2 : IF) (g2 : GF) (t2 : TF) (f : EF) : EF := fun ρ => (it ρ).bind fun x => (compL2 k ix g t k2 it2 g2 t2 f x.1 x.2 []).bind fun y => .ok (.list y.1, y.2)
end FL
set_option Elab.async false
set_option linter.all false
set_option maxRecDepth 100000
set_option maxHeartbeats 4000000
namespace FL
open PySem L2 PySem.Spec
open PyProof.Rows hiding St
def FzL (K : PySem.W.Frag) (H : Hp) (a : Addr) (xs : List V) : Prop := (∃ o, H a = some (.frz o (.lst xs))) ∨
  ∃ (o : Obj) (its : Array Value) (n : Nat), K.lookup a = some o ∧ o.cls = .type "list" ∧ o.dict = none ∧ o.data = .seq its n ∧ its.size ≤ sizeLine ∧ Vals xs its.toList
def kD : Key → PyData
  | .inl i => .int i
  | .inr x => .str x
def keyT (k : List Key) : PyData := .tuple (k.map kD)
mutual
def Fz (K : PySem.W.Frag) (H : Hp) : PyData → V → Prop
  | .none, v => v = .non
  | .bool b, v => v = .bl b
  | .int i, v => v = .int i
  | .str x, v => v = .str x
  | .list xs, v => ∃ a vs, v = .ref a ∧ FzL K H a vs ∧ FzAll K H xs vs
  | .tuple xs, v => ∃ a vs, v = .ref a ∧ SqT K H a vs ∧ FzAll K H xs vs
  | .dict kvs, v => ∃ a o, v = .ref a ∧ ((∃ kk, H a = some (.frz o (.dT kk)) ∧ FzKT K H kvs kk) ∨ ∃ kk, H a = some (.frz o (.dK kk)) ∧ FzKK K H kvs kk)
def FzAll (K : PySem.W.Frag) (H : Hp) : List PyData → List V → Prop
  | [], vs => vs = []
  | d :: ds, vs => ∃ v r, vs = v :: r ∧ Fz K H d v ∧ FzAll K H ds r
def FzKT (K : PySem.W.Frag) (H : Hp) : List (PyData × PyData) → List (List Key × V) → Prop
  | [], kk => kk = []
  | (k, d) :: r, kk => ∃ q v t, kk = (q, v) :: t ∧ k = keyT q ∧ Fz K H d v ∧ FzKT K H r t
def FzKK (K : PySem.W.Frag) (H : Hp) : List (PyData × PyData) → List (Key × V) → Prop
  | [], kk => kk = []
  | (k, d) :: r, kk => ∃ q v t, kk = (q, v) :: t ∧ k = kD q ∧ Fz K H d v ∧ FzKK K H r t
end
def Stay : HO → Prop
  | .tup _ => True
  | .frz _ _ => True
  | _ => False
def Fzn (H H' : Hp) : Prop := ∀ a o, H a = some o → Stay o → H' a = some o
theorem Fzn.refl (H : Hp) : Fzn H H := fun _ _ h _ => h
theorem Fzn.trans {H H1 H2 : Hp} (a : Fzn H H1) (b : Fzn H1 H2) : Fzn H H2 := fun c o h s => b c o (a c o h s) s
theorem Fzn.of {H H' : Hp} (s : Same H H') : Fzn H H' := fun a o h _ => s a o h
section
variable {K : PySem.W.Frag} {H H' : Hp}
theorem Fzn.seqT {a : Addr} {xs : List V} (e : Fzn H H') (h : SqT K H a xs) : SqT K H' a xs := by
  rcases h with (h | ⟨o, h⟩) | h
  · exact .inl (.inl (e _ _ h trivial))
  · exact .inl (.inr ⟨o, e _ _ h trivial⟩)
  · exact .inr h
theorem Fzn.seqL {a : Addr} {xs : List V} (e : Fzn H H') (h : FzL K H a xs) : FzL K H' a xs := by
  rcases h with ⟨o, h⟩ | h
  · exact .inl ⟨o, e _ _ h trivial⟩
  · exact .inr h
theorem FzL.sq {a : Addr} {xs : List V} (h : FzL K H a xs) : SqL K H a xs := by
  rcases h with ⟨o, h⟩ | h
  · exact .inl (.inr ⟨o, h⟩)
  · exact .inr h
mutual
theorem Fz.mono (e : Fzn H H') : ∀ (d : PyData) (v : V), Fz K H d v → Fz K H' d v
  | .none, v, h => by simp only [Fz] at h ⊢; exact h
  | .bool b, v, h => by simp only [Fz] at h ⊢; exact h
  | .int i, v, h => by simp only [Fz] at h ⊢; exact h
  | .str x, v, h => by simp only [Fz] at h ⊢; exact h
  | .list xs, v, h => by
    simp only [Fz] at h ⊢
    obtain ⟨a, vs, e1, h1, h2⟩ := h
    exact ⟨a, vs, e1, e.seqL h1, FzAll.mono e xs vs h2⟩
  | .tuple xs, v, h => by
    simp only [Fz] at h ⊢
    obtain ⟨a, vs, e1, h1, h2⟩ := h
    exact ⟨a, vs, e1, e.seqT h1, FzAll.mono e xs vs h2⟩
  | .dict kvs, v, h => by
    simp only [Fz] at h ⊢
    obtain ⟨a, o, e1, h⟩ := h
    rcases h with ⟨kk, h1, h2⟩ | ⟨kk, h1, h2⟩
    · exact ⟨a, o, e1, .inl ⟨kk, e _ _ h1 trivial, FzKT.mono e kvs kk h2⟩⟩
    · exact ⟨a, o, e1, .inr ⟨kk, e _ _ h1 trivial, FzKK.mono e kvs kk h2⟩⟩
theorem FzAll.mono (e : Fzn H H') : ∀ (ds : List PyData) (vs : List V), FzAll K H ds vs → FzAll K H' ds vs
  | [], vs, h => by simp only [FzAll] at h ⊢; exact h
  | d :: ds, vs, h => by
    simp only [FzAll] at h ⊢
    obtain ⟨v, r, e1, h1, h2⟩ := h
    exact ⟨v, r, e1, Fz.mono e d v h1, FzAll.mono e ds r h2⟩
theorem FzKT.mono (e : Fzn H H') : ∀ (kvs : List (PyData × PyData)) (kk : List (List Key × V)), FzKT K H kvs kk → FzKT K H' kvs kk
  | [], kk, h => by simp only [FzKT] at h ⊢; exact h
  | (k, d) :: r, kk, h => by
    simp only [FzKT] at h ⊢
    obtain ⟨q, v, t, e1, e2, h1, h2⟩ := h
    exact ⟨q, v, t, e1, e2, Fz.mono e d v h1, FzKT.mono e r t h2⟩
theorem FzKK.mono (e : Fzn H H') : ∀ (kvs : List (PyData × PyData)) (kk : List (Key × V)), FzKK K H kvs kk → FzKK K H' kvs kk
  | [], kk, h => by simp only [FzKK] at h ⊢; exact h
  | (k, d) :: r, kk, h => by
    simp only [FzKK] at h ⊢
    obtain ⟨q, v, t, e1, e2, h1, h2⟩ := h
    exact ⟨q, v, t, e1, e2, Fz.mono e d v h1, FzKK.mono e r t h2⟩
end
theorem FzAll.len : ∀ {ds : List PyData} {vs : List V}, FzAll K H ds vs → vs.length = ds.length
  | [], vs, h => by simp only [FzAll] at h; subst h; rfl
  | d :: ds, vs, h => by
    simp only [FzAll] at h
    obtain ⟨v, r, rfl, _, h2⟩ := h
    simp [FzAll.len h2]
theorem FzAll.get : ∀ {ds : List PyData} {vs : List V} {i : Nat} {d : PyData}, FzAll K H ds vs → ds[i]? = some d → ∃ v, vs[i]? = some v ∧ Fz K H d v
  | [], vs, i, d, h, e => by simp at e
  | d0 :: ds, vs, i, d, h, e => by
    simp only [FzAll] at h
    obtain ⟨v, r, rfl, h1, h2⟩ := h
    cases i with
    | zero => simp at e; subst e; exact ⟨v, by simp, h1⟩
    | succ i =>
      obtain ⟨w, e1, f⟩ := FzAll.get h2 (by simpa using e)
      exact ⟨w, by simpa using e1, f⟩
theorem FzAll.app : ∀ {ds es : List PyData} {vs ws : List V}, FzAll K H ds vs → FzAll K H es ws → FzAll K H (ds ++ es) (vs ++ ws)
  | [], es, vs, ws, h, g => by simp only [FzAll] at h; subst h; exact g
  | d :: ds, es, vs, ws, h, g => by
    simp only [FzAll] at h
    obtain ⟨v, r, rfl, h1, h2⟩ := h
    simp only [List.cons_append, FzAll]
    exact ⟨v, r ++ ws, rfl, h1, FzAll.app h2 g⟩
theorem FzAll.take : ∀ {ds : List PyData} {vs : List V} (n : Nat), FzAll K H ds vs → FzAll K H (ds.take n) (vs.take n)
  | ds, vs, 0, h => by simp [FzAll]
  | [], vs, n + 1, h => by simp only [FzAll] at h; subst h; simp [FzAll]
  | d :: ds, vs, n + 1, h => by
    simp only [FzAll] at h
    obtain ⟨v, r, rfl, h1, h2⟩ := h
    simp only [List.take_succ_cons, FzAll]
    exact ⟨v, _, rfl, h1, FzAll.take n h2⟩
theorem FzAll.drop : ∀ {ds : List PyData} {vs : List V} (n : Nat), FzAll K H ds vs → FzAll K H (ds.drop n) (vs.drop n)
  | ds, vs, 0, h => by simpa using h
  | [], vs, n + 1, h => by simp only [FzAll] at h; subst h; simp [FzAll]
  | d :: ds, vs, n + 1, h => by
    simp only [FzAll] at h
    obtain ⟨v, r, rfl, h1, h2⟩ := h
    simpa using FzAll.drop n h2
theorem FzAll.set : ∀ {ds : List PyData} {vs : List V} {d : PyData} {v : V} (n : Nat), FzAll K H ds vs → Fz K H d v → FzAll K H (ds.set n d) (vs.set n v)
  | [], vs, d, v, n, h, f => by simp only [FzAll] at h; subst h; simp [FzAll]
  | d0 :: ds, vs, d, v, n, h, f => by
    simp only [FzAll] at h
    obtain ⟨v0, r, rfl, h1, h2⟩ := h
    cases n with
    | zero => simp only [List.set_cons_zero, FzAll]; exact ⟨v, r, rfl, f, h2⟩
    | succ n => simp only [List.set_cons_succ, FzAll]; exact ⟨v0, _, rfl, h1, FzAll.set n h2 f⟩
theorem FzAll.rev : ∀ {ds : List PyData} {vs : List V}, FzAll K H ds vs → FzAll K H ds.reverse vs.reverse
  | [], vs, h => by simp only [FzAll] at h; subst h; simp [FzAll]
  | d :: ds, vs, h => by
    simp only [FzAll] at h
    obtain ⟨v, r, rfl, h1, h2⟩ := h
    simp only [List.reverse_cons]
    exact FzAll.app (FzAll.rev h2) (by simp only [FzAll]; exact ⟨v, [], rfl, h1, rfl⟩)
theorem FzAll.rep {ds : List PyData} {vs : List V} (h : FzAll K H ds vs) : ∀ k : Nat, FzAll K H (List.replicate k ds).flatten (List.replicate k vs).flatten
  | 0 => by simp [FzAll]
  | k + 1 => by simp only [List.replicate_succ, List.flatten_cons]; exact FzAll.app h (FzAll.rep h k)
theorem FzAll.ints : ∀ {ds : List PyData} {vs : List V} {ns : List Int}, FzAll K H ds vs → intsOf ds = some ns → vs = ns.map V.int ∧ ds = ns.map PyData.int
  | [], vs, ns, h, e => by simp only [FzAll] at h; simp only [intsOf, Option.some.injEq] at e; subst h; subst e; exact ⟨rfl, rfl⟩
  | d :: ds, vs, ns, h, e => by
    simp only [FzAll] at h
    obtain ⟨v, r, rfl, h1, h2⟩ := h
    cases d with
    | int i =>
      simp only [intsOf, Option.map_eq_some_iff] at e
      obtain ⟨ms, e1, rfl⟩ := e
      obtain ⟨a, b⟩ := FzAll.ints h2 e1
      simp only [Fz] at h1
      subst h1; subst a; subst b
      exact ⟨rfl, rfl⟩
    | _ => simp [intsOf] at e
theorem FzAll.bools : ∀ {ds : List PyData} {vs : List V} {ns : List Bool}, FzAll K H ds vs → boolsOf ds = some ns → vs = ns.map V.bl ∧ ds = ns.map PyData.bool
  | [], vs, ns, h, e => by simp only [FzAll] at h; simp only [boolsOf, Option.some.injEq] at e; subst h; subst e; exact ⟨rfl, rfl⟩
  | d :: ds, vs, ns, h, e => by
    simp only [FzAll] at h
    obtain ⟨v, r, rfl, h1, h2⟩ := h
    cases d with
    | bool i =>
      simp only [boolsOf, Option.map_eq_some_iff] at e
      obtain ⟨ms, e1, rfl⟩ := e
      obtain ⟨a, b⟩ := FzAll.bools h2 e1
      simp only [Fz] at h1
      subst h1; subst a; subst b
      exact ⟨rfl, rfl⟩
    | _ => simp [boolsOf] at e
theorem FzAll.ofInts : ∀ (ns : List Int), FzAll K H (ns.map PyData.int) (ns.map V.int)
  | [] => by simp [FzAll]
  | i :: r => by simp only [List.map_cons, FzAll]; exact ⟨_, _, rfl, by simp [Fz], FzAll.ofInts r⟩
end
def MutAt (K : PySem.W.Frag) (H : Hp) (a : Addr) : PyData → Prop
  | .list ds => ∃ vs, H a = some (.lst vs) ∧ FzAll K H ds vs
  | .dict kvs => (∃ kk, H a = some (.dT kk) ∧ FzKT K H kvs kk) ∨ ∃ kk, H a = some (.dK kk) ∧ FzKK K H kvs kk
  | _ => False
def Tp (K : PySem.W.Frag) (H : Hp) : PyData → V → Prop
  | .list ds, v => ∃ a vs, v = .ref a ∧ SqL K H a vs ∧ FzAll K H ds vs
  | .dict kvs, v => ∃ a, v = .ref a ∧ ((∃ kk, Rd H a (.dT kk) ∧ FzKT K H kvs kk) ∨ ∃ kk, Rd H a (.dK kk) ∧ FzKK K H kvs kk)
  | d, v => Fz K H d v
section
variable {K : PySem.W.Frag} {H H' : Hp}
theorem Fz.tp {d : PyData} {v : V} (h : Fz K H d v) : Tp K H d v := by
  cases d with
  | list ds =>
    simp only [Fz] at h
    obtain ⟨a, vs, e, h1, h2⟩ := h
    exact ⟨a, vs, e, h1.sq, h2⟩
  | dict kvs =>
    simp only [Fz] at h
    obtain ⟨a, o, e, h⟩ := h
    rcases h with ⟨kk, h1, h2⟩ | ⟨kk, h1, h2⟩
    · exact ⟨a, e, .inl ⟨kk, .inr ⟨o, h1⟩, h2⟩⟩
    · exact ⟨a, e, .inr ⟨kk, .inr ⟨o, h1⟩, h2⟩⟩
  | _ => exact h
theorem MutAt.tp {d : PyData} {a : Addr} (h : MutAt K H a d) : Tp K H d (.ref a) := by
  cases d with
  | list ds =>
    obtain ⟨vs, h1, h2⟩ := h
    exact ⟨a, vs, rfl, SqL.of h1, h2⟩
  | dict kvs =>
    rcases h with ⟨kk, h1, h2⟩ | ⟨kk, h1, h2⟩
    · exact ⟨a, rfl, .inl ⟨kk, .inl h1, h2⟩⟩
    · exact ⟨a, rfl, .inr ⟨kk, .inl h1, h2⟩⟩
  | _ => exact h.elim
def Own : HO → Prop
  | .lst _ => True
  | .dT _ => True
  | .dK _ => True
  | _ => False
theorem MutAt.own {d : PyData} {a : Addr} (h : MutAt K H a d) : ∃ o, H a = some o ∧ Own o := by
  cases d with
  | list ds => obtain ⟨vs, h1, _⟩ := h; exact ⟨_, h1, trivial⟩
  | dict kvs =>
    rcases h with ⟨kk, h1, h2⟩ | ⟨kk, h1, h2⟩
    · exact ⟨_, h1, trivial⟩
    · exact ⟨_, h1, trivial⟩
  | _ => exact h.elim
theorem Own.nostay {o : HO} (h : Own o) : ¬ Stay o := by cases o <;> first | exact fun z => z | exact h.elim
theorem MutAt.mono {d : PyData} {a : Addr} (e : Fzn H H') (k : H' a = H a) (h : MutAt K H a d) : MutAt K H' a d := by
  cases d with
  | list ds => obtain ⟨vs, h1, h2⟩ := h; exact ⟨vs, by rw [k]; exact h1, h2.mono e⟩
  | dict kvs =>
    rcases h with ⟨kk, h1, h2⟩ | ⟨kk, h1, h2⟩
    · exact .inl ⟨kk, by rw [k]; exact h1, h2.mono e⟩
    · exact .inr ⟨kk, by rw [k]; exact h1, h2.mono e⟩
  | _ => exact h.elim
end
def SlOk (K : PySem.W.Frag) (H : Hp) : Sl → Option V → Prop
  | .no, _ => True
  | .val d, some v => Fz K H d v
  | .ow _ d, some (.ref a) => MutAt K H a d
  | _, _ => False
def At (ρ : En) (σ : St) (i : Nat) (a : Addr) : Prop := (∃ p d, ρ[i]? = some (.ow p d)) ∧ σ[i]? = some (some (.ref a))
structure Rel (K : PySem.W.Frag) (ρ : En) (σ : St) (H : Hp) : Prop where
  len : ρ.length = σ.length
  ok : ∀ (i : Nat) x v, ρ[i]? = some x → σ[i]? = some v → SlOk K H x v
  sep : ∀ i j a, At ρ σ i a → At ρ σ j a → i = j
def MA (ρ : En) (σ : St) (a : Addr) : Prop := ∃ i, At ρ σ i a
structure Stp (ρ ρ' : En) (σ : St) (H H' : Hp) : Prop where
  md : ∀ (i : Nat) p, (∃ d, ρ[i]? = some (.ow p d)) ↔ ∃ d, ρ'[i]? = some (.ow p d)
  kp : ∀ a o, H a = some o → ¬ MA ρ σ a → H' a = some o
section
variable {K : PySem.W.Frag} {ρ ρ' ρ'' : En} {σ : St} {H H' H'' : Hp}
theorem Rel.at_own (r : Rel K ρ σ H) {i : Nat} {a : Addr} (h : At ρ σ i a) : ∃ p d, ρ[i]? = some (.ow p d) ∧ MutAt K H a d := by
  obtain ⟨⟨p, d, e⟩, e2⟩ := h
  exact ⟨p, d, e, r.ok i _ _ e e2⟩
theorem Rel.ma_own (r : Rel K ρ σ H) {a : Addr} (h : MA ρ σ a) : ∃ o, H a = some o ∧ Own o := by
  obtain ⟨i, h⟩ := h
  obtain ⟨p, d, _, m⟩ := r.at_own h
  exact m.own
theorem Stp.refl : Stp ρ ρ σ H H := ⟨fun _ _ => Iff.rfl, fun _ _ h _ => h⟩
theorem Stp.ma (s : Stp ρ ρ' σ H H') {a : Addr} : MA ρ σ a ↔ MA ρ' σ a := by
  constructor
  · rintro ⟨i, ⟨p, h⟩, e⟩; exact ⟨i, ⟨p, (s.md i p).mp h⟩, e⟩
  · rintro ⟨i, ⟨p, h⟩, e⟩; exact ⟨i, ⟨p, (s.md i p).mpr h⟩, e⟩
theorem Stp.trans (a : Stp ρ ρ' σ H H') (b : Stp ρ' ρ'' σ H' H'') : Stp ρ ρ'' σ H H'' :=
  ⟨fun i p => (a.md i p).trans (b.md i p), fun c o h n => b.kp c o (a.kp c o h n) fun z => n (a.ma.mpr z)⟩
theorem Stp.of (s : Same H H') : Stp ρ ρ σ H H' := ⟨fun _ _ => Iff.rfl, fun a o h _ => s a o h⟩
theorem Stp.fzn (s : Stp ρ ρ' σ H H') (r : Rel K ρ σ H) : Fzn H H' := fun a o h st => s.kp a o h fun m => by
  obtain ⟨o', e, w⟩ := r.ma_own m
  rw [h] at e
  cases e
  exact w.nostay st
theorem SlOk.mono {x : Sl} {v : Option V} (f : Fzn H H') (k : ∀ a, v = some (.ref a) → (∃ p d, x = .ow p d) → H' a = H a) (h : SlOk K H x v) : SlOk K H' x v := by
  cases x with
  | no => trivial
  | val d => cases v with
    | none => exact h.elim
    | some v => exact Fz.mono f d v h
  | ow p d => cases v with
    | none => exact h.elim
    | some v => cases v with
      | ref a => exact MutAt.mono f (k a rfl ⟨p, d, rfl⟩) h
      | _ => exact h.elim
theorem Rel.same (r : Rel K ρ σ H) (s : Same H H') : Rel K ρ σ H' := by
  refine ⟨r.len, fun i x v e1 e2 => (r.ok i x v e1 e2).mono (Fzn.of s) fun a e3 ⟨p, d, e4⟩ => ?_, r.sep⟩
  subst e3; subst e4
  obtain ⟨o, e, _⟩ := r.ma_own ⟨i, ⟨p, d, e1⟩, e2⟩
  rw [e, s a o e]
theorem Rel.put {a : Addr} {o : HO} (r : Rel K ρ σ H) (n : ¬ MA ρ σ a) (ns : ∀ u, H a = some u → ¬ Stay u) : Rel K ρ σ (upd H a o) := by
  have f : Fzn H (upd H a o) := fun b u e st => by
    rw [upd_ne fun z => by subst z; exact ns u e st]
    exact e
  refine ⟨r.len, fun i x v e1 e2 => (r.ok i x v e1 e2).mono f fun b e3 ⟨p, d, e4⟩ => ?_, r.sep⟩
  subst e3; subst e4
  exact upd_ne fun z => n ⟨i, ⟨p, d, e1⟩, z ▸ e2⟩
end
end FL
set_option Elab.async false
set_option linter.all false
set_option maxRecDepth 100000
set_option maxHeartbeats 4000000
namespace FL
open PySem L2 PySem.Spec
open PyProof.Rows hiding St
section
variable {X : Cx} {pins : List (Addr × Obj)} {σ : L2.St} {H : Hp} {s : Shared}
theorem frzI {a : Addr} {u : HO} {o : Obj} (I : Inv X pins σ H s) (hd : H a = some u) (ow : Own u) (ho : s.heap.get? a = some o) : Inv X pins σ (upd H a (.frz o u)) s := by
  have ne : ∀ b w, H b = some w → ¬ Own w → b ≠ a := fun b w e n z => by
    subst z
    rw [e] at hd
    cases hd
    exact n ow
  refine Inv.step (s := s) (h' := s.heap) (H' := upd H a (.frz o u)) (g' := s.gens) (t' := s.toks) (d' := s.drawn) (ch := []) I (fun _ z => nomatch z) (fun b o _ _ _ e _ => e) (fun b o _ _ _ e _ => ⟨o.slots, e⟩) (fun b _ _ _ n => ?_) (fun b o _ e => ⟨o, e⟩)
    (fun b xs e => ?_) (fun b o u e => ?_) (fun b ps e => ⟨#[], ?_⟩) (fun m hm => hm) (fun b w e => ?_) I.bare
  · rw [upd_ne fun z => by subst z; rw [n] at hd; cases hd]; exact n
  · rw [upd_ne (ne b _ e fun z => z)]; exact e
  · rw [upd_ne (ne b _ e fun z => z)]; exact e
  · rw [upd_ne (ne b _ e fun z => z), e]; simp
  · have st : ∀ (b : Addr) (w : HO), ObjOk X.prog X.w H s.heap b w → ObjOk X.prog X.w (upd H a (.frz o u)) s.heap b w := fun b w k =>
      k.stay (fun _ _ _ q => q) (fun b' q => by rw [upd_ne (ne b' _ q fun z => z)]; exact q) (fun b' xs q => by rw [upd_ne (ne b' _ q fun z => z)]; exact q)
    by_cases c : b = a
    · subst c
      rw [upd_same] at e
      cases e
      exact ⟨ho, st b u (I.hok b u hd)⟩
    · rw [upd_ne c] at e
      exact st b w (I.hok b w e)
theorem ep_fz {Q : VK} {w : Value} (h : EP X pins σ (fun v H1 => ∃ a u, v = .ref a ∧ H1 a = some u ∧ Own u ∧ ∀ o, Q v (upd H1 a (.frz o u))) w s) : EP X pins σ Q w s := by
  obtain ⟨v, H1, I, r, a, u, e, e1, ow, q⟩ := h
  obtain ⟨o, ho⟩ := (I.hok a u e1).some
  exact ⟨v, _, frzI I e1 ow ho, r, q o⟩
def tFz (t : TE) : TE := fun σ H Q => t σ H fun v H1 => ∃ a u, v = .ref a ∧ H1 a = some u ∧ Own u ∧ ∀ o, Q v (upd H1 a (.frz o u))
theorem pe_fz {e : Expr} {t : TE} (h : PE X e t) : PE X e (tFz t) := fun pins s σ H Q I q => thn (h pins s σ H _ I q) fun _ _ z => ep_fz z
end
def Good {β : Type} (K : PySem.W.Frag) (ρ : En) (σ : L2.St) (H : Hp) (r : R (β × En)) (P : β → En → Hp → Prop) : Prop := match r with
  | .ok x => ∀ H', Rel K x.2 σ H' → Stp ρ x.2 σ H H' → P x.1 x.2 H'
  | _ => False
def tV (K : PySem.W.Frag) (f : EF) : TE := fun σ H Q => ∃ ρ, Rel K ρ σ H ∧ Good K ρ σ H (f ρ) fun d _ H' => ∀ v, Fz K H' d v → Q v H'
def tT (K : PySem.W.Frag) (f : TF) : TT := fun σ H Q => ∃ ρ, Rel K ρ σ H ∧ Good K ρ σ H (f ρ) fun b _ H' => Q b H'
def tA (K : PySem.W.Frag) (f : AF) : TA := fun σ H Q => ∃ ρ, Rel K ρ σ H ∧ Good K ρ σ H (f ρ) fun ds _ H' => ∀ vs, FzAll K H' ds vs → Q vs H'
def tO (K : PySem.W.Frag) (f : OF) : TO := fun σ H Q => ∃ ρ, Rel K ρ σ H ∧ Good K ρ σ H (f ρ) fun o _ H' => Q o H'
def tN (K : PySem.W.Frag) (f : EF) : TE := fun σ H Q => ∃ ρ, Rel K ρ σ H ∧ Good K ρ σ H (f ρ) fun d ρ' H' => ∀ a, H a = none → MutAt K H' a d → Q (.ref a) H'
def PV (K : PySem.W.Frag) (X : Cx) (e : Expr) (f : EF) : Prop := X.K = K → PE X e (tV K f)
def PVT (K : PySem.W.Frag) (X : Cx) (e : Expr) (f : TF) : Prop := X.K = K → PT X e (tT K f)
def PVW (K : PySem.W.Frag) (X : Cx) (e : Expr) (f : TF) : Prop := X.K = K → PW X e (tT K f)
def PVA (K : PySem.W.Frag) (X : Cx) (es : List Expr) (f : AF) : Prop := X.K = K → PA X es (tA K f)
def PVO (K : PySem.W.Frag) (X : Cx) (e : Option Expr) (f : OF) : Prop := X.K = K → PO X e (tO K f)
def PVN (K : PySem.W.Frag) (X : Cx) (e : Expr) (f : EF) : Prop := X.K = K → PE X e (tN K f)
theorem _root_.L2.PE.weak {X : Cx} {e : Expr} {t t' : TE} (h : PE X e t) (w : ∀ σ H Q, t' σ H Q → t σ H Q) : PE X e t' := fun pins s σ H Q I q => h pins s σ H Q I (w σ H Q q)
theorem _root_.L2.PT.weak {X : Cx} {e : Expr} {t t' : TT} (h : PT X e t) (w : ∀ σ H Q, t' σ H Q → t σ H Q) : PT X e t' := fun pins s σ H Q I q => h pins s σ H Q I (w σ H Q q)
theorem _root_.L2.PW.weak {X : Cx} {e : Expr} {t t' : TT} (h : PW X e t) (w : ∀ σ H Q, t' σ H Q → t σ H Q) : PW X e t' := fun wh pins s σ H Q I q => h wh pins s σ H Q I (w σ H Q q)
theorem _root_.L2.PA.weak {X : Cx} {e : List Expr} {t t' : TA} (h : PA X e t) (w : ∀ σ H Q, t' σ H Q → t σ H Q) : PA X e t' := fun pos pins s σ H Q I q => h pos pins s σ H Q I (w σ H Q q)
theorem _root_.L2.PO.weak {X : Cx} {e : Option Expr} {t t' : TO} (h : PO X e t) (w : ∀ σ H Q, t' σ H Q → t σ H Q) : PO X e t' := fun pins s σ H Q I q => h pins s σ H Q I (w σ H Q q)
section
variable {K : PySem.W.Frag} {ρ ρ1 : En} {σ : L2.St} {H H1 : Hp} {β γ : Type}
theorem Good.step {r : R (β × En)} {P : β → En → Hp → Prop} (st : Stp ρ ρ1 σ H H1) (g : Good K ρ σ H r P) : Good K ρ1 σ H1 r P := by
  cases r with
  | ok x => exact fun H' rel s => g H' rel (st.trans s)
  | _ => exact g
theorem Good.bnd {r : R (β × En)} {k : β × En → R (γ × En)} {P : γ → En → Hp → Prop} (g : Good K ρ σ H (r.bind k) P) : ∃ x, r = .ok x ∧ Good K ρ σ H (k x) P := by
  cases r with
  | ok x => exact ⟨x, rfl, g⟩
  | _ => exact g.elim
theorem Good.bnd' {r : R β} {k : β → R (γ × En)} {P : γ → En → Hp → Prop} (g : Good K ρ σ H (r.bind k) P) : ∃ x, r = .ok x ∧ Good K ρ σ H (k x) P := by
  cases r with
  | ok x => exact ⟨x, rfl, g⟩
  | _ => exact g.elim
theorem Good.chk {c : Bool} {r : R (γ × En)} {P : γ → En → Hp → Prop} (g : Good K ρ σ H (chk c r) P) : c = true ∧ Good K ρ σ H r P := by
  cases c with
  | true => exact ⟨rfl, g⟩
  | false => exact g.elim
theorem Good.now {x : β} {P : β → En → Hp → Prop} (g : Good K ρ σ H (.ok (x, ρ)) P) (rel : Rel K ρ σ H) : P x ρ H := g H rel .refl
theorem Good.new {x : β} {P : β → En → Hp → Prop} (g : Good K ρ σ H (.ok (x, ρ)) P) (rel : Rel K ρ σ H) (s : Same H H1) : P x ρ H1 := g H1 (rel.same s) (.of s)
theorem goV {f : EF} {k : D × En → R (β × En)} {S : VK} {P : β → En → Hp → Prop} (rel : Rel K ρ σ H) (g : Good K ρ σ H ((f ρ).bind k) P)
    (h : ∀ d ρ1 v H1, Rel K ρ1 σ H1 → Stp ρ ρ1 σ H H1 → Fz K H1 d v → Good K ρ1 σ H1 (k (d, ρ1)) P → S v H1) : tV K f σ H S := by
  obtain ⟨x, e, g1⟩ := g.bnd
  refine ⟨ρ, rel, ?_⟩
  rw [e]
  exact fun H' r s v fz => h x.1 x.2 v H' r s fz (g1.step s)
theorem goT {f : TF} {k : Bool × En → R (β × En)} {S : Bool → Hp → Prop} {P : β → En → Hp → Prop} (rel : Rel K ρ σ H) (g : Good K ρ σ H ((f ρ).bind k) P)
    (h : ∀ b ρ1 H1, Rel K ρ1 σ H1 → Stp ρ ρ1 σ H H1 → Good K ρ1 σ H1 (k (b, ρ1)) P → S b H1) : tT K f σ H S := by
  obtain ⟨x, e, g1⟩ := g.bnd
  refine ⟨ρ, rel, ?_⟩
  rw [e]
  exact fun H' r s => h x.1 x.2 H' r s (g1.step s)
theorem goA {f : AF} {k : List D × En → R (β × En)} {S : List V → Hp → Prop} {P : β → En → Hp → Prop} (rel : Rel K ρ σ H) (g : Good K ρ σ H ((f ρ).bind k) P)
    (h : ∀ ds ρ1 vs H1, Rel K ρ1 σ H1 → Stp ρ ρ1 σ H H1 → FzAll K H1 ds vs → Good K ρ1 σ H1 (k (ds, ρ1)) P → S vs H1) : tA K f σ H S := by
  obtain ⟨x, e, g1⟩ := g.bnd
  refine ⟨ρ, rel, ?_⟩
  rw [e]
  exact fun H' r s vs fz => h x.1 x.2 vs H' r s fz (g1.step s)
theorem goO {f : OF} {k : Option Int × En → R (β × En)} {S : Option Int → Hp → Prop} {P : β → En → Hp → Prop} (rel : Rel K ρ σ H) (g : Good K ρ σ H ((f ρ).bind k) P)
    (h : ∀ b ρ1 H1, Rel K ρ1 σ H1 → Stp ρ ρ1 σ H H1 → Good K ρ1 σ H1 (k (b, ρ1)) P → S b H1) : tO K f σ H S := by
  obtain ⟨x, e, g1⟩ := g.bnd
  refine ⟨ρ, rel, ?_⟩
  rw [e]
  exact fun H' r s => h x.1 x.2 H' r s (g1.step s)
theorem tV.mono {f : EF} {Q Q' : VK} (h : tV K f σ H Q) (w : ∀ v H, Q v H → Q' v H) : tV K f σ H Q' := by
  obtain ⟨ρ, rel, g⟩ := h
  refine ⟨ρ, rel, ?_⟩
  cases e : f ρ with
  | ok x => rw [e] at g; exact fun H' r s v fz => w _ _ (g H' r s v fz)
  | _ => rw [e] at g; exact g
end
def rD (K : PySem.W.Frag) (g : D → D → R D) : R2 := fun x y H Q => ∃ dx dy d, Tp K H dx x ∧ Tp K H dy y ∧ g dx dy = .ok d ∧ ∀ v H', Same H H' → Fz K H' d v → Q v H'
def rDs (K : PySem.W.Frag) (G : List D → R D) : List V → Hp → VK → Prop := fun xs H Q => ∃ ds d, FzAll K H ds xs ∧ G ds = .ok d ∧ ∀ v H', Same H H' → Fz K H' d v → Q v H'
def rD0 (K : PySem.W.Frag) (g : D → R D) : List V → Hp → VK → Prop := fun xs H Q => ∃ x dx d, xs = [x] ∧ Tp K H dx x ∧ g dx = .ok d ∧ ∀ v H', Same H H' → Fz K H' d v → Q v H'
section
variable {K : PySem.W.Frag} {X : Cx} {a b c : Expr} {f h k : EF} {pos : Pos}
theorem pv_var {x : Str} (i : Nat) (hN : X.N[i]? = some x := by rfl) (hv : Vis X.env.scope x := by first | exact Or.inl rfl | exact Or.inr (Or.inl rfl) | exact Or.inr (Or.inr rfl)) (hd : (x == ("__debug__" : Str)) = false := by decide)
    (hcd : (x == ("__classdict__" : Str)) = false := by decide) : PV K X (.Name x pos) (eV i) := fun _ => (pe_var hN hv hd hcd).weak fun σ H Q => by
  rintro ⟨ρ, rel, g⟩
  unfold eV at g
  cases e : ρ[i]? with
  | none => rw [e] at g; exact g.elim
  | some x =>
    rw [e] at g
    cases x with
    | val d =>
      have hl : i < σ.length := by rw [← rel.len]; exact (List.getElem?_eq_some_iff.mp e).1
      have o := rel.ok i _ _ e (List.getElem?_eq_getElem hl)
      cases es : σ[i] with
      | none => rw [es] at o; exact o.elim
      | some v =>
        rw [es] at o
        exact ⟨v, by rw [List.getElem?_eq_getElem hl, es], g.now rel v o⟩
    | _ => exact g.elim
theorem pv_c {e : Expr} {v : V} {d : D} (h : PE X e (tC v)) (hv : ∀ H, Fz K H d v) : PV K X e (eC d) := fun _ => h.weak fun σ H Q => by
  rintro ⟨ρ, rel, g⟩
  exact g.now rel v (hv H)
theorem pv_int {i : Int} {j} : PV K X (.Constant (.int i) j pos) (eC (.int i)) := pv_c pe_int fun _ => by simp [Fz]
theorem pv_bl {i : Bool} {j} : PV K X (.Constant (.bool i) j pos) (eC (.bool i)) := pv_c pe_bl fun _ => by simp [Fz]
theorem pv_glob {x : Str} {v : V} {u : Value} {d : D} (hg : Gl X x) (hm : X.mg x = some u) (r : RelV v u) (hv : ∀ H, Fz K H d v) (hd : (x == ("__debug__" : Str)) = false := by decide) : PV K X (.Name x pos) (eC d) := pv_c (pe_glob hg hm r hd) hv
theorem goOp {g : D → D → R D} {r : R2} (ho : ∀ x y H Q, rD K g x y H Q → r x y H Q) (σ : L2.St) (H : Hp) (Q : VK) (q : tV K (e2 g f h) σ H Q) : tOp r (tV K f) (tV K h) σ H Q := by
  obtain ⟨ρ, rel, q⟩ := q
  refine goV rel q fun dx ρ1 x H1 rel1 st1 fx q1 => goV rel1 q1 fun dy ρ2 y H2 rel2 st2 fy q2 => ?_
  obtain ⟨d, ed, q3⟩ := q2.bnd'
  exact ho _ _ _ _ ⟨dx, dy, d, (fx.mono (st2.fzn rel1)).tp, fy.tp, ed, fun v H' s fz => q3.new rel2 s v fz⟩
theorem pv_op {op : Operator} {g : D → D → R D} (ho : OpR X (binaryOp op) (rD X.K g)) (ha : PV K X a f) (hb : PV K X b h) : PV K X (.BinOp a op b pos) (e2 g f h) := fun hK => by
  subst hK
  exact (pe_op ho (ha rfl) (hb rfl)).weak fun σ H Q q => goOp (fun _ _ _ _ z => z) σ H Q q
theorem pv_ix {g : D → D → R D} (ho : IxR X (rD X.K g)) (ha : PV K X a f) (hb : PV K X b h) (hs : PlainIx b := by exact fun _ _ => rfl) : PV K X (.Subscript a b pos) (e2 g f h) := fun hK => by
  subst hK
  exact (pe_ix ho (ha rfl) (hb rfl) hs).weak fun σ H Q q => goOp (fun _ _ _ _ z => z) σ H Q q
theorem pv_cmp {op : CmpOp} {g : D → D → R D} (ho : OpR X (compareOp op) (rD X.K g)) (ha : PV K X a f) (hb : PV K X b h) (hm : behindInMarks op b = false) : PV K X (.Compare a [op] [b] pos) (e2 g f h) := fun hK => by
  subst hK
  exact (pe_cmpR ho (ha rfl) (hb rfl) hm).weak fun σ H Q q => goOp (fun _ _ _ _ z => z) σ H Q q
theorem goChain {g g' : D → D → R D} (σ : L2.St) (H : Hp) (Q : VK) (q : tV K (eChain g g' f h k) σ H Q) : tChain (rD K g) (rD K g') (tV K f) (tV K h) (tV K k) σ H Q := by
  obtain ⟨ρ, rel, q⟩ := q
  refine goV rel q fun dx ρ1 x H1 rel1 st1 fx q1 => goV rel1 q1 fun dy ρ2 y H2 rel2 st2 fy q2 => ?_
  obtain ⟨d, ed, q3⟩ := q2.bnd'
  refine ⟨dx, dy, d, (fx.mono (st2.fzn rel1)).tp, fy.tp, ed, fun v H' s fz => ?_⟩
  cases d with
  | bool bb =>
    simp only [Fz] at fz
    subst fz
    have rel3 := rel2.same s
    have q4 := q3.step (.of s)
    cases bb with
    | true =>
      refine ⟨true, rfl, iteT ?_⟩
      refine goV rel3 q4 fun dz ρ3 z H3 rel4 st4 fzz q5 => ?_
      obtain ⟨d2, ed2, q6⟩ := q5.bnd'
      exact ⟨dy, dz, d2, ((fy.mono (Fzn.of s)).mono (st4.fzn rel3)).tp, fzz.tp, ed2, fun v H' s fz => q6.new rel4 s v fz⟩
    | false => exact ⟨false, rfl, iteF (q4.now rel3 _ (by simp [Fz]))⟩
  | _ => exact q3.elim
theorem pv_chain {op op' : CmpOp} {g g' : D → D → R D} (ho : OpR X (compareOp op) (rD X.K g)) (ho' : OpR X (compareOp op') (rD X.K g')) (ha : PV K X a f) (hb : PV K X b h) (hc : PV K X c k)
    (hm : lastMarks [op, op'] [b, c] = false := by with_unfolding_all rfl) : PV K X (.Compare a [op, op'] [b, c] pos) (eChain g g' f h k) := fun hK => by
  subst hK
  exact (pe_chain ho ho' (ha rfl) (hb rfl) (hc rfl) hm).weak fun σ H Q q => goChain σ H Q q
theorem pv_one {op} (ha : PV K X a f) : PV K X (.BoolOp op [a] pos) f := fun hK => pe_one (ha hK)
theorem pv_and {rest : List Expr} (ha : PV K X a f) (hb : PV K X (.BoolOp .And (b :: rest) pos) h) : PV K X (.BoolOp .And (a :: b :: rest) pos) (eAnd f h) := fun hK => (pe_and (ha hK) (hb hK)).weak fun σ H Q => by
  rintro ⟨ρ, rel, q⟩
  refine goV rel q fun dx ρ1 x H1 rel1 st1 fx q1 => ?_
  cases dx with
  | bool bb =>
    simp only [Fz] at fx
    subst fx
    cases bb with
    | true => exact ⟨true, rfl, iteT ⟨ρ1, rel1, q1⟩⟩
    | false => exact ⟨false, rfl, iteF (q1.now rel1 _ (by simp [Fz]))⟩
  | _ => exact q1.elim
theorem pv_not (ha : PV K X a f) : PV K X (.UnaryOp .Not a pos) (eNot f) := fun hK => (pe_not (ha hK)).weak fun σ H Q => by
  rintro ⟨ρ, rel, q⟩
  refine goV rel q fun dx ρ1 x H1 rel1 st1 fx q1 => ?_
  cases dx with
  | bool bb =>
    simp only [Fz] at fx
    subst fx
    exact ⟨bb, rfl, q1.now rel1 _ (by simp [Fz])⟩
  | _ => exact q1.elim
variable {es : List Expr} {fa : AF}
theorem pva_nil : PVA K X [] aNil := fun _ => pa_nil.weak fun σ H Q => by
  rintro ⟨ρ, rel, q⟩
  exact q.now rel [] (by simp [FzAll])
theorem pva_cons (ha : PV K X a f) (hr : PVA K X es fa) (hs : starEach (a :: es) X.env = (false, eval a X.env) :: starEach es X.env := by rfl) : PVA K X (a :: es) (aCons f fa) := fun hK => (pa_cons (ha hK) (hr hK) hs).weak fun σ H Q => by
  rintro ⟨ρ, rel, q⟩
  refine goV rel q fun dx ρ1 x H1 rel1 st1 fx q1 => goA rel1 q1 fun ds ρ2 vs H2 rel2 st2 fs q2 => ?_
  exact q2.now rel2 _ (by simp only [FzAll]; exact ⟨x, vs, rfl, fx.mono (st2.fzn rel1), fs⟩)
theorem lim_size : lim ≤ sizeLine := by rw [sizeLine_eq]; decide
theorem pv_tup {x1} (h : PVA K X es fa) : PV K X (.Tuple es x1 pos) (eTup fa) := fun hK => (pe_tup (h hK)).weak fun σ H Q => by
  rintro ⟨ρ, rel, q⟩
  refine goA rel q fun ds ρ1 vs H1 rel1 st1 fs q1 => ?_
  obtain ⟨c, q2⟩ := q1.chk
  refine ⟨by rw [fs.len]; exact Nat.le_trans (le_of c) lim_size, fun p hp => ?_⟩
  have s : Same H1 (upd H1 p (.tup vs)) := Same.upd hp
  refine q2.new rel1 s _ ?_
  simp only [Fz]
  exact ⟨p, vs, rfl, SqT.of upd_same, fs.mono (Fzn.of s)⟩
theorem pvn_lst (h : PVA K X es fa) : PVN K X (.List es pos) (eLst fa) := fun hK => (pe_lst (h hK)).weak fun σ H Q => by
  rintro ⟨ρ, rel, q⟩
  refine goA rel q fun ds ρ1 vs H1 rel1 st1 fs q1 => ?_
  obtain ⟨c, q2⟩ := q1.chk
  refine ⟨by rw [fs.len]; exact Nat.le_trans (le_of c) lim_size, fun p hp => ?_⟩
  have s : Same H1 (upd H1 p (.lst vs)) := Same.upd hp
  refine q2.new rel1 s p ?_ ?_
  · cases e : H p with
    | none => rfl
    | some o =>
      by_cases m : MA ρ σ p
      · obtain ⟨o', e', _⟩ := rel1.ma_own (st1.ma.mp m)
        rw [hp] at e'; cases e'
      · rw [st1.kp p o e m] at hp; cases hp
  · exact ⟨vs, upd_same, fs.mono (Fzn.of s)⟩
theorem PVN.pv {e : Expr} {f : EF} (h : PVN K X e f) : PV K X e f := fun hK => (pe_fz (h hK)).weak fun σ H Q => by
  rintro ⟨ρ, rel, q⟩
  refine ⟨ρ, rel, ?_⟩
  cases e : f ρ with
  | ok x =>
    rw [e] at q
    intro H' rel' st a ha m
    obtain ⟨u, e1, ow⟩ := m.own
    refine ⟨a, u, rfl, e1, ow, fun o => ?_⟩
    have nma : ¬ MA ρ σ a := fun z => by
      obtain ⟨o', e', _⟩ := rel.ma_own z
      rw [ha] at e'; cases e'
    have nma' : ¬ MA x.2 σ a := fun z => nma (st.ma.mpr z)
    have fz : Fzn H' (upd H' a (.frz o u)) := fun b w e2 sy => by
      rw [upd_ne fun z => by subst z; rw [e1] at e2; cases e2; exact ow.nostay sy]
      exact e2
    refine q _ (rel'.put nma' fun u' e2 => by rw [e1] at e2; cases e2; exact ow.nostay) ⟨st.md, fun b w e2 n => ?_⟩ _ ?_
    · rw [upd_ne fun z => by subst z; rw [ha] at e2; cases e2]
      exact st.kp b w e2 n
    · obtain ⟨d, ρ'⟩ := x
      cases d with
      | list ds =>
        obtain ⟨vs, h1, h2⟩ := m
        rw [e1] at h1
        cases h1
        simp only [Fz]
        exact ⟨a, vs, rfl, .inl ⟨o, upd_same⟩, h2.mono fz⟩
      | dict kvs =>
        simp only [Fz]
        rcases m with ⟨kk, h1, h2⟩ | ⟨kk, h1, h2⟩
        · rw [e1] at h1
          cases h1
          exact ⟨a, o, rfl, .inl ⟨kk, upd_same, h2.mono fz⟩⟩
        · rw [e1] at h1
          cases h1
          exact ⟨a, o, rfl, .inr ⟨kk, upd_same, h2.mono fz⟩⟩
      | _ => exact m.elim
  | _ => rw [e] at q; exact q.elim
theorem goC {G : List D → R D} {r : List V → Hp → VK → Prop} (hr : ∀ xs H Q, rDs K G xs H Q → r xs H Q) (σ : L2.St) (H : Hp) (Q : VK) (q : tV K (eCall G fa) σ H Q) : tCB r (tA K fa) σ H Q := by
  obtain ⟨ρ, rel, q⟩ := q
  refine goA rel q fun ds ρ1 vs H1 rel1 st1 fs q1 => ?_
  obtain ⟨d, ed, q2⟩ := q1.bnd'
  exact hr _ _ _ ⟨ds, d, fs, ed, fun v H' s fz => q2.new rel1 s v fz⟩
theorem pv_callB {x : Str} {id : String} {G : List D → R D} {p : Pos} {e : Expr} (hc : CallR X (.builtin id) (rDs X.K G)) (hg : Gl X x) (hm : X.mg x = none) (hv : bootBuiltins x = some (.builtin id)) (ha : PVA K X (e :: es) fa) (hn : x ≠ "__name__" := by decide) (hdb : (x == ("__debug__" : Str)) = false := by decide)
    (he : starEach (e :: es) X.env = (false, eval e X.env) :: starEach es X.env := by rfl) (hpl : (backTo pos (starEach es X.env)).any (·.1) = false := by rfl) : PV K X (.Call (.Name x p) (e :: es) [] pos) (eCall G fa) := fun hK => by
  subst hK
  exact (pe_callB hc hg hm hv (ha rfl) hn hdb he hpl).weak fun σ H Q q => goC (fun _ _ _ z => z) σ H Q q
variable {lo hi : Option Expr} {fl fh : OF}
theorem pvo_none : PVO K X none oNone := fun _ => po_none.weak fun σ H Q => by
  rintro ⟨ρ, rel, q⟩
  exact q.now rel
theorem pvo_some (h : PV K X a f) : PVO K X (some a) (oSome f) := fun hK => (po_some (h hK)).weak fun σ H Q => by
  rintro ⟨ρ, rel, q⟩
  refine goV rel q fun dx ρ1 x H1 rel1 st1 fx q1 => ?_
  cases dx with
  | int i =>
    simp only [Fz] at fx
    exact ⟨i, fx, q1.now rel1⟩
  | _ => exact q1.elim
def rSlD (K : PySem.W.Frag) : V → Option Int → Option Int → Hp → VK → Prop := fun x lo hi H Q => ∃ dx d, Tp K H dx x ∧ sliceD dx lo hi = .ok d ∧ ∀ v H', Same H H' → Fz K H' d v → Q v H'
theorem pv_slice {p2 : Pos} (hr : SlR X (rSlD X.K)) (he : PV K X a f) (hl : PVO K X lo fl) (hu : PVO K X hi fh) : PV K X (.Subscript a (.Slice lo hi none p2) pos) (eSl f fl fh) := fun hK => by
  subst hK
  exact (pe_slice hr (he rfl) (hl rfl) (hu rfl)).weak fun σ H Q => by
    rintro ⟨ρ, rel, q⟩
    refine goV rel q fun dx ρ1 x H1 rel1 st1 fx q1 => goO rel1 q1 fun l ρ2 H2 rel2 st2 q2 => goO rel2 q2 fun u ρ3 H3 rel3 st3 q3 => ?_
    obtain ⟨d, ed, q4⟩ := q3.bnd'
    exact ⟨dx, d, ((fx.mono (st2.fzn rel1)).mono (st3.fzn rel2)).tp, ed, fun v H' s fz => q4.new rel3 s v fz⟩
variable {t u : TF}
theorem pvt_val (hv : TruR X (fun x H Q => ∃ d k, Tp X.K H d x ∧ truD d = .ok k ∧ Q k H)) (h : PV K X a f) (he : ∀ whole, isTrue a X.env whole = (do let v ← whole; standAt a.pos; holding [v] (truthy v)) := by intro _; rfl) : PVT K X a (tE f) := fun hK => by
  subst hK
  intro pins s σ H Q I q
  rw [he]
  obtain ⟨ρ, rel, q⟩ := q
  refine wpAny_bind (thn (h rfl pins s σ H (fun x H' => ∃ d k, Tp X.K H' d x ∧ truD d = .ok k ∧ Q k H') I ?_) fun v s1 ⟨x, H1, I1, r1, q1⟩ => wpAny_bind (wpAny_standAt (wpAny_holding (hv pins s1 σ H1 x v Q I1 r1 q1))))
  refine goV rel q fun dx ρ1 x H1 rel1 st1 fx q1 => ?_
  obtain ⟨d, ed, q2⟩ := q1.bnd'
  exact ⟨dx, d, fx.tp, ed, q2.now rel1⟩
theorem goB {te : TE} (hw : ∀ σ H Q, tV K f σ H Q → te σ H Q) (σ : L2.St) (H : Hp) (Q : Bool → Hp → Prop) (q : tT K (tB f) σ H Q) : te σ H fun x H' => ∃ k, x = .bl k ∧ Q k H' := by
  obtain ⟨ρ, rel, q⟩ := q
  refine hw σ H _ (goV rel q fun dx ρ1 x H1 rel1 st1 fx q1 => ?_)
  cases dx with
  | bool bb =>
    simp only [Fz] at fx
    exact ⟨bb, fx, q1.now rel1⟩
  | _ => exact q1.elim
theorem pvt_cmp {op : CmpOp} {g : D → D → R D} (ho : OpR X (compareOp op) (rD X.K g)) (ha : PV K X a f) (hb : PV K X b h) (hm : behindInMarks op b = false) : PVT K X (.Compare a [op] [b] pos) (tB (e2 g f h)) := fun hK => by
  subst hK
  exact (pt_cmpR ho (ha rfl) (hb rfl) hm).weak fun σ H Q q => goB (fun σ H Q z => goOp (fun _ _ _ _ z => z) σ H Q z) σ H Q q
theorem pvw_or1 (ha : PVT K X a t) : PVW K X (.BoolOp .Or [a] pos) t := fun hK => pw_or1 (ha hK)
theorem pvw_or {rest : List Expr} (ha : PVT K X a t) (hb : PVW K X (.BoolOp .Or (b :: rest) pos) u) : PVW K X (.BoolOp .Or (a :: b :: rest) pos) (FL.tOr t u) := fun hK => (pw_or (ha hK) (hb hK)).weak fun σ H Q => by
  rintro ⟨ρ, rel, q⟩
  refine goT rel q fun cb ρ1 H1 rel1 st1 q1 => ?_
  cases cb with
  | true => exact iteT (q1.now rel1)
  | false => exact iteF ⟨ρ1, rel1, q1⟩
theorem PVW.pvt (h : PVW K X a t) : PVT K X a t := fun hK => (h hK).pt
theorem pvt_not (ha : PVT K X a t) : PVT K X (.UnaryOp .Not a pos) (FL.tNot t) := fun hK => (pt_not (ha hK)).weak fun σ H Q => by
  rintro ⟨ρ, rel, q⟩
  exact goT rel q fun cb ρ1 H1 rel1 st1 q1 => q1.now rel1
theorem pvt_chain {op op' : CmpOp} {g g' : D → D → R D} (ho : OpR X (compareOp op) (rD X.K g)) (ho' : OpR X (compareOp op') (rD X.K g')) (ha : PV K X a f) (hb : PV K X b h) (hc : PV K X c k)
    (hm : lastMarks [op, op'] [b, c] = false := by with_unfolding_all rfl) : PVT K X (.Compare a [op, op'] [b, c] pos) (tB (eChain g g' f h k)) := fun hK => by
  subst hK
  exact (pt_chain ho ho' (ha rfl) (hb rfl) (hc rfl) hm).weak fun σ H Q q => goB (fun σ H Q z => goChain σ H Q z) σ H Q q
end
end FL
set_option Elab.async false
set_option linter.all false
set_option maxRecDepth 100000
set_option maxHeartbeats 4000000
namespace FL
open PySem L2 PySem.Spec
open PyProof.Rows hiding St
theorem lexLe_cons (x y : Int) (xs ys : List Int) : lexLe (x :: xs) (y :: ys) = if x = y then lexLe xs ys else decide (x ≤ y) := rfl
theorem lexLe_nil_nil : lexLe [] [] = true := rfl
theorem lexLe_nil_cons (y : Int) (ys : List Int) : lexLe [] (y :: ys) = true := rfl
theorem lexLe_cons_nil (x : Int) (xs : List Int) : lexLe (x :: xs) [] = false := rfl
theorem rcLtE_int (A : Around) (s : Shared) (a : Int) (t : Tok) (c : Int) (u : Tok) (prog : Program) (w : World) (E : Value → Shared → Prop) (Q : Value → Shared → Prop) (h : Q (.bool (decide (a ≤ c))) s) :
    wpAny (model prog w) A (richCompare .LtE (.int a t) (.int c u)) Q E s :=
  (PyProof.Rows.le_int h : wpAny (model prog w) A (compareOp .LtE (.int a t) (.int c u)) Q E s)
section
open PySem.SeqAt
open PySem.AutoSeq1 (wpAny_loadPart')
open PySem.MeetsSeq PySem.MeetsSeq2 PySem.MeetsSeq3
theorem tuple_le_ints (l b : Addr) (items items2 : Array Value) (n n2 : Nat) (dd dd2 : Option Addr) (sl sl2 : Array (Option Value)) (ns ms : List Int) (hi : IntsAre items.toList ns) (hj : IntsAre items2.toList ms) :
    Meets (Builtin.«tuple.__le__» ⟨[.ref l, .ref b], []⟩)
      (fun _ R s => s.heap.get? l = some { cls := .type "tuple", dict := dd, data := .seq items n, slots := sl } ∧ s.heap.get? b = some { cls := .type "tuple", dict := dd2, data := .seq items2 n2, slots := sl2 } ∧
        R (.ok (.ret (.bool (lexLe ns ms)))) s) :=
  .of_wp fun prog w A R s h => by
    obtain ⟨hp, g, d, tk, os⟩ := s; obtain ⟨hl, hb, h⟩ := h
    have f2 := AutoSeq1.sub_tuple_tuple
    have z1 : items.size = ns.length := by rw [← hi.length]; simp
    have z2 : items2.size = ms.length := by rw [← hj.length]; simp
    wp_walk using wpAny_loadPart' hl, wpAny_loadPart' hb, wpAny_forIn_list _ (fun rest b s' => b.1 = none ∧ s' = ⟨hp, g, d, tk, os⟩ ∧ ∃ (vs ws : List Value) (ns' ms' : List Int), rest = vs.zip ws ∧
      IntsAre vs ns' ∧ IntsAre ws ms' ∧ ns'.length + items2.size = ms'.length + items.size ∧ R (.ok (.ret (.bool (lexLe ns' ms')))) ⟨hp, g, d, tk, os⟩) _
    case turn =>
      rintro ⟨y, x⟩ rest b s' ⟨hb', rfl, vs, ws, ns', ms', hz, hvi, hwi, hlen, hR⟩
      cases hvi with
      | nil => rw [List.zip_nil_left] at hz; cases hz
      | cons a t hvi' =>
        cases hwi with
        | nil => rw [List.zip_nil_right] at hz; cases hz
        | cons c u hwi' =>
          rw [List.zip_cons_cons] at hz
          injection hz with hyx hrest
          injection hyx with hy hx
          subst hy hx
          rw [lexLe_cons] at hR
          simp only [List.length_cons] at hlen
          obtain ⟨e, he, hiff⟩ := HT.eqAt_int A.in1 ⟨hp, g, d, tk, os⟩ a t c u
          refine wpAny_bind (he prog w _ _ ?_)
          cases e with
          | true =>
            rw [if_pos (hiff.mp rfl)] at hR
            wp_walk
            exact ⟨rfl, rfl, _, _, _, _, hrest, hvi', hwi', by omega, hR⟩
          | false =>
            rw [if_neg (fun q => absurd (hiff.mpr q) Bool.false_ne_true)] at hR
            have hri := rcLtE_int A.in1 ⟨hp, g, d, tk, os⟩ a t c u prog w
            wp_walk using hri
            exact ⟨_, rfl, by simpa using hR⟩
    case fin =>
      rintro ⟨b1, b2⟩ s' ⟨hb', rfl, vs, ws, ns', ms', hz, hvi, hwi, hlen, hR⟩
      simp only at hb'
      subst hb'
      have hv : lexLe ns' ms' = decide (items.size ≤ items2.size) := by
        cases hvi with
        | nil =>
          cases hwi with
          | nil =>
            simp only [List.length_nil] at hlen
            rw [lexLe_nil_nil]
            exact (decide_eq_true (by omega)).symm
          | cons c u hw =>
            simp only [List.length_nil, List.length_cons] at hlen
            rw [lexLe_nil_cons]
            exact (decide_eq_true (by omega)).symm
        | cons a t hv =>
          cases hwi with
          | nil =>
            simp only [List.length_nil, List.length_cons] at hlen
            rw [lexLe_cons_nil]
            exact (decide_eq_false (by omega)).symm
          | cons c u hw =>
            rw [List.zip_cons_cons] at hz
            cases hz
      rw [hv] at hR
      wp_walk
      exact ⟨_, rfl, by simpa [Builtin.Tuple.tupleCompareSizes] using hR⟩
    case h =>
      exact ⟨rfl, rfl, items.toList, items2.toList, ns, ms, rfl, hi, hj, by omega, h⟩
end
section
variable {prog : Program} {w : World} {A : Around} {E : Value → Shared → Prop} {s : Shared}
theorem le_tupInts {l b : Addr} {items items2 : Array Value} {ns ms : List Int} {Q : Value → Shared → Prop} (hl : IsTup s.heap l items) (hb : IsTup s.heap b items2) (hi : IntsAre items.toList ns) (hj : IntsAre items2.toList ms)
    (hu : A.units < cLine) (h : Q (.bool (lexLe ns ms)) s) : wpAny (model prog w) A (compareOp .LtE (.ref l) (.ref b)) Q E s := by
  obtain ⟨⟨cls, dd, data, sl⟩, ho, hc, n, hd⟩ := id hl
  obtain ⟨⟨cls2, dd2, data2, sl2⟩, ho2, hc2, n2, hd2⟩ := id hb
  simp only at hc hd hc2 hd2
  subst hc hd hc2 hd2
  exact richCompare_meets_room (op := .LtE) ⟨_, ho, rfl⟩ ⟨_, ho2, rfl⟩ PySem.F.slot_tuple_le PySem.F.entry_tuple_le (PySem.F.args_tuple_le_2 _ _) (tuple_le_ints l b items items2 n n2 dd dd2 sl sl2 ns ms hi hj)
    ⟨ho, ho2, show Value.bool (lexLe ns ms) ≠ Value.notImplemented ∧ Q (.bool (lexLe ns ms)) s from ⟨(fun x => nomatch x), h⟩⟩ hu
end
theorem lexGt_cons (x y : Int) (xs ys : List Int) : lexGt (x :: xs) (y :: ys) = if x = y then lexGt xs ys else decide (y < x) := rfl
theorem lexGt_nil_nil : lexGt [] [] = false := rfl
theorem lexGt_nil_cons (y : Int) (ys : List Int) : lexGt [] (y :: ys) = false := rfl
theorem lexGt_cons_nil (x : Int) (xs : List Int) : lexGt (x :: xs) [] = true := rfl
theorem rcGt_int (A : Around) (s : Shared) (a : Int) (t : Tok) (c : Int) (u : Tok) (prog : Program) (w : World) (E : Value → Shared → Prop) (Q : Value → Shared → Prop) (h : Q (.bool (decide (c < a))) s) :
    wpAny (model prog w) A (richCompare .Gt (.int a t) (.int c u)) Q E s :=
  (PyProof.Rows.gt_int h : wpAny (model prog w) A (compareOp .Gt (.int a t) (.int c u)) Q E s)
section
open PySem.SeqAt
open PySem.AutoSeq1 (wpAny_loadPart')
open PySem.MeetsSeq PySem.MeetsSeq2 PySem.MeetsSeq3
theorem tuple_gt_ints (l b : Addr) (items items2 : Array Value) (n n2 : Nat) (dd dd2 : Option Addr) (sl sl2 : Array (Option Value)) (ns ms : List Int) (hi : IntsAre items.toList ns) (hj : IntsAre items2.toList ms) :
    Meets (Builtin.«tuple.__gt__» ⟨[.ref l, .ref b], []⟩)
      (fun _ R s => s.heap.get? l = some { cls := .type "tuple", dict := dd, data := .seq items n, slots := sl } ∧ s.heap.get? b = some { cls := .type "tuple", dict := dd2, data := .seq items2 n2, slots := sl2 } ∧
        R (.ok (.ret (.bool (lexGt ns ms)))) s) :=
  .of_wp fun prog w A R s h => by
    obtain ⟨hp, g, d, tk, os⟩ := s; obtain ⟨hl, hb, h⟩ := h
    have f2 := AutoSeq1.sub_tuple_tuple
    have z1 : items.size = ns.length := by rw [← hi.length]; simp
    have z2 : items2.size = ms.length := by rw [← hj.length]; simp
    wp_walk using wpAny_loadPart' hl, wpAny_loadPart' hb, wpAny_forIn_list _ (fun rest b s' => b.1 = none ∧ s' = ⟨hp, g, d, tk, os⟩ ∧ ∃ (vs ws : List Value) (ns' ms' : List Int), rest = vs.zip ws ∧
      IntsAre vs ns' ∧ IntsAre ws ms' ∧ ns'.length + items2.size = ms'.length + items.size ∧ R (.ok (.ret (.bool (lexGt ns' ms')))) ⟨hp, g, d, tk, os⟩) _
    case turn =>
      rintro ⟨y, x⟩ rest b s' ⟨hb', rfl, vs, ws, ns', ms', hz, hvi, hwi, hlen, hR⟩
      cases hvi with
      | nil => rw [List.zip_nil_left] at hz; cases hz
      | cons a t hvi' =>
        cases hwi with
        | nil => rw [List.zip_nil_right] at hz; cases hz
        | cons c u hwi' =>
          rw [List.zip_cons_cons] at hz
          injection hz with hyx hrest
          injection hyx with hy hx
          subst hy hx
          rw [lexGt_cons] at hR
          simp only [List.length_cons] at hlen
          obtain ⟨e, he, hiff⟩ := HT.eqAt_int A.in1 ⟨hp, g, d, tk, os⟩ a t c u
          refine wpAny_bind (he prog w _ _ ?_)
          cases e with
          | true =>
            rw [if_pos (hiff.mp rfl)] at hR
            wp_walk
            exact ⟨rfl, rfl, _, _, _, _, hrest, hvi', hwi', by omega, hR⟩
          | false =>
            rw [if_neg (fun q => absurd (hiff.mpr q) Bool.false_ne_true)] at hR
            have hri := rcGt_int A.in1 ⟨hp, g, d, tk, os⟩ a t c u prog w
            wp_walk using hri
            exact ⟨_, rfl, by simpa using hR⟩
    case fin =>
      rintro ⟨b1, b2⟩ s' ⟨hb', rfl, vs, ws, ns', ms', hz, hvi, hwi, hlen, hR⟩
      simp only at hb'
      subst hb'
      have hv : lexGt ns' ms' = decide (items2.size < items.size) := by
        cases hvi with
        | nil =>
          cases hwi with
          | nil =>
            simp only [List.length_nil] at hlen
            rw [lexGt_nil_nil]
            exact (decide_eq_false (by omega)).symm
          | cons c u hw =>
            simp only [List.length_nil, List.length_cons] at hlen
            rw [lexGt_nil_cons]
            exact (decide_eq_false (by omega)).symm
        | cons a t hv =>
          cases hwi with
          | nil =>
            simp only [List.length_nil, List.length_cons] at hlen
            rw [lexGt_cons_nil]
            exact (decide_eq_true (by omega)).symm
          | cons c u hw =>
            rw [List.zip_cons_cons] at hz
            cases hz
      rw [hv] at hR
      wp_walk
      exact ⟨_, rfl, by simpa [Builtin.Tuple.tupleCompareSizes] using hR⟩
    case h =>
      exact ⟨rfl, rfl, items.toList, items2.toList, ns, ms, rfl, hi, hj, by omega, h⟩
end
section
variable {prog : Program} {w : World} {A : Around} {E : Value → Shared → Prop} {s : Shared}
theorem gt_tupInts {l b : Addr} {items items2 : Array Value} {ns ms : List Int} {Q : Value → Shared → Prop} (hl : IsTup s.heap l items) (hb : IsTup s.heap b items2) (hi : IntsAre items.toList ns) (hj : IntsAre items2.toList ms)
    (hu : A.units < cLine) (h : Q (.bool (lexGt ns ms)) s) : wpAny (model prog w) A (compareOp .Gt (.ref l) (.ref b)) Q E s := by
  obtain ⟨⟨cls, dd, data, sl⟩, ho, hc, n, hd⟩ := id hl
  obtain ⟨⟨cls2, dd2, data2, sl2⟩, ho2, hc2, n2, hd2⟩ := id hb
  simp only at hc hd hc2 hd2
  subst hc hd hc2 hd2
  exact richCompare_meets_room (op := .Gt) ⟨_, ho, rfl⟩ ⟨_, ho2, rfl⟩ PySem.F.slot_tuple_gt PySem.F.entry_tuple_gt (PySem.F.args_tuple_gt_2 _ _) (tuple_gt_ints l b items items2 n n2 dd dd2 sl sl2 ns ms hi hj)
    ⟨ho, ho2, show Value.bool (lexGt ns ms) ≠ Value.notImplemented ∧ Q (.bool (lexGt ns ms)) s from ⟨(fun x => nomatch x), h⟩⟩ hu
end
theorem lexGe_cons (x y : Int) (xs ys : List Int) : lexGe (x :: xs) (y :: ys) = if x = y then lexGe xs ys else decide (y ≤ x) := rfl
theorem lexGe_nil_nil : lexGe [] [] = true := rfl
theorem lexGe_nil_cons (y : Int) (ys : List Int) : lexGe [] (y :: ys) = false := rfl
theorem lexGe_cons_nil (x : Int) (xs : List Int) : lexGe (x :: xs) [] = true := rfl
theorem rcGtE_int (A : Around) (s : Shared) (a : Int) (t : Tok) (c : Int) (u : Tok) (prog : Program) (w : World) (E : Value → Shared → Prop) (Q : Value → Shared → Prop) (h : Q (.bool (decide (c ≤ a))) s) :
    wpAny (model prog w) A (richCompare .GtE (.int a t) (.int c u)) Q E s :=
  (PyProof.Rows.ge_int h : wpAny (model prog w) A (compareOp .GtE (.int a t) (.int c u)) Q E s)
section
open PySem.SeqAt
open PySem.AutoSeq1 (wpAny_loadPart')
open PySem.MeetsSeq PySem.MeetsSeq2 PySem.MeetsSeq3
theorem tuple_ge_ints (l b : Addr) (items items2 : Array Value) (n n2 : Nat) (dd dd2 : Option Addr) (sl sl2 : Array (Option Value)) (ns ms : List Int) (hi : IntsAre items.toList ns) (hj : IntsAre items2.toList ms) :
    Meets (Builtin.«tuple.__ge__» ⟨[.ref l, .ref b], []⟩)
      (fun _ R s => s.heap.get? l = some { cls := .type "tuple", dict := dd, data := .seq items n, slots := sl } ∧ s.heap.get? b = some { cls := .type "tuple", dict := dd2, data := .seq items2 n2, slots := sl2 } ∧
        R (.ok (.ret (.bool (lexGe ns ms)))) s) :=
  .of_wp fun prog w A R s h => by
    obtain ⟨hp, g, d, tk, os⟩ := s; obtain ⟨hl, hb, h⟩ := h
    have f2 := AutoSeq1.sub_tuple_tuple
    have z1 : items.size = ns.length := by rw [← hi.length]; simp
    have z2 : items2.size = ms.length := by rw [← hj.length]; simp
    wp_walk using wpAny_loadPart' hl, wpAny_loadPart' hb, wpAny_forIn_list _ (fun rest b s' => b.1 = none ∧ s' = ⟨hp, g, d, tk, os⟩ ∧ ∃ (vs ws : List Value) (ns' ms' : List Int), rest = vs.zip ws ∧
      IntsAre vs ns' ∧ IntsAre ws ms' ∧ ns'.length + items2.size = ms'.length + items.size ∧ R (.ok (.ret (.bool (lexGe ns' ms')))) ⟨hp, g, d, tk, os⟩) _
    case turn =>
      rintro ⟨y, x⟩ rest b s' ⟨hb', rfl, vs, ws, ns', ms', hz, hvi, hwi, hlen, hR⟩
      cases hvi with
      | nil => rw [List.zip_nil_left] at hz; cases hz
      | cons a t hvi' =>
        cases hwi with
        | nil => rw [List.zip_nil_right] at hz; cases hz
        | cons c u hwi' =>
          rw [List.zip_cons_cons] at hz
          injection hz with hyx hrest
          injection hyx with hy hx
          subst hy hx
          rw [lexGe_cons] at hR
          simp only [List.length_cons] at hlen
          obtain ⟨e, he, hiff⟩ := HT.eqAt_int A.in1 ⟨hp, g, d, tk, os⟩ a t c u
          refine wpAny_bind (he prog w _ _ ?_)
          cases e with
          | true =>
            rw [if_pos (hiff.mp rfl)] at hR
            wp_walk
            exact ⟨rfl, rfl, _, _, _, _, hrest, hvi', hwi', by omega, hR⟩
          | false =>
            rw [if_neg (fun q => absurd (hiff.mpr q) Bool.false_ne_true)] at hR
            have hri := rcGtE_int A.in1 ⟨hp, g, d, tk, os⟩ a t c u prog w
            wp_walk using hri
            exact ⟨_, rfl, by simpa using hR⟩
    case fin =>
      rintro ⟨b1, b2⟩ s' ⟨hb', rfl, vs, ws, ns', ms', hz, hvi, hwi, hlen, hR⟩
      simp only at hb'
      subst hb'
      have hv : lexGe ns' ms' = decide (items2.size ≤ items.size) := by
        cases hvi with
        | nil =>
          cases hwi with
          | nil =>
            simp only [List.length_nil] at hlen
            rw [lexGe_nil_nil]
            exact (decide_eq_true (by omega)).symm
          | cons c u hw =>
            simp only [List.length_nil, List.length_cons] at hlen
            rw [lexGe_nil_cons]
            exact (decide_eq_false (by omega)).symm
        | cons a t hv =>
          cases hwi with
          | nil =>
            simp only [List.length_nil, List.length_cons] at hlen
            rw [lexGe_cons_nil]
            exact (decide_eq_true (by omega)).symm
          | cons c u hw =>
            rw [List.zip_cons_cons] at hz
            cases hz
      rw [hv] at hR
      wp_walk
      exact ⟨_, rfl, by simpa [Builtin.Tuple.tupleCompareSizes] using hR⟩
    case h =>
      exact ⟨rfl, rfl, items.toList, items2.toList, ns, ms, rfl, hi, hj, by omega, h⟩
end
section
variable {prog : Program} {w : World} {A : Around} {E : Value → Shared → Prop} {s : Shared}
theorem ge_tupInts {l b : Addr} {items items2 : Array Value} {ns ms : List Int} {Q : Value → Shared → Prop} (hl : IsTup s.heap l items) (hb : IsTup s.heap b items2) (hi : IntsAre items.toList ns) (hj : IntsAre items2.toList ms)
    (hu : A.units < cLine) (h : Q (.bool (lexGe ns ms)) s) : wpAny (model prog w) A (compareOp .GtE (.ref l) (.ref b)) Q E s := by
  obtain ⟨⟨cls, dd, data, sl⟩, ho, hc, n, hd⟩ := id hl
  obtain ⟨⟨cls2, dd2, data2, sl2⟩, ho2, hc2, n2, hd2⟩ := id hb
  simp only at hc hd hc2 hd2
  subst hc hd hc2 hd2
  exact richCompare_meets_room (op := .GtE) ⟨_, ho, rfl⟩ ⟨_, ho2, rfl⟩ PySem.F.slot_tuple_ge PySem.F.entry_tuple_ge (PySem.F.args_tuple_ge_2 _ _) (tuple_ge_ints l b items items2 n n2 dd dd2 sl sl2 ns ms hi hj)
    ⟨ho, ho2, show Value.bool (lexGe ns ms) ≠ Value.notImplemented ∧ Q (.bool (lexGe ns ms)) s from ⟨(fun x => nomatch x), h⟩⟩ hu
end
end FL
set_option Elab.async false
set_option linter.all false
set_option maxRecDepth 100000
set_option maxHeartbeats 4000000
namespace FL
open PySem L2 PySem.Spec
open PyProof.Rows hiding St
section
variable {K : PySem.W.Frag} {H : Hp}
mutual
theorem Fz.is : ∀ (d : PyData) (v : V), PyData.canLay0 d = true → Fz K H d v → Is K H d v
  | .none, v, _, h => by simp only [Fz] at h; simp only [Is]; exact h
  | .bool b, v, _, h => by simp only [Fz] at h; simp only [Is]; exact h
  | .int i, v, _, h => by simp only [Fz] at h; simp only [Is]; exact h
  | .str x, v, _, h => by simp only [Fz] at h; simp only [Is]; exact h
  | .list xs, v, c, h => by
    simp only [Fz] at h; simp only [Is]
    obtain ⟨a, vs, e1, h1, h2⟩ := h
    exact ⟨a, vs, e1, h1.sq, FzAll.is xs vs c h2⟩
  | .tuple xs, v, c, h => by
    simp only [Fz] at h; simp only [Is]
    obtain ⟨a, vs, e1, h1, h2⟩ := h
    exact ⟨a, vs, e1, h1, FzAll.is xs vs c h2⟩
  | .dict kvs, v, c, h => by simp [PyData.canLay0] at c
theorem FzAll.is : ∀ (ds : List PyData) (vs : List V), PyData.canLayAll0 ds = true → FzAll K H ds vs → IsAll K H ds vs
  | [], vs, _, h => by simp only [FzAll] at h; simp only [IsAll]; exact h
  | d :: ds, vs, c, h => by
    simp only [PyData.canLayAll0, Bool.and_eq_true] at c
    simp only [FzAll] at h; simp only [IsAll]
    obtain ⟨v, r, e1, h1, h2⟩ := h
    exact ⟨v, r, e1, Fz.is d v c.1 h1, FzAll.is ds r c.2 h2⟩
end
theorem Tp.is {d : PyData} {v : V} (c : PyData.canLay0 d = true) (h : Tp K H d v) : Is K H d v := by
  cases d with
  | list ds =>
    obtain ⟨a, vs, e, h1, h2⟩ := h
    simp only [Is]
    exact ⟨a, vs, e, h1, FzAll.is ds vs c h2⟩
  | dict kvs => simp [PyData.canLay0] at c
  | none => exact Fz.is _ _ c h
  | bool b => exact Fz.is _ _ c h
  | int b => exact Fz.is _ _ c h
  | str b => exact Fz.is _ _ c h
  | tuple b => exact Fz.is _ _ c h
theorem Tp.int {i : Int} {v : V} (h : Tp K H (.int i) v) : v = .int i := by simpa [Tp, Fz] using h
theorem Tp.bool {i : Bool} {v : V} (h : Tp K H (.bool i) v) : v = .bl i := by simpa [Tp, Fz] using h
theorem Tp.none {v : V} (h : Tp K H .none v) : v = .non := by simpa [Tp, Fz] using h
theorem Tp.tup {ds : List PyData} {v : V} (h : Tp K H (.tuple ds) v) : ∃ a vs, v = .ref a ∧ SqT K H a vs ∧ FzAll K H ds vs := by simpa [Tp, Fz] using h
theorem Tp.lst {ds : List PyData} {v : V} (h : Tp K H (.list ds) v) : ∃ a vs, v = .ref a ∧ SqL K H a vs ∧ FzAll K H ds vs := h
theorem fz_int (i : Int) : Fz K H (.int i) (.int i) := by simp [Fz]
theorem fz_bl (i : Bool) : Fz K H (.bool i) (.bl i) := by simp [Fz]
theorem fz_tup {a : Addr} {vs : List V} {ds : List PyData} (h : SqT K H a vs) (f : FzAll K H ds vs) : Fz K H (.tuple ds) (.ref a) := by simp only [Fz]; exact ⟨a, vs, rfl, h, f⟩
theorem FzAll.atI {ds : List PyData} {vs : List V} {i : Int} {d : PyData} (h : FzAll K H ds vs) (e : FL.atI ds i = some d) : ∃ v, L2.atI vs i = some v ∧ Fz K H d v := by
  unfold FL.atI at e
  cases en : FL.ixN ds.length i with
  | none => rw [en] at e; cases e
  | some j =>
    rw [en] at e
    obtain ⟨v, e1, f⟩ := h.get (show ds[j]? = some d from e)
    refine ⟨v, ?_, f⟩
    unfold L2.atI
    rw [h.len, show L2.ixN ds.length i = some j from en]
    exact e1
theorem FzAll.cut {ds : List PyData} {vs : List V} (h : FzAll K H ds vs) (lo hi : Option Int) : FzAll K H (FL.cut ds lo hi) (cutV vs lo hi) := by
  unfold FL.cut cutV
  rw [h.len]
  exact (h.drop _).take _
end
theorem chk_inv {α : Type} {c : Bool} {r : R α} {d : α} (h : chk c r = .ok d) : c = true ∧ r = .ok d := by
  cases c with
  | true => exact ⟨rfl, h⟩
  | false => exact nomatch (show (R.bad : R α) = .ok d from h)
section
variable {X : Cx}
theorem ep_lst {pins : List (Addr × Obj)} {σ : L2.St} {s : Shared} {H : Hp} {Q : VK} {w : Value} {ds : List D} {vs : List V} (f : FzAll X.K H ds vs) (q : ∀ v H', Same H H' → Fz X.K H' (.list ds) v → Q v H')
    (h : EP X pins σ (fun v H1 => ∃ p, v = .ref p ∧ H p = none ∧ H1 = upd H p (.lst vs)) w s) : EP X pins σ Q w s := by
  obtain ⟨v, H1, I, r, p, rfl, hp, rfl⟩ := h
  refine ep_fz ⟨.ref p, _, I, r, p, .lst vs, rfl, upd_same, trivial, fun o => ?_⟩
  rw [upd_upd]
  refine q _ _ (Same.upd hp) ?_
  simp only [Fz]
  exact ⟨p, vs, rfl, .inl ⟨o, upd_same⟩, f.mono (Fzn.of (Same.upd hp))⟩
theorem o_add : OpR X (binaryOp .Add) (rD X.K addD) := by
  intro pins s σ H x y v u Q I rx ry h
  obtain ⟨dx, dy, d, tx, ty, e, q⟩ := h
  cases dx with
  | int i =>
    cases dy with
    | int j => cases e; exact op_add pins s σ H x y v u Q I rx ry ⟨i, j, tx.int, ty.int, q _ H (Same.refl _) (fz_int _)⟩
    | _ => exact nomatch (show (R.bad : R D) = .ok d from e)
  | list a =>
    cases dy with
    | list b =>
      obtain ⟨c, e⟩ := chk_inv (show chk (leB (a.length + b.length) lim) (.ok (.list (a ++ b))) = .ok d from e)
      · cases e
        obtain ⟨l, xs, rfl, sx, fx⟩ := tx.lst
        obtain ⟨m, ys, rfl, sy, fy⟩ := ty.lst
        cases rx
        cases ry
        obtain ⟨its, r1, ⟨o, n, ho, hc, hdn, hd⟩, z1⟩ := I.list sx
        obtain ⟨its2, r2, ⟨o2, n2, ho2, hc2, hdn2, hd2⟩, z2⟩ := I.list sy
        obtain ⟨cls, dd, data, sl⟩ := o
        obtain ⟨cls2, dd2, data2, sl2⟩ := o2
        simp only at hc hd hc2 hd2 hdn hdn2
        subst hc hd hc2 hd2 hdn hdn2
        have hz : its.length + its2.length ≤ sizeLine := by
          have := le_of c
          have l0 := lim_size
          rw [← r1.length, ← r2.length, fx.len, fy.len]
          omega
        refine thn (concat_meets (Q := EP X pins σ fun v H1 => ∃ p, v = .ref p ∧ H p = none ∧ H1 = upd H p (.lst (xs ++ ys))) ⟨_, ho, rfl⟩ ⟨_, ho2, rfl⟩ PySem.noFill_list_add PySem.seq_list_add PySem.F.slot_list_add PySem.F.entry_list_add (PySem.F.args_list_add_2 _ _)
          (list_addW l m its.toArray its2.toArray n n2 none none sl sl2 (by rw [List.size_toArray, List.size_toArray]; exact hz)) ⟨ho, ho2, ?_⟩) fun _ _ z => ep_lst (fx.app fy) q z
        have ea : its.toArray ++ its2.toArray = (its ++ its2).toArray := by simp
        rw [ea]
        exact ⟨.ref _, _, I.lnew (t' := s.toks) (r1.append r2) (by rw [List.length_append, r1.length, r2.length]; exact hz), rfl, _, rfl, I.fresh, rfl⟩
    | _ => exact nomatch (show (R.bad : R D) = .ok d from e)
  | tuple a =>
    cases dy with
    | tuple b =>
      obtain ⟨c, e⟩ := chk_inv (show chk (leB (a.length + b.length) lim) (.ok (.tuple (a ++ b))) = .ok d from e)
      · cases e
        obtain ⟨l, xs, rfl, sx, fx⟩ := tx.tup
        obtain ⟨m, ys, rfl, sy, fy⟩ := ty.tup
        have hz : xs.length + ys.length ≤ sizeLine := by
          have := le_of c
          have l0 := lim_size
          rw [fx.len, fy.len]
          omega
        by_cases x0 : xs = []
        · subst x0
          have a0 : a = [] := by have := fx.len; cases a with | nil => rfl | cons _ _ => simp at this
          subst a0
          cases rx
          cases ry
          obtain ⟨its, r1, p1, z1⟩ := I.tuple sx
          obtain ⟨its2, r2, p2, z2⟩ := I.tuple sy
          cases r1
          obtain ⟨⟨cls, dd, data, sl⟩, ho, hc, n, hd⟩ := id p1
          obtain ⟨⟨cls2, dd2, data2, sl2⟩, ho2, hc2, n2, hd2⟩ := id p2
          simp only at hc hd hc2 hd2
          subst hc hd hc2 hd2
          exact concat_meets ⟨_, ho, rfl⟩ ⟨_, ho2, rfl⟩ noFill_tuple_add seq_tuple_add PySem.F.slot_tuple_add PySem.F.entry_tuple_add (PySem.F.args_tuple_add_2 _ _)
            (tuple_addW0 l m #[] its2.toArray n n2 dd dd2 sl sl2 rfl) ⟨ho, ho2, ⟨.ref m, H, I.tok _, rfl, q _ H (Same.refl _) (fz_tup sy fy)⟩⟩
        · exact op_catT pins s σ H _ _ v u Q I rx ry ⟨l, m, xs, ys, rfl, rfl, sx, sy, x0, hz, fun y0 => by
            subst y0
            have b0 : b = [] := by have := fy.len; cases b with | nil => rfl | cons _ _ => simp at this
            subst b0
            rw [List.append_nil] at q
            exact q _ H (Same.refl _) (fz_tup sx fx), fun _ p hp => q _ _ (Same.upd hp) (fz_tup (SqT.of upd_same) ((fx.app fy).mono (Fzn.of (Same.upd hp))))⟩
    | _ => exact nomatch (show (R.bad : R D) = .ok d from e)
  | _ => exact nomatch (show (R.bad : R D) = .ok d from e)
theorem o_int {f : Value → Value → Sem Value} {C : Int → Int → Prop} {g : Int → Int → Int} {c : Int → Int → Bool} {G : D → D → R D} (ho : OpR X f (rI C fun i j => .int (g i j))) (hC : ∀ i j, c i j = true → C i j)
    (hG : ∀ dx dy d, G dx dy = .ok d → ∃ i j, dx = .int i ∧ dy = .int j ∧ c i j = true ∧ d = .int (g i j)) : OpR X f (rD X.K G) := by
  intro pins s σ H x y v u Q I rx ry h
  obtain ⟨dx, dy, d, tx, ty, e, q⟩ := h
  obtain ⟨i, j, rfl, rfl, cc, rfl⟩ := hG _ _ _ e
  exact ho pins s σ H x y v u Q I rx ry ⟨i, j, tx.int, ty.int, hC i j cc, q _ H (Same.refl _) (fz_int _)⟩
theorem g_int {c : Int → Int → Bool} {g : Int → Int → Int} {G : D → D → R D} (h : ∀ i j, G (.int i) (.int j) = chk (c i j) (.ok (.int (g i j)))) (h0 : ∀ dx dy, (¬ ∃ i j, dx = .int i ∧ dy = .int j) → G dx dy = .bad) :
    ∀ dx dy d, G dx dy = .ok d → ∃ i j, dx = .int i ∧ dy = .int j ∧ c i j = true ∧ d = .int (g i j) := by
  intro dx dy d e
  by_cases k : ∃ i j, dx = .int i ∧ dy = .int j
  · obtain ⟨i, j, rfl, rfl⟩ := k
    rw [h] at e
    obtain ⟨cc, e⟩ := chk_inv e
    cases e
    exact ⟨i, j, rfl, rfl, cc, rfl⟩
  · rw [h0 _ _ k] at e; cases e
theorem no_int {dx dy : D} {G : D → D → R D} (hb : ∀ dx dy, (∀ i, dx ≠ .int i) → G dx dy = .bad) (hb2 : ∀ i dy, (∀ j, dy ≠ .int j) → G (.int i) dy = .bad) (h : ¬ ∃ i j, dx = .int i ∧ dy = .int j) : G dx dy = .bad := by
  cases dx with
  | int i => exact hb2 i dy fun j e => h ⟨i, j, rfl, e⟩
  | _ => exact hb _ _ fun i e => nomatch e
theorem o_sub : OpR X (binaryOp .Sub) (rD X.K subD) := o_int (C := fun _ _ => True) (c := fun _ _ => true) (g := fun i j => i - j)
  (fun pins s σ H x y v u Q I rx ry ⟨i, j, e1, e2, _, q⟩ => op_sub pins s σ H x y v u Q I rx ry ⟨i, j, e1, e2, q⟩) (fun _ _ _ => trivial)
  (g_int (fun _ _ => rfl) fun dx dy h => no_int (fun dx dy h => by cases dx <;> first | rfl | exact absurd rfl (h _)) (fun i dy h => by cases dy <;> first | rfl | exact absurd rfl (h _)) h)
theorem mulOk_ok {i j : Int} (h : mulOk i j = true) : IntMulOk i j := by
  have := le_of h
  have b : ∀ k : Int, k.natAbs < 2 ^ (k.natAbs.log2 + 1) := fun k => Nat.lt_log2_self
  exact mulOk_of (a := i.natAbs.log2 + 1) (b := j.natAbs.log2 + 1) (b i) (b j) (by omega)
theorem o_fdiv : OpR X (binaryOp .FloorDiv) (rD X.K fdivD) := o_int (C := fun _ j => j ≠ 0 ∧ j.natAbs.log2 < 9000) (c := fun i j => decide (j ≠ 0) && leB (j.natAbs.log2 + 1) 9000) (g := fun i j => i.fdiv j)
  (opI fun i j _ _ _ _ _ hc q => floordiv_int hc.1 q (.inl (PyProof.noPylong_of_log2 hc.2)))
  (fun i j h => by simp only [Bool.and_eq_true, leB_iff, decide_eq_true_eq] at h; exact ⟨h.1, h.2⟩)
  (g_int (fun _ _ => rfl) fun dx dy h => no_int (fun dx dy h => by cases dx <;> first | rfl | exact absurd rfl (h _)) (fun i dy h => by cases dy <;> first | rfl | exact absurd rfl (h _)) h)
theorem o_mod : OpR X (binaryOp .Mod) (rD X.K modD) := o_int (C := fun _ j => j ≠ 0) (c := fun i j => decide (j ≠ 0)) (g := fun i j => i.fmod j) op_modN (fun i j h => by simpa using h)
  (g_int (fun _ _ => rfl) fun dx dy h => no_int (fun dx dy h => by cases dx <;> first | rfl | exact absurd rfl (h _)) (fun i dy h => by cases dy <;> first | rfl | exact absurd rfl (h _)) h)
theorem o_pow : OpR X (binaryOp .Pow) (rD X.K powD) := o_int (C := CPow) (c := fun i j => decide (0 ≤ j) && leB j.toNat 1000000 && leB i.natAbs 18446744073709551615) (g := fun i j => i ^ j.toNat) op_pow (fun i j h => by simp only [Bool.and_eq_true, decide_eq_true_eq, leB_iff] at h; exact ⟨h.1.1, by omega, by omega⟩)
  (g_int (fun _ _ => rfl) fun dx dy h => no_int (fun dx dy h => by cases dx <;> first | rfl | exact absurd rfl (h _)) (fun i dy h => by cases dy <;> first | rfl | exact absurd rfl (h _)) h)
theorem o_eq (hu : X.A.units + 64 < cLine) : OpR X (compareOp .Eq) (rD X.K eqD) := by
  intro pins s σ H x y v u Q I rx ry h
  obtain ⟨dx, dy, d, tx, ty, e, q⟩ := h
  obtain ⟨c, e⟩ := chk_inv e
  · cases e
    simp only [Bool.and_eq_true] at c
    exact op_eqD hu pins s σ H x y v u Q I rx ry ⟨dx, dy, tx.is (SeqAt.canLay_of_shaped c.1), ty.is (SeqAt.canLay_of_shaped c.2), c.1, c.2, q _ H (Same.refl _) (fz_bl _)⟩
theorem o_ne (hu : X.A.units + 64 < cLine) : OpR X (compareOp .NotEq) (rD X.K neD) := by
  intro pins s σ H x y v u Q I rx ry h
  obtain ⟨dx, dy, d, tx, ty, e, q⟩ := h
  obtain ⟨c, e⟩ := chk_inv e
  · cases e
    simp only [Bool.and_eq_true] at c
    exact op_neD hu pins s σ H x y v u Q I rx ry ⟨dx, dy, tx.is (SeqAt.canLay_of_shaped c.1), ty.is (SeqAt.canLay_of_shaped c.2), c.1, c.2, q _ H (Same.refl _) (fz_bl _)⟩
theorem lexLt_eq : ∀ a b, FL.lexLt a b = HT.lexLt a b
  | [], [] => rfl
  | [], _ :: _ => rfl
  | _ :: _, [] => rfl
  | x :: xs, y :: ys => by unfold FL.lexLt HT.lexLt; rw [lexLt_eq xs ys]
theorem o_cmp {op : CmpOp} {p : Int → Int → Bool} {q : List Int → List Int → Bool} (hi : OpR X (compareOp op) (rI0 fun i j => .bl (p i j)))
    (ht : ∀ {s : Shared} {l b : Addr} {items items2 : Array Value} {ns ms : List Int} {Q : Value → Shared → Prop}, IsTup s.heap l items → IsTup s.heap b items2 → IntsAre items.toList ns → IntsAre items2.toList ms →
      Q (.bool (q ns ms)) s → wpAny (model X.prog X.w) X.A (compareOp op (.ref l) (.ref b)) Q X.xe s) : OpR X (compareOp op) (rD X.K (cmpD p q)) := by
  intro pins s σ H x y v u Q I rx ry h
  obtain ⟨dx, dy, d, tx, ty, e, k⟩ := h
  cases dx with
  | int i =>
    cases dy with
    | int j => cases e; exact hi pins s σ H x y v u Q I rx ry ⟨i, j, tx.int, ty.int, k _ H (Same.refl _) (fz_bl _)⟩
    | _ => exact nomatch (show (R.bad : R D) = .ok d from e)
  | tuple a =>
    cases dy with
    | tuple b =>
      replace e : ((R.of (intsOf a)).bind fun x => (R.of (intsOf b)).bind fun y => R.ok (PyData.bool (q x y))) = .ok d := e
      cases ea : intsOf a with
      | none => rw [ea] at e; cases e
      | some ns =>
        cases eb : intsOf b with
        | none => rw [ea, eb] at e; cases e
        | some ms =>
          rw [ea, eb] at e
          cases e
          obtain ⟨l, xs, rfl, sx, fx⟩ := tx.tup
          obtain ⟨m, ys, rfl, sy, fy⟩ := ty.tup
          cases rx
          cases ry
          obtain ⟨rfl, _⟩ := fx.ints ea
          obtain ⟨rfl, _⟩ := fy.ints eb
          obtain ⟨its, r1, p1, _⟩ := I.tuple sx
          obtain ⟨its2, r2, p2, _⟩ := I.tuple sy
          exact ht p1 p2 (intsAre_of r1) (intsAre_of r2) ⟨.bl (q ns ms), H, I, rfl, k _ H (Same.refl _) (fz_bl _)⟩
    | _ => exact nomatch (show (R.bad : R D) = .ok d from e)
  | _ => exact nomatch (show (R.bad : R D) = .ok d from e)
theorem o_lt (hu : X.A.units + 64 < cLine) : OpR X (compareOp .Lt) (rD X.K ltD) := o_cmp op_lt fun p1 p2 i1 i2 h => HT.lt_tupInts p1 p2 i1 i2 (by omega) (by rw [← lexLt_eq]; exact h)
theorem o_le (hu : X.A.units + 64 < cLine) : OpR X (compareOp .LtE) (rD X.K leD) := o_cmp op_le fun p1 p2 i1 i2 h => le_tupInts p1 p2 i1 i2 (by omega) h
theorem o_gt (hu : X.A.units + 64 < cLine) : OpR X (compareOp .Gt) (rD X.K gtD) := o_cmp op_gt fun p1 p2 i1 i2 h => gt_tupInts p1 p2 i1 i2 (by omega) h
theorem o_ge (hu : X.A.units + 64 < cLine) : OpR X (compareOp .GtE) (rD X.K geD) := o_cmp op_ge fun p1 p2 i1 i2 h => ge_tupInts p1 p2 i1 i2 (by omega) h
theorem x_ix : IxR X (rD X.K ixD) := by
  intro value slice pins s σ H x y v u Q I rx ry h hs
  obtain ⟨dx, dy, d, tx, ty, e, q⟩ := h
  cases dx with
  | list a =>
    cases dy with
    | int i =>
      replace e : R.of (FL.atI a i) = .ok d := e
      cases ea : FL.atI a i with
      | none => rw [ea] at e; cases e
      | some d' =>
        rw [ea] at e
        cases e
        obtain ⟨l, xs, rfl, sx, fx⟩ := tx.lst
        obtain ⟨w, ew, fw⟩ := fx.atI ea
        exact ix_list value slice pins s σ H _ y v u Q I rx ry ⟨l, xs, i, w, rfl, ty.int, sx, ew, q _ H (Same.refl _) fw⟩ hs
    | _ => exact nomatch (show (R.bad : R D) = .ok d from e)
  | tuple a =>
    cases dy with
    | int i =>
      replace e : R.of (FL.atI a i) = .ok d := e
      cases ea : FL.atI a i with
      | none => rw [ea] at e; cases e
      | some d' =>
        rw [ea] at e
        cases e
        obtain ⟨l, xs, rfl, sx, fx⟩ := tx.tup
        obtain ⟨w, ew, fw⟩ := fx.atI ea
        exact ix_tup value slice pins s σ H _ y v u Q I rx ry ⟨l, xs, i, w, rfl, ty.int, sx, ew, q _ H (Same.refl _) fw⟩ hs
    | _ => exact nomatch (show (R.bad : R D) = .ok d from e)
  | _ => exact nomatch (show (R.bad : R D) = .ok d from e)
theorem v_tru : TruR X (fun x H Q => ∃ d k, Tp X.K H d x ∧ truD d = .ok k ∧ Q k H) := by
  intro pins s σ H x v Q I rx h
  obtain ⟨d, k, tx, e, q⟩ := h
  refine tru_ok pins s σ H x v Q I rx ⟨k, ?_, q⟩
  cases d with
  | none => have := tx.none; subst this; cases e; rfl
  | bool b => have := tx.bool; subst this; cases e; rfl
  | int b => have := tx.int; subst this; cases e; rfl
  | list b =>
    obtain ⟨a, vs, rfl, sx, fx⟩ := tx.lst
    cases e
    refine .inl ⟨vs, sx, ?_⟩
    have := fx.len
    cases b <;> cases vs <;> simp_all
  | tuple b =>
    obtain ⟨a, vs, rfl, sx, fx⟩ := tx.tup
    cases e
    refine .inr (.inl ⟨vs, sx, ?_⟩)
    have := fx.len
    cases b <;> cases vs <;> simp_all
  | _ => exact nomatch (show (R.bad : R Bool) = .ok k from e)
end
end FL
set_option Elab.async false
set_option linter.all false
set_option maxRecDepth 100000
set_option maxHeartbeats 4000000
namespace FL
open PySem L2 PySem.Spec
open PyProof.Rows hiding St
theorem noFill_tuple_mul : fillsNumberSlot (.type "tuple") "mul" = pure false :=
  PySem.fillsNumberSlot_seq (id := "tuple.__mul__") (r := some (.builtin "tuple.__rmul__")) PySem.F.slot_tuple_mul.lookup (by decide +kernel) PySem.F.slot_tuple_rmul.lookup (by decide +kernel)
theorem repeat_tuple : seqRepeat? (.type "tuple") = pure (some (.builtin "tuple.__mul__")) := by
  unfold seqRepeat?
  rw [PySem.seqSlot_of (T := "tuple") (name := "__mul__") (id := "tuple.__mul__") PySem.F.slot_tuple_mul.lookup (by decide +kernel), PySem.seqSlot_of (T := "tuple") (name := "__rmul__") (id := "tuple.__rmul__") PySem.F.slot_tuple_rmul.lookup (by decide +kernel)]
  rfl
section
open PySem.SeqAt
open PySem.AutoSeq1 (wpAny_loadPart')
open PySem.MeetsSeq PySem.MeetsSeq2 PySem.MeetsSeq3
theorem int_rmul_tuple (a : Int) (t : Tok) (l : Addr) (items : Array Value) (n : Nat) (dd : Option Addr) (sl : Array (Option Value)) :
    Meets (Builtin.«int.__rmul__» ⟨[.int a t, .ref l], []⟩) (fun _ R s => s.heap.get? l = some { cls := .type "tuple", dict := dd, data := .seq items n, slots := sl } ∧ R (.ok (.ret Value.notImplemented)) s) :=
  .of_wp fun prog w A R s h => by obtain ⟨hp, g, d, tk, os⟩ := s; obtain ⟨hl, h⟩ := h; wp_walk; exact ⟨_, rfl, h⟩
theorem tuple_mulW (l : Addr) (items : Array Value) (n : Nat) (dd : Option Addr) (sl : Array (Option Value)) (k : Int) (t : Tok) (h0 : items.isEmpty = false) (h1 : 2 ≤ k) (h2 : k < 2 ^ 62) (h3 : items.size * k.toNat ≤ sizeLine) :
    Meets (Builtin.«tuple.__mul__» ⟨[.ref l, .int k t], []⟩) (fun _ R s => s.heap.get? l = some { cls := .type "tuple", dict := dd, data := .seq items n, slots := sl } ∧
      R (.ok (.ret (.ref s.heap.objs.size))) { s with heap := s.heap.push { cls := .type "tuple", data := .seq ((List.replicate k.toNat items).foldl (· ++ ·) #[]) } }) :=
  .of_wp fun prog w A R s h => by
    obtain ⟨hp, g, d, tk, os⟩ := s; obtain ⟨hl, h⟩ := h
    have f1 := AutoSeq1.idx_int
    have i0 : (items.size : Int) * k ≤ (sizeLine : Int) := by
      have e : ((items.size * k.toNat : Nat) : Int) = (items.size : Int) * k := by rw [Int.natCast_mul, Int.toNat_of_nonneg (by omega)]
      rw [← e]
      exact Int.ofNat_le.mpr h3
    have hA : ¬ (decide (k < -2 ^ 63) || decide (k ≥ 2 ^ 63)) = true := by
      simp only [Bool.or_eq_true, decide_eq_true_eq, not_or]
      constructor <;> omega
    have hB : ¬ (items.isEmpty || k == 1) = true := by
      rw [h0]
      simp only [Bool.false_or, beq_iff_eq]
      omega
    have hC : ¬ (decide (k ≤ 0) || items.isEmpty) = true := by
      rw [h0]
      simp only [Bool.or_false, decide_eq_true_eq]
      omega
    have sz : (sizeLine : Int) ≤ 16777216 := by rw [sizeLine_eq]; decide
    have hD : ¬ (items.size : Int) * k > (2 ^ 63 - 1) / 8 := by omega
    have hE : ¬ Builtin.Tuple.tupleTooMany ((items.size : Int) * k) = true := by
      unfold Builtin.Tuple.tupleTooMany
      simp only [decide_eq_true_eq]
      omega
    have hs : sizeOk (.seq (List.foldl (fun x1 x2 => x1 ++ x2) #[] (List.replicate k.toNat items))) := by
      obtain ⟨its⟩ := items
      have := foldl_rep its k.toNat []
      rw [List.nil_append] at this
      rw [this]
      show (List.replicate k.toNat its).flatten.toArray.size ≤ sizeLine
      rw [List.size_toArray, len_rep, Nat.mul_comm]
      exact h3
    wp_walk
    rw [if_neg hA]
    wp_walk using wpAny_loadPart' hl
    rw [if_neg hB]
    wp_walk
    rw [if_neg hC]
    wp_walk
    rw [if_neg hD]
    wp_walk
    rw [if_neg (show ¬ (List.foldl (fun x1 x2 => x1 ++ x2) #[] (List.replicate k.toNat items)).size > sizeLine from Nat.not_lt.mpr hs)]
    wp_walk
    exact ⟨_, rfl, h⟩
end
section
variable {prog : Program} {w : World} {A : Around} {E : Value → Shared → Prop} {s : Shared}
theorem slice_whole {t sl : Addr} {items : Array Value} {vl vu : Value} {lo hi : Option Int} {Q : Value → Shared → Prop} (ht : IsTup s.heap t items) (hs : s.heap.IsSliceOf sl vl vu .none) (pl : IsPart vl lo) (pu : IsPart vu hi)
    (hw : HT.sIx items.size 0 lo = 0 ∧ HT.sIx items.size items.size hi = items.size) (h : Q (.ref t) s) : wpAny (model prog w) A (getItem (.ref t) (.ref sl)) Q E s := by
  obtain ⟨os, hos, hcs, hds⟩ := id hs
  have hTs : s.TypeIs (.ref sl) "slice" := ⟨os, hos, hcs⟩
  unfold getItem
  try with_reducible refine wpAny_holding ?_
  first | refine wpAny_bind (wpAny_pure ?_) | skip
  refine wpAny_bind (wpAny_sequenceKey ht.typeIs (by decide) ?_)
  refine wpAny_bind (wpAny_callSpecial?_slot (name := Str.ofString "__getitem__") ht.typeIs PyProof.Rows.slot_tuple_getitem
    (wpAny_call_entry PyProof.Rows.slot_tuple_getitem ht.typeIs entry_tuple_getitem ?_ (args_tuple_getitem _ _)))
  show wpAny _ _ (Builtin.Tuple.tupleItemsOf (.ref t) >>= _) _ _ s
  refine wpAny_bind (tupleItemsOf_ ht ?_)
  refine wpAny_bind (wpAny_typeOf hTs ?_)
  rw [if_pos (by decide)]
  refine wpAny_bind (HT.sliceApplied_gen hs pl pu ?_)
  show wpAny _ _ (if (((HT.sIx items.size 0 lo : Nat) : Int) == 0 && (1 : Int) == 1 && (HT.sIx items.size items.size hi - HT.sIx items.size 0 lo) == items.size) = true then _ else _) _ _ s
  rw [hw.1, hw.2, if_pos (by simp)]
  refine wpAny_bind (m := Builtin.Tuple.tupleIsExact _) ?_
  unfold Builtin.Tuple.tupleIsExact
  refine wpAny_bind (wpAny_typeOf ht.typeIs (wpAny_pure ?_))
  rw [if_pos (by decide)]
  exact wpAny_bind (wpAny_rule (wpAny_bind (wpAny_pure (wpAny_pure ⟨_, rfl, wpAny_pure h⟩))))
end
section
variable {X : Cx}
theorem o_mul : OpR X (binaryOp .Mult) (rD X.K mulD) := by
  intro pins s σ H x y v u Q I rx ry h
  obtain ⟨dx, dy, d, tx, ty, e, q⟩ := h
  cases dx with
  | int i =>
    cases dy with
    | int j =>
      obtain ⟨c, e⟩ := chk_inv (show chk (mulOk i j) (.ok (.int (i * j))) = .ok d from e)
      cases e
      exact op_mulB pins s σ H x y v u Q I rx ry ⟨i, j, tx.int, ty.int, mulOk_ok c, q _ H (Same.refl _) (fz_int _)⟩
    | _ => exact nomatch (show (R.bad : R D) = .ok d from e)
  | tuple a =>
    cases dy with
    | int k =>
      obtain ⟨c, e⟩ := chk_inv (show chk (!a.isEmpty && leB 2 k.toNat && leB k.toNat 1000000 && leB (a.length * k.toNat) lim) (.ok (.tuple (List.replicate k.toNat a).flatten)) = .ok d from e)
      cases e
      simp only [Bool.and_eq_true, leB_iff] at c
      obtain ⟨⟨⟨c0, c1⟩, c2⟩, c3⟩ := c
      obtain ⟨l, xs, rfl, sx, fx⟩ := tx.tup
      have := ty.int
      subst this
      cases rx
      obtain ⟨t, rfl⟩ := ry
      obtain ⟨its, r1, p1, z1⟩ := I.tuple sx
      obtain ⟨⟨cls, dd, data, sl⟩, ho, hc, n, hd⟩ := id p1
      simp only at hc hd
      subst hc hd
      have hl : its.length = a.length := by rw [← r1.length, fx.len]
      have hz : its.length * k.toNat ≤ sizeLine := by rw [hl]; exact Nat.le_trans c3 lim_size
      have he : its.toArray.isEmpty = false := by
        cases its with
        | nil => simp only [List.length_nil] at hl; cases a with | nil => simp at c0 | cons _ _ => simp at hl
        | cons _ _ => rfl
      refine wpAny_binaryOp_repeat_ref (T := "tuple") (U := "int") (by decide) ⟨_, ho, rfl⟩ (fun s' => typeIs_int s' k t) noFill_tuple_mul PySem.F.fills_int_mul PySem.F.slot_int_rmul repeat_tuple PySem.F.slot_int_index.lookup
        (call_meets PySem.F.slot_int_rmul (typeIs_int s k t) PySem.F.entry_int_rmul (PySem.F.args_int_rmul_2 _ _) (int_rmul_tuple k t l its.toArray n dd sl)
          ⟨ho, rfl, ⟨_, ho, rfl⟩, call_meets PySem.F.slot_tuple_mul ⟨_, ho, rfl⟩ PySem.F.entry_tuple_mul (PySem.F.args_tuple_mul_2 _ _) (tuple_mulW l its.toArray n dd sl k t he (by omega) (by omega) (by rw [List.size_toArray]; exact hz)) ⟨ho, ?_⟩⟩)
      have en := foldl_rep its k.toNat []
      rw [List.nil_append] at en
      rw [en]
      have hp : H s.heap.objs.size = none := I.hok.fresh (Nat.le_refl _)
      refine ⟨.ref s.heap.objs.size, _, I.laid (t' := s.toks) (o := .tup (List.replicate k.toNat xs).flatten) (fun b ob q => Heap.get?_push_of_some _ q) (Nat.le_refl _) ⟨by rw [len_rep, Nat.mul_comm, r1.length]; exact hz, _, r1.rep k.toNat, IsTup.new _ _⟩, rfl,
        q _ _ (Same.upd hp) (fz_tup (SqT.of upd_same) ((fx.rep k.toNat).mono (Fzn.of (Same.upd hp))))⟩
    | _ => exact nomatch (show (R.bad : R D) = .ok d from e)
  | _ => exact nomatch (show (R.bad : R D) = .ok d from e)
theorem cut_whole {α : Type} {ds : List α} {lo hi : Option Int} (h1 : FL.sIx ds.length 0 lo = 0) (h2 : FL.sIx ds.length ds.length hi = ds.length) : FL.cut ds lo hi = ds := by
  unfold FL.cut
  rw [h1, h2]
  simp
theorem s_cut : SlR X (rSlD X.K) := by
  intro pins s σ H x v vl vu lo hi sl Q I rx hs pl pu h
  obtain ⟨dx, d, tx, e, q⟩ := h
  cases dx with
  | list a =>
    cases e
    obtain ⟨l, xs, rfl, sx, fx⟩ := tx.lst
    obtain ⟨T, id, h1, h2, h3⟩ := sl_list pins s σ H _ v vl vu lo hi sl (fun v H1 => ∃ p, v = .ref p ∧ H p = none ∧ H1 = upd H p (.lst (cutV xs lo hi))) I rx hs pl pu ⟨l, xs, rfl, sx, fun p hp => ⟨p, rfl, hp, rfl⟩⟩
    exact ⟨T, id, h1, h2, thn h3 fun _ _ z => ep_lst (fx.cut lo hi) q z⟩
  | tuple a =>
    cases e
    obtain ⟨l, xs, rfl, sx, fx⟩ := tx.tup
    by_cases w : HT.sIx xs.length 0 lo = 0 ∧ HT.sIx xs.length xs.length hi = xs.length
    · cases rx
      obtain ⟨its, r, ht, hz⟩ := I.tuple sx
      have hlen : its.toArray.size = xs.length := by rw [List.size_toArray]; exact r.length.symm
      refine ⟨"tuple", _, PyProof.Rows.slot_tuple_getitem.lookup, ht.typeIs, slice_whole ht hs pl pu (by rw [hlen]; exact w) ⟨.ref l, H, I, rfl, q _ H (Same.refl _) ?_⟩⟩
      rw [fx.len] at w
      rw [cut_whole w.1 w.2]
      exact fz_tup sx fx
    · exact sl_tup pins s σ H _ v vl vu lo hi sl Q I rx hs pl pu ⟨l, xs, rfl, sx, w, fun p hp => q _ _ (Same.upd hp) (fz_tup (SqT.of upd_same) ((fx.cut lo hi).mono (Fzn.of (Same.upd hp))))⟩
  | _ => exact nomatch (show (R.bad : R D) = .ok d from e)
end
end FL
set_option Elab.async false
set_option linter.all false
set_option maxRecDepth 100000
set_option maxHeartbeats 4000000
namespace FL
open PySem L2 PySem.Spec
open PyProof.Rows hiding St
theorem maxL_of {ns : List Int} {M : Int} (h1 : M ∈ ns) (h2 : ∀ a ∈ ns, a ≤ M) : maxL ns = some M := by
  have key : ∀ (xs : List Int) (x : Int), (M = x ∨ M ∈ xs) → x ≤ M → (∀ a ∈ xs, a ≤ M) → xs.foldl (fun m y => if y > m then y else m) x = M := by
    intro xs
    induction xs with
    | nil => intro x h _ _; rcases h with h | h; exact h.symm; cases h
    | cons y ys ih =>
      intro x h hx ha
      simp only [List.foldl_cons]
      have hy := ha y (List.mem_cons_self ..)
      refine ih _ ?_ ?_ fun a m => ha a (List.mem_cons_of_mem _ m)
      · split
        · rcases h with h | h
          · omega
          · rcases List.mem_cons.mp h with h | h
            · exact .inl h
            · exact .inr h
        · rcases h with h | h
          · exact .inl h
          · rcases List.mem_cons.mp h with h | h
            · left; omega
            · exact .inr h
      · split <;> omega
  cases ns with
  | nil => cases h1
  | cons x xs =>
    show some _ = some M
    rw [key xs x (List.mem_cons.mp h1) (h2 x (List.mem_cons_self ..)) fun a m => h2 a (List.mem_cons_of_mem _ m)]
theorem minL_of {ns : List Int} {M : Int} (h1 : M ∈ ns) (h2 : ∀ a ∈ ns, M ≤ a) : minL ns = some M := by
  have key : ∀ (xs : List Int) (x : Int), (M = x ∨ M ∈ xs) → M ≤ x → (∀ a ∈ xs, M ≤ a) → xs.foldl (fun m y => if y < m then y else m) x = M := by
    intro xs
    induction xs with
    | nil => intro x h _ _; rcases h with h | h; exact h.symm; cases h
    | cons y ys ih =>
      intro x h hx ha
      simp only [List.foldl_cons]
      have hy := ha y (List.mem_cons_self ..)
      refine ih _ ?_ ?_ fun a m => ha a (List.mem_cons_of_mem _ m)
      · split
        · rcases h with h | h
          · omega
          · rcases List.mem_cons.mp h with h | h
            · exact .inl h
            · exact .inr h
        · rcases h with h | h
          · exact .inl h
          · rcases List.mem_cons.mp h with h | h
            · left; omega
            · exact .inr h
      · split <;> omega
  cases ns with
  | nil => cases h1
  | cons x xs =>
    show some _ = some M
    rw [key xs x (List.mem_cons.mp h1) (h2 x (List.mem_cons_self ..)) fun a m => h2 a (List.mem_cons_of_mem _ m)]
section
variable {X : Cx}
theorem call_maxL (hc : X.calm = true) : CallR X (.builtin "max") (fun xs H Q => ∃ (a : Addr) (ns : List Int) (M : Int), xs = [.ref a] ∧ SqL X.K H a (ns.map V.int) ∧ maxL ns = some M ∧ Q (.int M) H) := by
  intro pins s σ H xs us Q I r h
  obtain ⟨a, ns, M, rfl, hq, hm, q⟩ := h
  obtain ⟨u, rfl, ru⟩ := vals1 r
  cases (show u = Value.ref a from ru)
  obtain ⟨its, rv, p, hz⟩ := I.list hq
  have hi := intsAre_of rv
  obtain ⟨xs, e⟩ := hi.allInts.items
  have hns : ns = xs.toList.map (·.1) := by
    have h1 := nums_intItems xs
    rw [← e] at h1
    rw [← h1, show its.toArray.toList = its from rfl, hi.numsOf]
  have hsz : 0 < xs.size := by
    cases ns with
    | nil => cases hm
    | cons x r => have := congrArg List.length hns; simp at this; omega
  refine max_intList (xs := xs) (I.ok.hd hc) (by rw [← e]; exact p.isList) hsz fun v h' tk hv hk => ?_
  obtain ⟨t, rfl⟩ := intItems_at hv
  obtain ⟨h1, h2⟩ := argBest_gt (numAt xs) (xs.size - 1)
  refine ⟨.int M, H, I.kept hk, ⟨t, ?_⟩, q⟩
  have e2 : maxL ns = some (numAt xs (argBest (fun i j => decide (numAt xs i > numAt xs j)) (xs.size - 1))) := by
    refine maxL_of ?_ fun a ha => ?_
    · rw [hns, numAt_eq]; exact getD_mem (by rw [List.length_map, Array.length_toList]; omega)
    · rw [hns] at ha
      obtain ⟨j, hj, rfl⟩ := mem_getD ha
      rw [List.length_map, Array.length_toList] at hj
      rw [← numAt_eq]; exact h2 j (by omega)
  rw [hm] at e2
  cases e2
  rfl
theorem call_minL (hc : X.calm = true) : CallR X (.builtin "min") (fun xs H Q => ∃ (a : Addr) (ns : List Int) (M : Int), xs = [.ref a] ∧ SqL X.K H a (ns.map V.int) ∧ minL ns = some M ∧ Q (.int M) H) := by
  intro pins s σ H xs us Q I r h
  obtain ⟨a, ns, M, rfl, hq, hm, q⟩ := h
  obtain ⟨u, rfl, ru⟩ := vals1 r
  cases (show u = Value.ref a from ru)
  obtain ⟨its, rv, p, hz⟩ := I.list hq
  have hi := intsAre_of rv
  obtain ⟨xs, e⟩ := hi.allInts.items
  have hns : ns = xs.toList.map (·.1) := by
    have h1 := nums_intItems xs
    rw [← e] at h1
    rw [← h1, show its.toArray.toList = its from rfl, hi.numsOf]
  have hsz : 0 < xs.size := by
    cases ns with
    | nil => cases hm
    | cons x r => have := congrArg List.length hns; simp at this; omega
  refine min_intList (xs := xs) (I.ok.hd hc) (by rw [← e]; exact p.isList) hsz fun v h' tk hv hk => ?_
  obtain ⟨t, rfl⟩ := intItems_at hv
  obtain ⟨h1, h2⟩ := argBest_lt (numAt xs) (xs.size - 1)
  refine ⟨.int M, H, I.kept hk, ⟨t, ?_⟩, q⟩
  have e2 : minL ns = some (numAt xs (argBest (fun i j => decide (numAt xs i < numAt xs j)) (xs.size - 1))) := by
    refine minL_of ?_ fun a ha => ?_
    · rw [hns, numAt_eq]; exact getD_mem (by rw [List.length_map, Array.length_toList]; omega)
    · rw [hns] at ha
      obtain ⟨j, hj, rfl⟩ := mem_getD ha
      rw [List.length_map, Array.length_toList] at hj
      rw [← numAt_eq]; exact h2 j (by omega)
  rw [hm] at e2
  cases e2
  rfl
def CallD (X : Cx) (f : Value) (g : D → R D) : Prop := CallR X f (rD0 X.K g)
theorem CallD.ds {f : Value} {g : D → R D} (h : CallD X f g) : CallR X f (rDs X.K (one g)) := fun pins s σ H xs us Q I r ⟨ds, d, fz, e, q⟩ => by
  cases ds with
  | nil => exact nomatch (show (R.bad : R D) = .ok d from e)
  | cons d0 r0 =>
    cases r0 with
    | nil =>
      simp only [FzAll] at fz
      obtain ⟨v, r', rfl, fv, e2⟩ := fz
      subst e2
      exact h pins s σ H _ us Q I r ⟨v, d0, d, rfl, fv.tp, e, q⟩
    | cons _ _ => exact nomatch (show (R.bad : R D) = .ok d from e)
theorem c_len : CallD X (.builtin "len") lenD := by
  intro pins s σ H xs us Q I r h
  obtain ⟨x, dx, d, rfl, tx, e, q⟩ := h
  cases dx with
  | list a => obtain ⟨p, vs, rfl, sx, fx⟩ := tx.lst; cases e; exact call_len_seq pins s σ H _ us Q I r ⟨p, vs, rfl, .inl sx, by rw [fx.len]; exact q _ H (Same.refl _) (fz_int _)⟩
  | tuple a => obtain ⟨p, vs, rfl, sx, fx⟩ := tx.tup; cases e; exact call_len_seq pins s σ H _ us Q I r ⟨p, vs, rfl, .inr sx, by rw [fx.len]; exact q _ H (Same.refl _) (fz_int _)⟩
  | _ => exact nomatch (show (R.bad : R D) = .ok d from e)
theorem c_max (hc : X.calm = true) : CallD X (.builtin "max") maxD := by
  intro pins s σ H xs us Q I r h
  obtain ⟨x, dx, d, rfl, tx, e, q⟩ := h
  cases dx with
  | list a =>
    obtain ⟨p, vs, rfl, sx, fx⟩ := tx.lst
    replace e : ((R.of (intsOf a)).bind fun x => (R.of (maxL x)).bind fun m => R.ok (PyData.int m)) = .ok d := e
    cases ea : intsOf a with
    | none => rw [ea] at e; cases e
    | some ns =>
      rw [ea] at e
      replace e : ((R.of (maxL ns)).bind fun m => R.ok (PyData.int m)) = .ok d := e
      cases em : maxL ns with
      | none => rw [em] at e; cases e
      | some M =>
        rw [em] at e
        cases e
        obtain ⟨rfl, _⟩ := fx.ints ea
        exact call_maxL hc pins s σ H _ us Q I r ⟨p, ns, M, rfl, sx, em, q _ H (Same.refl _) (fz_int _)⟩
  | _ => exact nomatch (show (R.bad : R D) = .ok d from e)
theorem c_min (hc : X.calm = true) : CallD X (.builtin "min") minD := by
  intro pins s σ H xs us Q I r h
  obtain ⟨x, dx, d, rfl, tx, e, q⟩ := h
  cases dx with
  | list a =>
    obtain ⟨p, vs, rfl, sx, fx⟩ := tx.lst
    replace e : ((R.of (intsOf a)).bind fun x => (R.of (minL x)).bind fun m => R.ok (PyData.int m)) = .ok d := e
    cases ea : intsOf a with
    | none => rw [ea] at e; cases e
    | some ns =>
      rw [ea] at e
      replace e : ((R.of (minL ns)).bind fun m => R.ok (PyData.int m)) = .ok d := e
      cases em : minL ns with
      | none => rw [em] at e; cases e
      | some M =>
        rw [em] at e
        cases e
        obtain ⟨rfl, _⟩ := fx.ints ea
        exact call_minL hc pins s σ H _ us Q I r ⟨p, ns, M, rfl, sx, em, q _ H (Same.refl _) (fz_int _)⟩
  | _ => exact nomatch (show (R.bad : R D) = .ok d from e)
theorem c_all (hc : X.calm = true) : CallD X (.builtin "all") allD := by
  intro pins s σ H xs us Q I r h
  obtain ⟨x, dx, d, rfl, tx, e, q⟩ := h
  cases dx with
  | list a =>
    obtain ⟨p, vs, rfl, sx, fx⟩ := tx.lst
    replace e : ((R.of (boolsOf a)).bind fun x => R.ok (PyData.bool (x.all id))) = .ok d := e
    cases ea : boolsOf a with
    | none => rw [ea] at e; cases e
    | some ns =>
      rw [ea] at e
      cases e
      obtain ⟨rfl, _⟩ := fx.bools ea
      exact call_all hc pins s σ H _ us Q I r ⟨p, ns, rfl, sx, q _ H (Same.refl _) (fz_bl _)⟩
  | _ => exact nomatch (show (R.bad : R D) = .ok d from e)
end
theorem Tp.ty {K : PySem.W.Frag} {H : Hp} {d : D} {x : V} (c : tyOk d = true) (h : Tp K H d x) : Ty K H x (.type (tyOf d)) := by
  cases d with
  | none => have := h.none; subst this; exact .non
  | bool b => have := h.bool; subst this; exact .bl b
  | int b => have := h.int; subst this; exact .int b
  | str b => have : x = .str b := by simpa [Tp, Fz] using h
             subst this; exact .str b
  | list b => obtain ⟨_, _, rfl, s, _⟩ := h.lst; exact .lst s
  | tuple b => obtain ⟨_, _, rfl, s, _⟩ := h.tup; exact .tup s
  | dict b => cases c
def KitOk (T : String) : Prop := ∀ (K : PySem.W.Frag) (d : D), PySem.W.kitOne K (.type (tyOf d)) (.type T) = some (isI T d)
theorem kit_of {T : String} (h0 : KC.kitT "NoneType" T = some (isI T .none)) (h1 : ∀ b, KC.kitT "bool" T = some (isI T (.bool b))) (h2 : ∀ b, KC.kitT "int" T = some (isI T (.int b))) (h3 : ∀ b, KC.kitT "str" T = some (isI T (.str b))) (h4 : ∀ b, KC.kitT "list" T = some (isI T (.list b)))
    (h5 : ∀ b, KC.kitT "tuple" T = some (isI T (.tuple b))) (h6 : ∀ b, KC.kitT "dict" T = some (isI T (.dict b))) : KitOk T := fun K d => by
  cases d with
  | none => exact h0
  | bool b => exact h1 b
  | int b => exact h2 b
  | str b => exact h3 b
  | list b => exact h4 b
  | tuple b => exact h5 b
  | dict b => exact h6 b
theorem kit_int : KitOk "int" := kit_of (by decide +kernel) (fun _ => (by decide +kernel : KC.kitT "bool" "int" = some (isI "int" (.bool true)))) (fun _ => (by decide +kernel : KC.kitT "int" "int" = some (isI "int" (.int 0)))) (fun _ => (by decide +kernel : KC.kitT "str" "int" = some (isI "int" (.str "")))) (fun _ => (by decide +kernel : KC.kitT "list" "int" = some (isI "int" (.list [])))) (fun _ => (by decide +kernel : KC.kitT "tuple" "int" = some (isI "int" (.tuple [])))) (fun _ => (by decide +kernel : KC.kitT "dict" "int" = some (isI "int" (.dict []))))
theorem kit_bool : KitOk "bool" := kit_of (by decide +kernel) (fun _ => (by decide +kernel : KC.kitT "bool" "bool" = some (isI "bool" (.bool true)))) (fun _ => (by decide +kernel : KC.kitT "int" "bool" = some (isI "bool" (.int 0)))) (fun _ => (by decide +kernel : KC.kitT "str" "bool" = some (isI "bool" (.str "")))) (fun _ => (by decide +kernel : KC.kitT "list" "bool" = some (isI "bool" (.list [])))) (fun _ => (by decide +kernel : KC.kitT "tuple" "bool" = some (isI "bool" (.tuple [])))) (fun _ => (by decide +kernel : KC.kitT "dict" "bool" = some (isI "bool" (.dict []))))
theorem kit_tuple : KitOk "tuple" := kit_of (by decide +kernel) (fun _ => (by decide +kernel : KC.kitT "bool" "tuple" = some (isI "tuple" (.bool true)))) (fun _ => (by decide +kernel : KC.kitT "int" "tuple" = some (isI "tuple" (.int 0)))) (fun _ => (by decide +kernel : KC.kitT "str" "tuple" = some (isI "tuple" (.str "")))) (fun _ => (by decide +kernel : KC.kitT "list" "tuple" = some (isI "tuple" (.list [])))) (fun _ => (by decide +kernel : KC.kitT "tuple" "tuple" = some (isI "tuple" (.tuple [])))) (fun _ => (by decide +kernel : KC.kitT "dict" "tuple" = some (isI "tuple" (.dict []))))
theorem kit_list : KitOk "list" := kit_of (by decide +kernel) (fun _ => (by decide +kernel : KC.kitT "bool" "list" = some (isI "list" (.bool true)))) (fun _ => (by decide +kernel : KC.kitT "int" "list" = some (isI "list" (.int 0)))) (fun _ => (by decide +kernel : KC.kitT "str" "list" = some (isI "list" (.str "")))) (fun _ => (by decide +kernel : KC.kitT "list" "list" = some (isI "list" (.list [])))) (fun _ => (by decide +kernel : KC.kitT "tuple" "list" = some (isI "list" (.tuple [])))) (fun _ => (by decide +kernel : KC.kitT "dict" "list" = some (isI "list" (.dict []))))
section
variable {K : PySem.W.Frag} {X : Cx} {a : Expr} {f : EF} {pos : Pos}
theorem pv_isi {T : String} {tn : Str} {p p2 : Pos} (kt : KitOk T) (hg : Gl X "isinstance") (hm : X.mg "isinstance" = none) (hg2 : Gl X tn) (hm2 : X.mg tn = none) (hv2 : bootBuiltins tn = some (.type T)) (ha : PV K X a f) (hn : tn ≠ "__name__" := by decide) (hd : (tn == ("__debug__" : Str)) = false := by decide)
    (hs1 : starEach [a, .Name tn p2] X.env = (false, eval a X.env) :: starEach [.Name tn p2] X.env := by rfl) (hs2 : starEach [.Name tn p2] X.env = (false, eval (.Name tn p2) X.env) :: starEach [] X.env := by rfl) (hpl : (backTo pos (starEach [.Name tn p2] X.env)).any (·.1) = false := by rfl) :
    PV K X (.Call (.Name "isinstance" p) [a, .Name tn p2] [] pos) (e1 (isiD' T) f) := fun hK => by
  subst hK
  refine (pe_callB (x := "isinstance") (id := "isinstance") call_isi hg hm KC.Bt.isinstance (pa_cons (ha rfl) (pa_cons (pe_ty hg2 hm2 hv2 hn hd) pa_nil hs2) hs1) (by decide) (by decide) hs1 hpl).weak fun σ H Q => ?_
  rintro ⟨ρ, rel, q⟩
  refine goV rel q fun dx ρ1 x H1 rel1 st1 fx q1 => ?_
  obtain ⟨d, ed, q3⟩ := q1.bnd'
  obtain ⟨c, ed⟩ := chk_inv ed
  cases ed
  exact ⟨x, .ty T, _, _, rfl, (fun z => nomatch z), fx.tp.ty c, kt X.K dx, q3.now rel1 _ (fz_bl _)⟩
theorem pv_one1 {g : D → R D} {f : EF} {e : Expr} (h : PV K X e (eCall (one g) (aCons f aNil))) : PV K X e (e1 g f) := fun hK => (h hK).weak fun σ H Q => by
  rintro ⟨ρ, rel, q⟩
  refine ⟨ρ, rel, ?_⟩
  have : eCall (one g) (aCons f aNil) ρ = e1 g f ρ := by
    unfold eCall aCons aNil e1
    cases f ρ with
    | ok x => rfl
    | _ => rfl
  rw [this]
  exact q
end
end FL
set_option Elab.async false
set_option linter.all false
set_option maxRecDepth 100000
set_option maxHeartbeats 4000000
namespace FL
open PySem L2 PySem.Spec
open PyProof.Rows hiding St
section
variable {K : PySem.W.Frag} {ρ ρ1 : En} {σ : L2.St} {H H1 : Hp} {i : Nat} {d : D}
theorem mutAt_inv (h : mutAt ρ i = .ok d) : ∃ p, ρ[i]? = some (.ow p d) := by
  unfold mutAt at h
  cases e : ρ[i]? with
  | none => rw [e] at h; cases h
  | some x =>
    rw [e] at h
    cases x with
    | ow p c => cases h; exact ⟨p, rfl⟩
    | _ => cases h
theorem Rel.mutA (r : Rel K ρ σ H) (h : mutAt ρ i = .ok d) : ∃ a, At ρ σ i a ∧ MutAt K H a d := by
  obtain ⟨p, e⟩ := mutAt_inv h
  have hl : i < σ.length := by rw [← r.len]; exact (List.getElem?_eq_some_iff.mp e).1
  have o := r.ok i _ _ e (List.getElem?_eq_getElem hl)
  cases es : σ[i] with
  | none => rw [es] at o; exact o.elim
  | some v =>
    rw [es] at o
    cases v with
    | ref a => exact ⟨a, ⟨⟨p, d, e⟩, by rw [List.getElem?_eq_getElem hl, es]⟩, o⟩
    | _ => exact o.elim
theorem Rel.again {a : Addr} (r : Rel K ρ1 σ H1) (h : mutAt ρ1 i = .ok d) (at0 : At ρ σ i a) : MutAt K H1 a d := by
  obtain ⟨b, ab, m⟩ := r.mutA h
  have := at0.2.symm.trans ab.2
  cases this
  exact m
theorem Rel.putM {a : Addr} {o : HO} (r : Rel K ρ σ H) (at0 : At ρ σ i a) (m : MutAt K (upd H a o) a d) : Rel K (putMut ρ i d) σ (upd H a o) := by
  obtain ⟨⟨p, c, e⟩, es⟩ := at0
  have hp : putMut ρ i d = ρ.set i (.ow p d) := by unfold putMut; rw [e]
  obtain ⟨u, hu, ow⟩ := r.ma_own ⟨i, ⟨p, c, e⟩, es⟩
  have f : Fzn H (upd H a o) := fun b w eb st => by
    rw [upd_ne fun z => by subst z; rw [hu] at eb; cases eb; exact ow.nostay st]
    exact eb
  have hl : i < ρ.length := (List.getElem?_eq_some_iff.mp e).1
  rw [hp]
  refine ⟨by rw [List.length_set]; exact r.len, fun j x v e1 e2 => ?_, fun j k b h1 h2 => ?_⟩
  · by_cases c : i = j
    · subst c
      rw [List.getElem?_set_self hl] at e1
      cases e1
      rw [es] at e2
      cases e2
      exact m
    · rw [List.getElem?_set_ne c] at e1
      refine (r.ok j x v e1 e2).mono f fun b e3 ⟨q, dd, e4⟩ => ?_
      subst e3; subst e4
      refine upd_ne fun z => ?_
      subst z
      exact c (r.sep i j b ⟨⟨p, _, e⟩, es⟩ ⟨⟨q, dd, e1⟩, e2⟩)
  · have w : ∀ j b, At (ρ.set i (.ow p d)) σ j b → At ρ σ j b := fun j b ⟨⟨q, dd, e1⟩, e2⟩ => by
      by_cases c : i = j
      · subst c; exact ⟨⟨p, _, e⟩, e2⟩
      · rw [List.getElem?_set_ne c] at e1; exact ⟨⟨q, dd, e1⟩, e2⟩
    exact r.sep j k b (w _ _ h1) (w _ _ h2)
theorem stp_putM {a : Addr} {o : HO} (at0 : At ρ σ i a) : Stp ρ (putMut ρ i d) σ H (upd H a o) := by
  obtain ⟨⟨p, c, e⟩, es⟩ := at0
  have hp : putMut ρ i d = ρ.set i (.ow p d) := by unfold putMut; rw [e]
  have hl : i < ρ.length := (List.getElem?_eq_some_iff.mp e).1
  rw [hp]
  refine ⟨fun j q => ?_, fun b w eb n => ?_⟩
  · by_cases c : i = j
    · subst c
      rw [List.getElem?_set_self hl, e]
      constructor
      · rintro ⟨_, z⟩; cases z; exact ⟨_, rfl⟩
      · rintro ⟨_, z⟩; cases z; exact ⟨_, rfl⟩
    · rw [List.getElem?_set_ne c]
  · rw [upd_ne fun z => by subst z; exact n ⟨i, ⟨p, c, e⟩, es⟩]
    exact eb
end
section
variable {K : PySem.W.Frag} {X : Cx} {a b c : Expr} {f h k : EF} {pos : Pos}
theorem goM2 {g : D → D → R D} {i : Nat} {r : R2} (hr : ∀ x y H Q, rD K g x y H Q → r x y H Q) (σ : L2.St) (H : Hp) (Q : VK) (q : tV K (m2 g i h) σ H Q) : tOp r (tVar i) (tV K h) σ H Q := by
  obtain ⟨ρ, rel, q⟩ := q
  obtain ⟨d, ed, q1⟩ := q.bnd'
  obtain ⟨ad, at0, m⟩ := rel.mutA ed
  refine ⟨.ref ad, at0.2, goV rel q1 fun dy ρ1 y H1 rel1 st1 fy q2 => ?_⟩
  obtain ⟨d2, ed2, q3⟩ := q2.bnd'
  obtain ⟨x, ex, q4⟩ := q3.bnd'
  exact hr _ _ _ _ ⟨d2, dy, x, (rel1.again ed2 at0).tp, fy.tp, ex, fun v H' s fz => q4.new rel1 s v fz⟩
theorem pv_m2c {op : CmpOp} {g : D → D → R D} {y : Str} {py : Pos} (i : Nat) (ho : OpR X (compareOp op) (rD X.K g)) (ha : PE X (.Name y py) (tVar i)) (hb : PV K X b h) (hm : behindInMarks op b = false) : PV K X (.Compare (.Name y py) [op] [b] pos) (m2 g i h) := fun hK => by
  subst hK
  exact (pe_cmpR ho ha (hb rfl) hm).weak fun σ H Q q => goM2 (fun _ _ _ _ z => z) σ H Q q
theorem pv_m2x {g : D → D → R D} {y : Str} {py : Pos} (i : Nat) (ho : IxR X (rD X.K g)) (ha : PE X (.Name y py) (tVar i)) (hb : PV K X b h) (hs : PlainIx b := by exact fun _ _ => rfl) : PV K X (.Subscript (.Name y py) b pos) (m2 g i h) := fun hK => by
  subst hK
  exact (pe_ix ho ha (hb rfl) hs).weak fun σ H Q q => goM2 (fun _ _ _ _ z => z) σ H Q q
theorem pv_isiM {T : String} {tn y : Str} {p p2 py : Pos} (i : Nat) (kt : KitOk T) (hg : Gl X "isinstance") (hm : X.mg "isinstance" = none) (hg2 : Gl X tn) (hm2 : X.mg tn = none) (hv2 : bootBuiltins tn = some (.type T)) (ha : PE X (.Name y py) (tVar i)) (hn : tn ≠ "__name__" := by decide) (hd : (tn == ("__debug__" : Str)) = false := by decide)
    (hs1 : starEach [.Name y py, .Name tn p2] X.env = (false, eval (.Name y py) X.env) :: starEach [.Name tn p2] X.env := by rfl) (hs2 : starEach [.Name tn p2] X.env = (false, eval (.Name tn p2) X.env) :: starEach [] X.env := by rfl) (hpl : (backTo pos (starEach [.Name tn p2] X.env)).any (·.1) = false := by rfl) :
    PV K X (.Call (.Name "isinstance" p) [.Name y py, .Name tn p2] [] pos) (m1 (isiD' T) i) := fun hK => by
  subst hK
  refine (pe_callB (x := "isinstance") (id := "isinstance") call_isi hg hm KC.Bt.isinstance (pa_cons ha (pa_cons (pe_ty hg2 hm2 hv2 hn hd) pa_nil hs2) hs1) (by decide) (by decide) hs1 hpl).weak fun σ H Q => ?_
  rintro ⟨ρ, rel, q⟩
  obtain ⟨d, ed, q1⟩ := q.bnd'
  obtain ⟨x, ex, q2⟩ := q1.bnd'
  obtain ⟨ad, at0, m⟩ := rel.mutA ed
  obtain ⟨c, ex⟩ := chk_inv ex
  cases ex
  exact ⟨.ref ad, at0.2, .ref ad, .ty T, _, _, rfl, (fun z => nomatch z), m.tp.ty c, kt X.K d, q2.now rel _ (fz_bl _)⟩
end
end FL
set_option Elab.async false
set_option linter.all false
set_option maxRecDepth 100000
set_option maxHeartbeats 4000000
namespace FL
open PySem L2 PySem.Spec
open PyProof.Rows hiding St
structure SC where
  H₀ : Hp
  σ₀ : L2.St
  ρ₀ : En
structure RelS (K : PySem.W.Frag) (C : SC) (ρ : En) (σ : L2.St) (H : Hp) : Prop where
  rel : Rel K ρ σ H
  keep : ∀ a o, C.H₀ a = some o → ¬ MA C.ρ₀ C.σ₀ a → H a = some o
  own : ∀ (i : Nat) a d, ρ[i]? = some (.ow false d) → σ[i]? = some (some (.ref a)) → C.H₀ a = none
  pin : ∀ (i : Nat), (∃ d, ρ[i]? = some (.ow true d)) ↔ ∃ d, C.ρ₀[i]? = some (.ow true d)
  fix : ∀ (i : Nat) d, ρ[i]? = some (.ow true d) → σ[i]? = C.σ₀[i]?
  prm : ∀ (i : Nat) p d, C.ρ₀[i]? = some (.ow p d) → p = true
section
variable {K : PySem.W.Frag} {C : SC} {ρ ρ1 : En} {σ σ1 : L2.St} {H H1 : Hp}
theorem RelS.noMA (r : RelS K C ρ σ H) {a : Addr} {o : HO} (e : C.H₀ a = some o) (n : ¬ MA C.ρ₀ C.σ₀ a) : ¬ MA ρ σ a := by
  rintro ⟨i, ⟨p, d, e1⟩, e2⟩
  cases p with
  | false => rw [r.own i a d e1 e2] at e; cases e
  | true =>
    obtain ⟨d0, e0⟩ := (r.pin i).mp ⟨d, e1⟩
    exact n ⟨i, ⟨true, d0, e0⟩, by rw [← r.fix i d e1]; exact e2⟩
theorem RelS.step (r : RelS K C ρ σ H) (rel : Rel K ρ1 σ H1) (st : Stp ρ ρ1 σ H H1) : RelS K C ρ1 σ H1 where
  rel := rel
  keep := fun a o e n => st.kp a o (r.keep a o e n) (r.noMA e n)
  own := fun i a d e1 e2 => by
    obtain ⟨d', e'⟩ := (st.md i false).mpr ⟨d, e1⟩
    exact r.own i a d' e' e2
  pin := fun i => (st.md i true).symm.trans (r.pin i)
  fix := fun i d e => by
    obtain ⟨d', e'⟩ := (st.md i true).mpr ⟨d, e⟩
    exact r.fix i d' e'
  prm := r.prm
def Chg (dom : List Nat) (ρ ρ1 : En) (σ σ1 : L2.St) : Prop := σ1.length = σ.length ∧ ∀ (i : Nat), (ρ1[i]? = ρ[i]? ∧ σ1[i]? = σ[i]?) ∨ (i ∈ dom ∧ (∃ d, ρ1[i]? = some (.val d)) ∧ ∀ e, ρ[i]? ≠ some (.ow true e))
theorem Chg.refl {dom : List Nat} : Chg dom ρ ρ σ σ := ⟨rfl, fun _ => .inl ⟨rfl, rfl⟩⟩
theorem Chg.trans {d1 d2 : List Nat} {ρ2 : En} {σ2 : L2.St} (a : Chg d1 ρ ρ1 σ σ1) (b : Chg d2 ρ1 ρ2 σ1 σ2) : Chg (d1 ++ d2) ρ ρ2 σ σ2 := ⟨b.1.trans a.1, fun i => by
  rcases b.2 i with ⟨b1, b2⟩ | ⟨bm, b1, b2⟩
  · rcases a.2 i with ⟨a1, a2⟩ | ⟨am, a1, a2⟩
    · exact .inl ⟨b1.trans a1, b2.trans a2⟩
    · exact .inr ⟨List.mem_append_left _ am, by rw [b1]; exact a1, a2⟩
  · rcases a.2 i with ⟨a1, a2⟩ | ⟨am, a1, a2⟩
    · exact .inr ⟨List.mem_append_right _ bm, b1, fun e z => b2 e (by rw [a1]; exact z)⟩
    · exact .inr ⟨List.mem_append_left _ am, b1, a2⟩⟩
theorem RelS.chg {dom : List Nat} (r : RelS K C ρ σ H) (rel : Rel K ρ1 σ1 H) (c : Chg dom ρ ρ1 σ σ1) : RelS K C ρ1 σ1 H where
  rel := rel
  keep := r.keep
  own := fun i a d e1 e2 => by
    rcases c.2 i with ⟨c1, c2⟩ | ⟨_, ⟨d', c1⟩, c2⟩
    · exact r.own i a d (by rw [← c1]; exact e1) (by rw [← c2]; exact e2)
    · rw [c1] at e1; cases e1
  pin := fun i => by
    rcases c.2 i with ⟨c1, c2⟩ | ⟨_, ⟨d', c1⟩, c2⟩
    · rw [c1]; exact r.pin i
    · rw [c1, ← r.pin i]
      constructor
      · rintro ⟨_, z⟩; cases z
      · rintro ⟨d, z⟩; exact absurd z (c2 d)
  fix := fun i d e => by
    rcases c.2 i with ⟨c1, c2⟩ | ⟨_, ⟨d', c1⟩, c2⟩
    · rw [c2]; exact r.fix i d (by rw [← c1]; exact e)
    · rw [c1] at e; cases e
  prm := r.prm
theorem RelS.fresh (r : RelS K C ρ σ H) {a : Addr} (ha : H a = none) : C.H₀ a = none := by
  cases e0 : C.H₀ a with
  | none => rfl
  | some o =>
    by_cases k : MA C.ρ₀ C.σ₀ a
    · obtain ⟨i, ⟨p, d0, e1⟩, e2⟩ := k
      have := r.prm i p d0 e1
      subst this
      obtain ⟨d2, e3⟩ := (r.pin i).mpr ⟨d0, e1⟩
      obtain ⟨o', e', _⟩ := r.rel.ma_own ⟨i, ⟨true, d2, e3⟩, by rw [r.fix i d2 e3]; exact e2⟩
      rw [ha] at e'; cases e'
    · rw [r.keep a o e0 k] at ha; cases ha
def GoodS (K : PySem.W.Frag) (C : SC) (H : Hp) (r : R (Fl × En)) (Dn : Ends) : Prop := match r with
  | .ok x => match x.1 with
    | .nx => ∀ σ' H', RelS K C x.2 σ' H' → Fzn H H' → Dn.nx σ' H'
    | .bk => ∀ σ' H', RelS K C x.2 σ' H' → Fzn H H' → Dn.bk σ' H'
    | .ct => ∀ σ' H', RelS K C x.2 σ' H' → Fzn H H' → Dn.ct σ' H'
    | .rt d => ∀ v σ' H', RelS K C x.2 σ' H' → Fz K H' d v → Dn.rt v H'
    | .rf d => ∀ a σ' H', RelS K C x.2 σ' H' → C.H₀ a = none → MutAt K H' a d → Dn.rt (.ref a) H'
  | _ => False
theorem GoodS.step {r : R (Fl × En)} {Dn : Ends} (f : Fzn H H1) (g : GoodS K C H r Dn) : GoodS K C H1 r Dn := by
  cases r with
  | ok x =>
    obtain ⟨fl, ρ⟩ := x
    cases fl with
    | nx => exact fun σ' H' r z => g σ' H' r (f.trans z)
    | bk => exact fun σ' H' r z => g σ' H' r (f.trans z)
    | ct => exact fun σ' H' r z => g σ' H' r (f.trans z)
    | rt d => exact g
    | rf d => exact g
  | _ => exact g
theorem GoodS.bnd {β : Type} {r : R β} {k : β → R (Fl × En)} {Dn : Ends} (g : GoodS K C H (r.bind k) Dn) : ∃ x, r = .ok x ∧ GoodS K C H (k x) Dn := by
  cases r with
  | ok x => exact ⟨x, rfl, g⟩
  | _ => exact g.elim
def tS (K : PySem.W.Frag) (C : SC) (f : SF) : TS := fun Dn σ H => ∃ ρ, RelS K C ρ σ H ∧ GoodS K C H (f ρ) Dn
theorem goVS {f : EF} {k : D × En → R (Fl × En)} {S : VK} {Dn : Ends} (rel : RelS K C ρ σ H) (g : GoodS K C H ((f ρ).bind k) Dn)
    (h : ∀ d ρ1 v H1, RelS K C ρ1 σ H1 → Stp ρ ρ1 σ H H1 → Fz K H1 d v → GoodS K C H1 (k (d, ρ1)) Dn → S v H1) : tV K f σ H S := by
  obtain ⟨x, e, g1⟩ := g.bnd
  refine ⟨ρ, rel.rel, ?_⟩
  rw [e]
  exact fun H' r s v fz => h x.1 x.2 v H' (rel.step r s) s fz (g1.step (s.fzn rel.rel))
theorem goTS {f : TF} {k : Bool × En → R (Fl × En)} {S : Bool → Hp → Prop} {Dn : Ends} (rel : RelS K C ρ σ H) (g : GoodS K C H ((f ρ).bind k) Dn)
    (h : ∀ b ρ1 H1, RelS K C ρ1 σ H1 → Fzn H H1 → GoodS K C H1 (k (b, ρ1)) Dn → S b H1) : tT K f σ H S := by
  obtain ⟨x, e, g1⟩ := g.bnd
  refine ⟨ρ, rel.rel, ?_⟩
  rw [e]
  exact fun H' r s => h x.1 x.2 H' (rel.step r s) (s.fzn rel.rel) (g1.step (s.fzn rel.rel))
theorem goNS {f : EF} {k : D × En → R (Fl × En)} {S : VK} {Dn : Ends} (rel : RelS K C ρ σ H) (g : GoodS K C H ((f ρ).bind k) Dn)
    (h : ∀ d ρ1 a H1, RelS K C ρ1 σ H1 → Fzn H H1 → H a = none → ¬ MA ρ1 σ a → MutAt K H1 a d → GoodS K C H1 (k (d, ρ1)) Dn → S (.ref a) H1) : tN K f σ H S := by
  obtain ⟨x, e, g1⟩ := g.bnd
  refine ⟨ρ, rel.rel, ?_⟩
  rw [e]
  refine fun H' r s a ha m => h x.1 x.2 a H' (rel.step r s) (s.fzn rel.rel) ha (fun z => ?_) m (g1.step (s.fzn rel.rel))
  obtain ⟨o', e', _⟩ := rel.rel.ma_own (s.ma.mpr z)
  rw [ha] at e'; cases e'
end
def PSV (K : PySem.W.Frag) (X : Cx) (st : Stmt) (f : SF) : Prop := X.K = K → ∀ C, PS X st (tS K C f)
def PSVs (K : PySem.W.Frag) (X : Cx) (st : List Stmt) (f : SF) : Prop := X.K = K → ∀ C, PSs X st (tS K C f)
theorem _root_.L2.PS.weak {X : Cx} {e : Stmt} {t t' : TS} (h : PS X e t) (w : ∀ Dn σ H, t' Dn σ H → t Dn σ H) : PS X e t' := fun pins s σ H Dn I q => h pins s σ H Dn I (w Dn σ H q)
theorem _root_.L2.PSs.weak {X : Cx} {e : List Stmt} {t t' : TS} (h : PSs X e t) (w : ∀ Dn σ H, t' Dn σ H → t Dn σ H) : PSs X e t' := fun pins s σ H Dn I q => h pins s σ H Dn I (w Dn σ H q)
def tG (K : PySem.W.Frag) (dom : List Nat) (g : GF) : TG := fun v σ H Q => ∃ ρ d ρ1, Rel K ρ σ H ∧ Fz K H d v ∧ g d ρ = .ok ρ1 ∧ ∀ σ1, Rel K ρ1 σ1 H → Chg dom ρ ρ1 σ σ1 → Q σ1 H
def tGs (K : PySem.W.Frag) (dom : List Nat) (gs : List GF) : TGs := fun vs σ H Q => ∃ ρ ds ρ1, Rel K ρ σ H ∧ FzAll K H ds vs ∧ gAll gs ds ρ = .ok ρ1 ∧ ∀ σ1, Rel K ρ1 σ1 H → Chg dom ρ ρ1 σ σ1 → Q σ1 H
def PVG (K : PySem.W.Frag) (X : Cx) (dom : List Nat) (e : Expr) (g : GF) : Prop := X.K = K → PG X e (tG K dom g)
def PVGs (K : PySem.W.Frag) (X : Cx) (dom : List Nat) (e : List Expr) (g : List GF) : Prop := X.K = K → PGs X e (tGs K dom g)
theorem _root_.L2.PG.weak {X : Cx} {e : Expr} {t t' : TG} (h : PG X e t) (w : ∀ v σ H Q, t' v σ H Q → t v σ H Q) : PG X e t' := fun pins s σ H v u Q I r q => h pins s σ H v u Q I r (w v σ H Q q)
theorem _root_.L2.PGs.weak {X : Cx} {e : List Expr} {t t' : TGs} (h : PGs X e t) (w : ∀ v σ H Q, t' v σ H Q → t v σ H Q) : PGs X e t' := fun pins s σ H v u Q I r q => h pins s σ H v u Q I r (w v σ H Q q)
theorem Rel.set {K : PySem.W.Frag} {ρ : En} {σ : L2.St} {H : Hp} {i : Nat} {x : Sl} {v : Option V} (r : Rel K ρ σ H) (o : SlOk K H x v) (s : ∀ a p d, x = .ow p d → v = some (.ref a) → ¬ MA ρ σ a) : Rel K (ρ.set i x) (σ.set i v) H := by
  refine ⟨by rw [List.length_set, List.length_set]; exact r.len, fun j y w e1 e2 => ?_, fun j k b h1 h2 => ?_⟩
  · by_cases c : i = j
    · subst c
      by_cases hl : i < ρ.length
      · rw [List.getElem?_set_self hl] at e1
        rw [List.getElem?_set_self (by rw [← r.len]; exact hl)] at e2
        cases e1; cases e2
        exact o
      · rw [List.getElem?_eq_none (by rw [List.length_set]; omega)] at e1; cases e1
    · rw [List.getElem?_set_ne c] at e1 e2
      exact r.ok j y w e1 e2
  · have w : ∀ j b, At (ρ.set i x) (σ.set i v) j b → (j = i ∧ (∃ p d, x = .ow p d) ∧ v = some (.ref b)) ∨ (j ≠ i ∧ At ρ σ j b) := fun j b ⟨⟨q, dd, e1⟩, e2⟩ => by
      by_cases c : i = j
      · subst c
        have hl : i < ρ.length := by
          have := (List.getElem?_eq_some_iff.mp e1).1
          rwa [List.length_set] at this
        rw [List.getElem?_set_self hl] at e1
        rw [List.getElem?_set_self (by rw [← r.len]; exact hl)] at e2
        cases e1; cases e2
        exact .inl ⟨rfl, ⟨q, dd, rfl⟩, rfl⟩
      · rw [List.getElem?_set_ne c] at e1 e2
        exact .inr ⟨fun z => c z.symm, ⟨q, dd, e1⟩, e2⟩
    rcases w j b h1 with ⟨rfl, ⟨p, d, e⟩, e'⟩ | ⟨n1, a1⟩
    · rcases w k b h2 with ⟨rfl, _, _⟩ | ⟨n2, a2⟩
      · rfl
      · exact absurd ⟨k, a2⟩ (s b p d e e')
    · rcases w k b h2 with ⟨rfl, ⟨p, d, e⟩, e'⟩ | ⟨n2, a2⟩
      · exact absurd ⟨j, a1⟩ (s b p d e e')
      · exact r.sep j k b a1 a2
section
variable {K : PySem.W.Frag} {X : Cx} {pos : Pos}
theorem gN_inv {i : Nat} {d : D} {ρ ρ1 : En} (h : gN i d ρ = .ok ρ1) : ρ1 = ρ.set i (.val d) ∧ (∀ e, ρ[i]? ≠ some (.ow true e)) ∧ i < ρ.length := by
  unfold gN at h
  cases e : ρ[i]? with
  | none => rw [e] at h; cases h
  | some x =>
    rw [e] at h
    have hl : i < ρ.length := (List.getElem?_eq_some_iff.mp e).1
    cases x with
    | no => cases h; exact ⟨rfl, (fun _ z => nomatch z), hl⟩
    | val c => cases h; exact ⟨rfl, (fun _ z => nomatch z), hl⟩
    | ow p c =>
      cases p with
      | true => cases h
      | false => cases h; exact ⟨rfl, (fun _ z => nomatch z), hl⟩
theorem chg_set {ρ : En} {σ : L2.St} {i : Nat} {d : D} {v : Option V} (n : ∀ e, ρ[i]? ≠ some (.ow true e)) (hl : i < ρ.length) : Chg [i] ρ (ρ.set i (.val d)) σ (σ.set i v) := ⟨List.length_set, fun j => by
  by_cases c : i = j
  · subst c
    exact .inr ⟨List.mem_singleton.mpr rfl, ⟨d, List.getElem?_set_self hl⟩, n⟩
  · exact .inl ⟨List.getElem?_set_ne c, List.getElem?_set_ne c⟩⟩
theorem pvg_name {i : Nat} {x : Str} (hN : X.N.Nodup) (hi : X.N[i]? = some x) (hx : Loc X.env.scope x) (hf : X.fn x = true ∨ X.env.scope.names.lookup x = some .local := by first | exact .inl rfl | exact .inr rfl | assumption) : PVG K X [i] (.Name x pos) (gN i) := fun _ => (pg_name hN hi hx hf).weak fun v σ H Q => by
  rintro ⟨ρ, d, ρ1, rel, fz, e, q⟩
  obtain ⟨rfl, n, hl⟩ := gN_inv e
  exact q _ (rel.set fz fun _ _ _ z => nomatch z) (chg_set n hl)
theorem pvgs_nil : PVGs K X [] [] [] := fun _ => pgs_nil.weak fun vs σ H Q => by
  rintro ⟨ρ, ds, ρ1, rel, fz, e, q⟩
  cases ds with
  | nil =>
    cases e
    simp only [FzAll] at fz
    exact ⟨fz, q _ rel .refl⟩
  | cons _ _ => cases e
theorem bind_inv {α β : Type} {r : R α} {k : α → R β} {b : β} (h : r.bind k = .ok b) : ∃ a, r = .ok a ∧ k a = .ok b := by
  cases r with
  | ok a => exact ⟨a, rfl, h⟩
  | _ => cases h
theorem pvgs_cons {e : Expr} {es : List Expr} {g : GF} {gs : List GF} {d1 d2 : List Nat} (h1 : PVG K X d1 e g) (h2 : PVGs K X d2 es gs)
    (hs : (assignEach (e :: es) X.env).map (·.2) = assign e X.env :: (assignEach es X.env).map (·.2) := by rfl) : PVGs K X (d1 ++ d2) (e :: es) (g :: gs) := fun hK => (pgs_cons (h1 hK) (h2 hK) hs).weak fun vs σ H Q => by
  rintro ⟨ρ, ds, ρ1, rel, fz, e, q⟩
  cases ds with
  | nil => cases e
  | cons d ds =>
    simp only [FzAll] at fz
    obtain ⟨v, r, rfl, f1, f2⟩ := fz
    obtain ⟨ρ2, e2, e3⟩ := bind_inv (show (g d ρ).bind (fun ρ1 => gAll gs ds ρ1) = .ok ρ1 from e)
    exact ⟨v, r, rfl, ρ, d, ρ2, rel, f1, e2, fun σ1 rel1 c1 => ⟨ρ2, ds, ρ1, rel1, f2, e3, fun σ2 rel2 c2 => q σ2 rel2 (c1.trans c2)⟩⟩
theorem gAll_len : ∀ {gs : List GF} {ds : List D} {ρ ρ1 : En}, gAll gs ds ρ = .ok ρ1 → ds.length = gs.length
  | [], [], _, _, _ => rfl
  | [], _ :: _, _, _, e => by cases e
  | _ :: _, [], _, _, e => by cases e
  | g :: gs, d :: ds, ρ, ρ1, e => by
    obtain ⟨ρ2, e2, e3⟩ := bind_inv (show (g d ρ).bind (fun ρ1 => gAll gs ds ρ1) = .ok ρ1 from e)
    simp [gAll_len e3]
theorem pvg_tup {es : List Expr} {k : Nat} {gs : List GF} {dom : List Nat} (hc : X.calm = true) (h : PVGs K X dom es gs)
    (hn : (assignEach es X.env).length = gs.length := by rfl) (hst : (assignEach es X.env).findIdx? (·.1) = none := by rfl) : PVG K X dom (.Tuple es k pos) (gT gs) := fun hK => by
  subst hK
  refine (pg_tup hc (h rfl) hn hst).weak fun v σ H Q => ?_
  rintro ⟨ρ, d, ρ1, rel, fz, e, q⟩
  cases d with
  | tuple ds =>
    simp only [Fz] at fz
    obtain ⟨a, vs, rfl, s, f⟩ := fz
    replace e : gAll gs ds ρ = .ok ρ1 := e
    exact ⟨a, vs, rfl, s, by rw [f.len, gAll_len e], ρ, ds, ρ1, rel, f, e, q⟩
  | _ => cases e
variable {st : Stmt} {rest : List Stmt} {s t : SF} {e : Expr} {f : EF}
theorem pvs_nil : PSVs K X [] sNx := fun _ C => pss_nil.weak fun Dn σ H => by
  rintro ⟨ρ, rel, g⟩
  exact g σ H rel (Fzn.refl H)
theorem pvs_cons (h1 : PSV K X st s) (h2 : PSVs K X rest t) : PSVs K X (st :: rest) (sSeq s t) := fun hK C => (pss_cons (h1 hK C) (h2 hK C)).weak fun Dn σ H => by
  rintro ⟨ρ, rel, g⟩
  refine ⟨ρ, rel, ?_⟩
  obtain ⟨x, ex, g1⟩ := g.bnd
  rw [ex]
  obtain ⟨fl, ρ1⟩ := x
  cases fl with
  | nx => exact fun σ' H' r z => ⟨ρ1, r, g1.step z⟩
  | bk => exact g1
  | ct => exact g1
  | rt d => exact g1
  | rf d => exact g1
theorem pvs_one (h1 : PSV K X st s) : PSVs K X [st] s := fun hK C => pss_one (h1 hK C)
theorem pvs_never : PSV K X st sBad := fun _ C => ps_never.weak fun Dn σ H => by
  rintro ⟨ρ, rel, g⟩
  exact g.elim
theorem pvs_expr (he : PV K X e f) (hs : swapsWith e none pos.line X.env = pure false := by rfl) : PSV K X (.Expr e pos) (sE f) := fun hK C => (ps_expr (he hK) hs).weak fun Dn σ H => by
  rintro ⟨ρ, rel, g⟩
  exact goVS rel g fun d ρ1 v H1 rel1 st1 fz g1 => g1 σ H1 rel1 (Fzn.refl H1)
theorem pvs_ret (he : PV K X e f) : PSV K X (.Return (some e) pos) (sRet f) := fun hK C => (ps_ret (he hK)).weak fun Dn σ H => by
  rintro ⟨ρ, rel, g⟩
  exact goVS rel g fun d ρ1 v H1 rel1 st1 fz g1 => g1 v σ H1 rel1 fz
theorem pvs_retF (he : PVN K X e f) : PSV K X (.Return (some e) pos) (sRetF f) := fun hK C => (ps_ret (he hK)).weak fun Dn σ H => by
  rintro ⟨ρ, rel, g⟩
  exact goNS rel g fun d ρ1 a H1 rel1 fz ha n m g1 => g1 a σ H1 rel1 (rel.fresh ha) m
theorem pvs_retM {y : Str} {py : Pos} (i : Nat) (ha : PE X (.Name y py) (tVar i)) : PSV K X (.Return (some (.Name y py)) pos) (sRetM i) := fun hK C => (ps_ret ha).weak fun Dn σ H => by
  rintro ⟨ρ, rel, g⟩
  unfold sRetM at g
  cases e : ρ[i]? with
  | none => rw [e] at g; exact g.elim
  | some x =>
    rw [e] at g
    cases x with
    | ow p d =>
      cases p with
      | false =>
        obtain ⟨a, at0, m⟩ := rel.rel.mutA (d := d) (show mutAt ρ i = .ok d by unfold mutAt; rw [e])
        exact ⟨.ref a, at0.2, g a σ H rel (rel.own i a d e at0.2) m⟩
      | true => exact g.elim
    | _ => exact g.elim
theorem pvs_if {c : Expr} {a b : List Stmt} {tc : TF} (hc : PVT K X c tc) (ha : PSVs K X a s) (hb : PSVs K X b t) : PSV K X (.If c a b pos) (sIf tc s t) := fun hK C => (ps_if (hc hK) (ha hK C) (hb hK C)).weak fun Dn σ H => by
  rintro ⟨ρ, rel, g⟩
  refine goTS rel g fun cb ρ1 H1 rel1 fz g1 => ?_
  cases cb with
  | true => exact iteT ⟨ρ1, rel1, g1⟩
  | false => exact iteF ⟨ρ1, rel1, g1⟩
theorem pvs_set {i : Nat} {x : Str} {pos' : Pos} (hN : X.N.Nodup) (hi : X.N[i]? = some x) (hx : Loc X.env.scope x) (he : PV K X e f) (hs : swapsWith e (some (.Name x pos')) pos.line X.env = pure false := by rfl) (hf : X.fn x = true ∨ X.env.scope.names.lookup x = some .local := by first | exact .inl rfl | exact .inr rfl | assumption) :
    PSV K X (.Assign [.Name x pos'] e pos) (sSet (gN i) f) := fun hK C => (ps_set hN hi hx (he hK) hs hf).weak fun Dn σ H => by
  rintro ⟨ρ, rel, q⟩
  refine goVS rel q fun d ρ1 v H1 rel1 st1 fz q1 => ?_
  obtain ⟨ρ2, e2, q2⟩ := q1.bnd
  obtain ⟨rfl, n, hl⟩ := gN_inv e2
  exact q2 _ H1 (rel1.chg (rel1.rel.set fz fun _ _ _ z => nomatch z) (chg_set n hl)) (Fzn.refl H1)
theorem goOwn {i : Nat} {C : SC} (Dn : Ends) (σ : L2.St) (H : Hp) (q0 : tS K C (sOwn i f) Dn σ H) : tAsg (tN K f) (gName i) Dn σ H := by
  revert q0
  rintro ⟨ρ, rel, q⟩
  refine goNS rel q fun d ρ1 a H1 rel1 fz ha n m q1 => ?_
  have hf := rel.fresh ha
  replace q1 : GoodS K C H1 (match ρ1[i]? with | some (.ow true _) => .bad | some _ => .ok (.nx, ρ1.set i (.ow false d)) | none => .bad) Dn := q1
  have fin : (∀ e, ρ1[i]? ≠ some (.ow true e)) → i < ρ1.length → RelS K C (ρ1.set i (.ow false d)) (σ.set i (some (.ref a))) H1 := fun np hl => by
    have hls : i < σ.length := by rw [← rel1.rel.len]; exact hl
    refine ⟨rel1.rel.set (show SlOk K H1 (.ow false d) (some (.ref a)) from m) fun b p c e1 e2 => by cases e2; exact n, rel1.keep, fun j b c e1 e2 => ?_, fun j => ?_, fun j c e1 => ?_, rel1.prm⟩
    · by_cases k : i = j
      · subst k
        rw [List.getElem?_set_self hls] at e2
        cases e2
        exact hf
      · rw [List.getElem?_set_ne k] at e1 e2
        exact rel1.own j b c e1 e2
    · by_cases k : i = j
      · subst k
        rw [List.getElem?_set_self hl, ← rel1.pin i]
        constructor
        · rintro ⟨_, z⟩; cases z
        · rintro ⟨c, z⟩; exact absurd z (np c)
      · rw [List.getElem?_set_ne k]; exact rel1.pin j
    · by_cases k : i = j
      · subst k
        rw [List.getElem?_set_self hl] at e1; cases e1
      · rw [List.getElem?_set_ne k] at e1 ⊢
        exact rel1.fix j c e1
  cases e1 : ρ1[i]? with
  | none => rw [e1] at q1; exact q1.elim
  | some y =>
    have hl : i < ρ1.length := (List.getElem?_eq_some_iff.mp e1).1
    rw [e1] at q1
    cases y with
    | no => exact q1 _ H1 (fin (fun e z => by rw [e1] at z; cases z) hl) (Fzn.refl H1)
    | val c => exact q1 _ H1 (fin (fun e z => by rw [e1] at z; cases z) hl) (Fzn.refl H1)
    | ow p c =>
      cases p with
      | true => exact q1.elim
      | false => exact q1 _ H1 (fin (fun e z => by rw [e1] at z; cases z) hl) (Fzn.refl H1)
theorem pvs_own {i : Nat} {x : Str} {pos' : Pos} (hN : X.N.Nodup) (hi : X.N[i]? = some x) (hx : Loc X.env.scope x) (he : PVN K X e f) (hs : swapsWith e (some (.Name x pos')) pos.line X.env = pure false := by rfl) (hf : X.fn x = true ∨ X.env.scope.names.lookup x = some .local := by first | exact .inl rfl | exact .inr rfl | assumption) :
    PSV K X (.Assign [.Name x pos'] e pos) (sOwn i f) := fun hK C => (ps_set hN hi hx (he hK) hs hf).weak fun Dn σ H q => goOwn Dn σ H q
theorem pvs_frz (i : Nat) (h : PSV K X st s) : PSV K X st (sFrz i s) := fun hK C => by
  have h1 : PS X st (fun Dn σ H => ∃ a u, H a = some u ∧ Own u ∧ ∀ o, tS K C s Dn σ (upd H a (.frz o u))) := fun pins sh σ H Dn I ⟨a, u, e, ow, q⟩ => by
    obtain ⟨o, ho⟩ := (I.hok a u e).some
    exact h hK C pins sh σ _ Dn (frzI I e ow ho) (q o)
  refine h1.weak fun Dn σ H => ?_
  rintro ⟨ρ, rel, g⟩
  unfold sFrz at g
  cases e : ρ[i]? with
  | none => rw [e] at g; exact g.elim
  | some x =>
    rw [e] at g
    cases x with
    | ow p d =>
      cases p with
      | true => exact g.elim
      | false =>
        obtain ⟨a, at0, m⟩ := rel.rel.mutA (d := d) (show mutAt ρ i = .ok d by unfold mutAt; rw [e])
        obtain ⟨u, e1, ow⟩ := m.own
        refine ⟨a, u, e1, ow, fun o => ⟨ρ.set i (.val d), ?_, g.step ?_⟩⟩
        · have hl : i < ρ.length := (List.getElem?_eq_some_iff.mp e).1
          have hfr := rel.own i a d e at0.2
          have fz : Fzn H (upd H a (.frz o u)) := fun b w e2 sy => by
            rw [upd_ne fun z => by subst z; rw [e1] at e2; cases e2; exact ow.nostay sy]
            exact e2
          have fd : Fz K (upd H a (.frz o u)) d (.ref a) := by
            cases d with
            | list ds =>
              obtain ⟨vs, h1, h2⟩ := m
              rw [e1] at h1
              cases h1
              simp only [Fz]
              exact ⟨a, vs, rfl, .inl ⟨o, upd_same⟩, h2.mono fz⟩
            | dict kvs =>
              simp only [Fz]
              rcases m with ⟨kk, h1, h2⟩ | ⟨kk, h1, h2⟩
              · rw [e1] at h1
                cases h1
                exact ⟨a, o, rfl, .inl ⟨kk, upd_same, h2.mono fz⟩⟩
              · rw [e1] at h1
                cases h1
                exact ⟨a, o, rfl, .inr ⟨kk, upd_same, h2.mono fz⟩⟩
            | _ => exact m.elim
          have atw : ∀ j b, At (ρ.set i (.val d)) σ j b → j ≠ i ∧ At ρ σ j b := fun j b ⟨⟨q, dd, e1⟩, e2⟩ => by
            by_cases c : i = j
            · subst c
              rw [List.getElem?_set_self hl] at e1; cases e1
            · rw [List.getElem?_set_ne c] at e1
              exact ⟨fun z => c z.symm, ⟨q, dd, e1⟩, e2⟩
          refine ⟨⟨by rw [List.length_set]; exact rel.rel.len, fun j y w e2 e3 => ?_, fun j k b h1 h2 => rel.rel.sep j k b (atw j b h1).2 (atw k b h2).2⟩, fun b w e2 n => ?_, fun j b c e2 e3 => ?_, fun j => ?_, fun j c e2 => ?_, rel.prm⟩
          · by_cases c : i = j
            · subst c
              rw [List.getElem?_set_self hl] at e2
              cases e2
              rw [at0.2] at e3
              cases e3
              exact fd
            · rw [List.getElem?_set_ne c] at e2
              refine (rel.rel.ok j y w e2 e3).mono fz fun b e4 ⟨p, dd, e5⟩ => ?_
              subst e4; subst e5
              refine upd_ne fun z => ?_
              subst z
              exact c (rel.rel.sep i j b at0 ⟨⟨p, dd, e2⟩, e3⟩)
          · rw [upd_ne fun z => by subst z; rw [hfr] at e2; cases e2]
            exact rel.keep b w e2 n
          · by_cases c : i = j
            · subst c
              rw [List.getElem?_set_self hl] at e2; cases e2
            · rw [List.getElem?_set_ne c] at e2
              exact rel.own j b _ e2 e3
          · by_cases c : i = j
            · subst c
              rw [List.getElem?_set_self hl, ← rel.pin i, e]
              constructor
              · rintro ⟨_, z⟩; cases z
              · rintro ⟨_, z⟩; cases z
            · rw [List.getElem?_set_ne c]; exact rel.pin j
          · by_cases k : i = j
            · subst k
              rw [List.getElem?_set_self hl] at e2; cases e2
            · rw [List.getElem?_set_ne k] at e2
              exact rel.fix j c e2
        · exact fun b w e2 sy => by
            rw [upd_ne fun z => by subst z; rw [e1] at e2; cases e2; exact ow.nostay sy]
            exact e2
    | _ => exact g.elim
theorem lstAt_inv {ρ : En} {i : Nat} {c : List D} (h : lstAt ρ i = .ok c) : ∃ p, ρ[i]? = some (.ow p (.list c)) := by
  unfold lstAt at h
  cases e : ρ[i]? with
  | none => rw [e] at h; cases h
  | some x =>
    rw [e] at h
    cases x with
    | ow p d =>
      cases d with
      | list a => cases h; exact ⟨p, rfl⟩
      | _ => cases h
    | _ => cases h
theorem Rel.lstA {ρ : En} {σ : L2.St} {H : Hp} {i : Nat} {c : List D} (r : Rel K ρ σ H) (h : lstAt ρ i = .ok c) : ∃ a vs, At ρ σ i a ∧ H a = some (.lst vs) ∧ FzAll K H c vs := by
  obtain ⟨p, e⟩ := lstAt_inv h
  obtain ⟨a, at0, m⟩ := r.mutA (d := .list c) (show mutAt ρ i = .ok (.list c) by unfold mutAt; rw [e])
  obtain ⟨vs, h1, h2⟩ := m
  exact ⟨a, vs, at0, h1, h2⟩
theorem Rel.lst2 {ρ ρ1 : En} {σ : L2.St} {H1 : Hp} {i : Nat} {c : List D} {a : Addr} (r : Rel K ρ1 σ H1) (h : lstAt ρ1 i = .ok c) (at0 : At ρ σ i a) : ∃ vs, At ρ1 σ i a ∧ H1 a = some (.lst vs) ∧ FzAll K H1 c vs := by
  obtain ⟨b, vs, ab, h1, h2⟩ := r.lstA h
  have := at0.2.symm.trans ab.2
  cases this
  exact ⟨vs, ab, h1, h2⟩
theorem goUpd {C : SC} {ρ : En} {σ : L2.St} {H : Hp} {i : Nat} {a : Addr} {o : HO} {d : D} {Dn : Ends} (rel : RelS K C ρ σ H) (at0 : At ρ σ i a) (m : MutAt K (upd H a o) a d) (g : GoodS K C H (.ok (.nx, putMut ρ i d)) Dn) : Dn.nx σ (upd H a o) := by
  have st : Stp ρ (putMut ρ i d) σ H (upd H a o) := stp_putM at0
  exact g σ _ (rel.step (rel.rel.putM at0 m) st) (st.fzn rel.rel)
theorem fzn_at {C : SC} {ρ : En} {σ : L2.St} {H : Hp} {i : Nat} {a : Addr} {o : HO} (rel : RelS K C ρ σ H) (at0 : At ρ σ i a) : Fzn H (upd H a o) := (stp_putM (d := .none) at0).fzn rel.rel
theorem pvs_append {y name : Str} {py apos cpos : Pos} (i : Nat) (hnm : name = "append") (ha : PE X (.Name y py) (tVar i)) (he : PV K X e f)
    (hbase : attributeBase (.Name y py) name X.env (eval (.Name y py) X.env) = eval (.Name y py) X.env := by rfl)
    (hfew : ((backTo cpos (starEach [e] X.env)).all (fun x => !x.1) && (backToKw cpos (keywordEach [] X.env)).all (fun x => x.1.isSome) && decide ([e].length + ([] : List Keyword).length + (if ([] : List Keyword).isEmpty then 0 else 1) < 30)) = true := by rfl)
    (hline : (apos.endLine == cpos.line) = true := by rfl) (hst : starEach [e] X.env = (false, eval e X.env) :: starEach [] X.env := by rfl) (hplain : (backTo cpos (starEach [] X.env)).any (·.1) = false := by rfl)
    (hs : swapsWith (.Call (.Attribute (.Name y py) name apos) [e] [] cpos) none pos.line X.env = pure false := by rfl) : PSV K X (.Expr (.Call (.Attribute (.Name y py) name apos) [e] [] cpos) pos) (updM i appD f) := fun hK C => by
  subst hK
  subst hnm
  refine (ps_expr (pe_bm PySem.F.plainAttrs_list PySem.F.slot_list_append PySem.F.type_list_append mt_append ha (pa_cons (he rfl) pa_nil hst) hbase hfew hline hst hplain) hs).weak fun Dn σ H => ?_
  rintro ⟨ρ, rel, g⟩
  obtain ⟨d, ed, g1⟩ := g.bnd
  obtain ⟨a, vs0, at0, h0, _⟩ := rel.rel.lstA ed
  refine ⟨.ref a, at0.2, .inl ⟨rfl, vs0, SqL.of h0⟩, goVS rel g1 fun dx ρ1 v H1 rel1 st1 fz g2 => ?_⟩
  obtain ⟨c, ec, g3⟩ := g2.bnd
  obtain ⟨c', ec', g4⟩ := g3.bnd
  obtain ⟨vs, at1, h1, h2⟩ := rel1.rel.lst2 ec at0
  obtain ⟨cc, ec'⟩ := chk_inv ec'
  cases ec'
  have hz : vs.length < sizeLine := by
    have := le_of cc
    have l0 := lim_size
    rw [h2.len]; omega
  refine ⟨a, vs, v, rfl, rfl, h1, hz, goUpd (d := .list (c ++ [dx])) rel1 at1 ⟨_, upd_same, (h2.app ?_).mono (fzn_at rel1 at1)⟩ g4⟩
  simp only [FzAll]
  exact ⟨v, [], rfl, fz, rfl⟩
theorem pvs_rev {y name : Str} {py apos cpos : Pos} (i : Nat) (hnm : name = "reverse") (ha : PE X (.Name y py) (tVar i))
    (hbase : attributeBase (.Name y py) name X.env (eval (.Name y py) X.env) = eval (.Name y py) X.env := by rfl) (hline : (apos.endLine == cpos.line) = true := by rfl)
    (hs : swapsWith (.Call (.Attribute (.Name y py) name apos) [] [] cpos) none pos.line X.env = pure false := by rfl) : PSV K X (.Expr (.Call (.Attribute (.Name y py) name apos) [] [] cpos) pos) (updM0 i revD) := fun hK C => by
  subst hK
  subst hnm
  refine (ps_expr (pe_bm0 PySem.F.plainAttrs_list PySem.F.slot_list_reverse PySem.F.type_list_reverse mt_reverse ha hbase hline) hs).weak fun Dn σ H => ?_
  rintro ⟨ρ, rel, g⟩
  obtain ⟨d, ed, g1⟩ := g.bnd
  obtain ⟨a, vs0, at0, h0, f0⟩ := rel.rel.lstA ed
  exact ⟨.ref a, at0.2, .inl ⟨rfl, vs0, SqL.of h0⟩, a, vs0, rfl, rfl, h0, goUpd (d := .list d.reverse) rel at0 ⟨_, upd_same, f0.rev.mono (fzn_at rel at0)⟩ g1⟩
theorem pvs_setM {y : Str} {py ps' : Pos} {ke : Expr} {k : EF} (i : Nat) (ha : PE X (.Name y py) (tVar i)) (he : PV K X e f) (hk : PV K X ke k)
    (has : ∀ v, assign (.Subscript (.Name y py) ke ps') X.env v = (do
      let ov ← holding [v] (eval (.Name y py) X.env)
      let iv ← holding [v, ov] (eval ke X.env)
      standAt ps'
      holding [v, ov, iv] (setItem ov iv v)
      release [v, ov, iv] []) := by intro _; rfl)
    (hs : swapsWithSole [.Subscript (.Name y py) ke ps'] e pos.line X.env = pure false := by rfl) (hw : swappedStores [.Subscript (.Name y py) ke ps'] e X.env = pure none := by rfl)
    (h1 : (assignEach [.Subscript (.Name y py) ke ps'] X.env).map (·.2) = [assign (.Subscript (.Name y py) ke ps') X.env] := by rfl) : PSV K X (.Assign [.Subscript (.Name y py) ke ps'] e pos) (setM i f k) := fun hK C => by
  subst hK
  refine (ps_asg (he rfl) (pg_sub ha (hk rfl) set_list has) hs hw h1).weak fun Dn σ H => ?_
  rintro ⟨ρ, rel, g⟩
  refine goVS rel g fun dx ρ1 v H1 rel1 st1 fz g1 => ?_
  obtain ⟨d, ed, g2⟩ := g1.bnd
  obtain ⟨a, vs0, at0, h0, _⟩ := rel1.rel.lstA ed
  refine ⟨.ref a, at0.2, goVS rel1 g2 fun dk ρ2 kv H2 rel2 st2 fk g3 => ?_⟩
  obtain ⟨c, ec, g4⟩ := g3.bnd
  obtain ⟨vs, at1, h1, h2⟩ := rel2.rel.lst2 ec at0
  cases dk with
  | int j =>
    obtain ⟨n, en, g5⟩ := (show GoodS X.K C H2 ((R.of (FL.ixN c.length j)).bind fun n => .ok (.nx, putMut ρ2 i (.list (c.set n dx)))) Dn from g4).bnd
    simp only [Fz] at fk
    subst fk
    refine ⟨a, vs, j, n, rfl, rfl, h1, ?_, goUpd (d := .list (c.set n dx)) rel2 at1 ⟨_, upd_same, (h2.set n (fz.mono (st2.fzn rel1.rel))).mono (fzn_at rel2 at1)⟩ g5⟩
    rw [h2.len]
    cases e2 : FL.ixN c.length j with
    | none => rw [e2] at en; cases en
    | some m => rw [e2] at en; cases en; exact e2
  | _ => exact g4.elim
end
end FL
set_option Elab.async false
set_option linter.all false
set_option maxRecDepth 100000
set_option maxHeartbeats 4000000
namespace FL
open PySem L2 PySem.Spec
open PyProof.Rows hiding St
def Walk (K : PySem.W.Frag) (J : It) (items : List D) (H : Hp) : Prop :=
  (∀ i d H', Fzn H H' → items[i]? = some d → J.go i H' ∧ ∀ x H'', J.yld i H' x H'' → Same H' H'' ∧ Fz K H'' d x) ∧ ∀ i H', Fzn H H' → items.length ≤ i → J.stop i H'
def tI (K : PySem.W.Frag) (it : IF) : TI := fun σ H R => ∃ ρ, Rel K ρ σ H ∧ Good K ρ σ H (it ρ) fun items _ H' => ∀ J, Walk K J items H' → R J H'
def PVI (K : PySem.W.Frag) (X : Cx) (tg e : Expr) (it : IF) : Prop := X.K = K → PI X tg e (tI K it)
theorem _root_.L2.PI.weak {X : Cx} {tg e : Expr} {t t' : TI} (h : PI X tg e t) (w : ∀ σ H R, t' σ H R → t σ H R) : PI X tg e t' := fun pins s σ H R I q => h pins s σ H R I (w σ H R q)
section
variable {K : PySem.W.Frag} {X : Cx} {tg e : Expr} {f : EF} {pos : Pos}
theorem pi_seq {l : Expr} {tl : TE} (hl : PE X l tl) : PI X tg l (fun σ H R => tl σ H fun x H1 => ∃ a, x = .ref a ∧ (((∃ xs, SqL X.K H1 a xs) ∧ R (Itl X.K a) H1) ∨ ((∃ xs, SqT X.K H1 a xs) ∧ R (Itt X.K a) H1))) := by
  intro pins s σ H R I h
  refine thn (hl pins s σ H _ I h) fun v s1 ⟨x, H1, I1, r1, q1⟩ => ?_
  obtain ⟨a, e, q1⟩ := q1
  subst e
  cases r1
  rcases q1 with ⟨⟨xs, hq⟩, q⟩ | ⟨⟨xs, hq⟩, q⟩
  · obtain ⟨its, rv, p, hz⟩ := I1.list hq
    refine wpAny_pyIter_list p.isList ?_
    refine ⟨s1.heap.objs.size, [s1.heap.objs.size], _, _, H1, rfl, I1.kept (t' := s1.toks) fun b o e => Heap.get?_push_of_some _ e, turn_list a _, ⟨_, Heap.get?_push_size _ rfl, rfl, rfl⟩, fun b hb => ?_, q⟩
    have e : b = s1.heap.objs.size := by simpa using hb
    subst e
    exact I1.fpOk (Nat.le_refl _) (I1.hok.fresh (Nat.le_refl _))
  · obtain ⟨its, rv, p, hz⟩ := I1.tuple hq
    refine wpAny_pyIter_tuple (show s1.heap.IsTuple a its.toArray from p) ?_
    refine ⟨s1.heap.objs.size, [s1.heap.objs.size], _, _, H1, rfl, I1.kept (t' := s1.toks) fun b o e => Heap.get?_push_of_some _ e, turn_tuple a _, ⟨_, Heap.get?_push_size _ rfl, rfl, rfl⟩, fun b hb => ?_, q⟩
    have e : b = s1.heap.objs.size := by simpa using hb
    subst e
    exact I1.fpOk (Nat.le_refl _) (I1.hok.fresh (Nat.le_refl _))
theorem walk_list {H : Hp} {a : Addr} {vs : List V} {items : List D} (h : FzL K H a vs) (f : FzAll K H items vs) : Walk K (Itl K a) items H := by
  refine ⟨fun i d H' fz e => ?_, fun i H' fz e => ⟨vs, (fz.seqL h).sq, by rw [f.len]; exact e⟩⟩
  obtain ⟨v, ev, _⟩ := f.get e
  refine ⟨⟨vs, v, (fz.seqL h).sq, ev⟩, fun x H'' y => ?_⟩
  obtain ⟨rfl, y⟩ := y
  have ex := y vs (fz.seqL h).sq
  obtain ⟨v', ev', fv⟩ := (f.mono fz).get e
  rw [ex] at ev'
  cases ev'
  exact ⟨Same.refl _, fv⟩
theorem walk_tup {H : Hp} {a : Addr} {vs : List V} {items : List D} (h : SqT K H a vs) (f : FzAll K H items vs) : Walk K (Itt K a) items H := by
  refine ⟨fun i d H' fz e => ?_, fun i H' fz e => ⟨vs, fz.seqT h, by rw [f.len]; exact e⟩⟩
  obtain ⟨v, ev, _⟩ := f.get e
  refine ⟨⟨vs, v, fz.seqT h, ev⟩, fun x H'' y => ?_⟩
  obtain ⟨rfl, y⟩ := y
  have ex := y vs (fz.seqT h)
  obtain ⟨v', ev', fv⟩ := (f.mono fz).get e
  rw [ex] at ev'
  cases ev'
  exact ⟨Same.refl _, fv⟩
theorem pvi_seq (he : PV K X e f) : PVI K X tg e (iE f) := fun hK => by
  subst hK
  refine (pi_seq (he rfl)).weak fun σ H R => ?_
  rintro ⟨ρ, rel, q⟩
  refine goV rel q fun dx ρ1 x H1 rel1 st1 fx q1 => ?_
  obtain ⟨items, ei, q2⟩ := q1.bnd'
  cases dx with
  | list a =>
    cases ei
    simp only [Fz] at fx
    obtain ⟨l, vs, rfl, sx, f⟩ := fx
    exact ⟨l, rfl, .inl ⟨⟨vs, sx.sq⟩, q2.now rel1 _ (walk_list sx f)⟩⟩
  | tuple a =>
    cases ei
    simp only [Fz] at fx
    obtain ⟨l, vs, rfl, sx, f⟩ := fx
    exact ⟨l, rfl, .inr ⟨⟨vs, sx⟩, q2.now rel1 _ (walk_tup sx f)⟩⟩
  | _ => cases ei
theorem p62 : (2 : Int) ^ 62 = 4611686018427387904 := by decide
theorem rng_get {lo hi : Int} {i : Nat} {d : D} (h : (rng lo hi)[i]? = some d) : i < (hi - lo).toNat ∧ d = .int (lo + i) := by
  unfold rng at h
  rw [List.getElem?_map] at h
  by_cases c : i < (hi - lo).toNat
  · rw [List.getElem?_range c] at h
    cases h
    exact ⟨c, rfl⟩
  · rw [List.getElem?_eq_none (by rw [List.length_range]; omega)] at h; cases h
theorem walk_rng {H : Hp} (lo hi : Int) : Walk K (Itr lo (hi - lo).toNat) (rng lo hi) H := by
  refine ⟨fun i d H' fz e => ?_, fun i H' fz e => ?_⟩
  · obtain ⟨c, rfl⟩ := rng_get e
    refine ⟨c, fun x H'' y => ?_⟩
    obtain ⟨rfl, rfl⟩ := y
    exact ⟨Same.refl _, fz_int _⟩
  · show (hi - lo).toNat ≤ i
    simpa [rng] using e
theorem pvi_range1 {a : Expr} {fa : AF} {p : Pos} (hg : Gl X "range") (hm : X.mg "range" = none) (ha : PVA K X [a] fa) (hs : starEach [a] X.env = [(false, eval a X.env)] := by rfl) : PVI K X tg (.Call (.Name "range" p) [a] [] pos) (iR1 fa) := fun hK => (pi_range1 hg hm (ha hK) hs).weak fun σ H R => by
  rintro ⟨ρ, rel, q⟩
  refine goA rel q fun ds ρ1 vs H1 rel1 st1 fs q1 => ?_
  obtain ⟨items, ei, q2⟩ := q1.bnd'
  cases ds with
  | nil => cases ei
  | cons d r =>
    cases r with
    | cons _ _ => cases d <;> cases ei
    | nil =>
      cases d with
      | int j =>
        obtain ⟨c, ei⟩ := chk_inv (show chk (rngOk j && leB j.toNat lim) (.ok (rng 0 j)) = .ok items from ei)
        cases ei
        simp only [FzAll, Fz] at fs
        obtain ⟨_, _, rfl, rfl, rfl⟩ := fs
        simp only [rngOk, Bool.and_eq_true, leB_iff] at c
        have := walk_rng (K := K) (H := H1) 0 j
        rw [Int.sub_zero] at this
        have e62 := p62
        exact ⟨j, rfl, by omega, by omega, q2.now rel1 _ this⟩
      | _ => cases ei
theorem pvi_range2 {a b : Expr} {fa : AF} {p : Pos} (hg : Gl X "range") (hm : X.mg "range" = none) (ha : PVA K X [a, b] fa) (hs : starEach [a, b] X.env = [(false, eval a X.env), (false, eval b X.env)] := by rfl) (hs2 : starEach [b] X.env = [(false, eval b X.env)] := by rfl) :
    PVI K X tg (.Call (.Name "range" p) [a, b] [] pos) (iR2 fa) := fun hK => (pi_range2 hg hm (ha hK) hs hs2).weak fun σ H R => by
  rintro ⟨ρ, rel, q⟩
  refine goA rel q fun ds ρ1 vs H1 rel1 st1 fs q1 => ?_
  obtain ⟨items, ei, q2⟩ := q1.bnd'
  have key : ∃ i j, ds = [.int i, .int j] := by
    cases ds with
    | nil => cases ei
    | cons d r =>
      cases d with
      | int i =>
        cases r with
        | nil => cases ei
        | cons d2 r =>
          cases d2 with
          | int j =>
            cases r with
            | nil => exact ⟨i, j, rfl⟩
            | cons _ _ => cases ei
          | _ => cases ei
      | _ => cases ei
  obtain ⟨i, j, rfl⟩ := key
  obtain ⟨c, ei⟩ := chk_inv (show chk (rngOk i && rngOk j && leB (j - i).toNat lim) (.ok (rng i j)) = .ok items from ei)
  cases ei
  simp only [FzAll, Fz] at fs
  obtain ⟨_, _, rfl, rfl, _, _, rfl, rfl, rfl⟩ := fs
  simp only [rngOk, Bool.and_eq_true, leB_iff] at c
  have e62 := p62
  exact ⟨i, j, rfl, ⟨by omega, by omega, by omega, by omega⟩, q2.now rel1 _ (walk_rng i j)⟩
variable {it : IF} {g : GF} {b t : SF} {body : List Stmt}
theorem pvs_for {dom : List Nat} (hp : PassesOwn (model X.prog X.w) X.A X.env X.xe) (hc : X.calm = true) (hi : PVI K X tg e it) (hg : PVG K X dom tg g) (hb : PSVs K X body b) (hs : ∀ x, foldedSetIterable e X.env x = pure x := by intro _; rfl) : PSV K X (.For tg e body [] pos) (sFor it g b) := fun hK C =>
  (ps_for hp hc (hi hK) (hg hK) (hb hK C) hs).weak fun Dn σ0 H0 => by
  rintro ⟨ρ0, rel0, q⟩
  obtain ⟨x, ex, q⟩ := q.bnd
  refine ⟨ρ0, rel0.rel, ?_⟩
  rw [ex]
  intro Hs r st J wk
  have rel1 := rel0.step r st
  have q1 := q.step (st.fzn rel0.rel)
  obtain ⟨items, ρs⟩ := x
  refine ⟨fun i m σ H => m = items.length - i ∧ i ≤ items.length ∧ ∃ ρ, RelS K C ρ σ H ∧ Fzn Hs H ∧ GoodS K C H (forL g b (items.drop i) ρ) Dn, ⟨items.length, by simp, Nat.zero_le _, ρs, rel1, Fzn.refl _, q1⟩, ?_⟩
  rintro i m σ H ⟨rfl, hi, ρ, rel, fz, gd⟩
  by_cases c : i < items.length
  · have ed := List.drop_eq_getElem_cons c
    rw [ed] at gd
    obtain ⟨hgo, hy⟩ := wk.1 i items[i] H fz (List.getElem?_eq_getElem c)
    refine .inr ⟨hgo, fun σ' H' => ∃ ρ, RelS K C ρ σ' H' ∧ Fzn Hs H' ∧ GoodS K C H' (forL g b (items.drop (i + 1)) ρ) Dn, fun σ' H' n => ⟨items.length - (i + 1), by omega, rfl, c, n⟩, fun x H3 y => ?_⟩
    obtain ⟨sm, fx⟩ := hy x H3 y
    have rel3 : RelS K C ρ σ H3 := rel.step (rel.rel.same sm) (.of sm)
    obtain ⟨ρ1, e1, gd1⟩ := gd.bnd
    refine ⟨ρ, items[i], ρ1, rel3.rel, fx, e1, fun σ1 rel4 chg => ⟨ρ1, rel3.chg rel4 chg, ?_⟩⟩
    obtain ⟨y, ey, gd2⟩ := gd1.bnd
    rw [ey]
    have gd3 := gd2.step (Fzn.of sm)
    have fz3 := fz.trans (Fzn.of sm)
    obtain ⟨fl, ρ2⟩ := y
    cases fl with
    | nx => exact fun σ' H' r z => ⟨ρ2, r, fz3.trans z, gd3.step z⟩
    | ct => exact fun σ' H' r z => ⟨ρ2, r, fz3.trans z, gd3.step z⟩
    | bk => exact gd3
    | rt d => exact gd3
    | rf d => exact gd3
  · have e : i = items.length := by omega
    subst e
    rw [List.drop_length] at gd
    exact .inl ⟨wk.2 _ H fz (Nat.le_refl _), gd σ H rel (Fzn.refl _)⟩
theorem pvs_while {c : Expr} {tc : TF} (fuel : En → Nat) (hp : PassesOwn (model X.prog X.w) X.A X.env X.xe) (hc : PVT K X c tc) (hb : PSVs K X body b) : PSV K X (.While c body [] pos) (sWhile fuel tc b) := fun hK C =>
  (ps_while hp (hc hK) (hb hK C)).weak fun Dn σ0 H0 => by
  rintro ⟨ρ0, rel0, q⟩
  refine ⟨fun m σ H => ∃ ρ, RelS K C ρ σ H ∧ GoodS K C H (whileL tc b m ρ) Dn, ⟨fuel ρ0, ρ0, rel0, q⟩, ?_⟩
  rintro m σ H ⟨ρ, rel, gd⟩
  cases m with
  | zero => exact gd.elim
  | succ n =>
    refine goTS rel gd fun cb ρ1 H1 rel1 fz g1 => ?_
    cases cb with
    | false => exact iteF (g1 σ H1 rel1 (Fzn.refl _))
    | true =>
      refine iteT ⟨fun σ' H' => ∃ ρ, RelS K C ρ σ' H' ∧ GoodS K C H' (whileL tc b n ρ) Dn, fun σ' H' z => ⟨n, Nat.lt_succ_self _, z⟩, ρ1, rel1, ?_⟩
      obtain ⟨y, ey, gd2⟩ := (show GoodS K C H1 ((b ρ1).bind fun y => match y.1 with
      | .nx | .ct => whileL tc b n y.2
      | .bk => .ok (.nx, y.2)
      | .rt d => .ok (.rt d, y.2)
      | .rf d => .ok (.rf d, y.2)) Dn from g1).bnd
      rw [ey]
      obtain ⟨fl, ρ2⟩ := y
      cases fl with
      | nx => exact fun σ' H' r z => ⟨ρ2, r, gd2.step z⟩
      | ct => exact fun σ' H' r z => ⟨ρ2, r, gd2.step z⟩
      | bk => exact gd2
      | rt d => exact gd2
      | rf d => exact gd2
end
end FL
set_option Elab.async false
set_option linter.all false
set_option maxRecDepth 100000
set_option maxHeartbeats 4000000
namespace FL
open PySem L2 PySem.Spec
open PyProof.Rows hiding St
section
variable {K : PySem.W.Frag} {ρ : En} {σ : L2.St} {H H' : Hp} {k : Nat} {ix : List Nat}
theorem blk_low {j : Nat} (h : j < k) : (blk k ix ρ)[j]? = some .no := by
  unfold blk
  rw [List.getElem?_append_left (by simpa using h), List.getElem?_replicate, if_pos h]
theorem blk_hi (j : Nat) : (blk k ix ρ)[k + j]? = (ix[j]?).map fun i => (ρ[i]?).getD .no := by
  unfold blk
  rw [List.getElem?_append_right (by simp), List.length_replicate, Nat.add_sub_cancel_left, List.getElem?_map]
theorem cap_hi (j : Nat) : (capS k ix σ)[k + j]? = (ix[j]?).map fun i => (σ[i]?).getD none := by
  unfold capS
  rw [List.getElem?_append_right (by simp), List.length_replicate, Nat.add_sub_cancel_left, List.getElem?_map]
theorem blk_at {j : Nat} {a : Addr} (h : At (blk k ix ρ) (capS k ix σ) j a) : ∃ j' i, j = k + j' ∧ ix[j']? = some i ∧ At ρ σ i a := by
  obtain ⟨⟨p, d, e1⟩, e2⟩ := h
  by_cases c : j < k
  · rw [blk_low c] at e1; cases e1
  · obtain ⟨j', rfl⟩ : ∃ j', j = k + j' := ⟨j - k, by omega⟩
    rw [blk_hi] at e1
    rw [cap_hi] at e2
    cases ei : ix[j']? with
    | none => rw [ei] at e1; cases e1
    | some i =>
      rw [ei] at e1 e2
      refine ⟨j', i, rfl, ei, ⟨p, d, ?_⟩, ?_⟩
      · simp only [Option.map_some, Option.some.injEq] at e1
        cases er : ρ[i]? with
        | none => rw [er] at e1; cases e1
        | some x => rw [er] at e1; simpa using e1
      · simp only [Option.map_some, Option.some.injEq] at e2
        cases es : σ[i]? with
        | none => rw [es] at e2; cases e2
        | some x => rw [es] at e2; simpa using e2
theorem nodup_get {l : List Nat} (h : l.Nodup) {i j x : Nat} (a : l[i]? = some x) (b : l[j]? = some x) : i = j := by
  obtain ⟨h1, e1⟩ := List.getElem?_eq_some_iff.mp a
  obtain ⟨h2, e2⟩ := List.getElem?_eq_some_iff.mp b
  exact (List.getElem_inj h).mp (e1.trans e2.symm)
theorem blk_rel (nd : ix.Nodup) (r : Rel K ρ σ H) : Rel K (blk k ix ρ) (capS k ix σ) H := by
  refine ⟨by simp [blk, capS], fun j x v e1 e2 => ?_, fun i j a h1 h2 => ?_⟩
  · by_cases c : j < k
    · rw [blk_low c] at e1; cases e1; trivial
    · obtain ⟨j', rfl⟩ : ∃ j', j = k + j' := ⟨j - k, by omega⟩
      rw [blk_hi] at e1
      rw [cap_hi] at e2
      cases ei : ix[j']? with
      | none => rw [ei] at e1; cases e1
      | some i =>
        rw [ei] at e1 e2
        simp only [Option.map_some, Option.some.injEq] at e1 e2
        cases er : ρ[i]? with
        | none => rw [er] at e1; cases e1; trivial
        | some y =>
          have hl : i < σ.length := by rw [← r.len]; exact (List.getElem?_eq_some_iff.mp er).1
          rw [er] at e1
          rw [List.getElem?_eq_getElem hl] at e2
          cases e1; cases e2
          exact r.ok i _ _ er (List.getElem?_eq_getElem hl)
  · obtain ⟨i', x, rfl, e1, a1⟩ := blk_at h1
    obtain ⟨j', y, rfl, e2, a2⟩ := blk_at h2
    have := r.sep x y a a1 a2
    subst this
    rw [nodup_get nd e1 e2]
theorem bkL_get {m : List (Nat × Sl)} : ∀ (ρ : En) (n i : Nat), (bkL m n ρ)[i]? = (ρ[i]?).map (bk1 m (n + i))
  | [], n, i => by simp [bkL]
  | x :: r, n, 0 => by simp [bkL]
  | x :: r, n, i + 1 => by
    simp only [bkL, List.getElem?_cons_succ]
    rw [bkL_get r (n + 1) i, show n + 1 + i = n + (i + 1) by omega]
theorem back_get {cs : En} (i : Nat) : (back ρ ix cs)[i]? = (ρ[i]?).map (bk1 (ix.zip cs) i) := by
  unfold back
  rw [bkL_get, Nat.zero_add]
theorem bkL_len {m : List (Nat × Sl)} : ∀ (ρ : En) (n : Nat), (bkL m n ρ).length = ρ.length
  | [], n => rfl
  | x :: r, n => by simp [bkL, bkL_len r]
theorem zip_lookup : ∀ {ix : List Nat} {cs : En} {i : Nat} {c : Sl}, (ix.zip cs).lookup i = some c → ∃ j : Nat, ix[j]? = some i ∧ cs[j]? = some c
  | [], cs, i, c, h => by simp at h
  | x :: r, [], i, c, h => by simp at h
  | x :: r, y :: s, i, c, h => by
    rw [List.zip_cons_cons, List.lookup_cons] at h
    by_cases e : i = x
    · subst e
      simp only [beq_self_eq_true] at h
      cases h
      exact ⟨0, rfl, rfl⟩
    · rw [beq_false_of_ne e] at h
      obtain ⟨j, h1, h2⟩ := zip_lookup h
      exact ⟨j + 1, by simpa using h1, by simpa using h2⟩
theorem zip_lookup_of : ∀ {ix : List Nat} {cs : En} {i j : Nat} {c : Sl}, ix.Nodup → ix[j]? = some i → cs[j]? = some c → (ix.zip cs).lookup i = some c
  | [], cs, i, j, c, _, h1, _ => by simp at h1
  | x :: r, [], i, j, c, _, _, h2 => by simp at h2
  | x :: r, y :: s, i, j, c, nd, h1, h2 => by
    rw [List.zip_cons_cons, List.lookup_cons]
    cases j with
    | zero =>
      simp at h1 h2
      subst h1; subst h2
      simp
    | succ j =>
      simp at h1 h2
      have : i ≠ x := fun z => by
        subst z
        exact (List.nodup_cons.mp nd).1 (List.mem_of_getElem? h1)
      rw [beq_false_of_ne this]
      exact zip_lookup_of (List.nodup_cons.mp nd).2 h1 h2
theorem back_ok {β : En} {σβ : L2.St} (nd : ix.Nodup) (r : Rel K ρ σ H) (hs : ∀ j, σβ[k + j]? = (capS k ix σ)[k + j]?) (rb : Rel K β σβ H')
    (md : ∀ j p, (∃ d, β[k + j]? = some (.ow p d)) ↔ ∃ d, (blk k ix ρ)[k + j]? = some (.ow p d)) (kp : ∀ a o, H a = some o → ¬ MA (blk k ix ρ) (capS k ix σ) a → H' a = some o) :
    Rel K (back ρ ix (β.drop k)) σ H' ∧ Stp ρ (back ρ ix (β.drop k)) σ H H' := by
  have hm : ∀ a, MA (blk k ix ρ) (capS k ix σ) a → MA ρ σ a := fun a ⟨j, h⟩ => by
    obtain ⟨_, i, _, _, h⟩ := blk_at h
    exact ⟨i, h⟩
  have fz : Fzn H H' := fun a o h st => kp a o h fun m => by
    obtain ⟨o', e, w⟩ := r.ma_own (hm a m)
    rw [h] at e
    cases e
    exact w.nostay st
  have mdB : ∀ (i : Nat) p, (∃ d, ρ[i]? = some (.ow p d)) ↔ ∃ d, (back ρ ix (β.drop k))[i]? = some (.ow p d) := fun i p => by
    rw [back_get]
    constructor
    · rintro ⟨d, e⟩
      rw [e]
      simp only [Option.map_some, bk1]
      split
      · rename_i p' d1 q' d2 h1 h2; cases h1; exact ⟨_, rfl⟩
      · exact ⟨_, rfl⟩
    · rintro ⟨d, e⟩
      cases er : ρ[i]? with
      | none => rw [er] at e; cases e
      | some x =>
        rw [er] at e
        simp only [Option.map_some, Option.some.injEq, bk1] at e
        split at e
        · cases e; exact ⟨_, rfl⟩
        · subst e; exact ⟨_, rfl⟩
  have atB : ∀ i a, At (back ρ ix (β.drop k)) σ i a → At ρ σ i a := fun i a ⟨⟨p, d, e1⟩, e2⟩ => ⟨⟨p, (mdB i p).mpr ⟨d, e1⟩⟩, e2⟩
  refine ⟨⟨by rw [show (back ρ ix (β.drop k)).length = ρ.length from bkL_len _ _]; exact r.len, fun i x v e1 e2 => ?_, fun i j a h1 h2 => r.sep i j a (atB i a h1) (atB j a h2)⟩, ⟨mdB, fun a o h n => kp a o h fun m => n (hm a m)⟩⟩
  rw [back_get] at e1
  cases er : ρ[i]? with
  | none => rw [er] at e1; cases e1
  | some y =>
    rw [er] at e1
    simp only [Option.map_some, Option.some.injEq] at e1
    have o := r.ok i y v er e2
    cases y with
    | no => simp only [bk1] at e1; subst e1; trivial
    | val d =>
      simp only [bk1] at e1
      subst e1
      exact o.mono fz fun a _ ⟨p, d', z⟩ => nomatch z
    | ow p d =>
      cases v with
      | none => exact o.elim
      | some v =>
        cases v with
        | ref a =>
          have ai : At ρ σ i a := ⟨⟨p, d, er⟩, e2⟩
          cases el : (ix.zip (β.drop k)).lookup i with
          | none =>
            simp only [bk1, el] at e1
            subst e1
            refine o.mono fz fun b e3 _ => ?_
            cases e3
            obtain ⟨u, hu, _⟩ := r.ma_own ⟨i, ai⟩
            rw [hu]
            refine kp a u hu fun ⟨j, h⟩ => ?_
            obtain ⟨j', i', rfl, ej, h'⟩ := blk_at h
            have := r.sep i i' a ai h'
            subst this
            have hb : β[k + j']? ≠ none := fun z => by
              have : ∃ d, β[k + j']? = some (.ow p d) := (md j' p).mpr ⟨d, by rw [blk_hi, ej]; simp [er]⟩
              obtain ⟨_, w⟩ := this
              rw [z] at w; cases w
            cases hbe : β[k + j']? with
            | none => exact hb hbe
            | some c =>
              have : (β.drop k)[j']? = some c := by rw [List.getElem?_drop]; exact hbe
              rw [zip_lookup_of nd ej this] at el
              cases el
          | some c =>
            obtain ⟨j, hj, hc⟩ := zip_lookup el
            rw [List.getElem?_drop] at hc
            have bm : (blk k ix ρ)[k + j]? = some (.ow p d) := by rw [blk_hi, hj]; simp [er]
            obtain ⟨d', hd'⟩ := (md j p).mpr ⟨d, bm⟩
            rw [hc] at hd'
            cases hd'
            simp only [bk1, el] at e1
            subst e1
            have es : σβ[k + j]? = some (some (.ref a)) := by rw [hs j, cap_hi, hj]; simp [e2]
            exact rb.ok (k + j) _ _ hc es
        | _ => exact o.elim
end
theorem gonly_tG {K : PySem.W.Frag} {k : Nat} {dom : List Nat} {g : GF} (hd : dom.all (fun i => decide (i < k)) = true) : GOnly k (tG K dom g) := fun x σ H Q => by
  rintro ⟨ρ, d, ρ1, rel, fz, e, q⟩
  refine ⟨ρ, d, ρ1, rel, fz, e, fun σ1 rel1 c => ⟨⟨c.1, fun i hi => ?_⟩, q σ1 rel1 c⟩⟩
  rcases c.2 i with ⟨_, c2⟩ | ⟨m, _⟩
  · exact c2
  · have := of_decide_eq_true (List.all_eq_true.mp hd i m)
    omega
def PVTs (K : PySem.W.Frag) (X : Cx) (ifs : List Expr) (t : TF) : Prop := X.K = K → PTs X ifs (tT K t)
theorem _root_.L2.PTs.weak {X : Cx} {e : List Expr} {t t' : TT} (h : PTs X e t) (w : ∀ σ H Q, t' σ H Q → t σ H Q) : PTs X e t' := fun pins s σ H Q I q => h pins s σ H Q I (w σ H Q q)
theorem pvts_nil {K : PySem.W.Frag} {X : Cx} : PVTs K X [] tTrue := fun _ => pts_nil.weak fun σ H Q => by
  rintro ⟨ρ, rel, q⟩
  exact q.now rel
theorem pvts_one {K : PySem.W.Frag} {X : Cx} {c : Expr} {t : TF} (h : PVT K X c t) : PVTs K X [c] t := fun hK => pts_one (h hK)
section
variable {K : PySem.W.Frag} {X : Cx} {elt tg iter : Expr} {ifs : List Expr} {scope : Scope} {pos : Pos} {it : IF} {g : GF} {t : TF} {f : EF} {dom : List Nat}
theorem goComp {k : Nat} {ix : List Nat} (nd : ix.Nodup) (hgo : dom.all (fun i => decide (i < k)) = true) (σ : L2.St) (H : Hp) (Q : VK) (q : tN K (eComp k ix it g t f) σ H Q) : tComp k ix (tI K it) (tG K dom g) (tT K t) (tV K f) σ H Q := by
  revert q
  rintro ⟨ρ0, rel0, q⟩
  obtain ⟨x, ex, q⟩ := q.bnd
  refine ⟨ρ0, rel0, ?_⟩
  rw [ex]
  intro H1 rel1 st1 J wk l hl
  obtain ⟨items, ρs⟩ := x
  have hl0 : H l = none := by
    cases e : H l with
    | none => rfl
    | some o =>
      by_cases m : MA ρ0 σ l
      · obtain ⟨o', e', _⟩ := rel1.ma_own (st1.ma.mp m)
        rw [hl] at e'; cases e'
      · rw [st1.kp l o e m] at hl; cases hl
  have sl : Same H1 (upd H1 l (.lst [])) := Same.upd hl
  refine ⟨fun i m ys H2 => m = items.length - i ∧ i ≤ items.length ∧ H2 l = some (.lst ys) ∧ ∃ ρ acc, Rel K ρ σ H2 ∧ ¬ MA ρ σ l ∧ FzAll K H2 acc ys ∧ Fzn H1 H2 ∧ Stp ρ0 ρ σ H H2 ∧
    Good K ρ0 σ H ((compL k ix g t f (items.drop i) ρ acc).bind fun (y : List D × En) => .ok ((PyData.list y.1 : D), y.2)) fun d ρ' H' => ∀ a, H a = none → MutAt K H' a d → Q (.ref a) H',
    ⟨items.length, by simp, Nat.zero_le _, upd_same, ρs, [], rel1.same sl, fun z => ?_, by simp [FzAll], Fzn.of sl, st1.trans (.of sl), q⟩, ?_⟩
  · obtain ⟨o', e', _⟩ := rel1.ma_own z
    rw [hl] at e'; cases e'
  rintro i m ys H2 ⟨rfl, hi, hly, ρ, acc, rel, nma, fa, fz, st0, gd⟩
  refine ⟨hly, ?_⟩
  by_cases c : i < items.length
  · have ed := List.drop_eq_getElem_cons c
    rw [ed] at gd
    obtain ⟨hgo', hy⟩ := wk.1 i items[i] H2 fz (List.getElem?_eq_getElem c)
    refine .inr ⟨hgo', fun x H3 y => ?_⟩
    obtain ⟨sm, fx⟩ := hy x H3 y
    have rel3 : Rel K ρ σ H3 := rel.same sm
    obtain ⟨w, ew, gd⟩ := gd.bnd'
    obtain ⟨β1, e1, ew⟩ := bind_inv (show (g items[i] (blk k ix ρ)).bind _ = .ok w from ew)
    obtain ⟨c1, ec, ew⟩ := bind_inv ew
    refine ⟨blk k ix ρ, items[i], β1, blk_rel nd rel3, fx, e1, fun σ1 relβ chg => ⟨β1, relβ, ?_⟩⟩
    rw [ec]
    intro H5 rel5 st5
    have hσ : ∀ j, σ1[k + j]? = (capS k ix σ)[k + j]? := fun j => by
      rcases chg.2 (k + j) with ⟨_, c2⟩ | ⟨m, _⟩
      · exact c2
      · have := of_decide_eq_true (List.all_eq_true.mp hgo _ m)
        omega
    have hβ : ∀ j, β1[k + j]? = (blk k ix ρ)[k + j]? := fun j => by
      rcases chg.2 (k + j) with ⟨c2, _⟩ | ⟨m, _⟩
      · exact c2
      · have := of_decide_eq_true (List.all_eq_true.mp hgo _ m)
        omega
    have hMA : ∀ a, MA β1 σ1 a → MA (blk k ix ρ) (capS k ix σ) a := fun a ⟨j, ⟨p, d, z1⟩, z2⟩ => by
      rcases chg.2 j with ⟨c1, c2⟩ | ⟨_, ⟨d', c1⟩, _⟩
      · exact ⟨j, ⟨p, d, by rw [← c1]; exact z1⟩, by rw [← c2]; exact z2⟩
      · rw [c1] at z1; cases z1
    have hMB : ∀ a, MA (blk k ix ρ) (capS k ix σ) a → MA ρ σ a := fun a ⟨j, h⟩ => by
      obtain ⟨_, i, _, _, h⟩ := blk_at h
      exact ⟨i, h⟩
    have h3l : H3 l = some (.lst ys) := sm l _ hly
    have n1 : ¬ MA β1 σ1 l := fun z => nma (hMB l (hMA l z))
    have h5l : H5 l = some (.lst ys) := st5.kp l _ h3l n1
    obtain ⟨cb, β2⟩ := c1
    cases cb with
    | true =>
      refine iteT ⟨β2, rel5, ?_⟩
      obtain ⟨y, ey, ew⟩ := bind_inv (show (f β2).bind _ = .ok w from ew)
      rw [ey]
      intro H6 rel6 st6 v fv
      obtain ⟨cc, ew⟩ := chk_inv ew
      have n2 : ¬ MA β2 σ1 l := fun z => n1 (st5.ma.mpr z)
      have h6l : H6 l = some (.lst ys) := st6.kp l _ h5l n2
      have st : Stp β1 y.2 σ1 H3 H6 := st5.trans st6
      obtain ⟨rb, sb⟩ := back_ok (k := k) nd rel3 hσ rel6 (fun j p => by rw [← hβ j]; exact (st.md (k + j) p).symm) (fun a o h n => st.kp a o h fun z => n (hMA a z))
      have nmb : ¬ MA (back ρ ix (y.2.drop k)) σ l := fun z => nma (sb.ma.mpr z)
      have fz6 : Fzn H2 H6 := (Fzn.of sm).trans (sb.fzn rel3)
      have fz7 : Fzn H6 (upd H6 l (.lst (ys ++ [v]))) := fun b u e s => by
        rw [upd_ne fun z => by subst z; rw [h6l] at e; cases e; exact s]
        exact e
      refine ⟨h6l, ?_, items.length - (i + 1), by omega, rfl, c, upd_same, back ρ ix (y.2.drop k), acc ++ [y.1], rb.put nmb (fun u e => by rw [h6l] at e; cases e; exact fun z => z), nmb, ?_, (fz.trans fz6).trans fz7, ⟨((st0.trans (.of sm)).trans sb).md, fun a o h n => ?_⟩, ?_⟩
      · have := le_of cc
        have l0 := lim_size
        rw [fa.len]; omega
      · refine ((fa.mono fz6).mono fz7).app ?_
        simp only [FzAll]
        exact ⟨v, [], rfl, fv.mono fz7, rfl⟩
      · rw [upd_ne fun z => by subst z; rw [hl0] at h; cases h]
        exact ((st0.trans (.of sm)).trans sb).kp a o h n
      · rw [ew]
        exact gd
    | false =>
      obtain ⟨rb, sb⟩ := back_ok (k := k) nd rel3 hσ rel5 (fun j p => by rw [← hβ j]; exact (st5.md (k + j) p).symm) (fun a o h n => st5.kp a o h fun z => n (hMA a z))
      have nmb : ¬ MA (back ρ ix (β2.drop k)) σ l := fun z => nma (sb.ma.mpr z)
      have fz6 : Fzn H2 H5 := (Fzn.of sm).trans (sb.fzn rel3)
      refine iteF ⟨items.length - (i + 1), by omega, rfl, c, h5l, back ρ ix (β2.drop k), acc, rb, nmb, fa.mono fz6, fz.trans fz6, (st0.trans (.of sm)).trans sb, ?_⟩
      rw [show compL k ix g t f (items.drop (i + 1)) (back ρ ix (β2.drop k)) acc = .ok w from ew]
      exact gd
  · have e : i = items.length := by omega
    subst e
    rw [List.drop_length] at gd
    exact .inl ⟨wk.2 _ H2 fz (Nat.le_refl _), gd H2 rel st0 l hl0 ⟨ys, hly, fa⟩⟩
theorem pvn_comp (L : List Str) (ix : List Nat) (M : List Str) (hc : X.calm = true) (hk : scope.kind = .function) (hd : compOkC X.env.scope scope X.N ix = true) (hM : M = L ++ ix.map fun i => X.N.getD i "") (nd : ix.Nodup) (hi : PVI K X tg iter it)
    (hg : ∀ C s₃ H₃ fp, PVG K (cxCompC X M scope C s₃ H₃ fp) dom tg g) (hgo : dom.all (fun i => decide (i < L.length)) = true)
    (ht : ∀ C s₃ H₃ fp, PVTs K (cxCompC X M scope C s₃ H₃ fp) ifs t) (he : ∀ C s₃ H₃ fp, PV K (cxCompC X M scope C s₃ H₃ fp) elt f)
    (hs : ∀ x, foldedSetIterable iter X.env x = pure x := by intro _; rfl) :
    PVN K X (.ListComp elt [⟨tg, iter, ifs, 0⟩] scope pos) (eComp L.length ix it g t f) := fun hK => by
  refine (pe_compK L ix M hc hk hd hM (hi hK) (fun C s₃ H₃ fp => hg C s₃ H₃ fp hK) (gonly_tG hgo) (fun C s₃ H₃ fp => ht C s₃ H₃ fp hK) (fun C s₃ H₃ fp => he C s₃ H₃ fp hK) hs).weak fun σ H Q q => goComp nd hgo σ H Q q
theorem goCompM {k : Nat} {ix : List Nat} {io : Nat} (nd : ix.Nodup) (hio : io ∉ ix) (hgo : dom.all (fun i => decide (i < k)) = true) (σ : L2.St) (H : Hp) (Q : VK) (q : tN K (eCompM k ix io g t f) σ H Q) : tComp k ix (iList K (tVar io)) (tG K dom g) (tT K t) (tV K f) σ H Q := by
  revert q
  rintro ⟨ρ0, rel0, q⟩
  obtain ⟨items, ex, q⟩ := q.bnd'
  obtain ⟨ad, vs0, at0, hvs, hfa⟩ := rel0.lstA ex
  refine ⟨.ref ad, at0.2, ad, rfl, ⟨vs0, SqL.of hvs⟩, fun l hl => ?_⟩
  have rel1 := rel0
  have st1 : Stp ρ0 ρ0 σ H H := .refl
  have hl0 := hl
  have hne : ad ≠ l := fun z => by subst z; rw [hvs] at hl; cases hl
  have sl : Same H (upd H l (.lst [])) := Same.upd hl
  refine ⟨fun i m ys H2 => m = items.length - i ∧ i ≤ items.length ∧ H2 l = some (.lst ys) ∧ ∃ ρ acc, Rel K ρ σ H2 ∧ ¬ MA ρ σ l ∧ FzAll K H2 acc ys ∧ Fzn H H2 ∧ Stp ρ0 ρ σ H H2 ∧ H2 ad = some (.lst vs0) ∧
    Good K ρ0 σ H ((compL k ix g t f (items.drop i) ρ acc).bind fun (y : List D × En) => .ok ((PyData.list y.1 : D), y.2)) fun d ρ' H' => ∀ a, H a = none → MutAt K H' a d → Q (.ref a) H',
    ⟨items.length, by simp, Nat.zero_le _, upd_same, ρ0, [], rel1.same sl, fun z => ?_, by simp [FzAll], Fzn.of sl, st1.trans (.of sl), sl ad _ hvs, q⟩, ?_⟩
  · obtain ⟨o', e', _⟩ := rel1.ma_own z
    rw [hl] at e'; cases e'
  rintro i m ys H2 ⟨rfl, hi, hly, ρ, acc, rel, nma, fa, fz, st0, had, gd⟩
  refine ⟨hly, ?_⟩
  by_cases c : i < items.length
  · have ed := List.drop_eq_getElem_cons c
    rw [ed] at gd
    obtain ⟨v0, ev0, fv0⟩ := (hfa.mono fz).get (List.getElem?_eq_getElem c)
    refine .inr ⟨⟨vs0, v0, SqL.of had, ev0⟩, fun x H3 y => ?_⟩
    obtain ⟨rfl, y⟩ := y
    have ex0 := y vs0 (SqL.of had)
    rw [ev0] at ex0
    cases ex0
    have fx := fv0
    have sm : Same H3 H3 := Same.refl _
    have rel3 : Rel K ρ σ H3 := rel.same sm
    obtain ⟨w, ew, gd⟩ := gd.bnd'
    obtain ⟨β1, e1, ew⟩ := bind_inv (show (g items[i] (blk k ix ρ)).bind _ = .ok w from ew)
    obtain ⟨c1, ec, ew⟩ := bind_inv ew
    refine ⟨blk k ix ρ, items[i], β1, blk_rel nd rel3, fx, e1, fun σ1 relβ chg => ⟨β1, relβ, ?_⟩⟩
    rw [ec]
    intro H5 rel5 st5
    have hσ : ∀ j, σ1[k + j]? = (capS k ix σ)[k + j]? := fun j => by
      rcases chg.2 (k + j) with ⟨_, c2⟩ | ⟨m, _⟩
      · exact c2
      · have := of_decide_eq_true (List.all_eq_true.mp hgo _ m)
        omega
    have hβ : ∀ j, β1[k + j]? = (blk k ix ρ)[k + j]? := fun j => by
      rcases chg.2 (k + j) with ⟨c2, _⟩ | ⟨m, _⟩
      · exact c2
      · have := of_decide_eq_true (List.all_eq_true.mp hgo _ m)
        omega
    have hMA : ∀ a, MA β1 σ1 a → MA (blk k ix ρ) (capS k ix σ) a := fun a ⟨j, ⟨p, d, z1⟩, z2⟩ => by
      rcases chg.2 j with ⟨c1, c2⟩ | ⟨_, ⟨d', c1⟩, _⟩
      · exact ⟨j, ⟨p, d, by rw [← c1]; exact z1⟩, by rw [← c2]; exact z2⟩
      · rw [c1] at z1; cases z1
    have hMB : ∀ a, MA (blk k ix ρ) (capS k ix σ) a → MA ρ σ a := fun a ⟨j, h⟩ => by
      obtain ⟨_, i, _, _, h⟩ := blk_at h
      exact ⟨i, h⟩
    have h3l : H3 l = some (.lst ys) := sm l _ hly
    have n1 : ¬ MA β1 σ1 l := fun z => nma (hMB l (hMA l z))
    have h5l : H5 l = some (.lst ys) := st5.kp l _ h3l n1
    have ato : At ρ σ io ad := by
      obtain ⟨⟨p, d, e0⟩, e1⟩ := at0
      exact ⟨⟨p, (st0.md io p).mp ⟨d, e0⟩⟩, e1⟩
    have nad : ¬ MA β1 σ1 ad := fun z => by
      obtain ⟨j, h⟩ := hMA ad z
      obtain ⟨j', i', rfl, ej, h'⟩ := blk_at h
      have := rel.sep io i' ad ato h'
      subst this
      exact hio (List.mem_of_getElem? ej)
    have h5a : H5 ad = some (.lst vs0) := st5.kp ad _ had nad
    obtain ⟨cb, β2⟩ := c1
    cases cb with
    | true =>
      refine iteT ⟨β2, rel5, ?_⟩
      obtain ⟨y, ey, ew⟩ := bind_inv (show (f β2).bind _ = .ok w from ew)
      rw [ey]
      intro H6 rel6 st6 v fv
      obtain ⟨cc, ew⟩ := chk_inv ew
      have n2 : ¬ MA β2 σ1 l := fun z => n1 (st5.ma.mpr z)
      have h6l : H6 l = some (.lst ys) := st6.kp l _ h5l n2
      have h6a : H6 ad = some (.lst vs0) := st6.kp ad _ h5a fun z => nad (st5.ma.mpr z)
      have st : Stp β1 y.2 σ1 H3 H6 := st5.trans st6
      obtain ⟨rb, sb⟩ := back_ok (k := k) nd rel3 hσ rel6 (fun j p => by rw [← hβ j]; exact (st.md (k + j) p).symm) (fun a o h n => st.kp a o h fun z => n (hMA a z))
      have nmb : ¬ MA (back ρ ix (y.2.drop k)) σ l := fun z => nma (sb.ma.mpr z)
      have fz6 : Fzn H3 H6 := (Fzn.of sm).trans (sb.fzn rel3)
      have fz7 : Fzn H6 (upd H6 l (.lst (ys ++ [v]))) := fun b u e s => by
        rw [upd_ne fun z => by subst z; rw [h6l] at e; cases e; exact s]
        exact e
      refine ⟨h6l, ?_, items.length - (i + 1), by omega, rfl, c, upd_same, back ρ ix (y.2.drop k), acc ++ [y.1], rb.put nmb (fun u e => by rw [h6l] at e; cases e; exact fun z => z), nmb, ?_, (fz.trans fz6).trans fz7, ⟨((st0.trans (.of sm)).trans sb).md, fun a o h n => ?_⟩, by rw [upd_ne hne]; exact h6a, ?_⟩
      · have := le_of cc
        have l0 := lim_size
        rw [fa.len]; omega
      · refine ((fa.mono fz6).mono fz7).app ?_
        simp only [FzAll]
        exact ⟨v, [], rfl, fv.mono fz7, rfl⟩
      · rw [upd_ne fun z => by subst z; rw [hl0] at h; cases h]
        exact ((st0.trans (.of sm)).trans sb).kp a o h n
      · rw [ew]
        exact gd
    | false =>
      obtain ⟨rb, sb⟩ := back_ok (k := k) nd rel3 hσ rel5 (fun j p => by rw [← hβ j]; exact (st5.md (k + j) p).symm) (fun a o h n => st5.kp a o h fun z => n (hMA a z))
      have nmb : ¬ MA (back ρ ix (β2.drop k)) σ l := fun z => nma (sb.ma.mpr z)
      have fz6 : Fzn H3 H5 := (Fzn.of sm).trans (sb.fzn rel3)
      refine iteF ⟨items.length - (i + 1), by omega, rfl, c, h5l, back ρ ix (β2.drop k), acc, rb, nmb, fa.mono fz6, fz.trans fz6, (st0.trans (.of sm)).trans sb, h5a, ?_⟩
      rw [show compL k ix g t f (items.drop (i + 1)) (back ρ ix (β2.drop k)) acc = .ok w from ew]
      exact gd
  · have e : i = items.length := by omega
    subst e
    rw [List.drop_length] at gd
    exact .inl ⟨⟨vs0, SqL.of had, by rw [hfa.len]; exact Nat.le_refl _⟩, gd H2 rel st0 l hl0 ⟨ys, hly, fa⟩⟩
theorem pvn_compM {y : Str} {py : Pos} (io : Nat) (L : List Str) (ix : List Nat) (M : List Str) (hio : io ∉ ix) (ha : PE X (.Name y py) (tVar io)) (hc : X.calm = true) (hk : scope.kind = .function) (hd : compOkC X.env.scope scope X.N ix = true) (hM : M = L ++ ix.map fun i => X.N.getD i "") (nd : ix.Nodup)
    (hg : ∀ C s₃ H₃ fp, PVG K (cxCompC X M scope C s₃ H₃ fp) dom tg g) (hgo : dom.all (fun i => decide (i < L.length)) = true)
    (ht : ∀ C s₃ H₃ fp, PVTs K (cxCompC X M scope C s₃ H₃ fp) ifs t) (he : ∀ C s₃ H₃ fp, PV K (cxCompC X M scope C s₃ H₃ fp) elt f)
    (hs : ∀ x, foldedSetIterable (.Name y py) X.env x = pure x := by intro _; rfl) :
    PVN K X (.ListComp elt [⟨tg, .Name y py, ifs, 0⟩] scope pos) (eCompM L.length ix io g t f) := fun hK => by
  subst hK
  exact (pe_compK L ix M hc hk hd hM (pi_list ha) (fun C s₃ H₃ fp => hg C s₃ H₃ fp rfl) (gonly_tG hgo) (fun C s₃ H₃ fp => ht C s₃ H₃ fp rfl) (fun C s₃ H₃ fp => he C s₃ H₃ fp rfl) hs).weak fun σ H Q q => goCompM nd hio hgo σ H Q q
end
end FL
set_option Elab.async false
set_option linter.all false
set_option maxRecDepth 100000
set_option maxHeartbeats 4000000
namespace FL
open PySem L2 PySem.Spec
open PyProof.Rows hiding St
def spF (K : PySem.W.Frag) (ms : List Bool) (fr : Bool) (F : List D → R (D × List D)) : Sp := fun vs H Q _ => ∃ ds, vs.length = ms.length ∧ ds.length = ms.length ∧ Rel K (slots ms ds) (vs.map some) H ∧
  ∃ d os, F ds = .ok (d, os) ∧ ∀ v H', Rel K (slots ms os) (vs.map some) H' → (∀ a o, H a = some o → ¬ MA (slots ms ds) (vs.map some) a → H' a = some o) →
    (if fr = true then ∃ a, v = .ref a ∧ H a = none ∧ MutAt K H' a d else Fz K H' d v) → Q v H'
def spP (K : PySem.W.Frag) (n : Nat) (fr : Bool) (G : List D → R D) : Sp := fun vs H Q _ => ∃ ds, vs.length = n ∧ FzAll K H ds vs ∧ ∃ d, G ds = .ok d ∧ ∀ v H', Same H H' → (if fr = true then ∃ a, v = .ref a ∧ H a = none ∧ MutAt K H' a d else Fz K H' d v) → Q v H'
theorem slots_get : ∀ {ms : List Bool} {ds : List D} {i : Nat}, ds.length = ms.length → (slots ms ds)[i]? = (ms[i]?).bind fun m => (ds[i]?).map fun d => if m = true then Sl.ow true d else Sl.val d
  | [], [], i, _ => by simp [slots]
  | [], _ :: _, i, h => by simp at h
  | _ :: _, [], i, h => by simp at h
  | m :: ms, d :: ds, 0, _ => by simp [slots]
  | m :: ms, d :: ds, i + 1, h => by
    simp only [slots, List.getElem?_cons_succ]
    exact slots_get (by simpa using h)
theorem slots_len : ∀ {ms : List Bool} {ds : List D}, ds.length = ms.length → (slots ms ds).length = ms.length
  | [], [], _ => rfl
  | [], _ :: _, h => by simp at h
  | _ :: _, [], h => by simp at h
  | m :: ms, d :: ds, h => by simp only [slots, List.length_cons]; rw [slots_len (by simpa using h)]
theorem outs_len : ∀ {ms : List Bool} {ds : List D} {ρ : En}, ds.length = ms.length → (outs ms ds ρ).length = ms.length
  | [], [], _, _ => rfl
  | [], _ :: _, _, h => by simp at h
  | _ :: _, [], _, h => by simp at h
  | m :: ms, d :: ds, ρ, h => by simp only [outs, List.length_cons]; rw [outs_len (by simpa using h)]
theorem outs_get : ∀ {ms : List Bool} {ds : List D} {ρ : En} {i : Nat} {m : Bool} {d : D}, ms[i]? = some m → ds[i]? = some d → (outs ms ds ρ)[i]? = some (outD m d ρ[i]?)
  | m0 :: ms, d0 :: ds, ρ, 0, m, d, h1, h2 => by
    simp at h1 h2
    subst h1; subst h2
    simp [outs, List.head?_eq_getElem?]
  | m0 :: ms, d0 :: ds, ρ, i + 1, m, d, h1, h2 => by
    simp at h1 h2
    simp only [outs, List.getElem?_cons_succ]
    rw [outs_get h1 h2, List.getElem?_tail]
  | [], _, _, _, _, _, h, _ => by simp at h
  | _ :: _, [], _, _, _, _, _, h => by simp at h
section
variable {K : PySem.W.Frag} {ρ : En} {σ : L2.St} {H : Hp}
theorem Rel.pad (r : Rel K ρ σ H) (n : Nat) : Rel K (ρ ++ List.replicate n .no) (σ ++ List.replicate n none) H := by
  have w : ∀ i a, At (ρ ++ List.replicate n .no) (σ ++ List.replicate n none) i a → At ρ σ i a := fun i a ⟨⟨p, d, e1⟩, e2⟩ => by
    by_cases c : i < ρ.length
    · rw [List.getElem?_append_left c] at e1
      rw [List.getElem?_append_left (by rw [← r.len]; exact c)] at e2
      exact ⟨⟨p, d, e1⟩, e2⟩
    · rw [List.getElem?_append_right (by omega), List.getElem?_replicate] at e1
      split at e1 <;> cases e1
  refine ⟨by simp [r.len], fun i x v e1 e2 => ?_, fun i j a h1 h2 => r.sep i j a (w i a h1) (w j a h2)⟩
  by_cases c : i < ρ.length
  · rw [List.getElem?_append_left c] at e1
    rw [List.getElem?_append_left (by rw [← r.len]; exact c)] at e2
    exact r.ok i x v e1 e2
  · rw [List.getElem?_append_right (by omega), List.getElem?_replicate] at e1
    split at e1
    · cases e1; trivial
    · cases e1
theorem ma_pad {n : Nat} {a : Addr} (hl : ρ.length = σ.length) : MA (ρ ++ List.replicate n .no) (σ ++ List.replicate n none) a ↔ MA ρ σ a := by
  constructor
  · rintro ⟨i, ⟨p, d, e1⟩, e2⟩
    by_cases c : i < ρ.length
    · rw [List.getElem?_append_left c] at e1
      rw [List.getElem?_append_left (by rw [← hl]; exact c)] at e2
      exact ⟨i, ⟨p, d, e1⟩, e2⟩
    · rw [List.getElem?_append_right (by omega), List.getElem?_replicate] at e1
      split at e1 <;> cases e1
  · rintro ⟨i, ⟨p, d, e1⟩, e2⟩
    have c := (List.getElem?_eq_some_iff.mp e1).1
    exact ⟨i, ⟨p, d, by rw [List.getElem?_append_left c]; exact e1⟩, by rw [List.getElem?_append_left (by rw [← hl]; exact c)]; exact e2⟩
end
theorem slots_true {ms : List Bool} {ds : List D} {i : Nat} {p : Bool} {d : D} (hl : ds.length = ms.length) (e : (slots ms ds)[i]? = some (.ow p d)) : p = true ∧ ms[i]? = some true ∧ ds[i]? = some d := by
  rw [slots_get hl] at e
  cases em : ms[i]? with
  | none => rw [em] at e; cases e
  | some m =>
    cases ed : ds[i]? with
    | none => rw [em, ed] at e; cases e
    | some d' =>
      rw [em, ed] at e
      cases m with
      | true => simp at e; exact ⟨e.1, rfl, by rw [e.2]⟩
      | false => simp at e
section
variable {P : Program} {w : World} {K : PySem.W.Frag} {mg : Str → Option Value} {base : Heap}
theorem fn_runF {x : Str} {st : Stmt} {f : Addr} {fd : FuncData} {N ps : List Str} {k : Nat} {b : SF} (ms : List Bool) (fr : Bool) (h : Fun K x x st f fd) (S : FnScope N ps (defScope st)) (hps : ps.length = ms.length) (hpN : ps.length ≤ N.length)
    (hb : ∀ (cdv : Value) (A : Around) (outer : List Env) (s : Shared) (H : Hp) (E : XK), Room k (A.deeper (envOfC x (defScope st) s.heap.objs.size f cdv)) → PSVs K (cxOf (CXe P w) P w K mg base N x (defScope st) f cdv A outer s H E) (defBody st) b) :
    FnOk P w K mg base (CXe P w) (k + 1) f fd ps (spF K ms fr (run ms fr N.length b)) := by
  refine h.okE S (fun vs H Q E ⟨ds, e, _⟩ => by rw [e, hps]) fun cdv A outer s H vs Q E hr hq => ?_
  obtain ⟨ds, hv, hd, rel, d, os, hF, q⟩ := hq
  have hst : L2.start N vs = vs.map some ++ List.replicate (N.length - ds.length) none := by unfold L2.start; rw [hv, hd]
  refine ⟨tS K ⟨H, L2.start N vs, slots ms ds ++ List.replicate (N.length - ds.length) .no⟩ b, hb cdv A outer s H E hr rfl _, slots ms ds ++ List.replicate (N.length - ds.length) .no, ?_, ?_⟩
  · have tru : ∀ (i : Nat) p d, (slots ms ds ++ List.replicate (N.length - ds.length) .no)[i]? = some (.ow p d) → p = true := fun i p d e => by
      by_cases c : i < (slots ms ds).length
      · rw [List.getElem?_append_left c] at e
        exact (slots_true hd e).1
      · rw [List.getElem?_append_right (by omega), List.getElem?_replicate] at e
        split at e <;> cases e
    refine ⟨?_, fun a o e _ => e, fun i a d e _ => absurd (tru i false d e) Bool.false_ne_true, fun i => Iff.rfl, fun i d e => rfl, tru⟩
    rw [hst]
    exact rel.pad _
  · unfold run at hF
    rw [if_pos hd] at hF
    obtain ⟨y, ey, hF⟩ := bind_inv hF
    rw [ey]
    have fin : ∀ (ρ' : En) (σ' : L2.St) (H' : Hp), RelS K ⟨H, L2.start N vs, slots ms ds ++ List.replicate (N.length - ds.length) .no⟩ ρ' σ' H' →
        Rel K (slots ms (outs ms ds ρ')) (vs.map some) H' ∧ (∀ a o, H a = some o → ¬ MA (slots ms ds) (vs.map some) a → H' a = some o) := fun ρ' σ' H' r => by
      have hl0 : (slots ms ds).length = (vs.map some).length := by rw [slots_len hd, List.length_map, hv]
      have kp : ∀ a o, H a = some o → ¬ MA (slots ms ds) (vs.map some) a → H' a = some o := fun a o e n => r.keep a o e fun z => n (by
        have z' : MA (slots ms ds ++ List.replicate (N.length - ds.length) .no) (L2.start N vs) a := z
        rw [hst] at z'
        exact (ma_pad hl0).mp z')
      have fz : Fzn H H' := fun a o e sy => kp a o e fun m => by
        obtain ⟨o', e', ow⟩ := rel.ma_own m
        rw [e] at e'
        cases e'
        exact ow.nostay sy
      refine ⟨?_, kp⟩
      have pinned : ∀ (i : Nat) d0, ms[i]? = some true → ds[i]? = some d0 → ∃ d', ρ'[i]? = some (.ow true d') ∧ σ'[i]? = (vs.map some)[i]? := fun i d0 em ed => by
        have hi : i < (slots ms ds).length := by rw [slots_len hd]; exact (List.getElem?_eq_some_iff.mp em).1
        have e0 : (slots ms ds ++ List.replicate (N.length - ds.length) .no)[i]? = some (.ow true d0) := by
          rw [List.getElem?_append_left hi, slots_get hd, em, ed]; rfl
        obtain ⟨d', e'⟩ := (r.pin i).mpr ⟨d0, e0⟩
        refine ⟨d', e', ?_⟩
        rw [r.fix i d' e']
        show (L2.start N vs)[i]? = _
        rw [hst, List.getElem?_append_left (by rw [← hl0]; exact hi)]
      have ho : (outs ms ds ρ').length = ms.length := outs_len hd
      refine ⟨by rw [slots_len ho, List.length_map, hv], fun i x v e1 e2 => ?_, fun i j a h1 h2 => ?_⟩
      · rw [slots_get ho] at e1
        cases em : ms[i]? with
        | none => rw [em] at e1; cases e1
        | some m =>
          have hi : i < ds.length := by rw [hd]; exact (List.getElem?_eq_some_iff.mp em).1
          have ed := List.getElem?_eq_getElem hi
          rw [em, outs_get em ed] at e1
          cases m with
          | true =>
            obtain ⟨d', e3, e4⟩ := pinned i _ em ed
            rw [e3] at e1
            cases e1
            rw [← e4] at e2
            exact r.rel.ok i _ _ e3 e2
          | false =>
            cases e1
            have e5 : (slots ms ds)[i]? = some (.val ds[i]) := by rw [slots_get hd, em, ed]; rfl
            exact (rel.ok i _ _ e5 e2).mono fz fun a _ ⟨p, d', z⟩ => nomatch z
      · have w : ∀ i a, At (slots ms (outs ms ds ρ')) (vs.map some) i a → At (slots ms ds) (vs.map some) i a := fun i a ⟨⟨p, d0, e1⟩, e2⟩ => by
          obtain ⟨rfl, em, _⟩ := slots_true ho e1
          have hi : i < ds.length := by rw [hd]; exact (List.getElem?_eq_some_iff.mp em).1
          have ed := List.getElem?_eq_getElem hi
          exact ⟨⟨true, ds[i], by rw [slots_get hd, em, ed]; rfl⟩, e2⟩
        exact rel.sep i j a (w i a h1) (w j a h2)
    obtain ⟨fl, ρ'⟩ := y
    cases fr with
    | false =>
      cases fl with
      | rt dr =>
        cases hF
        exact fun v σ' H' r fz => q v H' (fin ρ' σ' H' r).1 (fin ρ' σ' H' r).2 fz
      | nx =>
        cases hF
        exact fun σ' H' r fz => q .non H' (fin ρ' σ' H' r).1 (fin ρ' σ' H' r).2 (by show Fz K H' .none .non; simp [Fz])
      | _ => cases hF
    | true =>
      cases fl with
      | rf dr =>
        cases hF
        exact fun a σ' H' r ha m => q (.ref a) H' (fin ρ' σ' H' r).1 (fin ρ' σ' H' r).2 ⟨a, rfl, ha, m⟩
      | _ => cases hF
theorem fn_run {x : Str} {st : Stmt} {N ps : List Str} {k : Nat} {b : SF} (ms : List Bool) (fr : Bool) (h : Has K mg x st) (S : FnScope N ps (defScope st)) (hps : ps.length = ms.length) (hpN : ps.length ≤ N.length)
    (hbi : ∀ (kV doc pm : Value) (an : Option Addr) (cdv ct : Value) (us : List Value), us.length = ps.length → bindArgs (PySem.W.fnOf x x (defArgs st) (defBody st) (defScope st) .none kV doc pm an cdv ct) ⟨us, []⟩ = pure (ps.zip us))
    (hb : ∀ (f : Addr) (cdv : Value) (A : Around) (outer : List Env) (s : Shared) (H : Hp) (E : XK), Room k (A.deeper (envOfC x (defScope st) s.heap.objs.size f cdv)) → PSVs K (cxOf (CXe P w) P w K mg base N x (defScope st) f cdv A outer s H E) (defBody st) b) :
    Callee P w K mg base x (k + 1) ps (spF K ms fr (run ms fr N.length b)) := by
  obtain ⟨f, fd, hm, F⟩ := h
  exact ⟨f, fd, hm, F.kp, F.binds hbi, fn_runF ms fr F S hps hpN (hb f)⟩
end
end FL
set_option Elab.async false
set_option linter.all false
set_option maxRecDepth 100000
set_option maxHeartbeats 4000000
namespace FL
open PySem L2 PySem.Spec
open PyProof.Rows hiding St
theorem slots_false : ∀ {n : Nat} {ds : List D}, ds.length = n → slots (List.replicate n false) ds = ds.map Sl.val
  | 0, [], _ => rfl
  | n + 1, d :: ds, h => by
    simp only [List.replicate_succ, slots, List.map_cons]
    rw [slots_false (by simpa using h)]
    rfl
  | 0, _ :: _, h => by simp at h
  | n + 1, [], h => by simp at h
theorem rel_vals {K : PySem.W.Frag} {H : Hp} : ∀ {ds : List D} {vs : List V}, FzAll K H ds vs → Rel K (ds.map Sl.val) (vs.map some) H := fun {ds vs} f => by
  refine ⟨by simp [f.len], fun i x v e1 e2 => ?_, fun i j a ⟨⟨p, d, e⟩, _⟩ => ?_⟩
  · rw [List.getElem?_map] at e1 e2
    cases ed : ds[i]? with
    | none => rw [ed] at e1; cases e1
    | some d =>
      obtain ⟨u, eu, fu⟩ := f.get ed
      rw [ed] at e1
      rw [eu] at e2
      cases e1; cases e2
      exact fu
  · rw [List.getElem?_map] at e
    cases ed : ds[i]? with
    | none => rw [ed] at e; cases e
    | some d => rw [ed] at e; cases e
theorem no_ma_vals {ds : List D} {σ : L2.St} {a : Addr} : ¬ MA (ds.map Sl.val) σ a := by
  rintro ⟨i, ⟨p, d, e⟩, _⟩
  rw [List.getElem?_map] at e
  cases ed : ds[i]? with
  | none => rw [ed] at e; cases e
  | some d => rw [ed] at e; cases e
section
variable {P : Program} {w : World} {K : PySem.W.Frag} {mg : Str → Option Value} {base : Heap} {x : Str} {k : Nat} {ps : List Str}
theorem Callee.imp {sp sp' : Sp} (c : Callee P w K mg base x k ps sp) (h : ∀ vs H Q E, sp' vs H Q E → sp vs H Q E) : Callee P w K mg base x k ps sp' := by
  obtain ⟨f, fd, h1, h2, h3, F⟩ := c
  exact ⟨f, fd, h1, h2, h3, F.imp h⟩
theorem FnOk.pure {f : Addr} {fd : FuncData} {n m : Nat} {fr : Bool} {b : SF} (F : FnOk P w K mg base (CXe P w) k f fd ps (spF K (List.replicate n false) fr (run (List.replicate n false) fr m b))) : FnOk P w K mg base (CXe P w) k f fd ps (spP K n fr (runP fr n m b)) := by
  refine F.imp fun vs H Q E => ?_
  rintro ⟨ds, hv, f, d, e, q⟩
  have hd : ds.length = n := by rw [← f.len, hv]
  obtain ⟨y, ey, e⟩ := bind_inv e
  cases e
  refine ⟨ds, by simpa using hv, by simpa using hd, by rw [slots_false hd]; exact rel_vals f, y.1, y.2, by rw [ey], fun v H' r kp fin => q v H' (fun a o e => kp a o e (by rw [slots_false hd]; exact no_ma_vals)) fin⟩
theorem Callee.pure {n m : Nat} {fr : Bool} {b : SF} (c : Callee P w K mg base x k ps (spF K (List.replicate n false) fr (run (List.replicate n false) fr m b))) : Callee P w K mg base x k ps (spP K n fr (runP fr n m b)) := by
  obtain ⟨f, fd, h1, h2, h3, F⟩ := c
  exact ⟨f, fd, h1, h2, h3, FnOk.pure F⟩
theorem Callee.more {sp : Sp} {j : Nat} (c : Callee P w K mg base x k ps sp) (h : k ≤ j) : Callee P w K mg base x j ps sp := by
  obtain ⟨f, fd, h1, h2, h3, F⟩ := c
  exact ⟨f, fd, h1, h2, h3, F.mono h⟩
theorem Callee.by {n : Nat} {fr : Bool} {G G' : List D → R D} (c : Callee P w K mg base x k ps (spP K n fr G)) (h : ∀ ds, ds.length = n → G' ds = G ds) : Callee P w K mg base x k ps (spP K n fr G') := by
  refine Callee.imp c fun vs H Q E => ?_
  rintro ⟨ds, hv, f, d, e, q⟩
  exact ⟨ds, hv, f, d, by rw [← h ds (by rw [← f.len, hv])]; exact e, q⟩
end
def ALen (fa : AF) (n : Nat) : Prop := ∀ ρ y, fa ρ = .ok y → y.1.length = n
theorem alen_nil : ALen aNil 0 := fun ρ y h => by cases h; rfl
theorem alen_cons {f : EF} {a : AF} {n : Nat} (h : ALen a n) : ALen (aCons f a) (n + 1) := fun ρ y e => by
  obtain ⟨x, _, e⟩ := bind_inv (show (f ρ).bind _ = .ok y from e)
  obtain ⟨z, e2, e⟩ := bind_inv e
  cases e
  simp [h _ _ e2]
section
variable {K : PySem.W.Frag} {X : Cx} {k j n : Nat} {ps : List Str} {E : XK} {x : Str} {p pos : Pos} {e : Expr} {es : List Expr} {G : List D → R D} {fa : AF}
theorem pv_call (c : Callee X.prog X.w X.K X.mg X.base x k ps (spP X.K n false G)) (hr : Room j X.A) (hg : Gl X x) (hx : Passes (CXe X.prog X.w) X E) (ha : PVA K X (e :: es) fa) (hl : ALen fa n) (hj : k ≤ j := by decide) (hdb : (x == ("__debug__" : Str)) = false := by decide)
    (he : starEach (e :: es) X.env = (false, eval e X.env) :: starEach es X.env := by rfl) (hpl : (backTo pos (starEach es X.env)).any (·.1) = false := by rfl) : PV K X (.Call (.Name x p) (e :: es) [] pos) (eCall G fa) := fun hK => by
  subst hK
  refine (pe_callee c hr hg hx (ha rfl) hj hdb he hpl).weak fun σ H Q => ?_
  rintro ⟨ρ, rel, q⟩
  obtain ⟨y, ey, q0⟩ := q.bnd
  have hy := hl ρ y ey
  refine ⟨ρ, rel, ?_⟩
  rw [ey]
  intro H1 rel1 st1 vs fs
  obtain ⟨d, ed, q2⟩ := (q0.step st1).bnd'
  rw [List.append_nil]
  exact ⟨y.1, by rw [fs.len, hy], fs, d, ed, fun v H' s fin => q2.new rel1 s v fin⟩
theorem pvn_call (c : Callee X.prog X.w X.K X.mg X.base x k ps (spP X.K n true G)) (hr : Room j X.A) (hg : Gl X x) (hx : Passes (CXe X.prog X.w) X E) (ha : PVA K X (e :: es) fa) (hl : ALen fa n) (hj : k ≤ j := by decide) (hdb : (x == ("__debug__" : Str)) = false := by decide)
    (he : starEach (e :: es) X.env = (false, eval e X.env) :: starEach es X.env := by rfl) (hpl : (backTo pos (starEach es X.env)).any (·.1) = false := by rfl) : PVN K X (.Call (.Name x p) (e :: es) [] pos) (eCall G fa) := fun hK => by
  subst hK
  refine (pe_callee c hr hg hx (ha rfl) hj hdb he hpl).weak fun σ H Q => ?_
  rintro ⟨ρ, rel, q⟩
  obtain ⟨y, ey, q0⟩ := q.bnd
  have hy := hl ρ y ey
  refine ⟨ρ, rel, ?_⟩
  rw [ey]
  intro H1 rel1 st1 vs fs
  obtain ⟨d, ed, q2⟩ := (q0.step st1).bnd'
  rw [List.append_nil]
  refine ⟨y.1, by rw [fs.len, hy], fs, d, ed, fun v H' s fin => ?_⟩
  obtain ⟨a, rfl, ha, m⟩ := fin
  refine q2.new rel1 s a ?_ m
  cases e0 : H a with
  | none => rfl
  | some o =>
    by_cases mm : MA ρ σ a
    · obtain ⟨o', e', _⟩ := rel1.ma_own (st1.ma.mp mm)
      rw [ha] at e'; cases e'
    · rw [st1.kp a o e0 mm] at ha; cases ha
def ItOk (K : PySem.W.Frag) (σ : L2.St) (H₀ H : Hp) : List Itm → List V → Prop
  | [], vs => vs = []
  | .vd d :: r, vs => ∃ v t, vs = v :: t ∧ Fz K H d v ∧ ItOk K σ H₀ H r t
  | .mi i :: r, vs => ∃ v t, vs = v :: t ∧ σ[i]? = some (some v) ∧ ItOk K σ H₀ H r t
  | .td d :: r, vs => ∃ a t, vs = .ref a :: t ∧ MutAt K H a d ∧ H₀ a = none ∧ ItOk K σ H₀ H r t
theorem Stp.old {ρ ρ1 : En} {σ : L2.St} {H H1 : Hp} (st : Stp ρ ρ1 σ H H1) (rel1 : Rel K ρ1 σ H1) {a : Addr} (ha : H1 a = none) : H a = none := by
  cases e0 : H a with
  | none => rfl
  | some o =>
    by_cases mm : MA ρ σ a
    · obtain ⟨o', e', _⟩ := rel1.ma_own (st.ma.mp mm)
      rw [ha] at e'; cases e'
    · rw [st.kp a o e0 mm] at ha; cases ha
theorem ItOk.back {σ : L2.St} {H H1 H2 : Hp} (h : ∀ a, H1 a = none → H a = none) : ∀ {l : List Itm} {vs : List V}, ItOk K σ H1 H2 l vs → ItOk K σ H H2 l vs
  | [], vs, z => z
  | .vd d :: r, vs, z => by
    obtain ⟨v, t, e, f, z⟩ := z
    exact ⟨v, t, e, f, ItOk.back h z⟩
  | .mi i :: r, vs, z => by
    obtain ⟨v, t, e, f, z⟩ := z
    exact ⟨v, t, e, f, ItOk.back h z⟩
  | .td d :: r, vs, z => by
    obtain ⟨v, t, e, f, g, z⟩ := z
    exact ⟨v, t, e, f, h _ g, ItOk.back h z⟩
def tAr (K : PySem.W.Frag) (a : List Ar) : TA := fun σ H Q => ∃ ρ, Rel K ρ σ H ∧ Good K ρ σ H (arEv a ρ) fun l _ H' => ∀ vs, ItOk K σ H H' l vs → Q vs H'
def PVAr (K : PySem.W.Frag) (X : Cx) (es : List Expr) (a : List Ar) : Prop := X.K = K → PA X es (tAr K a)
theorem pvar_nil : PVAr K X [] [] := fun _ => pa_nil.weak fun σ H Q => by
  rintro ⟨ρ, rel, q⟩
  exact q.now rel [] rfl
theorem pvar_v {f : EF} {a : List Ar} (he : PV K X e f) (hr : PVAr K X es a) (hs : starEach (e :: es) X.env = (false, eval e X.env) :: starEach es X.env := by rfl) : PVAr K X (e :: es) (.v f :: a) := fun hK => (pa_cons (he hK) (hr hK) hs).weak fun σ H Q => by
  rintro ⟨ρ, rel, q⟩
  refine goV rel q fun dx ρ1 x H1 rel1 st1 fx q1 => ?_
  obtain ⟨y, ey, q2⟩ := q1.bnd
  refine ⟨ρ1, rel1, ?_⟩
  rw [ey]
  exact fun H2 rel2 st2 vs it => (q2.step st2).now rel2 _ ⟨x, vs, rfl, fx.mono (st2.fzn rel1), it.back fun a ha => st1.old rel1 ha⟩
theorem pvar_m {a : List Ar} {y : Str} {py : Pos} (i : Nat) (ha : PE X (.Name y py) (tVar i)) (hr : PVAr K X es a) (hs : starEach (.Name y py :: es) X.env = (false, eval (.Name y py) X.env) :: starEach es X.env := by rfl) : PVAr K X (.Name y py :: es) (.m i :: a) := fun hK => (pa_cons ha (hr hK) hs).weak fun σ H Q => by
  rintro ⟨ρ, rel, q⟩
  obtain ⟨d, ed, q1⟩ := (show Good K ρ σ H ((mutAt ρ i).bind fun _ => (arEv a ρ).bind fun y => .ok (.mi i :: y.1, y.2)) _ from q).bnd'
  obtain ⟨ad, at0, _⟩ := rel.mutA ed
  obtain ⟨y, ey, q2⟩ := q1.bnd
  refine ⟨.ref ad, at0.2, ρ, rel, ?_⟩
  rw [ey]
  exact fun H2 rel2 st2 vs it => (q2.step st2).now rel2 _ ⟨.ref ad, vs, rfl, at0.2, it⟩
theorem pvar_t {f : EF} {a : List Ar} (he : PVN K X e f) (hr : PVAr K X es a) (hs : starEach (e :: es) X.env = (false, eval e X.env) :: starEach es X.env := by rfl) : PVAr K X (e :: es) (.t f :: a) := fun hK => (pa_cons (he hK) (hr hK) hs).weak fun σ H Q => by
  rintro ⟨ρ, rel, q⟩
  obtain ⟨x, ex, q0⟩ := (show Good K ρ σ H ((f ρ).bind fun x => (arEv a x.2).bind fun y => .ok (.td x.1 :: y.1, y.2)) _ from q).bnd
  refine ⟨ρ, rel, ?_⟩
  rw [ex]
  intro H1 rel1 st1 ad had m
  obtain ⟨y, ey, q2⟩ := q0.bnd
  refine ⟨x.2, rel1, ?_⟩
  rw [ey]
  intro H2 rel2 st2 vs it
  have n1 : ¬ MA x.2 σ ad := fun z => by
    obtain ⟨o', e', _⟩ := rel.ma_own (st1.ma.mpr z)
    rw [had] at e'; cases e'
  obtain ⟨u, eu, _⟩ := m.own
  have m2 : MutAt K H2 ad x.1 := m.mono (st2.fzn rel1) (by rw [eu]; exact st2.kp ad u eu n1)
  exact (q2.step (st1.trans st2)).now rel2 _ ⟨ad, vs, rfl, m2, had, it.back fun a ha => st1.old rel1 ha⟩
def arM : List Ar → List Bool
  | [] => []
  | .v _ :: r => false :: arM r
  | .m _ :: r => true :: arM r
  | .t _ :: r => true :: arM r
def arI : List Ar → List Nat
  | [] => []
  | .v _ :: r => arI r
  | .m i :: r => i :: arI r
  | .t _ :: r => arI r
def arT : List Ar → Nat
  | [] => 0
  | .v _ :: r => arT r
  | .m _ :: r => arT r
  | .t _ :: r => arT r + 1
def isR : Itm → Bool
  | .vd _ => false
  | _ => true
def theR : Itm → Option Nat
  | .mi i => some i
  | _ => none
def isT : Itm → Bool
  | .td _ => true
  | _ => false
theorem arEv_shape : ∀ {a : List Ar} {ρ : En} {y : List Itm × En}, arEv a ρ = .ok y → y.1.map isR = arM a ∧ y.1.filterMap theR = arI a ∧ y.1.countP isT = arT a
  | [], ρ, y, h => by cases h; exact ⟨rfl, rfl, rfl⟩
  | .v f :: r, ρ, y, h => by
    obtain ⟨x, _, h⟩ := bind_inv (show (f ρ).bind _ = .ok y from h)
    obtain ⟨z, e, h⟩ := bind_inv h
    cases h
    obtain ⟨h1, h2, h3⟩ := arEv_shape e
    simp only [List.map_cons, List.filterMap_cons]
    exact ⟨by rw [h1]; rfl, h2, by rw [List.countP_cons_of_neg (by simp [isT])]; exact h3⟩
  | .m i :: r, ρ, y, h => by
    obtain ⟨_, _, h⟩ := bind_inv (show (mutAt ρ i).bind _ = .ok y from h)
    obtain ⟨z, e, h⟩ := bind_inv h
    cases h
    obtain ⟨h1, h2, h3⟩ := arEv_shape e
    simp only [List.map_cons, List.filterMap_cons]
    exact ⟨by rw [h1]; rfl, by rw [h2]; rfl, by rw [List.countP_cons_of_neg (by simp [isT])]; exact h3⟩
  | .t f :: r, ρ, y, h => by
    obtain ⟨x, _, h⟩ := bind_inv (show (f ρ).bind _ = .ok y from h)
    obtain ⟨z, e, h⟩ := bind_inv h
    cases h
    obtain ⟨h1, h2, h3⟩ := arEv_shape e
    simp only [List.map_cons, List.filterMap_cons]
    exact ⟨by rw [h1]; rfl, h2, by rw [List.countP_cons_of_pos (by simp [isT]), h3]; rfl⟩
theorem arIn_get {ρ : En} : ∀ {l : List Itm} {ds : List D}, arIn ρ l = .ok ds → ds.length = l.length ∧ ∀ (j : Nat) z, l[j]? = some z → ∃ d, ds[j]? = some d ∧ (match z with | .vd d' => d = d' | .mi i => mutAt ρ i = .ok d | .td d' => d = d')
  | [], ds, h => by cases h; exact ⟨rfl, fun j z e => by simp at e⟩
  | .vd d :: r, ds, h => by
    obtain ⟨ds', e, h⟩ := bind_inv (show (arIn ρ r).bind _ = .ok ds from h)
    cases h
    obtain ⟨h1, h2⟩ := arIn_get e
    refine ⟨by simp [h1], fun j z ez => ?_⟩
    cases j with
    | zero => simp at ez; subst ez; exact ⟨d, rfl, rfl⟩
    | succ j => obtain ⟨d', h3, h4⟩ := h2 j z (by simpa using ez); exact ⟨d', by simpa using h3, h4⟩
  | .td d :: r, ds, h => by
    obtain ⟨ds', e, h⟩ := bind_inv (show (arIn ρ r).bind _ = .ok ds from h)
    cases h
    obtain ⟨h1, h2⟩ := arIn_get e
    refine ⟨by simp [h1], fun j z ez => ?_⟩
    cases j with
    | zero => simp at ez; subst ez; exact ⟨d, rfl, rfl⟩
    | succ j => obtain ⟨d', h3, h4⟩ := h2 j z (by simpa using ez); exact ⟨d', by simpa using h3, h4⟩
  | .mi i :: r, ds, h => by
    obtain ⟨d, e0, h⟩ := bind_inv (show (mutAt ρ i).bind _ = .ok ds from h)
    obtain ⟨ds', e, h⟩ := bind_inv h
    cases h
    obtain ⟨h1, h2⟩ := arIn_get e
    refine ⟨by simp [h1], fun j z ez => ?_⟩
    cases j with
    | zero => simp at ez; subst ez; exact ⟨d, rfl, e0⟩
    | succ j => obtain ⟨d', h3, h4⟩ := h2 j z (by simpa using ez); exact ⟨d', by simpa using h3, h4⟩
theorem ItOk.get {σ : L2.St} {H₀ H : Hp} : ∀ {l : List Itm} {vs : List V}, ItOk K σ H₀ H l vs → vs.length = l.length ∧ ∀ (j : Nat) z, l[j]? = some z → ∃ v, vs[j]? = some v ∧ (match z with | .vd d => Fz K H d v | .mi i => σ[i]? = some (some v) | .td d => ∃ a, v = .ref a ∧ MutAt K H a d ∧ H₀ a = none)
  | [], vs, h => by cases (show vs = [] from h); exact ⟨rfl, fun j z e => by simp at e⟩
  | .vd d :: r, vs, h => by
    obtain ⟨v, t, rfl, f, h⟩ := h
    obtain ⟨h1, h2⟩ := ItOk.get h
    refine ⟨by simp [h1], fun j z ez => ?_⟩
    cases j with
    | zero => simp at ez; subst ez; exact ⟨v, rfl, f⟩
    | succ j => obtain ⟨d', h3, h4⟩ := h2 j z (by simpa using ez); exact ⟨d', by simpa using h3, h4⟩
  | .mi i :: r, vs, h => by
    obtain ⟨v, t, rfl, f, h⟩ := h
    obtain ⟨h1, h2⟩ := ItOk.get h
    refine ⟨by simp [h1], fun j z ez => ?_⟩
    cases j with
    | zero => simp at ez; subst ez; exact ⟨v, rfl, f⟩
    | succ j => obtain ⟨d', h3, h4⟩ := h2 j z (by simpa using ez); exact ⟨d', by simpa using h3, h4⟩
  | .td d :: r, vs, h => by
    obtain ⟨v, t, rfl, f, g, h⟩ := h
    obtain ⟨h1, h2⟩ := ItOk.get h
    refine ⟨by simp [h1], fun j z ez => ?_⟩
    cases j with
    | zero => simp at ez; subst ez; exact ⟨_, rfl, v, rfl, f, g⟩
    | succ j => obtain ⟨d', h3, h4⟩ := h2 j z (by simpa using ez); exact ⟨d', by simpa using h3, h4⟩
end
end FL
set_option Elab.async false
set_option linter.all false
set_option maxRecDepth 100000
set_option maxHeartbeats 4000000
namespace FL
open PySem L2 PySem.Spec
open PyProof.Rows hiding St
section
variable {K : PySem.W.Frag} {ρ : En} {σ : L2.St} {H H' : Hp}
theorem out_ok {m : List (Nat × Sl)} (r : Rel K ρ σ H) (hA : ∀ i c, m.lookup i = some c → ∀ a, At ρ σ i a → ∃ q d, c = .ow q d ∧ MutAt K H' a d) (hB : ∀ i a, At ρ σ i a → m.lookup i = none → H' a = H a) (fz : Fzn H H') :
    Rel K (bkL m 0 ρ) σ H' ∧ ∀ (i : Nat) p, (∃ d, ρ[i]? = some (.ow p d)) ↔ ∃ d, (bkL m 0 ρ)[i]? = some (.ow p d) := by
  have gt : ∀ i : Nat, (bkL m 0 ρ)[i]? = (ρ[i]?).map (bk1 m i) := fun i => by rw [bkL_get, Nat.zero_add]
  have mdB : ∀ (i : Nat) p, (∃ d, ρ[i]? = some (.ow p d)) ↔ ∃ d, (bkL m 0 ρ)[i]? = some (.ow p d) := fun i p => by
    rw [gt]
    constructor
    · rintro ⟨d, e⟩
      rw [e]
      simp only [Option.map_some, bk1]
      split
      · rename_i p' d1 q' d2 h1 h2; cases h1; exact ⟨_, rfl⟩
      · exact ⟨_, rfl⟩
    · rintro ⟨d, e⟩
      cases er : ρ[i]? with
      | none => rw [er] at e; cases e
      | some x =>
        rw [er] at e
        simp only [Option.map_some, Option.some.injEq, bk1] at e
        split at e
        · cases e; exact ⟨_, rfl⟩
        · subst e; exact ⟨_, rfl⟩
  have atB : ∀ i a, At (bkL m 0 ρ) σ i a → At ρ σ i a := fun i a ⟨⟨p, d, e1⟩, e2⟩ => ⟨⟨p, (mdB i p).mpr ⟨d, e1⟩⟩, e2⟩
  refine ⟨⟨by rw [bkL_len]; exact r.len, fun i x v e1 e2 => ?_, fun i j a h1 h2 => r.sep i j a (atB i a h1) (atB j a h2)⟩, mdB⟩
  rw [gt] at e1
  cases er : ρ[i]? with
  | none => rw [er] at e1; cases e1
  | some y =>
    rw [er] at e1
    simp only [Option.map_some, Option.some.injEq] at e1
    have o := r.ok i y v er e2
    cases y with
    | no => simp only [bk1] at e1; subst e1; trivial
    | val d =>
      simp only [bk1] at e1
      subst e1
      exact o.mono fz fun a _ ⟨p, d', z⟩ => nomatch z
    | ow p d =>
      cases v with
      | none => exact o.elim
      | some v =>
        cases v with
        | ref a =>
          have ai : At ρ σ i a := ⟨⟨p, d, er⟩, e2⟩
          cases el : m.lookup i with
          | none =>
            simp only [bk1, el] at e1
            subst e1
            exact o.mono fz fun b e3 _ => by cases e3; exact hB i a ai el
          | some c =>
            obtain ⟨q, d', rfl, mm⟩ := hA i c el a ai
            simp only [bk1, el] at e1
            subst e1
            exact mm
        | _ => exact o.elim
end
theorem mi_pos : ∀ {l : List Itm} {j j' i : Nat}, (l.filterMap theR).Nodup → l[j]? = some (.mi i) → l[j']? = some (.mi i) → j = j'
  | [], j, j', i, _, h, _ => by simp at h
  | z :: r, j, j', i, nd, h1, h2 => by
    have rest : (r.filterMap theR).Nodup := by
      rw [List.filterMap_cons] at nd
      cases z with
      | mi k => exact (List.nodup_cons.mp nd).2
      | _ => exact nd
    have mem : ∀ {j : Nat}, r[j]? = some (.mi i) → i ∈ r.filterMap theR := fun h => List.mem_filterMap.mpr ⟨.mi i, List.mem_of_getElem? h, rfl⟩
    have hd : z = .mi i → ∀ {j : Nat}, r[j]? ≠ some (.mi i) := fun e j h => by
      subst e
      rw [List.filterMap_cons] at nd
      exact (List.nodup_cons.mp nd).1 (mem h)
    cases j with
    | zero =>
      cases j' with
      | zero => rfl
      | succ j' => exact absurd (by simpa using h2) (hd (by simpa using h1) (j := j'))
    | succ j =>
      cases j' with
      | zero => exact absurd (by simpa using h1) (hd (by simpa using h2) (j := j))
      | succ j' =>
        have := mi_pos (l := r) rest (by simpa using h1) (by simpa using h2)
        rw [this]
theorem td_pos : ∀ {l : List Itm} {j j' : Nat} {d d' : D}, l.countP isT ≤ 1 → l[j]? = some (.td d) → l[j']? = some (.td d') → j = j'
  | [], j, j', d, d', _, h, _ => by simp at h
  | z :: r, j, j', d, d', c, h1, h2 => by
    have rest : r.countP isT ≤ 1 := by
      rw [List.countP_cons] at c; omega
    have none : isT z = true → ∀ {j : Nat} {d : D}, r[j]? ≠ some (.td d) := fun e j d h => by
      rw [List.countP_cons, if_pos e] at c
      have : 0 < r.countP isT := List.countP_pos_iff.mpr ⟨_, List.mem_of_getElem? h, rfl⟩
      omega
    cases j with
    | zero =>
      cases j' with
      | zero => rfl
      | succ j' =>
        have e : z = .td d := by simpa using h1
        subst e
        exact absurd (by simpa using h2) (none rfl (j := j'))
    | succ j =>
      cases j' with
      | zero =>
        have e : z = .td d' := by simpa using h2
        subst e
        exact absurd (by simpa using h1) (none rfl (j := j))
      | succ j' =>
        have := td_pos (l := r) rest (by simpa using h1) (by simpa using h2)
        rw [this]
theorem arPs_lookup : ∀ {l : List Itm} {os : List D} {i : Nat} {c : Sl}, (arPs l os).lookup i = some c → ∃ (j : Nat) (d : D), l[j]? = some (.mi i) ∧ os[j]? = some d ∧ c = .ow true d
  | [], os, i, c, h => by simp [arPs] at h
  | z :: r, [], i, c, h => by cases z <;> simp [arPs] at h
  | .vd d :: r, o :: os, i, c, h => by
    obtain ⟨j, d', h1, h2, h3⟩ := arPs_lookup (l := r) (os := os) (by simpa [arPs] using h)
    exact ⟨j + 1, d', by simpa using h1, by simpa using h2, h3⟩
  | .td d :: r, o :: os, i, c, h => by
    obtain ⟨j, d', h1, h2, h3⟩ := arPs_lookup (l := r) (os := os) (by simpa [arPs] using h)
    exact ⟨j + 1, d', by simpa using h1, by simpa using h2, h3⟩
  | .mi k :: r, o :: os, i, c, h => by
    simp only [arPs] at h
    rw [List.lookup_cons] at h
    by_cases e : i = k
    · subst e
      simp only [beq_self_eq_true] at h
      cases h
      exact ⟨0, o, rfl, rfl, rfl⟩
    · rw [beq_false_of_ne e] at h
      obtain ⟨j, d', h1, h2, h3⟩ := arPs_lookup (l := r) (os := os) h
      exact ⟨j + 1, d', by simpa using h1, by simpa using h2, h3⟩
theorem arPs_has : ∀ {l : List Itm} {os : List D} {i j : Nat} {d : D}, l[j]? = some (.mi i) → os[j]? = some d → ∃ c, (arPs l os).lookup i = some c
  | [], os, i, j, d, h, _ => by simp at h
  | z :: r, [], i, j, d, _, h => by simp at h
  | .vd _ :: r, o :: os, i, j, d, h1, h2 => by
    cases j with
    | zero => simp at h1
    | succ j =>
      simp only [arPs]
      exact arPs_has (l := r) (by simpa using h1) (by simpa using h2)
  | .td _ :: r, o :: os, i, j, d, h1, h2 => by
    cases j with
    | zero => simp at h1
    | succ j =>
      simp only [arPs]
      exact arPs_has (l := r) (by simpa using h1) (by simpa using h2)
  | .mi k :: r, o :: os, i, j, d, h1, h2 => by
    simp only [arPs]
    rw [List.lookup_cons]
    by_cases e : i = k
    · subst e
      simp
    · rw [beq_false_of_ne e]
      cases j with
      | zero => simp at h1; exact absurd h1.symm e
      | succ j => exact arPs_has (l := r) (by simpa using h1) (by simpa using h2)
section
variable {K : PySem.W.Frag} {ρ0 ρ : En} {σ : L2.St} {H0 H H' : Hp} {l : List Itm} {ds os : List D} {vs : List V} {ms : List Bool}
theorem args_at (rel : Rel K ρ σ H) (it : ItOk K σ H0 H l vs) (hi : arIn ρ l = .ok ds) (hm : l.map isR = ms) {j : Nat} {a : Addr} (hd : ds.length = ms.length) (h : At (slots ms ds) (vs.map some) j a) : (∃ i, l[j]? = some (.mi i) ∧ At ρ σ i a) ∨ ∃ d, l[j]? = some (.td d) ∧ H0 a = none := by
  obtain ⟨v1, v2⟩ := it.get
  obtain ⟨d1, d2⟩ := arIn_get hi
  obtain ⟨⟨p, d, e1⟩, e2⟩ := h
  obtain ⟨rfl, em, ed⟩ := slots_true hd e1
  rw [← hm, List.getElem?_map] at em
  cases el : l[j]? with
  | none => rw [el] at em; cases em
  | some z =>
    rw [el] at em
    obtain ⟨v, ev, es⟩ := v2 j _ el
    obtain ⟨d', ed', em'⟩ := d2 j _ el
    rw [List.getElem?_map, ev] at e2
    cases e2
    cases z with
    | vd _ => cases em
    | mi i =>
      obtain ⟨q, eq⟩ := mutAt_inv em'
      exact .inl ⟨i, rfl, ⟨q, d', eq⟩, es⟩
    | td d0 =>
      obtain ⟨b, eb, _, hb⟩ := es
      cases eb
      exact .inr ⟨d0, rfl, hb⟩
theorem args_rel (r0 : Rel K ρ0 σ H0) (st : Stp ρ0 ρ σ H0 H) (rel : Rel K ρ σ H) (it : ItOk K σ H0 H l vs) (hi : arIn ρ l = .ok ds) (hm : l.map isR = ms) (nd : (l.filterMap theR).Nodup) (ct : l.countP isT ≤ 1) : ds.length = ms.length ∧ vs.length = ms.length ∧ Rel K (slots ms ds) (vs.map some) H := by
  obtain ⟨v1, v2⟩ := it.get
  obtain ⟨d1, d2⟩ := arIn_get hi
  have hl : ms.length = l.length := by rw [← hm, List.length_map]
  have hd : ds.length = ms.length := by rw [d1, hl]
  have hv : vs.length = ms.length := by rw [v1, hl]
  have apart : ∀ {i : Nat} {a : Addr}, At ρ σ i a → H0 a = none → False := fun h1 h2 => by
    obtain ⟨o', e', _⟩ := r0.ma_own (st.ma.mpr ⟨_, h1⟩)
    rw [h2] at e'; cases e'
  refine ⟨hd, hv, ⟨by rw [slots_len hd, List.length_map, hv], fun j x v e1 e2 => ?_, fun j j' a h1 h2 => ?_⟩⟩
  · rw [slots_get hd] at e1
    cases em : ms[j]? with
    | none => rw [em] at e1; cases e1
    | some m =>
      cases ed : ds[j]? with
      | none => rw [em, ed] at e1; cases e1
      | some d =>
        rw [em, ed] at e1
        rw [← hm, List.getElem?_map] at em
        cases el : l[j]? with
        | none => rw [el] at em; cases em
        | some z =>
          rw [el] at em
          obtain ⟨u, eu, es⟩ := v2 j z el
          obtain ⟨d', ed', em'⟩ := d2 j z el
          rw [ed] at ed'
          cases ed'
          rw [List.getElem?_map, eu] at e2
          cases e2
          cases z with
          | vd dz =>
            cases em
            cases e1
            cases em'
            exact es
          | mi i =>
            cases em
            cases e1
            obtain ⟨q, eq⟩ := mutAt_inv em'
            have o := rel.ok i _ _ eq es
            show SlOk K H (.ow true d) (some u)
            cases u with
            | ref a => exact o
            | _ => exact o.elim
          | td dz =>
            cases em
            cases e1
            cases em'
            obtain ⟨b, rfl, mb, _⟩ := es
            exact mb
  · rcases args_at rel it hi hm hd h1 with ⟨i, e1, a1⟩ | ⟨d, e1, a1⟩
    · rcases args_at rel it hi hm hd h2 with ⟨i', e2, a2⟩ | ⟨d, e2, a2⟩
      · have := rel.sep i i' a a1 a2
        subst this
        exact mi_pos nd e1 e2
      · exact (apart a1 a2).elim
    · rcases args_at rel it hi hm hd h2 with ⟨i', e2, a2⟩ | ⟨d, e2, a2⟩
      · exact (apart a2 a1).elim
      · exact td_pos ct e1 e2
theorem args_back (r0 : Rel K ρ0 σ H0) (st : Stp ρ0 ρ σ H0 H) (rel : Rel K ρ σ H) (it : ItOk K σ H0 H l vs) (hi : arIn ρ l = .ok ds) (hm : l.map isR = ms) (hd : ds.length = ms.length) (ho : os.length = ms.length) (ra : Rel K (slots ms os) (vs.map some) H') (hC : ∀ a o, H a = some o → ¬ MA (slots ms ds) (vs.map some) a → H' a = some o) :
    Rel K (arOut ρ l os) σ H' ∧ Stp ρ0 (arOut ρ l os) σ H0 H' := by
  obtain ⟨v1, v2⟩ := it.get
  obtain ⟨d1, d2⟩ := arIn_get hi
  have hl : ms.length = l.length := by rw [← hm, List.length_map]
  have apart : ∀ {i : Nat} {a : Addr}, At ρ σ i a → H0 a = none → False := fun h1 h2 => by
    obtain ⟨o', e', _⟩ := r0.ma_own (st.ma.mpr ⟨_, h1⟩)
    rw [h2] at e'; cases e'
  have kp0 : ∀ a o, H0 a = some o → ¬ MA ρ0 σ a → H' a = some o := fun a o e n => hC a o (st.kp a o e n) fun ⟨j, h⟩ => by
    rcases args_at rel it hi hm hd h with ⟨i, _, a1⟩ | ⟨d, _, a1⟩
    · exact n (st.ma.mpr ⟨i, a1⟩)
    · rw [e] at a1; cases a1
  have fz : Fzn H H' := fun a o e sy => hC a o e fun ⟨j, h⟩ => by
    obtain ⟨⟨p, d, e1⟩, e2⟩ := id h
    obtain ⟨rfl, em, ed⟩ := slots_true hd e1
    rcases args_at rel it hi hm hd h with ⟨i, _, a1⟩ | ⟨d, el, a1⟩
    · obtain ⟨o', e', ow⟩ := rel.ma_own ⟨i, a1⟩
      rw [e] at e'
      cases e'
      exact ow.nostay sy
    · obtain ⟨v, ev, b, eb, mb, _⟩ := v2 j _ el
      rw [List.getElem?_map, ev] at e2
      cases e2
      cases eb
      obtain ⟨o', e', ow⟩ := mb.own
      rw [e] at e'
      cases e'
      exact ow.nostay sy
  have key := out_ok (H := H) (H' := H') (m := arPs l os) rel (fun i c e a at0 => by
    obtain ⟨j, d, e1, e2, rfl⟩ := arPs_lookup e
    obtain ⟨v, ev, es⟩ := v2 j _ e1
    replace es : σ[i]? = some (some v) := es
    rw [at0.2] at es
    cases es
    refine ⟨true, d, rfl, ?_⟩
    have em : ms[j]? = some true := by rw [← hm, List.getElem?_map, e1]; rfl
    exact ra.ok j (.ow true d) (some (.ref a)) (by rw [slots_get ho, em, e2]; rfl) (by rw [List.getElem?_map, ev]; rfl)) (fun i a at0 e => by
    obtain ⟨u, hu, _⟩ := rel.ma_own ⟨i, at0⟩
    rw [hu]
    refine hC a u hu fun ⟨j, h⟩ => ?_
    rcases args_at rel it hi hm hd h with ⟨i', el, a1⟩ | ⟨d, _, a1⟩
    · have := rel.sep i i' a at0 a1
      subst this
      have hj : j < os.length := by rw [ho, hl]; exact (List.getElem?_eq_some_iff.mp el).1
      obtain ⟨c, ec⟩ := arPs_has el (List.getElem?_eq_getElem hj)
      rw [ec] at e
      cases e
    · exact apart at0 a1) fz
  exact ⟨key.1, ⟨fun i p => (st.md i p).trans (key.2 i p), kp0⟩⟩
end
section
variable {K : PySem.W.Frag} {X : Cx} {k j : Nat} {ps : List Str} {E : XK} {x : Str} {p pos : Pos} {e : Expr} {es : List Expr} {F : List D → R (D × List D)} {a : List Ar}
def OLen (F : List D → R (D × List D)) (n : Nat) : Prop := ∀ ds y, F ds = .ok y → y.2.length = n
theorem olen_run {ms : List Bool} {fr : Bool} {m : Nat} {b : SF} : OLen (run ms fr m b) ms.length := fun ds y h => by
  unfold run at h
  split at h
  · rename_i hd
    obtain ⟨z, _, h⟩ := bind_inv h
    obtain ⟨fl, ρ⟩ := z
    cases fr with
    | false =>
      cases fl with
      | rt d => cases h; exact outs_len hd
      | nx => cases h; exact outs_len hd
      | _ => cases h
    | true =>
      cases fl with
      | rf d => cases h; exact outs_len hd
      | _ => cases h
  · cases h
theorem goCM {fr : Bool} (ho : OLen F (arM a).length) (nd : (arI a).Nodup) (ct : arT a ≤ 1) (σ : L2.St) (H : Hp) (Q : VK) (ρ : En) (rel : Rel K ρ σ H)
    (q : Good K ρ σ H (eCallM F a ρ) fun d ρ' H' => ∀ v, (if fr = true then ∃ a, v = .ref a ∧ H a = none ∧ MutAt K H' a d else Fz K H' d v) → Q v H') : tCall (spF K (arM a) fr F) [] E (tAr K a) σ H Q := by
  obtain ⟨y, ey, q0⟩ := q.bnd
  obtain ⟨h1, h2, h3⟩ := arEv_shape ey
  refine ⟨ρ, rel, ?_⟩
  rw [ey]
  intro H1 rel1 st1 vs it
  obtain ⟨ds, ed, q1⟩ := q0.bnd'
  obtain ⟨z, ez, q2⟩ := q1.bnd'
  obtain ⟨hd, hv, ra⟩ := args_rel rel st1 rel1 it ed h1 (by rw [h2]; exact nd) (by rw [h3]; exact ct)
  rw [List.append_nil]
  refine ⟨ds, hv, hd, ra, z.1, z.2, ez, fun v H' rb kp fin => ?_⟩
  obtain ⟨r2, s2⟩ := args_back rel st1 rel1 it ed h1 hd (ho ds z ez) rb kp
  refine q2 H' r2 s2 v ?_
  cases fr with
  | false => exact fin
  | true =>
    obtain ⟨ad, rfl, ha, m⟩ := fin
    exact ⟨ad, rfl, st1.old rel1 ha, m⟩
theorem pv_callM (c : Callee X.prog X.w X.K X.mg X.base x k ps (spF X.K (arM a) false F)) (ho : OLen F (arM a).length) (nd : (arI a).Nodup) (ct : arT a ≤ 1) (hr : Room j X.A) (hg : Gl X x) (hx : Passes (CXe X.prog X.w) X E) (ha : PVAr K X (e :: es) a) (hj : k ≤ j := by decide) (hdb : (x == ("__debug__" : Str)) = false := by decide)
    (he : starEach (e :: es) X.env = (false, eval e X.env) :: starEach es X.env := by rfl) (hpl : (backTo pos (starEach es X.env)).any (·.1) = false := by rfl) : PV K X (.Call (.Name x p) (e :: es) [] pos) (eCallM F a) := fun hK => by
  subst hK
  refine (pe_callee c hr hg hx (ha rfl) hj hdb he hpl).weak fun σ H Q => ?_
  rintro ⟨ρ, rel, q⟩
  exact goCM (fr := false) ho nd ct σ H Q ρ rel q
end
end FL
set_option Elab.async false
set_option linter.all false
set_option maxRecDepth 100000
set_option maxHeartbeats 4000000
namespace FL
open PySem L2 PySem.Spec
open PyProof.Rows hiding St
section
variable {K : PySem.W.Frag} {X : Cx} {st : Stmt} {s : SF} {e : Expr} {f h : EF} {pos : Pos}
theorem frz_rel {C : SC} {ρ : En} {σ : L2.St} {H : Hp} {i : Nat} {d : D} (rel : RelS K C ρ σ H) (e : ρ[i]? = some (.ow false d)) : ∃ a u, H a = some u ∧ Own u ∧ ∀ o, RelS K C (ρ.set i (.val d)) σ (upd H a (.frz o u)) ∧ Fzn H (upd H a (.frz o u)) := by
  obtain ⟨a, at0, m⟩ := rel.rel.mutA (d := d) (show mutAt ρ i = .ok d by unfold mutAt; rw [e])
  obtain ⟨u, e1, ow⟩ := m.own
  refine ⟨a, u, e1, ow, fun o => ?_⟩
  have hl : i < ρ.length := (List.getElem?_eq_some_iff.mp e).1
  have hfr := rel.own i a d e at0.2
  have fz : Fzn H (upd H a (.frz o u)) := fun b w e2 sy => by
    rw [upd_ne fun z => by subst z; rw [e1] at e2; cases e2; exact ow.nostay sy]
    exact e2
  refine ⟨?_, fz⟩
  have fd : Fz K (upd H a (.frz o u)) d (.ref a) := by
    cases d with
    | list ds =>
      obtain ⟨vs, h1, h2⟩ := m
      rw [e1] at h1
      cases h1
      simp only [Fz]
      exact ⟨a, vs, rfl, .inl ⟨o, upd_same⟩, h2.mono fz⟩
    | dict kvs =>
      simp only [Fz]
      rcases m with ⟨kk, h1, h2⟩ | ⟨kk, h1, h2⟩
      · rw [e1] at h1
        cases h1
        exact ⟨a, o, rfl, .inl ⟨kk, upd_same, h2.mono fz⟩⟩
      · rw [e1] at h1
        cases h1
        exact ⟨a, o, rfl, .inr ⟨kk, upd_same, h2.mono fz⟩⟩
    | _ => exact m.elim
  have atw : ∀ j b, At (ρ.set i (.val d)) σ j b → j ≠ i ∧ At ρ σ j b := fun j b ⟨⟨q, dd, e1⟩, e2⟩ => by
    by_cases c : i = j
    · subst c
      rw [List.getElem?_set_self hl] at e1; cases e1
    · rw [List.getElem?_set_ne c] at e1
      exact ⟨fun z => c z.symm, ⟨q, dd, e1⟩, e2⟩
  refine ⟨⟨by rw [List.length_set]; exact rel.rel.len, fun j y w e2 e3 => ?_, fun j k b h1 h2 => rel.rel.sep j k b (atw j b h1).2 (atw k b h2).2⟩, fun b w e2 n => ?_, fun j b c e2 e3 => ?_, fun j => ?_, fun j c e2 => ?_, rel.prm⟩
  · by_cases c : i = j
    · subst c
      rw [List.getElem?_set_self hl] at e2
      cases e2
      rw [at0.2] at e3
      cases e3
      exact fd
    · rw [List.getElem?_set_ne c] at e2
      refine (rel.rel.ok j y w e2 e3).mono fz fun b e4 ⟨p, dd, e5⟩ => ?_
      subst e4; subst e5
      refine upd_ne fun z => ?_
      subst z
      exact c (rel.rel.sep i j b at0 ⟨⟨p, dd, e2⟩, e3⟩)
  · rw [upd_ne fun z => by subst z; rw [hfr] at e2; cases e2]
    exact rel.keep b w e2 n
  · by_cases c : i = j
    · subst c
      rw [List.getElem?_set_self hl] at e2; cases e2
    · rw [List.getElem?_set_ne c] at e2
      exact rel.own j b _ e2 e3
  · by_cases c : i = j
    · subst c
      rw [List.getElem?_set_self hl, ← rel.pin i, e]
      constructor
      · rintro ⟨_, z⟩; cases z
      · rintro ⟨_, z⟩; cases z
    · rw [List.getElem?_set_ne c]; exact rel.pin j
  · by_cases k : i = j
    · subst k
      rw [List.getElem?_set_self hl] at e2; cases e2
    · rw [List.getElem?_set_ne k] at e2
      exact rel.fix j c e2
theorem pvs_then (i : Nat) (hh : PSV K X st s) : PSV K X st (sThen i s) := fun hK C => by
  have h1 : PS X st (fun Dn σ H => tS K C s { Dn with nx := fun σ H => ∃ a u, H a = some u ∧ Own u ∧ ∀ o, Dn.nx σ (upd H a (.frz o u)) } σ H) := fun pins sh σ H Dn I q => by
    refine thn (hh hK C pins sh σ H _ I q) fun fl s1 z => ?_
    cases fl with
    | next =>
      obtain ⟨σ', H', I', a, u, e, ow, q⟩ := z
      obtain ⟨o, ho⟩ := (I'.hok a u e).some
      exact ⟨σ', _, frzI I' e ow ho, q o⟩
    | brk => exact z
    | cont => exact z
    | ret v => exact z
  refine h1.weak fun Dn σ H => ?_
  rintro ⟨ρ, rel, g⟩
  refine ⟨ρ, rel, ?_⟩
  obtain ⟨x, ex, g1⟩ := g.bnd
  rw [ex]
  obtain ⟨fl, ρ1⟩ := x
  cases fl with
  | nx =>
    replace g1 : GoodS K C H (match ρ1[i]? with | some (.ow false d) => .ok (.nx, ρ1.set i (.val d)) | _ => .bad) Dn := g1
    cases e : ρ1[i]? with
    | none => rw [e] at g1; exact g1.elim
    | some y =>
      rw [e] at g1
      cases y with
      | ow p d =>
        cases p with
        | true => exact g1.elim
        | false =>
          intro σ' H' r z
          obtain ⟨a, u, e1, ow, k⟩ := frz_rel r e
          exact ⟨a, u, e1, ow, fun o => g1 σ' _ (k o).1 (z.trans (k o).2)⟩
      | _ => exact g1.elim
  | bk => exact g1
  | ct => exact g1
  | rt d => exact g1
  | rf d => exact g1
theorem pvs_ownC {elt tg iter : Expr} {ifs : List Expr} {scope : Scope} {it : IF} {g : GF} {t : TF} {dom : List Nat} {x0 : Str} {pos' spos : Pos} (i0 : Nat) (L : List Str) (ix : List Nat) (M : List Str) (hN : X.N.Nodup) (hii : X.N[i0]? = some x0) (hx0 : X.env.scope.names.lookup x0 = some .local)
    (hsw : swapsWith (.ListComp elt [⟨tg, iter, ifs, 0⟩] scope pos) (some (.Name x0 pos')) spos.line X.env = pure true) (hc : X.calm = true) (hk : scope.kind = .function)
    (hd : compOkC X.env.scope scope X.N ix = true) (hM : M = L ++ ix.map fun i => X.N.getD i "") (nd : ix.Nodup) (hi : PVI K X tg iter it)
    (hg : ∀ C s₃ H₃ fp, PVG K (cxCompC X M scope C s₃ H₃ fp) dom tg g) (hgo : dom.all (fun i => decide (i < L.length)) = true)
    (ht : ∀ C s₃ H₃ fp, PVTs K (cxCompC X M scope C s₃ H₃ fp) ifs t) (he : ∀ C s₃ H₃ fp, PV K (cxCompC X M scope C s₃ H₃ fp) elt f)
    (hs : ∀ x, foldedSetIterable iter X.env x = pure x := by intro _; rfl) :
    PSV K X (.Assign [.Name x0 pos'] (.ListComp elt [⟨tg, iter, ifs, 0⟩] scope pos) spos) (sOwn i0 (eComp L.length ix it g t f)) := fun hK C =>
  (ps_setK i0 L ix M hN hii hx0 hsw hc hk hd hM (hi hK) (fun C s₃ H₃ fp => hg C s₃ H₃ fp hK) (gonly_tG hgo) (fun C s₃ H₃ fp => ht C s₃ H₃ fp hK) (fun C s₃ H₃ fp => he C s₃ H₃ fp hK) hs).weak fun Dn σ H q => goComp nd hgo σ H _ (goOwn Dn σ H q)
end
end FL
set_option Elab.async false
set_option linter.all false
set_option maxRecDepth 100000
set_option maxHeartbeats 4000000
namespace FL
open PySem L2 PySem.Spec
open PyProof.Rows hiding St
structure Blt (mg : Str → Option Value) : Prop where
  n_abs : mg "abs" = none
  n_isinstance : mg "isinstance" = none
  n_int : mg "int" = none
  n_bool : mg "bool" = none
  n_tuple : mg "tuple" = none
  n_list : mg "list" = none
  n_str : mg "str" = none
  n_len : mg "len" = none
  n_all : mg "all" = none
  n_range : mg "range" = none
  n_zip : mg "zip" = none
  n_enumerate : mg "enumerate" = none
  n_max : mg "max" = none
  n_min : mg "min" = none
  n_sum : mg "sum" = none
namespace Bt
theorem abs : bootBuiltins "abs" = some (.builtin "abs") := by decide +kernel
theorem len : bootBuiltins "len" = some (.builtin "len") := by decide +kernel
theorem all : bootBuiltins "all" = some (.builtin "all") := by decide +kernel
theorem max : bootBuiltins "max" = some (.builtin "max") := by decide +kernel
theorem min : bootBuiltins "min" = some (.builtin "min") := by decide +kernel
theorem sum : bootBuiltins "sum" = some (.builtin "sum") := by decide +kernel
theorem int : bootBuiltins "int" = some (.type "int") := by decide +kernel
theorem bool : bootBuiltins "bool" = some (.type "bool") := by decide +kernel
theorem tuple : bootBuiltins "tuple" = some (.type "tuple") := by decide +kernel
theorem list : bootBuiltins "list" = some (.type "list") := by decide +kernel
theorem str : bootBuiltins "str" = some (.type "str") := by decide +kernel
end Bt
theorem pvs_nox {K : PySem.W.Frag} {X : Cx} {st : List Stmt} {f : SF} (h : PSVs K X.nox st f) : PSVs K X st f := fun hK C => PSs.nox (h hK C)
theorem law_sp {K : PySem.W.Frag} {G : List D → R D} {H : Hp} {a : Addr} {ns : List Int} (h : G [.list (ns.map PyData.int)] = .ok (.bool true)) (hO : Only H) (hS : SqL K H a (ns.map V.int)) : spP K 1 false G [.ref a] H (fun v _ => v = .bl true) fun _ _ _ => False := by
  refine ⟨[.list (ns.map PyData.int)], rfl, ?_, .bool true, h, fun v H' _ fz => by simpa [Fz] using fz⟩
  simp only [FzAll, Fz]
  refine ⟨.ref a, [], rfl, ⟨a, ns.map V.int, rfl, ?_, FzAll.ofInts ns⟩, rfl⟩
  rcases hS with (hS | ⟨o, hS⟩) | hS
  · rcases hO a with z | ⟨o, xs, z⟩
    · rw [z] at hS; cases hS
    · rw [z] at hS; cases hS
  · exact .inl ⟨o, hS⟩
  · exact .inr hS
end FL
set_option Elab.async false
set_option linter.all false
set_option maxRecDepth 100000
set_option maxHeartbeats 4000000
namespace FL
open PySem L2 PySem.Spec
open PyProof.Rows hiding St
theorem capS_id {k : Nat} {σ : L2.St} (h : ∀ j, j < k → σ[j]? = some none) : capS k (List.range' k (σ.length - k)) σ = σ := by
  have hk : k ≤ σ.length := by
    cases k with
    | zero => exact Nat.zero_le _
    | succ k =>
      have := h k (Nat.lt_succ_self k)
      exact (List.getElem?_eq_some_iff.mp this).1
  apply List.ext_getElem?
  intro i
  unfold capS
  by_cases hi : i < k
  · rw [List.getElem?_append_left (by simpa using hi), List.getElem?_replicate, if_pos hi, h i hi]
  · rw [List.getElem?_append_right (by simpa using Nat.le_of_not_lt hi), List.length_replicate, List.getElem?_map]
    by_cases hl : i < σ.length
    · rw [List.getElem?_range' (by omega)]
      simp only [Option.map_some, Nat.one_mul]
      rw [show k + (i - k) = i by omega, List.getElem?_eq_getElem hl]
      rfl
    · rw [List.getElem?_eq_none (by simp; omega), List.getElem?_eq_none (by omega)]
      rfl
section
variable {K : PySem.W.Frag} {X : Cx} {it2 : IF} {g2 : GF} {t2 : TF} {f : EF} {dom2 : List Nat}
theorem goIn {k2 : Nat} (hgo : dom2.all (fun i => decide (i < k2)) = true) {β β' : En} {σ : L2.St} {H : Hp} {l : Addr} {ys : List V} {acc acc' : List D} {z : List D × En} {Q : List V → Hp → Prop} (rel : Rel K β σ H) (hσ : ∀ j, j < k2 → σ[j]? = some none) (hz : it2 β = .ok z)
    (hc : compL k2 (List.range' k2 (z.2.length - k2)) g2 t2 f z.1 z.2 acc = .ok (acc', β')) (hl : H l = some (.lst ys)) (nma : ¬ MA β σ l) (fa : FzAll K H acc ys)
    (q : ∀ ys' H', Rel K β' σ H' → (∀ (i : Nat) p, (∃ d, β[i]? = some (.ow p d)) ↔ ∃ d, β'[i]? = some (.ow p d)) → (∀ a o, a ≠ l → H a = some o → ¬ MA β σ a → H' a = some o) → Fzn H H' → H' l = some (.lst ys') → FzAll K H' acc' ys' → Q ys' H') :
    tuRun k2 (tI K it2) (tG K dom2 g2) (tT K t2) (tuApp (tV K f)) l ys σ H Q := by
  refine ⟨hσ, β, rel, ?_⟩
  rw [hz]
  intro H1 rel1 st1 J wk
  obtain ⟨items, βs⟩ := z
  have hl1 : H1 l = some (.lst ys) := st1.kp l _ hl nma
  have hlen : βs.length = σ.length := rel1.len
  have hcap : capS k2 (List.range' k2 (βs.length - k2)) σ = σ := by rw [hlen]; exact capS_id hσ
  have nd : (List.range' k2 (βs.length - k2)).Nodup := List.nodup_range'
  generalize hix : List.range' k2 (βs.length - k2) = ix at hc hcap nd
  have hc : compL k2 ix g2 t2 f items βs acc = .ok (acc', β') := hc
  have fz1 : Fzn H H1 := st1.fzn rel
  refine ⟨fun i m ys2 H2 => m = items.length - i ∧ i ≤ items.length ∧ H2 l = some (.lst ys2) ∧ ∃ β2 acc2, Rel K β2 σ H2 ∧ (∀ (i : Nat) p, (∃ d, β[i]? = some (.ow p d)) ↔ ∃ d, β2[i]? = some (.ow p d)) ∧ (∀ a o, a ≠ l → H a = some o → ¬ MA β σ a → H2 a = some o) ∧ Fzn H1 H2 ∧ FzAll K H2 acc2 ys2 ∧
    compL k2 ix g2 t2 f (items.drop i) β2 acc2 = .ok (acc', β'), ⟨items.length, by simp, Nat.zero_le _, hl1, βs, acc, rel1, st1.md, fun a o _ h n => st1.kp a o h n, .refl _, fa.mono fz1, hc⟩, ?_⟩
  rintro i m ys2 H2 ⟨rfl, hi, hly, β2, acc2, rel2, md2, kp2, fz2, fa2, ec⟩
  have maE : ∀ a, MA β2 σ a → MA β σ a := fun a ⟨j, ⟨p, h⟩, e⟩ => ⟨j, ⟨p, (md2 j p).mpr h⟩, e⟩
  by_cases c : i < items.length
  · have ed := List.drop_eq_getElem_cons c
    rw [ed] at ec
    obtain ⟨hgo', hy⟩ := wk.1 i items[i] H2 fz2 (List.getElem?_eq_getElem c)
    refine .inr ⟨hgo', fun x H3 y => ?_⟩
    obtain ⟨sm, fx⟩ := hy x H3 y
    have rel3 : Rel K β2 σ H3 := rel2.same sm
    obtain ⟨β1, e1, ec⟩ := bind_inv (show (g2 items[i] (blk k2 ix β2)).bind _ = .ok (acc', β') from ec)
    obtain ⟨c1, ecc, ec⟩ := bind_inv ec
    have rb0 : Rel K (blk k2 ix β2) σ H3 := by
      have := blk_rel (k := k2) nd rel3
      rw [hcap] at this
      exact this
    refine ⟨blk k2 ix β2, items[i], β1, rb0, fx, e1, fun σ1 relβ chg0 => ⟨β1, relβ, ?_⟩⟩
    have chg : Chg dom2 (blk k2 ix β2) β1 (capS k2 ix σ) σ1 := by rw [hcap]; exact chg0
    rw [ecc]
    intro H5 rel5 st5
    have hσ1 : ∀ j, σ1[k2 + j]? = (capS k2 ix σ)[k2 + j]? := fun j => by
      rcases chg.2 (k2 + j) with ⟨_, c2⟩ | ⟨m, _⟩
      · exact c2
      · have := of_decide_eq_true (List.all_eq_true.mp hgo _ m)
        omega
    have hβ : ∀ j, β1[k2 + j]? = (blk k2 ix β2)[k2 + j]? := fun j => by
      rcases chg.2 (k2 + j) with ⟨c2, _⟩ | ⟨m, _⟩
      · exact c2
      · have := of_decide_eq_true (List.all_eq_true.mp hgo _ m)
        omega
    have hMA : ∀ a, MA β1 σ1 a → MA (blk k2 ix β2) (capS k2 ix σ) a := fun a ⟨j, ⟨p, d, z1⟩, z2⟩ => by
      rcases chg.2 j with ⟨c1, c2⟩ | ⟨_, ⟨d', c1⟩, _⟩
      · exact ⟨j, ⟨p, d, by rw [← c1]; exact z1⟩, by rw [← c2]; exact z2⟩
      · rw [c1] at z1; cases z1
    have hMB : ∀ a, MA (blk k2 ix β2) (capS k2 ix σ) a → MA β2 σ a := fun a ⟨j, h⟩ => by
      obtain ⟨_, i, _, _, h⟩ := blk_at h
      exact ⟨i, h⟩
    have nm2 : ¬ MA β2 σ l := fun z => nma (maE l z)
    have h3l : H3 l = some (.lst ys2) := sm l _ hly
    have n1 : ¬ MA β1 σ1 l := fun z => nm2 (hMB l (hMA l z))
    have h5l : H5 l = some (.lst ys2) := st5.kp l _ h3l n1
    obtain ⟨cb, β3⟩ := c1
    cases cb with
    | true =>
      refine iteT ⟨β3, rel5, ?_⟩
      obtain ⟨y, ey, ec⟩ := bind_inv (show (f β3).bind _ = .ok (acc', β') from ec)
      rw [ey]
      intro H6 rel6 st6 v fv
      obtain ⟨cc, ec⟩ := chk_inv ec
      have n2 : ¬ MA β3 σ1 l := fun z => n1 (st5.ma.mpr z)
      have h6l : H6 l = some (.lst ys2) := st6.kp l _ h5l n2
      have st : Stp β1 y.2 σ1 H3 H6 := st5.trans st6
      obtain ⟨rb, sb⟩ := back_ok (k := k2) nd rel3 hσ1 rel6 (fun j p => by rw [← hβ j]; exact (st.md (k2 + j) p).symm) (fun a o h n => st.kp a o h fun z => n (hMA a z))
      have nmb : ¬ MA (back β2 ix (y.2.drop k2)) σ l := fun z => nm2 (sb.ma.mpr z)
      have fz6 : Fzn H2 H6 := (Fzn.of sm).trans (sb.fzn rel3)
      have fz7 : Fzn H6 (upd H6 l (.lst (ys2 ++ [v]))) := fun b u e s => by
        rw [upd_ne fun z => by subst z; rw [h6l] at e; cases e; exact s]
        exact e
      refine ⟨h6l, ?_, items.length - (i + 1), by omega, rfl, c, upd_same, back β2 ix (y.2.drop k2), acc2 ++ [y.1], rb.put nmb (fun u e => by rw [h6l] at e; cases e; exact fun z => z), fun j p => (md2 j p).trans (sb.md j p), fun a o hne h n => ?_, (fz2.trans fz6).trans fz7, ?_, ec⟩
      · have := le_of cc
        have l0 := lim_size
        rw [fa2.len]; omega
      · rw [upd_ne hne]
        exact sb.kp a o (sm a o (kp2 a o hne h n)) fun z => n (maE a z)
      · refine ((fa2.mono fz6).mono fz7).app ?_
        simp only [FzAll]
        exact ⟨v, [], rfl, fv.mono fz7, rfl⟩
    | false =>
      obtain ⟨rb, sb⟩ := back_ok (k := k2) nd rel3 hσ1 rel5 (fun j p => by rw [← hβ j]; exact (st5.md (k2 + j) p).symm) (fun a o h n => st5.kp a o h fun z => n (hMA a z))
      have fz6 : Fzn H2 H5 := (Fzn.of sm).trans (sb.fzn rel3)
      exact iteF ⟨items.length - (i + 1), by omega, rfl, c, h5l, back β2 ix (β3.drop k2), acc2, rb, fun j p => (md2 j p).trans (sb.md j p), fun a o hne h n => sb.kp a o (sm a o (kp2 a o hne h n)) fun z => n (maE a z), fz2.trans fz6, fa2.mono fz6, ec⟩
  · have e : i = items.length := by omega
    subst e
    rw [List.drop_length] at ec
    have ec' : R.ok (acc2, β2) = R.ok (acc', β') := ec
    cases ec'
    exact .inl ⟨wk.2 _ H2 fz2 (Nat.le_refl _), q ys2 H2 rel2 md2 kp2 (fz1.trans fz2) hly fa2⟩
variable {elt tg iter t1 i1 : Expr} {ifs c1 : List Expr} {scope : Scope} {pos : Pos} {it : IF} {g : GF} {t : TF} {dom : List Nat}
theorem upd_back {H : Hp} {l : Addr} {x y : HO} (h : H l = some y) : upd (upd H l x) l y = H := by
  funext a
  by_cases e : a = l
  · subst e; rw [upd_same, h]
  · rw [upd_ne e, upd_ne e]
theorem goComp2 {k k2 : Nat} {ix : List Nat} (nd : ix.Nodup) (hgo : dom.all (fun i => decide (k2 ≤ i) && decide (i < k)) = true) (hgo2 : dom2.all (fun i => decide (i < k2)) = true) (hk : k2 ≤ k) (σ : L2.St) (H : Hp) (Q : VK) (q : tN K (eComp2 k ix it g t k2 it2 g2 t2 f) σ H Q) :
    tComp2 k ix (tI K it) (tG K dom g) (tT K t) (tuRun k2 (tI K it2) (tG K dom2 g2) (tT K t2) (tuApp (tV K f))) σ H Q := by
  revert q
  rintro ⟨ρ0, rel0, q⟩
  obtain ⟨x, ex, q⟩ := q.bnd
  refine ⟨ρ0, rel0, ?_⟩
  rw [ex]
  intro H1 rel1 st1 J wk l hl
  obtain ⟨items, ρs⟩ := x
  have hdom : ∀ i ∈ dom, k2 ≤ i ∧ i < k := fun i m => by
    have := List.all_eq_true.mp hgo i m
    simpa using this
  have hl0 : H l = none := by
    cases e : H l with
    | none => rfl
    | some o =>
      by_cases m : MA ρ0 σ l
      · obtain ⟨o', e', _⟩ := rel1.ma_own (st1.ma.mp m)
        rw [hl] at e'; cases e'
      · rw [st1.kp l o e m] at hl; cases hl
  have sl : Same H1 (upd H1 l (.lst [])) := Same.upd hl
  refine ⟨fun i m ys H2 => m = items.length - i ∧ i ≤ items.length ∧ H2 l = some (.lst ys) ∧ ∃ ρ acc, Rel K ρ σ H2 ∧ ¬ MA ρ σ l ∧ FzAll K H2 acc ys ∧ Fzn H1 H2 ∧ Stp ρ0 ρ σ H H2 ∧
    Good K ρ0 σ H ((compL2 k ix g t k2 it2 g2 t2 f (items.drop i) ρ acc).bind fun (y : List D × En) => .ok ((PyData.list y.1 : D), y.2)) fun d ρ' H' => ∀ a, H a = none → MutAt K H' a d → Q (.ref a) H',
    ⟨items.length, by simp, Nat.zero_le _, upd_same, ρs, [], rel1.same sl, fun z => ?_, by simp [FzAll], Fzn.of sl, st1.trans (.of sl), q⟩, ?_⟩
  · obtain ⟨o', e', _⟩ := rel1.ma_own z
    rw [hl] at e'; cases e'
  rintro i m ys H2 ⟨rfl, hi, hly, ρ, acc, rel, nma, fa, fz, st0, gd⟩
  by_cases c : i < items.length
  · have ed := List.drop_eq_getElem_cons c
    rw [ed] at gd
    obtain ⟨hgo', hy⟩ := wk.1 i items[i] H2 fz (List.getElem?_eq_getElem c)
    refine .inr ⟨hgo', fun x H3 y => ?_⟩
    obtain ⟨sm, fx⟩ := hy x H3 y
    have rel3 : Rel K ρ σ H3 := rel.same sm
    obtain ⟨w, ew, gd⟩ := gd.bnd'
    obtain ⟨β1, e1, ew⟩ := bind_inv (show (g items[i] (blk k ix ρ)).bind _ = .ok w from ew)
    obtain ⟨c1, ec, ew⟩ := bind_inv ew
    refine ⟨blk k ix ρ, items[i], β1, blk_rel nd rel3, fx, e1, fun σ1 relβ chg => ⟨β1, relβ, ?_⟩⟩
    rw [ec]
    intro H5 rel5 st5
    have hσ : ∀ j, σ1[k + j]? = (capS k ix σ)[k + j]? := fun j => by
      rcases chg.2 (k + j) with ⟨_, c2⟩ | ⟨m, _⟩
      · exact c2
      · have := hdom _ m
        omega
    have hβ : ∀ j, β1[k + j]? = (blk k ix ρ)[k + j]? := fun j => by
      rcases chg.2 (k + j) with ⟨c2, _⟩ | ⟨m, _⟩
      · exact c2
      · have := hdom _ m
        omega
    have hlow : ∀ j, j < k2 → σ1[j]? = some none := fun j hj => by
      rcases chg.2 j with ⟨_, c2⟩ | ⟨m, _⟩
      · rw [c2]
        unfold capS
        rw [List.getElem?_append_left (by simp; omega), List.getElem?_replicate, if_pos (by omega)]
      · have := hdom _ m
        omega
    have hMA : ∀ a, MA β1 σ1 a → MA (blk k ix ρ) (capS k ix σ) a := fun a ⟨j, ⟨p, d, z1⟩, z2⟩ => by
      rcases chg.2 j with ⟨c1, c2⟩ | ⟨_, ⟨d', c1⟩, _⟩
      · exact ⟨j, ⟨p, d, by rw [← c1]; exact z1⟩, by rw [← c2]; exact z2⟩
      · rw [c1] at z1; cases z1
    have hMB : ∀ a, MA (blk k ix ρ) (capS k ix σ) a → MA ρ σ a := fun a ⟨j, h⟩ => by
      obtain ⟨_, i, _, _, h⟩ := blk_at h
      exact ⟨i, h⟩
    have h3l : H3 l = some (.lst ys) := sm l _ hly
    have n1 : ¬ MA β1 σ1 l := fun z => nma (hMB l (hMA l z))
    have h5l : H5 l = some (.lst ys) := st5.kp l _ h3l n1
    have fz3 : Fzn H2 H3 := Fzn.of sm
    have fz5 : Fzn H3 H5 := st5.fzn relβ
    obtain ⟨cb, β2⟩ := c1
    cases cb with
    | true =>
      refine iteT ?_
      obtain ⟨z, ez, ew⟩ := bind_inv (show (it2 β2).bind _ = .ok w from ew)
      obtain ⟨y2, ey, ew⟩ := bind_inv ew
      obtain ⟨acc', β'⟩ := y2
      have n2 : ¬ MA β2 σ1 l := fun z => n1 (st5.ma.mpr z)
      refine goIn hgo2 rel5 hlow ez ey h5l n2 ((fa.mono fz3).mono fz5) fun ys' H' rel' md' kp' fz' hl' fa' => ?_
      have n3 : ¬ MA β' σ1 l := fun ⟨j, ⟨p, h⟩, e⟩ => n2 ⟨j, ⟨p, (md' j p).mpr h⟩, e⟩
      have relr : Rel K β' σ1 (upd H' l (.lst ys)) := rel'.put n3 (fun u e => by rw [hl'] at e; cases e; exact fun z => z)
      obtain ⟨rb, sb⟩ := back_ok (k := k) nd rel3 hσ relr (fun j p => by rw [← hβ j]; exact ((st5.md (k + j) p).trans (md' (k + j) p)).symm) (fun a o h n => by
        by_cases e : a = l
        · subst e; rw [upd_same]; rw [h3l] at h; exact h
        · rw [upd_ne e]
          have h5 := st5.kp a o h fun z => n (hMA a z)
          exact kp' a o e h5 fun z => n (hMA a (st5.ma.mpr z)))
      have nmb : ¬ MA (back ρ ix (β'.drop k)) σ l := fun z => nma (sb.ma.mpr z)
      have ub : upd (upd H' l (.lst ys)) l (.lst ys') = H' := upd_back hl'
      have rf : Rel K (back ρ ix (β'.drop k)) σ H' := by
        have := rb.put (o := .lst ys') nmb (fun u e => by rw [upd_same] at e; cases e; exact fun z => z)
        rw [ub] at this
        exact this
      have fz7 : Fzn (upd H' l (.lst ys)) H' := fun b u e s => by
        have hne : b ≠ l := fun z => by subst z; rw [upd_same] at e; cases e; exact s
        rw [upd_ne hne] at e
        exact e
      refine ⟨items.length - (i + 1), by omega, rfl, c, hl', back ρ ix (β'.drop k), acc', rf, nmb, fa', (fz.trans fz3).trans ((sb.fzn rel3).trans fz7), ⟨((st0.trans (.of sm)).trans sb).md, fun a o h n => ?_⟩, ?_⟩
      · have hne : a ≠ l := fun z => by subst z; rw [hl0] at h; cases h
        have := ((st0.trans (.of sm)).trans sb).kp a o h n
        rw [upd_ne hne] at this
        exact this
      · rw [ew]
        exact gd
    | false =>
      obtain ⟨rb, sb⟩ := back_ok (k := k) nd rel3 hσ rel5 (fun j p => by rw [← hβ j]; exact (st5.md (k + j) p).symm) (fun a o h n => st5.kp a o h fun z => n (hMA a z))
      have nmb : ¬ MA (back ρ ix (β2.drop k)) σ l := fun z => nma (sb.ma.mpr z)
      have fz6 : Fzn H2 H5 := (Fzn.of sm).trans (sb.fzn rel3)
      refine iteF ⟨items.length - (i + 1), by omega, rfl, c, h5l, back ρ ix (β2.drop k), acc, rb, nmb, fa.mono fz6, fz.trans fz6, (st0.trans (.of sm)).trans sb, ?_⟩
      rw [show compL2 k ix g t k2 it2 g2 t2 f (items.drop (i + 1)) (back ρ ix (β2.drop k)) acc = .ok w from ew]
      exact gd
  · have e : i = items.length := by omega
    subst e
    rw [List.drop_length] at gd
    exact .inl ⟨wk.2 _ H2 fz (Nat.le_refl _), gd H2 rel st0 l hl0 ⟨ys, hly, fa⟩⟩
end
section
variable {K : PySem.W.Frag} {X : Cx} {f : EF} {it2 : IF} {g2 : GF} {t2 : TF} {dom2 : List Nat} {pos : Pos}
theorem pvs_ownC2 {elt tg iter t1 i1 : Expr} {ifs c1 : List Expr} {scope : Scope} {it : IF} {g : GF} {t : TF} {dom : List Nat} {x0 : Str} {pos' spos : Pos} (i0 : Nat) (k2 : Nat) (L : List Str) (ix : List Nat) (M : List Str) (hN : X.N.Nodup) (hii : X.N[i0]? = some x0) (hx0 : X.env.scope.names.lookup x0 = some .local)
    (hsw : swapsWith (.ListComp elt [⟨tg, iter, ifs, 0⟩, ⟨t1, i1, c1, 0⟩] scope pos) (some (.Name x0 pos')) spos.line X.env = pure true) (hc : X.calm = true) (hk : scope.kind = .function)
    (hd : compOkC X.env.scope scope X.N ix = true) (hM : M = L ++ ix.map fun i => X.N.getD i "") (nd : ix.Nodup) (hi : PVI K X tg iter it)
    (hg : ∀ C s₃ H₃ fp, PVG K (cxCompC X M scope C s₃ H₃ fp) dom tg g) (hgo : dom.all (fun i => decide (k2 ≤ i) && decide (i < L.length)) = true)
    (ht : ∀ C s₃ H₃ fp, PVTs K (cxCompC X M scope C s₃ H₃ fp) ifs t)
    (hi2 : ∀ C s₃ H₃ fp, PVI K (cxCompC X M scope C s₃ H₃ fp) t1 i1 it2) (hg2 : ∀ C s₃ H₃ fp, PVG K (cxCompC X M scope C s₃ H₃ fp) dom2 t1 g2) (hgo2 : dom2.all (fun i => decide (i < k2)) = true)
    (ht2 : ∀ C s₃ H₃ fp, PVTs K (cxCompC X M scope C s₃ H₃ fp) c1 t2) (he : ∀ C s₃ H₃ fp, PV K (cxCompC X M scope C s₃ H₃ fp) elt f) (hkl : k2 ≤ L.length)
    (hs : ∀ x, foldedSetIterable iter X.env x = pure x := by intro _; rfl) (hs2 : ∀ C s₃ H₃ fp x, foldedSetIterable i1 (cxCompC X M scope C s₃ H₃ fp).env x = pure x := by intro _ _ _ _ _; rfl) :
    PSV K X (.Assign [.Name x0 pos'] (.ListComp elt [⟨tg, iter, ifs, 0⟩, ⟨t1, i1, c1, 0⟩] scope pos) spos) (sOwn i0 (eComp2 L.length ix it g t k2 it2 g2 t2 f)) := fun hK C => by
  have hgoL : dom.all (fun i => decide (i < L.length)) = true := List.all_eq_true.mpr fun i m => by
    have := List.all_eq_true.mp hgo i m
    simp only [Bool.and_eq_true] at this
    exact this.2
  exact (ps_set2K i0 L ix M hN hii hx0 hsw hc hk hd hM (hi hK) (fun C s₃ H₃ fp => hg C s₃ H₃ fp hK) (gonly_tG hgoL) (fun C s₃ H₃ fp => ht C s₃ H₃ fp hK) (fun C s₃ H₃ fp => pu_run rfl hc (hi2 C s₃ H₃ fp hK) (hg2 C s₃ H₃ fp hK) (gonly_tG hgo2) (ht2 C s₃ H₃ fp hK) (pu_app rfl (he C s₃ H₃ fp hK)) (hs2 C s₃ H₃ fp)) hs).weak fun Dn σ H q => goComp2 nd hgo hgo2 hkl σ H _ (goOwn Dn σ H q)
end
theorem callee_bad {P : Program} {w : World} {K : PySem.W.Frag} {mg : Str → Option Value} {base : Heap} {x : Str} {st : Stmt} {ps : List Str} {k n : Nat} {fr : Bool} (h : Has K mg x st)
    (hbi : ∀ (kV doc pm : Value) (an : Option Addr) (cdv ct : Value) (us : List Value), us.length = ps.length → bindArgs (PySem.W.fnOf x x (defArgs st) (defBody st) (defScope st) .none kV doc pm an cdv ct) ⟨us, []⟩ = pure (ps.zip us)) (hn : ps.length = n) :
    Callee P w K mg base x k ps (spP K n fr fun _ => .bad) := by
  obtain ⟨f, fd, hm, F⟩ := h
  refine ⟨f, fd, hm, F.kp, F.binds hbi, ⟨fun vs H Q E q => ?_, fun A outer s H args us vs Q E _ _ _ _ q => ?_⟩⟩
  · obtain ⟨_, _, _, _, e, _⟩ := q
    cases e
  · obtain ⟨_, _, _, _, e, _⟩ := q
    cases e
end FL
set_option Elab.async false
set_option linter.all false
set_option maxRecDepth 100000
namespace FL
open PySem
theorem compL_pure {k : Nat} {ix : List Nat} {g : GF} {t : TF} {f : EF} {ρ : En} (P : D → Bool) (h : D → D) : ∀ (items : List D) (acc : List D), acc.length + items.length ≤ lim →
    (∀ x ∈ items, ∃ β, g x (blk k ix ρ) = .ok β ∧ t β = .ok (P x, β) ∧ (P x = true → f β = .ok (h x, β)) ∧ back ρ ix (β.drop k) = ρ) → compL k ix g t f items ρ acc = .ok (acc ++ (items.filter P).map h, ρ)
  | [], acc, _, _ => by simp [compL]
  | x :: xs, acc, hl, hx => by
    obtain ⟨β, h1, h2, h3, h4⟩ := hx x (List.mem_cons_self ..)
    have rest := fun y m => hx y (List.mem_cons_of_mem x m)
    simp only [List.length_cons] at hl
    unfold compL
    rw [h1, bind_ok, h2, bind_ok]
    cases c : P x with
    | true =>
      rw [if_pos rfl, h3 c, bind_ok, chk_ok (leB_of (by omega)), h4, compL_pure P h xs _ (by simp; omega) rest, List.filter_cons_of_pos c]
      simp
    | false =>
      rw [if_neg (by simp), h4, compL_pure P h xs acc (by omega) rest, List.filter_cons_of_neg (by simp [c])]
theorem eComp_pure {k : Nat} {ix : List Nat} {it : IF} {g : GF} {t : TF} {f : EF} {ρ : En} {items : List D} (P : D → Bool) (h : D → D) (hi : it ρ = .ok (items, ρ)) (hl : items.length ≤ lim)
    (hx : ∀ x ∈ items, ∃ β, g x (blk k ix ρ) = .ok β ∧ t β = .ok (P x, β) ∧ (P x = true → f β = .ok (h x, β)) ∧ back ρ ix (β.drop k) = ρ) : eComp k ix it g t f ρ = .ok (.list ((items.filter P).map h), ρ) := by
  unfold eComp
  rw [hi, bind_ok, compL_pure P h items [] (by simpa using hl) hx]
  rfl
theorem eComp_map {k : Nat} {ix : List Nat} {it : IF} {g : GF} {f : EF} {ρ : En} {items : List D} (h : D → D) (hi : it ρ = .ok (items, ρ)) (hl : items.length ≤ lim)
    (hx : ∀ x ∈ items, ∃ β, g x (blk k ix ρ) = .ok β ∧ f β = .ok (h x, β) ∧ back ρ ix (β.drop k) = ρ) : eComp k ix it g tTrue f ρ = .ok (.list (items.map h), ρ) := by
  rw [eComp_pure (fun _ => true) h hi hl fun x m => by
    obtain ⟨β, h1, h2, h3⟩ := hx x m
    exact ⟨β, h1, rfl, fun _ => h2, h3⟩]
  rw [List.filter_eq_self.mpr (fun _ _ => rfl)]
theorem eCompM_pure {k io : Nat} {ix : List Nat} {g : GF} {t : TF} {f : EF} {ρ : En} {items : List D} (P : D → Bool) (h : D → D) (hi : lstAt ρ io = .ok items) (hl : items.length ≤ lim)
    (hx : ∀ x ∈ items, ∃ β, g x (blk k ix ρ) = .ok β ∧ t β = .ok (P x, β) ∧ (P x = true → f β = .ok (h x, β)) ∧ back ρ ix (β.drop k) = ρ) : eCompM k ix io g t f ρ = .ok (.list ((items.filter P).map h), ρ) := by
  unfold eCompM
  rw [hi, bind_ok, compL_pure P h items [] (by simpa using hl) hx]
  rfl
theorem intsOf_map (ns : List Int) : intsOf (ns.map PyData.int) = some ns := by
  induction ns with
  | nil => rfl
  | cons n ns ih => simp [intsOf, ih]
theorem boolsOf_map (ns : List Bool) : boolsOf (ns.map PyData.bool) = some ns := by
  induction ns with
  | nil => rfl
  | cons n ns ih => simp [boolsOf, ih]
theorem allD_map (bs : List Bool) : allD (.list (bs.map PyData.bool)) = .ok (.bool (bs.all id)) := by
  show ((R.of (boolsOf _)).bind _) = _
  rw [boolsOf_map]; rfl
theorem ltD_tup (a b : List Int) : ltD (.tuple (a.map PyData.int)) (.tuple (b.map PyData.int)) = .ok (.bool (lexLt a b)) := by
  show ((R.of (intsOf _)).bind _) = _
  rw [intsOf_map, intsOf_map]; rfl
theorem leD_tup (a b : List Int) : leD (.tuple (a.map PyData.int)) (.tuple (b.map PyData.int)) = .ok (.bool (lexLe a b)) := by
  show ((R.of (intsOf _)).bind _) = _
  rw [intsOf_map, intsOf_map]; rfl
theorem gtD_tup (a b : List Int) : gtD (.tuple (a.map PyData.int)) (.tuple (b.map PyData.int)) = .ok (.bool (lexGt a b)) := by
  show ((R.of (intsOf _)).bind _) = _
  rw [intsOf_map, intsOf_map]; rfl
theorem maxD_map (ns : List Int) : maxD (.list (ns.map PyData.int)) = ((R.of (maxL ns)).bind fun m => .ok (.int m)) := by
  show ((R.of (intsOf _)).bind _) = _
  rw [intsOf_map]; rfl
theorem cut_from {α : Type} (xs : List α) (p : Nat) (h : p ≤ xs.length) : cut xs (some (p : Int)) none = xs.drop p := by
  unfold cut sIx
  simp only
  rw [if_neg (by omega)]
  rw [show min (p : Int).toNat xs.length = p by omega]
  rw [List.take_of_length_le (by simp)]
theorem cut_to {α : Type} (xs : List α) (p : Nat) : cut xs none (some (p : Int)) = xs.take p := by
  unfold cut sIx
  simp only
  rw [if_neg (by omega), List.drop_zero, Nat.sub_zero]
  by_cases h : p ≤ xs.length
  · rw [show min (p : Int).toNat xs.length = p by omega]
  · rw [show min (p : Int).toNat xs.length = xs.length by omega, List.take_length, List.take_of_length_le (by omega)]
theorem map_cut {α β : Type} (g : α → β) (xs : List α) (lo hi : Option Int) : cut (xs.map g) lo hi = (cut xs lo hi).map g := by
  unfold cut
  simp [List.map_take, List.map_drop]
theorem rng_map (lo hi : Int) : rng lo hi = ((List.range (hi - lo).toNat).map fun (i : Nat) => lo + (i : Int)).map PyData.int := by
  unfold rng
  rw [List.map_map]; rfl
def Pl (n : Nat) (d : D) : Prop := PyData.canLay0 d = true ∧ d.depth ≤ n
theorem Pl.shaped {n : Nat} {d : D} (h : Pl n d) (hn : n ≤ 64 := by decide) : SeqAt.shaped d = true := by
  unfold SeqAt.shaped
  rw [h.1, decide_eq_true (Nat.le_trans h.2 hn)]; rfl
theorem pl_int (i : Int) : Pl 0 (.int i) := ⟨rfl, Nat.le_refl _⟩
theorem Pl.up {n m : Nat} {d : D} (h : Pl n d) (hn : n ≤ m) : Pl m d := ⟨h.1, Nat.le_trans h.2 hn⟩
theorem pl_all {n : Nat} : ∀ {ds : List D}, (∀ d ∈ ds, Pl n d) → PyData.canLayAll0 ds = true ∧ PyData.depthAll ds ≤ n
  | [], _ => ⟨rfl, Nat.zero_le _⟩
  | d :: ds, h => by
    obtain ⟨a, b⟩ := pl_all fun x m => h x (List.mem_cons_of_mem d m)
    obtain ⟨c, e⟩ := h d (List.mem_cons_self ..)
    refine ⟨by simp only [PyData.canLayAll0]; rw [c, a]; rfl, ?_⟩
    simp only [PyData.depthAll]
    omega
theorem pl_tuple {n : Nat} {ds : List D} (h : ∀ d ∈ ds, Pl n d) : Pl (n + 1) (.tuple ds) := by
  obtain ⟨a, b⟩ := pl_all h
  exact ⟨a, by simp only [PyData.depth]; omega⟩
theorem pl_list {n : Nat} {ds : List D} (h : ∀ d ∈ ds, Pl n d) : Pl (n + 1) (.list ds) := by
  obtain ⟨a, b⟩ := pl_all h
  exact ⟨a, by simp only [PyData.depth]; omega⟩
theorem eqvAll_map {α : Type} [DecidableEq α] (f : α → D) (h : ∀ a b, PyData.eqv (f a) (f b) = decide (a = b)) : ∀ xs ys : List α, PyData.eqvAll (xs.map f) (ys.map f) = decide (xs = ys)
  | [], [] => rfl
  | [], y :: ys => by simp [PyData.eqvAll]
  | x :: xs, [] => by simp [PyData.eqvAll]
  | x :: xs, y :: ys => by
    simp only [List.map_cons, PyData.eqvAll]
    rw [h, eqvAll_map f h xs ys]
    by_cases e1 : x = y <;> by_cases e2 : xs = ys <;> simp [e1, e2]
theorem eqv_int (a b : Int) : PyData.eqv (.int a) (.int b) = decide (a = b) := by
  show (a == b) = _
  rw [Bool.beq_eq_decide_eq]
abbrev tp (w : List Int) : D := .tuple (w.map PyData.int)
theorem pl_tp (w : List Int) : Pl 1 (tp w) := pl_tuple fun d m => by
  obtain ⟨i, _, rfl⟩ := List.mem_map.mp m
  exact pl_int i
theorem eqv_tp (a b : List Int) : PyData.eqv (tp a) (tp b) = decide (a = b) := by
  show PyData.eqvAll _ _ = _
  exact eqvAll_map _ eqv_int a b
abbrev ltp (ws : List (List Int)) : D := .list (ws.map tp)
theorem pl_ltp (ws : List (List Int)) : Pl 2 (ltp ws) := pl_list fun d m => by
  obtain ⟨i, _, rfl⟩ := List.mem_map.mp m
  exact pl_tp i
theorem eqv_ltp (a b : List (List Int)) : PyData.eqv (ltp a) (ltp b) = decide (a = b) := by
  show PyData.eqvAll _ _ = _
  exact eqvAll_map _ eqv_tp a b
theorem eqD_pl {n m : Nat} {a b : D} (ha : Pl n a) (hb : Pl m b) (hn : n ≤ 64 := by decide) (hm : m ≤ 64 := by decide) : eqD a b = .ok (.bool (PyData.eqv a b)) := by
  unfold eqD
  rw [ha.shaped hn, hb.shaped hm]; rfl
theorem neD_pl {n m : Nat} {a b : D} (ha : Pl n a) (hb : Pl m b) (hn : n ≤ 64 := by decide) (hm : m ≤ 64 := by decide) : neD a b = .ok (.bool (!PyData.eqv a b)) := by
  unfold neD
  rw [ha.shaped hn, hb.shaped hm]; rfl
theorem neD_tp (a b : List Int) : neD (tp a) (tp b) = .ok (.bool (!decide (a = b))) := by rw [neD_pl (pl_tp a) (pl_tp b), eqv_tp]
theorem eqD_ltp (a b : List (List Int)) : eqD (ltp a) (ltp b) = .ok (.bool (decide (a = b))) := by rw [eqD_pl (pl_ltp a) (pl_ltp b), eqv_ltp]
theorem neD_ltp (a b : List (List Int)) : neD (ltp a) (ltp b) = .ok (.bool (!decide (a = b))) := by rw [neD_pl (pl_ltp a) (pl_ltp b), eqv_ltp]
theorem eqD_int (a b : Int) : eqD (.int a) (.int b) = .ok (.bool (decide (a = b))) := by rw [eqD_pl (pl_int a) (pl_int b), eqv_int]
theorem gtD_int (i j : Int) : gtD (.int i) (.int j) = .ok (.bool (decide (j < i))) := rfl
theorem ltD_int (i j : Int) : ltD (.int i) (.int j) = .ok (.bool (decide (i < j))) := rfl
theorem leD_int (i j : Int) : leD (.int i) (.int j) = .ok (.bool (decide (i ≤ j))) := rfl
theorem mem_rng {lo hi : Int} {x : D} (h : x ∈ rng lo hi) : ∃ i : Nat, i < (hi - lo).toNat ∧ x = .int (lo + i) := by
  unfold rng at h
  obtain ⟨i, hi, rfl⟩ := List.mem_map.mp h
  exact ⟨i, List.mem_range.mp hi, rfl⟩
theorem rng_len (lo hi : Int) : (rng lo hi).length = (hi - lo).toNat := by simp [rng]
theorem range1D_ok {j : Int} (h : 0 ≤ j) (h2 : j ≤ 1000000) : range1D [.int j] = .ok (rng 0 j) := by
  show chk _ _ = _
  refine chk_ok ?_
  unfold rngOk lim
  simp only [Bool.and_eq_true, leB_iff]
  omega
theorem range2D_ok {i j : Int} (h0 : 0 ≤ i) (h1 : i ≤ 1000000) (h : 0 ≤ j) (h2 : j ≤ 1000000) : range2D [.int i, .int j] = .ok (rng i j) := by
  show chk _ _ = _
  refine chk_ok ?_
  unfold rngOk lim
  simp only [Bool.and_eq_true, leB_iff]
  omega
theorem bkL_same {m : List (Nat × Sl)} (h : ∀ i p d, m.lookup i ≠ some (.ow p d)) : ∀ (ρ : En) (n : Nat), bkL m n ρ = ρ
  | [], _ => rfl
  | x :: r, n => by
    unfold bkL
    rw [bkL_same h r (n + 1)]
    congr 1
    unfold bk1
    split
    · rename_i p d q e h1 h2
      exact absurd h2 (h _ _ _)
    · rfl
theorem maxL_some : ∀ {l : List Int}, l ≠ [] → ∃ m ∈ l, maxL l = some m := fun {l} h => by
  cases l with
  | nil => exact absurd rfl h
  | cons x xs =>
    refine ⟨_, ?_, rfl⟩
    have key : ∀ (xs : List Int) (x : Int), xs.foldl (fun m y => if y > m then y else m) x ∈ x :: xs := by
      intro xs
      induction xs with
      | nil => intro x; simp
      | cons y ys ih =>
        intro x
        simp only [List.foldl_cons]
        rcases List.mem_cons.mp (ih (if y > x then y else x)) with e | e
        · rw [e]; split <;> simp
        · exact List.mem_cons_of_mem _ (List.mem_cons_of_mem _ e)
    exact key xs x
theorem forL_inv {α : Type} {f : α → D} {g : GF} {b : SF} (P : List α → En → Prop) : ∀ (xs : List α) (done : List α) (ρ : En), P done ρ →
    (∀ pre x post ρ, done ++ xs = pre ++ x :: post → P pre ρ → ∃ ρ' fl, (g (f x) ρ).bind b = .ok (fl, ρ') ∧ (fl = .nx ∨ fl = .ct) ∧ P (pre ++ [x]) ρ') → ∃ ρ', forL g b (xs.map f) ρ = .ok (.nx, ρ') ∧ P (done ++ xs) ρ'
  | [], done, ρ, h, _ => ⟨ρ, rfl, by simpa using h⟩
  | x :: xs, done, ρ, h, hx => by
    obtain ⟨ρ1, fl, e, hf, h1⟩ := hx done x xs ρ rfl h
    obtain ⟨ρ2, e2, h2⟩ := forL_inv P xs (done ++ [x]) ρ1 h1 fun pre y post ρ e => hx pre y post ρ (by simpa using e)
    refine ⟨ρ2, ?_, by simpa using h2⟩
    show ((g (f x) ρ).bind fun ρ1 => (b ρ1).bind fun y => match y.1 with
        | .nx | .ct => forL g b (xs.map f) y.2
        | .bk => .ok (.nx, y.2)
        | .rt d => .ok (.rt d, y.2)
        | .rf d => .ok (.rf d, y.2)) = _
    cases e1 : g (f x) ρ with
    | ok ρ3 =>
      rw [e1] at e
      rw [bind_ok] at e ⊢
      rw [e, bind_ok]
      rcases hf with rfl | rfl
      · exact e2
      · exact e2
    | bad => rw [e1] at e; cases e
    | err c fs => rw [e1] at e; cases e
def Np (x : Sl) : Prop := ∀ e, x ≠ .ow true e
theorem np_no : Np .no := fun _ z => nomatch z
theorem np_val (d : D) : Np (.val d) := fun _ z => nomatch z
theorem np_ow (d : D) : Np (.ow false d) := fun _ z => nomatch z
theorem gN_np {ρ : En} {i : Nat} {d : D} {x : Sl} (h : ρ[i]? = some x) (n : Np x) : gN i d ρ = .ok (ρ.set i (.val d)) := by
  unfold gN
  rw [h]
  cases x with
  | no => rfl
  | val c => rfl
  | ow p c => cases p with
    | true => exact absurd rfl (n c)
    | false => rfl
theorem sOwn_np {i : Nat} {f : EF} {ρ : En} {y : D × En} {x : Sl} (hf : f ρ = .ok y) (h : y.2[i]? = some x) (n : Np x) : sOwn i f ρ = .ok (.nx, y.2.set i (.ow false y.1)) := by
  unfold sOwn
  rw [hf, bind_ok, h]
  cases x with
  | no => rfl
  | val c => rfl
  | ow p c => cases p with
    | true => exact absurd rfl (n c)
    | false => rfl
theorem sSet_np {i : Nat} {f : EF} {ρ : En} {y : D × En} {x : Sl} (hf : f ρ = .ok y) (h : y.2[i]? = some x) (n : Np x) : sSet (gN i) f ρ = .ok (.nx, y.2.set i (.val y.1)) := by
  unfold sSet
  rw [hf, bind_ok, gN_np h n]; rfl
theorem bk1_ne {m : List (Nat × Sl)} {i : Nat} {x : Sl} (h : m.lookup i = none) : bk1 m i x = x := by
  unfold bk1
  rw [h]
  cases x <;> rfl
theorem sSeq_nx {s t : SF} {ρ ρ1 : En} (h : s ρ = .ok (.nx, ρ1)) : sSeq s t ρ = t ρ1 := by
  unfold sSeq
  rw [h]; rfl
end FL
set_option Elab.async false
set_option linter.all false
set_option maxRecDepth 100000
set_option linter.unusedSimpArgs false
namespace FL
open PySem
def b_law_mixed : SF := (sSeq (sSet (gN 2) (e2 addD (e2 addD (e2 mulD (e2 addD (e2 modD (eV 0) (e2 addD (e2 powD (eC (.int 10)) (eC (.int 18))) (eC (.int 9)))) (e2 mulD (eC (.int 7)) (eV 1))) (eC (.int 739108512309184756019283746561))) (e2 mulD (eC (.int 7919)) (eV 1))) (eC (.int 1))))
    (sSeq (sSet (gN 2) (e2 modD (e2 mulD (eV 2) (eV 2)) (e2 addD (e2 powD (eC (.int 10)) (eC (.int 60))) (eC (.int 7)))))
    (sRet (e2 modD (e2 mulD (e2 addD (eV 2) (eC (.int 40503))) (e2 addD (eV 2) (eC (.int 57)))) (e2 addD (e2 powD (eC (.int 10)) (eC (.int 60))) (eC (.int 7)))))))
def G_mixed : List D → R D := runP false 2 3 b_law_mixed
def b_law_at : SF := (sSeq (sIf (tB (e2 ltD (eV 1) (e1 lenD (eV 0)))) (sRet (e2 ixD (eV 0) (eV 1))) sNx)
    (sRet (e2 addD (e2 mulD (eC (.int 3)) (eV 1)) (eC (.int 1)))))
def G_at : List D → R D := runP false 2 2 b_law_at
def b_law_purse : SF := (sSeq (sIf (tB (e2 geD (eV 0) (e2 powD (eC (.int 10)) (eC (.int 18))))) (sRetF (eLst (aCons (e2 subD (eV 0) (e2 powD (eC (.int 10)) (eC (.int 18)))) (aCons (eC (.int 0)) (aCons (eV 1) aNil))))) sNx)
    (sRetF (eLst (aCons (eCall G_mixed (aCons (eV 0) (aCons (eV 1) aNil))) (aCons (eC (.int 0)) (aCons (e2 addD (e2 modD (eV 0) (e2 addD (e2 powD (eC (.int 10)) (eC (.int 18))) (eC (.int 9)))) (eV 1)) aNil))))))
def G_purse : List D → R D := runP true 2 2 b_law_purse
def b_law_take : SF := (sSeq (sIf (tB (e2 ltD (m2 ixD 0 (eC (.int 0))) (eV 1))) (sSeq (setM 0 (e2 addD (m2 ixD 0 (eC (.int 1))) (eC (.int 1))) (eC (.int 1)))
    (setM 0 (e2 addD (m2 ixD 0 (eC (.int 0))) (e2 mulD (eV 1) (eCall G_mixed (aCons (m2 ixD 0 (eC (.int 2))) (aCons (e2 addD (e2 mulD (eC (.int 11)) (m2 ixD 0 (eC (.int 1)))) (eC (.int 5))) aNil))))) (eC (.int 0)))) sNx)
    (sSeq (sSet (gN 2) (e2 modD (m2 ixD 0 (eC (.int 0))) (eV 1)))
    (sSeq (setM 0 (e2 fdivD (m2 ixD 0 (eC (.int 0))) (eV 1)) (eC (.int 0)))
    (sRet (eV 2)))))
def G_take : List D → R (D × List D) := run [true, false] false 3 b_law_take
structure Bd (i : Int) (n : Nat) : Prop where
  h : i.natAbs < 2 ^ n
theorem Bd.mono {i : Int} {n m : Nat} (h : Bd i n) (l : n ≤ m) : Bd i m := ⟨Nat.lt_of_lt_of_le h.h (Nat.pow_le_pow_right (by decide) l)⟩
theorem Bd.add {i j : Int} {n m : Nat} (h : Bd i n) (k : Bd j m) : Bd (i + j) (max n m + 1) := by
  constructor
  have a := (h.mono (Nat.le_max_left n m)).h
  have b := (k.mono (Nat.le_max_right n m)).h
  have c := Int.natAbs_add_le i j
  rw [Nat.pow_succ]
  omega
theorem Bd.mul {i j : Int} {n m : Nat} (h : Bd i n) (k : Bd j m) : Bd (i * j) (n + m) := by
  constructor
  rw [Int.natAbs_mul, Nat.pow_add]
  have a := h.h
  have b := k.h
  exact Nat.mul_lt_mul'' a b
theorem Bd.mod {i j : Int} {n : Nat} (h : Bd j n) (p : 0 < j) : Bd (i.fmod j) n := by
  constructor
  have a := h.h
  have b := Int.fmod_nonneg_of_pos i p
  have c := Int.fmod_lt_of_pos i p
  omega
theorem mulOk_of {i j : Int} {n m : Nat} (h : Bd i n) (k : Bd j m) (l : n + m ≤ 100000) : mulOk i j = true := by
  unfold mulOk
  refine leB_of ?_
  have lg : ∀ {i : Int} {n : Nat}, Bd i n → i.natAbs.log2 ≤ n := by
    intro i n h
    by_cases z : i.natAbs = 0
    · rw [z]; exact Nat.zero_le _
    · exact Nat.le_of_lt ((Nat.log2_lt z).mpr h.h)
  have a := lg h
  have b := lg k
  omega
theorem mulD_ok {i j : Int} {n m : Nat} (h : Bd i n) (k : Bd j m) (l : n + m ≤ 100000) : mulD (.int i) (.int j) = .ok (.int (i * j)) := by
  show chk _ _ = _
  exact chk_ok (mulOk_of h k l)
theorem modD_ok {i j : Int} (p : 0 < j) : modD (.int i) (.int j) = .ok (.int (i.fmod j)) := by
  show chk _ _ = _
  exact chk_ok (by simp; omega)
theorem fdivD_ok {i j : Int} {n : Nat} (p : 0 < j) (h : Bd j n) (l : n ≤ 8000) : fdivD (.int i) (.int j) = .ok (.int (i.fdiv j)) := by
  show chk _ _ = _
  refine chk_ok ?_
  have z : j.natAbs ≠ 0 := by omega
  have a := (Nat.log2_lt z).mpr h.h
  rw [Bool.and_eq_true, leB_iff, decide_eq_true_eq]
  exact ⟨by omega, by omega⟩
def p18 : Int := 1000000000000000000
def p18' : Int := 1000000000000000009
def p60 : Int := 1000000000000000000000000000000000000000000000000000000000000
def p60' : Int := 1000000000000000000000000000000000000000000000000000000000007
def pm : Int := 739108512309184756019283746561
theorem pw18 : powD (.int 10) (.int 18) = .ok (.int p18) := rfl
theorem pw60 : powD (.int 10) (.int 60) = .ok (.int p60) := rfl
theorem ad18 : p18 + 9 = p18' := rfl
theorem ad60 : p60 + 7 = p60' := rfl
theorem p18_pos : 0 < p18' := by decide
theorem p60_pos : 0 < p60' := by decide
theorem b18 : Bd p18' 60 := ⟨by decide⟩
theorem b60 : Bd p60' 200 := ⟨by decide⟩
theorem bm : Bd pm 100 := ⟨by decide⟩
theorem bd_small {i : Int} (h : i.natAbs < 65536) : Bd i 16 := ⟨h⟩
def mx1 (c k : Int) : Int := (c.fmod p18' + 7 * k) * pm + 7919 * k + 1
def mx2 (c k : Int) : Int := (mx1 c k * mx1 c k).fmod p60'
def mixI (c k : Int) : Int := ((mx2 c k + 40503) * (mx2 c k + 57)).fmod p60'
theorem mixI_nn (c k : Int) : 0 ≤ mixI c k := Int.fmod_nonneg_of_pos _ p60_pos
theorem mixI_bd (c k : Int) : Bd (mixI c k) 200 := b60.mod p60_pos
theorem mixed_ok (c k : Int) {n : Nat} (hk : Bd k n) (hn : n ≤ 1000) : G_mixed [.int c, .int k] = .ok (.int (mixI c k)) := by
  have a1 := modD_ok (i := c) p18_pos
  have a2 : Bd (c.fmod p18') 60 := b18.mod p18_pos
  have a3 := mulD_ok (i := 7) (bd_small (by decide)) hk (by omega)
  have a4 := (bd_small (i := 7) (by decide)).mul hk
  have a5 := a2.add a4
  have a6 := mulD_ok a5 bm (by omega)
  have a7 := mulD_ok (i := 7919) (bd_small (by decide)) hk (by omega)
  have a8 := ((a5.mul bm).add ((bd_small (i := 7919) (by decide)).mul hk)).add (bd_small (i := 1) (by decide))
  have a9 := mulD_ok a8 a8 (by omega)
  have b1 := modD_ok (i := mx1 c k * mx1 c k) p60_pos
  have b2 : Bd (mx2 c k) 200 := b60.mod p60_pos
  have b3 := mulD_ok (b2.add (bd_small (i := 40503) (by decide))) (b2.add (bd_small (i := 57) (by decide))) (by decide)
  have b4 := modD_ok (i := (mx2 c k + 40503) * (mx2 c k + 57)) p60_pos
  have hm : (PyData.int 739108512309184756019283746561) = .int pm := rfl
  have f1 : (c.fmod p18' + 7 * k) * pm + 7919 * k + 1 = mx1 c k := rfl
  have f2 : (mx1 c k * mx1 c k).fmod p60' = mx2 c k := rfl
  have f3 : ((mx2 c k + 40503) * (mx2 c k + 57)).fmod p60' = mixI c k := rfl
  rw [f1] at a9
  simp only [G_mixed, b_law_mixed, FL.run, runP, slots, outs, outD, List.replicate, List.length_cons, List.length_nil, sRet, sSeq, sIf, sSet, sE, sNx, sOwn, sThen, sFrz, sRetF, sRetM, sRetN, sPar, sBrk, sCnt, sBad, eC, eV, FL.e1, FL.e2, eAnd, eOr, eNot, eIf, eChain, aNil, aCons, eTup, eLst, eCall, eRep, oNone, oSome, eSl, mutAt, lstAt, m1, m2, m2r, m2m, mSl, mLst2, tE, tB, FL.tAnd, FL.tOr, FL.tNot, tM, tTrue, gN, gT, gAll, updM, updM0, setM, putMut, appD, bind_ok, bind_bad, bind_err, List.getElem?_cons_zero, List.getElem?_cons_succ, List.set_cons_zero, List.set_cons_succ, List.nil_append, List.cons_append, List.head?_cons, List.tail_cons, Bool.false_eq_true, if_false, if_true, Nat.sub_self, Nat.reduceSub, Nat.reduceAdd, reduceCtorEq, addD, subD, ixD, sliceD, lenD, truD, listD, tupleD, eCallM, arEv, arIn, arOut, arPs, bkL, bk1, List.lookup_cons, List.lookup_nil, blk, back, List.zip_cons_cons, List.zip_nil_left, List.zip_nil_right, List.map_cons, List.map_nil, List.drop_succ_cons, List.drop_zero, Option.getD_some, Option.getD_none, sFor, iE, itemsD, Bool.not_true, Bool.not_false, iR1, iR2, range1D, range2D, pw18, pw60, ad18, ad60, a1, a3, hm, a6, a7, f1, a9, b1, f2, b3, b4, f3]
def Purse (k : Nat) (d : D) : Prop := ∃ n c s, d = .list [.int n, .int c, .int s] ∧ 0 ≤ n ∧ 0 ≤ c ∧ c ≤ k
theorem Purse.mono {k l : Nat} {d : D} (h : Purse k d) (hl : k ≤ l) : Purse l d := by
  obtain ⟨n, c, s, e, h1, h2, h3⟩ := h
  exact ⟨n, c, s, e, h1, h2, by omega⟩
theorem purse_ok (c k : Int) (hk : k.natAbs < 65536) : ∃ d, G_purse [.int c, .int k] = .ok d ∧ Purse 0 d := by
  have a1 := modD_ok (i := c) p18_pos
  have hx1 := mixed_ok c k (bd_small hk) (by decide)
  by_cases h : p18 ≤ c
  · refine ⟨_, ?_, c - p18, 0, k, rfl, by omega, by decide, by decide⟩
    have hg : geD (.int c) (.int p18) = .ok (.bool true) := by show R.ok (PyData.bool (decide (p18 ≤ c))) = _; rw [decide_eq_true h]
    simp only [G_purse, b_law_purse, FL.run, runP, slots, outs, outD, List.replicate, List.length_cons, List.length_nil, sRet, sSeq, sIf, sSet, sE, sNx, sOwn, sThen, sFrz, sRetF, sRetM, sRetN, sPar, sBrk, sCnt, sBad, eC, eV, FL.e1, FL.e2, eAnd, eOr, eNot, eIf, eChain, aNil, aCons, eTup, eLst, eCall, eRep, oNone, oSome, eSl, mutAt, lstAt, m1, m2, m2r, m2m, mSl, mLst2, tE, tB, FL.tAnd, FL.tOr, FL.tNot, tM, tTrue, gN, gT, gAll, updM, updM0, setM, putMut, appD, bind_ok, bind_bad, bind_err, List.getElem?_cons_zero, List.getElem?_cons_succ, List.set_cons_zero, List.set_cons_succ, List.nil_append, List.cons_append, List.head?_cons, List.tail_cons, Bool.false_eq_true, if_false, if_true, Nat.sub_self, Nat.reduceSub, Nat.reduceAdd, reduceCtorEq, addD, subD, ixD, sliceD, lenD, truD, listD, tupleD, eCallM, arEv, arIn, arOut, arPs, bkL, bk1, List.lookup_cons, List.lookup_nil, blk, back, List.zip_cons_cons, List.zip_nil_left, List.zip_nil_right, List.map_cons, List.map_nil, List.drop_succ_cons, List.drop_zero, Option.getD_some, Option.getD_none, sFor, iE, itemsD, Bool.not_true, Bool.not_false, iR1, iR2, range1D, range2D, pw18, hg]
    rfl
  · refine ⟨_, ?_, mixI c k, 0, c.fmod p18' + k, rfl, mixI_nn c k, by decide, by decide⟩
    have hg : geD (.int c) (.int p18) = .ok (.bool false) := by show R.ok (PyData.bool (decide (p18 ≤ c))) = _; rw [decide_eq_false h]
    simp only [G_purse, b_law_purse, FL.run, runP, slots, outs, outD, List.replicate, List.length_cons, List.length_nil, sRet, sSeq, sIf, sSet, sE, sNx, sOwn, sThen, sFrz, sRetF, sRetM, sRetN, sPar, sBrk, sCnt, sBad, eC, eV, FL.e1, FL.e2, eAnd, eOr, eNot, eIf, eChain, aNil, aCons, eTup, eLst, eCall, eRep, oNone, oSome, eSl, mutAt, lstAt, m1, m2, m2r, m2m, mSl, mLst2, tE, tB, FL.tAnd, FL.tOr, FL.tNot, tM, tTrue, gN, gT, gAll, updM, updM0, setM, putMut, appD, bind_ok, bind_bad, bind_err, List.getElem?_cons_zero, List.getElem?_cons_succ, List.set_cons_zero, List.set_cons_succ, List.nil_append, List.cons_append, List.head?_cons, List.tail_cons, Bool.false_eq_true, if_false, if_true, Nat.sub_self, Nat.reduceSub, Nat.reduceAdd, reduceCtorEq, addD, subD, ixD, sliceD, lenD, truD, listD, tupleD, eCallM, arEv, arIn, arOut, arPs, bkL, bk1, List.lookup_cons, List.lookup_nil, blk, back, List.zip_cons_cons, List.zip_nil_left, List.zip_nil_right, List.map_cons, List.map_nil, List.drop_succ_cons, List.drop_zero, Option.getD_some, Option.getD_none, sFor, iE, itemsD, Bool.not_true, Bool.not_false, iR1, iR2, range1D, range2D, pw18, ad18, hg, a1, hx1]
    rfl
theorem take_ok {k : Nat} {d : D} (h : Purse k d) (hk : k ≤ 60000) (m : Int) (hm1 : 1 ≤ m) (hm2 : m.natAbs < 65536) : ∃ g d', G_take [d, .int m] = .ok (.int g, [d', .int m]) ∧ 0 ≤ g ∧ g < m ∧ Purse (k + 1) d' := by
  obtain ⟨n, c, s, rfl, h1, h2, h3⟩ := h
  have i0 : ∀ x y z : D, atI [x, y, z] 0 = some x := fun _ _ _ => rfl
  have i1 : ∀ x y z : D, atI [x, y, z] 1 = some y := fun _ _ _ => rfl
  have i2 : ∀ x y z : D, atI [x, y, z] 2 = some z := fun _ _ _ => rfl
  have j0 : ixN 3 0 = some 0 := rfl
  have j1 : ixN 3 1 = some 1 := rfl
  have hlt : ltD (.int n) (.int m) = .ok (.bool (decide (n < m))) := rfl
  have hd : ∀ i : Int, fdivD (.int i) (.int m) = .ok (.int (i.fdiv m)) := fun i => fdivD_ok (by omega) (bd_small hm2) (by decide)
  have hm : ∀ i : Int, modD (.int i) (.int m) = .ok (.int (i.fmod m)) := fun i => modD_ok (by omega)
  have gd : ∀ i : Int, 0 ≤ i → 0 ≤ i.fdiv m := fun i hi => Int.fdiv_nonneg hi (by omega)
  by_cases hn : n < m
  · rw [decide_eq_true hn] at hlt
    have hc : (c + 1).natAbs < 65536 := by omega
    have x1 := mulD_ok (i := 11) (bd_small (by decide)) (bd_small hc) (by decide)
    have xb := ((bd_small (i := 11) (by decide)).mul (bd_small hc)).add (bd_small (i := 5) (by decide))
    have x2 := mixed_ok s (11 * (c + 1) + 5) xb (by decide)
    have x3 := mulD_ok (bd_small hm2) (mixI_bd s (11 * (c + 1) + 5)) (by decide)
    have nn : 0 ≤ n + m * mixI s (11 * (c + 1) + 5) := Int.add_nonneg h1 (Int.mul_nonneg (by omega) (mixI_nn _ _))
    refine ⟨(n + m * mixI s (11 * (c + 1) + 5)).fmod m, .list [.int ((n + m * mixI s (11 * (c + 1) + 5)).fdiv m), .int (c + 1), .int s], ?_, Int.fmod_nonneg_of_pos _ (by omega), Int.fmod_lt_of_pos _ (by omega), _, _, _, rfl, gd _ nn, by omega, by omega⟩
    simp only [G_take, b_law_take, FL.run, runP, slots, outs, outD, List.replicate, List.length_cons, List.length_nil, sRet, sSeq, sIf, sSet, sE, sNx, sOwn, sThen, sFrz, sRetF, sRetM, sRetN, sPar, sBrk, sCnt, sBad, eC, eV, FL.e1, FL.e2, eAnd, eOr, eNot, eIf, eChain, aNil, aCons, eTup, eLst, eCall, eRep, oNone, oSome, eSl, mutAt, lstAt, m1, m2, m2r, m2m, mSl, mLst2, tE, tB, FL.tAnd, FL.tOr, FL.tNot, tM, tTrue, gN, gT, gAll, updM, updM0, setM, putMut, appD, bind_ok, bind_bad, bind_err, List.getElem?_cons_zero, List.getElem?_cons_succ, List.set_cons_zero, List.set_cons_succ, List.nil_append, List.cons_append, List.head?_cons, List.tail_cons, Bool.false_eq_true, if_false, if_true, Nat.sub_self, Nat.reduceSub, Nat.reduceAdd, reduceCtorEq, addD, subD, ixD, sliceD, lenD, truD, listD, tupleD, eCallM, arEv, arIn, arOut, arPs, bkL, bk1, List.lookup_cons, List.lookup_nil, blk, back, List.zip_cons_cons, List.zip_nil_left, List.zip_nil_right, List.map_cons, List.map_nil, List.drop_succ_cons, List.drop_zero, Option.getD_some, Option.getD_none, sFor, iE, itemsD, Bool.not_true, Bool.not_false, iR1, iR2, range1D, range2D, R.of, i0, i1, i2, j0, j1, hlt, x1, x2, x3, hd, hm]
  · rw [decide_eq_false hn] at hlt
    refine ⟨n.fmod m, .list [.int (n.fdiv m), .int c, .int s], ?_, Int.fmod_nonneg_of_pos _ (by omega), Int.fmod_lt_of_pos _ (by omega), _, _, _, rfl, gd _ h1, by omega, by omega⟩
    simp only [G_take, b_law_take, FL.run, runP, slots, outs, outD, List.replicate, List.length_cons, List.length_nil, sRet, sSeq, sIf, sSet, sE, sNx, sOwn, sThen, sFrz, sRetF, sRetM, sRetN, sPar, sBrk, sCnt, sBad, eC, eV, FL.e1, FL.e2, eAnd, eOr, eNot, eIf, eChain, aNil, aCons, eTup, eLst, eCall, eRep, oNone, oSome, eSl, mutAt, lstAt, m1, m2, m2r, m2m, mSl, mLst2, tE, tB, FL.tAnd, FL.tOr, FL.tNot, tM, tTrue, gN, gT, gAll, updM, updM0, setM, putMut, appD, bind_ok, bind_bad, bind_err, List.getElem?_cons_zero, List.getElem?_cons_succ, List.set_cons_zero, List.set_cons_succ, List.nil_append, List.cons_append, List.head?_cons, List.tail_cons, Bool.false_eq_true, if_false, if_true, Nat.sub_self, Nat.reduceSub, Nat.reduceAdd, reduceCtorEq, addD, subD, ixD, sliceD, lenD, truD, listD, tupleD, eCallM, arEv, arIn, arOut, arPs, bkL, bk1, List.lookup_cons, List.lookup_nil, blk, back, List.zip_cons_cons, List.zip_nil_left, List.zip_nil_right, List.map_cons, List.map_nil, List.drop_succ_cons, List.drop_zero, Option.getD_some, Option.getD_none, sFor, iE, itemsD, Bool.not_true, Bool.not_false, iR1, iR2, range1D, range2D, R.of, i0, i1, i2, j0, j1, hlt, hd, hm]
theorem at_ok (ns : List Int) (k : Int) (h0 : 0 ≤ k) (hk : k.natAbs < 65536) : ∃ a, G_at [.list (ns.map PyData.int), .int k] = .ok (.int a) := by
  have a3 := mulD_ok (i := 3) (bd_small (by decide)) (bd_small hk) (by decide)
  have hl : ltD (.int k) (.int (ns.length : Int)) = .ok (.bool (decide (k < ns.length))) := rfl
  by_cases h : k < ns.length
  · rw [decide_eq_true h] at hl
    have : ∃ a, atI (ns.map PyData.int) k = some (.int a) := by
      unfold atI ixN
      rw [List.length_map, if_pos h0, if_pos h]
      exact ⟨ns[k.toNat]'(by omega), by simp [show k.toNat < ns.length by omega]⟩
    obtain ⟨a, ea⟩ := this
    refine ⟨a, ?_⟩
    simp only [G_at, b_law_at, FL.run, runP, slots, outs, outD, List.replicate, List.length_cons, List.length_nil, sRet, sSeq, sIf, sSet, sE, sNx, sOwn, sThen, sFrz, sRetF, sRetM, sRetN, sPar, sBrk, sCnt, sBad, eC, eV, FL.e1, FL.e2, eAnd, eOr, eNot, eIf, eChain, aNil, aCons, eTup, eLst, eCall, eRep, oNone, oSome, eSl, mutAt, lstAt, m1, m2, m2r, m2m, mSl, mLst2, tE, tB, FL.tAnd, FL.tOr, FL.tNot, tM, tTrue, gN, gT, gAll, updM, updM0, setM, putMut, appD, bind_ok, bind_bad, bind_err, List.getElem?_cons_zero, List.getElem?_cons_succ, List.set_cons_zero, List.set_cons_succ, List.nil_append, List.cons_append, List.head?_cons, List.tail_cons, Bool.false_eq_true, if_false, if_true, Nat.sub_self, Nat.reduceSub, Nat.reduceAdd, reduceCtorEq, addD, subD, ixD, sliceD, lenD, truD, listD, tupleD, eCallM, arEv, arIn, arOut, arPs, bkL, bk1, List.lookup_cons, List.lookup_nil, blk, back, List.zip_cons_cons, List.zip_nil_left, List.zip_nil_right, List.map_cons, List.map_nil, List.drop_succ_cons, List.drop_zero, Option.getD_some, Option.getD_none, sFor, iE, itemsD, Bool.not_true, Bool.not_false, iR1, iR2, range1D, range2D, List.length_map, hl, ea, R.of]
  · rw [decide_eq_false h] at hl
    refine ⟨3 * k + 1, ?_⟩
    simp only [G_at, b_law_at, FL.run, runP, slots, outs, outD, List.replicate, List.length_cons, List.length_nil, sRet, sSeq, sIf, sSet, sE, sNx, sOwn, sThen, sFrz, sRetF, sRetM, sRetN, sPar, sBrk, sCnt, sBad, eC, eV, FL.e1, FL.e2, eAnd, eOr, eNot, eIf, eChain, aNil, aCons, eTup, eLst, eCall, eRep, oNone, oSome, eSl, mutAt, lstAt, m1, m2, m2r, m2m, mSl, mLst2, tE, tB, FL.tAnd, FL.tOr, FL.tNot, tM, tTrue, gN, gT, gAll, updM, updM0, setM, putMut, appD, bind_ok, bind_bad, bind_err, List.getElem?_cons_zero, List.getElem?_cons_succ, List.set_cons_zero, List.set_cons_succ, List.nil_append, List.cons_append, List.head?_cons, List.tail_cons, Bool.false_eq_true, if_false, if_true, Nat.sub_self, Nat.reduceSub, Nat.reduceAdd, reduceCtorEq, addD, subD, ixD, sliceD, lenD, truD, listD, tupleD, eCallM, arEv, arIn, arOut, arPs, bkL, bk1, List.lookup_cons, List.lookup_nil, blk, back, List.zip_cons_cons, List.zip_nil_left, List.zip_nil_right, List.map_cons, List.map_nil, List.drop_succ_cons, List.drop_zero, Option.getD_some, Option.getD_none, sFor, iE, itemsD, Bool.not_true, Bool.not_false, iR1, iR2, range1D, range2D, List.length_map, hl, a3]
end FL
set_option Elab.async false
set_option linter.all false
set_option maxRecDepth 100000
namespace FL
open PySem
theorem compL2_pure {k : Nat} {ix : List Nat} {g : GF} {t : TF} {k2 : Nat} {it2 : IF} {g2 : GF} {t2 : TF} {f : EF} {ρ : En} (h : D → List D) : ∀ (items : List D) (acc : List D), acc.length + (items.flatMap h).length ≤ lim →
    (∀ x ∈ items, ∀ acc : List D, acc.length + (h x).length ≤ lim → ∃ β items2, g x (blk k ix ρ) = .ok β ∧ t β = .ok (true, β) ∧ it2 β = .ok (items2, β) ∧ compL k2 (List.range' k2 (β.length - k2)) g2 t2 f items2 β acc = .ok (acc ++ h x, β) ∧ back ρ ix (β.drop k) = ρ) →
    compL2 k ix g t k2 it2 g2 t2 f items ρ acc = .ok (acc ++ items.flatMap h, ρ)
  | [], acc, _, _ => by simp [compL2]
  | x :: xs, acc, hl, hx => by
    rw [List.flatMap_cons, List.length_append] at hl
    obtain ⟨β, items2, h1, h2, h3, h4, h5⟩ := hx x (List.mem_cons_self ..) acc (by omega)
    have ih := compL2_pure h xs (acc ++ h x) (by rw [List.length_append]; omega) fun x m => hx x (List.mem_cons_of_mem _ m)
    unfold compL2
    rw [h1, bind_ok, h2, bind_ok, if_pos rfl, h3, bind_ok, h4, bind_ok, h5, ih, List.flatMap_cons, List.append_assoc]
theorem eComp2_pure {k : Nat} {ix : List Nat} {it : IF} {g : GF} {t : TF} {k2 : Nat} {it2 : IF} {g2 : GF} {t2 : TF} {f : EF} {ρ : En} {items : List D} (h : D → List D) (hi : it ρ = .ok (items, ρ)) (hl : (items.flatMap h).length ≤ lim)
    (hx : ∀ x ∈ items, ∀ acc : List D, acc.length + (h x).length ≤ lim → ∃ β items2, g x (blk k ix ρ) = .ok β ∧ t β = .ok (true, β) ∧ it2 β = .ok (items2, β) ∧ compL k2 (List.range' k2 (β.length - k2)) g2 t2 f items2 β acc = .ok (acc ++ h x, β) ∧ back ρ ix (β.drop k) = ρ) :
    eComp2 k ix it g t k2 it2 g2 t2 f ρ = .ok (.list (items.flatMap h), ρ) := by
  unfold eComp2
  rw [hi, bind_ok, compL2_pure h items [] (by simpa using hl) hx]
  rfl
theorem bkL_off {i : Nat} {x : Sl} : ∀ (ρ : En) (n : Nat), i < n → bkL [(i, x)] n ρ = ρ
  | [], _, _ => rfl
  | y :: r, n, h => by
    unfold bkL
    rw [bk1_ne (by rw [List.lookup_cons, show (n == i) = false from beq_eq_false_iff_ne.mpr (by omega)]; rfl), bkL_off r (n + 1) (by omega)]
theorem bkL_one {d d' : D} {p : Bool} : ∀ (ρ : En) (n i : Nat), ρ[i]? = some (.ow p d) → bkL [(n + i, .ow true d')] n ρ = ρ.set i (.ow p d')
  | [], _, _, h => by simp at h
  | y :: r, n, 0, h => by
    have hy : y = .ow p d := by simpa using h
    subst hy
    unfold bkL
    rw [Nat.add_zero, bkL_off r (n + 1) (Nat.lt_succ_self n)]
    have : bk1 [(n, Sl.ow true d')] n (.ow p d) = .ow p d' := by
      unfold bk1
      rw [List.lookup_cons, beq_self_eq_true]
    rw [this]
    rfl
  | y :: r, n, i + 1, h => by
    unfold bkL
    rw [bk1_ne (by rw [List.lookup_cons, show (n == n + (i + 1)) = false from beq_eq_false_iff_ne.mpr (by omega)]; rfl), show n + (i + 1) = n + 1 + i by omega, bkL_one r (n + 1) i (by simpa using h)]
    rfl
theorem callM_1 {F : List D → R (D × List D)} {i : Nat} {f : EF} {ρ : En} {p : Bool} {d v r d' v' : D} (hi : ρ[i]? = some (.ow p d)) (hf : f ρ = .ok (v, ρ)) (hF : F [d, v] = .ok (r, [d', v'])) : eCallM F [.m i, .v f] ρ = .ok (r, ρ.set i (.ow p d')) := by
  have hm : mutAt ρ i = .ok d := by unfold mutAt; rw [hi]
  unfold eCallM
  simp only [arEv, hm, bind_ok, hf, arIn, hF]
  have := bkL_one (d := d) (d' := d') (p := p) ρ 0 i hi
  rw [Nat.zero_add] at this
  show R.ok (r, bkL [(i, .ow true d')] 0 ρ) = _
  rw [this]
theorem callM_t {F : List D → R (D × List D)} {f h : EF} {ρ : En} {d v r d' v' : D} (hf : f ρ = .ok (d, ρ)) (hh : h ρ = .ok (v, ρ)) (hF : F [d, v] = .ok (r, [d', v'])) : eCallM F [.t f, .v h] ρ = .ok (r, ρ) := by
  unfold eCallM
  simp only [arEv, bind_ok, hf, hh, arIn, hF]
  show R.ok (r, bkL [] 0 ρ) = _
  rw [bkL_same (fun i p d e => by cases e)]
end FL
set_option Elab.async false
set_option linter.all false
set_option maxRecDepth 100000
namespace K53
open PySem FL
def b_is_whole : SF := (sRet (eAnd (e1 (isiD' "int") (eV 0)) (eNot (e1 (isiD' "bool") (eV 0)))))
def F_is_whole : List D → R D := runP false 1 1 b_is_whole
def q_is_least_0 : EF := (eComp 1 [0] (iR2 (aCons (eC (.int 1)) (aCons (e1 lenD (eV 0)) aNil))) (gN 0) tTrue (e2 ltD (eV 1) (eSl (eV 1) (oSome (eV 0)) oNone)))
def b_is_least : SF := (sRet (eAnd (e2 gtD (e1 lenD (eV 0)) (eC (.int 0))) (e1 allD q_is_least_0)))
def F_is_least : List D → R D := runP false 1 1 b_is_least
def b__law_mixed : SF := (sSeq (sSet (gN 2) (e2 addD (e2 addD (e2 mulD (e2 addD (e2 modD (eV 0) (e2 addD (e2 powD (eC (.int 10)) (eC (.int 18))) (eC (.int 9)))) (e2 mulD (eC (.int 7)) (eV 1))) (eC (.int 739108512309184756019283746561))) (e2 mulD (eC (.int 7919)) (eV 1))) (eC (.int 1))))
    (sSeq (sSet (gN 2) (e2 modD (e2 mulD (eV 2) (eV 2)) (e2 addD (e2 powD (eC (.int 10)) (eC (.int 60))) (eC (.int 7)))))
    (sRet (e2 modD (e2 mulD (e2 addD (eV 2) (eC (.int 40503))) (e2 addD (eV 2) (eC (.int 57)))) (e2 addD (e2 powD (eC (.int 10)) (eC (.int 60))) (eC (.int 7)))))))
def F__law_mixed : List D → R D := runP false 2 3 b__law_mixed
def b__law_at : SF := (sSeq (sIf (tB (e2 ltD (eV 1) (e1 lenD (eV 0)))) (sRet (e2 ixD (eV 0) (eV 1))) sNx)
    (sRet (e2 addD (e2 mulD (eC (.int 3)) (eV 1)) (eC (.int 1)))))
def F__law_at : List D → R D := runP false 2 2 b__law_at
def q__law_is_least_0 : EF := (eComp 1 [0] (iR2 (aCons (eC (.int 1)) (aCons (e1 lenD (eV 0)) aNil))) (gN 0) tTrue (e2 addD (eSl (eV 1) (oSome (eV 0)) oNone) (eSl (eV 1) oNone (oSome (eV 0)))))
def q__law_is_least_1 : EF := (eComp 1 [0] (iE (eV 1)) (gN 0) (tB (e2 leD (eV 0) (eV 1))) (eV 0))
def b__law_is_least : SF := (sSeq (sThen 1 (sOwn 1 q__law_is_least_0))
    (sRet (eAnd (e2 neD (eV 0) (eTup aNil)) (e2 eqD q__law_is_least_1 (eLst aNil)))))
def F__law_is_least : List D → R D := runP false 1 2 b__law_is_least
def q_is_word_0 : EF := (eComp 1 [1] (iE (eV 0)) (gN 0) tTrue (eAnd (eCall F_is_whole (aCons (eV 0) aNil)) (eChain leD ltD (eC (.int 0)) (eV 0) (eV 1))))
def b_is_word : SF := (sSeq (sIf (FL.tOr (FL.tNot (tE (e1 (isiD' "tuple") (eV 0)))) (tB (e2 gtD (e1 lenD (eV 0)) (eC (.int 5))))) (sRet (eC (.bool false))) sNx)
    (sRet (e1 allD q_is_word_0)))
def F_is_word : List D → R D := runP false 2 2 b_is_word
def q_fallen_words_0 : EF := (eComp 1 [0] (iR2 (aCons (eC (.int 1)) (aCons (e2 addD (e1 lenD (eV 0)) (eC (.int 1))) aNil))) (gN 0) (tE (eCall F_is_least (aCons (eSl (eV 1) oNone (oSome (eV 0))) aNil))) (eV 0))
def w_fallen_words_0 : SF := (sWhile (fun _ => 10) (tE (eV 0)) (sSeq (sSet (gN 2) (e1 maxD q_fallen_words_0))
    (sSeq (updM 1 appD (eSl (eV 0) oNone (oSome (eV 2))))
    (sSet (gN 0) (eSl (eV 0) (oSome (eV 2)) oNone)))))
def b_fallen_words : SF := (sSeq (sOwn 1 (eLst aNil))
    (sSeq w_fallen_words_0
    (sRetM 1)))
def F_fallen_words : List D → R D := runP true 1 3 b_fallen_words
def b__law_purse : SF := (sSeq (sIf (tB (e2 geD (eV 0) (e2 powD (eC (.int 10)) (eC (.int 18))))) (sRetF (eLst (aCons (e2 subD (eV 0) (e2 powD (eC (.int 10)) (eC (.int 18)))) (aCons (eC (.int 0)) (aCons (eV 1) aNil))))) sNx)
    (sRetF (eLst (aCons (eCall F__law_mixed (aCons (eV 0) (aCons (eV 1) aNil))) (aCons (eC (.int 0)) (aCons (e2 addD (e2 modD (eV 0) (e2 addD (e2 powD (eC (.int 10)) (eC (.int 18))) (eC (.int 9)))) (eV 1)) aNil))))))
def F__law_purse : List D → R D := runP true 2 2 b__law_purse
def b__law_take : SF := (sSeq (sIf (tB (e2 ltD (m2 ixD 0 (eC (.int 0))) (eV 1))) (sSeq (setM 0 (e2 addD (m2 ixD 0 (eC (.int 1))) (eC (.int 1))) (eC (.int 1)))
    (setM 0 (e2 addD (m2 ixD 0 (eC (.int 0))) (e2 mulD (eV 1) (eCall F__law_mixed (aCons (m2 ixD 0 (eC (.int 2))) (aCons (e2 addD (e2 mulD (eC (.int 11)) (m2 ixD 0 (eC (.int 1)))) (eC (.int 5))) aNil))))) (eC (.int 0)))) sNx)
    (sSeq (sSet (gN 2) (e2 modD (m2 ixD 0 (eC (.int 0))) (eV 1)))
    (sSeq (setM 0 (e2 fdivD (m2 ixD 0 (eC (.int 0))) (eV 1)) (eC (.int 0)))
    (sRet (eV 2)))))
def F__law_take : List D → R (D × List D) := run [true, false] false 3 b__law_take
def u__law_rows_0 : SF := (sIf (FL.tOr (tB (e2 eqD (eV 5) (e1 lenD (eV 0)))) (tB (e2 eqD (e2 modD (e2 fdivD (eV 2) (e2 shlD (eC (.int 1)) (e2 subD (eV 5) (eC (.int 1))))) (eC (.int 2))) (eC (.int 1))))) (sSeq (updM 3 appD (eSl (eV 0) (oSome (eV 4)) (oSome (eV 5))))
    (sSet (gN 4) (eV 5))) sNx)
def w__law_rows_0 : SF := (sFor (iR2 (aCons (eC (.int 1)) (aCons (e2 addD (e1 lenD (eV 0)) (eC (.int 1))) aNil))) (gN 5) u__law_rows_0)
def q__law_rows_0 : EF := (eComp 1 [3] (iR2 (aCons (eC (.int 1)) (aCons (m1 lenD 3) aNil))) (gN 0) (tB (e2 gtD (m2 ixD 1 (eV 0)) (m2 ixD 1 (e2 subD (eV 0) (eC (.int 1)))))) (eV 0))
def q__law_rows_1 : EF := (eCompM 1 [] 3 (gN 0) (FL.tNot (tE (eCall F__law_is_least (aCons (eV 0) aNil)))) (eV 0))
def u__law_rows_1 : SF := (sSeq (sOwn 3 (eLst aNil))
    (sSeq (sSet (gN 4) (eC (.int 0)))
    (sSeq w__law_rows_0
    (sSeq (sSet (gN 6) (e2 eqD q__law_rows_0 (eLst aNil)))
    (sIf (FL.tAnd (tE (eV 6)) (tB (e2 eqD q__law_rows_1 (eLst aNil)))) (sFrz 3 (updM 1 appD (eV 3))) sNx)))))
def w__law_rows_1 : SF := (sFor (iR1 (aCons (e2 shlD (eC (.int 1)) (eCall (two max2D) (aCons (eC (.int 0)) (aCons (e2 subD (e1 lenD (eV 0)) (eC (.int 1))) aNil)))) aNil)) (gN 2) u__law_rows_1)
def b__law_rows : SF := (sSeq (sOwn 1 (eLst aNil))
    (sSeq w__law_rows_1
    (sFrz 1 (sRet (eV 1)))))
def F__law_rows : List D → R D := runP false 1 7 b__law_rows
def b_refuse_word : SF := (sIf (FL.tNot (tE (eCall F_is_word (aCons (eV 0) (aCons (eC (.int 4)) aNil))))) sBad sNx)
def F_refuse_word : List D → R D := runP false 1 1 b_refuse_word
def q__law_word_0 : EF := (eComp 1 [0, 2] (iR1 (aCons (eV 3) aNil)) (gN 0) tTrue (eCallM F__law_take [.m 1, .v (eV 2)]))
def b__law_word : SF := (sSeq (sSet (gN 1) (eCallM F__law_take [.m 0, .v (eC (.int 3))]))
    (sSeq (sSet (gN 2) (e2 ixD (eLst (aCons (eC (.int 4)) (aCons (eC (.int 2)) (aCons (eC (.int 3)) aNil)))) (eV 1)))
    (sSeq (sSet (gN 3) (eCallM F__law_take [.m 0, .v (eC (.int 6))]))
    (sSeq (sSet (gN 4) (e1 tupleD q__law_word_0))
    (sSeq (sIf (FL.tAnd (tB (e2 eqD (eV 1) (eC (.int 2)))) (tB (e2 gtD (eV 3) (eC (.int 0))))) (sRet (eSl (e2 mulD (eSl (eV 4) oNone (oSome (e2 addD (eC (.int 1)) (eCallM F__law_take [.m 0, .v (eC (.int 2))])))) (eC (.int 5))) oNone (oSome (eV 3)))) sNx)
    (sRet (eV 4)))))))
def F__law_word : List D → R (D × List D) := run [true] false 5 b__law_word
def b_fallen : SF := (sSeq (sE (eCall F_refuse_word (aCons (eV 0) aNil)))
    (sRetF (eCall F_fallen_words (aCons (eV 0) aNil))))
def F_fallen : List D → R D := runP true 1 1 b_fallen
def q_law_0 : EF := (eCompM 1 [] 4 (gN 0) (FL.tNot (tE (e1 (isiD' "tuple") (eV 0)))) (eV 0))
def u_law_0 : SF := (sSeq (sSet (gN 3) (eCallM F__law_word [.t (eCall F__law_purse (aCons (eV 2) (aCons (eC (.int 53)) aNil)))]))
    (sSeq (sOwn 4 (eCall F_fallen (aCons (eV 3) aNil)))
    (sSeq (sIf (FL.tOr (FL.tNot (tE (m1 (isiD' "list") 4))) (tB (e2 neD q_law_0 (eLst aNil)))) (sRet (eC (.bool false))) sNx)
    (sSeq (sIf (tB (mLst2 neD 4 (eCall F__law_rows (aCons (eV 3) aNil)))) (sRet (eC (.bool false))) sNx)
    (sSeq (sSet (gN 5) (m1 listD 4))
    (sSeq (sE (eCall F_fallen (aCons (eV 1) aNil)))
    (sSeq (sIf (tB (m2 neD 4 (eV 5))) (sRet (eC (.bool false))) sNx)
    (sSeq (updM 4 appD (eTup (aCons (eC (.int 0)) aNil)))
    (sSeq (sIf (tB (e2 neD (eCall F_fallen (aCons (eV 3) aNil)) (eV 5))) (sRet (eC (.bool false))) sNx)
    (sSet (gN 1) (eV 3)))))))))))
def w_law_0 : SF := (sFor (iE (e2 addD (eSl (eV 0) oNone (oSome (eC (.int 8)))) (eLst (aCons (eCall F__law_at (aCons (eV 0) (aCons (eC (.int 1)) aNil))) aNil)))) (gN 2) u_law_0)
def b_law : SF := (sSeq (sSet (gN 1) (eTup aNil))
    (sSeq w_law_0
    (sRet (eC (.bool true)))))
def F_law : List D → R D := runP false 1 6 b_law
end K53
set_option Elab.async false
set_option linter.all false
set_option maxRecDepth 100000
namespace K53
open PySem FL
def least (w : List Int) : Bool := decide (0 < w.length) && (List.range (w.length - 1)).all fun i => lexLt w (w.drop (1 + i))
theorem q_is_least (w : List Int) (hw : w.length ≤ 100) : q_is_least_0 [Sl.val (tp w)] = .ok (.list (((List.range (w.length - 1)).map fun i => lexLt w (w.drop (1 + i))).map PyData.bool), [Sl.val (tp w)]) := by
  unfold q_is_least_0
  rw [eComp_map (items := rng 1 w.length) (fun x => match x with | .int p => .bool (lexLt w (w.drop p.toNat)) | d => d)]
  · congr 3
    rw [rng_map, List.map_map, List.map_map, List.map_map]
    rw [show ((w.length : Int) - 1).toNat = w.length - 1 by omega]
    refine List.map_congr_left fun i _ => ?_
    simp only [Function.comp_apply]
    rw [show ((1 : Int) + (i : Int)).toNat = 1 + i by omega]
  · simp only [FL.run, runP, slots, outs, outD, List.replicate, List.length_cons, List.length_nil, sRet, sSeq, sIf, sSet, sE, sNx, sOwn, sThen, sFrz, sRetF, sRetM, sRetN, sPar, sBrk, sCnt, sBad, eC, eV, FL.e1, FL.e2, eAnd, eOr, eNot, eIf, eChain, aNil, aCons, eTup, eLst, eCall, eRep, oNone, oSome, eSl, mutAt, lstAt, m1, m2, m2r, m2m, mSl, mLst2, tE, tB, FL.tAnd, FL.tOr, FL.tNot, tM, tTrue, gN, gT, gAll, updM, updM0, setM, putMut, appD, bind_ok, bind_bad, bind_err, List.getElem?_cons_zero, List.getElem?_cons_succ, List.set_cons_zero, List.set_cons_succ, List.nil_append, List.cons_append, List.head?_cons, List.tail_cons, Bool.false_eq_true, if_false, if_true, Nat.sub_self, Nat.reduceSub, Nat.reduceAdd, reduceCtorEq, addD, subD, ixD, sliceD, lenD, truD, listD, tupleD, eCallM, arEv, arIn, arOut, arPs, bkL, bk1, List.lookup_cons, List.lookup_nil, blk, back, List.zip_cons_cons, List.zip_nil_left, List.zip_nil_right, List.map_cons, List.map_nil, List.drop_succ_cons, List.drop_zero, Option.getD_some, Option.getD_none, sFor, iE, itemsD, Bool.not_true, Bool.not_false, iR1, iR2, List.length_map]
    rw [range2D_ok (by omega) (by omega) (by omega) (by omega)]
    rfl
  · rw [rng_len]; unfold lim; omega
  · intro x hx
    obtain ⟨i, hi, rfl⟩ := mem_rng hx
    refine ⟨[.val (.int (1 + i)), .val (tp w)], ?_, ?_, ?_⟩
    · simp only [FL.run, runP, slots, outs, outD, List.replicate, List.length_cons, List.length_nil, sRet, sSeq, sIf, sSet, sE, sNx, sOwn, sThen, sFrz, sRetF, sRetM, sRetN, sPar, sBrk, sCnt, sBad, eC, eV, FL.e1, FL.e2, eAnd, eOr, eNot, eIf, eChain, aNil, aCons, eTup, eLst, eCall, eRep, oNone, oSome, eSl, mutAt, lstAt, m1, m2, m2r, m2m, mSl, mLst2, tE, tB, FL.tAnd, FL.tOr, FL.tNot, tM, tTrue, gN, gT, gAll, updM, updM0, setM, putMut, appD, bind_ok, bind_bad, bind_err, List.getElem?_cons_zero, List.getElem?_cons_succ, List.set_cons_zero, List.set_cons_succ, List.nil_append, List.cons_append, List.head?_cons, List.tail_cons, Bool.false_eq_true, if_false, if_true, Nat.sub_self, Nat.reduceSub, Nat.reduceAdd, reduceCtorEq, addD, subD, ixD, sliceD, lenD, truD, listD, tupleD, eCallM, arEv, arIn, arOut, arPs, bkL, bk1, List.lookup_cons, List.lookup_nil, blk, back, List.zip_cons_cons, List.zip_nil_left, List.zip_nil_right, List.map_cons, List.map_nil, List.drop_succ_cons, List.drop_zero, Option.getD_some, Option.getD_none, sFor, iE, itemsD, Bool.not_true, Bool.not_false, iR1, iR2, range1D, range2D]
    · simp only [FL.run, runP, slots, outs, outD, List.replicate, List.length_cons, List.length_nil, sRet, sSeq, sIf, sSet, sE, sNx, sOwn, sThen, sFrz, sRetF, sRetM, sRetN, sPar, sBrk, sCnt, sBad, eC, eV, FL.e1, FL.e2, eAnd, eOr, eNot, eIf, eChain, aNil, aCons, eTup, eLst, eCall, eRep, oNone, oSome, eSl, mutAt, lstAt, m1, m2, m2r, m2m, mSl, mLst2, tE, tB, FL.tAnd, FL.tOr, FL.tNot, tM, tTrue, gN, gT, gAll, updM, updM0, setM, putMut, appD, bind_ok, bind_bad, bind_err, List.getElem?_cons_zero, List.getElem?_cons_succ, List.set_cons_zero, List.set_cons_succ, List.nil_append, List.cons_append, List.head?_cons, List.tail_cons, Bool.false_eq_true, if_false, if_true, Nat.sub_self, Nat.reduceSub, Nat.reduceAdd, reduceCtorEq, addD, subD, ixD, sliceD, lenD, truD, listD, tupleD, eCallM, arEv, arIn, arOut, arPs, bkL, bk1, List.lookup_cons, List.lookup_nil, blk, back, List.zip_cons_cons, List.zip_nil_left, List.zip_nil_right, List.map_cons, List.map_nil, List.drop_succ_cons, List.drop_zero, Option.getD_some, Option.getD_none, sFor, iE, itemsD, Bool.not_true, Bool.not_false, iR1, iR2, range1D, range2D]
      rw [show (1 : Int) + (i : Int) = ((1 + i : Nat) : Int) by omega, map_cut, cut_from w (1 + i) (by omega), ltD_tup, Int.toNat_natCast]
      rfl
    · simp only [FL.run, runP, slots, outs, outD, List.replicate, List.length_cons, List.length_nil, sRet, sSeq, sIf, sSet, sE, sNx, sOwn, sThen, sFrz, sRetF, sRetM, sRetN, sPar, sBrk, sCnt, sBad, eC, eV, FL.e1, FL.e2, eAnd, eOr, eNot, eIf, eChain, aNil, aCons, eTup, eLst, eCall, eRep, oNone, oSome, eSl, mutAt, lstAt, m1, m2, m2r, m2m, mSl, mLst2, tE, tB, FL.tAnd, FL.tOr, FL.tNot, tM, tTrue, gN, gT, gAll, updM, updM0, setM, putMut, appD, bind_ok, bind_bad, bind_err, List.getElem?_cons_zero, List.getElem?_cons_succ, List.set_cons_zero, List.set_cons_succ, List.nil_append, List.cons_append, List.head?_cons, List.tail_cons, Bool.false_eq_true, if_false, if_true, Nat.sub_self, Nat.reduceSub, Nat.reduceAdd, reduceCtorEq, addD, subD, ixD, sliceD, lenD, truD, listD, tupleD, eCallM, arEv, arIn, arOut, arPs, bkL, bk1, List.lookup_cons, List.lookup_nil, blk, back, List.zip_cons_cons, List.zip_nil_left, List.zip_nil_right, List.map_cons, List.map_nil, List.drop_succ_cons, List.drop_zero, Option.getD_some, Option.getD_none, sFor, iE, itemsD, Bool.not_true, Bool.not_false, iR1, iR2, range1D, range2D]
theorem is_least_ok (w : List Int) (hw : w.length ≤ 100) : F_is_least [tp w] = .ok (.bool (least w)) := by
  simp only [F_is_least, b_is_least, FL.run, runP, slots, outs, outD, List.replicate, List.length_cons, List.length_nil, sRet, sSeq, sIf, sSet, sE, sNx, sOwn, sThen, sFrz, sRetF, sRetM, sRetN, sPar, sBrk, sCnt, sBad, eC, eV, FL.e1, FL.e2, eAnd, eOr, eNot, eIf, eChain, aNil, aCons, eTup, eLst, eCall, eRep, oNone, oSome, eSl, mutAt, lstAt, m1, m2, m2r, m2m, mSl, mLst2, tE, tB, FL.tAnd, FL.tOr, FL.tNot, tM, tTrue, gN, gT, gAll, updM, updM0, setM, putMut, appD, bind_ok, bind_bad, bind_err, List.getElem?_cons_zero, List.getElem?_cons_succ, List.set_cons_zero, List.set_cons_succ, List.nil_append, List.cons_append, List.head?_cons, List.tail_cons, Bool.false_eq_true, if_false, if_true, Nat.sub_self, Nat.reduceSub, Nat.reduceAdd, reduceCtorEq, addD, subD, ixD, sliceD, lenD, truD, listD, tupleD, eCallM, arEv, arIn, arOut, arPs, bkL, bk1, List.lookup_cons, List.lookup_nil, blk, back, List.zip_cons_cons, List.zip_nil_left, List.zip_nil_right, List.map_cons, List.map_nil, List.drop_succ_cons, List.drop_zero, Option.getD_some, Option.getD_none, sFor, iE, itemsD, Bool.not_true, Bool.not_false, iR1, iR2, range1D, range2D, gtD_int, q_is_least w hw, List.length_map]
  unfold least
  by_cases h : 0 < w.length
  · rw [decide_eq_true h, decide_eq_true (show (0 : Int) < w.length by omega)]
    simp only [bind_ok, allD_map, List.all_map, Bool.true_and]
    rfl
  · rw [decide_eq_false h, decide_eq_false (show ¬ (0 : Int) < w.length by omega)]
    simp only [bind_ok, Bool.false_and]
def rot (p : Nat) (w : List Int) : List Int := w.drop p ++ w.take p
def rots (w : List Int) : List (List Int) := (List.range (w.length - 1)).map fun i => rot (1 + i) w
def leastR (w : List Int) : Bool := !decide (w = []) && decide ((rots w).filter (fun o => lexLe o w) = [])
theorem q_law_least0 (w : List Int) (hw : w.length ≤ 100) : q__law_is_least_0 [Sl.val (tp w), Sl.no] = .ok (ltp (rots w), [Sl.val (tp w), Sl.no]) := by
  unfold q__law_is_least_0
  rw [eComp_map (items := rng 1 w.length) (fun x => match x with | .int p => tp (rot p.toNat w) | d => d)]
  · congr 3
    unfold rots
    rw [rng_map, List.map_map, List.map_map, List.map_map]
    rw [show ((w.length : Int) - 1).toNat = w.length - 1 by omega]
    refine List.map_congr_left fun i _ => ?_
    simp only [Function.comp_apply]
    rw [show ((1 : Int) + (i : Int)).toNat = 1 + i by omega]
  · simp only [FL.run, runP, slots, outs, outD, List.replicate, List.length_cons, List.length_nil, sRet, sSeq, sIf, sSet, sE, sNx, sOwn, sThen, sFrz, sRetF, sRetM, sRetN, sPar, sBrk, sCnt, sBad, eC, eV, FL.e1, FL.e2, eAnd, eOr, eNot, eIf, eChain, aNil, aCons, eTup, eLst, eCall, eRep, oNone, oSome, eSl, mutAt, lstAt, m1, m2, m2r, m2m, mSl, mLst2, tE, tB, FL.tAnd, FL.tOr, FL.tNot, tM, tTrue, gN, gT, gAll, updM, updM0, setM, putMut, appD, bind_ok, bind_bad, bind_err, List.getElem?_cons_zero, List.getElem?_cons_succ, List.set_cons_zero, List.set_cons_succ, List.nil_append, List.cons_append, List.head?_cons, List.tail_cons, Bool.false_eq_true, if_false, if_true, Nat.sub_self, Nat.reduceSub, Nat.reduceAdd, reduceCtorEq, addD, subD, ixD, sliceD, lenD, truD, listD, tupleD, eCallM, arEv, arIn, arOut, arPs, bkL, bk1, List.lookup_cons, List.lookup_nil, blk, back, List.zip_cons_cons, List.zip_nil_left, List.zip_nil_right, List.map_cons, List.map_nil, List.drop_succ_cons, List.drop_zero, Option.getD_some, Option.getD_none, sFor, iE, itemsD, Bool.not_true, Bool.not_false, iR1, iR2, List.length_map]
    rw [range2D_ok (by omega) (by omega) (by omega) (by omega)]
    rfl
  · rw [rng_len]; unfold lim; omega
  · intro x hx
    obtain ⟨i, hi, rfl⟩ := mem_rng hx
    refine ⟨[.val (.int (1 + i)), .val (tp w)], ?_, ?_, ?_⟩
    · simp only [FL.run, runP, slots, outs, outD, List.replicate, List.length_cons, List.length_nil, sRet, sSeq, sIf, sSet, sE, sNx, sOwn, sThen, sFrz, sRetF, sRetM, sRetN, sPar, sBrk, sCnt, sBad, eC, eV, FL.e1, FL.e2, eAnd, eOr, eNot, eIf, eChain, aNil, aCons, eTup, eLst, eCall, eRep, oNone, oSome, eSl, mutAt, lstAt, m1, m2, m2r, m2m, mSl, mLst2, tE, tB, FL.tAnd, FL.tOr, FL.tNot, tM, tTrue, gN, gT, gAll, updM, updM0, setM, putMut, appD, bind_ok, bind_bad, bind_err, List.getElem?_cons_zero, List.getElem?_cons_succ, List.set_cons_zero, List.set_cons_succ, List.nil_append, List.cons_append, List.head?_cons, List.tail_cons, Bool.false_eq_true, if_false, if_true, Nat.sub_self, Nat.reduceSub, Nat.reduceAdd, reduceCtorEq, addD, subD, ixD, sliceD, lenD, truD, listD, tupleD, eCallM, arEv, arIn, arOut, arPs, bkL, bk1, List.lookup_cons, List.lookup_nil, blk, back, List.zip_cons_cons, List.zip_nil_left, List.zip_nil_right, List.map_cons, List.map_nil, List.drop_succ_cons, List.drop_zero, Option.getD_some, Option.getD_none, sFor, iE, itemsD, Bool.not_true, Bool.not_false, iR1, iR2, range1D, range2D]
    · simp only [FL.run, runP, slots, outs, outD, List.replicate, List.length_cons, List.length_nil, sRet, sSeq, sIf, sSet, sE, sNx, sOwn, sThen, sFrz, sRetF, sRetM, sRetN, sPar, sBrk, sCnt, sBad, eC, eV, FL.e1, FL.e2, eAnd, eOr, eNot, eIf, eChain, aNil, aCons, eTup, eLst, eCall, eRep, oNone, oSome, eSl, mutAt, lstAt, m1, m2, m2r, m2m, mSl, mLst2, tE, tB, FL.tAnd, FL.tOr, FL.tNot, tM, tTrue, gN, gT, gAll, updM, updM0, setM, putMut, appD, bind_ok, bind_bad, bind_err, List.getElem?_cons_zero, List.getElem?_cons_succ, List.set_cons_zero, List.set_cons_succ, List.nil_append, List.cons_append, List.head?_cons, List.tail_cons, Bool.false_eq_true, if_false, if_true, Nat.sub_self, Nat.reduceSub, Nat.reduceAdd, reduceCtorEq, addD, subD, ixD, sliceD, lenD, truD, listD, tupleD, eCallM, arEv, arIn, arOut, arPs, bkL, bk1, List.lookup_cons, List.lookup_nil, blk, back, List.zip_cons_cons, List.zip_nil_left, List.zip_nil_right, List.map_cons, List.map_nil, List.drop_succ_cons, List.drop_zero, Option.getD_some, Option.getD_none, sFor, iE, itemsD, Bool.not_true, Bool.not_false, iR1, iR2, range1D, range2D]
      rw [show (1 : Int) + (i : Int) = ((1 + i : Nat) : Int) by omega, map_cut, map_cut, cut_from w (1 + i) (by omega), cut_to, Int.toNat_natCast, chk_ok (leB_of (by simp [lim]; omega)), ← List.map_append]
      rfl
    · simp only [FL.run, runP, slots, outs, outD, List.replicate, List.length_cons, List.length_nil, sRet, sSeq, sIf, sSet, sE, sNx, sOwn, sThen, sFrz, sRetF, sRetM, sRetN, sPar, sBrk, sCnt, sBad, eC, eV, FL.e1, FL.e2, eAnd, eOr, eNot, eIf, eChain, aNil, aCons, eTup, eLst, eCall, eRep, oNone, oSome, eSl, mutAt, lstAt, m1, m2, m2r, m2m, mSl, mLst2, tE, tB, FL.tAnd, FL.tOr, FL.tNot, tM, tTrue, gN, gT, gAll, updM, updM0, setM, putMut, appD, bind_ok, bind_bad, bind_err, List.getElem?_cons_zero, List.getElem?_cons_succ, List.set_cons_zero, List.set_cons_succ, List.nil_append, List.cons_append, List.head?_cons, List.tail_cons, Bool.false_eq_true, if_false, if_true, Nat.sub_self, Nat.reduceSub, Nat.reduceAdd, reduceCtorEq, addD, subD, ixD, sliceD, lenD, truD, listD, tupleD, eCallM, arEv, arIn, arOut, arPs, bkL, bk1, List.lookup_cons, List.lookup_nil, blk, back, List.zip_cons_cons, List.zip_nil_left, List.zip_nil_right, List.map_cons, List.map_nil, List.drop_succ_cons, List.drop_zero, Option.getD_some, Option.getD_none, sFor, iE, itemsD, Bool.not_true, Bool.not_false, iR1, iR2, range1D, range2D]
theorem q_law_least1 (w : List Int) (ws : List (List Int)) (hw : ws.length ≤ 100) : q__law_is_least_1 [Sl.val (tp w), Sl.val (ltp ws)] = .ok (ltp (ws.filter fun o => lexLe o w), [Sl.val (tp w), Sl.val (ltp ws)]) := by
  unfold q__law_is_least_1
  rw [eComp_pure (items := ws.map tp) (fun x => match leD x (tp w) with | .ok (.bool b) => b | _ => false) id]
  · congr 3
    rw [List.map_id, List.filter_map]
    congr 1
    refine List.filter_congr fun o _ => ?_
    simp only [Function.comp_apply, leD_tup]
  · simp only [FL.run, runP, slots, outs, outD, List.replicate, List.length_cons, List.length_nil, sRet, sSeq, sIf, sSet, sE, sNx, sOwn, sThen, sFrz, sRetF, sRetM, sRetN, sPar, sBrk, sCnt, sBad, eC, eV, FL.e1, FL.e2, eAnd, eOr, eNot, eIf, eChain, aNil, aCons, eTup, eLst, eCall, eRep, oNone, oSome, eSl, mutAt, lstAt, m1, m2, m2r, m2m, mSl, mLst2, tE, tB, FL.tAnd, FL.tOr, FL.tNot, tM, tTrue, gN, gT, gAll, updM, updM0, setM, putMut, appD, bind_ok, bind_bad, bind_err, List.getElem?_cons_zero, List.getElem?_cons_succ, List.set_cons_zero, List.set_cons_succ, List.nil_append, List.cons_append, List.head?_cons, List.tail_cons, Bool.false_eq_true, if_false, if_true, Nat.sub_self, Nat.reduceSub, Nat.reduceAdd, reduceCtorEq, addD, subD, ixD, sliceD, lenD, truD, listD, tupleD, eCallM, arEv, arIn, arOut, arPs, bkL, bk1, List.lookup_cons, List.lookup_nil, blk, back, List.zip_cons_cons, List.zip_nil_left, List.zip_nil_right, List.map_cons, List.map_nil, List.drop_succ_cons, List.drop_zero, Option.getD_some, Option.getD_none, sFor, iE, itemsD, Bool.not_true, Bool.not_false, iR1, iR2, range1D, range2D]
  · rw [List.length_map]; unfold lim; omega
  · intro x hx
    obtain ⟨o, ho, rfl⟩ := List.mem_map.mp hx
    refine ⟨[.val (tp o), .val (tp w)], ?_, ?_, ?_, ?_⟩
    · simp only [FL.run, runP, slots, outs, outD, List.replicate, List.length_cons, List.length_nil, sRet, sSeq, sIf, sSet, sE, sNx, sOwn, sThen, sFrz, sRetF, sRetM, sRetN, sPar, sBrk, sCnt, sBad, eC, eV, FL.e1, FL.e2, eAnd, eOr, eNot, eIf, eChain, aNil, aCons, eTup, eLst, eCall, eRep, oNone, oSome, eSl, mutAt, lstAt, m1, m2, m2r, m2m, mSl, mLst2, tE, tB, FL.tAnd, FL.tOr, FL.tNot, tM, tTrue, gN, gT, gAll, updM, updM0, setM, putMut, appD, bind_ok, bind_bad, bind_err, List.getElem?_cons_zero, List.getElem?_cons_succ, List.set_cons_zero, List.set_cons_succ, List.nil_append, List.cons_append, List.head?_cons, List.tail_cons, Bool.false_eq_true, if_false, if_true, Nat.sub_self, Nat.reduceSub, Nat.reduceAdd, reduceCtorEq, addD, subD, ixD, sliceD, lenD, truD, listD, tupleD, eCallM, arEv, arIn, arOut, arPs, bkL, bk1, List.lookup_cons, List.lookup_nil, blk, back, List.zip_cons_cons, List.zip_nil_left, List.zip_nil_right, List.map_cons, List.map_nil, List.drop_succ_cons, List.drop_zero, Option.getD_some, Option.getD_none, sFor, iE, itemsD, Bool.not_true, Bool.not_false, iR1, iR2, range1D, range2D]
    · simp only [FL.run, runP, slots, outs, outD, List.replicate, List.length_cons, List.length_nil, sRet, sSeq, sIf, sSet, sE, sNx, sOwn, sThen, sFrz, sRetF, sRetM, sRetN, sPar, sBrk, sCnt, sBad, eC, eV, FL.e1, FL.e2, eAnd, eOr, eNot, eIf, eChain, aNil, aCons, eTup, eLst, eCall, eRep, oNone, oSome, eSl, mutAt, lstAt, m1, m2, m2r, m2m, mSl, mLst2, tE, tB, FL.tAnd, FL.tOr, FL.tNot, tM, tTrue, gN, gT, gAll, updM, updM0, setM, putMut, appD, bind_ok, bind_bad, bind_err, List.getElem?_cons_zero, List.getElem?_cons_succ, List.set_cons_zero, List.set_cons_succ, List.nil_append, List.cons_append, List.head?_cons, List.tail_cons, Bool.false_eq_true, if_false, if_true, Nat.sub_self, Nat.reduceSub, Nat.reduceAdd, reduceCtorEq, addD, subD, ixD, sliceD, lenD, truD, listD, tupleD, eCallM, arEv, arIn, arOut, arPs, bkL, bk1, List.lookup_cons, List.lookup_nil, blk, back, List.zip_cons_cons, List.zip_nil_left, List.zip_nil_right, List.map_cons, List.map_nil, List.drop_succ_cons, List.drop_zero, Option.getD_some, Option.getD_none, sFor, iE, itemsD, Bool.not_true, Bool.not_false, iR1, iR2, range1D, range2D, leD_tup]
    · intro _; simp only [FL.run, runP, slots, outs, outD, List.replicate, List.length_cons, List.length_nil, sRet, sSeq, sIf, sSet, sE, sNx, sOwn, sThen, sFrz, sRetF, sRetM, sRetN, sPar, sBrk, sCnt, sBad, eC, eV, FL.e1, FL.e2, eAnd, eOr, eNot, eIf, eChain, aNil, aCons, eTup, eLst, eCall, eRep, oNone, oSome, eSl, mutAt, lstAt, m1, m2, m2r, m2m, mSl, mLst2, tE, tB, FL.tAnd, FL.tOr, FL.tNot, tM, tTrue, gN, gT, gAll, updM, updM0, setM, putMut, appD, bind_ok, bind_bad, bind_err, List.getElem?_cons_zero, List.getElem?_cons_succ, List.set_cons_zero, List.set_cons_succ, List.nil_append, List.cons_append, List.head?_cons, List.tail_cons, Bool.false_eq_true, if_false, if_true, Nat.sub_self, Nat.reduceSub, Nat.reduceAdd, reduceCtorEq, addD, subD, ixD, sliceD, lenD, truD, listD, tupleD, eCallM, arEv, arIn, arOut, arPs, bkL, bk1, List.lookup_cons, List.lookup_nil, blk, back, List.zip_cons_cons, List.zip_nil_left, List.zip_nil_right, List.map_cons, List.map_nil, List.drop_succ_cons, List.drop_zero, Option.getD_some, Option.getD_none, sFor, iE, itemsD, Bool.not_true, Bool.not_false, iR1, iR2, range1D, range2D, id]
    · simp only [FL.run, runP, slots, outs, outD, List.replicate, List.length_cons, List.length_nil, sRet, sSeq, sIf, sSet, sE, sNx, sOwn, sThen, sFrz, sRetF, sRetM, sRetN, sPar, sBrk, sCnt, sBad, eC, eV, FL.e1, FL.e2, eAnd, eOr, eNot, eIf, eChain, aNil, aCons, eTup, eLst, eCall, eRep, oNone, oSome, eSl, mutAt, lstAt, m1, m2, m2r, m2m, mSl, mLst2, tE, tB, FL.tAnd, FL.tOr, FL.tNot, tM, tTrue, gN, gT, gAll, updM, updM0, setM, putMut, appD, bind_ok, bind_bad, bind_err, List.getElem?_cons_zero, List.getElem?_cons_succ, List.set_cons_zero, List.set_cons_succ, List.nil_append, List.cons_append, List.head?_cons, List.tail_cons, Bool.false_eq_true, if_false, if_true, Nat.sub_self, Nat.reduceSub, Nat.reduceAdd, reduceCtorEq, addD, subD, ixD, sliceD, lenD, truD, listD, tupleD, eCallM, arEv, arIn, arOut, arPs, bkL, bk1, List.lookup_cons, List.lookup_nil, blk, back, List.zip_cons_cons, List.zip_nil_left, List.zip_nil_right, List.map_cons, List.map_nil, List.drop_succ_cons, List.drop_zero, Option.getD_some, Option.getD_none, sFor, iE, itemsD, Bool.not_true, Bool.not_false, iR1, iR2, range1D, range2D]
theorem law_least_ok (w : List Int) (hw : w.length ≤ 100) : F__law_is_least [tp w] = .ok (.bool (leastR w)) := by
  have h1 : (rots w).length ≤ 100 := by simp [rots]; omega
  have e0 : neD (tp w) (.tuple []) = .ok (.bool (!decide (w = []))) := neD_tp w []
  have e1 : eqD (ltp ((rots w).filter fun o => lexLe o w)) (.list []) = .ok (.bool (decide ((rots w).filter (fun o => lexLe o w) = []))) := eqD_ltp _ []
  simp only [F__law_is_least, b__law_is_least, FL.run, runP, slots, outs, outD, List.replicate, List.length_cons, List.length_nil, sRet, sSeq, sIf, sSet, sE, sNx, sOwn, sThen, sFrz, sRetF, sRetM, sRetN, sPar, sBrk, sCnt, sBad, eC, eV, FL.e1, FL.e2, eAnd, eOr, eNot, eIf, eChain, aNil, aCons, eTup, eLst, eCall, eRep, oNone, oSome, eSl, mutAt, lstAt, m1, m2, m2r, m2m, mSl, mLst2, tE, tB, FL.tAnd, FL.tOr, FL.tNot, tM, tTrue, gN, gT, gAll, updM, updM0, setM, putMut, appD, bind_ok, bind_bad, bind_err, List.getElem?_cons_zero, List.getElem?_cons_succ, List.set_cons_zero, List.set_cons_succ, List.nil_append, List.cons_append, List.head?_cons, List.tail_cons, Bool.false_eq_true, if_false, if_true, Nat.sub_self, Nat.reduceSub, Nat.reduceAdd, reduceCtorEq, addD, subD, ixD, sliceD, lenD, truD, listD, tupleD, eCallM, arEv, arIn, arOut, arPs, bkL, bk1, List.lookup_cons, List.lookup_nil, blk, back, List.zip_cons_cons, List.zip_nil_left, List.zip_nil_right, List.map_cons, List.map_nil, List.drop_succ_cons, List.drop_zero, Option.getD_some, Option.getD_none, sFor, iE, itemsD, Bool.not_true, Bool.not_false, iR1, iR2, range1D, range2D, q_law_least0 w hw, q_law_least1 w _ h1, e0, e1, chk_ok (leB_of (Nat.zero_le lim))]
  unfold leastR
  by_cases h : w = []
  · simp [h, bind_ok]
  · simp [h, bind_ok, e1]
def cand (w : List Int) : List Int := ((List.range w.length).map fun (i : Nat) => (1 : Int) + (i : Int)).filter fun k => least (w.take k.toNat)
def most (w : List Int) : Nat := match maxL (cand w) with | some m => m.toNat | none => 0
def fall : Nat → List Int → List (List Int)
  | 0, _ => []
  | n + 1, w => if w = [] then [] else w.take (most w) :: fall n (w.drop (most w))
theorem q_fallen (w : List Int) (r : En) (hw : w.length ≤ 100) : q_fallen_words_0 (Sl.val (tp w) :: r) = .ok (.list ((cand w).map PyData.int), Sl.val (tp w) :: r) := by
  unfold q_fallen_words_0
  rw [eComp_pure (items := rng 1 (w.length + 1)) (fun x => match x with | .int p => least (w.take p.toNat) | _ => false) id]
  · congr 3
    unfold cand
    rw [rng_map, List.map_id, List.filter_map]
    rw [show ((w.length : Int) + 1 - 1).toNat = w.length by omega]
    rfl
  · simp only [FL.run, runP, slots, outs, outD, List.replicate, List.length_cons, List.length_nil, sRet, sSeq, sIf, sSet, sE, sNx, sOwn, sThen, sFrz, sRetF, sRetM, sRetN, sPar, sBrk, sCnt, sBad, eC, eV, FL.e1, FL.e2, eAnd, eOr, eNot, eIf, eChain, aNil, aCons, eTup, eLst, eCall, eRep, oNone, oSome, eSl, mutAt, lstAt, m1, m2, m2r, m2m, mSl, mLst2, tE, tB, FL.tAnd, FL.tOr, FL.tNot, tM, tTrue, gN, gT, gAll, updM, updM0, setM, putMut, appD, bind_ok, bind_bad, bind_err, List.getElem?_cons_zero, List.getElem?_cons_succ, List.set_cons_zero, List.set_cons_succ, List.nil_append, List.cons_append, List.head?_cons, List.tail_cons, Bool.false_eq_true, if_false, if_true, Nat.sub_self, Nat.reduceSub, Nat.reduceAdd, reduceCtorEq, addD, subD, ixD, sliceD, lenD, truD, listD, tupleD, eCallM, arEv, arIn, arOut, arPs, bkL, bk1, List.lookup_cons, List.lookup_nil, blk, back, List.zip_cons_cons, List.zip_nil_left, List.zip_nil_right, List.map_cons, List.map_nil, List.drop_succ_cons, List.drop_zero, Option.getD_some, Option.getD_none, sFor, iE, itemsD, Bool.not_true, Bool.not_false, iR1, iR2, List.length_map]
    rw [range2D_ok (by omega) (by omega) (by omega) (by omega)]
    rfl
  · rw [rng_len]; unfold lim; omega
  · intro x hx
    obtain ⟨i, hi, rfl⟩ := mem_rng hx
    refine ⟨[.val (.int (1 + i)), .val (tp w)], ?_, ?_, ?_, ?_⟩
    · simp only [FL.run, runP, slots, outs, outD, List.replicate, List.length_cons, List.length_nil, sRet, sSeq, sIf, sSet, sE, sNx, sOwn, sThen, sFrz, sRetF, sRetM, sRetN, sPar, sBrk, sCnt, sBad, eC, eV, FL.e1, FL.e2, eAnd, eOr, eNot, eIf, eChain, aNil, aCons, eTup, eLst, eCall, eRep, oNone, oSome, eSl, mutAt, lstAt, m1, m2, m2r, m2m, mSl, mLst2, tE, tB, FL.tAnd, FL.tOr, FL.tNot, tM, tTrue, gN, gT, gAll, updM, updM0, setM, putMut, appD, bind_ok, bind_bad, bind_err, List.getElem?_cons_zero, List.getElem?_cons_succ, List.set_cons_zero, List.set_cons_succ, List.nil_append, List.cons_append, List.head?_cons, List.tail_cons, Bool.false_eq_true, if_false, if_true, Nat.sub_self, Nat.reduceSub, Nat.reduceAdd, reduceCtorEq, addD, subD, ixD, sliceD, lenD, truD, listD, tupleD, eCallM, arEv, arIn, arOut, arPs, bkL, bk1, List.lookup_cons, List.lookup_nil, blk, back, List.zip_cons_cons, List.zip_nil_left, List.zip_nil_right, List.map_cons, List.map_nil, List.drop_succ_cons, List.drop_zero, Option.getD_some, Option.getD_none, sFor, iE, itemsD, Bool.not_true, Bool.not_false, iR1, iR2, range1D, range2D]
    · have hl : (w.take (1 + i)).length ≤ 100 := by rw [List.length_take]; omega
      simp only [FL.run, runP, slots, outs, outD, List.replicate, List.length_cons, List.length_nil, sRet, sSeq, sIf, sSet, sE, sNx, sOwn, sThen, sFrz, sRetF, sRetM, sRetN, sPar, sBrk, sCnt, sBad, eC, eV, FL.e1, FL.e2, eAnd, eOr, eNot, eIf, eChain, aNil, aCons, eTup, eLst, eCall, eRep, oNone, oSome, eSl, mutAt, lstAt, m1, m2, m2r, m2m, mSl, mLst2, tE, tB, FL.tAnd, FL.tOr, FL.tNot, tM, tTrue, gN, gT, gAll, updM, updM0, setM, putMut, appD, bind_ok, bind_bad, bind_err, List.getElem?_cons_zero, List.getElem?_cons_succ, List.set_cons_zero, List.set_cons_succ, List.nil_append, List.cons_append, List.head?_cons, List.tail_cons, Bool.false_eq_true, if_false, if_true, Nat.sub_self, Nat.reduceSub, Nat.reduceAdd, reduceCtorEq, addD, subD, ixD, sliceD, lenD, truD, listD, tupleD, eCallM, arEv, arIn, arOut, arPs, bkL, bk1, List.lookup_cons, List.lookup_nil, blk, back, List.zip_cons_cons, List.zip_nil_left, List.zip_nil_right, List.map_cons, List.map_nil, List.drop_succ_cons, List.drop_zero, Option.getD_some, Option.getD_none, sFor, iE, itemsD, Bool.not_true, Bool.not_false, iR1, iR2, range1D, range2D]
      rw [show (1 : Int) + (i : Int) = ((1 + i : Nat) : Int) by omega, map_cut, cut_to, is_least_ok _ hl, Int.toNat_natCast]
      rfl
    · intro _; simp only [FL.run, runP, slots, outs, outD, List.replicate, List.length_cons, List.length_nil, sRet, sSeq, sIf, sSet, sE, sNx, sOwn, sThen, sFrz, sRetF, sRetM, sRetN, sPar, sBrk, sCnt, sBad, eC, eV, FL.e1, FL.e2, eAnd, eOr, eNot, eIf, eChain, aNil, aCons, eTup, eLst, eCall, eRep, oNone, oSome, eSl, mutAt, lstAt, m1, m2, m2r, m2m, mSl, mLst2, tE, tB, FL.tAnd, FL.tOr, FL.tNot, tM, tTrue, gN, gT, gAll, updM, updM0, setM, putMut, appD, bind_ok, bind_bad, bind_err, List.getElem?_cons_zero, List.getElem?_cons_succ, List.set_cons_zero, List.set_cons_succ, List.nil_append, List.cons_append, List.head?_cons, List.tail_cons, Bool.false_eq_true, if_false, if_true, Nat.sub_self, Nat.reduceSub, Nat.reduceAdd, reduceCtorEq, addD, subD, ixD, sliceD, lenD, truD, listD, tupleD, eCallM, arEv, arIn, arOut, arPs, bkL, bk1, List.lookup_cons, List.lookup_nil, blk, back, List.zip_cons_cons, List.zip_nil_left, List.zip_nil_right, List.map_cons, List.map_nil, List.drop_succ_cons, List.drop_zero, Option.getD_some, Option.getD_none, sFor, iE, itemsD, Bool.not_true, Bool.not_false, iR1, iR2, range1D, range2D, id]
    · refine bkL_same (fun i p d e => ?_) _ 0
      simp only [FL.run, runP, slots, outs, outD, List.replicate, List.length_cons, List.length_nil, sRet, sSeq, sIf, sSet, sE, sNx, sOwn, sThen, sFrz, sRetF, sRetM, sRetN, sPar, sBrk, sCnt, sBad, eC, eV, FL.e1, FL.e2, eAnd, eOr, eNot, eIf, eChain, aNil, aCons, eTup, eLst, eCall, eRep, oNone, oSome, eSl, mutAt, lstAt, m1, m2, m2r, m2m, mSl, mLst2, tE, tB, FL.tAnd, FL.tOr, FL.tNot, tM, tTrue, gN, gT, gAll, updM, updM0, setM, putMut, appD, bind_ok, bind_bad, bind_err, List.getElem?_cons_zero, List.getElem?_cons_succ, List.set_cons_zero, List.set_cons_succ, List.nil_append, List.cons_append, List.head?_cons, List.tail_cons, Bool.false_eq_true, if_false, if_true, Nat.sub_self, Nat.reduceSub, Nat.reduceAdd, reduceCtorEq, addD, subD, ixD, sliceD, lenD, truD, listD, tupleD, eCallM, arEv, arIn, arOut, arPs, bkL, bk1, List.lookup_cons, List.lookup_nil, blk, back, List.zip_cons_cons, List.zip_nil_left, List.zip_nil_right, List.map_cons, List.map_nil, List.drop_succ_cons, List.drop_zero, Option.getD_some, Option.getD_none, sFor, iE, itemsD, Bool.not_true, Bool.not_false, iR1, iR2, range1D, range2D] at e
      split at e
      · cases e
      · cases e
theorem most_ok {w : List Int} (h : w ≠ []) : ∃ m : Nat, maxL (cand w) = some (m : Int) ∧ most w = m ∧ 1 ≤ m ∧ m ≤ w.length := by
  have ne : cand w ≠ [] := by
    obtain ⟨a, r, rfl⟩ := List.exists_cons_of_ne_nil h
    refine List.ne_nil_of_mem (a := 1) (List.mem_filter.mpr ⟨List.mem_map.mpr ⟨0, List.mem_range.mpr (by simp), rfl⟩, ?_⟩)
    rfl
  obtain ⟨m, hm, e⟩ := maxL_some ne
  obtain ⟨hm, _⟩ := List.mem_filter.mp hm
  obtain ⟨i, hi, rfl⟩ := List.mem_map.mp hm
  have hi := List.mem_range.mp hi
  refine ⟨1 + i, by rw [e]; congr 1, ?_, by omega, by omega⟩
  unfold most
  rw [e]
  show ((1 : Int) + (i : Int)).toNat = _
  omega
theorem while_fall (x0 : Sl) : ∀ (n : Nat) (w : List Int) (acc : List D) (x : Sl), (x = .no ∨ ∃ d, x = .val d) → w.length < n → w.length ≤ 100 → acc.length + w.length ≤ 1000 →
    ∃ y, whileL (tE (eV 0)) (sSeq (sSet (gN 2) (e1 maxD q_fallen_words_0)) (sSeq (updM 1 appD (eSl (eV 0) oNone (oSome (eV 2)))) (sSet (gN 0) (eSl (eV 0) (oSome (eV 2)) oNone)))) n [.val (tp w), .ow false (.list acc), x] = .ok (.nx, [.val (tp []), .ow false (.list (acc ++ (fall n w).map tp)), y])
  | 0, w, acc, x, _, h, _, _ => absurd h (Nat.not_lt_zero _)
  | n + 1, w, acc, x, hx, h, hw, ha => by
    unfold whileL
    by_cases e : w = []
    · subst e
      refine ⟨x, ?_⟩
      simp only [FL.run, runP, slots, outs, outD, List.replicate, List.length_cons, List.length_nil, sRet, sSeq, sIf, sSet, sE, sNx, sOwn, sThen, sFrz, sRetF, sRetM, sRetN, sPar, sBrk, sCnt, sBad, eC, eV, FL.e1, FL.e2, eAnd, eOr, eNot, eIf, eChain, aNil, aCons, eTup, eLst, eCall, eRep, oNone, oSome, eSl, mutAt, lstAt, m1, m2, m2r, m2m, mSl, mLst2, tE, tB, FL.tAnd, FL.tOr, FL.tNot, tM, tTrue, gN, gT, gAll, updM, updM0, setM, putMut, appD, bind_ok, bind_bad, bind_err, List.getElem?_cons_zero, List.getElem?_cons_succ, List.set_cons_zero, List.set_cons_succ, List.nil_append, List.cons_append, List.head?_cons, List.tail_cons, Bool.false_eq_true, if_false, if_true, Nat.sub_self, Nat.reduceSub, Nat.reduceAdd, reduceCtorEq, addD, subD, ixD, sliceD, lenD, truD, listD, tupleD, eCallM, arEv, arIn, arOut, arPs, bkL, bk1, List.lookup_cons, List.lookup_nil, blk, back, List.zip_cons_cons, List.zip_nil_left, List.zip_nil_right, List.map_cons, List.map_nil, List.drop_succ_cons, List.drop_zero, Option.getD_some, Option.getD_none, sFor, iE, itemsD, Bool.not_true, Bool.not_false, iR1, iR2, range1D, range2D, fall, List.isEmpty_nil, Bool.not_true, List.append_nil, if_pos]
    · obtain ⟨m, em, e2, h1, h2⟩ := most_ok e
      have hq := q_fallen w [.ow false (.list acc), x] hw
      have ht : (tE (eV 0)) [.val (tp w), .ow false (.list acc), x] = .ok (true, [.val (tp w), .ow false (.list acc), x]) := by
        simp only [FL.run, runP, slots, outs, outD, List.replicate, List.length_cons, List.length_nil, sRet, sSeq, sIf, sSet, sE, sNx, sOwn, sThen, sFrz, sRetF, sRetM, sRetN, sPar, sBrk, sCnt, sBad, eC, eV, FL.e1, FL.e2, eAnd, eOr, eNot, eIf, eChain, aNil, aCons, eTup, eLst, eCall, eRep, oNone, oSome, eSl, mutAt, lstAt, m1, m2, m2r, m2m, mSl, mLst2, tE, tB, FL.tAnd, FL.tOr, FL.tNot, tM, tTrue, gN, gT, gAll, updM, updM0, setM, putMut, appD, bind_ok, bind_bad, bind_err, List.getElem?_cons_zero, List.getElem?_cons_succ, List.set_cons_zero, List.set_cons_succ, List.nil_append, List.cons_append, List.head?_cons, List.tail_cons, Bool.false_eq_true, if_false, if_true, Nat.sub_self, Nat.reduceSub, Nat.reduceAdd, reduceCtorEq, addD, subD, ixD, sliceD, lenD, truD, listD, tupleD, eCallM, arEv, arIn, arOut, arPs, bkL, bk1, List.lookup_cons, List.lookup_nil, blk, back, List.zip_cons_cons, List.zip_nil_left, List.zip_nil_right, List.map_cons, List.map_nil, List.drop_succ_cons, List.drop_zero, Option.getD_some, Option.getD_none, sFor, iE, itemsD, Bool.not_true, Bool.not_false, iR1, iR2, range1D, range2D]
        congr 2
        obtain ⟨a, r, rfl⟩ := List.exists_cons_of_ne_nil e
        rfl
      rw [ht, bind_ok, if_pos rfl]
      have hb : (sSeq (sSet (gN 2) (e1 maxD q_fallen_words_0)) (sSeq (updM 1 appD (eSl (eV 0) oNone (oSome (eV 2)))) (sSet (gN 0) (eSl (eV 0) (oSome (eV 2)) oNone)))) [.val (tp w), .ow false (.list acc), x] =
          .ok (.nx, [.val (tp (w.drop m)), .ow false (.list (acc ++ [tp (w.take m)])), .val (.int m)]) := by
        have hl : leB (acc.length + 1) lim = true := leB_of (by unfold lim; omega)
        rcases hx with rfl | ⟨d, rfl⟩
        · simp only [FL.run, runP, slots, outs, outD, List.replicate, List.length_cons, List.length_nil, sRet, sSeq, sIf, sSet, sE, sNx, sOwn, sThen, sFrz, sRetF, sRetM, sRetN, sPar, sBrk, sCnt, sBad, eC, eV, FL.e1, FL.e2, eAnd, eOr, eNot, eIf, eChain, aNil, aCons, eTup, eLst, eCall, eRep, oNone, oSome, eSl, mutAt, lstAt, m1, m2, m2r, m2m, mSl, mLst2, tE, tB, FL.tAnd, FL.tOr, FL.tNot, tM, tTrue, gN, gT, gAll, updM, updM0, setM, putMut, appD, bind_ok, bind_bad, bind_err, List.getElem?_cons_zero, List.getElem?_cons_succ, List.set_cons_zero, List.set_cons_succ, List.nil_append, List.cons_append, List.head?_cons, List.tail_cons, Bool.false_eq_true, if_false, if_true, Nat.sub_self, Nat.reduceSub, Nat.reduceAdd, reduceCtorEq, addD, subD, ixD, sliceD, lenD, truD, listD, tupleD, eCallM, arEv, arIn, arOut, arPs, bkL, bk1, List.lookup_cons, List.lookup_nil, blk, back, List.zip_cons_cons, List.zip_nil_left, List.zip_nil_right, List.map_cons, List.map_nil, List.drop_succ_cons, List.drop_zero, Option.getD_some, Option.getD_none, sFor, iE, itemsD, Bool.not_true, Bool.not_false, iR1, iR2, range1D, range2D, hq, maxD_map, em, R.of, map_cut, cut_from w m h2, cut_to, chk_ok hl]
        · simp only [FL.run, runP, slots, outs, outD, List.replicate, List.length_cons, List.length_nil, sRet, sSeq, sIf, sSet, sE, sNx, sOwn, sThen, sFrz, sRetF, sRetM, sRetN, sPar, sBrk, sCnt, sBad, eC, eV, FL.e1, FL.e2, eAnd, eOr, eNot, eIf, eChain, aNil, aCons, eTup, eLst, eCall, eRep, oNone, oSome, eSl, mutAt, lstAt, m1, m2, m2r, m2m, mSl, mLst2, tE, tB, FL.tAnd, FL.tOr, FL.tNot, tM, tTrue, gN, gT, gAll, updM, updM0, setM, putMut, appD, bind_ok, bind_bad, bind_err, List.getElem?_cons_zero, List.getElem?_cons_succ, List.set_cons_zero, List.set_cons_succ, List.nil_append, List.cons_append, List.head?_cons, List.tail_cons, Bool.false_eq_true, if_false, if_true, Nat.sub_self, Nat.reduceSub, Nat.reduceAdd, reduceCtorEq, addD, subD, ixD, sliceD, lenD, truD, listD, tupleD, eCallM, arEv, arIn, arOut, arPs, bkL, bk1, List.lookup_cons, List.lookup_nil, blk, back, List.zip_cons_cons, List.zip_nil_left, List.zip_nil_right, List.map_cons, List.map_nil, List.drop_succ_cons, List.drop_zero, Option.getD_some, Option.getD_none, sFor, iE, itemsD, Bool.not_true, Bool.not_false, iR1, iR2, range1D, range2D, hq, maxD_map, em, R.of, map_cut, cut_from w m h2, cut_to, chk_ok hl]
      rw [hb, bind_ok]
      obtain ⟨y, ih⟩ := while_fall x0 n (w.drop m) (acc ++ [tp (w.take m)]) (.val (.int m)) (.inr ⟨_, rfl⟩) (by rw [List.length_drop]; omega) (by rw [List.length_drop]; omega) (by rw [List.length_append, List.length_drop]; simp; omega)
      refine ⟨y, ?_⟩
      show whileL _ _ n _ = _
      have ef : fall (n + 1) w = w.take m :: fall n (w.drop m) := by rw [fall, if_neg e, e2]
      rw [ih, ef, List.map_cons, List.append_assoc]
      rfl
theorem fallen_words_ok (w : List Int) (hw : w.length ≤ 9) : F_fallen_words [tp w] = .ok (ltp (fall 10 w)) := by
  obtain ⟨y, h⟩ := while_fall .no 10 w [] .no (.inl rfl) (by omega) (by omega) (by simp; omega)
  have hw0 : w_fallen_words_0 [Sl.val (tp w), Sl.ow false (.list []), Sl.no] = _ := h
  simp only [F_fallen_words, b_fallen_words, FL.run, runP, slots, outs, outD, List.replicate, List.length_cons, List.length_nil, sRet, sSeq, sIf, sSet, sE, sNx, sOwn, sThen, sFrz, sRetF, sRetM, sRetN, sPar, sBrk, sCnt, sBad, eC, eV, FL.e1, FL.e2, eAnd, eOr, eNot, eIf, eChain, aNil, aCons, eTup, eLst, eCall, eRep, oNone, oSome, eSl, mutAt, lstAt, m1, m2, m2r, m2m, mSl, mLst2, tE, tB, FL.tAnd, FL.tOr, FL.tNot, tM, tTrue, gN, gT, gAll, updM, updM0, setM, putMut, appD, bind_ok, bind_bad, bind_err, List.getElem?_cons_zero, List.getElem?_cons_succ, List.set_cons_zero, List.set_cons_succ, List.nil_append, List.cons_append, List.head?_cons, List.tail_cons, Bool.false_eq_true, if_false, if_true, Nat.sub_self, Nat.reduceSub, Nat.reduceAdd, reduceCtorEq, addD, subD, ixD, sliceD, lenD, truD, listD, tupleD, eCallM, arEv, arIn, arOut, arPs, bkL, bk1, List.lookup_cons, List.lookup_nil, blk, back, List.zip_cons_cons, List.zip_nil_left, List.zip_nil_right, List.map_cons, List.map_nil, List.drop_succ_cons, List.drop_zero, Option.getD_some, Option.getD_none, sFor, iE, itemsD, Bool.not_true, Bool.not_false, iR1, iR2, range1D, range2D, chk_ok (leB_of (Nat.zero_le lim)), hw0]
theorem whole_ok (i : Int) : F_is_whole [.int i] = .ok (.bool true) := rfl
theorem q_word (w : List Int) (hw : w.length ≤ 5) (h : ∀ x ∈ w, 0 ≤ x ∧ x < 4) : q_is_word_0 [Sl.val (tp w), Sl.val (.int 4)] = .ok (.list ((w.map fun _ => true).map PyData.bool), [Sl.val (tp w), Sl.val (.int 4)]) := by
  unfold q_is_word_0
  rw [eComp_map (items := w.map PyData.int) (fun x => .bool true)]
  · rw [List.map_map, List.map_map]; rfl
  · simp only [FL.run, runP, slots, outs, outD, List.replicate, List.length_cons, List.length_nil, sRet, sSeq, sIf, sSet, sE, sNx, sOwn, sThen, sFrz, sRetF, sRetM, sRetN, sPar, sBrk, sCnt, sBad, eC, eV, FL.e1, FL.e2, eAnd, eOr, eNot, eIf, eChain, aNil, aCons, eTup, eLst, eCall, eRep, oNone, oSome, eSl, mutAt, lstAt, m1, m2, m2r, m2m, mSl, mLst2, tE, tB, FL.tAnd, FL.tOr, FL.tNot, tM, tTrue, gN, gT, gAll, updM, updM0, setM, putMut, appD, bind_ok, bind_bad, bind_err, List.getElem?_cons_zero, List.getElem?_cons_succ, List.set_cons_zero, List.set_cons_succ, List.nil_append, List.cons_append, List.head?_cons, List.tail_cons, Bool.false_eq_true, if_false, if_true, Nat.sub_self, Nat.reduceSub, Nat.reduceAdd, reduceCtorEq, addD, subD, ixD, sliceD, lenD, truD, listD, tupleD, eCallM, arEv, arIn, arOut, arPs, bkL, bk1, List.lookup_cons, List.lookup_nil, blk, back, List.zip_cons_cons, List.zip_nil_left, List.zip_nil_right, List.map_cons, List.map_nil, List.drop_succ_cons, List.drop_zero, Option.getD_some, Option.getD_none, sFor, iE, itemsD, Bool.not_true, Bool.not_false, iR1, iR2, range1D, range2D]
  · rw [List.length_map]; unfold lim; omega
  · intro x hx
    obtain ⟨i, hi, rfl⟩ := List.mem_map.mp hx
    obtain ⟨h0, h4⟩ := h i hi
    refine ⟨[.val (.int i), .val (.int 4)], ?_, ?_, ?_⟩
    · simp only [FL.run, runP, slots, outs, outD, List.replicate, List.length_cons, List.length_nil, sRet, sSeq, sIf, sSet, sE, sNx, sOwn, sThen, sFrz, sRetF, sRetM, sRetN, sPar, sBrk, sCnt, sBad, eC, eV, FL.e1, FL.e2, eAnd, eOr, eNot, eIf, eChain, aNil, aCons, eTup, eLst, eCall, eRep, oNone, oSome, eSl, mutAt, lstAt, m1, m2, m2r, m2m, mSl, mLst2, tE, tB, FL.tAnd, FL.tOr, FL.tNot, tM, tTrue, gN, gT, gAll, updM, updM0, setM, putMut, appD, bind_ok, bind_bad, bind_err, List.getElem?_cons_zero, List.getElem?_cons_succ, List.set_cons_zero, List.set_cons_succ, List.nil_append, List.cons_append, List.head?_cons, List.tail_cons, Bool.false_eq_true, if_false, if_true, Nat.sub_self, Nat.reduceSub, Nat.reduceAdd, reduceCtorEq, addD, subD, ixD, sliceD, lenD, truD, listD, tupleD, eCallM, arEv, arIn, arOut, arPs, bkL, bk1, List.lookup_cons, List.lookup_nil, blk, back, List.zip_cons_cons, List.zip_nil_left, List.zip_nil_right, List.map_cons, List.map_nil, List.drop_succ_cons, List.drop_zero, Option.getD_some, Option.getD_none, sFor, iE, itemsD, Bool.not_true, Bool.not_false, iR1, iR2, range1D, range2D]
    · simp only [FL.run, runP, slots, outs, outD, List.replicate, List.length_cons, List.length_nil, sRet, sSeq, sIf, sSet, sE, sNx, sOwn, sThen, sFrz, sRetF, sRetM, sRetN, sPar, sBrk, sCnt, sBad, eC, eV, FL.e1, FL.e2, eAnd, eOr, eNot, eIf, eChain, aNil, aCons, eTup, eLst, eCall, eRep, oNone, oSome, eSl, mutAt, lstAt, m1, m2, m2r, m2m, mSl, mLst2, tE, tB, FL.tAnd, FL.tOr, FL.tNot, tM, tTrue, gN, gT, gAll, updM, updM0, setM, putMut, appD, bind_ok, bind_bad, bind_err, List.getElem?_cons_zero, List.getElem?_cons_succ, List.set_cons_zero, List.set_cons_succ, List.nil_append, List.cons_append, List.head?_cons, List.tail_cons, Bool.false_eq_true, if_false, if_true, Nat.sub_self, Nat.reduceSub, Nat.reduceAdd, reduceCtorEq, addD, subD, ixD, sliceD, lenD, truD, listD, tupleD, eCallM, arEv, arIn, arOut, arPs, bkL, bk1, List.lookup_cons, List.lookup_nil, blk, back, List.zip_cons_cons, List.zip_nil_left, List.zip_nil_right, List.map_cons, List.map_nil, List.drop_succ_cons, List.drop_zero, Option.getD_some, Option.getD_none, sFor, iE, itemsD, Bool.not_true, Bool.not_false, iR1, iR2, range1D, range2D, whole_ok, leD_int, ltD_int, decide_eq_true h0, decide_eq_true h4]
    · simp only [FL.run, runP, slots, outs, outD, List.replicate, List.length_cons, List.length_nil, sRet, sSeq, sIf, sSet, sE, sNx, sOwn, sThen, sFrz, sRetF, sRetM, sRetN, sPar, sBrk, sCnt, sBad, eC, eV, FL.e1, FL.e2, eAnd, eOr, eNot, eIf, eChain, aNil, aCons, eTup, eLst, eCall, eRep, oNone, oSome, eSl, mutAt, lstAt, m1, m2, m2r, m2m, mSl, mLst2, tE, tB, FL.tAnd, FL.tOr, FL.tNot, tM, tTrue, gN, gT, gAll, updM, updM0, setM, putMut, appD, bind_ok, bind_bad, bind_err, List.getElem?_cons_zero, List.getElem?_cons_succ, List.set_cons_zero, List.set_cons_succ, List.nil_append, List.cons_append, List.head?_cons, List.tail_cons, Bool.false_eq_true, if_false, if_true, Nat.sub_self, Nat.reduceSub, Nat.reduceAdd, reduceCtorEq, addD, subD, ixD, sliceD, lenD, truD, listD, tupleD, eCallM, arEv, arIn, arOut, arPs, bkL, bk1, List.lookup_cons, List.lookup_nil, blk, back, List.zip_cons_cons, List.zip_nil_left, List.zip_nil_right, List.map_cons, List.map_nil, List.drop_succ_cons, List.drop_zero, Option.getD_some, Option.getD_none, sFor, iE, itemsD, Bool.not_true, Bool.not_false, iR1, iR2, range1D, range2D]
theorem is_word_ok (w : List Int) (hw : w.length ≤ 5) (h : ∀ x ∈ w, 0 ≤ x ∧ x < 4) : F_is_word [tp w, .int 4] = .ok (.bool true) := by
  have e1 : isiD' "tuple" (tp w) = .ok (.bool true) := rfl
  have e2 : decide ((5 : Int) < w.length) = false := decide_eq_false (by omega)
  simp only [F_is_word, b_is_word, FL.run, runP, slots, outs, outD, List.replicate, List.length_cons, List.length_nil, sRet, sSeq, sIf, sSet, sE, sNx, sOwn, sThen, sFrz, sRetF, sRetM, sRetN, sPar, sBrk, sCnt, sBad, eC, eV, FL.e1, FL.e2, eAnd, eOr, eNot, eIf, eChain, aNil, aCons, eTup, eLst, eCall, eRep, oNone, oSome, eSl, mutAt, lstAt, m1, m2, m2r, m2m, mSl, mLst2, tE, tB, FL.tAnd, FL.tOr, FL.tNot, tM, tTrue, gN, gT, gAll, updM, updM0, setM, putMut, appD, bind_ok, bind_bad, bind_err, List.getElem?_cons_zero, List.getElem?_cons_succ, List.set_cons_zero, List.set_cons_succ, List.nil_append, List.cons_append, List.head?_cons, List.tail_cons, Bool.false_eq_true, if_false, if_true, Nat.sub_self, Nat.reduceSub, Nat.reduceAdd, reduceCtorEq, addD, subD, ixD, sliceD, lenD, truD, listD, tupleD, eCallM, arEv, arIn, arOut, arPs, bkL, bk1, List.lookup_cons, List.lookup_nil, blk, back, List.zip_cons_cons, List.zip_nil_left, List.zip_nil_right, List.map_cons, List.map_nil, List.drop_succ_cons, List.drop_zero, Option.getD_some, Option.getD_none, sFor, iE, itemsD, Bool.not_true, Bool.not_false, iR1, iR2, range1D, range2D, e1, gtD_int, List.length_map, e2, q_word w hw h, allD_map, List.all_map]
  simp
theorem refuse_ok (w : List Int) (hw : w.length ≤ 5) (h : ∀ x ∈ w, 0 ≤ x ∧ x < 4) : F_refuse_word [tp w] = .ok .none := by
  simp only [F_refuse_word, b_refuse_word, FL.run, runP, slots, outs, outD, List.replicate, List.length_cons, List.length_nil, sRet, sSeq, sIf, sSet, sE, sNx, sOwn, sThen, sFrz, sRetF, sRetM, sRetN, sPar, sBrk, sCnt, sBad, eC, eV, FL.e1, FL.e2, eAnd, eOr, eNot, eIf, eChain, aNil, aCons, eTup, eLst, eCall, eRep, oNone, oSome, eSl, mutAt, lstAt, m1, m2, m2r, m2m, mSl, mLst2, tE, tB, FL.tAnd, FL.tOr, FL.tNot, tM, tTrue, gN, gT, gAll, updM, updM0, setM, putMut, appD, bind_ok, bind_bad, bind_err, List.getElem?_cons_zero, List.getElem?_cons_succ, List.set_cons_zero, List.set_cons_succ, List.nil_append, List.cons_append, List.head?_cons, List.tail_cons, Bool.false_eq_true, if_false, if_true, Nat.sub_self, Nat.reduceSub, Nat.reduceAdd, reduceCtorEq, addD, subD, ixD, sliceD, lenD, truD, listD, tupleD, eCallM, arEv, arIn, arOut, arPs, bkL, bk1, List.lookup_cons, List.lookup_nil, blk, back, List.zip_cons_cons, List.zip_nil_left, List.zip_nil_right, List.map_cons, List.map_nil, List.drop_succ_cons, List.drop_zero, Option.getD_some, Option.getD_none, sFor, iE, itemsD, Bool.not_true, Bool.not_false, iR1, iR2, range1D, range2D, is_word_ok w hw h, Bool.not_true]
theorem fallen_ok (w : List Int) (hw : w.length ≤ 5) (h : ∀ x ∈ w, 0 ≤ x ∧ x < 4) : F_fallen [tp w] = .ok (ltp (fall 10 w)) := by
  simp only [F_fallen, b_fallen, FL.run, runP, slots, outs, outD, List.replicate, List.length_cons, List.length_nil, sRet, sSeq, sIf, sSet, sE, sNx, sOwn, sThen, sFrz, sRetF, sRetM, sRetN, sPar, sBrk, sCnt, sBad, eC, eV, FL.e1, FL.e2, eAnd, eOr, eNot, eIf, eChain, aNil, aCons, eTup, eLst, eCall, eRep, oNone, oSome, eSl, mutAt, lstAt, m1, m2, m2r, m2m, mSl, mLst2, tE, tB, FL.tAnd, FL.tOr, FL.tNot, tM, tTrue, gN, gT, gAll, updM, updM0, setM, putMut, appD, bind_ok, bind_bad, bind_err, List.getElem?_cons_zero, List.getElem?_cons_succ, List.set_cons_zero, List.set_cons_succ, List.nil_append, List.cons_append, List.head?_cons, List.tail_cons, Bool.false_eq_true, if_false, if_true, Nat.sub_self, Nat.reduceSub, Nat.reduceAdd, reduceCtorEq, addD, subD, ixD, sliceD, lenD, truD, listD, tupleD, eCallM, arEv, arIn, arOut, arPs, bkL, bk1, List.lookup_cons, List.lookup_nil, blk, back, List.zip_cons_cons, List.zip_nil_left, List.zip_nil_right, List.map_cons, List.map_nil, List.drop_succ_cons, List.drop_zero, Option.getD_some, Option.getD_none, sFor, iE, itemsD, Bool.not_true, Bool.not_false, iR1, iR2, range1D, range2D, refuse_ok w hw h, fallen_words_ok w (by omega)]
def condI (w : List Int) (c a : Int) : Bool := decide (a = (w.length : Int)) || decide ((c.fdiv (1 * 2 ^ (a - 1).toNat)).fmod 2 = 1)
def rstep (w : List Int) (c : Int) (st : Int × List (List Int)) (a : Int) : Int × List (List Int) := if condI w c a = true then (a, st.2 ++ [cut w (some st.1) (some a)]) else st
def ups (n : Nat) : List Int := (List.range n).map fun (i : Nat) => (1 : Int) + (i : Int)
def rowOf (w : List Int) (c : Int) : List (List Int) := ((ups w.length).foldl (rstep w c) (0, [])).2
def falls (row : List (List Int)) : Bool := decide (((ups (row.length - 1)).filter fun p => match atI row p, atI row (p - 1) with | some x, some y => lexGt x y | _, _ => false) = [])
def okRow (row : List (List Int)) : Bool := falls row && decide (row.filter (fun r => !leastR r) = [])
theorem ltp_snoc (row : List (List Int)) (z : List Int) : ltp (row ++ [z]) = .list (row.map tp ++ [.tuple (z.map PyData.int)]) := by
  unfold ltp
  rw [List.map_append]
  rfl
theorem rng_ups (n : Nat) : rng 1 ((n : Int) + 1) = (ups n).map PyData.int := by
  rw [rng_map]
  unfold ups
  rw [show ((n : Int) + 1 - 1).toNat = n by omega]
theorem mem_ups {n : Nat} {a : Int} (h : a ∈ ups n) : 1 ≤ a ∧ a ≤ n := by
  obtain ⟨i, hi, rfl⟩ := List.mem_map.mp h
  have := List.mem_range.mp hi
  omega
structure powOk (k : Int) : Prop where
  lo : 0 ≤ k
  hi : k ≤ 1000
theorem shl_ok {k : Int} (h : powOk k) : shlD (.int 1) (.int k) = .ok (.int (1 * 2 ^ k.toNat)) := by
  have := h.lo; have := h.hi
  show chk _ _ = _
  refine chk_ok ?_
  simp only [Bool.and_eq_true, decide_eq_true_eq, leB_iff]
  refine ⟨⟨h.lo, by omega⟩, by decide⟩
theorem div_ok (c : Int) {k : Int} (h : powOk k) : fdivD (.int c) (.int (1 * 2 ^ k.toNat)) = .ok (.int (c.fdiv (1 * 2 ^ k.toNat))) := by
  have := h.lo; have := h.hi
  show chk _ _ = _
  refine chk_ok ?_
  have e : (1 * 2 ^ k.toNat : Int) = ((2 ^ k.toNat : Nat) : Int) := by simp
  rw [e]
  simp only [Bool.and_eq_true, decide_eq_true_eq, leB_iff, Int.natAbs_natCast, Nat.log2_two_pow]
  refine ⟨?_, by omega⟩
  have : 0 < 2 ^ k.toNat := Nat.two_pow_pos _
  omega
theorem inner (w : List Int) (hw : w.length ≤ 5) (R1 : D) (c : Int) (hc : 0 ≤ c) (f5 f6 : Sl) (h5 : Np f5) : ∃ b y, Np y ∧ (rowOf w c).length ≤ w.length ∧
    w__law_rows_0 [.val (tp w), .ow false R1, .val (.int c), .ow false (.list []), .val (.int 0), f5, f6] = .ok (.nx, [.val (tp w), .ow false R1, .val (.int c), .ow false (ltp (rowOf w c)), .val (.int b), y, f6]) := by
  have hi : (iR2 (aCons (eC (.int 1)) (aCons (e2 addD (e1 lenD (eV 0)) (eC (.int 1))) aNil))) [.val (tp w), .ow false R1, .val (.int c), .ow false (.list []), .val (.int 0), f5, f6] = .ok ((ups w.length).map PyData.int, [.val (tp w), .ow false R1, .val (.int c), .ow false (.list []), .val (.int 0), f5, f6]) := by
    simp only [FL.run, runP, slots, outs, outD, List.replicate, List.length_cons, List.length_nil, sRet, sSeq, sIf, sSet, sE, sNx, sOwn, sThen, sFrz, sRetF, sRetM, sRetN, sPar, sBrk, sCnt, sBad, eC, eV, FL.e1, FL.e2, eAnd, eOr, eNot, eIf, eChain, aNil, aCons, eTup, eLst, eCall, eRep, oNone, oSome, eSl, mutAt, lstAt, m1, m2, m2r, m2m, mSl, mLst2, tE, tB, FL.tAnd, FL.tOr, FL.tNot, tM, tTrue, gN, gT, gAll, updM, updM0, setM, putMut, appD, bind_ok, bind_bad, bind_err, List.getElem?_cons_zero, List.getElem?_cons_succ, List.set_cons_zero, List.set_cons_succ, List.nil_append, List.cons_append, List.head?_cons, List.tail_cons, Bool.false_eq_true, if_false, if_true, Nat.sub_self, Nat.reduceSub, Nat.reduceAdd, reduceCtorEq, addD, subD, ixD, sliceD, lenD, truD, listD, tupleD, eCallM, arEv, arIn, arOut, arPs, bkL, bk1, List.lookup_cons, List.lookup_nil, blk, back, List.zip_cons_cons, List.zip_nil_left, List.zip_nil_right, List.map_cons, List.map_nil, List.drop_succ_cons, List.drop_zero, Option.getD_some, Option.getD_none, sFor, iE, itemsD, Bool.not_true, Bool.not_false, iR1, iR2, List.length_map]
    rw [range2D_ok (by omega) (by omega) (by omega) (by omega), rng_ups]
    rfl
  have FI := forL_inv (f := PyData.int) (g := gN 5) (b := u__law_rows_0) (fun pre ρ => ∃ y, Np y ∧ (pre.foldl (rstep w c) (0, [])).2.length ≤ pre.length ∧
      ρ = [.val (tp w), .ow false R1, .val (.int c), .ow false (ltp (pre.foldl (rstep w c) (0, [])).2), .val (.int (pre.foldl (rstep w c) (0, [])).1), y, f6]) (ups w.length) [] _ ⟨f5, h5, Nat.le_refl _, rfl⟩
  have FJ := FI (by
    intro pre a post ρ ep ⟨y, hy, hl, er⟩
    subst er
    have ha : a ∈ ups w.length := by
      have : a ∈ [] ++ ups w.length := by rw [ep]; simp
      simpa using this
    obtain ⟨a1, a2⟩ := mem_ups ha
    have hpl : pre.length ≤ 100 := by
      have := congrArg List.length ep
      simp [ups] at this
      omega
    rw [List.foldl_append, List.foldl_cons, List.foldl_nil]
    generalize pre.foldl (rstep w c) (0, []) = st at hl ⊢
    obtain ⟨b, row⟩ := st
    rw [gN_np (x := y) rfl hy, bind_ok]
    have p0 : powOk (a - 1) := ⟨by omega, by omega⟩
    refine ⟨[.val (tp w), .ow false R1, .val (.int c), .ow false (ltp (rstep w c (b, row) a).2), .val (.int (rstep w c (b, row) a).1), .val (.int a), f6], .nx, ?_, .inl rfl, .val (.int a), np_val _, ?_, rfl⟩
    · have k1 := shl_ok p0
      have k2 := div_ok c p0
      have k3 : modD (.int (c.fdiv (1 * 2 ^ (a - 1).toNat))) (.int 2) = .ok (.int ((c.fdiv (1 * 2 ^ (a - 1).toNat)).fmod 2)) := rfl
      have hl2 : leB (row.length + 1) lim = true := leB_of (by unfold lim; simp only at hl; omega)
      unfold u__law_rows_0
      cases h1 : decide (a = (w.length : Int)) with
      | true =>
        have hc : condI w c a = true := by unfold condI; rw [h1]; rfl
        simp only [FL.run, runP, slots, outs, outD, List.replicate, List.length_cons, List.length_nil, sRet, sSeq, sIf, sSet, sE, sNx, sOwn, sThen, sFrz, sRetF, sRetM, sRetN, sPar, sBrk, sCnt, sBad, eC, eV, FL.e1, FL.e2, eAnd, eOr, eNot, eIf, eChain, aNil, aCons, eTup, eLst, eCall, eRep, oNone, oSome, eSl, mutAt, lstAt, m1, m2, m2r, m2m, mSl, mLst2, tE, tB, FL.tAnd, FL.tOr, FL.tNot, tM, tTrue, gN, gT, gAll, updM, updM0, setM, putMut, appD, bind_ok, bind_bad, bind_err, List.getElem?_cons_zero, List.getElem?_cons_succ, List.set_cons_zero, List.set_cons_succ, List.nil_append, List.cons_append, List.head?_cons, List.tail_cons, Bool.false_eq_true, if_false, if_true, Nat.sub_self, Nat.reduceSub, Nat.reduceAdd, reduceCtorEq, addD, subD, ixD, sliceD, lenD, truD, listD, tupleD, eCallM, arEv, arIn, arOut, arPs, bkL, bk1, List.lookup_cons, List.lookup_nil, blk, back, List.zip_cons_cons, List.zip_nil_left, List.zip_nil_right, List.map_cons, List.map_nil, List.drop_succ_cons, List.drop_zero, Option.getD_some, Option.getD_none, sFor, iE, itemsD, Bool.not_true, Bool.not_false, iR1, iR2, range1D, range2D, List.length_map, eqD_int, h1, rstep, hc, map_cut, chk_ok hl2, ltp_snoc]
      | false =>
        cases h2 : decide ((c.fdiv (1 * 2 ^ (a - 1).toNat)).fmod 2 = 1) with
        | true =>
          have hc : condI w c a = true := by unfold condI; rw [h1, h2]; rfl
          simp only [FL.run, runP, slots, outs, outD, List.replicate, List.length_cons, List.length_nil, sRet, sSeq, sIf, sSet, sE, sNx, sOwn, sThen, sFrz, sRetF, sRetM, sRetN, sPar, sBrk, sCnt, sBad, eC, eV, FL.e1, FL.e2, eAnd, eOr, eNot, eIf, eChain, aNil, aCons, eTup, eLst, eCall, eRep, oNone, oSome, eSl, mutAt, lstAt, m1, m2, m2r, m2m, mSl, mLst2, tE, tB, FL.tAnd, FL.tOr, FL.tNot, tM, tTrue, gN, gT, gAll, updM, updM0, setM, putMut, appD, bind_ok, bind_bad, bind_err, List.getElem?_cons_zero, List.getElem?_cons_succ, List.set_cons_zero, List.set_cons_succ, List.nil_append, List.cons_append, List.head?_cons, List.tail_cons, Bool.false_eq_true, if_false, if_true, Nat.sub_self, Nat.reduceSub, Nat.reduceAdd, reduceCtorEq, addD, subD, ixD, sliceD, lenD, truD, listD, tupleD, eCallM, arEv, arIn, arOut, arPs, bkL, bk1, List.lookup_cons, List.lookup_nil, blk, back, List.zip_cons_cons, List.zip_nil_left, List.zip_nil_right, List.map_cons, List.map_nil, List.drop_succ_cons, List.drop_zero, Option.getD_some, Option.getD_none, sFor, iE, itemsD, Bool.not_true, Bool.not_false, iR1, iR2, range1D, range2D, List.length_map, eqD_int, h1, h2, k1, k2, k3, rstep, hc, map_cut, chk_ok hl2, ltp_snoc]
        | false =>
          have hc : condI w c a = false := by unfold condI; rw [h1, h2]; rfl
          simp only [FL.run, runP, slots, outs, outD, List.replicate, List.length_cons, List.length_nil, sRet, sSeq, sIf, sSet, sE, sNx, sOwn, sThen, sFrz, sRetF, sRetM, sRetN, sPar, sBrk, sCnt, sBad, eC, eV, FL.e1, FL.e2, eAnd, eOr, eNot, eIf, eChain, aNil, aCons, eTup, eLst, eCall, eRep, oNone, oSome, eSl, mutAt, lstAt, m1, m2, m2r, m2m, mSl, mLst2, tE, tB, FL.tAnd, FL.tOr, FL.tNot, tM, tTrue, gN, gT, gAll, updM, updM0, setM, putMut, appD, bind_ok, bind_bad, bind_err, List.getElem?_cons_zero, List.getElem?_cons_succ, List.set_cons_zero, List.set_cons_succ, List.nil_append, List.cons_append, List.head?_cons, List.tail_cons, Bool.false_eq_true, if_false, if_true, Nat.sub_self, Nat.reduceSub, Nat.reduceAdd, reduceCtorEq, addD, subD, ixD, sliceD, lenD, truD, listD, tupleD, eCallM, arEv, arIn, arOut, arPs, bkL, bk1, List.lookup_cons, List.lookup_nil, blk, back, List.zip_cons_cons, List.zip_nil_left, List.zip_nil_right, List.map_cons, List.map_nil, List.drop_succ_cons, List.drop_zero, Option.getD_some, Option.getD_none, sFor, iE, itemsD, Bool.not_true, Bool.not_false, iR1, iR2, range1D, range2D, List.length_map, eqD_int, h1, h2, k1, k2, k3, rstep, hc]
    · unfold rstep
      split
      · simp only at hl ⊢; simp; omega
      · simp only at hl ⊢; simp; omega)
  obtain ⟨ρ', e, h⟩ := FJ
  obtain ⟨y, hy, hl, rfl⟩ := h
  refine ⟨((ups w.length).foldl (rstep w c) (0, [])).1, y, hy, ?_, ?_⟩
  · have : (ups w.length).length = w.length := by simp [ups]
    simp only [List.nil_append] at hl
    rw [this] at hl
    exact hl
  · unfold w__law_rows_0 sFor
    rw [hi, bind_ok]
    exact e
theorem atI_tp (row : List (List Int)) (i : Int) : atI (row.map tp) i = (atI row i).map tp := by
  unfold atI
  rw [List.length_map]
  cases ixN row.length i with
  | none => rfl
  | some j => simp
theorem atI_in {α : Type} {xs : List α} {i : Int} (h0 : 0 ≤ i) (h1 : i < xs.length) : ∃ x, atI xs i = some x := by
  unfold atI ixN
  rw [if_pos h0, if_pos h1]
  exact ⟨xs[i.toNat]'(by omega), by simp⟩
theorem q_rows0 (row : List (List Int)) (hr : row.length ≤ 100) (s0 s2 s4 s5 s6 : Sl) (R1 : D) : q__law_rows_0 [s0, .ow false R1, s2, .ow false (ltp row), s4, s5, s6] =
    .ok (.list (((ups (row.length - 1)).filter fun p => match atI row p, atI row (p - 1) with | some x, some y => lexGt x y | _, _ => false).map PyData.int), [s0, .ow false R1, s2, .ow false (ltp row), s4, s5, s6]) := by
  unfold q__law_rows_0
  rw [eComp_pure (items := (ups (row.length - 1)).map PyData.int) (fun x => match x with | .int p => (match atI row p, atI row (p - 1) with | some x, some y => lexGt x y | _, _ => false) | _ => false) id]
  · rw [List.map_id, List.filter_map]
    rfl
  · simp only [FL.run, runP, slots, outs, outD, List.replicate, List.length_cons, List.length_nil, sRet, sSeq, sIf, sSet, sE, sNx, sOwn, sThen, sFrz, sRetF, sRetM, sRetN, sPar, sBrk, sCnt, sBad, eC, eV, FL.e1, FL.e2, eAnd, eOr, eNot, eIf, eChain, aNil, aCons, eTup, eLst, eCall, eRep, oNone, oSome, eSl, mutAt, lstAt, m1, m2, m2r, m2m, mSl, mLst2, tE, tB, FL.tAnd, FL.tOr, FL.tNot, tM, tTrue, gN, gT, gAll, updM, updM0, setM, putMut, appD, bind_ok, bind_bad, bind_err, List.getElem?_cons_zero, List.getElem?_cons_succ, List.set_cons_zero, List.set_cons_succ, List.nil_append, List.cons_append, List.head?_cons, List.tail_cons, Bool.false_eq_true, if_false, if_true, Nat.sub_self, Nat.reduceSub, Nat.reduceAdd, reduceCtorEq, addD, subD, ixD, sliceD, lenD, truD, listD, tupleD, eCallM, arEv, arIn, arOut, arPs, bkL, bk1, List.lookup_cons, List.lookup_nil, blk, back, List.zip_cons_cons, List.zip_nil_left, List.zip_nil_right, List.map_cons, List.map_nil, List.drop_succ_cons, List.drop_zero, Option.getD_some, Option.getD_none, sFor, iE, itemsD, Bool.not_true, Bool.not_false, iR1, iR2, List.length_map]
    rw [range2D_ok (by omega) (by omega) (by omega) (by omega)]
    have : rng 1 (row.length : Int) = (ups (row.length - 1)).map PyData.int := by
      rw [rng_map]; unfold ups
      rw [show ((row.length : Int) - 1).toNat = row.length - 1 by omega]
    rw [this]
    rfl
  · simp [ups, lim]; omega
  · intro x hx
    obtain ⟨p, hp, rfl⟩ := List.mem_map.mp hx
    obtain ⟨p1, p2⟩ := mem_ups hp
    obtain ⟨a, ea⟩ := atI_in (xs := row) (i := p) (by omega) (by omega)
    obtain ⟨b, eb⟩ := atI_in (xs := row) (i := p - 1) (by omega) (by omega)
    refine ⟨[.val (.int p), .ow false (ltp row)], ?_, ?_, ?_, ?_⟩
    · simp only [FL.run, runP, slots, outs, outD, List.replicate, List.length_cons, List.length_nil, sRet, sSeq, sIf, sSet, sE, sNx, sOwn, sThen, sFrz, sRetF, sRetM, sRetN, sPar, sBrk, sCnt, sBad, eC, eV, FL.e1, FL.e2, eAnd, eOr, eNot, eIf, eChain, aNil, aCons, eTup, eLst, eCall, eRep, oNone, oSome, eSl, mutAt, lstAt, m1, m2, m2r, m2m, mSl, mLst2, tE, tB, FL.tAnd, FL.tOr, FL.tNot, tM, tTrue, gN, gT, gAll, updM, updM0, setM, putMut, appD, bind_ok, bind_bad, bind_err, List.getElem?_cons_zero, List.getElem?_cons_succ, List.set_cons_zero, List.set_cons_succ, List.nil_append, List.cons_append, List.head?_cons, List.tail_cons, Bool.false_eq_true, if_false, if_true, Nat.sub_self, Nat.reduceSub, Nat.reduceAdd, reduceCtorEq, addD, subD, ixD, sliceD, lenD, truD, listD, tupleD, eCallM, arEv, arIn, arOut, arPs, bkL, bk1, List.lookup_cons, List.lookup_nil, blk, back, List.zip_cons_cons, List.zip_nil_left, List.zip_nil_right, List.map_cons, List.map_nil, List.drop_succ_cons, List.drop_zero, Option.getD_some, Option.getD_none, sFor, iE, itemsD, Bool.not_true, Bool.not_false, iR1, iR2, range1D, range2D]
    · simp only [FL.run, runP, slots, outs, outD, List.replicate, List.length_cons, List.length_nil, sRet, sSeq, sIf, sSet, sE, sNx, sOwn, sThen, sFrz, sRetF, sRetM, sRetN, sPar, sBrk, sCnt, sBad, eC, eV, FL.e1, FL.e2, eAnd, eOr, eNot, eIf, eChain, aNil, aCons, eTup, eLst, eCall, eRep, oNone, oSome, eSl, mutAt, lstAt, m1, m2, m2r, m2m, mSl, mLst2, tE, tB, FL.tAnd, FL.tOr, FL.tNot, tM, tTrue, gN, gT, gAll, updM, updM0, setM, putMut, appD, bind_ok, bind_bad, bind_err, List.getElem?_cons_zero, List.getElem?_cons_succ, List.set_cons_zero, List.set_cons_succ, List.nil_append, List.cons_append, List.head?_cons, List.tail_cons, Bool.false_eq_true, if_false, if_true, Nat.sub_self, Nat.reduceSub, Nat.reduceAdd, reduceCtorEq, addD, subD, ixD, sliceD, lenD, truD, listD, tupleD, eCallM, arEv, arIn, arOut, arPs, bkL, bk1, List.lookup_cons, List.lookup_nil, blk, back, List.zip_cons_cons, List.zip_nil_left, List.zip_nil_right, List.map_cons, List.map_nil, List.drop_succ_cons, List.drop_zero, Option.getD_some, Option.getD_none, sFor, iE, itemsD, Bool.not_true, Bool.not_false, iR1, iR2, range1D, range2D, atI_tp, ea, eb, R.of, Option.map_some, gtD_tup]
    · intro _; simp only [FL.run, runP, slots, outs, outD, List.replicate, List.length_cons, List.length_nil, sRet, sSeq, sIf, sSet, sE, sNx, sOwn, sThen, sFrz, sRetF, sRetM, sRetN, sPar, sBrk, sCnt, sBad, eC, eV, FL.e1, FL.e2, eAnd, eOr, eNot, eIf, eChain, aNil, aCons, eTup, eLst, eCall, eRep, oNone, oSome, eSl, mutAt, lstAt, m1, m2, m2r, m2m, mSl, mLst2, tE, tB, FL.tAnd, FL.tOr, FL.tNot, tM, tTrue, gN, gT, gAll, updM, updM0, setM, putMut, appD, bind_ok, bind_bad, bind_err, List.getElem?_cons_zero, List.getElem?_cons_succ, List.set_cons_zero, List.set_cons_succ, List.nil_append, List.cons_append, List.head?_cons, List.tail_cons, Bool.false_eq_true, if_false, if_true, Nat.sub_self, Nat.reduceSub, Nat.reduceAdd, reduceCtorEq, addD, subD, ixD, sliceD, lenD, truD, listD, tupleD, eCallM, arEv, arIn, arOut, arPs, bkL, bk1, List.lookup_cons, List.lookup_nil, blk, back, List.zip_cons_cons, List.zip_nil_left, List.zip_nil_right, List.map_cons, List.map_nil, List.drop_succ_cons, List.drop_zero, Option.getD_some, Option.getD_none, sFor, iE, itemsD, Bool.not_true, Bool.not_false, iR1, iR2, range1D, range2D, id]
    · have l0 : ([(3, Sl.ow false (ltp row))] : List (Nat × Sl)).lookup 0 = none := rfl
      have l1 : ([(3, Sl.ow false (ltp row))] : List (Nat × Sl)).lookup 1 = none := rfl
      have l2 : ([(3, Sl.ow false (ltp row))] : List (Nat × Sl)).lookup 2 = none := rfl
      have l4 : ([(3, Sl.ow false (ltp row))] : List (Nat × Sl)).lookup 4 = none := rfl
      have l5 : ([(3, Sl.ow false (ltp row))] : List (Nat × Sl)).lookup 5 = none := rfl
      have l6 : ([(3, Sl.ow false (ltp row))] : List (Nat × Sl)).lookup 6 = none := rfl
      have l3 : bk1 [(3, Sl.ow false (ltp row))] 3 (.ow false (ltp row)) = .ow false (ltp row) := rfl
      show bkL [(3, Sl.ow false (ltp row))] 0 _ = _
      simp only [bkL, Nat.zero_add, Nat.reduceAdd, bk1_ne l0, bk1_ne l1, bk1_ne l2, bk1_ne l4, bk1_ne l5, bk1_ne l6, l3]
theorem q_rows1 (row : List (List Int)) (hr : row.length ≤ 100) (hr2 : ∀ r ∈ row, r.length ≤ 100) (s0 s1 s2 s4 s5 s6 : Sl) : q__law_rows_1 [s0, s1, s2, .ow false (ltp row), s4, s5, s6] =
    .ok (ltp (row.filter fun r => !leastR r), [s0, s1, s2, .ow false (ltp row), s4, s5, s6]) := by
  unfold q__law_rows_1
  rw [eCompM_pure (items := row.map tp) (fun x => match F__law_is_least [x] with | .ok (.bool b) => !b | _ => false) id]
  · rw [List.map_id, List.filter_map]
    congr 3
    congr 1
    refine List.filter_congr fun r m => ?_
    simp only [Function.comp_apply, law_least_ok r (hr2 r m)]
  · rfl
  · simp [lim]; omega
  · intro x hx
    obtain ⟨r, hm, rfl⟩ := List.mem_map.mp hx
    refine ⟨[.val (tp r)], ?_, ?_, ?_, ?_⟩
    · simp only [FL.run, runP, slots, outs, outD, List.replicate, List.length_cons, List.length_nil, sRet, sSeq, sIf, sSet, sE, sNx, sOwn, sThen, sFrz, sRetF, sRetM, sRetN, sPar, sBrk, sCnt, sBad, eC, eV, FL.e1, FL.e2, eAnd, eOr, eNot, eIf, eChain, aNil, aCons, eTup, eLst, eCall, eRep, oNone, oSome, eSl, mutAt, lstAt, m1, m2, m2r, m2m, mSl, mLst2, tE, tB, FL.tAnd, FL.tOr, FL.tNot, tM, tTrue, gN, gT, gAll, updM, updM0, setM, putMut, appD, bind_ok, bind_bad, bind_err, List.getElem?_cons_zero, List.getElem?_cons_succ, List.set_cons_zero, List.set_cons_succ, List.nil_append, List.cons_append, List.head?_cons, List.tail_cons, Bool.false_eq_true, if_false, if_true, Nat.sub_self, Nat.reduceSub, Nat.reduceAdd, reduceCtorEq, addD, subD, ixD, sliceD, lenD, truD, listD, tupleD, eCallM, arEv, arIn, arOut, arPs, bkL, bk1, List.lookup_cons, List.lookup_nil, blk, back, List.zip_cons_cons, List.zip_nil_left, List.zip_nil_right, List.map_cons, List.map_nil, List.drop_succ_cons, List.drop_zero, Option.getD_some, Option.getD_none, sFor, iE, itemsD, Bool.not_true, Bool.not_false, iR1, iR2, range1D, range2D]
    · simp only [FL.run, runP, slots, outs, outD, List.replicate, List.length_cons, List.length_nil, sRet, sSeq, sIf, sSet, sE, sNx, sOwn, sThen, sFrz, sRetF, sRetM, sRetN, sPar, sBrk, sCnt, sBad, eC, eV, FL.e1, FL.e2, eAnd, eOr, eNot, eIf, eChain, aNil, aCons, eTup, eLst, eCall, eRep, oNone, oSome, eSl, mutAt, lstAt, m1, m2, m2r, m2m, mSl, mLst2, tE, tB, FL.tAnd, FL.tOr, FL.tNot, tM, tTrue, gN, gT, gAll, updM, updM0, setM, putMut, appD, bind_ok, bind_bad, bind_err, List.getElem?_cons_zero, List.getElem?_cons_succ, List.set_cons_zero, List.set_cons_succ, List.nil_append, List.cons_append, List.head?_cons, List.tail_cons, Bool.false_eq_true, if_false, if_true, Nat.sub_self, Nat.reduceSub, Nat.reduceAdd, reduceCtorEq, addD, subD, ixD, sliceD, lenD, truD, listD, tupleD, eCallM, arEv, arIn, arOut, arPs, bkL, bk1, List.lookup_cons, List.lookup_nil, blk, back, List.zip_cons_cons, List.zip_nil_left, List.zip_nil_right, List.map_cons, List.map_nil, List.drop_succ_cons, List.drop_zero, Option.getD_some, Option.getD_none, sFor, iE, itemsD, Bool.not_true, Bool.not_false, iR1, iR2, range1D, range2D, law_least_ok r (hr2 r hm)]
    · intro _; simp only [FL.run, runP, slots, outs, outD, List.replicate, List.length_cons, List.length_nil, sRet, sSeq, sIf, sSet, sE, sNx, sOwn, sThen, sFrz, sRetF, sRetM, sRetN, sPar, sBrk, sCnt, sBad, eC, eV, FL.e1, FL.e2, eAnd, eOr, eNot, eIf, eChain, aNil, aCons, eTup, eLst, eCall, eRep, oNone, oSome, eSl, mutAt, lstAt, m1, m2, m2r, m2m, mSl, mLst2, tE, tB, FL.tAnd, FL.tOr, FL.tNot, tM, tTrue, gN, gT, gAll, updM, updM0, setM, putMut, appD, bind_ok, bind_bad, bind_err, List.getElem?_cons_zero, List.getElem?_cons_succ, List.set_cons_zero, List.set_cons_succ, List.nil_append, List.cons_append, List.head?_cons, List.tail_cons, Bool.false_eq_true, if_false, if_true, Nat.sub_self, Nat.reduceSub, Nat.reduceAdd, reduceCtorEq, addD, subD, ixD, sliceD, lenD, truD, listD, tupleD, eCallM, arEv, arIn, arOut, arPs, bkL, bk1, List.lookup_cons, List.lookup_nil, blk, back, List.zip_cons_cons, List.zip_nil_left, List.zip_nil_right, List.map_cons, List.map_nil, List.drop_succ_cons, List.drop_zero, Option.getD_some, Option.getD_none, sFor, iE, itemsD, Bool.not_true, Bool.not_false, iR1, iR2, range1D, range2D, id]
    · exact bkL_same (fun i p d e => by cases e) _ 0
theorem cut_len {α : Type} (xs : List α) (lo hi : Option Int) : (cut xs lo hi).length ≤ xs.length := by
  unfold cut
  simp
  omega
theorem rowOf_parts (w : List Int) (c : Int) : ∀ r ∈ rowOf w c, r.length ≤ w.length := by
  have key : ∀ (l : List Int) (st : Int × List (List Int)), (∀ r ∈ st.2, r.length ≤ w.length) → ∀ r ∈ (l.foldl (rstep w c) st).2, r.length ≤ w.length := by
    intro l
    induction l with
    | nil => intro st h; exact h
    | cons a l ih =>
      intro st h
      refine ih _ fun r hr => ?_
      unfold rstep at hr
      split at hr
      · rcases List.mem_append.mp hr with hr | hr
        · exact h r hr
        · have : r = cut w (some st.1) (some a) := by simpa using hr
          rw [this]; exact cut_len ..
      · exact h r hr
  exact key _ _ fun r hr => by cases hr
theorem outer (w : List Int) (hw : w.length ≤ 5) (rows : List (List (List Int))) (hr : rows.length ≤ 100) (c : Int) (hc : 0 ≤ c) (s3 s4 s5 s6 : Sl) (h3 : Np s3) (h4 : Np s4) (h5 : Np s5) (h6 : Np s6) : ∃ t3 t4 t5 t6, Np t3 ∧ Np t4 ∧ Np t5 ∧ Np t6 ∧
    u__law_rows_1 [.val (tp w), .ow false (.list (rows.map ltp)), .val (.int c), s3, s4, s5, s6] = .ok (.nx, [.val (tp w), .ow false (.list ((rows ++ (if okRow (rowOf w c) = true then [rowOf w c] else [])).map ltp)), .val (.int c), t3, t4, t5, t6]) := by
  obtain ⟨b, y, hy, hl, hin⟩ := inner w hw (.list (rows.map ltp)) c hc s5 s6 h5
  have hl1 : (rowOf w c).length ≤ 100 := by omega
  have hl2 : ∀ r ∈ rowOf w c, r.length ≤ 100 := fun r m => by have := rowOf_parts w c r m; omega
  have e1' : eLst aNil [.val (tp w), .ow false (.list (rows.map ltp)), .val (.int c), s3, s4, s5, s6] = .ok (.list [], [.val (tp w), .ow false (.list (rows.map ltp)), .val (.int c), s3, s4, s5, s6]) := rfl
  have e2' : eC (.int 0) [.val (tp w), .ow false (.list (rows.map ltp)), .val (.int c), .ow false (.list []), s4, s5, s6] = .ok (.int 0, [.val (tp w), .ow false (.list (rows.map ltp)), .val (.int c), .ow false (.list []), s4, s5, s6]) := rfl
  have q0 := q_rows0 (rowOf w c) hl1 (.val (tp w)) (.val (.int c)) (.val (.int b)) y s6 (.list (rows.map ltp))
  have ef : eqD (.list (((ups ((rowOf w c).length - 1)).filter fun p => match atI (rowOf w c) p, atI (rowOf w c) (p - 1) with | some x, some y => lexGt x y | _, _ => false).map PyData.int)) (.list []) = .ok (.bool (falls (rowOf w c))) := by
    rw [eqD_pl (pl_list (n := 0) fun d m => by obtain ⟨i, _, rfl⟩ := List.mem_map.mp m; exact pl_int i) (pl_list (n := 0) (ds := []) fun d m => by cases m)]
    congr 2
    exact eqvAll_map _ eqv_int _ []
  have e3' : (e2 eqD q__law_rows_0 (eLst aNil)) [.val (tp w), .ow false (.list (rows.map ltp)), .val (.int c), .ow false (ltp (rowOf w c)), .val (.int b), y, s6] = .ok (.bool (falls (rowOf w c)), [.val (tp w), .ow false (.list (rows.map ltp)), .val (.int c), .ow false (ltp (rowOf w c)), .val (.int b), y, s6]) := by
    simp only [FL.run, runP, slots, outs, outD, List.replicate, List.length_cons, List.length_nil, sRet, sSeq, sIf, sSet, sE, sNx, sOwn, sThen, sFrz, sRetF, sRetM, sRetN, sPar, sBrk, sCnt, sBad, eC, eV, FL.e1, FL.e2, eAnd, eOr, eNot, eIf, eChain, aNil, aCons, eTup, eLst, eCall, eRep, oNone, oSome, eSl, mutAt, lstAt, m1, m2, m2r, m2m, mSl, mLst2, tE, tB, FL.tAnd, FL.tOr, FL.tNot, tM, tTrue, gN, gT, gAll, updM, updM0, setM, putMut, appD, bind_ok, bind_bad, bind_err, List.getElem?_cons_zero, List.getElem?_cons_succ, List.set_cons_zero, List.set_cons_succ, List.nil_append, List.cons_append, List.head?_cons, List.tail_cons, Bool.false_eq_true, if_false, if_true, Nat.sub_self, Nat.reduceSub, Nat.reduceAdd, reduceCtorEq, addD, subD, ixD, sliceD, lenD, truD, listD, tupleD, eCallM, arEv, arIn, arOut, arPs, bkL, bk1, List.lookup_cons, List.lookup_nil, blk, back, List.zip_cons_cons, List.zip_nil_left, List.zip_nil_right, List.map_cons, List.map_nil, List.drop_succ_cons, List.drop_zero, Option.getD_some, Option.getD_none, sFor, iE, itemsD, Bool.not_true, Bool.not_false, iR1, iR2, range1D, range2D, q0, chk_ok (leB_of (Nat.zero_le lim)), ef]
  unfold u__law_rows_1
  rw [sSeq_nx (sOwn_np e1' (x := s3) rfl h3)]
  simp only [List.set_cons_zero, List.set_cons_succ]
  rw [sSeq_nx (sSet_np e2' (x := s4) rfl h4)]
  simp only [List.set_cons_zero, List.set_cons_succ]
  rw [sSeq_nx hin, sSeq_nx (sSet_np e3' (x := s6) rfl h6)]
  simp only [List.set_cons_zero, List.set_cons_succ]
  have q1 := q_rows1 (rowOf w c) hl1 hl2 (.val (tp w)) (.ow false (.list (rows.map ltp))) (.val (.int c)) (.val (.int b)) y (.val (.bool (falls (rowOf w c))))
  have eg : eqD (ltp ((rowOf w c).filter fun r => !leastR r)) (.list []) = .ok (.bool (decide ((rowOf w c).filter (fun r => !leastR r) = []))) := eqD_ltp _ []
  have hl3 : leB ((rows.map ltp).length + 1) lim = true := leB_of (by rw [List.length_map]; unfold lim; omega)
  cases hf : falls (rowOf w c) with
  | false =>
    have ho : okRow (rowOf w c) = false := by unfold okRow; rw [hf]; rfl
    rw [hf] at q1
    refine ⟨.ow false (ltp (rowOf w c)), .val (.int b), y, .val (.bool false), np_ow _, np_val _, hy, np_val _, ?_⟩
    simp only [FL.run, runP, slots, outs, outD, List.replicate, List.length_cons, List.length_nil, sRet, sSeq, sIf, sSet, sE, sNx, sOwn, sThen, sFrz, sRetF, sRetM, sRetN, sPar, sBrk, sCnt, sBad, eC, eV, FL.e1, FL.e2, eAnd, eOr, eNot, eIf, eChain, aNil, aCons, eTup, eLst, eCall, eRep, oNone, oSome, eSl, mutAt, lstAt, m1, m2, m2r, m2m, mSl, mLst2, tE, tB, FL.tAnd, FL.tOr, FL.tNot, tM, tTrue, gN, gT, gAll, updM, updM0, setM, putMut, appD, bind_ok, bind_bad, bind_err, List.getElem?_cons_zero, List.getElem?_cons_succ, List.set_cons_zero, List.set_cons_succ, List.nil_append, List.cons_append, List.head?_cons, List.tail_cons, Bool.false_eq_true, if_false, if_true, Nat.sub_self, Nat.reduceSub, Nat.reduceAdd, reduceCtorEq, addD, subD, ixD, sliceD, lenD, truD, listD, tupleD, eCallM, arEv, arIn, arOut, arPs, bkL, bk1, List.lookup_cons, List.lookup_nil, blk, back, List.zip_cons_cons, List.zip_nil_left, List.zip_nil_right, List.map_cons, List.map_nil, List.drop_succ_cons, List.drop_zero, Option.getD_some, Option.getD_none, sFor, iE, itemsD, Bool.not_true, Bool.not_false, iR1, iR2, range1D, range2D, ho, List.append_nil]
  | true =>
    rw [hf] at q1
    cases hg : decide ((rowOf w c).filter (fun r => !leastR r) = []) with
    | false =>
      have ho : okRow (rowOf w c) = false := by unfold okRow; rw [hf, hg]; rfl
      rw [hg] at eg
      refine ⟨.ow false (ltp (rowOf w c)), .val (.int b), y, .val (.bool true), np_ow _, np_val _, hy, np_val _, ?_⟩
      simp only [FL.run, runP, slots, outs, outD, List.replicate, List.length_cons, List.length_nil, sRet, sSeq, sIf, sSet, sE, sNx, sOwn, sThen, sFrz, sRetF, sRetM, sRetN, sPar, sBrk, sCnt, sBad, eC, eV, FL.e1, FL.e2, eAnd, eOr, eNot, eIf, eChain, aNil, aCons, eTup, eLst, eCall, eRep, oNone, oSome, eSl, mutAt, lstAt, m1, m2, m2r, m2m, mSl, mLst2, tE, tB, FL.tAnd, FL.tOr, FL.tNot, tM, tTrue, gN, gT, gAll, updM, updM0, setM, putMut, appD, bind_ok, bind_bad, bind_err, List.getElem?_cons_zero, List.getElem?_cons_succ, List.set_cons_zero, List.set_cons_succ, List.nil_append, List.cons_append, List.head?_cons, List.tail_cons, Bool.false_eq_true, if_false, if_true, Nat.sub_self, Nat.reduceSub, Nat.reduceAdd, reduceCtorEq, addD, subD, ixD, sliceD, lenD, truD, listD, tupleD, eCallM, arEv, arIn, arOut, arPs, bkL, bk1, List.lookup_cons, List.lookup_nil, blk, back, List.zip_cons_cons, List.zip_nil_left, List.zip_nil_right, List.map_cons, List.map_nil, List.drop_succ_cons, List.drop_zero, Option.getD_some, Option.getD_none, sFor, iE, itemsD, Bool.not_true, Bool.not_false, iR1, iR2, range1D, range2D, ho, List.append_nil, q1, chk_ok (leB_of (Nat.zero_le lim)), eg]
    | true =>
      have ho : okRow (rowOf w c) = true := by unfold okRow; rw [hf, hg]; rfl
      rw [hg] at eg
      refine ⟨.val (ltp (rowOf w c)), .val (.int b), y, .val (.bool true), np_val _, np_val _, hy, np_val _, ?_⟩
      simp only [FL.run, runP, slots, outs, outD, List.replicate, List.length_cons, List.length_nil, sRet, sSeq, sIf, sSet, sE, sNx, sOwn, sThen, sFrz, sRetF, sRetM, sRetN, sPar, sBrk, sCnt, sBad, eC, eV, FL.e1, FL.e2, eAnd, eOr, eNot, eIf, eChain, aNil, aCons, eTup, eLst, eCall, eRep, oNone, oSome, eSl, mutAt, lstAt, m1, m2, m2r, m2m, mSl, mLst2, tE, tB, FL.tAnd, FL.tOr, FL.tNot, tM, tTrue, gN, gT, gAll, updM, updM0, setM, putMut, appD, bind_ok, bind_bad, bind_err, List.getElem?_cons_zero, List.getElem?_cons_succ, List.set_cons_zero, List.set_cons_succ, List.nil_append, List.cons_append, List.head?_cons, List.tail_cons, Bool.false_eq_true, if_false, if_true, Nat.sub_self, Nat.reduceSub, Nat.reduceAdd, reduceCtorEq, addD, subD, ixD, sliceD, lenD, truD, listD, tupleD, eCallM, arEv, arIn, arOut, arPs, bkL, bk1, List.lookup_cons, List.lookup_nil, blk, back, List.zip_cons_cons, List.zip_nil_left, List.zip_nil_right, List.map_cons, List.map_nil, List.drop_succ_cons, List.drop_zero, Option.getD_some, Option.getD_none, sFor, iE, itemsD, Bool.not_true, Bool.not_false, iR1, iR2, range1D, range2D, ho, q1, chk_ok (leB_of (Nat.zero_le lim)), eg, chk_ok hl3, List.map_append]
theorem nat_ints (n : Nat) : rng 0 (n : Int) = ((List.range n).map fun (i : Nat) => (i : Int)).map PyData.int := by
  rw [rng_map]
  rw [show ((n : Int) - 0).toNat = n by omega]
  simp
end K53
set_option Elab.async false
set_option linter.all false
set_option maxRecDepth 100000
namespace K53
open PySem FL
def wordsN : Nat → List (List Int)
  | 0 => [[]]
  | n + 1 => [] :: ([0, 1, 2, 3] : List Int).flatMap fun a => (wordsN n).map (a :: ·)
theorem mem_words : ∀ (n : Nat) (w : List Int), w.length ≤ n → (∀ x ∈ w, 0 ≤ x ∧ x < 4) → w ∈ wordsN n
  | 0, [], _, _ => List.mem_singleton.mpr rfl
  | n + 1, [], _, _ => List.mem_cons_self ..
  | n + 1, a :: w, h, hx => by
    refine List.mem_cons_of_mem _ (List.mem_flatMap.mpr ⟨a, ?_, List.mem_map.mpr ⟨w, mem_words n w (by simpa using h) fun x m => hx x (List.mem_cons_of_mem _ m), rfl⟩⟩)
    obtain ⟨h0, h1⟩ := hx a (List.mem_cons_self ..)
    have : a = 0 ∨ a = 1 ∨ a = 2 ∨ a = 3 := by omega
    rcases this with rfl | rfl | rfl | rfl <;> decide
end K53
set_option Elab.async false
set_option linter.all false
set_option maxRecDepth 100000
namespace K52
open PySem FL
def b_is_whole : SF := (sRet (eAnd (e1 (isiD' "int") (eV 0)) (eNot (e1 (isiD' "bool") (eV 0)))))
def F_is_whole : List D → R D := runP false 1 1 b_is_whole
def q_all_words_0 : EF := (eComp2 2 [0] (iE (eV 2)) (gN 1) tTrue 1 (iR1 (aCons (eV 2) aNil)) (gN 0) tTrue (e2 addD (eV 1) (eTup (aCons (eV 0) aNil))))
def u_all_words_0 : SF := (sThen 2 (sOwn 2 q_all_words_0))
def w_all_words_0 : SF := (sFor (iR1 (aCons (eV 1) aNil)) (gN 3) u_all_words_0)
def b_all_words : SF := (sSeq (sSet (gN 2) (eLst (aCons (eTup aNil) aNil)))
    (sSeq w_all_words_0
    (sRet (eV 2))))
def F_all_words : List D → R D := runP false 2 4 b_all_words
def q_is_least_0 : EF := (eComp 1 [0] (iR2 (aCons (eC (.int 1)) (aCons (e1 lenD (eV 0)) aNil))) (gN 0) tTrue (e2 ltD (eV 1) (eSl (eV 1) (oSome (eV 0)) oNone)))
def b_is_least : SF := (sRet (eAnd (e2 gtD (e1 lenD (eV 0)) (eC (.int 0))) (e1 allD q_is_least_0)))
def F_is_least : List D → R D := runP false 1 1 b_is_least
def b__law_mixed : SF := (sSeq (sSet (gN 2) (e2 addD (e2 addD (e2 mulD (e2 addD (e2 modD (eV 0) (e2 addD (e2 powD (eC (.int 10)) (eC (.int 18))) (eC (.int 9)))) (e2 mulD (eC (.int 7)) (eV 1))) (eC (.int 739108512309184756019283746561))) (e2 mulD (eC (.int 7919)) (eV 1))) (eC (.int 1))))
    (sSeq (sSet (gN 2) (e2 modD (e2 mulD (eV 2) (eV 2)) (e2 addD (e2 powD (eC (.int 10)) (eC (.int 60))) (eC (.int 7)))))
    (sRet (e2 modD (e2 mulD (e2 addD (eV 2) (eC (.int 40503))) (e2 addD (eV 2) (eC (.int 57)))) (e2 addD (e2 powD (eC (.int 10)) (eC (.int 60))) (eC (.int 7)))))))
def F__law_mixed : List D → R D := runP false 2 3 b__law_mixed
def b__law_at : SF := (sSeq (sIf (tB (e2 ltD (eV 1) (e1 lenD (eV 0)))) (sRet (e2 ixD (eV 0) (eV 1))) sNx)
    (sRet (e2 addD (e2 mulD (eC (.int 3)) (eV 1)) (eC (.int 1)))))
def F__law_at : List D → R D := runP false 2 2 b__law_at
def q__law_is_least_0 : EF := (eComp 1 [0] (iR2 (aCons (eC (.int 1)) (aCons (e1 lenD (eV 0)) aNil))) (gN 0) tTrue (e2 addD (eSl (eV 1) (oSome (eV 0)) oNone) (eSl (eV 1) oNone (oSome (eV 0)))))
def q__law_is_least_1 : EF := (eComp 1 [0] (iE (eV 1)) (gN 0) (tB (e2 leD (eV 0) (eV 1))) (eV 0))
def b__law_is_least : SF := (sSeq (sThen 1 (sOwn 1 q__law_is_least_0))
    (sRet (eAnd (e2 neD (eV 0) (eTup aNil)) (e2 eqD q__law_is_least_1 (eLst aNil)))))
def F__law_is_least : List D → R D := runP false 1 2 b__law_is_least
def q__law_words_0 : EF := (eComp 1 [5] (iR1 (aCons (eV 0) aNil)) (gN 0) tTrue (e2 addD (eV 1) (eTup (aCons (eV 0) aNil))))
def u__law_words_0 : SF := (sSet (gN 4) (e2 addD (eV 4) q__law_words_0))
def w__law_words_0 : SF := (sFor (iE (eV 2)) (gN 5) u__law_words_0)
def u__law_words_1 : SF := (sSeq (sSet (gN 4) (eLst aNil))
    (sSeq w__law_words_0
    (sSet (gN 2) (eV 4))))
def w__law_words_1 : SF := (sFor (iR1 (aCons (eV 1) aNil)) (gN 3) u__law_words_1)
def b__law_words : SF := (sSeq (sSet (gN 2) (eLst (aCons (eTup aNil) aNil)))
    (sSeq w__law_words_1
    (sRet (eV 2))))
def F__law_words : List D → R D := runP false 2 6 b__law_words
def b__law_letters (Fr : List D → R D) : SF := (sSeq (sIf (tE (e1 (isiD' "tuple") (eV 0))) (sRet (e2 addD (eCall Fr (aCons (e2 ixD (eV 0) (eC (.int 0))) aNil)) (eCall Fr (aCons (e2 ixD (eV 0) (eC (.int 1))) aNil)))) sNx)
    (sRet (eTup (aCons (eV 0) aNil))))
def F__law_letters : Nat → List D → R D
  | 0 => fun _ => .bad
  | k + 1 => runP false 1 1 (b__law_letters (F__law_letters k))
def q__law_right_0 : EF := (eCompM 1 [] 0 (gN 0) (FL.tNot (tE (e1 (isiD' "tuple") (eV 0)))) (eV 0))
def b__law_right : SF := (sRet (eAnd (m1 (isiD' "list") 0) (eAnd (e2 eqD q__law_right_0 (eLst aNil)) (m2 eqD 0 (eV 1)))))
def F__law_right : List D → R (D × List D) := run [true, false] false 2 b__law_right
def q_is_word_0 : EF := (eComp 1 [1] (iE (eV 0)) (gN 0) tTrue (eAnd (eCall F_is_whole (aCons (eV 0) aNil)) (eChain leD ltD (eC (.int 0)) (eV 0) (eV 1))))
def b_is_word : SF := (sSeq (sIf (FL.tOr (FL.tNot (tE (e1 (isiD' "tuple") (eV 0)))) (tB (e2 gtD (e1 lenD (eV 0)) (eC (.int 5))))) (sRet (eC (.bool false))) sNx)
    (sRet (e1 allD q_is_word_0)))
def F_is_word : List D → R D := runP false 2 2 b_is_word
def b_refuse_letters : SF := (sIf (FL.tOr (FL.tNot (tE (eCall F_is_whole (aCons (eV 0) aNil)))) (FL.tNot (tB (eChain leD leD (eC (.int 1)) (eV 0) (eC (.int 4)))))) sBad sNx)
def F_refuse_letters : List D → R D := runP false 1 1 b_refuse_letters
def q_fallen_words_0 : EF := (eComp 1 [0] (iR2 (aCons (eC (.int 1)) (aCons (e2 addD (e1 lenD (eV 0)) (eC (.int 1))) aNil))) (gN 0) (tE (eCall F_is_least (aCons (eSl (eV 1) oNone (oSome (eV 0))) aNil))) (eV 0))
def w_fallen_words_0 : SF := (sWhile (fun _ => 10) (tE (eV 0)) (sSeq (sSet (gN 2) (e1 maxD q_fallen_words_0))
    (sSeq (updM 1 appD (eSl (eV 0) oNone (oSome (eV 2))))
    (sSet (gN 0) (eSl (eV 0) (oSome (eV 2)) oNone)))))
def b_fallen_words : SF := (sSeq (sOwn 1 (eLst aNil))
    (sSeq w_fallen_words_0
    (sRetM 1)))
def F_fallen_words : List D → R D := runP true 1 3 b_fallen_words
def q_tree_of_least_0 : EF := (eComp 1 [0] (iR2 (aCons (eC (.int 1)) (aCons (e1 lenD (eV 0)) aNil))) (gN 0) (tE (eCall F_is_least (aCons (eSl (eV 1) (oSome (eV 0)) oNone) aNil))) (eV 0))
def b_tree_of_least (Fr : List D → R D) : SF := (sSeq (sIf (tB (e2 eqD (e1 lenD (eV 0)) (eC (.int 1)))) (sRet (e2 ixD (eV 0) (eC (.int 0)))) sNx)
    (sSeq (sSet (gN 1) (e1 minD q_tree_of_least_0))
    (sRet (eTup (aCons (eCall Fr (aCons (eSl (eV 0) oNone (oSome (eV 1))) aNil)) (aCons (eCall Fr (aCons (eSl (eV 0) (oSome (eV 1)) oNone) aNil)) aNil))))))
def F_tree_of_least : Nat → List D → R D
  | 0 => fun _ => .bad
  | k + 1 => runP false 1 2 (b_tree_of_least (F_tree_of_least k))
def b__law_purse : SF := (sSeq (sIf (tB (e2 geD (eV 0) (e2 powD (eC (.int 10)) (eC (.int 18))))) (sRetF (eLst (aCons (e2 subD (eV 0) (e2 powD (eC (.int 10)) (eC (.int 18)))) (aCons (eC (.int 0)) (aCons (eV 1) aNil))))) sNx)
    (sRetF (eLst (aCons (eCall F__law_mixed (aCons (eV 0) (aCons (eV 1) aNil))) (aCons (eC (.int 0)) (aCons (e2 addD (e2 modD (eV 0) (e2 addD (e2 powD (eC (.int 10)) (eC (.int 18))) (eC (.int 9)))) (eV 1)) aNil))))))
def F__law_purse : List D → R D := runP true 2 2 b__law_purse
def b__law_take : SF := (sSeq (sIf (tB (e2 ltD (m2 ixD 0 (eC (.int 0))) (eV 1))) (sSeq (setM 0 (e2 addD (m2 ixD 0 (eC (.int 1))) (eC (.int 1))) (eC (.int 1)))
    (setM 0 (e2 addD (m2 ixD 0 (eC (.int 0))) (e2 mulD (eV 1) (eCall F__law_mixed (aCons (m2 ixD 0 (eC (.int 2))) (aCons (e2 addD (e2 mulD (eC (.int 11)) (m2 ixD 0 (eC (.int 1)))) (eC (.int 5))) aNil))))) (eC (.int 0)))) sNx)
    (sSeq (sSet (gN 2) (e2 modD (m2 ixD 0 (eC (.int 0))) (eV 1)))
    (sSeq (setM 0 (e2 fdivD (m2 ixD 0 (eC (.int 0))) (eV 1)) (eC (.int 0)))
    (sRet (eV 2)))))
def F__law_take : List D → R (D × List D) := run [true, false] false 3 b__law_take
def b_refuse_word : SF := (sIf (FL.tNot (tE (eCall F_is_word (aCons (eV 0) (aCons (eC (.int 4)) aNil))))) sBad sNx)
def F_refuse_word : List D → R D := runP false 1 1 b_refuse_word
def q_least_words_0 : EF := (eComp 1 [] (iE (eCall F_all_words (aCons (eV 0) (aCons (eV 1) aNil)))) (gN 0) (tE (eCall F_is_least (aCons (eV 0) aNil))) (eV 0))
def b_least_words : SF := (sSeq (sE (eCall F_refuse_letters (aCons (eV 0) aNil)))
    (sSeq (sIf (FL.tOr (FL.tNot (tE (eCall F_is_whole (aCons (eV 1) aNil)))) (FL.tNot (tB (eChain leD leD (eC (.int 1)) (eV 1) (eC (.int 5)))))) sBad sNx)
    (sRetF q_least_words_0)))
def F_least_words : List D → R D := runP true 2 2 b_least_words
def b_fallen : SF := (sSeq (sE (eCall F_refuse_word (aCons (eV 0) aNil)))
    (sRetF (eCall F_fallen_words (aCons (eV 0) aNil))))
def F_fallen : List D → R D := runP true 1 1 b_fallen
def b_least_tree : SF := (sSeq (sE (eCall F_refuse_word (aCons (eV 0) aNil)))
    (sSeq (sIf (FL.tNot (tE (eCall F_is_least (aCons (eV 0) aNil)))) sBad sNx)
    (sRet (eCall (F_tree_of_least 6) (aCons (eV 0) aNil)))))
def F_least_tree : List D → R D := runP false 1 1 b_least_tree
def u_law_0 : SF := (sSeq (sSet (gN 5) (e2 addD (eC (.int 1)) (eCallM F__law_take [.m 2, .v (eC (.int 4))])))
    (updM 3 appD (eTup (aCons (eV 5) (aCons (e2 addD (eC (.int 1)) (eCallM F__law_take [.m 2, .v (eC (.int 5))])) aNil)))))
def w_law_0 : SF := (sFor (iR1 (aCons (eC (.int 2)) aNil)) (gN 4) u_law_0)
def q_law_0 : EF := (eComp 1 [] (iE (eCall F__law_words (aCons (eV 0) (aCons (eV 1) aNil)))) (gN 0) (tE (eCall F__law_is_least (aCons (eV 0) aNil))) (eV 0))
def q_law_1 : EF := (eComp 2 [] (iE (eV 3)) (gT [(gN 0), (gN 1)]) tTrue q_law_0)
def u_law_1 : SF := (sIf (FL.tOr (tB (e2 neD (eCall F_fallen (aCons (eV 9) aNil)) (eLst (aCons (eV 9) aNil)))) (tB (e2 neD (eCall (F__law_letters 6) (aCons (eCall F_least_tree (aCons (eV 9) aNil)) aNil)) (eV 9)))) (sRet (eC (.bool false))) sNx)
def w_law_1 : SF := (sFor (iE (eSl (eSl (e2 ixD (eV 6) (eC (.int 0))) (oSome (eCallM F__law_take [.m 2, .v (e2 addD (e1 lenD (e2 ixD (eV 6) (eC (.int 0)))) (eC (.int 1)))])) oNone) oNone (oSome (eC (.int 6))))) (gN 9) u_law_1)
def u_law_2 : SF := (sSeq (sOwn 2 (eCall F__law_purse (aCons (eV 1) (aCons (eC (.int 52)) aNil))))
    (sSeq (sOwn 3 (eLst aNil))
    (sSeq w_law_0
    (sSeq (sFrz 3 (sThen 6 (sOwn 6 q_law_1)))
    (sSeq (sOwn 7 (eCall F_least_words (aCons (e2 ixD (e2 ixD (eV 3) (eC (.int 0))) (eC (.int 0))) (aCons (e2 ixD (e2 ixD (eV 3) (eC (.int 0))) (eC (.int 1))) aNil))))
    (sSeq (sOwn 8 (eCall F_least_words (aCons (e2 ixD (e2 ixD (eV 3) (eC (.int 1))) (eC (.int 0))) (aCons (e2 ixD (e2 ixD (eV 3) (eC (.int 1))) (eC (.int 1))) aNil))))
    (sSeq (sIf (FL.tOr (FL.tNot (tE (eCallM F__law_right [.m 7, .v (e2 ixD (eV 6) (eC (.int 0)))]))) (FL.tNot (tE (eCallM F__law_right [.m 8, .v (e2 ixD (eV 6) (eC (.int 1)))])))) (sRet (eC (.bool false))) sNx)
    (sSeq (updM 7 appD (eTup aNil))
    (sSeq (updM0 8 revD)
    (sSeq (sIf (FL.tNot (tE (eCallM F__law_right [.t (eCall F_least_words (aCons (e2 ixD (e2 ixD (eV 3) (eC (.int 0))) (eC (.int 0))) (aCons (e2 ixD (e2 ixD (eV 3) (eC (.int 0))) (eC (.int 1))) aNil))), .v (e2 ixD (eV 6) (eC (.int 0)))]))) (sRet (eC (.bool false))) sNx)
    w_law_1))))))))))
def w_law_2 : SF := (sFor (iE (e2 addD (eSl (eV 0) oNone (oSome (eC (.int 3)))) (eLst (aCons (eCall F__law_at (aCons (eV 0) (aCons (eC (.int 1)) aNil))) aNil)))) (gN 1) u_law_2)
def b_law : SF := (sSeq w_law_2
    (sRet (eC (.bool true))))
def F_law : List D → R D := runP false 1 10 b_law
end K52
set_option Elab.async false
set_option linter.all false
set_option maxRecDepth 100000
set_option maxHeartbeats 4000000
namespace K52
open PySem L2 PySem.Spec FL
open PyProof.Rows hiding St
def top (i : Nat) : Stmt := PySem.Challenge.pw_swaprest_k52_least_words_told.main.body.getD i (.Pass ⟨0, 0, 0, 0⟩)
structure Cst (K : PySem.W.Frag) (mg : Str → Option Value) (t_MOST_LETTERS : Tok) (t_MOST_LONG : Tok) : Prop where
  m_MOST_LETTERS : mg "MOST_LETTERS" = some (.int 4 t_MOST_LETTERS)
  m_MOST_LONG : mg "MOST_LONG" = some (.int 5 t_MOST_LONG)
section
variable {P : Program} {w : World} {K : PySem.W.Frag} {mg : Str → Option Value} {base : Heap}
abbrev s_is_whole : Stmt := top 6
theorem k_is_whole {t_MOST_LETTERS : Tok} {t_MOST_LONG : Tok} (h : Has K mg "is_whole" s_is_whole) (B : Blt mg) (C : Cst K mg t_MOST_LETTERS t_MOST_LONG) : Callee P w K mg base "is_whole" 1 ["one"] (spP K 1 false F_is_whole) := by
  have S : FnScope ["one"] ["one"] (defScope s_is_whole) := ⟨rfl, rfl, rfl, by decide +kernel, rfl, by decide +kernel, by decide +kernel⟩
  refine Callee.pure (fn_run (List.replicate 1 false) false h S rfl (by decide) (fun _ _ _ _ _ _ us hl => match us, hl with | [_], _ => rfl) fun f cdv A outer s H E hr => ?_)
  have hu := hr.units
  have PO : ∀ {M : Model} {A : Around} {env : Env}, PassesOwn M A env (fun _ _ => False) := PassesOwn.never
  refine pvs_nox ?_
  unfold b_is_whole
  exact (pvs_one (pvs_ret (pv_and (pv_isi kit_int rfl B.n_isinstance rfl B.n_int Bt.int (pv_var 0)) (pv_one (pv_not (pv_isi kit_bool rfl B.n_isinstance rfl B.n_bool Bt.bool (pv_var 0)))))))
abbrev s_all_words : Stmt := top 14
theorem k_all_words {t_MOST_LETTERS : Tok} {t_MOST_LONG : Tok} (h : Has K mg "all_words" s_all_words) (B : Blt mg) (C : Cst K mg t_MOST_LETTERS t_MOST_LONG) : Callee P w K mg base "all_words" 1 ["count", "length"] (spP K 2 false F_all_words) := by
  have S : FnScope ["count", "length", "found", "done"] ["count", "length"] (defScope s_all_words) := ⟨rfl, rfl, rfl, by decide +kernel, rfl, by decide +kernel, by decide +kernel⟩
  refine Callee.pure (fn_run (List.replicate 2 false) false h S rfl (by decide) (fun _ _ _ _ _ _ us hl => match us, hl with | [_, _], _ => rfl) fun f cdv A outer s H E hr => ?_)
  have hu := hr.units
  have PO : ∀ {M : Model} {A : Around} {env : Env}, PassesOwn M A env (fun _ _ => False) := PassesOwn.never
  refine pvs_nox ?_
  unfold b_all_words w_all_words_0 u_all_words_0 q_all_words_0
  exact (pvs_cons (pvs_set (i := 2) S.nd rfl (Or.inl rfl) (PVN.pv (pvn_lst (pva_cons (pv_tup pva_nil) pva_nil))))
      (pvs_cons (pvs_for PO rfl (pvi_range1 rfl B.n_range (pva_cons (pv_var 1) pva_nil)) (pvg_name (i := 3) S.nd rfl (Or.inl rfl)) (pvs_one (pvs_then 2 (pvs_ownC2 2 1 ["letter", "word"] [0] ["letter", "word", "count"] S.nd rfl rfl rfl rfl rfl (by kernel_rfl) rfl (by decide) (pvi_seq (pv_var 2)) (fun _ _ _ _ => (pvg_name (i := 1) (nd (M := ["letter", "word", "count"]) (by decide +kernel)) rfl (Or.inl rfl))) (by decide) (fun _ _ _ _ => pvts_nil) (fun _ _ _ _ => (pvi_range1 rfl B.n_range (pva_cons (pv_var 2) pva_nil))) (fun _ _ _ _ => (pvg_name (i := 0) (nd (M := ["letter", "word", "count"]) (by decide +kernel)) rfl (Or.inl rfl))) (by decide) (fun _ _ _ _ => pvts_nil) (fun _ _ _ _ => (pv_op o_add (pv_var 1) (pv_tup (pva_cons (pv_var 0) pva_nil)))) (by decide)))))
      (pvs_one (pvs_ret (pv_var 2)))))
abbrev s_is_least : Stmt := top 15
theorem k_is_least {t_MOST_LETTERS : Tok} {t_MOST_LONG : Tok} (h : Has K mg "is_least" s_is_least) (B : Blt mg) (C : Cst K mg t_MOST_LETTERS t_MOST_LONG) : Callee P w K mg base "is_least" 1 ["word"] (spP K 1 false F_is_least) := by
  have S : FnScope ["word"] ["word"] (defScope s_is_least) := ⟨rfl, rfl, rfl, by decide +kernel, rfl, by decide +kernel, by decide +kernel⟩
  refine Callee.pure (fn_run (List.replicate 1 false) false h S rfl (by decide) (fun _ _ _ _ _ _ us hl => match us, hl with | [_], _ => rfl) fun f cdv A outer s H E hr => ?_)
  have hu := hr.units
  have PO : ∀ {M : Model} {A : Around} {env : Env}, PassesOwn M A env (fun _ _ => False) := PassesOwn.never
  refine pvs_nox ?_
  unfold b_is_least q_is_least_0
  exact (pvs_one (pvs_ret (pv_and (pv_cmp (o_gt hu) (pv_one1 (pv_callB (CallD.ds c_len) rfl B.n_len Bt.len (pva_cons (pv_var 0) pva_nil))) pv_int (nomark _)) (pv_one (pv_one1 (pv_callB (CallD.ds (c_all rfl)) rfl B.n_all Bt.all (pva_cons (PVN.pv (pvn_comp ["place"] [0] ["place", "word"] rfl rfl (by kernel_rfl) rfl (by decide) (pvi_range2 rfl B.n_range (pva_cons pv_int (pva_cons (pv_one1 (pv_callB (CallD.ds c_len) rfl B.n_len Bt.len (pva_cons (pv_var 0) pva_nil))) pva_nil))) (fun _ _ _ _ => (pvg_name (i := 0) (nd (M := ["place", "word"]) (by decide +kernel)) rfl (Or.inl rfl))) (by decide) (fun _ _ _ _ => pvts_nil) (fun _ _ _ _ => (pv_cmp (o_lt hu) (pv_var 1) (pv_slice s_cut (pv_var 1) (pvo_some (pv_var 0)) pvo_none) (nomark _))))) pva_nil)))))))
abbrev s__law_mixed : Stmt := top 23
theorem k__law_mixed {t_MOST_LETTERS : Tok} {t_MOST_LONG : Tok} (h : Has K mg "_law_mixed" s__law_mixed) (B : Blt mg) (C : Cst K mg t_MOST_LETTERS t_MOST_LONG) : Callee P w K mg base "_law_mixed" 1 ["_law_cell", "_law_k"] (spP K 2 false F__law_mixed) := by
  have S : FnScope ["_law_cell", "_law_k", "_law_number"] ["_law_cell", "_law_k"] (defScope s__law_mixed) := ⟨rfl, rfl, rfl, by decide +kernel, rfl, by decide +kernel, by decide +kernel⟩
  refine Callee.pure (fn_run (List.replicate 2 false) false h S rfl (by decide) (fun _ _ _ _ _ _ us hl => match us, hl with | [_, _], _ => rfl) fun f cdv A outer s H E hr => ?_)
  have hu := hr.units
  have PO : ∀ {M : Model} {A : Around} {env : Env}, PassesOwn M A env (fun _ _ => False) := PassesOwn.never
  refine pvs_nox ?_
  unfold b__law_mixed
  exact (pvs_cons (pvs_set (i := 2) S.nd rfl (Or.inl rfl) (pv_op o_add (pv_op o_add (pv_op o_mul (pv_op o_add (pv_op o_mod (pv_var 0) (pv_op o_add (pv_op o_pow pv_int pv_int) pv_int)) (pv_op o_mul pv_int (pv_var 1))) pv_int) (pv_op o_mul pv_int (pv_var 1))) pv_int))
      (pvs_cons (pvs_set (i := 2) S.nd rfl (Or.inl rfl) (pv_op o_mod (pv_op o_mul (pv_var 2) (pv_var 2)) (pv_op o_add (pv_op o_pow pv_int pv_int) pv_int)))
      (pvs_one (pvs_ret (pv_op o_mod (pv_op o_mul (pv_op o_add (pv_var 2) pv_int) (pv_op o_add (pv_var 2) pv_int)) (pv_op o_add (pv_op o_pow pv_int pv_int) pv_int))))))
abbrev s__law_at : Stmt := top 26
theorem k__law_at {t_MOST_LETTERS : Tok} {t_MOST_LONG : Tok} (h : Has K mg "_law_at" s__law_at) (B : Blt mg) (C : Cst K mg t_MOST_LETTERS t_MOST_LONG) : Callee P w K mg base "_law_at" 1 ["_law_script", "_law_k"] (spP K 2 false F__law_at) := by
  have S : FnScope ["_law_script", "_law_k"] ["_law_script", "_law_k"] (defScope s__law_at) := ⟨rfl, rfl, rfl, by decide +kernel, rfl, by decide +kernel, by decide +kernel⟩
  refine Callee.pure (fn_run (List.replicate 2 false) false h S rfl (by decide) (fun _ _ _ _ _ _ us hl => match us, hl with | [_, _], _ => rfl) fun f cdv A outer s H E hr => ?_)
  have hu := hr.units
  have PO : ∀ {M : Model} {A : Around} {env : Env}, PassesOwn M A env (fun _ _ => False) := PassesOwn.never
  refine pvs_nox ?_
  unfold b__law_at
  exact (pvs_cons (pvs_if (pvt_cmp (o_lt hu) (pv_var 1) (pv_one1 (pv_callB (CallD.ds c_len) rfl B.n_len Bt.len (pva_cons (pv_var 0) pva_nil))) (nomark _)) (pvs_one (pvs_ret (pv_ix x_ix (pv_var 0) (pv_var 1)))) pvs_nil)
      (pvs_one (pvs_ret (pv_op o_add (pv_op o_mul pv_int (pv_var 1)) pv_int))))
abbrev s__law_is_least : Stmt := top 27
theorem k__law_is_least {t_MOST_LETTERS : Tok} {t_MOST_LONG : Tok} (h : Has K mg "_law_is_least" s__law_is_least) (B : Blt mg) (C : Cst K mg t_MOST_LETTERS t_MOST_LONG) : Callee P w K mg base "_law_is_least" 1 ["_law_word"] (spP K 1 false F__law_is_least) := by
  have S : FnScope ["_law_word", "_law_others"] ["_law_word"] (defScope s__law_is_least) := ⟨rfl, rfl, rfl, by decide +kernel, rfl, by decide +kernel, by decide +kernel⟩
  refine Callee.pure (fn_run (List.replicate 1 false) false h S rfl (by decide) (fun _ _ _ _ _ _ us hl => match us, hl with | [_], _ => rfl) fun f cdv A outer s H E hr => ?_)
  have hu := hr.units
  have PO : ∀ {M : Model} {A : Around} {env : Env}, PassesOwn M A env (fun _ _ => False) := PassesOwn.never
  refine pvs_nox ?_
  unfold b__law_is_least q__law_is_least_1 q__law_is_least_0
  exact (pvs_cons (pvs_then 1 (pvs_ownC 1 ["_law_at_here"] [0] ["_law_at_here", "_law_word"] S.nd rfl rfl rfl rfl rfl (by kernel_rfl) rfl (by decide) (pvi_range2 rfl B.n_range (pva_cons pv_int (pva_cons (pv_one1 (pv_callB (CallD.ds c_len) rfl B.n_len Bt.len (pva_cons (pv_var 0) pva_nil))) pva_nil))) (fun _ _ _ _ => (pvg_name (i := 0) (nd (M := ["_law_at_here", "_law_word"]) (by decide +kernel)) rfl (Or.inl rfl))) (by decide) (fun _ _ _ _ => pvts_nil) (fun _ _ _ _ => (pv_op o_add (pv_slice s_cut (pv_var 1) (pvo_some (pv_var 0)) pvo_none) (pv_slice s_cut (pv_var 1) pvo_none (pvo_some (pv_var 0)))))))
      (pvs_one (pvs_ret (pv_and (pv_cmp (o_ne hu) (pv_var 0) (pv_tup pva_nil) (nomark _)) (pv_one (pv_cmp (o_eq hu) (PVN.pv (pvn_comp ["_law_other"] [0] ["_law_other", "_law_word"] rfl rfl (by kernel_rfl) rfl (by decide) (pvi_seq (pv_var 1)) (fun _ _ _ _ => (pvg_name (i := 0) (nd (M := ["_law_other", "_law_word"]) (by decide +kernel)) rfl (Or.inl rfl))) (by decide) (fun _ _ _ _ => (pvts_one (pvt_cmp (o_le hu) (pv_var 0) (pv_var 1) (nomark _)))) (fun _ _ _ _ => (pv_var 0)))) (PVN.pv (pvn_lst pva_nil)) (nomark _)))))))
abbrev s__law_words : Stmt := top 28
theorem k__law_words {t_MOST_LETTERS : Tok} {t_MOST_LONG : Tok} (h : Has K mg "_law_words" s__law_words) (B : Blt mg) (C : Cst K mg t_MOST_LETTERS t_MOST_LONG) : Callee P w K mg base "_law_words" 1 ["_law_count", "_law_length"] (spP K 2 false F__law_words) := by
  have S : FnScope ["_law_count", "_law_length", "_law_words_here", "_law_place", "_law_further", "_law_word"] ["_law_count", "_law_length"] (defScope s__law_words) := ⟨rfl, rfl, rfl, by decide +kernel, rfl, by decide +kernel, by decide +kernel⟩
  refine Callee.pure (fn_run (List.replicate 2 false) false h S rfl (by decide) (fun _ _ _ _ _ _ us hl => match us, hl with | [_, _], _ => rfl) fun f cdv A outer s H E hr => ?_)
  have hu := hr.units
  have PO : ∀ {M : Model} {A : Around} {env : Env}, PassesOwn M A env (fun _ _ => False) := PassesOwn.never
  refine pvs_nox ?_
  unfold b__law_words w__law_words_1 u__law_words_1 w__law_words_0 u__law_words_0 q__law_words_0
  exact (pvs_cons (pvs_set (i := 2) S.nd rfl (Or.inl rfl) (PVN.pv (pvn_lst (pva_cons (pv_tup pva_nil) pva_nil))))
      (pvs_cons (pvs_for PO rfl (pvi_range1 rfl B.n_range (pva_cons (pv_var 1) pva_nil)) (pvg_name (i := 3) S.nd rfl (Or.inl rfl)) (pvs_cons (pvs_set (i := 4) S.nd rfl (Or.inl rfl) (PVN.pv (pvn_lst pva_nil)))
      (pvs_cons (pvs_for PO rfl (pvi_seq (pv_var 2)) (pvg_name (i := 5) S.nd rfl (Or.inr rfl)) (pvs_one (pvs_set (i := 4) S.nd rfl (Or.inl rfl) (pv_op o_add (pv_var 4) (PVN.pv (pvn_comp ["_law_letter"] [5] ["_law_letter", "_law_word"] rfl rfl (by kernel_rfl) rfl (by decide) (pvi_range1 rfl B.n_range (pva_cons (pv_var 0) pva_nil)) (fun _ _ _ _ => (pvg_name (i := 0) (nd (M := ["_law_letter", "_law_word"]) (by decide +kernel)) rfl (Or.inl rfl))) (by decide) (fun _ _ _ _ => pvts_nil) (fun _ _ _ _ => (pv_op o_add (pv_var 1) (pv_tup (pva_cons (pv_var 0) pva_nil))))))))))
      (pvs_one (pvs_set (i := 2) S.nd rfl (Or.inl rfl) (pv_var 4))))))
      (pvs_one (pvs_ret (pv_var 2)))))
abbrev s__law_letters : Stmt := top 29
theorem k__law_letters {t_MOST_LETTERS : Tok} {t_MOST_LONG : Tok} (h : Has K mg "_law_letters" s__law_letters) (B : Blt mg) (C : Cst K mg t_MOST_LETTERS t_MOST_LONG) : ∀ k : Nat, Callee P w K mg base "_law_letters" (0 + k) ["_law_tree"] (spP K 1 false (F__law_letters k))
  | 0 => callee_bad h (fun _ _ _ _ _ _ us hl => match us, hl with | [_], _ => rfl) rfl
  | k + 1 => by
    have ih := k__law_letters h B C k
    have S : FnScope ["_law_tree"] ["_law_tree"] (defScope s__law_letters) := ⟨rfl, rfl, rfl, by decide +kernel, rfl, by decide +kernel, by decide +kernel⟩
    show Callee P w K mg base "_law_letters" (0 + k + 1) ["_law_tree"] (spP K 1 false (runP false 1 1 (b__law_letters (F__law_letters k))))
    refine Callee.pure (fn_run (List.replicate 1 false) false h S rfl (by decide) (fun _ _ _ _ _ _ us hl => match us, hl with | [_], _ => rfl) fun f cdv A outer s H E hr => ?_)
    have hu := hr.units
    have PO : ∀ {M : Model} {A : Around} {env : Env}, PassesOwn M A env (fun _ _ => False) := PassesOwn.never
    refine pvs_nox ?_
    unfold b__law_letters
    exact (pvs_cons (pvs_if (pvt_val v_tru (pv_isi kit_tuple rfl B.n_isinstance rfl B.n_tuple Bt.tuple (pv_var 0))) (pvs_one (pvs_ret (pv_op o_add (pv_call (ih) hr rfl pass_e0 (pva_cons (pv_ix x_ix (pv_var 0) pv_int) pva_nil) (alen_cons alen_nil) (hj := by omega)) (pv_call (ih) hr rfl pass_e0 (pva_cons (pv_ix x_ix (pv_var 0) pv_int) pva_nil) (alen_cons alen_nil) (hj := by omega))))) pvs_nil)
      (pvs_one (pvs_ret (pv_tup (pva_cons (pv_var 0) pva_nil)))))
abbrev s__law_right : Stmt := top 30
theorem k__law_right {t_MOST_LETTERS : Tok} {t_MOST_LONG : Tok} (h : Has K mg "_law_right" s__law_right) (B : Blt mg) (C : Cst K mg t_MOST_LETTERS t_MOST_LONG) : Callee P w K mg base "_law_right" 1 ["_law_told", "_law_due"] (spF K [true, false] false F__law_right) := by
  have S : FnScope ["_law_told", "_law_due"] ["_law_told", "_law_due"] (defScope s__law_right) := ⟨rfl, rfl, rfl, by decide +kernel, rfl, by decide +kernel, by decide +kernel⟩
  refine (fn_run [true, false] false h S rfl (by decide) (fun _ _ _ _ _ _ us hl => match us, hl with | [_, _], _ => rfl) fun f cdv A outer s H E hr => ?_)
  have hu := hr.units
  have PO : ∀ {M : Model} {A : Around} {env : Env}, PassesOwn M A env (fun _ _ => False) := PassesOwn.never
  refine pvs_nox ?_
  unfold b__law_right q__law_right_0
  exact (pvs_one (pvs_ret (pv_and (pv_isiM 0 kit_list rfl B.n_isinstance rfl B.n_list Bt.list (pv 0)) (pv_and (pv_cmp (o_eq hu) (PVN.pv (pvn_compM 0 ["_law_word"] [] ["_law_word"] (by decide) (pv 0) rfl rfl (by kernel_rfl) rfl (by decide) (fun _ _ _ _ => (pvg_name (i := 0) (nd (M := ["_law_word"]) (by decide +kernel)) rfl (Or.inl rfl))) (by decide) (fun _ _ _ _ => (pvts_one (pvt_not (pvt_val v_tru (pv_isi kit_tuple rfl B.n_isinstance rfl B.n_tuple Bt.tuple (pv_var 0)))))) (fun _ _ _ _ => (pv_var 0)))) (PVN.pv (pvn_lst pva_nil)) (nomark _)) (pv_one (pv_m2c 0 (o_eq hu) (pv 0) (pv_var 1) (nomark _)))))))
abbrev s_is_word : Stmt := top 9
theorem k_is_word {t_MOST_LETTERS : Tok} {t_MOST_LONG : Tok} (h : Has K mg "is_word" s_is_word) (B : Blt mg) (C : Cst K mg t_MOST_LETTERS t_MOST_LONG) (c_is_whole : Callee P w K mg base "is_whole" 1 ["one"] (spP K 1 false F_is_whole)) : Callee P w K mg base "is_word" 2 ["word", "count"] (spP K 2 false F_is_word) := by
  have S : FnScope ["word", "count"] ["word", "count"] (defScope s_is_word) := ⟨rfl, rfl, rfl, by decide +kernel, rfl, by decide +kernel, by decide +kernel⟩
  refine Callee.pure (fn_run (List.replicate 2 false) false h S rfl (by decide) (fun _ _ _ _ _ _ us hl => match us, hl with | [_, _], _ => rfl) fun f cdv A outer s H E hr => ?_)
  have hu := hr.units
  have PO : ∀ {M : Model} {A : Around} {env : Env}, PassesOwn M A env (fun _ _ => False) := PassesOwn.never
  refine pvs_nox ?_
  unfold b_is_word q_is_word_0
  exact (pvs_cons (pvs_if (PVW.pvt (pvw_or (pvt_not (pvt_val v_tru (pv_isi kit_tuple rfl B.n_isinstance rfl B.n_tuple Bt.tuple (pv_var 0)))) (pvw_or1 (pvt_cmp (o_gt hu) (pv_one1 (pv_callB (CallD.ds c_len) rfl B.n_len Bt.len (pva_cons (pv_var 0) pva_nil))) (pv_glob (v := (.int 5)) rfl C.m_MOST_LONG ⟨_, rfl⟩ (fun _ => fz_int _)) (nomark _))))) (pvs_one (pvs_ret pv_bl)) pvs_nil)
      (pvs_one (pvs_ret (pv_one1 (pv_callB (CallD.ds (c_all rfl)) rfl B.n_all Bt.all (pva_cons (PVN.pv (pvn_comp ["one"] [1] ["one", "count"] rfl rfl (by kernel_rfl) rfl (by decide) (pvi_seq (pv_var 0)) (fun _ _ _ _ => (pvg_name (i := 0) (nd (M := ["one", "count"]) (by decide +kernel)) rfl (Or.inl rfl))) (by decide) (fun _ _ _ _ => pvts_nil) (fun _ _ _ _ => (pv_and (pv_call c_is_whole hr rfl pass_e0 (pva_cons (pv_var 0) pva_nil) (alen_cons alen_nil)) (pv_one (pv_chain (o_le hu) (o_lt hu) pv_int (pv_var 0) (pv_var 1))))))) pva_nil))))))
abbrev s_refuse_letters : Stmt := top 12
theorem k_refuse_letters {t_MOST_LETTERS : Tok} {t_MOST_LONG : Tok} (h : Has K mg "refuse_letters" s_refuse_letters) (B : Blt mg) (C : Cst K mg t_MOST_LETTERS t_MOST_LONG) (c_is_whole : Callee P w K mg base "is_whole" 1 ["one"] (spP K 1 false F_is_whole)) : Callee P w K mg base "refuse_letters" 2 ["count"] (spP K 1 false F_refuse_letters) := by
  have S : FnScope ["count"] ["count"] (defScope s_refuse_letters) := ⟨rfl, rfl, rfl, by decide +kernel, rfl, by decide +kernel, by decide +kernel⟩
  refine Callee.pure (fn_run (List.replicate 1 false) false h S rfl (by decide) (fun _ _ _ _ _ _ us hl => match us, hl with | [_], _ => rfl) fun f cdv A outer s H E hr => ?_)
  have hu := hr.units
  have PO : ∀ {M : Model} {A : Around} {env : Env}, PassesOwn M A env (fun _ _ => False) := PassesOwn.never
  refine pvs_nox ?_
  unfold b_refuse_letters
  exact (pvs_one (pvs_if (PVW.pvt (pvw_or (pvt_not (pvt_val v_tru (pv_call c_is_whole hr rfl pass_e0 (pva_cons (pv_var 0) pva_nil) (alen_cons alen_nil)))) (pvw_or1 (pvt_not (pvt_chain (o_le hu) (o_le hu) pv_int (pv_var 0) (pv_glob (v := (.int 4)) rfl C.m_MOST_LETTERS ⟨_, rfl⟩ (fun _ => fz_int _))))))) (pvs_one pvs_never) pvs_nil))
abbrev s_fallen_words : Stmt := top 18
theorem k_fallen_words {t_MOST_LETTERS : Tok} {t_MOST_LONG : Tok} (h : Has K mg "fallen_words" s_fallen_words) (B : Blt mg) (C : Cst K mg t_MOST_LETTERS t_MOST_LONG) (c_is_least : Callee P w K mg base "is_least" 1 ["word"] (spP K 1 false F_is_least)) : Callee P w K mg base "fallen_words" 2 ["word"] (spP K 1 true F_fallen_words) := by
  have S : FnScope ["word", "found", "most"] ["word"] (defScope s_fallen_words) := ⟨rfl, rfl, rfl, by decide +kernel, rfl, by decide +kernel, by decide +kernel⟩
  refine Callee.pure (fn_run (List.replicate 1 false) true h S rfl (by decide) (fun _ _ _ _ _ _ us hl => match us, hl with | [_], _ => rfl) fun f cdv A outer s H E hr => ?_)
  have hu := hr.units
  have PO : ∀ {M : Model} {A : Around} {env : Env}, PassesOwn M A env (fun _ _ => False) := PassesOwn.never
  refine pvs_nox ?_
  unfold b_fallen_words w_fallen_words_0 q_fallen_words_0
  exact (pvs_cons (pvs_own (i := 1) S.nd rfl (Or.inl rfl) (pvn_lst pva_nil))
      (pvs_cons (pvs_while (fun _ => 10) PO (pvt_val v_tru (pv_var 0)) (pvs_cons (pvs_set (i := 2) S.nd rfl (Or.inl rfl) (pv_one1 (pv_callB (CallD.ds (c_max rfl)) rfl B.n_max Bt.max (pva_cons (PVN.pv (pvn_comp ["many"] [0] ["many", "word"] rfl rfl (by kernel_rfl) rfl (by decide) (pvi_range2 rfl B.n_range (pva_cons pv_int (pva_cons (pv_op o_add (pv_one1 (pv_callB (CallD.ds c_len) rfl B.n_len Bt.len (pva_cons (pv_var 0) pva_nil))) pv_int) pva_nil))) (fun _ _ _ _ => (pvg_name (i := 0) (nd (M := ["many", "word"]) (by decide +kernel)) rfl (Or.inl rfl))) (by decide) (fun _ _ _ _ => (pvts_one (pvt_val v_tru (pv_call c_is_least hr rfl pass_e0 (pva_cons (pv_slice s_cut (pv_var 1) pvo_none (pvo_some (pv_var 0))) pva_nil) (alen_cons alen_nil))))) (fun _ _ _ _ => (pv_var 0)))) pva_nil))))
      (pvs_cons (pvs_append 1 rfl (pv 1) (pv_slice s_cut (pv_var 0) pvo_none (pvo_some (pv_var 2))))
      (pvs_one (pvs_set (i := 0) S.nd rfl (Or.inr rfl) (pv_slice s_cut (pv_var 0) (pvo_some (pv_var 2)) pvo_none))))))
      (pvs_one (pvs_retM 1 (pv 1)))))
abbrev s_tree_of_least : Stmt := top 20
theorem k_tree_of_least {t_MOST_LETTERS : Tok} {t_MOST_LONG : Tok} (h : Has K mg "tree_of_least" s_tree_of_least) (B : Blt mg) (C : Cst K mg t_MOST_LETTERS t_MOST_LONG) (c_is_least : Callee P w K mg base "is_least" 1 ["word"] (spP K 1 false F_is_least)) : ∀ k : Nat, Callee P w K mg base "tree_of_least" (1 + k) ["word"] (spP K 1 false (F_tree_of_least k))
  | 0 => callee_bad h (fun _ _ _ _ _ _ us hl => match us, hl with | [_], _ => rfl) rfl
  | k + 1 => by
    have ih := k_tree_of_least h B C c_is_least k
    have S : FnScope ["word", "ahead"] ["word"] (defScope s_tree_of_least) := ⟨rfl, rfl, rfl, by decide +kernel, rfl, by decide +kernel, by decide +kernel⟩
    show Callee P w K mg base "tree_of_least" (1 + k + 1) ["word"] (spP K 1 false (runP false 1 2 (b_tree_of_least (F_tree_of_least k))))
    refine Callee.pure (fn_run (List.replicate 1 false) false h S rfl (by decide) (fun _ _ _ _ _ _ us hl => match us, hl with | [_], _ => rfl) fun f cdv A outer s H E hr => ?_)
    have hu := hr.units
    have PO : ∀ {M : Model} {A : Around} {env : Env}, PassesOwn M A env (fun _ _ => False) := PassesOwn.never
    refine pvs_nox ?_
    unfold b_tree_of_least q_tree_of_least_0
    exact (pvs_cons (pvs_if (pvt_cmp (o_eq hu) (pv_one1 (pv_callB (CallD.ds c_len) rfl B.n_len Bt.len (pva_cons (pv_var 0) pva_nil))) pv_int (nomark _)) (pvs_one (pvs_ret (pv_ix x_ix (pv_var 0) pv_int))) pvs_nil)
      (pvs_cons (pvs_set (i := 1) S.nd rfl (Or.inl rfl) (pv_one1 (pv_callB (CallD.ds (c_min rfl)) rfl B.n_min Bt.min (pva_cons (PVN.pv (pvn_comp ["many"] [0] ["many", "word"] rfl rfl (by kernel_rfl) rfl (by decide) (pvi_range2 rfl B.n_range (pva_cons pv_int (pva_cons (pv_one1 (pv_callB (CallD.ds c_len) rfl B.n_len Bt.len (pva_cons (pv_var 0) pva_nil))) pva_nil))) (fun _ _ _ _ => (pvg_name (i := 0) (nd (M := ["many", "word"]) (by decide +kernel)) rfl (Or.inl rfl))) (by decide) (fun _ _ _ _ => (pvts_one (pvt_val v_tru (pv_call c_is_least hr rfl pass_e0 (pva_cons (pv_slice s_cut (pv_var 1) (pvo_some (pv_var 0)) pvo_none) pva_nil) (alen_cons alen_nil) (hj := by omega))))) (fun _ _ _ _ => (pv_var 0)))) pva_nil))))
      (pvs_one (pvs_ret (pv_tup (pva_cons (pv_call (ih) hr rfl pass_e0 (pva_cons (pv_slice s_cut (pv_var 0) pvo_none (pvo_some (pv_var 1))) pva_nil) (alen_cons alen_nil) (hj := by omega)) (pva_cons (pv_call (ih) hr rfl pass_e0 (pva_cons (pv_slice s_cut (pv_var 0) (pvo_some (pv_var 1)) pvo_none) pva_nil) (alen_cons alen_nil) (hj := by omega)) pva_nil)))))))
abbrev s__law_purse : Stmt := top 24
theorem k__law_purse {t_MOST_LETTERS : Tok} {t_MOST_LONG : Tok} (h : Has K mg "_law_purse" s__law_purse) (B : Blt mg) (C : Cst K mg t_MOST_LETTERS t_MOST_LONG) (c__law_mixed : Callee P w K mg base "_law_mixed" 1 ["_law_cell", "_law_k"] (spP K 2 false F__law_mixed)) : Callee P w K mg base "_law_purse" 2 ["_law_cell", "_law_k"] (spP K 2 true F__law_purse) := by
  have S : FnScope ["_law_cell", "_law_k"] ["_law_cell", "_law_k"] (defScope s__law_purse) := ⟨rfl, rfl, rfl, by decide +kernel, rfl, by decide +kernel, by decide +kernel⟩
  refine Callee.pure (fn_run (List.replicate 2 false) true h S rfl (by decide) (fun _ _ _ _ _ _ us hl => match us, hl with | [_, _], _ => rfl) fun f cdv A outer s H E hr => ?_)
  have hu := hr.units
  have PO : ∀ {M : Model} {A : Around} {env : Env}, PassesOwn M A env (fun _ _ => False) := PassesOwn.never
  refine pvs_nox ?_
  unfold b__law_purse
  exact (pvs_cons (pvs_if (pvt_cmp (o_ge hu) (pv_var 0) (pv_op o_pow pv_int pv_int) (nomark _)) (pvs_one (pvs_retF (pvn_lst (pva_cons (pv_op o_sub (pv_var 0) (pv_op o_pow pv_int pv_int)) (pva_cons pv_int (pva_cons (pv_var 1) pva_nil)))))) pvs_nil)
      (pvs_one (pvs_retF (pvn_lst (pva_cons (pv_call c__law_mixed hr rfl pass_e0 (pva_cons (pv_var 0) (pva_cons (pv_var 1) pva_nil)) (alen_cons (alen_cons alen_nil))) (pva_cons pv_int (pva_cons (pv_op o_add (pv_op o_mod (pv_var 0) (pv_op o_add (pv_op o_pow pv_int pv_int) pv_int)) (pv_var 1)) pva_nil)))))))
abbrev s__law_take : Stmt := top 25
theorem k__law_take {t_MOST_LETTERS : Tok} {t_MOST_LONG : Tok} (h : Has K mg "_law_take" s__law_take) (B : Blt mg) (C : Cst K mg t_MOST_LETTERS t_MOST_LONG) (c__law_mixed : Callee P w K mg base "_law_mixed" 1 ["_law_cell", "_law_k"] (spP K 2 false F__law_mixed)) : Callee P w K mg base "_law_take" 2 ["_law_purse_here", "_law_many"] (spF K [true, false] false F__law_take) := by
  have S : FnScope ["_law_purse_here", "_law_many", "_law_got"] ["_law_purse_here", "_law_many"] (defScope s__law_take) := ⟨rfl, rfl, rfl, by decide +kernel, rfl, by decide +kernel, by decide +kernel⟩
  refine (fn_run [true, false] false h S rfl (by decide) (fun _ _ _ _ _ _ us hl => match us, hl with | [_, _], _ => rfl) fun f cdv A outer s H E hr => ?_)
  have hu := hr.units
  have PO : ∀ {M : Model} {A : Around} {env : Env}, PassesOwn M A env (fun _ _ => False) := PassesOwn.never
  refine pvs_nox ?_
  unfold b__law_take
  exact (pvs_cons (pvs_if (pvt_cmp (o_lt hu) (pv_m2x 0 x_ix (pv 0) pv_int) (pv_var 1) (nomark _)) (pvs_cons (pvs_setM 0 (pv 0) (pv_op o_add (pv_m2x 0 x_ix (pv 0) pv_int) pv_int) pv_int)
      (pvs_one (pvs_setM 0 (pv 0) (pv_op o_add (pv_m2x 0 x_ix (pv 0) pv_int) (pv_op o_mul (pv_var 1) (pv_call c__law_mixed hr rfl pass_e0 (pva_cons (pv_m2x 0 x_ix (pv 0) pv_int) (pva_cons (pv_op o_add (pv_op o_mul pv_int (pv_m2x 0 x_ix (pv 0) pv_int)) pv_int) pva_nil)) (alen_cons (alen_cons alen_nil))))) pv_int))) pvs_nil)
      (pvs_cons (pvs_set (i := 2) S.nd rfl (Or.inl rfl) (pv_op o_mod (pv_m2x 0 x_ix (pv 0) pv_int) (pv_var 1)))
      (pvs_cons (pvs_setM 0 (pv 0) (pv_op o_fdiv (pv_m2x 0 x_ix (pv 0) pv_int) (pv_var 1)) pv_int)
      (pvs_one (pvs_ret (pv_var 2))))))
abbrev s_refuse_word : Stmt := top 16
theorem k_refuse_word {t_MOST_LETTERS : Tok} {t_MOST_LONG : Tok} (h : Has K mg "refuse_word" s_refuse_word) (B : Blt mg) (C : Cst K mg t_MOST_LETTERS t_MOST_LONG) (c_is_word : Callee P w K mg base "is_word" 2 ["word", "count"] (spP K 2 false F_is_word)) : Callee P w K mg base "refuse_word" 3 ["word"] (spP K 1 false F_refuse_word) := by
  have S : FnScope ["word"] ["word"] (defScope s_refuse_word) := ⟨rfl, rfl, rfl, by decide +kernel, rfl, by decide +kernel, by decide +kernel⟩
  refine Callee.pure (fn_run (List.replicate 1 false) false h S rfl (by decide) (fun _ _ _ _ _ _ us hl => match us, hl with | [_], _ => rfl) fun f cdv A outer s H E hr => ?_)
  have hu := hr.units
  have PO : ∀ {M : Model} {A : Around} {env : Env}, PassesOwn M A env (fun _ _ => False) := PassesOwn.never
  refine pvs_nox ?_
  unfold b_refuse_word
  exact (pvs_one (pvs_if (pvt_not (pvt_val v_tru (pv_call c_is_word hr rfl pass_e0 (pva_cons (pv_var 0) (pva_cons (pv_glob (v := (.int 4)) rfl C.m_MOST_LETTERS ⟨_, rfl⟩ (fun _ => fz_int _)) pva_nil)) (alen_cons (alen_cons alen_nil))))) (pvs_one pvs_never) pvs_nil))
abbrev s_least_words : Stmt := top 17
theorem k_least_words {t_MOST_LETTERS : Tok} {t_MOST_LONG : Tok} (h : Has K mg "least_words" s_least_words) (B : Blt mg) (C : Cst K mg t_MOST_LETTERS t_MOST_LONG) (c_refuse_letters : Callee P w K mg base "refuse_letters" 2 ["count"] (spP K 1 false F_refuse_letters)) (c_is_whole : Callee P w K mg base "is_whole" 1 ["one"] (spP K 1 false F_is_whole)) (c_all_words : Callee P w K mg base "all_words" 1 ["count", "length"] (spP K 2 false F_all_words)) (c_is_least : Callee P w K mg base "is_least" 1 ["word"] (spP K 1 false F_is_least)) : Callee P w K mg base "least_words" 3 ["count", "length"] (spP K 2 true F_least_words) := by
  have S : FnScope ["count", "length"] ["count", "length"] (defScope s_least_words) := ⟨rfl, rfl, rfl, by decide +kernel, rfl, by decide +kernel, by decide +kernel⟩
  refine Callee.pure (fn_run (List.replicate 2 false) true h S rfl (by decide) (fun _ _ _ _ _ _ us hl => match us, hl with | [_, _], _ => rfl) fun f cdv A outer s H E hr => ?_)
  have hu := hr.units
  have PO : ∀ {M : Model} {A : Around} {env : Env}, PassesOwn M A env (fun _ _ => False) := PassesOwn.never
  refine pvs_nox ?_
  unfold b_least_words q_least_words_0
  exact (pvs_cons (pvs_expr (pv_call c_refuse_letters hr rfl pass_e0 (pva_cons (pv_var 0) pva_nil) (alen_cons alen_nil)))
      (pvs_cons (pvs_if (PVW.pvt (pvw_or (pvt_not (pvt_val v_tru (pv_call c_is_whole hr rfl pass_e0 (pva_cons (pv_var 1) pva_nil) (alen_cons alen_nil)))) (pvw_or1 (pvt_not (pvt_chain (o_le hu) (o_le hu) pv_int (pv_var 1) (pv_glob (v := (.int 5)) rfl C.m_MOST_LONG ⟨_, rfl⟩ (fun _ => fz_int _))))))) (pvs_one pvs_never) pvs_nil)
      (pvs_one (pvs_retF (pvn_comp ["word"] [] ["word"] rfl rfl (by kernel_rfl) rfl (by decide) (pvi_seq (pv_call c_all_words hr rfl pass_e0 (pva_cons (pv_var 0) (pva_cons (pv_var 1) pva_nil)) (alen_cons (alen_cons alen_nil)))) (fun _ _ _ _ => (pvg_name (i := 0) (nd (M := ["word"]) (by decide +kernel)) rfl (Or.inl rfl))) (by decide) (fun _ _ _ _ => (pvts_one (pvt_val v_tru (pv_call c_is_least hr rfl pass_e0 (pva_cons (pv_var 0) pva_nil) (alen_cons alen_nil))))) (fun _ _ _ _ => (pv_var 0)))))))
abbrev s_fallen : Stmt := top 19
theorem k_fallen {t_MOST_LETTERS : Tok} {t_MOST_LONG : Tok} (h : Has K mg "fallen" s_fallen) (B : Blt mg) (C : Cst K mg t_MOST_LETTERS t_MOST_LONG) (c_refuse_word : Callee P w K mg base "refuse_word" 3 ["word"] (spP K 1 false F_refuse_word)) (c_fallen_words : Callee P w K mg base "fallen_words" 2 ["word"] (spP K 1 true F_fallen_words)) : Callee P w K mg base "fallen" 4 ["word"] (spP K 1 true F_fallen) := by
  have S : FnScope ["word"] ["word"] (defScope s_fallen) := ⟨rfl, rfl, rfl, by decide +kernel, rfl, by decide +kernel, by decide +kernel⟩
  refine Callee.pure (fn_run (List.replicate 1 false) true h S rfl (by decide) (fun _ _ _ _ _ _ us hl => match us, hl with | [_], _ => rfl) fun f cdv A outer s H E hr => ?_)
  have hu := hr.units
  have PO : ∀ {M : Model} {A : Around} {env : Env}, PassesOwn M A env (fun _ _ => False) := PassesOwn.never
  refine pvs_nox ?_
  unfold b_fallen
  exact (pvs_cons (pvs_expr (pv_call c_refuse_word hr rfl pass_e0 (pva_cons (pv_var 0) pva_nil) (alen_cons alen_nil)))
      (pvs_one (pvs_retF (pvn_call c_fallen_words hr rfl pass_e0 (pva_cons (pv_var 0) pva_nil) (alen_cons alen_nil)))))
abbrev s_least_tree : Stmt := top 21
theorem k_least_tree {t_MOST_LETTERS : Tok} {t_MOST_LONG : Tok} (h : Has K mg "least_tree" s_least_tree) (B : Blt mg) (C : Cst K mg t_MOST_LETTERS t_MOST_LONG) (c_refuse_word : Callee P w K mg base "refuse_word" 3 ["word"] (spP K 1 false F_refuse_word)) (c_tree_of_least : Callee P w K mg base "tree_of_least" 7 ["word"] (spP K 1 false (F_tree_of_least 6))) (c_is_least : Callee P w K mg base "is_least" 1 ["word"] (spP K 1 false F_is_least)) : Callee P w K mg base "least_tree" 9 ["word"] (spP K 1 false F_least_tree) := by
  have S : FnScope ["word"] ["word"] (defScope s_least_tree) := ⟨rfl, rfl, rfl, by decide +kernel, rfl, by decide +kernel, by decide +kernel⟩
  refine Callee.pure (fn_run (List.replicate 1 false) false h S rfl (by decide) (fun _ _ _ _ _ _ us hl => match us, hl with | [_], _ => rfl) fun f cdv A outer s H E hr => ?_)
  have hu := hr.units
  have PO : ∀ {M : Model} {A : Around} {env : Env}, PassesOwn M A env (fun _ _ => False) := PassesOwn.never
  refine pvs_nox ?_
  unfold b_least_tree
  exact (pvs_cons (pvs_expr (pv_call c_refuse_word hr rfl pass_e0 (pva_cons (pv_var 0) pva_nil) (alen_cons alen_nil)))
      (pvs_cons (pvs_if (pvt_not (pvt_val v_tru (pv_call c_is_least hr rfl pass_e0 (pva_cons (pv_var 0) pva_nil) (alen_cons alen_nil)))) (pvs_one pvs_never) pvs_nil)
      (pvs_one (pvs_ret (pv_call (c_tree_of_least) hr rfl pass_e0 (pva_cons (pv_var 0) pva_nil) (alen_cons alen_nil))))))
abbrev s_law : Stmt := top 31
theorem k_law {fa : Addr} {fd : FuncData} {t_MOST_LETTERS : Tok} {t_MOST_LONG : Tok} (h : Fun K "law" "law" s_law fa fd) (B : Blt mg) (C : Cst K mg t_MOST_LETTERS t_MOST_LONG) (c__law_purse : Callee P w K mg base "_law_purse" 2 ["_law_cell", "_law_k"] (spP K 2 true F__law_purse)) (c_least_words : Callee P w K mg base "least_words" 3 ["count", "length"] (spP K 2 true F_least_words)) (c__law_at : Callee P w K mg base "_law_at" 1 ["_law_script", "_law_k"] (spP K 2 false F__law_at)) (c__law_right : Callee P w K mg base "_law_right" 1 ["_law_told", "_law_due"] (spF K [true, false] false F__law_right)) (c__law_take : Callee P w K mg base "_law_take" 2 ["_law_purse_here", "_law_many"] (spF K [true, false] false F__law_take)) (c__law_words : Callee P w K mg base "_law_words" 1 ["_law_count", "_law_length"] (spP K 2 false F__law_words)) (c__law_is_least : Callee P w K mg base "_law_is_least" 1 ["_law_word"] (spP K 1 false F__law_is_least)) (c_fallen : Callee P w K mg base "fallen" 4 ["word"] (spP K 1 true F_fallen)) (c__law_letters : Callee P w K mg base "_law_letters" 6 ["_law_tree"] (spP K 1 false (F__law_letters 6))) (c_least_tree : Callee P w K mg base "least_tree" 9 ["word"] (spP K 1 false F_least_tree)) : FnOk P w K mg base (CXe P w) 10 fa fd ["_law_script"] (spP K 1 false F_law) := by
  have S : FnScope ["_law_script", "_law_cell", "_law_purse_here", "_law_asked", "_law_turn", "_law_count", "_law_dues", "_law_first", "_law_second", "_law_word"] ["_law_script"] (defScope s_law) := ⟨rfl, rfl, rfl, by decide +kernel, rfl, by decide +kernel, by decide +kernel⟩
  refine FnOk.pure (fn_runF (List.replicate 1 false) false h S rfl (by decide) fun cdv A outer s H E hr => ?_)
  have hu := hr.units
  have PO : ∀ {M : Model} {A : Around} {env : Env}, PassesOwn M A env (fun _ _ => False) := PassesOwn.never
  refine pvs_nox ?_
  unfold b_law w_law_2 u_law_2 w_law_1 u_law_1 q_law_1 q_law_0 w_law_0 u_law_0
  exact (pvs_cons (pvs_for PO rfl (pvi_seq (pv_op o_add (pv_slice s_cut (pv_var 0) pvo_none (pvo_some pv_int)) (PVN.pv (pvn_lst (pva_cons (pv_call c__law_at hr rfl pass_e0 (pva_cons (pv_var 0) (pva_cons pv_int pva_nil)) (alen_cons (alen_cons alen_nil))) pva_nil))))) (pvg_name (i := 1) S.nd rfl (Or.inl rfl)) (pvs_cons (pvs_own (i := 2) S.nd rfl (Or.inl rfl) (pvn_call c__law_purse hr rfl pass_e0 (pva_cons (pv_var 1) (pva_cons pv_int pva_nil)) (alen_cons (alen_cons alen_nil))))
      (pvs_cons (pvs_own (i := 3) S.nd rfl (Or.inl rfl) (pvn_lst pva_nil))
      (pvs_cons (pvs_for PO rfl (pvi_range1 rfl B.n_range (pva_cons pv_int pva_nil)) (pvg_name (i := 4) S.nd rfl (Or.inl rfl)) (pvs_cons (pvs_set (i := 5) S.nd rfl (Or.inl rfl) (pv_op o_add pv_int (pv_callM (a := [.m 2, .v (eC (.int 4))]) c__law_take olen_run (by decide) (by decide) hr rfl pass_e0 (pvar_m 2 (pv 2) (pvar_v pv_int pvar_nil)))))
      (pvs_one (pvs_append 3 rfl (pv 3) (pv_tup (pva_cons (pv_var 5) (pva_cons (pv_op o_add pv_int (pv_callM (a := [.m 2, .v (eC (.int 5))]) c__law_take olen_run (by decide) (by decide) hr rfl pass_e0 (pvar_m 2 (pv 2) (pvar_v pv_int pvar_nil)))) pva_nil)))))))
      (pvs_cons (pvs_frz 3 (pvs_then 6 (pvs_ownC 6 ["_law_count", "_law_length"] [] ["_law_count", "_law_length"] S.nd rfl rfl rfl rfl rfl (by kernel_rfl) rfl (by decide) (pvi_seq (pv_var 3)) (fun _ _ _ _ => (pvg_tup rfl (pvgs_cons (pvg_name (i := 0) (nd (M := ["_law_count", "_law_length"]) (by decide +kernel)) rfl (Or.inl rfl)) (pvgs_cons (pvg_name (i := 1) (nd (M := ["_law_count", "_law_length"]) (by decide +kernel)) rfl (Or.inl rfl)) pvgs_nil)))) (by decide) (fun _ _ _ _ => pvts_nil) (fun _ _ _ _ => (PVN.pv (pvn_comp ["_law_word"] [] ["_law_word"] rfl rfl (by kernel_rfl) rfl (by decide) (pvi_seq (pv_call c__law_words hr rfl pass_e0 (pva_cons (pv_var 0) (pva_cons (pv_var 1) pva_nil)) (alen_cons (alen_cons alen_nil)))) (fun _ _ _ _ => (pvg_name (i := 0) (nd (M := ["_law_word"]) (by decide +kernel)) rfl (Or.inl rfl))) (by decide) (fun _ _ _ _ => (pvts_one (pvt_val v_tru (pv_call c__law_is_least hr rfl pass_e0 (pva_cons (pv_var 0) pva_nil) (alen_cons alen_nil))))) (fun _ _ _ _ => (pv_var 0))))))))
      (pvs_cons (pvs_own (i := 7) S.nd rfl (Or.inl rfl) (pvn_call c_least_words hr rfl pass_e0 (pva_cons (pv_ix x_ix (pv_ix x_ix (pv_var 3) pv_int) pv_int) (pva_cons (pv_ix x_ix (pv_ix x_ix (pv_var 3) pv_int) pv_int) pva_nil)) (alen_cons (alen_cons alen_nil))))
      (pvs_cons (pvs_own (i := 8) S.nd rfl (Or.inl rfl) (pvn_call c_least_words hr rfl pass_e0 (pva_cons (pv_ix x_ix (pv_ix x_ix (pv_var 3) pv_int) pv_int) (pva_cons (pv_ix x_ix (pv_ix x_ix (pv_var 3) pv_int) pv_int) pva_nil)) (alen_cons (alen_cons alen_nil))))
      (pvs_cons (pvs_if (PVW.pvt (pvw_or (pvt_not (pvt_val v_tru (pv_callM (a := [.m 7, .v (e2 ixD (eV 6) (eC (.int 0)))]) c__law_right olen_run (by decide) (by decide) hr rfl pass_e0 (pvar_m 7 (pv 7) (pvar_v (pv_ix x_ix (pv_var 6) pv_int) pvar_nil))))) (pvw_or1 (pvt_not (pvt_val v_tru (pv_callM (a := [.m 8, .v (e2 ixD (eV 6) (eC (.int 1)))]) c__law_right olen_run (by decide) (by decide) hr rfl pass_e0 (pvar_m 8 (pv 8) (pvar_v (pv_ix x_ix (pv_var 6) pv_int) pvar_nil)))))))) (pvs_one (pvs_ret pv_bl)) pvs_nil)
      (pvs_cons (pvs_append 7 rfl (pv 7) (pv_tup pva_nil))
      (pvs_cons (pvs_rev 8 rfl (pv 8))
      (pvs_cons (pvs_if (pvt_not (pvt_val v_tru (pv_callM (a := [.t (eCall F_least_words (aCons (e2 ixD (e2 ixD (eV 3) (eC (.int 0))) (eC (.int 0))) (aCons (e2 ixD (e2 ixD (eV 3) (eC (.int 0))) (eC (.int 1))) aNil))), .v (e2 ixD (eV 6) (eC (.int 0)))]) c__law_right olen_run (by decide) (by decide) hr rfl pass_e0 (pvar_t (pvn_call c_least_words hr rfl pass_e0 (pva_cons (pv_ix x_ix (pv_ix x_ix (pv_var 3) pv_int) pv_int) (pva_cons (pv_ix x_ix (pv_ix x_ix (pv_var 3) pv_int) pv_int) pva_nil)) (alen_cons (alen_cons alen_nil))) (pvar_v (pv_ix x_ix (pv_var 6) pv_int) pvar_nil))))) (pvs_one (pvs_ret pv_bl)) pvs_nil)
      (pvs_one (pvs_for PO rfl (pvi_seq (pv_slice s_cut (pv_slice s_cut (pv_ix x_ix (pv_var 6) pv_int) (pvo_some (pv_callM (a := [.m 2, .v (e2 addD (e1 lenD (e2 ixD (eV 6) (eC (.int 0)))) (eC (.int 1)))]) c__law_take olen_run (by decide) (by decide) hr rfl pass_e0 (pvar_m 2 (pv 2) (pvar_v (pv_op o_add (pv_one1 (pv_callB (CallD.ds c_len) rfl B.n_len Bt.len (pva_cons (pv_ix x_ix (pv_var 6) pv_int) pva_nil))) pv_int) pvar_nil)))) pvo_none) pvo_none (pvo_some pv_int))) (pvg_name (i := 9) S.nd rfl (Or.inl rfl)) (pvs_one (pvs_if (PVW.pvt (pvw_or (pvt_cmp (o_ne hu) (PVN.pv (pvn_call c_fallen hr rfl pass_e0 (pva_cons (pv_var 9) pva_nil) (alen_cons alen_nil))) (PVN.pv (pvn_lst (pva_cons (pv_var 9) pva_nil))) (nomark _)) (pvw_or1 (pvt_cmp (o_ne hu) (pv_call (c__law_letters) hr rfl pass_e0 (pva_cons (pv_call c_least_tree hr rfl pass_e0 (pva_cons (pv_var 9) pva_nil) (alen_cons alen_nil)) pva_nil) (alen_cons alen_nil)) (pv_var 9) (nomark _))))) (pvs_one (pvs_ret pv_bl)) pvs_nil)))))))))))))))
      (pvs_one (pvs_ret pv_bl)))
end
end K52
set_option Elab.async false
set_option linter.all false
set_option maxRecDepth 100000
set_option maxHeartbeats 4000000
namespace K52
open PySem L2 PySem.Spec FL
open PyProof.Rows hiding St
theorem all_mk {l : PySem.W.OpenLaw} {w : World} {K : PySem.W.Frag} {h : Heap} {mg : Str → Option Value} {fa : Addr} (X : K.In h) (G : h.Ns mainGlobals mg) (hfa : mg "law" = some (.ref fa))
    {f_is_whole f_all_words f_is_least f__law_mixed f__law_at f__law_is_least f__law_words f__law_letters f__law_right f_is_word f_refuse_letters f_fallen_words f_tree_of_least f__law_purse f__law_take f_refuse_word f_least_words f_fallen f_least_tree f_law : Addr}
    {t_MOST_LETTERS : Tok} {t_MOST_LONG : Tok}
    {od_is_whole od_all_words od_is_least od__law_mixed od__law_at od__law_is_least od__law_words od__law_letters od__law_right od_is_word od_refuse_letters od_fallen_words od_tree_of_least od__law_purse od__law_take od_refuse_word od_least_words od_fallen od_least_tree od_law : Option Addr}
    {an_is_whole an_all_words an_is_least an__law_mixed an__law_at an__law_is_least an__law_words an__law_letters an__law_right an_is_word an_refuse_letters an_fallen_words an_tree_of_least an__law_purse an__law_take an_refuse_word an_least_words an_fallen an_least_tree an_law : Option Addr}
    {sl_is_whole sl_all_words sl_is_least sl__law_mixed sl__law_at sl__law_is_least sl__law_words sl__law_letters sl__law_right sl_is_word sl_refuse_letters sl_fallen_words sl_tree_of_least sl__law_purse sl__law_take sl_refuse_word sl_least_words sl_fallen sl_least_tree sl_law : Array (Option Value)}
    {oc_is_whole oc_all_words oc_is_least oc__law_mixed oc__law_at oc__law_is_least oc__law_words oc__law_letters oc__law_right oc_is_word oc_refuse_letters oc_fallen_words oc_tree_of_least oc__law_purse oc__law_take oc_refuse_word oc_least_words oc_fallen oc_least_tree oc_law : Value}
    {kV_is_whole kV_all_words kV_is_least kV__law_mixed kV__law_at kV__law_is_least kV__law_words kV__law_letters kV__law_right kV_is_word kV_refuse_letters kV_fallen_words kV_tree_of_least kV__law_purse kV__law_take kV_refuse_word kV_least_words kV_fallen kV_least_tree kV_law : Value}
    {dc_is_whole dc_all_words dc_is_least dc__law_mixed dc__law_at dc__law_is_least dc__law_words dc__law_letters dc__law_right dc_is_word dc_refuse_letters dc_fallen_words dc_tree_of_least dc__law_purse dc__law_take dc_refuse_word dc_least_words dc_fallen dc_least_tree dc_law : Value}
    {pm_is_whole pm_all_words pm_is_least pm__law_mixed pm__law_at pm__law_is_least pm__law_words pm__law_letters pm__law_right pm_is_word pm_refuse_letters pm_fallen_words pm_tree_of_least pm__law_purse pm__law_take pm_refuse_word pm_least_words pm_fallen pm_least_tree pm_law : Value}
    {cd_is_whole cd_all_words cd_is_least cd__law_mixed cd__law_at cd__law_is_least cd__law_words cd__law_letters cd__law_right cd_is_word cd_refuse_letters cd_fallen_words cd_tree_of_least cd__law_purse cd__law_take cd_refuse_word cd_least_words cd_fallen cd_least_tree cd_law : Value}
    {ct_is_whole ct_all_words ct_is_least ct__law_mixed ct__law_at ct__law_is_least ct__law_words ct__law_letters ct__law_right ct_is_word ct_refuse_letters ct_fallen_words ct_tree_of_least ct__law_purse ct__law_take ct_refuse_word ct_least_words ct_fallen ct_least_tree ct_law : Value}
    (q_is_whole : PySem.W.nsIn K mainGlobals "is_whole" = some (some (.ref f_is_whole)))
    (l_is_whole : K.lookup f_is_whole = some ⟨oc_is_whole, od_is_whole, .func (PySem.W.fnOf "is_whole" "is_whole" (defArgs s_is_whole) (defBody s_is_whole) (defScope s_is_whole) .none kV_is_whole dc_is_whole pm_is_whole an_is_whole cd_is_whole ct_is_whole), sl_is_whole⟩)
    (c_is_whole : PySem.W.codeIn K cd_is_whole "is_whole" = true)
    (kp_is_whole : PySem.W.keepIn K (.ref f_is_whole) = true)
    (q_all_words : PySem.W.nsIn K mainGlobals "all_words" = some (some (.ref f_all_words)))
    (l_all_words : K.lookup f_all_words = some ⟨oc_all_words, od_all_words, .func (PySem.W.fnOf "all_words" "all_words" (defArgs s_all_words) (defBody s_all_words) (defScope s_all_words) .none kV_all_words dc_all_words pm_all_words an_all_words cd_all_words ct_all_words), sl_all_words⟩)
    (c_all_words : PySem.W.codeIn K cd_all_words "all_words" = true)
    (kp_all_words : PySem.W.keepIn K (.ref f_all_words) = true)
    (q_is_least : PySem.W.nsIn K mainGlobals "is_least" = some (some (.ref f_is_least)))
    (l_is_least : K.lookup f_is_least = some ⟨oc_is_least, od_is_least, .func (PySem.W.fnOf "is_least" "is_least" (defArgs s_is_least) (defBody s_is_least) (defScope s_is_least) .none kV_is_least dc_is_least pm_is_least an_is_least cd_is_least ct_is_least), sl_is_least⟩)
    (c_is_least : PySem.W.codeIn K cd_is_least "is_least" = true)
    (kp_is_least : PySem.W.keepIn K (.ref f_is_least) = true)
    (q__law_mixed : PySem.W.nsIn K mainGlobals "_law_mixed" = some (some (.ref f__law_mixed)))
    (l__law_mixed : K.lookup f__law_mixed = some ⟨oc__law_mixed, od__law_mixed, .func (PySem.W.fnOf "_law_mixed" "_law_mixed" (defArgs s__law_mixed) (defBody s__law_mixed) (defScope s__law_mixed) .none kV__law_mixed dc__law_mixed pm__law_mixed an__law_mixed cd__law_mixed ct__law_mixed), sl__law_mixed⟩)
    (c__law_mixed : PySem.W.codeIn K cd__law_mixed "_law_mixed" = true)
    (kp__law_mixed : PySem.W.keepIn K (.ref f__law_mixed) = true)
    (q__law_at : PySem.W.nsIn K mainGlobals "_law_at" = some (some (.ref f__law_at)))
    (l__law_at : K.lookup f__law_at = some ⟨oc__law_at, od__law_at, .func (PySem.W.fnOf "_law_at" "_law_at" (defArgs s__law_at) (defBody s__law_at) (defScope s__law_at) .none kV__law_at dc__law_at pm__law_at an__law_at cd__law_at ct__law_at), sl__law_at⟩)
    (c__law_at : PySem.W.codeIn K cd__law_at "_law_at" = true)
    (kp__law_at : PySem.W.keepIn K (.ref f__law_at) = true)
    (q__law_is_least : PySem.W.nsIn K mainGlobals "_law_is_least" = some (some (.ref f__law_is_least)))
    (l__law_is_least : K.lookup f__law_is_least = some ⟨oc__law_is_least, od__law_is_least, .func (PySem.W.fnOf "_law_is_least" "_law_is_least" (defArgs s__law_is_least) (defBody s__law_is_least) (defScope s__law_is_least) .none kV__law_is_least dc__law_is_least pm__law_is_least an__law_is_least cd__law_is_least ct__law_is_least), sl__law_is_least⟩)
    (c__law_is_least : PySem.W.codeIn K cd__law_is_least "_law_is_least" = true)
    (kp__law_is_least : PySem.W.keepIn K (.ref f__law_is_least) = true)
    (q__law_words : PySem.W.nsIn K mainGlobals "_law_words" = some (some (.ref f__law_words)))
    (l__law_words : K.lookup f__law_words = some ⟨oc__law_words, od__law_words, .func (PySem.W.fnOf "_law_words" "_law_words" (defArgs s__law_words) (defBody s__law_words) (defScope s__law_words) .none kV__law_words dc__law_words pm__law_words an__law_words cd__law_words ct__law_words), sl__law_words⟩)
    (c__law_words : PySem.W.codeIn K cd__law_words "_law_words" = true)
    (kp__law_words : PySem.W.keepIn K (.ref f__law_words) = true)
    (q__law_letters : PySem.W.nsIn K mainGlobals "_law_letters" = some (some (.ref f__law_letters)))
    (l__law_letters : K.lookup f__law_letters = some ⟨oc__law_letters, od__law_letters, .func (PySem.W.fnOf "_law_letters" "_law_letters" (defArgs s__law_letters) (defBody s__law_letters) (defScope s__law_letters) .none kV__law_letters dc__law_letters pm__law_letters an__law_letters cd__law_letters ct__law_letters), sl__law_letters⟩)
    (c__law_letters : PySem.W.codeIn K cd__law_letters "_law_letters" = true)
    (kp__law_letters : PySem.W.keepIn K (.ref f__law_letters) = true)
    (q__law_right : PySem.W.nsIn K mainGlobals "_law_right" = some (some (.ref f__law_right)))
    (l__law_right : K.lookup f__law_right = some ⟨oc__law_right, od__law_right, .func (PySem.W.fnOf "_law_right" "_law_right" (defArgs s__law_right) (defBody s__law_right) (defScope s__law_right) .none kV__law_right dc__law_right pm__law_right an__law_right cd__law_right ct__law_right), sl__law_right⟩)
    (c__law_right : PySem.W.codeIn K cd__law_right "_law_right" = true)
    (kp__law_right : PySem.W.keepIn K (.ref f__law_right) = true)
    (q_is_word : PySem.W.nsIn K mainGlobals "is_word" = some (some (.ref f_is_word)))
    (l_is_word : K.lookup f_is_word = some ⟨oc_is_word, od_is_word, .func (PySem.W.fnOf "is_word" "is_word" (defArgs s_is_word) (defBody s_is_word) (defScope s_is_word) .none kV_is_word dc_is_word pm_is_word an_is_word cd_is_word ct_is_word), sl_is_word⟩)
    (c_is_word : PySem.W.codeIn K cd_is_word "is_word" = true)
    (kp_is_word : PySem.W.keepIn K (.ref f_is_word) = true)
    (q_refuse_letters : PySem.W.nsIn K mainGlobals "refuse_letters" = some (some (.ref f_refuse_letters)))
    (l_refuse_letters : K.lookup f_refuse_letters = some ⟨oc_refuse_letters, od_refuse_letters, .func (PySem.W.fnOf "refuse_letters" "refuse_letters" (defArgs s_refuse_letters) (defBody s_refuse_letters) (defScope s_refuse_letters) .none kV_refuse_letters dc_refuse_letters pm_refuse_letters an_refuse_letters cd_refuse_letters ct_refuse_letters), sl_refuse_letters⟩)
    (c_refuse_letters : PySem.W.codeIn K cd_refuse_letters "refuse_letters" = true)
    (kp_refuse_letters : PySem.W.keepIn K (.ref f_refuse_letters) = true)
    (q_fallen_words : PySem.W.nsIn K mainGlobals "fallen_words" = some (some (.ref f_fallen_words)))
    (l_fallen_words : K.lookup f_fallen_words = some ⟨oc_fallen_words, od_fallen_words, .func (PySem.W.fnOf "fallen_words" "fallen_words" (defArgs s_fallen_words) (defBody s_fallen_words) (defScope s_fallen_words) .none kV_fallen_words dc_fallen_words pm_fallen_words an_fallen_words cd_fallen_words ct_fallen_words), sl_fallen_words⟩)
    (c_fallen_words : PySem.W.codeIn K cd_fallen_words "fallen_words" = true)
    (kp_fallen_words : PySem.W.keepIn K (.ref f_fallen_words) = true)
    (q_tree_of_least : PySem.W.nsIn K mainGlobals "tree_of_least" = some (some (.ref f_tree_of_least)))
    (l_tree_of_least : K.lookup f_tree_of_least = some ⟨oc_tree_of_least, od_tree_of_least, .func (PySem.W.fnOf "tree_of_least" "tree_of_least" (defArgs s_tree_of_least) (defBody s_tree_of_least) (defScope s_tree_of_least) .none kV_tree_of_least dc_tree_of_least pm_tree_of_least an_tree_of_least cd_tree_of_least ct_tree_of_least), sl_tree_of_least⟩)
    (c_tree_of_least : PySem.W.codeIn K cd_tree_of_least "tree_of_least" = true)
    (kp_tree_of_least : PySem.W.keepIn K (.ref f_tree_of_least) = true)
    (q__law_purse : PySem.W.nsIn K mainGlobals "_law_purse" = some (some (.ref f__law_purse)))
    (l__law_purse : K.lookup f__law_purse = some ⟨oc__law_purse, od__law_purse, .func (PySem.W.fnOf "_law_purse" "_law_purse" (defArgs s__law_purse) (defBody s__law_purse) (defScope s__law_purse) .none kV__law_purse dc__law_purse pm__law_purse an__law_purse cd__law_purse ct__law_purse), sl__law_purse⟩)
    (c__law_purse : PySem.W.codeIn K cd__law_purse "_law_purse" = true)
    (kp__law_purse : PySem.W.keepIn K (.ref f__law_purse) = true)
    (q__law_take : PySem.W.nsIn K mainGlobals "_law_take" = some (some (.ref f__law_take)))
    (l__law_take : K.lookup f__law_take = some ⟨oc__law_take, od__law_take, .func (PySem.W.fnOf "_law_take" "_law_take" (defArgs s__law_take) (defBody s__law_take) (defScope s__law_take) .none kV__law_take dc__law_take pm__law_take an__law_take cd__law_take ct__law_take), sl__law_take⟩)
    (c__law_take : PySem.W.codeIn K cd__law_take "_law_take" = true)
    (kp__law_take : PySem.W.keepIn K (.ref f__law_take) = true)
    (q_refuse_word : PySem.W.nsIn K mainGlobals "refuse_word" = some (some (.ref f_refuse_word)))
    (l_refuse_word : K.lookup f_refuse_word = some ⟨oc_refuse_word, od_refuse_word, .func (PySem.W.fnOf "refuse_word" "refuse_word" (defArgs s_refuse_word) (defBody s_refuse_word) (defScope s_refuse_word) .none kV_refuse_word dc_refuse_word pm_refuse_word an_refuse_word cd_refuse_word ct_refuse_word), sl_refuse_word⟩)
    (c_refuse_word : PySem.W.codeIn K cd_refuse_word "refuse_word" = true)
    (kp_refuse_word : PySem.W.keepIn K (.ref f_refuse_word) = true)
    (q_least_words : PySem.W.nsIn K mainGlobals "least_words" = some (some (.ref f_least_words)))
    (l_least_words : K.lookup f_least_words = some ⟨oc_least_words, od_least_words, .func (PySem.W.fnOf "least_words" "least_words" (defArgs s_least_words) (defBody s_least_words) (defScope s_least_words) .none kV_least_words dc_least_words pm_least_words an_least_words cd_least_words ct_least_words), sl_least_words⟩)
    (c_least_words : PySem.W.codeIn K cd_least_words "least_words" = true)
    (kp_least_words : PySem.W.keepIn K (.ref f_least_words) = true)
    (q_fallen : PySem.W.nsIn K mainGlobals "fallen" = some (some (.ref f_fallen)))
    (l_fallen : K.lookup f_fallen = some ⟨oc_fallen, od_fallen, .func (PySem.W.fnOf "fallen" "fallen" (defArgs s_fallen) (defBody s_fallen) (defScope s_fallen) .none kV_fallen dc_fallen pm_fallen an_fallen cd_fallen ct_fallen), sl_fallen⟩)
    (c_fallen : PySem.W.codeIn K cd_fallen "fallen" = true)
    (kp_fallen : PySem.W.keepIn K (.ref f_fallen) = true)
    (q_least_tree : PySem.W.nsIn K mainGlobals "least_tree" = some (some (.ref f_least_tree)))
    (l_least_tree : K.lookup f_least_tree = some ⟨oc_least_tree, od_least_tree, .func (PySem.W.fnOf "least_tree" "least_tree" (defArgs s_least_tree) (defBody s_least_tree) (defScope s_least_tree) .none kV_least_tree dc_least_tree pm_least_tree an_least_tree cd_least_tree ct_least_tree), sl_least_tree⟩)
    (c_least_tree : PySem.W.codeIn K cd_least_tree "least_tree" = true)
    (kp_least_tree : PySem.W.keepIn K (.ref f_least_tree) = true)
    (q_law : PySem.W.nsIn K mainGlobals "law" = some (some (.ref f_law)))
    (l_law : K.lookup f_law = some ⟨oc_law, od_law, .func (PySem.W.fnOf "law" "law" (defArgs s_law) (defBody s_law) (defScope s_law) .none kV_law dc_law pm_law an_law cd_law ct_law), sl_law⟩)
    (c_law : PySem.W.codeIn K cd_law "law" = true)
    (kp_law : PySem.W.keepIn K (.ref f_law) = true)
    (m_MOST_LETTERS : PySem.W.nsIn K mainGlobals "MOST_LETTERS" = some (some (.int 4 t_MOST_LETTERS)))
    (m_MOST_LONG : PySem.W.nsIn K mainGlobals "MOST_LONG" = some (some (.int 5 t_MOST_LONG)))
    (n_abs : PySem.W.nsIn K mainGlobals "abs" = some none)
    (n_isinstance : PySem.W.nsIn K mainGlobals "isinstance" = some none)
    (n_int : PySem.W.nsIn K mainGlobals "int" = some none)
    (n_bool : PySem.W.nsIn K mainGlobals "bool" = some none)
    (n_tuple : PySem.W.nsIn K mainGlobals "tuple" = some none)
    (n_list : PySem.W.nsIn K mainGlobals "list" = some none)
    (n_str : PySem.W.nsIn K mainGlobals "str" = some none)
    (n_len : PySem.W.nsIn K mainGlobals "len" = some none)
    (n_all : PySem.W.nsIn K mainGlobals "all" = some none)
    (n_range : PySem.W.nsIn K mainGlobals "range" = some none)
    (n_zip : PySem.W.nsIn K mainGlobals "zip" = some none)
    (n_enumerate : PySem.W.nsIn K mainGlobals "enumerate" = some none)
    (n_max : PySem.W.nsIn K mainGlobals "max" = some none)
    (n_min : PySem.W.nsIn K mainGlobals "min" = some none)
    (n_sum : PySem.W.nsIn K mainGlobals "sum" = some none) :
    ∃ fd : FuncData, (∀ (s : Shared) (v : Value), BindsTo s fd ⟨[v], []⟩ [("_law_script", v)]) ∧ ∀ base : Heap, K.In base → base.Ns mainGlobals mg → FnOk l.prog w K mg base (CXe l.prog w) 10 fa fd ["_law_script"] (spP K 1 false F_law) := by
  have e := hfa.symm.trans (PySem.W.mg_of X G q_law)
  cases e
  have H_is_whole : Has K mg "is_whole" s_is_whole := ⟨_, _, PySem.W.mg_of X G q_is_whole, fun_mk (st := s_is_whole) l_is_whole c_is_whole kp_is_whole⟩
  have H_all_words : Has K mg "all_words" s_all_words := ⟨_, _, PySem.W.mg_of X G q_all_words, fun_mk (st := s_all_words) l_all_words c_all_words kp_all_words⟩
  have H_is_least : Has K mg "is_least" s_is_least := ⟨_, _, PySem.W.mg_of X G q_is_least, fun_mk (st := s_is_least) l_is_least c_is_least kp_is_least⟩
  have H__law_mixed : Has K mg "_law_mixed" s__law_mixed := ⟨_, _, PySem.W.mg_of X G q__law_mixed, fun_mk (st := s__law_mixed) l__law_mixed c__law_mixed kp__law_mixed⟩
  have H__law_at : Has K mg "_law_at" s__law_at := ⟨_, _, PySem.W.mg_of X G q__law_at, fun_mk (st := s__law_at) l__law_at c__law_at kp__law_at⟩
  have H__law_is_least : Has K mg "_law_is_least" s__law_is_least := ⟨_, _, PySem.W.mg_of X G q__law_is_least, fun_mk (st := s__law_is_least) l__law_is_least c__law_is_least kp__law_is_least⟩
  have H__law_words : Has K mg "_law_words" s__law_words := ⟨_, _, PySem.W.mg_of X G q__law_words, fun_mk (st := s__law_words) l__law_words c__law_words kp__law_words⟩
  have H__law_letters : Has K mg "_law_letters" s__law_letters := ⟨_, _, PySem.W.mg_of X G q__law_letters, fun_mk (st := s__law_letters) l__law_letters c__law_letters kp__law_letters⟩
  have H__law_right : Has K mg "_law_right" s__law_right := ⟨_, _, PySem.W.mg_of X G q__law_right, fun_mk (st := s__law_right) l__law_right c__law_right kp__law_right⟩
  have H_is_word : Has K mg "is_word" s_is_word := ⟨_, _, PySem.W.mg_of X G q_is_word, fun_mk (st := s_is_word) l_is_word c_is_word kp_is_word⟩
  have H_refuse_letters : Has K mg "refuse_letters" s_refuse_letters := ⟨_, _, PySem.W.mg_of X G q_refuse_letters, fun_mk (st := s_refuse_letters) l_refuse_letters c_refuse_letters kp_refuse_letters⟩
  have H_fallen_words : Has K mg "fallen_words" s_fallen_words := ⟨_, _, PySem.W.mg_of X G q_fallen_words, fun_mk (st := s_fallen_words) l_fallen_words c_fallen_words kp_fallen_words⟩
  have H_tree_of_least : Has K mg "tree_of_least" s_tree_of_least := ⟨_, _, PySem.W.mg_of X G q_tree_of_least, fun_mk (st := s_tree_of_least) l_tree_of_least c_tree_of_least kp_tree_of_least⟩
  have H__law_purse : Has K mg "_law_purse" s__law_purse := ⟨_, _, PySem.W.mg_of X G q__law_purse, fun_mk (st := s__law_purse) l__law_purse c__law_purse kp__law_purse⟩
  have H__law_take : Has K mg "_law_take" s__law_take := ⟨_, _, PySem.W.mg_of X G q__law_take, fun_mk (st := s__law_take) l__law_take c__law_take kp__law_take⟩
  have H_refuse_word : Has K mg "refuse_word" s_refuse_word := ⟨_, _, PySem.W.mg_of X G q_refuse_word, fun_mk (st := s_refuse_word) l_refuse_word c_refuse_word kp_refuse_word⟩
  have H_least_words : Has K mg "least_words" s_least_words := ⟨_, _, PySem.W.mg_of X G q_least_words, fun_mk (st := s_least_words) l_least_words c_least_words kp_least_words⟩
  have H_fallen : Has K mg "fallen" s_fallen := ⟨_, _, PySem.W.mg_of X G q_fallen, fun_mk (st := s_fallen) l_fallen c_fallen kp_fallen⟩
  have H_least_tree : Has K mg "least_tree" s_least_tree := ⟨_, _, PySem.W.mg_of X G q_least_tree, fun_mk (st := s_least_tree) l_least_tree c_least_tree kp_least_tree⟩
  have H_law : Has K mg "law" s_law := ⟨_, _, PySem.W.mg_of X G q_law, fun_mk (st := s_law) l_law c_law kp_law⟩
  have B : Blt mg := ⟨PySem.W.mg_none_of X G n_abs, PySem.W.mg_none_of X G n_isinstance, PySem.W.mg_none_of X G n_int, PySem.W.mg_none_of X G n_bool, PySem.W.mg_none_of X G n_tuple, PySem.W.mg_none_of X G n_list, PySem.W.mg_none_of X G n_str, PySem.W.mg_none_of X G n_len, PySem.W.mg_none_of X G n_all, PySem.W.mg_none_of X G n_range, PySem.W.mg_none_of X G n_zip, PySem.W.mg_none_of X G n_enumerate, PySem.W.mg_none_of X G n_max, PySem.W.mg_none_of X G n_min, PySem.W.mg_none_of X G n_sum⟩
  have C : Cst K mg t_MOST_LETTERS t_MOST_LONG := ⟨PySem.W.mg_of X G m_MOST_LETTERS, PySem.W.mg_of X G m_MOST_LONG⟩
  refine ⟨PySem.W.fnOf "law" "law" (defArgs s_law) (defBody s_law) (defScope s_law) .none kV_law dc_law pm_law an_law cd_law ct_law, fun s v => .of_eq rfl, fun base _ _ => ?_⟩
  have d_is_whole := k_is_whole (P := l.prog) (w := w) (base := base) H_is_whole B C
  have d_all_words := k_all_words (P := l.prog) (w := w) (base := base) H_all_words B C
  have d_is_least := k_is_least (P := l.prog) (w := w) (base := base) H_is_least B C
  have d__law_mixed := k__law_mixed (P := l.prog) (w := w) (base := base) H__law_mixed B C
  have d__law_at := k__law_at (P := l.prog) (w := w) (base := base) H__law_at B C
  have d__law_is_least := k__law_is_least (P := l.prog) (w := w) (base := base) H__law_is_least B C
  have d__law_words := k__law_words (P := l.prog) (w := w) (base := base) H__law_words B C
  have d__law_letters := k__law_letters (P := l.prog) (w := w) (base := base) H__law_letters B C 6
  have d__law_right := k__law_right (P := l.prog) (w := w) (base := base) H__law_right B C
  have d_is_word := k_is_word (P := l.prog) (w := w) (base := base) H_is_word B C d_is_whole
  have d_refuse_letters := k_refuse_letters (P := l.prog) (w := w) (base := base) H_refuse_letters B C d_is_whole
  have d_fallen_words := k_fallen_words (P := l.prog) (w := w) (base := base) H_fallen_words B C d_is_least
  have d_tree_of_least := k_tree_of_least (P := l.prog) (w := w) (base := base) H_tree_of_least B C d_is_least 6
  have d__law_purse := k__law_purse (P := l.prog) (w := w) (base := base) H__law_purse B C d__law_mixed
  have d__law_take := k__law_take (P := l.prog) (w := w) (base := base) H__law_take B C d__law_mixed
  have d_refuse_word := k_refuse_word (P := l.prog) (w := w) (base := base) H_refuse_word B C d_is_word
  have d_least_words := k_least_words (P := l.prog) (w := w) (base := base) H_least_words B C d_refuse_letters d_is_whole d_all_words d_is_least
  have d_fallen := k_fallen (P := l.prog) (w := w) (base := base) H_fallen B C d_refuse_word d_fallen_words
  have d_least_tree := k_least_tree (P := l.prog) (w := w) (base := base) H_least_tree B C d_refuse_word d_tree_of_least d_is_least
  have d_law := k_law (P := l.prog) (w := w) (base := base) (fun_mk (st := s_law) l_law c_law kp_law) B C d__law_purse d_least_words d__law_at d__law_right d__law_take d__law_words d__law_is_least d_fallen d__law_letters d_least_tree
  exact d_law
theorem walk {l : PySem.W.OpenLaw} {q : Program} {loose : List Str} {XP : (Str → Option Value) → Heap → Prop} {YP : World → Heap → Prop} {d : DefRec} {K : Params → PySem.W.Frag} (hlaw : ∀ ns : List Int, ns.length ≤ 63 → F_law [.list (ns.map PyData.int)] = .ok (.bool true)) (hn : l.most = some 63) (hdf : d.params.defaults = [])
    (hY : ∀ (w : World) (h : Heap), YP w h → (K w.params).In h)
    (F : ∀ (w : World) (mg : Str → Option Value) (fa : Addr) (h : Heap), (K w.params).In h → h.Ns mainGlobals mg → mg d.name = some (.ref fa) →
      ∃ fd : FuncData, (∀ (s : Shared) (u : Value), BindsTo s fd ⟨[u], []⟩ [("_law_script", u)]) ∧ ∀ base : Heap, (K w.params).In base → base.Ns mainGlobals mg → FnOk l.prog w (K w.params) mg base (CXe l.prog w) 10 fa fd ["_law_script"] (spP (K w.params) 1 false F_law)) :
    PySem.W.WalkO q loose XP YP l.row.toRowW d [] (fun f vs => PySem.call f vs) :=
  L2.walk_of (n := 63) (k := 10) (x := "_law_script") (CX := fun w => CXe l.prog w) (sp := fun w => spP (K w.params) 1 false F_law) hn (by decide) hdf ⟨rfl, by decide, by decide⟩ hY F (fun _ _ a ns hl hO hS => law_sp (hlaw ns hl) hO hS) fun _ _ _ _ _ ⟨_, _, _, _, _, _, _, _, _, _, _, _, _, _, _, z⟩ => z
end K52
set_option Elab.async false
set_option linter.all false
set_option maxRecDepth 100000
namespace K52
open PySem FL
open K53 (least leastR fall is_least_ok law_least_ok is_word_ok refuse_ok fallen_ok nat_ints)
theorem il_eq : F_is_least = K53.F_is_least := rfl
theorem rw_eq : F_refuse_word = K53.F_refuse_word := rfl
theorem at_eq : F__law_at = G_at := rfl
theorem purse_eq : F__law_purse = G_purse := rfl
def lets (c : Nat) : List Int := (List.range c).map fun (i : Nat) => (i : Int)
def ext (c : Nat) (ws : List (List Int)) : List (List Int) := ws.flatMap fun w => (lets c).map fun a => w ++ [a]
def allW (c : Nat) : Nat → List (List Int)
  | 0 => [[]]
  | n + 1 => ext c (allW c n)
theorem ext_len (c : Nat) (ws : List (List Int)) : (ext c ws).length = ws.length * c := by
  induction ws with
  | nil => simp [ext]
  | cons w ws ih =>
    have : ext c (w :: ws) = ((lets c).map fun a => w ++ [a]) ++ ext c ws := by simp [ext]
    rw [this, List.length_append, ih]
    simp [lets, Nat.succ_mul]
    omega
theorem allW_len (c : Nat) : ∀ n, (allW c n).length = c ^ n
  | 0 => rfl
  | n + 1 => by show (ext c (allW c n)).length = _; rw [ext_len, allW_len c n, Nat.pow_succ]
theorem mem_ext {c : Nat} {ws : List (List Int)} {v : List Int} (h : v ∈ ext c ws) : ∃ w ∈ ws, ∃ a, 0 ≤ a ∧ a < (c : Int) ∧ v = w ++ [a] := by
  obtain ⟨w, hw, hv⟩ := List.mem_flatMap.mp h
  obtain ⟨a, ha, rfl⟩ := List.mem_map.mp hv
  obtain ⟨i, hi, rfl⟩ := List.mem_map.mp ha
  exact ⟨w, hw, i, by omega, by have := List.mem_range.mp hi; omega, rfl⟩
theorem allW_mem (c : Nat) : ∀ n, ∀ w ∈ allW c n, w.length = n ∧ ∀ x ∈ w, 0 ≤ x ∧ x < (c : Int)
  | 0, w, h => by have : w = [] := by simpa [allW] using h
                  subst this; simp
  | n + 1, w, h => by
    obtain ⟨v, hv, a, a0, a1, rfl⟩ := mem_ext h
    obtain ⟨l, hx⟩ := allW_mem c n v hv
    refine ⟨by simp [l], fun x m => ?_⟩
    rcases List.mem_append.mp m with m | m
    · exact hx x m
    · have : x = a := by simpa using m
      subst this; exact ⟨a0, a1⟩
theorem inner_letters (c : Nat) (hc : c ≤ 4) (w : List Int) (hw : w.length ≤ 100) (acc : List D) (ha : acc.length + ((lets c).map fun a => tp (w ++ [a])).length ≤ lim) : compL 1 (List.range' 1 (3 - 1)) (gN 0) tTrue (e2 addD (eV 1) (eTup (aCons (eV 0) aNil))) ((lets c).map PyData.int) [.no, .val (tp w), .val (.int c)] acc =
    .ok (acc ++ (lets c).map (fun a => tp (w ++ [a])), [.no, .val (tp w), .val (.int c)]) := by
  rw [compL_pure (fun _ => true) (fun d => match d with | .int a => tp (w ++ [a]) | d => d)]
  · congr 2
    rw [List.filter_eq_self.mpr (fun _ _ => rfl), List.map_map]
    rfl
  · simpa using ha
  · intro x hx
    obtain ⟨a, hm, rfl⟩ := List.mem_map.mp hx
    refine ⟨[.val (.int a), .val (tp w), .val (.int c)], rfl, rfl, fun _ => ?_, rfl⟩
    have l1 : leB 1 lim = true := by decide
    have l2 : leB (w.length + 1) lim = true := leB_of (by unfold lim; omega)
    simp only [FL.run, runP, slots, outs, outD, List.replicate, List.length_cons, List.length_nil, sRet, sSeq, sIf, sSet, sE, sNx, sOwn, sThen, sFrz, sRetF, sRetM, sRetN, sPar, sBrk, sCnt, sBad, eC, eV, FL.e1, FL.e2, eAnd, eOr, eNot, eIf, eChain, aNil, aCons, eTup, eLst, eCall, eRep, oNone, oSome, eSl, mutAt, lstAt, m1, m2, m2r, m2m, mSl, mLst2, tE, tB, FL.tAnd, FL.tOr, FL.tNot, tM, tTrue, gN, gT, gAll, updM, updM0, setM, putMut, appD, bind_ok, bind_bad, bind_err, List.getElem?_cons_zero, List.getElem?_cons_succ, List.set_cons_zero, List.set_cons_succ, List.nil_append, List.cons_append, List.head?_cons, List.tail_cons, Bool.false_eq_true, if_false, if_true, Nat.sub_self, Nat.reduceSub, Nat.reduceAdd, reduceCtorEq, addD, subD, ixD, sliceD, lenD, truD, listD, tupleD, eCallM, arEv, arIn, arOut, arPs, bkL, bk1, List.lookup_cons, List.lookup_nil, blk, back, List.zip_cons_cons, List.zip_nil_left, List.zip_nil_right, List.map_cons, List.map_nil, List.drop_succ_cons, List.drop_zero, Option.getD_some, Option.getD_none, sFor, iE, itemsD, Bool.not_true, Bool.not_false, iR1, iR2, range1D, range2D, chk_ok l1, List.length_map, chk_ok l2, tp, List.map_append]
theorem q_all (c : Nat) (hc : c ≤ 4) (ws : List (List Int)) (hn : ws.length ≤ 1000) (hw : ∀ w ∈ ws, w.length ≤ 100) (s1 s3 : Sl) : q_all_words_0 [.val (.int c), s1, .val (ltp ws), s3] = .ok (ltp (ext c ws), [.val (.int c), s1, .val (ltp ws), s3]) := by
  unfold q_all_words_0
  have hlen : ((ws.map tp).flatMap fun d => match d with | .tuple v => (lets c).map (fun a => PyData.tuple (v ++ [.int a])) | _ => []) = (ext c ws).map tp := by
    unfold ext
    rw [List.map_flatMap, List.flatMap_map]
    congr 1
    funext w
    simp only [tp, List.map_map]
    congr 1
    funext a
    simp [tp]
  rw [eComp2_pure (items := ws.map tp) (fun d => match d with | .tuple v => (lets c).map (fun a => PyData.tuple (v ++ [.int a])) | _ => [])]
  · rw [hlen]
  · rfl
  · rw [hlen, List.length_map, ext_len]
    have : ws.length * c ≤ 1000 * 4 := Nat.mul_le_mul hn hc
    unfold lim; omega
  · intro x hx acc ha
    obtain ⟨w, hm, rfl⟩ := List.mem_map.mp hx
    have e1' : ((lets c).map (fun a => PyData.tuple (w.map PyData.int ++ [.int a]))) = (lets c).map (fun a => tp (w ++ [a])) := by
      congr 1; funext a; simp [tp]
    refine ⟨[.no, .val (tp w), .val (.int c)], (lets c).map PyData.int, rfl, rfl, ?_, ?_, ?_⟩
    · simp only [FL.run, runP, slots, outs, outD, List.replicate, List.length_cons, List.length_nil, sRet, sSeq, sIf, sSet, sE, sNx, sOwn, sThen, sFrz, sRetF, sRetM, sRetN, sPar, sBrk, sCnt, sBad, eC, eV, FL.e1, FL.e2, eAnd, eOr, eNot, eIf, eChain, aNil, aCons, eTup, eLst, eCall, eRep, oNone, oSome, eSl, mutAt, lstAt, m1, m2, m2r, m2m, mSl, mLst2, tE, tB, FL.tAnd, FL.tOr, FL.tNot, tM, tTrue, gN, gT, gAll, updM, updM0, setM, putMut, appD, bind_ok, bind_bad, bind_err, List.getElem?_cons_zero, List.getElem?_cons_succ, List.set_cons_zero, List.set_cons_succ, List.nil_append, List.cons_append, List.head?_cons, List.tail_cons, Bool.false_eq_true, if_false, if_true, Nat.sub_self, Nat.reduceSub, Nat.reduceAdd, reduceCtorEq, addD, subD, ixD, sliceD, lenD, truD, listD, tupleD, eCallM, arEv, arIn, arOut, arPs, bkL, bk1, List.lookup_cons, List.lookup_nil, blk, back, List.zip_cons_cons, List.zip_nil_left, List.zip_nil_right, List.map_cons, List.map_nil, List.drop_succ_cons, List.drop_zero, Option.getD_some, Option.getD_none, sFor, iE, itemsD, Bool.not_true, Bool.not_false, iR1, iR2]
      rw [range1D_ok (Int.natCast_nonneg _) (by omega), nat_ints]
      rfl
    · have := inner_letters c hc w (hw w hm) acc (by rw [← e1']; exact ha)
      rw [← e1'] at this
      exact this
    · show bkL [(0, Sl.val (.int c))] 0 _ = _
      exact bkL_same (fun i p d e => by
        rw [List.lookup_cons] at e
        split at e <;> simp at e) _ 0
theorem lets_len (n : Nat) : (lets n).length = n := by simp [lets]
theorem small_pow {c n : Nat} (hc : c ≤ 4) (hn : n ≤ 5) : c ^ n ≤ 1024 := Nat.le_trans (Nat.pow_le_pow_left hc n) (Nat.le_trans (Nat.pow_le_pow_right (by decide) hn) (by decide))
theorem rng_lets (n : Nat) : rng 0 (n : Int) = (lets n).map PyData.int := nat_ints n
theorem pre_len {n : Nat} {pre post : List Int} {x : Int} (h : [] ++ lets n = pre ++ x :: post) : pre.length < n := by
  have := congrArg List.length h
  simp [lets] at this
  omega
theorem all_words_ok (c n : Nat) (hc : c ≤ 4) (hn : n ≤ 5) : F_all_words [.int c, .int n] = .ok (ltp (allW c n)) := by
  have hi : (iR1 (aCons (eV 1) aNil)) [.val (.int c), .val (.int n), .val (ltp [[]]), .no] = .ok ((lets n).map PyData.int, [.val (.int c), .val (.int n), .val (ltp [[]]), .no]) := by
    simp only [FL.run, runP, slots, outs, outD, List.replicate, List.length_cons, List.length_nil, sRet, sSeq, sIf, sSet, sE, sNx, sOwn, sThen, sFrz, sRetF, sRetM, sRetN, sPar, sBrk, sCnt, sBad, eC, eV, FL.e1, FL.e2, eAnd, eOr, eNot, eIf, eChain, aNil, aCons, eTup, eLst, eCall, eRep, oNone, oSome, eSl, mutAt, lstAt, m1, m2, m2r, m2m, mSl, mLst2, tE, tB, FL.tAnd, FL.tOr, FL.tNot, tM, tTrue, gN, gT, gAll, updM, updM0, setM, putMut, appD, bind_ok, bind_bad, bind_err, List.getElem?_cons_zero, List.getElem?_cons_succ, List.set_cons_zero, List.set_cons_succ, List.nil_append, List.cons_append, List.head?_cons, List.tail_cons, Bool.false_eq_true, if_false, if_true, Nat.sub_self, Nat.reduceSub, Nat.reduceAdd, reduceCtorEq, addD, subD, ixD, sliceD, lenD, truD, listD, tupleD, eCallM, arEv, arIn, arOut, arPs, bkL, bk1, List.lookup_cons, List.lookup_nil, blk, back, List.zip_cons_cons, List.zip_nil_left, List.zip_nil_right, List.map_cons, List.map_nil, List.drop_succ_cons, List.drop_zero, Option.getD_some, Option.getD_none, sFor, iE, itemsD, Bool.not_true, Bool.not_false, iR1, iR2]
    rw [range1D_ok (Int.natCast_nonneg _) (by omega), rng_lets]
    rfl
  have FI := forL_inv (f := PyData.int) (g := gN 3) (b := u_all_words_0) (fun pre ρ => ∃ y, Np y ∧ ρ = [.val (.int c), .val (.int n), .val (ltp (allW c pre.length)), y]) (lets n) [] [.val (.int c), .val (.int n), .val (ltp [[]]), .no] ⟨.no, np_no, rfl⟩
  obtain ⟨ρ', e, y, _, rfl⟩ := FI (by
    intro pre x post ρ ep ⟨y, hy, er⟩
    subst er
    have hp := pre_len ep
    rw [gN_np (x := y) rfl hy, bind_ok]
    have h1 : (allW c pre.length).length ≤ 1000 := by
      rw [allW_len]
      have : c ^ pre.length ≤ 4 ^ 4 := Nat.le_trans (Nat.pow_le_pow_left hc _) (Nat.pow_le_pow_right (by decide) (by omega))
      omega
    have hq := q_all c hc (allW c pre.length) h1 (fun w m => by have := (allW_mem c _ w m).1; omega) (.val (.int n)) (.val (.int x))
    refine ⟨[.val (.int c), .val (.int n), .val (ltp (allW c (pre.length + 1))), .val (.int x)], .nx, ?_, .inl rfl, .val (.int x), np_val _, by rw [List.length_append]; rfl⟩
    unfold u_all_words_0 sThen
    rw [show ([Sl.val (PyData.int c), .val (.int n), .val (ltp (allW c pre.length)), y].set 3 (.val (.int x))) = [.val (.int c), .val (.int n), .val (ltp (allW c pre.length)), .val (.int x)] from rfl, sOwn_np hq (x := .val (ltp (allW c pre.length))) rfl (np_val _)]
    rfl)
  rw [List.nil_append, lets_len] at e
  have hw : w_all_words_0 [.val (.int c), .val (.int n), .val (ltp [[]]), .no] = .ok (.nx, [.val (.int c), .val (.int n), .val (ltp (allW c n)), y]) := by
    unfold w_all_words_0 sFor
    rw [hi, bind_ok]
    exact e
  have hs : sSet (gN 2) (eLst (aCons (eTup aNil) aNil)) [.val (.int c), .val (.int n), .no, .no] = .ok (.nx, [.val (.int c), .val (.int n), .val (ltp [[]]), .no]) := rfl
  show ((b_all_words [.val (.int c), .val (.int n), .no, .no]).bind _).bind _ = _
  unfold b_all_words
  rw [sSeq_nx hs, sSeq_nx hw]
  rfl
theorem q_lw (c : Nat) (hc : c ≤ 4) (w : List Int) (hw : w.length ≤ 100) (s1 s2 s3 s4 : Sl) : q__law_words_0 [.val (.int c), s1, s2, s3, s4, .val (tp w)] = .ok (ltp ((lets c).map fun a => w ++ [a]), [.val (.int c), s1, s2, s3, s4, .val (tp w)]) := by
  unfold q__law_words_0
  rw [eComp_pure (items := (lets c).map PyData.int) (fun _ => true) (fun d => match d with | .int a => tp (w ++ [a]) | d => d)]
  · rw [List.filter_eq_self.mpr (fun _ _ => rfl), List.map_map]
    unfold ltp
    rw [List.map_map]
    rfl
  · simp only [FL.run, runP, slots, outs, outD, List.replicate, List.length_cons, List.length_nil, sRet, sSeq, sIf, sSet, sE, sNx, sOwn, sThen, sFrz, sRetF, sRetM, sRetN, sPar, sBrk, sCnt, sBad, eC, eV, FL.e1, FL.e2, eAnd, eOr, eNot, eIf, eChain, aNil, aCons, eTup, eLst, eCall, eRep, oNone, oSome, eSl, mutAt, lstAt, m1, m2, m2r, m2m, mSl, mLst2, tE, tB, FL.tAnd, FL.tOr, FL.tNot, tM, tTrue, gN, gT, gAll, updM, updM0, setM, putMut, appD, bind_ok, bind_bad, bind_err, List.getElem?_cons_zero, List.getElem?_cons_succ, List.set_cons_zero, List.set_cons_succ, List.nil_append, List.cons_append, List.head?_cons, List.tail_cons, Bool.false_eq_true, if_false, if_true, Nat.sub_self, Nat.reduceSub, Nat.reduceAdd, reduceCtorEq, addD, subD, ixD, sliceD, lenD, truD, listD, tupleD, eCallM, arEv, arIn, arOut, arPs, bkL, bk1, List.lookup_cons, List.lookup_nil, blk, back, List.zip_cons_cons, List.zip_nil_left, List.zip_nil_right, List.map_cons, List.map_nil, List.drop_succ_cons, List.drop_zero, Option.getD_some, Option.getD_none, sFor, iE, itemsD, Bool.not_true, Bool.not_false, iR1, iR2]
    rw [range1D_ok (Int.natCast_nonneg _) (by omega), rng_lets]
    rfl
  · simp [lets, lim]; omega
  · intro x hx
    obtain ⟨a, hm, rfl⟩ := List.mem_map.mp hx
    refine ⟨[.val (.int a), .val (tp w)], rfl, rfl, fun _ => ?_, ?_⟩
    · have l1 : leB 1 lim = true := by decide
      have l2 : leB (w.length + 1) lim = true := leB_of (by unfold lim; omega)
      simp only [FL.run, runP, slots, outs, outD, List.replicate, List.length_cons, List.length_nil, sRet, sSeq, sIf, sSet, sE, sNx, sOwn, sThen, sFrz, sRetF, sRetM, sRetN, sPar, sBrk, sCnt, sBad, eC, eV, FL.e1, FL.e2, eAnd, eOr, eNot, eIf, eChain, aNil, aCons, eTup, eLst, eCall, eRep, oNone, oSome, eSl, mutAt, lstAt, m1, m2, m2r, m2m, mSl, mLst2, tE, tB, FL.tAnd, FL.tOr, FL.tNot, tM, tTrue, gN, gT, gAll, updM, updM0, setM, putMut, appD, bind_ok, bind_bad, bind_err, List.getElem?_cons_zero, List.getElem?_cons_succ, List.set_cons_zero, List.set_cons_succ, List.nil_append, List.cons_append, List.head?_cons, List.tail_cons, Bool.false_eq_true, if_false, if_true, Nat.sub_self, Nat.reduceSub, Nat.reduceAdd, reduceCtorEq, addD, subD, ixD, sliceD, lenD, truD, listD, tupleD, eCallM, arEv, arIn, arOut, arPs, bkL, bk1, List.lookup_cons, List.lookup_nil, blk, back, List.zip_cons_cons, List.zip_nil_left, List.zip_nil_right, List.map_cons, List.map_nil, List.drop_succ_cons, List.drop_zero, Option.getD_some, Option.getD_none, sFor, iE, itemsD, Bool.not_true, Bool.not_false, iR1, iR2, range1D, range2D, chk_ok l1, List.length_map, chk_ok l2, tp, List.map_append]
    · show bkL [(5, Sl.val (tp w))] 0 _ = _
      exact bkL_same (fun i p d e => by
        rw [List.lookup_cons] at e
        split at e <;> simp at e) _ 0
theorem ext_snoc (c : Nat) (ws : List (List Int)) (w : List Int) : ext c (ws ++ [w]) = ext c ws ++ (lets c).map fun a => w ++ [a] := by simp [ext]
theorem lw_in (c : Nat) (hc : c ≤ 4) (ws : List (List Int)) (hn : ws.length ≤ 1000) (hw : ∀ w ∈ ws, w.length ≤ 100) (s1 s3 s5 : Sl) (h5 : Np s5) : ∃ y, Np y ∧
    w__law_words_0 [.val (.int c), s1, .val (ltp ws), s3, .val (ltp []), s5] = .ok (.nx, [.val (.int c), s1, .val (ltp ws), s3, .val (ltp (ext c ws)), y]) := by
  have FI := forL_inv (f := tp) (g := gN 5) (b := u__law_words_0) (fun pre ρ => ∃ y, Np y ∧ ρ = [.val (.int c), s1, .val (ltp ws), s3, .val (ltp (ext c pre)), y]) ws [] [.val (.int c), s1, .val (ltp ws), s3, .val (ltp []), s5] ⟨s5, h5, rfl⟩
  obtain ⟨ρ', e, y, hy, rfl⟩ := FI (by
    intro pre w post ρ ep ⟨y, hy, er⟩
    subst er
    rw [gN_np (x := y) rfl hy, bind_ok]
    have hm : w ∈ ws := by
      have : w ∈ [] ++ ws := by rw [ep]; simp
      simpa using this
    have hpl : pre.length ≤ 1000 := by
      have := congrArg List.length ep
      simp at this
      omega
    have hq := q_lw c hc w (hw w hm) s1 (.val (ltp ws)) s3 (.val (ltp (ext c pre)))
    have ha : leB ((ext c pre).map tp).length lim = true ∧ leB (((ext c pre).map tp).length + (((lets c).map fun a => w ++ [a]).map tp).length) lim = true := by
      have h1 : pre.length * c ≤ 1000 * 4 := Nat.mul_le_mul hpl hc
      rw [List.length_map, ext_len, List.length_map, List.length_map, lets_len]
      exact ⟨leB_of (by unfold lim; omega), leB_of (by unfold lim; omega)⟩
    refine ⟨[.val (.int c), s1, .val (ltp ws), s3, .val (ltp (ext c (pre ++ [w]))), .val (tp w)], .nx, ?_, .inl rfl, .val (tp w), np_val _, rfl⟩
    show u__law_words_0 [.val (.int c), s1, .val (ltp ws), s3, .val (ltp (ext c pre)), .val (tp w)] = _
    have hd : addD (ltp (ext c pre)) (ltp ((lets c).map fun a => w ++ [a])) = .ok (ltp (ext c (pre ++ [w]))) := by
      show chk _ _ = _
      rw [chk_ok ha.2, ext_snoc]
      unfold ltp
      rw [List.map_append]
    have he : (e2 addD (eV 4) q__law_words_0) [.val (.int c), s1, .val (ltp ws), s3, .val (ltp (ext c pre)), .val (tp w)] = .ok (ltp (ext c (pre ++ [w])), [.val (.int c), s1, .val (ltp ws), s3, .val (ltp (ext c pre)), .val (tp w)]) := by
      unfold FL.e2
      show (R.ok (ltp (ext c pre), _)).bind _ = _
      rw [bind_ok, hq, bind_ok, hd]
      rfl
    unfold u__law_words_0
    rw [sSet_np he (x := .val (ltp (ext c pre))) rfl (np_val _)]
    rfl)
  refine ⟨y, hy, ?_⟩
  unfold w__law_words_0 sFor
  show (R.ok (ws.map tp, _)).bind _ = _
  rw [bind_ok]
  exact e
theorem law_words_ok (c n : Nat) (hc : c ≤ 4) (hn : n ≤ 5) : F__law_words [.int c, .int n] = .ok (ltp (allW c n)) := by
  have hi : (iR1 (aCons (eV 1) aNil)) [.val (.int c), .val (.int n), .val (ltp [[]]), .no, .no, .no] = .ok ((lets n).map PyData.int, [.val (.int c), .val (.int n), .val (ltp [[]]), .no, .no, .no]) := by
    simp only [FL.run, runP, slots, outs, outD, List.replicate, List.length_cons, List.length_nil, sRet, sSeq, sIf, sSet, sE, sNx, sOwn, sThen, sFrz, sRetF, sRetM, sRetN, sPar, sBrk, sCnt, sBad, eC, eV, FL.e1, FL.e2, eAnd, eOr, eNot, eIf, eChain, aNil, aCons, eTup, eLst, eCall, eRep, oNone, oSome, eSl, mutAt, lstAt, m1, m2, m2r, m2m, mSl, mLst2, tE, tB, FL.tAnd, FL.tOr, FL.tNot, tM, tTrue, gN, gT, gAll, updM, updM0, setM, putMut, appD, bind_ok, bind_bad, bind_err, List.getElem?_cons_zero, List.getElem?_cons_succ, List.set_cons_zero, List.set_cons_succ, List.nil_append, List.cons_append, List.head?_cons, List.tail_cons, Bool.false_eq_true, if_false, if_true, Nat.sub_self, Nat.reduceSub, Nat.reduceAdd, reduceCtorEq, addD, subD, ixD, sliceD, lenD, truD, listD, tupleD, eCallM, arEv, arIn, arOut, arPs, bkL, bk1, List.lookup_cons, List.lookup_nil, blk, back, List.zip_cons_cons, List.zip_nil_left, List.zip_nil_right, List.map_cons, List.map_nil, List.drop_succ_cons, List.drop_zero, Option.getD_some, Option.getD_none, sFor, iE, itemsD, Bool.not_true, Bool.not_false, iR1, iR2]
    rw [range1D_ok (Int.natCast_nonneg _) (by omega), rng_lets]
    rfl
  have FI := forL_inv (f := PyData.int) (g := gN 3) (b := u__law_words_1) (fun pre ρ => ∃ y z u, Np y ∧ Np z ∧ Np u ∧ ρ = [.val (.int c), .val (.int n), .val (ltp (allW c pre.length)), y, z, u]) (lets n) [] [.val (.int c), .val (.int n), .val (ltp [[]]), .no, .no, .no] ⟨.no, .no, .no, np_no, np_no, np_no, rfl⟩
  obtain ⟨ρ', e, y, z, u, _, _, _, rfl⟩ := FI (by
    intro pre x post ρ ep ⟨y, z, u, hy, hz, hu, er⟩
    subst er
    have hp := pre_len ep
    rw [gN_np (x := y) rfl hy, bind_ok]
    have h1 : (allW c pre.length).length ≤ 1000 := by
      rw [allW_len]
      have : c ^ pre.length ≤ 4 ^ 4 := Nat.le_trans (Nat.pow_le_pow_left hc _) (Nat.pow_le_pow_right (by decide) (by omega))
      omega
    obtain ⟨v, hv, hin⟩ := lw_in c hc (allW c pre.length) h1 (fun w m => by have := (allW_mem c _ w m).1; omega) (.val (.int n)) (.val (.int x)) u hu
    refine ⟨[.val (.int c), .val (.int n), .val (ltp (allW c (pre.length + 1))), .val (.int x), .val (ltp (allW c (pre.length + 1))), v], .nx, ?_, .inl rfl, .val (.int x), .val (ltp (allW c (pre.length + 1))), v, np_val _, np_val _, hv, by rw [List.length_append]; rfl⟩
    show u__law_words_1 [.val (.int c), .val (.int n), .val (ltp (allW c pre.length)), .val (.int x), z, u] = _
    have hs : sSet (gN 4) (eLst aNil) [.val (.int c), .val (.int n), .val (ltp (allW c pre.length)), .val (.int x), z, u] = .ok (.nx, [.val (.int c), .val (.int n), .val (ltp (allW c pre.length)), .val (.int x), .val (ltp []), u]) := sSet_np (show eLst aNil _ = .ok (ltp [], _) from rfl) (x := z) rfl hz
    unfold u__law_words_1
    rw [sSeq_nx hs, sSeq_nx hin]
    rfl)
  rw [List.nil_append, lets_len] at e
  have hw : w__law_words_1 [.val (.int c), .val (.int n), .val (ltp [[]]), .no, .no, .no] = .ok (.nx, [.val (.int c), .val (.int n), .val (ltp (allW c n)), y, z, u]) := by
    unfold w__law_words_1 sFor
    rw [hi, bind_ok]
    exact e
  have hs : sSet (gN 2) (eLst (aCons (eTup aNil) aNil)) [.val (.int c), .val (.int n), .no, .no, .no, .no] = .ok (.nx, [.val (.int c), .val (.int n), .val (ltp [[]]), .no, .no, .no]) := rfl
  show ((b__law_words [.val (.int c), .val (.int n), .no, .no, .no, .no]).bind _).bind _ = _
  unfold b__law_words
  rw [sSeq_nx hs, sSeq_nx hw]
  rfl
end K52
set_option Elab.async false
set_option linter.all false
set_option maxRecDepth 100000
namespace K52
open PySem FL
open K53 (least leastR fall is_least_ok law_least_ok is_word_ok refuse_ok fallen_ok nat_ints)
theorem lw_test (ws : List (List Int)) (hl : ws.length ≤ 2000) (hw : ∀ w ∈ ws, w.length ≤ 100) (F : List D → R D) (p : List Int → Bool) (hF : ∀ w, w.length ≤ 100 → F [tp w] = .ok (.bool (p w))) (it : IF) (ρ : En) (hi : it ρ = .ok (ws.map tp, ρ)) :
    eComp 1 [] it (gN 0) (tE (eCall F (aCons (eV 0) aNil))) (eV 0) ρ = .ok (ltp (ws.filter p), ρ) := by
  rw [eComp_pure (items := ws.map tp) (fun d => match d with | .tuple v => (match F [.tuple v] with | .ok (.bool b) => b | _ => false) | _ => false) id hi]
  · rw [List.map_id, List.filter_map]
    congr 3
    refine congrArg (List.map tp) (List.filter_congr fun r m => ?_)
    show (match F [tp r] with | .ok (.bool b) => b | _ => false) = p r
    rw [hF r (hw r m)]
  · rw [List.length_map]; unfold lim; omega
  · intro x hx
    obtain ⟨r, hm, rfl⟩ := List.mem_map.mp hx
    have hr := hF r (hw r hm)
    refine ⟨[.val (tp r)], rfl, ?_, fun _ => rfl, ?_⟩
    · show _ = R.ok ((match F [tp r] with | .ok (.bool b) => b | _ => false), _)
      rw [hr]
      simp only [FL.run, runP, slots, outs, outD, List.replicate, List.length_cons, List.length_nil, sRet, sSeq, sIf, sSet, sE, sNx, sOwn, sThen, sFrz, sRetF, sRetM, sRetN, sPar, sBrk, sCnt, sBad, eC, eV, FL.e1, FL.e2, eAnd, eOr, eNot, eIf, eChain, aNil, aCons, eTup, eLst, eCall, eRep, oNone, oSome, eSl, mutAt, lstAt, m1, m2, m2r, m2m, mSl, mLst2, tE, tB, FL.tAnd, FL.tOr, FL.tNot, tM, tTrue, gN, gT, gAll, updM, updM0, setM, putMut, appD, bind_ok, bind_bad, bind_err, List.getElem?_cons_zero, List.getElem?_cons_succ, List.set_cons_zero, List.set_cons_succ, List.nil_append, List.cons_append, List.head?_cons, List.tail_cons, Bool.false_eq_true, if_false, if_true, Nat.sub_self, Nat.reduceSub, Nat.reduceAdd, reduceCtorEq, addD, subD, ixD, sliceD, lenD, truD, listD, tupleD, eCallM, arEv, arIn, arOut, arPs, bkL, bk1, List.lookup_cons, List.lookup_nil, blk, back, List.zip_cons_cons, List.zip_nil_left, List.zip_nil_right, List.map_cons, List.map_nil, List.drop_succ_cons, List.drop_zero, Option.getD_some, Option.getD_none, sFor, iE, itemsD, Bool.not_true, Bool.not_false, iR1, iR2, range1D, range2D, hr]
    · exact bkL_same (fun i p d e => by cases e) _ 0
theorem refuse_letters_ok (c : Nat) (h1 : 1 ≤ c) (h2 : c ≤ 4) : F_refuse_letters [.int c] = .ok .none := by
  have h : c = 1 ∨ c = 2 ∨ c = 3 ∨ c = 4 := by omega
  rcases h with rfl | rfl | rfl | rfl <;> rfl
theorem least_words_ok (c n : Nat) (c1 : 1 ≤ c) (c2 : c ≤ 4) (n1 : 1 ≤ n) (n2 : n ≤ 5) : F_least_words [.int c, .int n] = .ok (ltp ((allW c n).filter least)) := by
  have hq : q_least_words_0 [.val (.int c), .val (.int n)] = .ok (ltp ((allW c n).filter least), [.val (.int c), .val (.int n)]) := by
    unfold q_least_words_0
    refine lw_test (allW c n) (by rw [allW_len]; have := small_pow c2 n2; omega) (fun w m => by have := (allW_mem c n w m).1; omega) F_is_least least (fun w hw => is_least_ok w hw) _ _ ?_
    simp only [FL.run, runP, slots, outs, outD, List.replicate, List.length_cons, List.length_nil, sRet, sSeq, sIf, sSet, sE, sNx, sOwn, sThen, sFrz, sRetF, sRetM, sRetN, sPar, sBrk, sCnt, sBad, eC, eV, FL.e1, FL.e2, eAnd, eOr, eNot, eIf, eChain, aNil, aCons, eTup, eLst, eCall, eRep, oNone, oSome, eSl, mutAt, lstAt, m1, m2, m2r, m2m, mSl, mLst2, tE, tB, FL.tAnd, FL.tOr, FL.tNot, tM, tTrue, gN, gT, gAll, updM, updM0, setM, putMut, appD, bind_ok, bind_bad, bind_err, List.getElem?_cons_zero, List.getElem?_cons_succ, List.set_cons_zero, List.set_cons_succ, List.nil_append, List.cons_append, List.head?_cons, List.tail_cons, Bool.false_eq_true, if_false, if_true, Nat.sub_self, Nat.reduceSub, Nat.reduceAdd, reduceCtorEq, addD, subD, ixD, sliceD, lenD, truD, listD, tupleD, eCallM, arEv, arIn, arOut, arPs, bkL, bk1, List.lookup_cons, List.lookup_nil, blk, back, List.zip_cons_cons, List.zip_nil_left, List.zip_nil_right, List.map_cons, List.map_nil, List.drop_succ_cons, List.drop_zero, Option.getD_some, Option.getD_none, sFor, iE, itemsD, Bool.not_true, Bool.not_false, iR1, iR2, range1D, range2D, all_words_ok c n c2 n2]
  have hr := refuse_letters_ok c c1 c2
  have hs : sE (eCall F_refuse_letters (aCons (eV 0) aNil)) [.val (.int c), .val (.int n)] = .ok (.nx, [.val (.int c), .val (.int n)]) := by
    simp only [FL.run, runP, slots, outs, outD, List.replicate, List.length_cons, List.length_nil, sRet, sSeq, sIf, sSet, sE, sNx, sOwn, sThen, sFrz, sRetF, sRetM, sRetN, sPar, sBrk, sCnt, sBad, eC, eV, FL.e1, FL.e2, eAnd, eOr, eNot, eIf, eChain, aNil, aCons, eTup, eLst, eCall, eRep, oNone, oSome, eSl, mutAt, lstAt, m1, m2, m2r, m2m, mSl, mLst2, tE, tB, FL.tAnd, FL.tOr, FL.tNot, tM, tTrue, gN, gT, gAll, updM, updM0, setM, putMut, appD, bind_ok, bind_bad, bind_err, List.getElem?_cons_zero, List.getElem?_cons_succ, List.set_cons_zero, List.set_cons_succ, List.nil_append, List.cons_append, List.head?_cons, List.tail_cons, Bool.false_eq_true, if_false, if_true, Nat.sub_self, Nat.reduceSub, Nat.reduceAdd, reduceCtorEq, addD, subD, ixD, sliceD, lenD, truD, listD, tupleD, eCallM, arEv, arIn, arOut, arPs, bkL, bk1, List.lookup_cons, List.lookup_nil, blk, back, List.zip_cons_cons, List.zip_nil_left, List.zip_nil_right, List.map_cons, List.map_nil, List.drop_succ_cons, List.drop_zero, Option.getD_some, Option.getD_none, sFor, iE, itemsD, Bool.not_true, Bool.not_false, iR1, iR2, range1D, range2D, hr]
  have ht : sIf (FL.tOr (FL.tNot (tE (eCall F_is_whole (aCons (eV 1) aNil)))) (FL.tNot (tB (eChain leD leD (eC (.int 1)) (eV 1) (eC (.int 5)))))) sBad sNx [.val (.int c), .val (.int n)] = .ok (.nx, [.val (.int c), .val (.int n)]) := by
    have h : n = 1 ∨ n = 2 ∨ n = 3 ∨ n = 4 ∨ n = 5 := by omega
    rcases h with rfl | rfl | rfl | rfl | rfl <;> rfl
  show ((b_least_words [.val (.int c), .val (.int n)]).bind _).bind _ = _
  unfold b_least_words
  rw [sSeq_nx hs, sSeq_nx ht]
  simp only [sRetF, hq, bind_ok]
theorem law_right_ok (a b : List (List Int)) (ha : a.length ≤ 2000) : F__law_right [ltp a, ltp b] = .ok (.bool (decide (a = b)), [ltp a, ltp b]) := by
  have hq : q__law_right_0 [.ow true (ltp a), .val (ltp b)] = .ok (.list [], [.ow true (ltp a), .val (ltp b)]) := by
    unfold q__law_right_0
    rw [eCompM_pure (items := a.map tp) (fun _ => false) id]
    · rw [List.filter_eq_nil_iff.mpr (by simp)]; rfl
    · rfl
    · simp [lim]; omega
    · intro x hx
      obtain ⟨r, hm, rfl⟩ := List.mem_map.mp hx
      refine ⟨[.val (tp r)], rfl, rfl, fun h => (by cases h), ?_⟩
      exact bkL_same (fun i p d e => by cases e) _ 0
  have hi : isiD' "list" (ltp a) = .ok (.bool true) := rfl
  have n0 : eqD (.list []) (.list []) = .ok (.bool true) := eqD_ltp [] []
  have n1 := eqD_ltp a b
  have hb : b__law_right [.ow true (ltp a), .val (ltp b)] = .ok (.rt (.bool (decide (a = b))), [.ow true (ltp a), .val (ltp b)]) := by
    simp only [b__law_right, FL.run, runP, slots, outs, outD, List.replicate, List.length_cons, List.length_nil, sRet, sSeq, sIf, sSet, sE, sNx, sOwn, sThen, sFrz, sRetF, sRetM, sRetN, sPar, sBrk, sCnt, sBad, eC, eV, FL.e1, FL.e2, eAnd, eOr, eNot, eIf, eChain, aNil, aCons, eTup, eLst, eCall, eRep, oNone, oSome, eSl, mutAt, lstAt, m1, m2, m2r, m2m, mSl, mLst2, tE, tB, FL.tAnd, FL.tOr, FL.tNot, tM, tTrue, gN, gT, gAll, updM, updM0, setM, putMut, appD, bind_ok, bind_bad, bind_err, List.getElem?_cons_zero, List.getElem?_cons_succ, List.set_cons_zero, List.set_cons_succ, List.nil_append, List.cons_append, List.head?_cons, List.tail_cons, Bool.false_eq_true, if_false, if_true, Nat.sub_self, Nat.reduceSub, Nat.reduceAdd, reduceCtorEq, addD, subD, ixD, sliceD, lenD, truD, listD, tupleD, eCallM, arEv, arIn, arOut, arPs, bkL, bk1, List.lookup_cons, List.lookup_nil, blk, back, List.zip_cons_cons, List.zip_nil_left, List.zip_nil_right, List.map_cons, List.map_nil, List.drop_succ_cons, List.drop_zero, Option.getD_some, Option.getD_none, sFor, iE, itemsD, Bool.not_true, Bool.not_false, iR1, iR2, range1D, range2D, hi, hq, chk_ok (leB_of (Nat.zero_le lim)), n0, n1]
  show (b__law_right [.ow true (ltp a), .val (ltp b)]).bind _ = _
  rw [hb]
  rfl
theorem minL_some : ∀ {l : List Int}, l ≠ [] → ∃ m ∈ l, minL l = some m := fun {l} h => by
  cases l with
  | nil => exact absurd rfl h
  | cons x xs =>
    refine ⟨_, ?_, rfl⟩
    have key : ∀ (xs : List Int) (x : Int), xs.foldl (fun m y => if y < m then y else m) x ∈ x :: xs := by
      intro xs
      induction xs with
      | nil => intro x; simp
      | cons y ys ih =>
        intro x
        rw [List.foldl_cons]
        by_cases hlt : y < x
        · rw [if_pos hlt]; exact List.mem_cons_of_mem _ (ih y)
        · rw [if_neg hlt]
          rcases List.mem_cons.mp (ih x) with h | h
          · rw [h]; exact List.mem_cons_self ..
          · exact List.mem_cons_of_mem _ (List.mem_cons_of_mem _ h)
    exact key xs x
def cuts (w : List Int) : List Int := (K53.ups (w.length - 1)).filter fun i => least (w.drop i.toNat)
theorem q_tree (w : List Int) (hw : w.length ≤ 100) (s1 : Sl) : q_tree_of_least_0 [.val (tp w), s1] = .ok (.list ((cuts w).map PyData.int), [.val (tp w), s1]) := by
  unfold q_tree_of_least_0
  rw [eComp_pure (items := (K53.ups (w.length - 1)).map PyData.int) (fun d => match d with | .int i => least (w.drop i.toNat) | _ => false) id]
  · rw [List.map_id, List.filter_map]
    rfl
  · simp only [FL.run, runP, slots, outs, outD, List.replicate, List.length_cons, List.length_nil, sRet, sSeq, sIf, sSet, sE, sNx, sOwn, sThen, sFrz, sRetF, sRetM, sRetN, sPar, sBrk, sCnt, sBad, eC, eV, FL.e1, FL.e2, eAnd, eOr, eNot, eIf, eChain, aNil, aCons, eTup, eLst, eCall, eRep, oNone, oSome, eSl, mutAt, lstAt, m1, m2, m2r, m2m, mSl, mLst2, tE, tB, FL.tAnd, FL.tOr, FL.tNot, tM, tTrue, gN, gT, gAll, updM, updM0, setM, putMut, appD, bind_ok, bind_bad, bind_err, List.getElem?_cons_zero, List.getElem?_cons_succ, List.set_cons_zero, List.set_cons_succ, List.nil_append, List.cons_append, List.head?_cons, List.tail_cons, Bool.false_eq_true, if_false, if_true, Nat.sub_self, Nat.reduceSub, Nat.reduceAdd, reduceCtorEq, addD, subD, ixD, sliceD, lenD, truD, listD, tupleD, eCallM, arEv, arIn, arOut, arPs, bkL, bk1, List.lookup_cons, List.lookup_nil, blk, back, List.zip_cons_cons, List.zip_nil_left, List.zip_nil_right, List.map_cons, List.map_nil, List.drop_succ_cons, List.drop_zero, Option.getD_some, Option.getD_none, sFor, iE, itemsD, Bool.not_true, Bool.not_false, iR1, iR2, List.length_map]
    rw [range2D_ok (by omega) (by omega) (by omega) (by omega)]
    have : rng 1 (w.length : Int) = (K53.ups (w.length - 1)).map PyData.int := by
      rw [rng_map]; unfold K53.ups
      rw [show ((w.length : Int) - 1).toNat = w.length - 1 by omega]
    rw [this]
    rfl
  · simp [K53.ups, lim]; omega
  · intro x hx
    obtain ⟨i, hm, rfl⟩ := List.mem_map.mp hx
    obtain ⟨i1, i2⟩ := K53.mem_ups hm
    have hc : cut w (some i) none = w.drop i.toNat := by
      have := cut_from w i.toNat (by omega)
      rw [show ((i.toNat : Nat) : Int) = i by omega] at this
      exact this
    have hl := is_least_ok (w.drop i.toNat) (by rw [List.length_drop]; omega)
    refine ⟨[.val (.int i), .val (tp w)], rfl, ?_, fun _ => rfl, ?_⟩
    · simp only [FL.run, runP, slots, outs, outD, List.replicate, List.length_cons, List.length_nil, sRet, sSeq, sIf, sSet, sE, sNx, sOwn, sThen, sFrz, sRetF, sRetM, sRetN, sPar, sBrk, sCnt, sBad, eC, eV, FL.e1, FL.e2, eAnd, eOr, eNot, eIf, eChain, aNil, aCons, eTup, eLst, eCall, eRep, oNone, oSome, eSl, mutAt, lstAt, m1, m2, m2r, m2m, mSl, mLst2, tE, tB, FL.tAnd, FL.tOr, FL.tNot, tM, tTrue, gN, gT, gAll, updM, updM0, setM, putMut, appD, bind_ok, bind_bad, bind_err, List.getElem?_cons_zero, List.getElem?_cons_succ, List.set_cons_zero, List.set_cons_succ, List.nil_append, List.cons_append, List.head?_cons, List.tail_cons, Bool.false_eq_true, if_false, if_true, Nat.sub_self, Nat.reduceSub, Nat.reduceAdd, reduceCtorEq, addD, subD, ixD, sliceD, lenD, truD, listD, tupleD, eCallM, arEv, arIn, arOut, arPs, bkL, bk1, List.lookup_cons, List.lookup_nil, blk, back, List.zip_cons_cons, List.zip_nil_left, List.zip_nil_right, List.map_cons, List.map_nil, List.drop_succ_cons, List.drop_zero, Option.getD_some, Option.getD_none, sFor, iE, itemsD, Bool.not_true, Bool.not_false, iR1, iR2, range1D, range2D, map_cut, hc, il_eq]
      rw [show PyData.tuple ((w.drop i.toNat).map PyData.int) = tp (w.drop i.toNat) from rfl, hl]
      rfl
    · show bkL [(0, Sl.val (tp w))] 0 _ = _
      exact bkL_same (fun i p d e => by
        rw [List.lookup_cons] at e
        split at e <;> simp at e) _ 0
theorem least_one (a : Int) : least [a] = true := rfl
theorem tree_ok : ∀ (k : Nat) (w : List Int), 1 ≤ w.length → w.length ≤ k → w.length ≤ 100 → ∃ d, F_tree_of_least k [tp w] = .ok d ∧ ∀ j, k ≤ j → F__law_letters j [d] = .ok (tp w)
  | 0, w, h1, h2, _ => by omega
  | k + 1, w, h1, h2, h3 => by
    by_cases hl : w.length = 1
    · obtain ⟨a, rfl⟩ := List.length_eq_one_iff.mp hl
      refine ⟨.int a, rfl, fun j hj => ?_⟩
      obtain ⟨j, rfl⟩ : ∃ j', j = j' + 1 := ⟨j - 1, by omega⟩
      rfl
    · have hcn : cuts w ≠ [] := by
        have hm : ((w.length - 1 : Nat) : Int) ∈ cuts w := by
          unfold cuts
          refine List.mem_filter.mpr ⟨?_, ?_⟩
          · unfold K53.ups
            exact List.mem_map.mpr ⟨w.length - 2, List.mem_range.mpr (by omega), by omega⟩
          · have hd : (w.drop (w.length - 1)).length = 1 := by rw [List.length_drop]; omega
            obtain ⟨a, ha⟩ := List.length_eq_one_iff.mp hd
            show least (w.drop ((w.length - 1 : Nat) : Int).toNat) = true
            rw [show ((w.length - 1 : Nat) : Int).toNat = w.length - 1 by omega, ha]
            exact least_one a
        intro h
        rw [h] at hm
        cases hm
      obtain ⟨m, hm, em⟩ := minL_some hcn
      obtain ⟨m1, m2⟩ := K53.mem_ups (List.mem_filter.mp hm).1
      have hmn : m = (m.toNat : Int) := by omega
      generalize hM : m.toNat = M at hmn
      have M1 : 1 ≤ M := by omega
      have M2 : M < w.length := by omega
      have l1 : (w.take M).length = M := by rw [List.length_take]; omega
      have l2 : (w.drop M).length = w.length - M := List.length_drop
      obtain ⟨d1, t1, q1⟩ := tree_ok k (w.take M) (by omega) (by omega) (by omega)
      obtain ⟨d2, t2, q2⟩ := tree_ok k (w.drop M) (by omega) (by omega) (by omega)
      refine ⟨.tuple [d1, d2], ?_, fun j hj => ?_⟩
      · have hq := q_tree w h3 .no
        have c1 : cut w none (some m) = w.take M := by rw [hmn]; exact cut_to w M
        have c2 : cut w (some m) none = w.drop M := by rw [hmn]; exact cut_from w M (by omega)
        have he : eqD (.int (w.length : Int)) (.int 1) = .ok (.bool false) := by rw [eqD_int, decide_eq_false (by omega)]
        have hmin : minD (.list ((cuts w).map PyData.int)) = .ok (.int m) := by
          show (R.of (intsOf ((cuts w).map PyData.int))).bind _ = _
          rw [intsOf_map]
          show (R.of (minL (cuts w))).bind _ = _
          rw [em]; rfl
        have l3 : leB 2 lim = true := by decide
        show ((b_tree_of_least (F_tree_of_least k) [.val (tp w), .no]).bind _).bind _ = _
        have hb : b_tree_of_least (F_tree_of_least k) [.val (tp w), .no] = .ok (.rt (.tuple [d1, d2]), [.val (tp w), .val (.int m)]) := by
          have t1' : F_tree_of_least k [.tuple ((w.take M).map PyData.int)] = .ok d1 := t1
          have t2' : F_tree_of_least k [.tuple ((w.drop M).map PyData.int)] = .ok d2 := t2
          simp only [b_tree_of_least, FL.run, runP, slots, outs, outD, List.replicate, List.length_cons, List.length_nil, sRet, sSeq, sIf, sSet, sE, sNx, sOwn, sThen, sFrz, sRetF, sRetM, sRetN, sPar, sBrk, sCnt, sBad, eC, eV, FL.e1, FL.e2, eAnd, eOr, eNot, eIf, eChain, aNil, aCons, eTup, eLst, eCall, eRep, oNone, oSome, eSl, mutAt, lstAt, m1, m2, m2r, m2m, mSl, mLst2, tE, tB, FL.tAnd, FL.tOr, FL.tNot, tM, tTrue, gN, gT, gAll, updM, updM0, setM, putMut, appD, bind_ok, bind_bad, bind_err, List.getElem?_cons_zero, List.getElem?_cons_succ, List.set_cons_zero, List.set_cons_succ, List.nil_append, List.cons_append, List.head?_cons, List.tail_cons, Bool.false_eq_true, if_false, if_true, Nat.sub_self, Nat.reduceSub, Nat.reduceAdd, reduceCtorEq, addD, subD, ixD, sliceD, lenD, truD, listD, tupleD, eCallM, arEv, arIn, arOut, arPs, bkL, bk1, List.lookup_cons, List.lookup_nil, blk, back, List.zip_cons_cons, List.zip_nil_left, List.zip_nil_right, List.map_cons, List.map_nil, List.drop_succ_cons, List.drop_zero, Option.getD_some, Option.getD_none, sFor, iE, itemsD, Bool.not_true, Bool.not_false, iR1, iR2, range1D, range2D, List.length_map, he, hq, hmin, map_cut, c1, c2, t1', t2', chk_ok l3]
        rw [hb]
        rfl
      · obtain ⟨j, rfl⟩ : ∃ j', j = j' + 1 := ⟨j - 1, by omega⟩
        have a1 := q1 j (by omega)
        have a2 := q2 j (by omega)
        have hi : isiD' "tuple" (.tuple [d1, d2]) = .ok (.bool true) := rfl
        have x0 : atI [d1, d2] 0 = some d1 := rfl
        have x1 : atI [d1, d2] 1 = some d2 := rfl
        have hl3 : leB ((w.take M).length + (w.drop M).length) lim = true := leB_of (by unfold lim; omega)
        have hb : b__law_letters (F__law_letters j) [.val (.tuple [d1, d2])] = .ok (.rt (tp w), [.val (.tuple [d1, d2])]) := by
          simp only [b__law_letters, FL.run, runP, slots, outs, outD, List.replicate, List.length_cons, List.length_nil, sRet, sSeq, sIf, sSet, sE, sNx, sOwn, sThen, sFrz, sRetF, sRetM, sRetN, sPar, sBrk, sCnt, sBad, eC, eV, FL.e1, FL.e2, eAnd, eOr, eNot, eIf, eChain, aNil, aCons, eTup, eLst, eCall, eRep, oNone, oSome, eSl, mutAt, lstAt, m1, m2, m2r, m2m, mSl, mLst2, tE, tB, FL.tAnd, FL.tOr, FL.tNot, tM, tTrue, gN, gT, gAll, updM, updM0, setM, putMut, appD, bind_ok, bind_bad, bind_err, List.getElem?_cons_zero, List.getElem?_cons_succ, List.set_cons_zero, List.set_cons_succ, List.nil_append, List.cons_append, List.head?_cons, List.tail_cons, Bool.false_eq_true, if_false, if_true, Nat.sub_self, Nat.reduceSub, Nat.reduceAdd, reduceCtorEq, addD, subD, ixD, sliceD, lenD, truD, listD, tupleD, eCallM, arEv, arIn, arOut, arPs, bkL, bk1, List.lookup_cons, List.lookup_nil, blk, back, List.zip_cons_cons, List.zip_nil_left, List.zip_nil_right, List.map_cons, List.map_nil, List.drop_succ_cons, List.drop_zero, Option.getD_some, Option.getD_none, sFor, iE, itemsD, Bool.not_true, Bool.not_false, iR1, iR2, range1D, range2D, hi, R.of, x0, x1, a1, a2, List.length_map, chk_ok hl3]
          rw [← List.map_append, List.take_append_drop]
        show ((b__law_letters (F__law_letters j) [.val (.tuple [d1, d2])]).bind _).bind _ = _
        rw [hb]
        rfl
end K52
set_option Elab.async false
set_option linter.all false
set_option maxRecDepth 100000
namespace K52
open PySem FL
open K53 (least leastR fall wordsN mem_words)
def fine (w : List Int) : Bool := (leastR w == least w) && (!least w || decide (fall 10 w = [w]))
theorem fine_00 : ((wordsN 3).all fun w => fine (0 :: 0 :: w)) = true := by decide +kernel
theorem fine_01 : ((wordsN 3).all fun w => fine (0 :: 1 :: w)) = true := by decide +kernel
theorem fine_02 : ((wordsN 3).all fun w => fine (0 :: 2 :: w)) = true := by decide +kernel
theorem fine_03 : ((wordsN 3).all fun w => fine (0 :: 3 :: w)) = true := by decide +kernel
theorem fine_10 : ((wordsN 3).all fun w => fine (1 :: 0 :: w)) = true := by decide +kernel
theorem fine_11 : ((wordsN 3).all fun w => fine (1 :: 1 :: w)) = true := by decide +kernel
theorem fine_12 : ((wordsN 3).all fun w => fine (1 :: 2 :: w)) = true := by decide +kernel
theorem fine_13 : ((wordsN 3).all fun w => fine (1 :: 3 :: w)) = true := by decide +kernel
theorem fine_20 : ((wordsN 3).all fun w => fine (2 :: 0 :: w)) = true := by decide +kernel
theorem fine_21 : ((wordsN 3).all fun w => fine (2 :: 1 :: w)) = true := by decide +kernel
theorem fine_22 : ((wordsN 3).all fun w => fine (2 :: 2 :: w)) = true := by decide +kernel
theorem fine_23 : ((wordsN 3).all fun w => fine (2 :: 3 :: w)) = true := by decide +kernel
theorem fine_30 : ((wordsN 3).all fun w => fine (3 :: 0 :: w)) = true := by decide +kernel
theorem fine_31 : ((wordsN 3).all fun w => fine (3 :: 1 :: w)) = true := by decide +kernel
theorem fine_32 : ((wordsN 3).all fun w => fine (3 :: 2 :: w)) = true := by decide +kernel
theorem fine_33 : ((wordsN 3).all fun w => fine (3 :: 3 :: w)) = true := by decide +kernel
theorem fine_s : ((wordsN 1).all fun w => fine w) = true := by decide +kernel
theorem fine_two (a b : Int) (ha : 0 ≤ a ∧ a < 4) (hb : 0 ≤ b ∧ b < 4) : ((wordsN 3).all fun w => fine (a :: b :: w)) = true := by
  have h1 : a = 0 ∨ a = 1 ∨ a = 2 ∨ a = 3 := by omega
  have h2 : b = 0 ∨ b = 1 ∨ b = 2 ∨ b = 3 := by omega
  rcases h1 with rfl | rfl | rfl | rfl <;> rcases h2 with rfl | rfl | rfl | rfl
  · exact fine_00
  · exact fine_01
  · exact fine_02
  · exact fine_03
  · exact fine_10
  · exact fine_11
  · exact fine_12
  · exact fine_13
  · exact fine_20
  · exact fine_21
  · exact fine_22
  · exact fine_23
  · exact fine_30
  · exact fine_31
  · exact fine_32
  · exact fine_33
theorem fine_all (w : List Int) (h : w.length ≤ 5) (hx : ∀ x ∈ w, 0 ≤ x ∧ x < 4) : fine w = true := by
  match w, h, hx with
  | [], h, hx => exact List.all_eq_true.mp fine_s [] (mem_words 1 [] (by decide) hx)
  | [a], h, hx => exact List.all_eq_true.mp fine_s [a] (mem_words 1 [a] (by simp) hx)
  | a :: b :: w, h, hx => exact List.all_eq_true.mp (fine_two a b (hx a (by simp)) (hx b (by simp))) w (mem_words 3 w (by simpa using h) fun x m => hx x (by simp [m]))
theorem least_same (w : List Int) (h : w.length ≤ 5) (hx : ∀ x ∈ w, 0 ≤ x ∧ x < 4) : leastR w = least w := by
  have := fine_all w h hx
  unfold fine at this
  rw [Bool.and_eq_true] at this
  exact eq_of_beq this.1
theorem fall_least (w : List Int) (h : w.length ≤ 5) (hx : ∀ x ∈ w, 0 ≤ x ∧ x < 4) (hl : least w = true) : fall 10 w = [w] := by
  have := fine_all w h hx
  unfold fine at this
  rw [Bool.and_eq_true, hl] at this
  exact of_decide_eq_true (by simpa using this.2)
end K52
set_option Elab.async false
set_option linter.all false
set_option maxRecDepth 100000
namespace K52
open PySem FL
open K53 (least leastR fall is_least_ok law_least_ok is_word_ok refuse_ok fallen_ok nat_ints)
def dues (c n : Nat) : List (List Int) := (allW c n).filter least
theorem dues_len {c n : Nat} (hc : c ≤ 4) (hn : n ≤ 5) : (dues c n).length ≤ 1024 := Nat.le_trans (List.length_filter_le ..) (by rw [allW_len]; exact small_pow hc hn)
theorem dues_mem {c n : Nat} (hc : c ≤ 4) (hn : n ≤ 5) {w : List Int} (h : w ∈ dues c n) : (w.length ≤ 5 ∧ ∀ x ∈ w, 0 ≤ x ∧ x < 4) ∧ least w = true := by
  obtain ⟨h1, h2⟩ := List.mem_filter.mp h
  obtain ⟨h3, h4⟩ := allW_mem c n w h1
  exact ⟨⟨by omega, fun x m => by have := h4 x m; omega⟩, h2⟩
theorem ask_ok (s0 s1 s4 s5 s6 s7 s8 s9 : Sl) (h5 : Np s5) (k : Nat) (hk : k ≤ 100) (d : D) (hd : Purse k d) (as : List D) (ha : as.length ≤ 100) : ∃ (c n : Nat) (d' : D), 1 ≤ c ∧ c ≤ 4 ∧ 1 ≤ n ∧ n ≤ 5 ∧ Purse (k + 2) d' ∧
    u_law_0 [s0, s1, .ow false d, .ow false (.list as), s4, s5, s6, s7, s8, s9] = .ok (.nx, [s0, s1, .ow false d', .ow false (.list (as ++ [.tuple [.int c, .int n]])), s4, .val (.int c), s6, s7, s8, s9]) := by
  obtain ⟨g1, d1, t1, g10, g11, p1⟩ := take_ok hd (by omega) 4 (by decide) (by decide)
  obtain ⟨g2, d2, t2, g20, g21, p2⟩ := take_ok p1 (by omega) 5 (by decide) (by decide)
  obtain ⟨c, hc⟩ : ∃ c : Nat, (c : Int) = 1 + g1 := ⟨(1 + g1).toNat, by omega⟩
  obtain ⟨n, hn⟩ : ∃ n : Nat, (n : Int) = 1 + g2 := ⟨(1 + g2).toNat, by omega⟩
  have e1' := callM_1 (F := F__law_take) (i := 2) (f := eC (.int 4)) (ρ := [s0, s1, .ow false d, .ow false (.list as), s4, s5, s6, s7, s8, s9]) rfl rfl t1
  have e2' := callM_1 (F := F__law_take) (i := 2) (f := eC (.int 5)) (ρ := [s0, s1, .ow false d1, .ow false (.list as), s4, .val (.int c), s6, s7, s8, s9]) rfl rfl t2
  refine ⟨c, n, d2, by omega, by omega, by omega, by omega, p2, ?_⟩
  have h1 : (FL.e2 addD (eC (.int 1)) (eCallM F__law_take [.m 2, .v (eC (.int 4))])) [s0, s1, .ow false d, .ow false (.list as), s4, s5, s6, s7, s8, s9] = .ok (.int c, [s0, s1, .ow false d1, .ow false (.list as), s4, s5, s6, s7, s8, s9]) := by
    simp only [FL.e2, eC, bind_ok, e1', addD, hc]
    rfl
  unfold u_law_0
  rw [sSeq_nx (sSet_np h1 (x := s5) rfl h5)]
  have l2 : leB 2 lim = true := by decide
  have l3 : leB (as.length + 1) lim = true := leB_of (by unfold lim; omega)
  have h2 : (eTup (aCons (eV 5) (aCons (FL.e2 addD (eC (.int 1)) (eCallM F__law_take [.m 2, .v (eC (.int 5))])) aNil))) [s0, s1, .ow false d1, .ow false (.list as), s4, .val (.int c), s6, s7, s8, s9] = .ok (.tuple [.int c, .int n], [s0, s1, .ow false d2, .ow false (.list as), s4, .val (.int c), s6, s7, s8, s9]) := by
    have e3' : (FL.e2 addD (eC (.int 1)) (eCallM F__law_take [.m 2, .v (eC (.int 5))])) [s0, s1, .ow false d1, .ow false (.list as), s4, .val (.int c), s6, s7, s8, s9] = .ok (.int n, [s0, s1, .ow false d2, .ow false (.list as), s4, .val (.int c), s6, s7, s8, s9]) := by
      simp only [FL.e2, eC, bind_ok, e2', addD, hn]
      rfl
    have e4' : eV 5 [s0, s1, .ow false d1, .ow false (.list as), s4, .val (.int c), s6, s7, s8, s9] = .ok (.int c, [s0, s1, .ow false d1, .ow false (.list as), s4, .val (.int c), s6, s7, s8, s9]) := rfl
    unfold eTup aCons aNil
    simp only [e4', bind_ok, e3', List.length_cons, List.length_nil, chk_ok l2]
  show updM 3 appD _ [s0, s1, .ow false d1, .ow false (.list as), s4, .val (.int c), s6, s7, s8, s9] = _
  unfold updM
  simp only [lstAt, mutAt, List.getElem?_cons_zero, List.getElem?_cons_succ, bind_ok, h2, appD, chk_ok l3, putMut, List.set_cons_zero, List.set_cons_succ]
theorem asked_ok (s0 s1 s4 s5 s6 s7 s8 s9 : Sl) (h4 : Np s4) (h5 : Np s5) (d : D) (hd : Purse 0 d) : ∃ (c n c' n' : Nat) (d' : D) (t4 t5 : Sl), 1 ≤ c ∧ c ≤ 4 ∧ 1 ≤ n ∧ n ≤ 5 ∧ 1 ≤ c' ∧ c' ≤ 4 ∧ 1 ≤ n' ∧ n' ≤ 5 ∧ Purse 4 d' ∧ Np t4 ∧ Np t5 ∧
    w_law_0 [s0, s1, .ow false d, .ow false (.list []), s4, s5, s6, s7, s8, s9] = .ok (.nx, [s0, s1, .ow false d', .ow false (.list [.tuple [.int c, .int n], .tuple [.int c', .int n']]), t4, t5, s6, s7, s8, s9]) := by
  obtain ⟨c, n, d1, c1, c2, n1, n2, p1, e1'⟩ := ask_ok s0 s1 (.val (.int 0)) s5 s6 s7 s8 s9 h5 0 (by decide) d hd [] (by decide)
  obtain ⟨c', n', d2, c1', c2', n1', n2', p2, e2'⟩ := ask_ok s0 s1 (.val (.int 1)) (.val (.int c)) s6 s7 s8 s9 (np_val _) 2 (by decide) d1 p1 [.tuple [.int c, .int n]] (by simp)
  refine ⟨c, n, c', n', d2, .val (.int 1), .val (.int c'), c1, c2, n1, n2, c1', c2', n1', n2', p2, np_val _, np_val _, ?_⟩
  have hi : (iR1 (aCons (eC (.int 2)) aNil)) [s0, s1, .ow false d, .ow false (.list []), s4, s5, s6, s7, s8, s9] = .ok ([.int 0, .int 1], [s0, s1, .ow false d, .ow false (.list []), s4, s5, s6, s7, s8, s9]) := rfl
  have g1 : gN 4 (.int 0) [s0, s1, .ow false d, .ow false (.list []), s4, s5, s6, s7, s8, s9] = .ok [s0, s1, .ow false d, .ow false (.list []), .val (.int 0), s5, s6, s7, s8, s9] := gN_np (x := s4) rfl h4
  unfold w_law_0 sFor
  rw [hi, bind_ok]
  show forL (gN 4) u_law_0 [.int 0, .int 1] _ = _
  unfold forL
  rw [g1, bind_ok, e1', bind_ok]
  show forL (gN 4) u_law_0 [.int 1] _ = _
  unfold forL
  show (u_law_0 [s0, s1, .ow false d1, .ow false (.list [.tuple [.int c, .int n]]), .val (.int 1), .val (.int c), s6, s7, s8, s9]).bind _ = _
  rw [e2', bind_ok]
  rfl
theorem q0_ok (c n : Nat) (c2 : c ≤ 4) (n2 : n ≤ 5) : q_law_0 [.val (.int c), .val (.int n)] = .ok (ltp (dues c n), [.val (.int c), .val (.int n)]) := by
  unfold q_law_0
  rw [lw_test (allW c n) (by rw [allW_len]; have := small_pow c2 n2; omega) (fun w m => by have := (allW_mem c n w m).1; omega) F__law_is_least leastR (fun w hw => law_least_ok w hw) _ _ (by simp only [FL.run, runP, slots, outs, outD, List.replicate, List.length_cons, List.length_nil, sRet, sSeq, sIf, sSet, sE, sNx, sOwn, sThen, sFrz, sRetF, sRetM, sRetN, sPar, sBrk, sCnt, sBad, eC, eV, FL.e1, FL.e2, eAnd, eOr, eNot, eIf, eChain, aNil, aCons, eTup, eLst, eCall, eRep, oNone, oSome, eSl, mutAt, lstAt, m1, m2, m2r, m2m, mSl, mLst2, tE, tB, FL.tAnd, FL.tOr, FL.tNot, tM, tTrue, gN, gT, gAll, updM, updM0, setM, putMut, appD, bind_ok, bind_bad, bind_err, List.getElem?_cons_zero, List.getElem?_cons_succ, List.set_cons_zero, List.set_cons_succ, List.nil_append, List.cons_append, List.head?_cons, List.tail_cons, Bool.false_eq_true, if_false, if_true, Nat.sub_self, Nat.reduceSub, Nat.reduceAdd, reduceCtorEq, addD, subD, ixD, sliceD, lenD, truD, listD, tupleD, eCallM, arEv, arIn, arOut, arPs, bkL, bk1, List.lookup_cons, List.lookup_nil, blk, back, List.zip_cons_cons, List.zip_nil_left, List.zip_nil_right, List.map_cons, List.map_nil, List.drop_succ_cons, List.drop_zero, Option.getD_some, Option.getD_none, sFor, iE, itemsD, Bool.not_true, Bool.not_false, iR1, iR2, range1D, range2D, law_words_ok c n c2 n2])]
  congr 2
  unfold dues
  refine congrArg ltp (List.filter_congr fun w m => ?_)
  obtain ⟨h3, h4⟩ := allW_mem c n w m
  exact least_same w (by omega) fun x m => by have := h4 x m; omega
theorem q1_ok (s0 s1 s2 s4 s5 s6 s7 s8 s9 : Sl) (c n c' n' : Nat) (c2 : c ≤ 4) (n2 : n ≤ 5) (c2' : c' ≤ 4) (n2' : n' ≤ 5) : q_law_1 [s0, s1, s2, .val (.list [.tuple [.int c, .int n], .tuple [.int c', .int n']]), s4, s5, s6, s7, s8, s9] =
    .ok (.list [ltp (dues c n), ltp (dues c' n')], [s0, s1, s2, .val (.list [.tuple [.int c, .int n], .tuple [.int c', .int n']]), s4, s5, s6, s7, s8, s9]) := by
  unfold q_law_1
  rw [eComp_pure (items := [.tuple [.int c, .int n], .tuple [.int c', .int n']]) (fun _ => true) (fun d => match d with | .tuple [.int a, .int b] => ltp (dues a.toNat b.toNat) | d => d)]
  · rfl
  · rfl
  · simp [lim]
  · intro x hx
    have key : ∀ a b : Nat, a ≤ 4 → b ≤ 5 → ∃ β, gT [gN 0, gN 1] (.tuple [.int a, .int b]) (blk 2 [] [s0, s1, s2, .val (.list [.tuple [.int c, .int n], .tuple [.int c', .int n']]), s4, s5, s6, s7, s8, s9]) = .ok β ∧ tTrue β = .ok (true, β) ∧ (true = true → q_law_0 β = .ok (ltp (dues a b), β)) ∧ back [s0, s1, s2, .val (.list [.tuple [.int c, .int n], .tuple [.int c', .int n']]), s4, s5, s6, s7, s8, s9] [] (β.drop 2) = [s0, s1, s2, .val (.list [.tuple [.int c, .int n], .tuple [.int c', .int n']]), s4, s5, s6, s7, s8, s9] := by
      intro a b ha hb
      refine ⟨[.val (.int a), .val (.int b)], rfl, rfl, fun _ => q0_ok a b ha hb, ?_⟩
      exact bkL_same (fun i p d e => by cases e) _ 0
    rcases List.mem_cons.mp hx with rfl | hx
    · exact key c n c2 n2
    · have : x = .tuple [.int c', .int n'] := by simpa using hx
      subst this
      exact key c' n' c2' n2'
theorem word_turn (s0 s1 s2 s3 s4 s5 s6 s7 s8 : Sl) (w : List Int) (h1 : 1 ≤ w.length) (hw : w.length ≤ 5) (hx : ∀ x ∈ w, 0 ≤ x ∧ x < 4) (hl : least w = true) : u_law_1 [s0, s1, s2, s3, s4, s5, s6, s7, s8, .val (tp w)] = .ok (.nx, [s0, s1, s2, s3, s4, s5, s6, s7, s8, .val (tp w)]) := by
  have hf : F_fallen [tp w] = .ok (ltp [w]) := by
    have := fallen_ok w hw hx
    rw [fall_least w hw hx hl] at this
    exact this
  obtain ⟨d, td, ld⟩ := tree_ok 6 w h1 (by omega) (by omega)
  have hlet := ld 6 (Nat.le_refl _)
  have hr := refuse_ok w hw hx
  have hil := is_least_ok w (by omega)
  rw [hl] at hil
  have ht : F_least_tree [tp w] = .ok d := by
    have a1 : sE (eCall F_refuse_word (aCons (eV 0) aNil)) [.val (tp w)] = .ok (.nx, [.val (tp w)]) := by
      simp only [FL.run, runP, slots, outs, outD, List.replicate, List.length_cons, List.length_nil, sRet, sSeq, sIf, sSet, sE, sNx, sOwn, sThen, sFrz, sRetF, sRetM, sRetN, sPar, sBrk, sCnt, sBad, eC, eV, FL.e1, FL.e2, eAnd, eOr, eNot, eIf, eChain, aNil, aCons, eTup, eLst, eCall, eRep, oNone, oSome, eSl, mutAt, lstAt, m1, m2, m2r, m2m, mSl, mLst2, tE, tB, FL.tAnd, FL.tOr, FL.tNot, tM, tTrue, gN, gT, gAll, updM, updM0, setM, putMut, appD, bind_ok, bind_bad, bind_err, List.getElem?_cons_zero, List.getElem?_cons_succ, List.set_cons_zero, List.set_cons_succ, List.nil_append, List.cons_append, List.head?_cons, List.tail_cons, Bool.false_eq_true, if_false, if_true, Nat.sub_self, Nat.reduceSub, Nat.reduceAdd, reduceCtorEq, addD, subD, ixD, sliceD, lenD, truD, listD, tupleD, eCallM, arEv, arIn, arOut, arPs, bkL, bk1, List.lookup_cons, List.lookup_nil, blk, back, List.zip_cons_cons, List.zip_nil_left, List.zip_nil_right, List.map_cons, List.map_nil, List.drop_succ_cons, List.drop_zero, Option.getD_some, Option.getD_none, sFor, iE, itemsD, Bool.not_true, Bool.not_false, iR1, iR2, range1D, range2D, rw_eq, hr]
    have a2 : sIf (FL.tNot (tE (eCall F_is_least (aCons (eV 0) aNil)))) sBad sNx [.val (tp w)] = .ok (.nx, [.val (tp w)]) := by
      simp only [FL.run, runP, slots, outs, outD, List.replicate, List.length_cons, List.length_nil, sRet, sSeq, sIf, sSet, sE, sNx, sOwn, sThen, sFrz, sRetF, sRetM, sRetN, sPar, sBrk, sCnt, sBad, eC, eV, FL.e1, FL.e2, eAnd, eOr, eNot, eIf, eChain, aNil, aCons, eTup, eLst, eCall, eRep, oNone, oSome, eSl, mutAt, lstAt, m1, m2, m2r, m2m, mSl, mLst2, tE, tB, FL.tAnd, FL.tOr, FL.tNot, tM, tTrue, gN, gT, gAll, updM, updM0, setM, putMut, appD, bind_ok, bind_bad, bind_err, List.getElem?_cons_zero, List.getElem?_cons_succ, List.set_cons_zero, List.set_cons_succ, List.nil_append, List.cons_append, List.head?_cons, List.tail_cons, Bool.false_eq_true, if_false, if_true, Nat.sub_self, Nat.reduceSub, Nat.reduceAdd, reduceCtorEq, addD, subD, ixD, sliceD, lenD, truD, listD, tupleD, eCallM, arEv, arIn, arOut, arPs, bkL, bk1, List.lookup_cons, List.lookup_nil, blk, back, List.zip_cons_cons, List.zip_nil_left, List.zip_nil_right, List.map_cons, List.map_nil, List.drop_succ_cons, List.drop_zero, Option.getD_some, Option.getD_none, sFor, iE, itemsD, Bool.not_true, Bool.not_false, iR1, iR2, range1D, range2D, il_eq, hil]
    have a3 : sRet (eCall (F_tree_of_least 6) (aCons (eV 0) aNil)) [.val (tp w)] = .ok (.rt d, [.val (tp w)]) := by
      simp only [FL.run, runP, slots, outs, outD, List.replicate, List.length_cons, List.length_nil, sRet, sSeq, sIf, sSet, sE, sNx, sOwn, sThen, sFrz, sRetF, sRetM, sRetN, sPar, sBrk, sCnt, sBad, eC, eV, FL.e1, FL.e2, eAnd, eOr, eNot, eIf, eChain, aNil, aCons, eTup, eLst, eCall, eRep, oNone, oSome, eSl, mutAt, lstAt, m1, m2, m2r, m2m, mSl, mLst2, tE, tB, FL.tAnd, FL.tOr, FL.tNot, tM, tTrue, gN, gT, gAll, updM, updM0, setM, putMut, appD, bind_ok, bind_bad, bind_err, List.getElem?_cons_zero, List.getElem?_cons_succ, List.set_cons_zero, List.set_cons_succ, List.nil_append, List.cons_append, List.head?_cons, List.tail_cons, Bool.false_eq_true, if_false, if_true, Nat.sub_self, Nat.reduceSub, Nat.reduceAdd, reduceCtorEq, addD, subD, ixD, sliceD, lenD, truD, listD, tupleD, eCallM, arEv, arIn, arOut, arPs, bkL, bk1, List.lookup_cons, List.lookup_nil, blk, back, List.zip_cons_cons, List.zip_nil_left, List.zip_nil_right, List.map_cons, List.map_nil, List.drop_succ_cons, List.drop_zero, Option.getD_some, Option.getD_none, sFor, iE, itemsD, Bool.not_true, Bool.not_false, iR1, iR2, range1D, range2D, td]
    show ((b_least_tree [.val (tp w)]).bind _).bind _ = _
    unfold b_least_tree
    rw [sSeq_nx a1, sSeq_nx a2, a3]
    rfl
  have n1 : neD (ltp [w]) (.list [tp w]) = .ok (.bool false) := by
    refine (neD_ltp [w] [w]).trans ?_
    simp
  have n2 : neD (tp w) (tp w) = .ok (.bool false) := by rw [neD_tp]; simp
  have l1 : leB 1 lim = true := by decide
  have b1 : (tB (FL.e2 neD (eCall F_fallen (aCons (eV 9) aNil)) (eLst (aCons (eV 9) aNil)))) [s0, s1, s2, s3, s4, s5, s6, s7, s8, .val (tp w)] = .ok (false, [s0, s1, s2, s3, s4, s5, s6, s7, s8, .val (tp w)]) := by
    simp only [FL.run, runP, slots, outs, outD, List.replicate, List.length_cons, List.length_nil, sRet, sSeq, sIf, sSet, sE, sNx, sOwn, sThen, sFrz, sRetF, sRetM, sRetN, sPar, sBrk, sCnt, sBad, eC, eV, FL.e1, FL.e2, eAnd, eOr, eNot, eIf, eChain, aNil, aCons, eTup, eLst, eCall, eRep, oNone, oSome, eSl, mutAt, lstAt, m1, m2, m2r, m2m, mSl, mLst2, tE, tB, FL.tAnd, FL.tOr, FL.tNot, tM, tTrue, gN, gT, gAll, updM, updM0, setM, putMut, appD, bind_ok, bind_bad, bind_err, List.getElem?_cons_zero, List.getElem?_cons_succ, List.set_cons_zero, List.set_cons_succ, List.nil_append, List.cons_append, List.head?_cons, List.tail_cons, Bool.false_eq_true, if_false, if_true, Nat.sub_self, Nat.reduceSub, Nat.reduceAdd, reduceCtorEq, addD, subD, ixD, sliceD, lenD, truD, listD, tupleD, eCallM, arEv, arIn, arOut, arPs, bkL, bk1, List.lookup_cons, List.lookup_nil, blk, back, List.zip_cons_cons, List.zip_nil_left, List.zip_nil_right, List.map_cons, List.map_nil, List.drop_succ_cons, List.drop_zero, Option.getD_some, Option.getD_none, sFor, iE, itemsD, Bool.not_true, Bool.not_false, iR1, iR2, range1D, range2D, hf, chk_ok l1] at n1 ⊢
    simp only [FL.run, runP, slots, outs, outD, List.replicate, List.length_cons, List.length_nil, sRet, sSeq, sIf, sSet, sE, sNx, sOwn, sThen, sFrz, sRetF, sRetM, sRetN, sPar, sBrk, sCnt, sBad, eC, eV, FL.e1, FL.e2, eAnd, eOr, eNot, eIf, eChain, aNil, aCons, eTup, eLst, eCall, eRep, oNone, oSome, eSl, mutAt, lstAt, m1, m2, m2r, m2m, mSl, mLst2, tE, tB, FL.tAnd, FL.tOr, FL.tNot, tM, tTrue, gN, gT, gAll, updM, updM0, setM, putMut, appD, bind_ok, bind_bad, bind_err, List.getElem?_cons_zero, List.getElem?_cons_succ, List.set_cons_zero, List.set_cons_succ, List.nil_append, List.cons_append, List.head?_cons, List.tail_cons, Bool.false_eq_true, if_false, if_true, Nat.sub_self, Nat.reduceSub, Nat.reduceAdd, reduceCtorEq, addD, subD, ixD, sliceD, lenD, truD, listD, tupleD, eCallM, arEv, arIn, arOut, arPs, bkL, bk1, List.lookup_cons, List.lookup_nil, blk, back, List.zip_cons_cons, List.zip_nil_left, List.zip_nil_right, List.map_cons, List.map_nil, List.drop_succ_cons, List.drop_zero, Option.getD_some, Option.getD_none, sFor, iE, itemsD, Bool.not_true, Bool.not_false, iR1, iR2, range1D, range2D, n1]
  have b2 : (tB (FL.e2 neD (eCall (F__law_letters 6) (aCons (eCall F_least_tree (aCons (eV 9) aNil)) aNil)) (eV 9))) [s0, s1, s2, s3, s4, s5, s6, s7, s8, .val (tp w)] = .ok (false, [s0, s1, s2, s3, s4, s5, s6, s7, s8, .val (tp w)]) := by
    simp only [FL.run, runP, slots, outs, outD, List.replicate, List.length_cons, List.length_nil, sRet, sSeq, sIf, sSet, sE, sNx, sOwn, sThen, sFrz, sRetF, sRetM, sRetN, sPar, sBrk, sCnt, sBad, eC, eV, FL.e1, FL.e2, eAnd, eOr, eNot, eIf, eChain, aNil, aCons, eTup, eLst, eCall, eRep, oNone, oSome, eSl, mutAt, lstAt, m1, m2, m2r, m2m, mSl, mLst2, tE, tB, FL.tAnd, FL.tOr, FL.tNot, tM, tTrue, gN, gT, gAll, updM, updM0, setM, putMut, appD, bind_ok, bind_bad, bind_err, List.getElem?_cons_zero, List.getElem?_cons_succ, List.set_cons_zero, List.set_cons_succ, List.nil_append, List.cons_append, List.head?_cons, List.tail_cons, Bool.false_eq_true, if_false, if_true, Nat.sub_self, Nat.reduceSub, Nat.reduceAdd, reduceCtorEq, addD, subD, ixD, sliceD, lenD, truD, listD, tupleD, eCallM, arEv, arIn, arOut, arPs, bkL, bk1, List.lookup_cons, List.lookup_nil, blk, back, List.zip_cons_cons, List.zip_nil_left, List.zip_nil_right, List.map_cons, List.map_nil, List.drop_succ_cons, List.drop_zero, Option.getD_some, Option.getD_none, sFor, iE, itemsD, Bool.not_true, Bool.not_false, iR1, iR2, range1D, range2D, ht, hlet, n2]
  unfold u_law_1
  simp only [sIf, FL.tOr, b1, bind_ok, b2]
  rfl
theorem words_loop (s0 s1 s3 s4 s5 s7 s8 s9 : Sl) (h9 : Np s9) (c n : Nat) (c2 : c ≤ 4) (n1 : 1 ≤ n) (n2 : n ≤ 5) (ds : D) (d : D) (hd : Purse 4 d) : ∃ (d' : D) (t9 : Sl), Np t9 ∧
    w_law_1 [s0, s1, .ow false d, s3, s4, s5, .val (.list [ltp (dues c n), ds]), s7, s8, s9] = .ok (.nx, [s0, s1, .ow false d', s3, s4, s5, .val (.list [ltp (dues c n), ds]), s7, s8, t9]) := by
  have hdl := dues_len c2 n2
  obtain ⟨g, d1, t1, g0, g1, p1⟩ := take_ok hd (by decide) ((dues c n).length + 1 : Int) (by omega) (by omega)
  have i0 : atI [ltp (dues c n), ds] 0 = some (ltp (dues c n)) := rfl
  have hlen : (FL.e2 addD (FL.e1 lenD (FL.e2 ixD (eV 6) (eC (.int 0)))) (eC (.int 1))) [s0, s1, .ow false d, s3, s4, s5, .val (.list [ltp (dues c n), ds]), s7, s8, s9] = .ok (.int ((dues c n).length + 1), [s0, s1, .ow false d, s3, s4, s5, .val (.list [ltp (dues c n), ds]), s7, s8, s9]) := by
    simp only [FL.run, runP, slots, outs, outD, List.replicate, List.length_cons, List.length_nil, sRet, sSeq, sIf, sSet, sE, sNx, sOwn, sThen, sFrz, sRetF, sRetM, sRetN, sPar, sBrk, sCnt, sBad, eC, eV, FL.e1, FL.e2, eAnd, eOr, eNot, eIf, eChain, aNil, aCons, eTup, eLst, eCall, eRep, oNone, oSome, eSl, mutAt, lstAt, m1, m2, m2r, m2m, mSl, mLst2, tE, tB, FL.tAnd, FL.tOr, FL.tNot, tM, tTrue, gN, gT, gAll, updM, updM0, setM, putMut, appD, bind_ok, bind_bad, bind_err, List.getElem?_cons_zero, List.getElem?_cons_succ, List.set_cons_zero, List.set_cons_succ, List.nil_append, List.cons_append, List.head?_cons, List.tail_cons, Bool.false_eq_true, if_false, if_true, Nat.sub_self, Nat.reduceSub, Nat.reduceAdd, reduceCtorEq, addD, subD, ixD, sliceD, lenD, truD, listD, tupleD, eCallM, arEv, arIn, arOut, arPs, bkL, bk1, List.lookup_cons, List.lookup_nil, blk, back, List.zip_cons_cons, List.zip_nil_left, List.zip_nil_right, List.map_cons, List.map_nil, List.drop_succ_cons, List.drop_zero, Option.getD_some, Option.getD_none, sFor, iE, itemsD, Bool.not_true, Bool.not_false, iR1, iR2, range1D, range2D, R.of, i0, List.length_map]
  have e1' := callM_1 (F := F__law_take) (i := 2) (f := FL.e2 addD (FL.e1 lenD (FL.e2 ixD (eV 6) (eC (.int 0)))) (eC (.int 1))) (ρ := [s0, s1, .ow false d, s3, s4, s5, .val (.list [ltp (dues c n), ds]), s7, s8, s9]) rfl hlen t1
  have hg : g = (g.toNat : Int) := by omega
  have c1' : cut (dues c n) (some g) none = (dues c n).drop g.toNat := by
    have := cut_from (dues c n) g.toNat (by omega)
    rw [← hg] at this
    exact this
  have c2' : cut ((dues c n).drop g.toNat) none (some 6) = ((dues c n).drop g.toNat).take 6 := cut_to _ 6
  have hi : (iE (eSl (eSl (FL.e2 ixD (eV 6) (eC (.int 0))) (oSome (eCallM F__law_take [.m 2, .v (FL.e2 addD (FL.e1 lenD (FL.e2 ixD (eV 6) (eC (.int 0)))) (eC (.int 1)))])) oNone) oNone (oSome (eC (.int 6))))) [s0, s1, .ow false d, s3, s4, s5, .val (.list [ltp (dues c n), ds]), s7, s8, s9] =
      .ok ((((dues c n).drop g.toNat).take 6).map tp, [s0, s1, .ow false d1, s3, s4, s5, .val (.list [ltp (dues c n), ds]), s7, s8, s9]) := by
    have x0 : (FL.e2 ixD (eV 6) (eC (.int 0))) [s0, s1, .ow false d, s3, s4, s5, .val (.list [ltp (dues c n), ds]), s7, s8, s9] = .ok (ltp (dues c n), [s0, s1, .ow false d, s3, s4, s5, .val (.list [ltp (dues c n), ds]), s7, s8, s9]) := by
      simp only [FL.run, runP, slots, outs, outD, List.replicate, List.length_cons, List.length_nil, sRet, sSeq, sIf, sSet, sE, sNx, sOwn, sThen, sFrz, sRetF, sRetM, sRetN, sPar, sBrk, sCnt, sBad, eC, eV, FL.e1, FL.e2, eAnd, eOr, eNot, eIf, eChain, aNil, aCons, eTup, eLst, eCall, eRep, oNone, oSome, eSl, mutAt, lstAt, m1, m2, m2r, m2m, mSl, mLst2, tE, tB, FL.tAnd, FL.tOr, FL.tNot, tM, tTrue, gN, gT, gAll, updM, updM0, setM, putMut, appD, bind_ok, bind_bad, bind_err, List.getElem?_cons_zero, List.getElem?_cons_succ, List.set_cons_zero, List.set_cons_succ, List.nil_append, List.cons_append, List.head?_cons, List.tail_cons, Bool.false_eq_true, if_false, if_true, Nat.sub_self, Nat.reduceSub, Nat.reduceAdd, reduceCtorEq, addD, subD, ixD, sliceD, lenD, truD, listD, tupleD, eCallM, arEv, arIn, arOut, arPs, bkL, bk1, List.lookup_cons, List.lookup_nil, blk, back, List.zip_cons_cons, List.zip_nil_left, List.zip_nil_right, List.map_cons, List.map_nil, List.drop_succ_cons, List.drop_zero, Option.getD_some, Option.getD_none, sFor, iE, itemsD, Bool.not_true, Bool.not_false, iR1, iR2, range1D, range2D, R.of, i0]
    simp only [List.set_cons_zero, List.set_cons_succ] at e1'
    unfold iE eSl oSome oNone
    simp only [x0, bind_ok, e1', sliceD, map_cut, c1', c2', eC, itemsD]
  have FI := forL_inv (f := tp) (g := gN 9) (b := u_law_1) (fun pre ρ => ∃ y, Np y ∧ ρ = [s0, s1, .ow false d1, s3, s4, s5, .val (.list [ltp (dues c n), ds]), s7, s8, y]) (((dues c n).drop g.toNat).take 6) [] _ ⟨s9, h9, rfl⟩
  obtain ⟨ρ', e, y, hy, rfl⟩ := FI (by
    intro pre w post ρ ep ⟨y, hy, er⟩
    subst er
    have hm : w ∈ dues c n := by
      have : w ∈ [] ++ (((dues c n).drop g.toNat).take 6) := by rw [ep]; simp
      rw [List.nil_append] at this
      exact List.mem_of_mem_drop (List.mem_of_mem_take this)
    obtain ⟨⟨w5, wx⟩, wl⟩ := dues_mem c2 n2 hm
    have w1 : 1 ≤ w.length := by
      have := (allW_mem c n w (List.mem_filter.mp hm).1).1
      omega
    rw [gN_np (x := y) rfl hy, bind_ok]
    exact ⟨_, .nx, word_turn s0 s1 (.ow false d1) s3 s4 s5 (.val (.list [ltp (dues c n), ds])) s7 s8 w w1 w5 wx wl, .inl rfl, .val (tp w), np_val _, rfl⟩)
  refine ⟨d1, y, hy, ?_⟩
  unfold w_law_1 sFor
  rw [hi, bind_ok]
  exact e
end K52
set_option Elab.async false
set_option linter.all false
set_option maxRecDepth 100000
namespace K52
open PySem FL
theorem body_ok (ns : List Int) (x : Int) (s2 s3 s4 s5 s6 s7 s8 s9 : Sl) (h2 : Np s2) (h3 : Np s3) (h4 : Np s4) (h5 : Np s5) (h6 : Np s6) (h7 : Np s7) (h8 : Np s8) (h9 : Np s9) : ∃ t2 t3 t4 t5 t6 t7 t8 t9, Np t2 ∧ Np t3 ∧ Np t4 ∧ Np t5 ∧ Np t6 ∧ Np t7 ∧ Np t8 ∧ Np t9 ∧
    u_law_2 [.val (.list (ns.map PyData.int)), .val (.int x), s2, s3, s4, s5, s6, s7, s8, s9] = .ok (.nx, [.val (.list (ns.map PyData.int)), .val (.int x), t2, t3, t4, t5, t6, t7, t8, t9]) := by
  obtain ⟨d0, ed, pd⟩ := purse_ok x 52 (by decide)
  have a1 : (eCall F__law_purse (aCons (eV 1) (aCons (eC (.int 52)) aNil))) [.val (.list (ns.map PyData.int)), .val (.int x), s2, s3, s4, s5, s6, s7, s8, s9] = .ok (d0, [.val (.list (ns.map PyData.int)), .val (.int x), s2, s3, s4, s5, s6, s7, s8, s9]) := by
    simp only [FL.run, runP, slots, outs, outD, List.replicate, List.length_cons, List.length_nil, sRet, sSeq, sIf, sSet, sE, sNx, sOwn, sThen, sFrz, sRetF, sRetM, sRetN, sPar, sBrk, sCnt, sBad, eC, eV, FL.e1, FL.e2, eAnd, eOr, eNot, eIf, eChain, aNil, aCons, eTup, eLst, eCall, eRep, oNone, oSome, eSl, mutAt, lstAt, m1, m2, m2r, m2m, mSl, mLst2, tE, tB, FL.tAnd, FL.tOr, FL.tNot, tM, tTrue, gN, gT, gAll, updM, updM0, setM, putMut, appD, bind_ok, bind_bad, bind_err, List.getElem?_cons_zero, List.getElem?_cons_succ, List.set_cons_zero, List.set_cons_succ, List.nil_append, List.cons_append, List.head?_cons, List.tail_cons, Bool.false_eq_true, if_false, if_true, Nat.sub_self, Nat.reduceSub, Nat.reduceAdd, reduceCtorEq, addD, subD, ixD, sliceD, lenD, truD, listD, tupleD, eCallM, arEv, arIn, arOut, arPs, bkL, bk1, List.lookup_cons, List.lookup_nil, blk, back, List.zip_cons_cons, List.zip_nil_left, List.zip_nil_right, List.map_cons, List.map_nil, List.drop_succ_cons, List.drop_zero, Option.getD_some, Option.getD_none, sFor, iE, itemsD, Bool.not_true, Bool.not_false, iR1, iR2, range1D, range2D, purse_eq, ed]
  have a2 : eLst aNil [.val (.list (ns.map PyData.int)), .val (.int x), .ow false d0, s3, s4, s5, s6, s7, s8, s9] = .ok (.list [], [.val (.list (ns.map PyData.int)), .val (.int x), .ow false d0, s3, s4, s5, s6, s7, s8, s9]) := rfl
  obtain ⟨c, n, c', n', d, t4, t5, c1, c2, n1, n2, c1', c2', n1', n2', pd4, h4', h5', a3⟩ := asked_ok (.val (.list (ns.map PyData.int))) (.val (.int x)) s4 s5 s6 s7 s8 s9 h4 h5 d0 pd
  have a4 : q_law_1 [.val (.list (ns.map PyData.int)), .val (.int x), .ow false d, .val (.list [.tuple [.int c, .int n], .tuple [.int c', .int n']]), t4, t5, s6, s7, s8, s9] = .ok (.list [ltp (dues c n), ltp (dues c' n')], [.val (.list (ns.map PyData.int)), .val (.int x), .ow false d, .val (.list [.tuple [.int c, .int n], .tuple [.int c', .int n']]), t4, t5, s6, s7, s8, s9]) := q1_ok _ _ _ _ _ _ _ _ _ c n c' n' c2 n2 c2' n2'
  have a5 : sFrz 3 (sThen 6 (sOwn 6 q_law_1)) [.val (.list (ns.map PyData.int)), .val (.int x), .ow false d, .ow false (.list [.tuple [.int c, .int n], .tuple [.int c', .int n']]), t4, t5, s6, s7, s8, s9] = .ok (.nx, [.val (.list (ns.map PyData.int)), .val (.int x), .ow false d, .val (.list [.tuple [.int c, .int n], .tuple [.int c', .int n']]), t4, t5, .val (.list [ltp (dues c n), ltp (dues c' n')]), s7, s8, s9]) := by
    unfold sFrz sThen
    show ((sOwn 6 q_law_1 [.val (.list (ns.map PyData.int)), .val (.int x), .ow false d, .val (.list [.tuple [.int c, .int n], .tuple [.int c', .int n']]), t4, t5, s6, s7, s8, s9]).bind _) = _
    rw [sOwn_np a4 (x := s6) rfl h6]
    rfl
  have w1 := least_words_ok c n c1 c2 n1 n2
  have w2 := least_words_ok c' n' c1' c2' n1' n2'
  have i0 : atI [PyData.tuple [PyData.int (c : Int), .int (n : Int)], .tuple [.int (c' : Int), .int (n' : Int)]] 0 = some (.tuple [.int c, .int n]) := rfl
  have i1 : atI [PyData.tuple [PyData.int (c : Int), .int (n : Int)], .tuple [.int (c' : Int), .int (n' : Int)]] 1 = some (.tuple [.int c', .int n']) := rfl
  have j0 : ∀ a b : D, atI [a, b] 0 = some a := fun _ _ => rfl
  have j1 : ∀ a b : D, atI [a, b] 1 = some b := fun _ _ => rfl
  have a6 : ∀ u6 u7 u8 u9 : Sl, (eCall F_least_words (aCons (FL.e2 ixD (FL.e2 ixD (eV 3) (eC (.int 0))) (eC (.int 0))) (aCons (FL.e2 ixD (FL.e2 ixD (eV 3) (eC (.int 0))) (eC (.int 1))) aNil))) [.val (.list (ns.map PyData.int)), .val (.int x), .ow false d, .val (.list [.tuple [.int c, .int n], .tuple [.int c', .int n']]), t4, t5, u6, u7, u8, u9] = .ok (ltp (dues c n), [.val (.list (ns.map PyData.int)), .val (.int x), .ow false d, .val (.list [.tuple [.int c, .int n], .tuple [.int c', .int n']]), t4, t5, u6, u7, u8, u9]) := by
    intro u6 u7 u8 u9
    simp only [FL.run, runP, slots, outs, outD, List.replicate, List.length_cons, List.length_nil, sRet, sSeq, sIf, sSet, sE, sNx, sOwn, sThen, sFrz, sRetF, sRetM, sRetN, sPar, sBrk, sCnt, sBad, eC, eV, FL.e1, FL.e2, eAnd, eOr, eNot, eIf, eChain, aNil, aCons, eTup, eLst, eCall, eRep, oNone, oSome, eSl, mutAt, lstAt, m1, m2, m2r, m2m, mSl, mLst2, tE, tB, FL.tAnd, FL.tOr, FL.tNot, tM, tTrue, gN, gT, gAll, updM, updM0, setM, putMut, appD, bind_ok, bind_bad, bind_err, List.getElem?_cons_zero, List.getElem?_cons_succ, List.set_cons_zero, List.set_cons_succ, List.nil_append, List.cons_append, List.head?_cons, List.tail_cons, Bool.false_eq_true, if_false, if_true, Nat.sub_self, Nat.reduceSub, Nat.reduceAdd, reduceCtorEq, addD, subD, ixD, sliceD, lenD, truD, listD, tupleD, eCallM, arEv, arIn, arOut, arPs, bkL, bk1, List.lookup_cons, List.lookup_nil, blk, back, List.zip_cons_cons, List.zip_nil_left, List.zip_nil_right, List.map_cons, List.map_nil, List.drop_succ_cons, List.drop_zero, Option.getD_some, Option.getD_none, sFor, iE, itemsD, Bool.not_true, Bool.not_false, iR1, iR2, range1D, range2D, R.of, j0, j1, w1]
    rfl
  have a7 : (eCall F_least_words (aCons (FL.e2 ixD (FL.e2 ixD (eV 3) (eC (.int 1))) (eC (.int 0))) (aCons (FL.e2 ixD (FL.e2 ixD (eV 3) (eC (.int 1))) (eC (.int 1))) aNil))) [.val (.list (ns.map PyData.int)), .val (.int x), .ow false d, .val (.list [.tuple [.int c, .int n], .tuple [.int c', .int n']]), t4, t5, .val (.list [ltp (dues c n), ltp (dues c' n')]), .ow false (ltp (dues c n)), s8, s9] = .ok (ltp (dues c' n'), [.val (.list (ns.map PyData.int)), .val (.int x), .ow false d, .val (.list [.tuple [.int c, .int n], .tuple [.int c', .int n']]), t4, t5, .val (.list [ltp (dues c n), ltp (dues c' n')]), .ow false (ltp (dues c n)), s8, s9]) := by
    simp only [FL.run, runP, slots, outs, outD, List.replicate, List.length_cons, List.length_nil, sRet, sSeq, sIf, sSet, sE, sNx, sOwn, sThen, sFrz, sRetF, sRetM, sRetN, sPar, sBrk, sCnt, sBad, eC, eV, FL.e1, FL.e2, eAnd, eOr, eNot, eIf, eChain, aNil, aCons, eTup, eLst, eCall, eRep, oNone, oSome, eSl, mutAt, lstAt, m1, m2, m2r, m2m, mSl, mLst2, tE, tB, FL.tAnd, FL.tOr, FL.tNot, tM, tTrue, gN, gT, gAll, updM, updM0, setM, putMut, appD, bind_ok, bind_bad, bind_err, List.getElem?_cons_zero, List.getElem?_cons_succ, List.set_cons_zero, List.set_cons_succ, List.nil_append, List.cons_append, List.head?_cons, List.tail_cons, Bool.false_eq_true, if_false, if_true, Nat.sub_self, Nat.reduceSub, Nat.reduceAdd, reduceCtorEq, addD, subD, ixD, sliceD, lenD, truD, listD, tupleD, eCallM, arEv, arIn, arOut, arPs, bkL, bk1, List.lookup_cons, List.lookup_nil, blk, back, List.zip_cons_cons, List.zip_nil_left, List.zip_nil_right, List.map_cons, List.map_nil, List.drop_succ_cons, List.drop_zero, Option.getD_some, Option.getD_none, sFor, iE, itemsD, Bool.not_true, Bool.not_false, iR1, iR2, range1D, range2D, R.of, j0, j1, w2]
    rfl
  have l1 := dues_len c2 n2
  have l2 := dues_len c2' n2'
  have r1 : F__law_right [ltp (dues c n), ltp (dues c n)] = .ok (.bool true, [ltp (dues c n), ltp (dues c n)]) := by
    rw [law_right_ok _ _ (by omega)]; simp
  have r2 : F__law_right [ltp (dues c' n'), ltp (dues c' n')] = .ok (.bool true, [ltp (dues c' n'), ltp (dues c' n')]) := by
    rw [law_right_ok _ _ (by omega)]; simp
  have x0 : ∀ u7 u8 u9 : Sl, (FL.e2 ixD (eV 6) (eC (.int 0))) [.val (.list (ns.map PyData.int)), .val (.int x), .ow false d, .val (.list [.tuple [.int c, .int n], .tuple [.int c', .int n']]), t4, t5, .val (.list [ltp (dues c n), ltp (dues c' n')]), u7, u8, u9] = .ok (ltp (dues c n), [.val (.list (ns.map PyData.int)), .val (.int x), .ow false d, .val (.list [.tuple [.int c, .int n], .tuple [.int c', .int n']]), t4, t5, .val (.list [ltp (dues c n), ltp (dues c' n')]), u7, u8, u9]) := by
    intro u7 u8 u9
    simp only [FL.run, runP, slots, outs, outD, List.replicate, List.length_cons, List.length_nil, sRet, sSeq, sIf, sSet, sE, sNx, sOwn, sThen, sFrz, sRetF, sRetM, sRetN, sPar, sBrk, sCnt, sBad, eC, eV, FL.e1, FL.e2, eAnd, eOr, eNot, eIf, eChain, aNil, aCons, eTup, eLst, eCall, eRep, oNone, oSome, eSl, mutAt, lstAt, m1, m2, m2r, m2m, mSl, mLst2, tE, tB, FL.tAnd, FL.tOr, FL.tNot, tM, tTrue, gN, gT, gAll, updM, updM0, setM, putMut, appD, bind_ok, bind_bad, bind_err, List.getElem?_cons_zero, List.getElem?_cons_succ, List.set_cons_zero, List.set_cons_succ, List.nil_append, List.cons_append, List.head?_cons, List.tail_cons, Bool.false_eq_true, if_false, if_true, Nat.sub_self, Nat.reduceSub, Nat.reduceAdd, reduceCtorEq, addD, subD, ixD, sliceD, lenD, truD, listD, tupleD, eCallM, arEv, arIn, arOut, arPs, bkL, bk1, List.lookup_cons, List.lookup_nil, blk, back, List.zip_cons_cons, List.zip_nil_left, List.zip_nil_right, List.map_cons, List.map_nil, List.drop_succ_cons, List.drop_zero, Option.getD_some, Option.getD_none, sFor, iE, itemsD, Bool.not_true, Bool.not_false, iR1, iR2, range1D, range2D, R.of, j0]
  have x1 : ∀ u7 u8 u9 : Sl, (FL.e2 ixD (eV 6) (eC (.int 1))) [.val (.list (ns.map PyData.int)), .val (.int x), .ow false d, .val (.list [.tuple [.int c, .int n], .tuple [.int c', .int n']]), t4, t5, .val (.list [ltp (dues c n), ltp (dues c' n')]), u7, u8, u9] = .ok (ltp (dues c' n'), [.val (.list (ns.map PyData.int)), .val (.int x), .ow false d, .val (.list [.tuple [.int c, .int n], .tuple [.int c', .int n']]), t4, t5, .val (.list [ltp (dues c n), ltp (dues c' n')]), u7, u8, u9]) := by
    intro u7 u8 u9
    simp only [FL.run, runP, slots, outs, outD, List.replicate, List.length_cons, List.length_nil, sRet, sSeq, sIf, sSet, sE, sNx, sOwn, sThen, sFrz, sRetF, sRetM, sRetN, sPar, sBrk, sCnt, sBad, eC, eV, FL.e1, FL.e2, eAnd, eOr, eNot, eIf, eChain, aNil, aCons, eTup, eLst, eCall, eRep, oNone, oSome, eSl, mutAt, lstAt, m1, m2, m2r, m2m, mSl, mLst2, tE, tB, FL.tAnd, FL.tOr, FL.tNot, tM, tTrue, gN, gT, gAll, updM, updM0, setM, putMut, appD, bind_ok, bind_bad, bind_err, List.getElem?_cons_zero, List.getElem?_cons_succ, List.set_cons_zero, List.set_cons_succ, List.nil_append, List.cons_append, List.head?_cons, List.tail_cons, Bool.false_eq_true, if_false, if_true, Nat.sub_self, Nat.reduceSub, Nat.reduceAdd, reduceCtorEq, addD, subD, ixD, sliceD, lenD, truD, listD, tupleD, eCallM, arEv, arIn, arOut, arPs, bkL, bk1, List.lookup_cons, List.lookup_nil, blk, back, List.zip_cons_cons, List.zip_nil_left, List.zip_nil_right, List.map_cons, List.map_nil, List.drop_succ_cons, List.drop_zero, Option.getD_some, Option.getD_none, sFor, iE, itemsD, Bool.not_true, Bool.not_false, iR1, iR2, range1D, range2D, R.of, j1]
  have m1' := callM_1 (F := F__law_right) (i := 7) (f := FL.e2 ixD (eV 6) (eC (.int 0))) (ρ := [.val (.list (ns.map PyData.int)), .val (.int x), .ow false d, .val (.list [.tuple [.int c, .int n], .tuple [.int c', .int n']]), t4, t5, .val (.list [ltp (dues c n), ltp (dues c' n')]), .ow false (ltp (dues c n)), .ow false (ltp (dues c' n')), s9]) rfl (x0 _ _ _) r1
  have m2' := callM_1 (F := F__law_right) (i := 8) (f := FL.e2 ixD (eV 6) (eC (.int 1))) (ρ := [.val (.list (ns.map PyData.int)), .val (.int x), .ow false d, .val (.list [.tuple [.int c, .int n], .tuple [.int c', .int n']]), t4, t5, .val (.list [ltp (dues c n), ltp (dues c' n')]), .ow false (ltp (dues c n)), .ow false (ltp (dues c' n')), s9]) rfl (x1 _ _ _) r2
  simp only [List.set_cons_zero, List.set_cons_succ] at m1' m2'
  have a8 : sIf (FL.tOr (FL.tNot (tE (eCallM F__law_right [.m 7, .v (FL.e2 ixD (eV 6) (eC (.int 0)))]))) (FL.tNot (tE (eCallM F__law_right [.m 8, .v (FL.e2 ixD (eV 6) (eC (.int 1)))])))) (sRet (eC (.bool false))) sNx [.val (.list (ns.map PyData.int)), .val (.int x), .ow false d, .val (.list [.tuple [.int c, .int n], .tuple [.int c', .int n']]), t4, t5, .val (.list [ltp (dues c n), ltp (dues c' n')]), .ow false (ltp (dues c n)), .ow false (ltp (dues c' n')), s9] = .ok (.nx, [.val (.list (ns.map PyData.int)), .val (.int x), .ow false d, .val (.list [.tuple [.int c, .int n], .tuple [.int c', .int n']]), t4, t5, .val (.list [ltp (dues c n), ltp (dues c' n')]), .ow false (ltp (dues c n)), .ow false (ltp (dues c' n')), s9]) := by
    simp only [sIf, FL.tOr, FL.tNot, tE, m1', bind_ok, truD, m2', Bool.not_true, Bool.false_eq_true, if_false, sNx]
  have l3 : leB (((dues c n).map tp).length + 1) lim = true := leB_of (by rw [List.length_map]; unfold lim; omega)
  have a9 : updM 7 appD (eTup aNil) [.val (.list (ns.map PyData.int)), .val (.int x), .ow false d, .val (.list [.tuple [.int c, .int n], .tuple [.int c', .int n']]), t4, t5, .val (.list [ltp (dues c n), ltp (dues c' n')]), .ow false (ltp (dues c n)), .ow false (ltp (dues c' n')), s9] = .ok (.nx, [.val (.list (ns.map PyData.int)), .val (.int x), .ow false d, .val (.list [.tuple [.int c, .int n], .tuple [.int c', .int n']]), t4, t5, .val (.list [ltp (dues c n), ltp (dues c' n')]), .ow false (.list ((dues c n).map tp ++ [.tuple []])), .ow false (ltp (dues c' n')), s9]) := by
    simp only [FL.run, runP, slots, outs, outD, List.replicate, List.length_cons, List.length_nil, sRet, sSeq, sIf, sSet, sE, sNx, sOwn, sThen, sFrz, sRetF, sRetM, sRetN, sPar, sBrk, sCnt, sBad, eC, eV, FL.e1, FL.e2, eAnd, eOr, eNot, eIf, eChain, aNil, aCons, eTup, eLst, eCall, eRep, oNone, oSome, eSl, mutAt, lstAt, m1, m2, m2r, m2m, mSl, mLst2, tE, tB, FL.tAnd, FL.tOr, FL.tNot, tM, tTrue, gN, gT, gAll, updM, updM0, setM, putMut, appD, bind_ok, bind_bad, bind_err, List.getElem?_cons_zero, List.getElem?_cons_succ, List.set_cons_zero, List.set_cons_succ, List.nil_append, List.cons_append, List.head?_cons, List.tail_cons, Bool.false_eq_true, if_false, if_true, Nat.sub_self, Nat.reduceSub, Nat.reduceAdd, reduceCtorEq, addD, subD, ixD, sliceD, lenD, truD, listD, tupleD, eCallM, arEv, arIn, arOut, arPs, bkL, bk1, List.lookup_cons, List.lookup_nil, blk, back, List.zip_cons_cons, List.zip_nil_left, List.zip_nil_right, List.map_cons, List.map_nil, List.drop_succ_cons, List.drop_zero, Option.getD_some, Option.getD_none, sFor, iE, itemsD, Bool.not_true, Bool.not_false, iR1, iR2, range1D, range2D, chk_ok (leB_of (Nat.zero_le lim)), chk_ok l3]
  have a10 : updM0 8 revD [.val (.list (ns.map PyData.int)), .val (.int x), .ow false d, .val (.list [.tuple [.int c, .int n], .tuple [.int c', .int n']]), t4, t5, .val (.list [ltp (dues c n), ltp (dues c' n')]), .ow false (.list ((dues c n).map tp ++ [.tuple []])), .ow false (ltp (dues c' n')), s9] = .ok (.nx, [.val (.list (ns.map PyData.int)), .val (.int x), .ow false d, .val (.list [.tuple [.int c, .int n], .tuple [.int c', .int n']]), t4, t5, .val (.list [ltp (dues c n), ltp (dues c' n')]), .ow false (.list ((dues c n).map tp ++ [.tuple []])), .ow false (.list ((dues c' n').map tp).reverse), s9]) := by
    simp only [FL.run, runP, slots, outs, outD, List.replicate, List.length_cons, List.length_nil, sRet, sSeq, sIf, sSet, sE, sNx, sOwn, sThen, sFrz, sRetF, sRetM, sRetN, sPar, sBrk, sCnt, sBad, eC, eV, FL.e1, FL.e2, eAnd, eOr, eNot, eIf, eChain, aNil, aCons, eTup, eLst, eCall, eRep, oNone, oSome, eSl, mutAt, lstAt, m1, m2, m2r, m2m, mSl, mLst2, tE, tB, FL.tAnd, FL.tOr, FL.tNot, tM, tTrue, gN, gT, gAll, updM, updM0, setM, putMut, appD, bind_ok, bind_bad, bind_err, List.getElem?_cons_zero, List.getElem?_cons_succ, List.set_cons_zero, List.set_cons_succ, List.nil_append, List.cons_append, List.head?_cons, List.tail_cons, Bool.false_eq_true, if_false, if_true, Nat.sub_self, Nat.reduceSub, Nat.reduceAdd, reduceCtorEq, addD, subD, ixD, sliceD, lenD, truD, listD, tupleD, eCallM, arEv, arIn, arOut, arPs, bkL, bk1, List.lookup_cons, List.lookup_nil, blk, back, List.zip_cons_cons, List.zip_nil_left, List.zip_nil_right, List.map_cons, List.map_nil, List.drop_succ_cons, List.drop_zero, Option.getD_some, Option.getD_none, sFor, iE, itemsD, Bool.not_true, Bool.not_false, iR1, iR2, range1D, range2D, revD]
  have m3' := callM_t (F := F__law_right) (ρ := [.val (.list (ns.map PyData.int)), .val (.int x), .ow false d, .val (.list [.tuple [.int c, .int n], .tuple [.int c', .int n']]), t4, t5, .val (.list [ltp (dues c n), ltp (dues c' n')]), .ow false (.list ((dues c n).map tp ++ [.tuple []])), .ow false (.list ((dues c' n').map tp).reverse), s9]) (a6 _ _ _ _) (x0 _ _ _) r1
  have a11 : sIf (FL.tNot (tE (eCallM F__law_right [.t (eCall F_least_words (aCons (FL.e2 ixD (FL.e2 ixD (eV 3) (eC (.int 0))) (eC (.int 0))) (aCons (FL.e2 ixD (FL.e2 ixD (eV 3) (eC (.int 0))) (eC (.int 1))) aNil))), .v (FL.e2 ixD (eV 6) (eC (.int 0)))]))) (sRet (eC (.bool false))) sNx [.val (.list (ns.map PyData.int)), .val (.int x), .ow false d, .val (.list [.tuple [.int c, .int n], .tuple [.int c', .int n']]), t4, t5, .val (.list [ltp (dues c n), ltp (dues c' n')]), .ow false (.list ((dues c n).map tp ++ [.tuple []])), .ow false (.list ((dues c' n').map tp).reverse), s9] = .ok (.nx, [.val (.list (ns.map PyData.int)), .val (.int x), .ow false d, .val (.list [.tuple [.int c, .int n], .tuple [.int c', .int n']]), t4, t5, .val (.list [ltp (dues c n), ltp (dues c' n')]), .ow false (.list ((dues c n).map tp ++ [.tuple []])), .ow false (.list ((dues c' n').map tp).reverse), s9]) := by
    simp only [sIf, FL.tNot, tE, m3', bind_ok, truD, Bool.not_true, Bool.false_eq_true, if_false, sNx]
  obtain ⟨d9, t9, h9', a12⟩ := words_loop (.val (.list (ns.map PyData.int))) (.val (.int x)) (.val (.list [.tuple [.int c, .int n], .tuple [.int c', .int n']])) t4 t5 (.ow false (.list ((dues c n).map tp ++ [.tuple []]))) (.ow false (.list ((dues c' n').map tp).reverse)) s9 h9 c n c2 n1 n2 (ltp (dues c' n')) d pd4
  refine ⟨.ow false d9, .val (.list [.tuple [.int c, .int n], .tuple [.int c', .int n']]), t4, t5, .val (.list [ltp (dues c n), ltp (dues c' n')]), .ow false (.list ((dues c n).map tp ++ [.tuple []])), .ow false (.list ((dues c' n').map tp).reverse), t9, np_ow _, np_val _, h4', h5', np_val _, np_ow _, np_ow _, h9', ?_⟩
  unfold u_law_2
  rw [sSeq_nx (sOwn_np a1 (x := s2) rfl h2)]
  simp only [List.set_cons_zero, List.set_cons_succ]
  rw [sSeq_nx (sOwn_np a2 (x := s3) rfl h3)]
  simp only [List.set_cons_zero, List.set_cons_succ]
  rw [sSeq_nx a3, sSeq_nx a5, sSeq_nx (sOwn_np (a6 _ _ _ _) (x := s7) rfl h7)]
  simp only [List.set_cons_zero, List.set_cons_succ]
  rw [sSeq_nx (sOwn_np a7 (x := s8) rfl h8)]
  simp only [List.set_cons_zero, List.set_cons_succ]
  rw [sSeq_nx a8, sSeq_nx a9, sSeq_nx a10, sSeq_nx a11]
  exact a12
theorem law_true (ns : List Int) (hl : ns.length ≤ 63) : F_law [.list (ns.map PyData.int)] = .ok (.bool true) := by
  obtain ⟨a, ea⟩ := at_ok ns 1 (by decide) (by decide)
  have hi : (iE (FL.e2 addD (eSl (eV 0) oNone (oSome (eC (.int 3)))) (eLst (aCons (eCall F__law_at (aCons (eV 0) (aCons (eC (.int 1)) aNil))) aNil)))) [.val (.list (ns.map PyData.int)), .no, .no, .no, .no, .no, .no, .no, .no, .no] = .ok ((ns.take 3 ++ [a]).map PyData.int, [.val (.list (ns.map PyData.int)), .no, .no, .no, .no, .no, .no, .no, .no, .no]) := by
    have h1 : leB 1 lim = true := by decide
    have c8 : cut ns none (some 3) = ns.take 3 := cut_to ns 3
    have l2 : leB (((ns.take 3).map PyData.int).length + 1) lim = true := leB_of (by rw [List.length_map, List.length_take]; unfold lim; omega)
    simp only [FL.run, runP, slots, outs, outD, List.replicate, List.length_cons, List.length_nil, sRet, sSeq, sIf, sSet, sE, sNx, sOwn, sThen, sFrz, sRetF, sRetM, sRetN, sPar, sBrk, sCnt, sBad, eC, eV, FL.e1, FL.e2, eAnd, eOr, eNot, eIf, eChain, aNil, aCons, eTup, eLst, eCall, eRep, oNone, oSome, eSl, mutAt, lstAt, m1, m2, m2r, m2m, mSl, mLst2, tE, tB, FL.tAnd, FL.tOr, FL.tNot, tM, tTrue, gN, gT, gAll, updM, updM0, setM, putMut, appD, bind_ok, bind_bad, bind_err, List.getElem?_cons_zero, List.getElem?_cons_succ, List.set_cons_zero, List.set_cons_succ, List.nil_append, List.cons_append, List.head?_cons, List.tail_cons, Bool.false_eq_true, if_false, if_true, Nat.sub_self, Nat.reduceSub, Nat.reduceAdd, reduceCtorEq, addD, subD, ixD, sliceD, lenD, truD, listD, tupleD, eCallM, arEv, arIn, arOut, arPs, bkL, bk1, List.lookup_cons, List.lookup_nil, blk, back, List.zip_cons_cons, List.zip_nil_left, List.zip_nil_right, List.map_cons, List.map_nil, List.drop_succ_cons, List.drop_zero, Option.getD_some, Option.getD_none, sFor, iE, itemsD, Bool.not_true, Bool.not_false, iR1, iR2, range1D, range2D, at_eq, ea, chk_ok h1, map_cut, c8, chk_ok l2, List.map_append]
  have FI := forL_inv (f := PyData.int) (g := gN 1) (b := u_law_2) (fun pre ρ => ∃ t1 t2 t3 t4 t5 t6 t7 t8 t9, Np t1 ∧ Np t2 ∧ Np t3 ∧ Np t4 ∧ Np t5 ∧ Np t6 ∧ Np t7 ∧ Np t8 ∧ Np t9 ∧ ρ = [.val (.list (ns.map PyData.int)), t1, t2, t3, t4, t5, t6, t7, t8, t9])
    (ns.take 3 ++ [a]) [] [.val (.list (ns.map PyData.int)), .no, .no, .no, .no, .no, .no, .no, .no, .no] ⟨.no, .no, .no, .no, .no, .no, .no, .no, .no, np_no, np_no, np_no, np_no, np_no, np_no, np_no, np_no, np_no, rfl⟩
  obtain ⟨ρ', e, t1, t2, t3, t4, t5, t6, t7, t8, t9, _, _, _, _, _, _, _, _, _, rfl⟩ := FI (by
    intro pre c post ρ ep ⟨t1, t2, t3, t4, t5, t6, t7, t8, t9, h1, h2, h3, h4, h5, h6, h7, h8, h9, er⟩
    subst er
    rw [gN_np (x := t1) rfl h1, bind_ok]
    obtain ⟨u2, u3, u4, u5, u6, u7, u8, u9, n2, n3, n4, n5, n6, n7, n8, n9, eo⟩ := body_ok ns c t2 t3 t4 t5 t6 t7 t8 t9 h2 h3 h4 h5 h6 h7 h8 h9
    exact ⟨_, .nx, eo, .inl rfl, .val (.int c), u2, u3, u4, u5, u6, u7, u8, u9, np_val _, n2, n3, n4, n5, n6, n7, n8, n9, rfl⟩)
  have hw1 : w_law_2 [.val (.list (ns.map PyData.int)), .no, .no, .no, .no, .no, .no, .no, .no, .no] = .ok (.nx, [.val (.list (ns.map PyData.int)), t1, t2, t3, t4, t5, t6, t7, t8, t9]) := by
    unfold w_law_2 sFor
    rw [hi, bind_ok]
    exact e
  have hb : b_law [.val (.list (ns.map PyData.int)), .no, .no, .no, .no, .no, .no, .no, .no, .no] = .ok (.rt (.bool true), [.val (.list (ns.map PyData.int)), t1, t2, t3, t4, t5, t6, t7, t8, t9]) := by
    unfold b_law
    rw [sSeq_nx hw1]
    simp only [FL.run, runP, slots, outs, outD, List.replicate, List.length_cons, List.length_nil, sRet, sSeq, sIf, sSet, sE, sNx, sOwn, sThen, sFrz, sRetF, sRetM, sRetN, sPar, sBrk, sCnt, sBad, eC, eV, FL.e1, FL.e2, eAnd, eOr, eNot, eIf, eChain, aNil, aCons, eTup, eLst, eCall, eRep, oNone, oSome, eSl, mutAt, lstAt, m1, m2, m2r, m2m, mSl, mLst2, tE, tB, FL.tAnd, FL.tOr, FL.tNot, tM, tTrue, gN, gT, gAll, updM, updM0, setM, putMut, appD, bind_ok, bind_bad, bind_err, List.getElem?_cons_zero, List.getElem?_cons_succ, List.set_cons_zero, List.set_cons_succ, List.nil_append, List.cons_append, List.head?_cons, List.tail_cons, Bool.false_eq_true, if_false, if_true, Nat.sub_self, Nat.reduceSub, Nat.reduceAdd, reduceCtorEq, addD, subD, ixD, sliceD, lenD, truD, listD, tupleD, eCallM, arEv, arIn, arOut, arPs, bkL, bk1, List.lookup_cons, List.lookup_nil, blk, back, List.zip_cons_cons, List.zip_nil_left, List.zip_nil_right, List.map_cons, List.map_nil, List.drop_succ_cons, List.drop_zero, Option.getD_some, Option.getD_none, sFor, iE, itemsD, Bool.not_true, Bool.not_false, iR1, iR2, range1D, range2D]
  show ((b_law [.val (.list (ns.map PyData.int)), .no, .no, .no, .no, .no, .no, .no, .no, .no]).bind _).bind _ = _
  rw [hb]
  rfl
end K52
set_option Elab.async false
set_option linter.all false
open PySem PySem.W PyProof.Rows
set_option maxRecDepth 100000 in
set_option maxHeartbeats 0 in
theorem PySem.Challenge.cw_swaprest_k52_least_words_told_holds : PySem.Challenge.rw_swaprest_k52_least_words_told.Holds := by
  w_on; o_law; k_head; (case hw => w_witness2)
  k_fill
  refine K52.walk (l := PySem.Challenge.rw_swaprest_k52_least_words_told) K52.law_true rfl rfl (fun w h Y => PySem.W.kIn_of Y) ?F
  case F =>
    intro w mg fa h KX G hmg
    refine' K52.all_mk KX G hmg ?q_is_whole ?l_is_whole ?c_is_whole ?kp_is_whole ?q_all_words ?l_all_words ?c_all_words ?kp_all_words ?q_is_least ?l_is_least ?c_is_least ?kp_is_least ?q__law_mixed ?l__law_mixed ?c__law_mixed ?kp__law_mixed ?q__law_at ?l__law_at ?c__law_at ?kp__law_at ?q__law_is_least ?l__law_is_least ?c__law_is_least ?kp__law_is_least ?q__law_words ?l__law_words ?c__law_words ?kp__law_words ?q__law_letters ?l__law_letters ?c__law_letters ?kp__law_letters ?q__law_right ?l__law_right ?c__law_right ?kp__law_right ?q_is_word ?l_is_word ?c_is_word ?kp_is_word ?q_refuse_letters ?l_refuse_letters ?c_refuse_letters ?kp_refuse_letters ?q_fallen_words ?l_fallen_words ?c_fallen_words ?kp_fallen_words ?q_tree_of_least ?l_tree_of_least ?c_tree_of_least ?kp_tree_of_least ?q__law_purse ?l__law_purse ?c__law_purse ?kp__law_purse ?q__law_take ?l__law_take ?c__law_take ?kp__law_take ?q_refuse_word ?l_refuse_word ?c_refuse_word ?kp_refuse_word ?q_least_words ?l_least_words ?c_least_words ?kp_least_words ?q_fallen ?l_fallen ?c_fallen ?kp_fallen ?q_least_tree ?l_least_tree ?c_least_tree ?kp_least_tree ?q_law ?l_law ?c_law ?kp_law ?m_MOST_LETTERS ?m_MOST_LONG ?n_abs ?n_isinstance ?n_int ?n_bool ?n_tuple ?n_list ?n_str ?n_len ?n_all ?n_range ?n_zip ?n_enumerate ?n_max ?n_min ?n_sum
    (case q_is_whole => k_is)
    (case l_is_whole => k_is)
    (case c_is_whole => k_is)
    (case kp_is_whole => k_is)
    (case q_all_words => k_is)
    (case l_all_words => k_is)
    (case c_all_words => k_is)
    (case kp_all_words => k_is)
    (case q_is_least => k_is)
    (case l_is_least => k_is)
    (case c_is_least => k_is)
    (case kp_is_least => k_is)
    (case q__law_mixed => k_is)
    (case l__law_mixed => k_is)
    (case c__law_mixed => k_is)
    (case kp__law_mixed => k_is)
    (case q__law_at => k_is)
    (case l__law_at => k_is)
    (case c__law_at => k_is)
    (case kp__law_at => k_is)
    (case q__law_is_least => k_is)
    (case l__law_is_least => k_is)
    (case c__law_is_least => k_is)
    (case kp__law_is_least => k_is)
    (case q__law_words => k_is)
    (case l__law_words => k_is)
    (case c__law_words => k_is)
    (case kp__law_words => k_is)
    (case q__law_letters => k_is)
    (case l__law_letters => k_is)
    (case c__law_letters => k_is)
    (case kp__law_letters => k_is)
    (case q__law_right => k_is)
    (case l__law_right => k_is)
    (case c__law_right => k_is)
    (case kp__law_right => k_is)
    (case q_is_word => k_is)
    (case l_is_word => k_is)
    (case c_is_word => k_is)
    (case kp_is_word => k_is)
    (case q_refuse_letters => k_is)
    (case l_refuse_letters => k_is)
    (case c_refuse_letters => k_is)
    (case kp_refuse_letters => k_is)
    (case q_fallen_words => k_is)
    (case l_fallen_words => k_is)
    (case c_fallen_words => k_is)
    (case kp_fallen_words => k_is)
    (case q_tree_of_least => k_is)
    (case l_tree_of_least => k_is)
    (case c_tree_of_least => k_is)
    (case kp_tree_of_least => k_is)
    (case q__law_purse => k_is)
    (case l__law_purse => k_is)
    (case c__law_purse => k_is)
    (case kp__law_purse => k_is)
    (case q__law_take => k_is)
    (case l__law_take => k_is)
    (case c__law_take => k_is)
    (case kp__law_take => k_is)
    (case q_refuse_word => k_is)
    (case l_refuse_word => k_is)
    (case c_refuse_word => k_is)
    (case kp_refuse_word => k_is)
    (case q_least_words => k_is)
    (case l_least_words => k_is)
    (case c_least_words => k_is)
    (case kp_least_words => k_is)
    (case q_fallen => k_is)
    (case l_fallen => k_is)
    (case c_fallen => k_is)
    (case kp_fallen => k_is)
    (case q_least_tree => k_is)
    (case l_least_tree => k_is)
    (case c_least_tree => k_is)
    (case kp_least_tree => k_is)
    (case q_law => k_is)
    (case l_law => k_is)
    (case c_law => k_is)
    (case kp_law => k_is)
    (case m_MOST_LETTERS => k_is)
    (case m_MOST_LONG => k_is)
    (case n_abs => k_is)
    (case n_isinstance => k_is)
    (case n_int => k_is)
    (case n_bool => k_is)
    (case n_tuple => k_is)
    (case n_list => k_is)
    (case n_str => k_is)
    (case n_len => k_is)
    (case n_all => k_is)
    (case n_range => k_is)
    (case n_zip => k_is)
    (case n_enumerate => k_is)
    (case n_max => k_is)
    (case n_min => k_is)
    (case n_sum => k_is)
