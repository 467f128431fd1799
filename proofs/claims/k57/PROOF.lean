import PyProof.Rows.All
import Wide.All
import OpenK.AllK
import Wide.FinOn
import Lean
import PyProof.EqAt
import PyProof.EqKinds
import PyProof.TupleCall
import PyProof.EqLayable
import PyProof.StationsW
import PyProof.NsDelKeeps
import PyProof.ExcArgsOwn
import PyProof.ExcAttrAll.ValueError
import PyProof.ZipIter
import PyProof.EnumFor
import PyProof.EnumStmt
import PyProof.EnumMake
import PyProof.ConsumeWalk
import PyProof.Cells
import PyProof.CompUse
import PyProof.DictIter
import PyProof.DictWalks
import PyProof.CollectWalk
import PyProof.WalksS
import PyProof.DictRoadsH
import KE.KSortTup
import PyProof.P3In
import KE.KRevSl
import PyProof.P3Statements
import KE.KMinKey
import PyProof.ReprReads
import PyProof.ReprRoads
import PyProof.ReprBulk
import PyProof.FitsInt
import PySem.Challenge.RW_swaprest_k57_letters_joined_and_cut
set_option Elab.async false
set_option linter.all false
set_option maxRecDepth 100000
set_option maxHeartbeats 4000000
namespace L2
open PySem PySem.Spec PyProof.Rows
abbrev Key := Sum Int Str
def zkv : Key -> Value -> Bool
 | .inl k,v => Value.isInt k v
 | .inr x,v => Value.isStrOf x v
def zvD (w : World) : Key -> Int
 | .inl k => hashInt k
 | .inr x => hashStr w x
theorem zaX : ∀ {k : Key} {v : Value},zkv k v = true -> (∃ i t,k = Sum.inl i /\ v = Value.int i t) \/ (∃ x t,k = Sum.inr x /\ v = Value.str x t)
 | .inl i,v,h => by
  obtain ⟨t,e⟩ := Value.isInt_shape (k:=i) (v:=v) h
  exact .inl ⟨i,t,rfl,e⟩
 | .inr x,v,h => by
  obtain ⟨t,e⟩ := Value.isStrOf_shape (x:=x) (v:=v) h
  exact .inr ⟨x,t,rfl,e⟩
theorem znx (i : Int) (t : Tok) : zkv (.inl i) (.int i t) = true := by simp [zkv,Value.isInt]
theorem znw (x : Str) (t : Tok) : zkv (.inr x) (.str x t) = true := by simp [zkv,Value.isStrOf]
theorem zsT (a b : Int) : decide ((Sum.inl a : Key) = Sum.inl b) = (a == b):=by
 by_cases e : a = b
 ·subst e; simp
 ·have h : ¬ (Sum.inl a : Key) = Sum.inl b := fun q => e (Sum.inl.inj q)
  rw [decide_eq_false h]
  exact (beq_eq_false_iff_ne.mpr e).symm
theorem zsP (a b : Str) : decide ((Sum.inr a : Key) = Sum.inr b) = decide (a = b):=by
 by_cases e : a = b
 ·subst e; simp
 ·have h : ¬ (Sum.inr a : Key) = Sum.inr b := fun q => e (Sum.inr.inj q)
  rw [decide_eq_false h,decide_eq_false e]
theorem zsS (a : Int) (b : Str) : decide ((Sum.inl a : Key) = Sum.inr b) = false := decide_eq_false (fun q => nomatch q)
theorem zsQ (a : Str) (b : Int) : decide ((Sum.inr a : Key) = Sum.inl b) = false := decide_eq_false (fun q => nomatch q)
def zaK (prog : Program) (w : World) : PySem.KeyKind prog w Key where
 is := zkv
 hash := zvD w
 inj := fun v a b ha hb => by
  rcases zaX ha with ⟨i,t,rfl,rfl⟩ | ⟨x,t,rfl,rfl⟩
  ·rcases zaX hb with ⟨j,u,rfl,e⟩ | ⟨y,u,rfl,e⟩
   ·injection e with e1 _; rw [e1]
   ·exact nomatch e
  ·rcases zaX hb with ⟨j,u,rfl,e⟩ | ⟨y,u,rfl,e⟩
   ·exact nomatch e
   ·injection e with e1 _; rw [e1]
 byValue := fun k v h => by
  rcases zaX h with ⟨i,t,rfl,rfl⟩ | ⟨x,t,rfl,rfl⟩ <;> rfl
 pyHash := fun hv h => by
  rcases zaX hv with ⟨i,t,rfl,rfl⟩ | ⟨x,t,rfl,rfl⟩
  ·exact wpAny_pyHash_int h
  ·exact wpAny_pyHash_str h
 eqBool := fun hu hv h => by
  rcases zaX hu with ⟨i,t,rfl,rfl⟩ | ⟨x,t,rfl,rfl⟩
  ·rcases zaX hv with ⟨j,u,rfl,rfl⟩ | ⟨y,u,rfl,rfl⟩
   ·rw [zsT] at h; exact wpAny_eqBool_int h
   ·rw [zsS] at h; exact SeqAt.EqAt.int_str i t y u _ _ _ _ h
  ·rcases zaX hv with ⟨j,u,rfl,rfl⟩ | ⟨y,u,rfl,rfl⟩
   ·rw [zsQ] at h; exact SeqAt.EqAt.str_int x t j u _ _ _ _ h
   ·rw [zsP] at h; exact wpAny_eqBool_str h
 «strs» := fun k x t v h => by
  rcases zaX h with ⟨i,u,rfl,e⟩ | ⟨y,u,rfl,e⟩
  ·exact nomatch e
  ·injection e with e1 _
   subst e1
   cases v <;> rfl
theorem zkq (prog : Program) (w : World) (i : Int) (t : Tok) : (zaK prog w).is (.inl i) (.int i t) = true := znx i t
theorem zkp (prog : Program) (w : World) (x : Str) (t : Tok) : (zaK prog w).is (.inr x) (.str x t) = true := znw x t
end L2
namespace L2
open PySem PySem.Spec PyProof.Rows
inductive V where
 | non | bl (b : Bool) | int (i : Int) | str (x : Str) | byt (b : Array UInt8) | flt (b : UInt64) | ref (a : Addr) | ty (n : String)
 deriving DecidableEq
def RelV : V -> Value -> Prop
 | .non,u => u = Value.none
 | .bl b,u => u = Value.bool b
 | .int i,u => ∃ t,u = Value.int i t
 | .str x,u => ∃ t,u = Value.str x t
 | .byt b,u => ∃ t,u = Value.bytes b t
 | .flt b,u => ∃ t,u = Value.float b t
 | .ref a,u => u = Value.ref a
 | .ty n,u => u = Value.type n
abbrev Vals : List V -> List Value -> Prop := Paired RelV
theorem Vals.length {xs : List V} {us : List Value} (r : Vals xs us) : xs.length = us.length := Paired.length r
theorem Vals.get : ∀ {xs : List V} {us : List Value} {i : Nat} {x : V},Vals xs us -> xs[i]? = some x -> ∃ u,us[i]? = some u /\ RelV x u
 | _,_,_,_,.nil,e => by simp at e
 | _,_,0,_,.cons r _,e => by simp at e; subst e; exact ⟨_,rfl,r⟩
 | _,_,i + 1,x,.cons _ t,e => by
  obtain ⟨u,h1,h2⟩ := Vals.get (i:=i) (x:=x) t (by simpa using e)
  exact ⟨u,by simpa using h1,h2⟩
theorem Vals.set {x : V} {u : Value} (r : RelV x u) : ∀ {xs : List V} {us : List Value} (i : Nat),Vals xs us -> Vals (xs.set i x) (us.set i u)
 | _,_,_,.nil => .nil
 | _,_,0,.cons _ t => .cons r t
 | _,_,i + 1,.cons q t => .cons q (Vals.set r i t)
theorem Vals.append : ∀ {xs ys : List V} {us ws : List Value},Vals xs us -> Vals ys ws -> Vals (xs ++ ys) (us ++ ws)
 | _,_,_,_,.nil,s => s
 | _,_,_,_,.cons r t,s => .cons r (Vals.append t s)
theorem Vals.take : ∀ {xs : List V} {us : List Value} (n : Nat),Vals xs us -> Vals (xs.take n) (us.take n)
 | _,_,0,_ => .nil
 | _,_,_ + 1,.nil => .nil
 | _,_,n + 1,.cons r t => .cons r (Vals.take n t)
theorem Vals.drop : ∀ {xs : List V} {us : List Value} (n : Nat),Vals xs us -> Vals (xs.drop n) (us.drop n)
 | _,_,0,r => r
 | _,_,_ + 1,.nil => .nil
 | _,_,n + 1,.cons _ t => Vals.drop n t
def zkR : Option V -> Option Value -> Prop
 | some v,some u => RelV v u
 | none,none => True
 | _,_ => False
def KV {κ : Type} : List (κ × V) -> List (κ × Value) -> Prop := Paired fun (p : κ × V) (q : κ × Value) => p.1 = q.1 /\ RelV p.2 q.2
def kV : Key -> V
 | .inl i => .int i
 | .inr x => .str x
inductive HO where
 /-- a list -/
 | lst (xs : List V)
 /-- a tuple (never changes) -/
 | tup (xs : List V)
 /-- a dict whose keys are ints and texts; one whose keys are tuples of ints and texts (the empty one is both) -/
 | dK (kvs : List (Key × V)) | dT (kvs : List (List Key × V))
 /-- a set of ints: its members,its size -/
 | set (S : Int -> Bool) (n : Nat)
 /-- an instance of the class at C,its dict at dx,its attributes -/
 | ins (C dx : Addr) (fs : List (Str × V))
 /-- the dict of the instance at x -/
 | own (x : Addr)
 /-- the dict of an exception -/
 | xd (fs : List (Str × V))
 /-- a bound method,f of x -/
 | met (f x : Addr)
 /-- a range object lo,lo + 1,.. below hi -/
 | rng (lo hi : Int)
 /-- a thing that is known to the object (the script; a dict while a loop walks it): read,never written while it is so -/
 | frz (o : Obj) (u : HO)
 /-- a code object's table -/
 | tbl (ps : Array Value)
 /-- any other thing,by what is true of its one object (a def of one's own: SetO a S n := HO.ext fun h => ..) -/
 | ext (φ : Heap -> Prop)
abbrev Hp := Addr -> Option HO
def upd (H : Hp) (a : Addr) (o : HO) : Hp := fun b => if b = a then some o else H b
theorem zas {H : Hp} {a : Addr} {o : HO} : upd H a o a = some o := by unfold upd; rw [if_pos rfl]
theorem zay {H : Hp} {a b : Addr} {o : HO} (h : b ≠ a) : upd H a o b = H b := by unfold upd; rw [if_neg h]
theorem zgm {H : Hp} {a : Addr} {o u : HO} : upd (upd H a o) a u = upd H a u:=by
 funext b; unfold upd; split <;> rfl
theorem zf0 {H : Hp} {a b : Addr} {o u : HO} (h : H a = some o) (h' : H b = some u) (d : o ≠ u) : a ≠ b:=by
 intro e; subst e; rw [h] at h'; exact d (Option.some.inj h')
theorem zbQ {H : Hp} {a b : Addr} {o : HO} (h : H a = some o) (h' : H b = none) : a ≠ b:=by
 intro e; subst e; rw [h] at h'; cases h'
def TAt (H : Hp) (b : Addr) (xs : List V) : Prop := H b = some (.tup xs) \/ ∃ o,H b = some (.frz o (.tup xs))
theorem TAt.upd {H : Hp} {a b : Addr} {u : HO} {xs : List V} (q : TAt H b xs) (n1 : ∀ ys,H b = some (.tup ys) -> b ≠ a) (n2 : ∀ o ys,H b = some (.frz o (.tup ys)) -> b ≠ a) : TAt (upd H a u) b xs:=by
 rcases q with q | ⟨o,q⟩
 ·left; rw [zay (n1 _ q)]; exact q
 ·right; exact ⟨o,by rw [zay (n2 _ _ q)]; exact q⟩
section
variable (P : Program) (w : World)
def zbu (H : Hp) (h : Heap) (a : Addr) : HO -> Prop
 | .lst xs => xs.length <= sizeLine /\ ∃ (its : List Value) (n : Nat),Vals xs its /\ h.get? a = some { cls := .type "list",data := .seq its.toArray n }
 | .tup xs => xs.length <= sizeLine /\ ∃ its : List Value,Vals xs its /\ IsTup h a its.toArray
 | .dK kvs => kvs.length <= sizeLine /\ (a == sysModules) = false /\ ∃ vs,KV kvs vs /\ h.DictOf (zaK P w) a vs
 | .dT kvs => kvs.length <= sizeLine /\ (a == sysModules) = false /\ ∃ xs : List (List Key × Addr × Value),
   Paired (fun (p : List Key × V) (q : List Key × Addr × Value) => p.1 = q.1 /\ TAt H q.2.1 (p.1.map kV) /\ RelV p.2 q.2.2) kvs xs /\
   ∃ o es ep,h.get? a = some o /\ o.ExactDict /\ o.data = .dict es ep /\ es.toList = xs.map (entryOfKey (tupleKind (zaK P w))) /\ (xs.map (·.1)).Nodup
 | .set S n => h.SetOf (intKind P w) a S n
 | .ins C dx fs => H dx = some (.own a) /\ fs.length <= 1000 /\ dx ≠ a /\ h.get? a = some (PySem.W.instObj C dx) /\
   ∃ mA,h.Ns1 dx mA /\ (∀ f,zkR (fs.lookup f) (mA f)) /\ PySem.Within mA (fs.map (·.1))
 | .own _ => ∃ o,h.get? a = some o
 | .xd fs => ∃ mA,h.Ns1 a mA /\ ∀ f,zkR (fs.lookup f) (mA f)
 | .rng lo hi => ∃ t u v,h.get? a = some { cls := .type "range",data := .fields #[.int lo t,.int hi u,.int 1 v] }
 | .frz o u => h.get? a = some o /\ zbu H h a u
 | .tbl ps => h.get? a = some { cls := .none,data := .fields ps }
 | .met f x => h.get? a = some (PySem.W.methodObj (.ref f) (.ref x))
 | .ext φ => φ h /\ (∃ o,h.get? a = some o) /\ ∀ h1 h2 : Heap,φ h1 -> (∀ o,h1.get? a = some o -> h2.get? a = some o) -> φ h2
def HOk (H : Hp) (h : Heap) : Prop := ∀ a o,H a = some o -> zbu P w H h a o
end
section
variable {P : Program} {w : World} {H H' : Hp} {h h' : Heap} {a : Addr} {o : HO}
theorem zbu.lt (x : zbu P w H h a o) : a < h.objs.size:=by
 cases o with
 | lst xs => obtain ⟨_,_,_,_,e⟩ := x; exact Heap.lt_size e
 | tup xs => obtain ⟨_,_,_,p⟩ := x; exact p.lt
 | dK kvs => obtain ⟨_,_,_,_,o,_,_,e,_⟩ := x; exact Heap.lt_size e
 | dT kvs => obtain ⟨_,_,_,_,o,_,_,e,_⟩ := x; exact Heap.lt_size e
 | set S n => obtain ⟨o,_,_,_,e,_⟩ := x; exact Heap.lt_size e
 | ins C dx fs => obtain ⟨_,_,_,e,_⟩ := x; exact Heap.lt_size e
 | own y => obtain ⟨_,e⟩ := x; exact Heap.lt_size e
 | xd fs => obtain ⟨_,⟨_,_,_,e,_⟩,_⟩ := x; exact Heap.lt_size e
 | rng lo hi => obtain ⟨_,_,_,e⟩ := x; exact Heap.lt_size e
 | frz ob u => obtain ⟨e,_⟩ := x; exact Heap.lt_size e
 | tbl ps => exact Heap.lt_size (show h.get? a = some _ from x)
 | met f y => exact Heap.lt_size (show h.get? a = some _ from x)
 | ext φ => obtain ⟨_,⟨_,e⟩,_⟩ := x; exact Heap.lt_size e
theorem Paired.zuo {α β : Type} {F G : α -> β -> Prop} : ∀ {l₁ : List α} {l₂ : List β},Paired F l₁ l₂ -> (∀ a b,F a b -> G a b) -> Paired G l₁ l₂
 | _,_,.nil,_ => .nil
 | _,_,.cons r t,f => .cons (f _ _ r) (Paired.zuo t f)
theorem zbu.stay (x : zbu P w H h a o) (k : ∀ b u,(b = a \/ H b = some (.own a)) -> h.get? b = some u -> h'.get? b = some u)
  (ho : ∀ b,H b = some (.own a) -> H' b = some (.own a)) (ht : ∀ b xs,TAt H b xs -> TAt H' b xs) : zbu P w H' h' a o:=by
 induction o with
 | lst xs => obtain ⟨z,its,n,r,e⟩ := x; exact ⟨z,its,n,r,k _ _ (.inl rfl) e⟩
 | tup xs => obtain ⟨z,its,r,ob,e,c⟩ := x; exact ⟨z,its,r,ob,k _ _ (.inl rfl) e,c⟩
 | dK kvs => obtain ⟨z,y,vs,r,ob,es,ep,e,c⟩ := x; exact ⟨z,y,vs,r,ob,es,ep,k _ _ (.inl rfl) e,c⟩
 | dT kvs =>
  obtain ⟨z,y,xs,r,ob,es,ep,e,c⟩ := x
  exact ⟨z,y,xs,Paired.zuo r fun p q z => ⟨z.1,ht _ _ z.2.1,z.2.2⟩,ob,es,ep,k _ _ (.inl rfl) e,c⟩
 | set S n => obtain ⟨ob,es,ep,t,e,c⟩ := x; exact ⟨ob,es,ep,t,k _ _ (.inl rfl) e,c⟩
 | ins C dx fs =>
  obtain ⟨d,z,ne,e,mA,⟨od,es,ep,e2,c⟩,r⟩ := x
  exact ⟨ho _ d,z,ne,k _ _ (.inl rfl) e,mA,⟨od,es,ep,k _ _ (.inr d) e2,c⟩,r⟩
 | own y => obtain ⟨ob,e⟩ := x; exact ⟨ob,k _ _ (.inl rfl) e⟩
 | xd fs => obtain ⟨mA,⟨od,es,ep,e,c⟩,r⟩ := x; exact ⟨mA,⟨od,es,ep,k _ _ (.inl rfl) e,c⟩,r⟩
 | rng lo hi => obtain ⟨t,u,v,e⟩ := x; exact ⟨t,u,v,k _ _ (.inl rfl) e⟩
 | frz ob u ih => obtain ⟨e,q⟩ := x; exact ⟨k _ _ (.inl rfl) e,ih q⟩
 | tbl ps =>
  have e : h.get? a = some { cls := .none,data := .fields ps } := x
  show h'.get? a = some { cls := .none,data := .fields ps }
  exact k a _ (.inl rfl) e
 | met f y =>
  have e : h.get? a = some (PySem.W.methodObj (.ref f) (.ref y)) := x
  show h'.get? a = some (PySem.W.methodObj (.ref f) (.ref y))
  exact k a _ (.inl rfl) e
 | ext φ => obtain ⟨p,⟨o,e⟩,st⟩ := x; exact ⟨st _ _ p fun o q => k _ _ (.inl rfl) q,⟨o,k _ _ (.inl rfl) e⟩,st⟩
theorem HOk.lt (x : HOk P w H h) (e : H a = some o) : a < h.objs.size := (x a o e).lt
theorem HOk.fresh (x : HOk P w H h) (e : h.objs.size <= a) : H a = none:=by
 cases q : H a with
 | none => rfl
 | some u => exact absurd (Nat.lt_of_lt_of_le (x.lt q) e) (Nat.lt_irrefl _)
theorem HOk.kept (x : HOk P w H h) (k : ∀ b u,h.get? b = some u -> h'.get? b = some u) : HOk P w H h' := fun a o e =>
 (x a o e).stay (fun b u _ q => k b u q) (fun _ q => q) fun _ _ q => q
theorem HOk.laid (x : HOk P w H h) (k : ∀ b u,h.get? b = some u -> h'.get? b = some u) (hp : h.objs.size <= a) (new : zbu P w (upd H a o) h' a o) : HOk P w (upd H a o) h' := fun b u e => by
 have hn := x.fresh hp
 by_cases hb : b = a
 ·subst hb; rw [zas] at e; cases e; exact new
 ·rw [zay hb] at e
  exact (x b u e).stay (fun c v _ q => k c v q) (fun c q => by rw [zay (zbQ q hn)]; exact q) fun c xs q => q.upd (fun _ r => zbQ r hn) fun _ _ r => zbQ r hn
end
def Rd (H : Hp) (a : Addr) (u : HO) : Prop := H a = some u \/ ∃ o,H a = some (.frz o u)
theorem Rd.ok {P : Program} {w : World} {H : Hp} {h : Heap} {a : Addr} {u : HO} (r : Rd H a u) (x : HOk P w H h) : zbu P w H h a u:=by
 rcases r with r | ⟨o,r⟩
 ·exact x a u r
 ·obtain ⟨_,q⟩ := x a _ r
  exact q
def Mut : Option HO -> Prop
 | some (.lst _) => True
 | some (.dK _) => True
 | some (.dT _) => True
 | some (.set _ _) => True
 | some (.ins _ _ _) => True
 | some (.ext _) => True
 | _ => False
section
variable {P : Program} {w : World} {H : Hp} {h h' : Heap} {x e : Addr} {o' : HO}
theorem HOk.write (ok : HOk P w H h) (mu : Mut (H x)) (he : e = x \/ H e = some (.own x)) (k : ∀ b u,b ≠ e -> h.get? b = some u -> h'.get? b = some u) (heo : ∃ u,h'.get? e = some u)
  (new : zbu P w (upd H x o') h' x o') : HOk P w (upd H x o') h' := fun b u q => by
 have nown : ∀ c y,H c = some (.own y) -> c ≠ x := fun c y r z => by subst z; rw [r] at mu; exact mu
 have ntup : ∀ c xs,H c = some (.tup xs) -> c ≠ x := fun c xs r z => by subst z; rw [r] at mu; exact mu
 by_cases hb : b = x
 ·subst hb; rw [zas] at q; cases q; exact new
 ·rw [zay hb] at q
  by_cases hbe : b = e
  ·have q' : H b = some (.own x):=by
    rcases he with z | z
    ·exact absurd (hbe.trans z) hb
    ·rw [hbe]; exact z
   rw [q] at q'; cases q'
   obtain ⟨v,hv⟩ := heo
   exact ⟨v,by rw [hbe]; exact hv⟩
  ·refine (ok b u q).stay (fun c v hc r => k c v ?_ r) (fun c r => by rw [zay (nown c b r)]; exact r) fun c xs r => r.upd (fun ys z => ntup c ys z) fun o ys z e => by subst e; rw [z] at mu; exact mu
   rcases hc with rfl | hc
   ·exact hbe
   ·rintro rfl
    rcases he with z | z
    ·exact nown c b hc z
    ·rw [hc] at z; cases z; exact hb rfl
end
structure Un (fs ex : List Addr) (H H' : Hp) (h h' : Heap) : Prop where
 keep : ∀ b o,h.get? b = some o -> H b = none -> b ∉ fs -> b ∉ ex -> h'.get? b = some o
 slot : ∀ b o,h.get? b = some o -> H b = none -> b ∈ fs -> b ∉ ex -> ∃ sl,h'.get? b = some { o with slots := sl }
 free : ∀ b o,h.get? b = some o -> H b = none -> b ∉ ex -> H' b = none
 there : ∀ b o,h.get? b = some o -> b ∉ ex -> ∃ o',h'.get? b = some o'
 tups : ∀ b xs,H b = some (.tup xs) -> H' b = some (.tup xs)
 frzs : ∀ b o u,H b = some (.frz o u) -> H' b = some (.frz o u)
 tbls : ∀ b ps,H b = some (.tbl ps) -> ∃ more,H' b = some (.tbl (ps ++ more))
section
variable {fs fs' ex ex' : List Addr} {H H1 H2 : Hp} {h h1 h2 h' : Heap} {a x e : Addr} {o : HO}
theorem Un.any (u : Un fs ex H H1 h h1) {b : Addr} {ob : Obj} (q : h.get? b = some ob) (n : H b = none) (hx : b ∉ ex) : ∃ sl,h1.get? b = some { ob with slots := sl }:=by
 by_cases hb : b ∈ fs
 ·exact u.slot b ob q n hb hx
 ·exact ⟨ob.slots,u.keep b ob q n hb hx⟩
theorem Un.kept (k : ∀ b u,h.get? b = some u -> h'.get? b = some u) : Un fs ex H H h h' :=
 ⟨fun b ob q _ _ _ => k b ob q,fun b ob q _ _ _ => ⟨ob.slots,k b ob q⟩,fun _ _ _ n _ => n,fun b ob q _ => ⟨ob,k b ob q⟩,fun _ _ q => q,fun _ _ _ q => q,fun _ ps q => ⟨#[],by rw [q]; simp⟩⟩
theorem Un.refl : Un fs ex H H h h := Un.kept fun _ _ q => q
theorem Un.laid (k : ∀ b u,h.get? b = some u -> h'.get? b = some u) (hp : h.objs.size <= a) (hn : H a = none) : Un fs ex H (upd H a o) h h' where
 keep := fun b u q _ _ _ => k b u q
 slot := fun b u q _ _ _ => ⟨u.slots,k b u q⟩
 free := fun b u q n _ => by rw [zay (Nat.ne_of_lt (Nat.lt_of_lt_of_le (Heap.lt_size q) hp))]; exact n
 there := fun b u q _ => ⟨u,k b u q⟩
 tups := fun b xs q => by rw [zay (zbQ q hn)]; exact q
 frzs := fun b u xs q => by rw [zay (zbQ q hn)]; exact q
 tbls := fun b ps q => ⟨#[],by rw [zay (zbQ q hn),q]; simp⟩
theorem Un.write (mu : Mut (H x)) (he : e = x \/ H e = some (.own x)) (k : ∀ b u,b ≠ e -> h.get? b = some u -> h'.get? b = some u) (heo : ∃ u,h'.get? e = some u) : Un fs ex H (upd H x o) h h':=by
 have hx : ∀ b,H b = none -> b ≠ x := fun b n z => by subst z; rw [n] at mu; exact mu
 have hb : ∀ b,H b = none -> b ≠ e := fun b n z => by
  subst z
  rcases he with r | r
  ·exact hx b n r
  ·rw [n] at r; cases r
 have hm : ∀ b u,H b = some u -> ¬ Mut (some u) -> b ≠ x := fun b u q nm z => by subst z; rw [q] at mu; exact nm mu
 refine ⟨fun b u q n _ _ => k b u (hb b n) q,fun b u q n _ _ => ⟨u.slots,k b u (hb b n) q⟩,fun b u q n _ => by rw [zay (hx b n)]; exact n,fun b u q _ => ?_,
  fun b xs q => by rw [zay (hm b _ q fun z => z)]; exact q,fun b u xs q => by rw [zay (hm b _ q fun z => z)]; exact q,fun b ps q => ⟨#[],by rw [zay (hm b _ q fun z => z),q]; simp⟩⟩
 by_cases hbe : b = e
 ·subst hbe; exact heo
 ·exact ⟨u,k b u hbe q⟩
end
def trk (h : Heap) (H : Hp) : List Addr := (List.range h.objs.size).filter fun a => (H a).isSome
def zpA (h : Heap) (H : Hp) : Heap := PySem.W.hideAll h (trk h H)
theorem znG (h : Heap) (H : Hp) : (zpA h H).objs.size = h.objs.size := PySem.W.hideAll_size _ _
theorem zpz {h : Heap} {H : Hp} {b : Addr} {o : Obj} (e : h.get? b = some o) (n : H b = none) : (zpA h H).get? b = some o :=
 PySem.W.hideAll_get _ e fun hm => by
  have q : (H b).isSome = true := (List.mem_filter.mp hm).2
  rw [n] at q; simp at q
theorem zre {h : Heap} {H : Hp} {b : Addr} {o : Obj} (e : (zpA h H).get? b = some o) : h.get? b = some o /\ H b = none:=by
 have e' : h.get? b = some o := PySem.W.of_hideAll (trk h H) e
 refine ⟨e',?_⟩
 cases q : H b with
 | none => rfl
 | some x =>
  have hm : b ∈ trk h H := List.mem_filter.mpr ⟨List.mem_range.mpr (Heap.lt_size e'),by simp [q]⟩
  have z : (zpA h H).get? b = none := PySem.W.hideAll_none (trk h H) hm
  rw [z] at e; cases e
def zrH (g h : Heap) (L : Addr) : List (Addr × Obj) := (List.range h.objs.size).filterMap fun a => if a = L \/ (g.get? a).isSome = true then none else (h.get? a).map fun o => (a,o)
def rest (g h : Heap) (L d : Addr) : List (Addr × Obj) := (zrH g h L).filter fun p => decide (p.1 ≠ d)
end L2
namespace L2
open PySem PySem.Spec PyProof.Rows
structure Mod (K : PySem.W.Frag) (mg : Str -> Option Value) (base : Heap) : Prop where
 kin : K.In base
 glob : base.Ns mainGlobals mg
 blt : ∃ mb,base.Ns builtinsNs mb /\ ∀ x : Str,x ≠ "__name__" -> mb x = bootBuiltins x
 nolimit : base.NoLimit
structure Cx where
 prog : Program
 w : World
 K : PySem.W.Frag
 mg : Str -> Option Value
 base : Heap
 A : Around
 N : List Str
 s₀ : Shared
 H₀ : Hp
 env : Env
 outer : List Env
 stack : List Env
 ex : List Addr
 fn : Str -> Bool
 calm : Bool
 pn : List (Addr × Obj)
 xe : Value -> Shared -> Prop
def frs (l : List Env) : List Addr := l.filterMap (·.frame)
abbrev Cx.fs (X : Cx) : List Addr := frs X.outer
def Vis (sc : Scope) (x : Str) : Prop := sc.names.lookup x = some .local \/ sc.names.lookup x = some .cell \/ sc.names.lookup x = some .free
def Loc (sc : Scope) (x : Str) : Prop := sc.names.lookup x = some .local \/ sc.names.lookup x = some .cell
def Look (env : Env) (h : Heap) (m : Str -> Option Value) (x : Str) (u : Value) : Prop :=
 (env.kindOf x = some .local /\ m x = some u) \/ ((env.kindOf x = some .cell \/ env.kindOf x = some .free) /\ ∃ c,env.cells.lookup x = some c /\ h.IsCell c (some u))
structure Cx.Ok (X : Cx) : Prop where
 mod : Mod X.K X.mg X.base
 kind : X.env.scope.kind = .function
 glob : X.env.globals = mainGlobals
 blt : X.env.builtins = builtinsNs
 above : X.s₀.heap.objs.size <= X.env.locals
 inj : ∀ x y c,X.env.cells.lookup x = some c -> X.env.cells.lookup y = some c -> x = y
 has : ∀ x,(X.env.kindOf x = some .cell \/ X.env.kindOf x = some .free) -> ∃ c,X.env.cells.lookup x = some c
 cab : ∀ x c,X.fn x = true -> X.env.cells.lookup x = some c -> X.s₀.heap.objs.size <= c
 hd : X.calm = true -> X.A.handled = none
 frames : X.A.frames = some X.stack
 stk : X.stack = X.outer \/ (X.stack = X.env :: X.outer /\ X.env.frame = some X.env.locals)
 exf : ∀ b ∈ X.ex,b ≠ X.env.locals /\ ∀ x c,X.env.cells.lookup x = some c -> c ≠ b
 bs : ∀ b o,X.base.get? b = some o -> X.s₀.heap.get? b = some o /\ X.H₀ b = none
 bsz : X.base.objs.size <= X.s₀.heap.objs.size
 noex : ∀ b o,X.base.get? b = some o -> b ∉ X.ex
 exfs : ∀ b ∈ X.ex,b ∉ X.fs
 zml : X.s₀.heap.FunFrames X.base X.outer
 frf : ∀ b ∈ X.fs,X.H₀ b = none
structure Inv (X : Cx) (pins : List (Addr × Obj)) (σ : List (Option V)) (H : Hp) (s : Shared) : Prop where
 ok : X.Ok
 os : s.os = X.s₀.os
 bare : AllBare s.gens
 base : Un X.fs X.ex X.H₀ H X.s₀.heap s.heap
 loc : ∃ m,s.heap.Ns X.env.locals m /\ ∀ (i : Nat) (x : Str) (v : V),X.N[i]? = some x -> σ[i]? = some (some v) -> Vis X.env.scope x -> ∃ u,RelV v u /\ Look X.env s.heap m x u
 cell : ∀ x c,X.env.cells.lookup x = some c -> ∃ v,s.heap.IsCell c v
 free : H X.env.locals = none
 freeC : ∀ x c,X.env.cells.lookup x = some c -> H c = none
 pin : ∀ p ∈ X.pn ++ pins,s.heap.get? p.1 = some p.2 /\ H p.1 = none /\ p.1 ≠ X.env.locals /\ p.1 ∉ X.fs /\ ∀ v,p.2.data ≠ .cell v
 hok : HOk X.prog X.w H s.heap
 len : σ.length = X.N.length
section
variable {X : Cx} {pins : List (Addr × Obj)} {σ : List (Option V)} {H H' : Hp} {s : Shared} {h' : Heap}
theorem Cx.Ok.zvy (ok : X.Ok) {b : Addr} {o : Obj} (e : X.base.get? b = some o) : b ∉ X.fs := fun hb => by
 have := (ok.zml.mem hb).1
 rw [e] at this; cases this
theorem Inv.bs (I : Inv X pins σ H s) : ∀ b o,X.base.get? b = some o -> s.heap.get? b = some o /\ H b = none := fun b o e =>
 ⟨I.base.keep b o (I.ok.bs b o e).1 (I.ok.bs b o e).2 (I.ok.zvy e) (I.ok.noex b o e),I.base.free b o (I.ok.bs b o e).1 (I.ok.bs b o e).2 (I.ok.noex b o e)⟩
theorem Inv.bk (I : Inv X pins σ H s) : ∀ b o,X.base.get? b = some o -> s.heap.get? b = some o := fun b o e => (I.bs b o e).1
theorem Inv.mod (I : Inv X pins σ H s) : Mod X.K X.mg X.base := I.ok.mod
theorem Inv.kIn (I : Inv X pins σ H s) : X.K.In s.heap := I.ok.mod.kin.keeps I.bk
theorem Inv.fr (I : Inv X pins σ H s) : ∃ m,Fr X.base X.env.locals s.heap m :=
 let ⟨m,hn,_⟩ := I.loc
 ⟨m,hn,I.bk,Nat.le_trans I.ok.bsz I.ok.above⟩
theorem Inv.lt (I : Inv X pins σ H s) : X.env.locals < s.heap.objs.size := let ⟨_,hn,_⟩ := I.loc; hn.lt
theorem Inv.sz (I : Inv X pins σ H s) : X.s₀.heap.objs.size <= s.heap.objs.size := Nat.le_trans I.ok.above (Nat.le_of_lt I.lt)
theorem Inv.zvx (I : Inv X pins σ H s) {a : Addr} (h : s.heap.objs.size <= a) : a ∉ X.fs := fun hb => by
 obtain ⟨_,o,ho,_⟩ := I.ok.zml.mem hb
 exact absurd (Nat.lt_of_lt_of_le (Heap.lt_size ho) (Nat.le_trans I.sz h)) (Nat.lt_irrefl _)
theorem Inv.cne (I : Inv X pins σ H s) : ∀ x c,X.env.cells.lookup x = some c -> c ≠ X.env.locals := fun x c e z => by
 obtain ⟨v,o,ho,hd⟩ := I.cell x c e
 obtain ⟨m,⟨o',es,ep,ho',hd',_⟩,_⟩ := I.loc
 rw [z,ho'] at ho; cases ho; rw [hd'] at hd; cases hd
theorem Inv.zml (I : Inv X pins σ H s) : s.heap.FunFrames X.base X.outer:=by
 have all : ∀ (l : List Env),(∀ b ∈ frs l,b ∈ X.fs) -> X.s₀.heap.FunFrames X.base l -> s.heap.FunFrames X.base l:=by
  intro l
  induction l with
  | nil => intro _ _; trivial
  | cons env r ih =>
   intro hs hl
   obtain ⟨hk,⟨L,o,hf,hn,ho,hd⟩,hr⟩ := hl
   have hL : L ∈ X.fs := hs L (by unfold frs; rw [List.filterMap_cons,hf]; exact List.mem_cons_self)
   obtain ⟨sl,e⟩ := I.base.slot L o ho (I.ok.frf L hL) hL fun z => I.ok.exfs L z hL
   exact ⟨hk,⟨L,_,hf,hn,e,hd⟩,ih (fun b hb => hs b (by unfold frs; rw [List.filterMap_cons,hf]; exact List.mem_cons_of_mem _ hb)) hr⟩
 exact all X.outer (fun _ hb => hb) I.ok.zml
theorem Inv.stack (I : Inv X pins σ H s) : s.heap.FunFrames X.base X.stack:=by
 rcases I.ok.stk with e | ⟨e,hf⟩
 ·rw [e]; exact I.zml
 ·rw [e]
  obtain ⟨m,hn,_⟩ := I.loc
  refine .cons (by rw [I.ok.kind]; decide) hf hn ?_ I.zml
  exact Heap.get?_none_of_le (Nat.le_trans I.ok.bsz I.ok.above)
theorem Inv.zmE (I : Inv X pins σ H s) : ∀ b ∈ frs X.stack,b ∈ X.env.locals :: X.fs := fun b hb => by
 rcases I.ok.stk with e | ⟨e,hf⟩
 ·rw [e] at hb; exact List.mem_cons_of_mem _ hb
 ·rw [e] at hb
  unfold frs at hb
  rw [List.filterMap_cons,hf] at hb
  exact hb
theorem Inv.zmF (I : Inv X pins σ H s) : ∀ b ∈ frs X.stack,H b = none := fun b hb => by
 rcases List.mem_cons.mp (I.zmE b hb) with e | hb
 ·rw [e]; exact I.free
 ·obtain ⟨_,o,ho,_⟩ := I.ok.zml.mem hb
  exact I.base.free b o ho (I.ok.frf b hb) fun z => I.ok.exfs b z hb
theorem Inv.step {g' : Array GenState} {t' : Nat} {d' : Drawn} {ch : List Addr} (I : Inv X pins σ H s)
  (hch : ∀ b ∈ ch,(b ∈ X.ex \/ X.s₀.heap.objs.size <= b) /\ b ≠ X.env.locals /\ (∀ x c,X.env.cells.lookup x = some c -> c ≠ b) /\ ∀ p ∈ X.pn ++ pins,p.1 ≠ b)
  (keep : ∀ b o,b ≠ X.env.locals -> b ∉ X.fs -> b ∉ ch -> s.heap.get? b = some o -> H b = none -> h'.get? b = some o)
  (slot : ∀ b o,b ≠ X.env.locals -> b ∈ X.fs -> b ∉ ch -> s.heap.get? b = some o -> H b = none -> ∃ sl,h'.get? b = some { o with slots := sl }) (free : ∀ b o,b ∉ ch -> s.heap.get? b = some o -> H b = none -> H' b = none)
  (there : ∀ b o,b ∉ ch -> s.heap.get? b = some o -> ∃ o',h'.get? b = some o')
  (tups : ∀ b xs,H b = some (.tup xs) -> H' b = some (.tup xs)) (frzs : ∀ b o u,H b = some (.frz o u) -> H' b = some (.frz o u)) (tbls : ∀ b ps,H b = some (.tbl ps) -> ∃ more,H' b = some (.tbl (ps ++ more)))
  (ns : ∀ m,s.heap.Ns X.env.locals m -> h'.Ns X.env.locals m) (hok : HOk X.prog X.w H' h') (hg : AllBare g') :
  Inv X pins σ H' { s with heap := h',gens := g',drawn := d',toks := t' }:=by
 have neL : ∀ b o,X.s₀.heap.get? b = some o -> b ≠ X.env.locals := fun b o e => Nat.ne_of_lt (Nat.lt_of_lt_of_le (Heap.lt_size e) I.ok.above)
 have neC : ∀ b o,X.s₀.heap.get? b = some o -> b ∉ X.ex -> b ∉ ch := fun b o e hx hb => by
  rcases (hch b hb).1 with z | z
  ·exact hx z
  ·exact absurd (Nat.lt_of_lt_of_le (Heap.lt_size e) z) (Nat.lt_irrefl _)
 have cellK : ∀ x c,X.env.cells.lookup x = some c -> ∀ v,s.heap.IsCell c v -> h'.IsCell c v := fun x c e v ⟨o,ho,hd⟩ => by
  have nch : c ∉ ch := fun z => (hch c z).2.2.1 x c e rfl
  by_cases hc : c ∈ X.fs
  ·obtain ⟨sl,q⟩ := slot c o (I.cne x c e) hc nch ho (I.freeC x c e)
   exact ⟨_,q,hd⟩
  ·exact ⟨o,keep c o (I.cne x c e) hc nch ho (I.freeC x c e),hd⟩
 refine ⟨I.ok,I.os,hg,⟨fun b o e n hb hx => ?_,fun b o e n hb hx => ?_,fun b o e n hx => ?_,fun b o e hx => ?_,fun b xs e => tups b xs (I.base.tups b xs e),fun b o xs e => frzs b o xs (I.base.frzs b o xs e),fun b ps e => ?_⟩,?_,fun x c e => ?_,?_,fun x c e => ?_,fun p hp => ?_,hok,I.len⟩
 ·exact keep b o (neL b o e) hb (neC b o e hx) (I.base.keep b o e n hb hx) (I.base.free b o e n hx)
 ·obtain ⟨sl,e1⟩ := I.base.slot b o e n hb hx
  obtain ⟨sl',e2⟩ := slot b _ (neL b o e) hb (neC b o e hx) e1 (I.base.free b o e n hx)
  exact ⟨sl',e2⟩
 ·obtain ⟨o',e1⟩ := I.base.there b o e hx
  exact free b o' (neC b o e hx) e1 (I.base.free b o e n hx)
 ·obtain ⟨o',e1⟩ := I.base.there b o e hx
  exact there b o' (neC b o e hx) e1
 ·obtain ⟨m1,e1⟩ := I.base.tbls b ps e
  obtain ⟨m2,e2⟩ := tbls b _ e1
  exact ⟨m1 ++ m2,by rw [e2,Array.append_assoc]⟩
 ·obtain ⟨m,hn,hl⟩ := I.loc
  refine ⟨m,ns m hn,fun i x v e1 e2 e3 => ?_⟩
  obtain ⟨u,r,l⟩ := hl i x v e1 e2 e3
  refine ⟨u,r,?_⟩
  rcases l with l | ⟨k,c,e,z⟩
  ·exact .inl l
  ·exact .inr ⟨k,c,e,cellK x c e _ z⟩
 ·obtain ⟨v,z⟩ := I.cell x c e
  exact ⟨v,cellK x c e v z⟩
 ·obtain ⟨m,⟨o,_,_,ho,_⟩,_⟩ := I.loc
  exact free _ o (fun z => (hch _ z).2.1 rfl) ho I.free
 ·obtain ⟨v,o,ho,hd⟩ := I.cell x c e
  exact free c o (fun z => (hch c z).2.2.1 x c e rfl) ho (I.freeC x c e)
 ·obtain ⟨e,n,ne,nf,d⟩ := I.pin p hp
  have nch : p.1 ∉ ch := fun z => (hch p.1 z).2.2.2 p hp rfl
  exact ⟨keep p.1 p.2 ne nf nch e n,free p.1 p.2 nch e n,ne,nf,d⟩
theorem Inv.un {t' : Nat} (I : Inv X pins σ H s) (u : Un X.fs [] H H' s.heap h') (hok : HOk X.prog X.w H' h') : Inv X pins σ H' { s with heap := h',toks := t' }:=by
 obtain ⟨m,⟨o,es,ep,ho,r⟩,_⟩ := id I.loc
 obtain ⟨sl,hL⟩ := u.any ho I.free (by simp)
 exact I.step (g' := s.gens) (d' := s.drawn) (ch:=[]) (fun _ z => nomatch z) (fun b o _ hb _ e n => u.keep b o e n hb (by simp)) (fun b o _ hb _ e n => u.slot b o e n hb (by simp)) (fun b o _ e n => u.free b o e n (by simp)) (fun b o _ e => u.there b o e (by simp)) u.tups u.frzs u.tbls (fun m' hm => by
  obtain ⟨o',es',ep',ho',r'⟩ := hm
  rw [ho] at ho'; cases ho'
  exact ⟨_,es',ep',hL,r'⟩) hok I.bare
theorem Inv.call {g' : Array GenState} {t' : Nat} {d' : Drawn} {ch : List Addr} (I : Inv X pins σ H s) (u : Un (frs X.stack) ch H H' s.heap h') (hok : HOk X.prog X.w H' h') (hg : AllBare g')
  (hch : ∀ b ∈ ch,(b ∈ X.ex \/ X.s₀.heap.objs.size <= b) /\ b ≠ X.env.locals /\ (∀ x c,X.env.cells.lookup x = some c -> c ≠ b) /\ ∀ p ∈ X.pn ++ pins,p.1 ≠ b) :
  Inv X pins σ H' { s with heap := h',gens := g',drawn := d',toks := t' }:=by
 obtain ⟨m,⟨o,es,ep,ho,r⟩,_⟩ := id I.loc
 obtain ⟨sl,hL⟩ := u.any ho I.free fun z => (hch _ z).2.1 rfl
 exact I.step (ch:=ch) hch (fun b o hL hb hc e n => u.keep b o e n (fun z => (List.mem_cons.mp (I.zmE b z)).elim hL hb) hc) (fun b o _ _ hc e n => u.any e n hc) (fun b o hc e n => u.free b o e n hc) (fun b o hc e => u.there b o e hc) u.tups u.frzs u.tbls (fun m' hm => by
  obtain ⟨o',es',ep',ho',r'⟩ := hm
  rw [ho] at ho'; cases ho'
  exact ⟨_,es',ep',hL,r'⟩) hok hg
theorem Inv.turned {t' : Nat} {it : Addr} (I : Inv X pins σ H s) (k : ∀ b o,b ≠ it -> s.heap.get? b = some o -> h'.get? b = some o) (hn : H it = none) (hL : it ≠ X.env.locals)
  (h1 : it ∈ X.ex \/ X.s₀.heap.objs.size <= it) (h2 : ∀ x c,X.env.cells.lookup x = some c -> c ≠ it) (h3 : ∀ p ∈ X.pn ++ pins,p.1 ≠ it) : Inv X pins σ H { s with heap := h',toks := t' }:=by
 have nit : ∀ b u,H b = some u -> b ≠ it := fun b u e z => by rw [z,hn] at e; cases e
 refine I.step (g' := s.gens) (d' := s.drawn) (ch:=[it]) (fun b hb => ?_) (fun b o _ _ hc e _ => k b o (fun z => hc (by simp [z])) e) (fun b o _ _ hc e _ => ⟨o.slots,k b o (fun z => hc (by simp [z])) e⟩) (fun _ _ _ _ n => n)
  (fun b o hc e => ⟨o,k b o (fun z => hc (by simp [z])) e⟩) (fun _ _ e => e) (fun _ _ _ e => e) (fun b ps e => ⟨#[],by rw [e]; simp⟩) (fun m hm => ?_) (fun b u e => ?_) I.bare
 ·have e : b = it := by simpa using hb
  subst e
  exact ⟨h1,hL,h2,h3⟩
 ·obtain ⟨o,es,ep,ho,r⟩ := hm
  exact ⟨o,es,ep,k _ o (Ne.symm hL) ho,r⟩
 ·refine (I.hok b u e).stay (fun c v hc q => k c v ?_ q) (fun _ q => q) fun _ _ q => q
  rcases hc with z | z
  ·rw [z]; exact nit b u e
  ·exact nit c _ z
theorem Inv.tok (I : Inv X pins σ H s) (t : Nat) : Inv X pins σ H { s with toks := t } := I.un (h' := s.heap) (t' := t) Un.refl I.hok
theorem Inv.kept {t' : Nat} (I : Inv X pins σ H s) (k : ∀ b u,s.heap.get? b = some u -> h'.get? b = some u) : Inv X pins σ H { s with heap := h',toks := t' } := I.un (Un.kept k) (I.hok.kept k)
theorem Inv.laid {a : Addr} {o : HO} {t' : Nat} (I : Inv X pins σ H s) (k : ∀ b u,s.heap.get? b = some u -> h'.get? b = some u) (hp : s.heap.objs.size <= a) (new : zbu X.prog X.w (upd H a o) h' a o) :
  Inv X pins σ (upd H a o) { s with heap := h',toks := t' } := I.un (Un.laid k hp (I.hok.fresh hp)) (I.hok.laid k hp new)
theorem Inv.write {x e : Addr} {o : HO} {t' : Nat} (I : Inv X pins σ H s) (mu : Mut (H x)) (he : e = x \/ H e = some (.own x)) (k : ∀ b u,b ≠ e -> s.heap.get? b = some u -> h'.get? b = some u) (heo : ∃ u,h'.get? e = some u)
  (new : zbu X.prog X.w (upd H x o) h' x o) : Inv X pins σ (upd H x o) { s with heap := h',toks := t' } := I.un (Un.write mu he k heo) (I.hok.write mu he k heo new)
theorem Inv.weak {σ' : List (Option V)} (I : Inv X pins σ H s) (hl : σ'.length = σ.length) (w : ∀ (i : Nat) v,σ'[i]? = some (some v) -> σ[i]? = some (some v)) : Inv X pins σ' H s :=
 ⟨I.ok,I.os,I.bare,I.base,let ⟨m,hn,hl'⟩ := I.loc; ⟨m,hn,fun i x v e1 e2 e3 => hl' i x v e1 (w i v e2) e3⟩,I.cell,I.free,I.freeC,I.pin,I.hok,hl.trans I.len⟩
theorem Inv.ziy {pins' : List (Addr × Obj)} (I : Inv X pins σ H s) (h : ∀ p ∈ pins',s.heap.get? p.1 = some p.2 /\ H p.1 = none /\ p.1 ≠ X.env.locals /\ p.1 ∉ X.fs /\ ∀ v,p.2.data ≠ .cell v) : Inv X pins' σ H s :=
 ⟨I.ok,I.os,I.bare,I.base,I.loc,I.cell,I.free,I.freeC,fun p hp => (List.mem_append.mp hp).elim (fun z => I.pin p (List.mem_append_left _ z)) (h p),I.hok,I.len⟩
theorem zll {N : List Str} (hN : N.Nodup) {i j : Nat} {x : Str} (a : N[i]? = some x) (b : N[j]? = some x) : i = j:=by
 obtain ⟨h1,e1⟩ := List.getElem?_eq_some_iff.mp a
 obtain ⟨h2,e2⟩ := List.getElem?_eq_some_iff.mp b
 exact (List.getElem_inj hN).mp (e1.trans e2.symm)
theorem zjd {M : Model} {A : Around} {E : Value -> Shared -> Prop} {i : Nat} {x : Str} {v : V} {u : Value} {Q : Unit -> Shared -> Prop} (I : Inv X pins σ H s) (hN : X.N.Nodup) (hi : X.N[i]? = some x) (hx : Loc X.env.scope x) (r : RelV v u)
  (h : ∀ s',Inv X pins (σ.set i (some v)) H s' -> (∃ a,Heap.SameBut a s.heap s'.heap /\ (a = X.env.locals \/ X.env.cells.lookup x = some a)) -> Q () s') (hf : X.fn x = true \/ X.env.scope.names.lookup x = some .local := by first | exact .inl rfl | exact .inr rfl | assumption) : wpAny M A (storeName X.env x u) Q E s:=by
 obtain ⟨m,hn,hl⟩ := id I.loc
 have hcls : (X.env.scope.kind == .class || (X.env.scope.kind == .module && X.env.locals != X.env.globals)) = false := by rw [I.ok.kind]; rfl
 have hiσ : i < σ.length := by rw [I.len]; exact (List.getElem?_eq_some_iff.mp hi).1
 have cne := I.cne
 have tracked : ∀ {a : Addr} {h' : Heap},(∃ o,s.heap.get? a = some o /\ H a = none) -> Heap.SameBut a s.heap h' -> HOk X.prog X.w H h' := fun {a h'} ha hs b ob e => by
  obtain ⟨_,_,hfree⟩ := ha
  refine (I.hok b ob e).stay (fun c w' hc q => (hs.2 c ?_).trans q) (fun _ q => q) fun _ _ q => q
  rintro rfl
  rcases hc with rfl | hc
  ·rw [hfree] at e; cases e
  ·rw [hfree] at hc; cases hc
 rcases hx with hk | hk
 ·refine wpAny_storeName_local hk hn (fun h' hn' hs => ?_) hcls
  obtain ⟨oL,_,_,hoL,_⟩ := id hn
  refine h _ ⟨I.ok,I.os,I.bare,⟨fun b o e n hb hx => ?_,fun b o e n hb hx => ?_,I.base.free,fun b o e hx => ?_,I.base.tups,I.base.frzs,I.base.tbls⟩,⟨_,hn',fun j y v' e1 e2 e3 => ?_⟩,fun y c e => ?_,I.free,I.freeC,fun p hp => ?_,tracked ⟨oL,hoL,I.free⟩ hs,by simpa using I.len⟩ ⟨_,hs,.inl rfl⟩
  ·exact (hs.2 b (Nat.ne_of_lt (Nat.lt_of_lt_of_le (Heap.lt_size e) I.ok.above))).trans (I.base.keep b o e n hb hx)
  ·obtain ⟨sl,e1⟩ := I.base.slot b o e n hb hx
   exact ⟨sl,(hs.2 b (Nat.ne_of_lt (Nat.lt_of_lt_of_le (Heap.lt_size e) I.ok.above))).trans e1⟩
  ·obtain ⟨o',e1⟩ := I.base.there b o e hx
   exact ⟨o',(hs.2 b (Nat.ne_of_lt (Nat.lt_of_lt_of_le (Heap.lt_size e) I.ok.above))).trans e1⟩
  ·by_cases hj : j = i
   ·subst hj
    rw [hi] at e1; cases e1
    rw [List.getElem?_set_self hiσ] at e2
    cases e2
    exact ⟨u,r,.inl ⟨hk,by simp⟩⟩
   ·rw [List.getElem?_set_ne (Ne.symm hj)] at e2
    obtain ⟨u',r',q⟩ := hl j y v' e1 e2 e3
    refine ⟨u',r',?_⟩
    rcases q with ⟨k,e⟩ | ⟨k,c,e,z⟩
    ·refine .inl ⟨k,?_⟩
     have : y ≠ x := fun e => hj (zll hN e1 (e ▸ hi))
     simp [this,e]
    ·exact .inr ⟨k,c,e,z.sameBut hs (cne y c e)⟩
  ·obtain ⟨w',z⟩ := I.cell y c e
   exact ⟨w',z.sameBut hs (cne y c e)⟩
  ·obtain ⟨e,n,ne,nf,d⟩ := I.pin p hp
   exact ⟨(hs.2 p.1 ne).trans e,n,ne,nf,d⟩
 ·have hfn : X.fn x = true:=by
   rcases hf with z | z
   ·exact z
   ·rw [z] at hk; cases hk
  obtain ⟨c,hc⟩ := I.ok.has x (.inl hk)
  obtain ⟨w',z⟩ := I.cell x c hc
  refine wpAny_storeName_cell I.ok.kind hk hc z (fun h' hc' hs => ?_)
  obtain ⟨oc,hoc,hocd⟩ := id z
  refine h { s with heap := h' } ⟨I.ok,I.os,I.bare,⟨fun b o e n hb hx => ?_,fun b o e n hb hx => ?_,I.base.free,fun b o e hx => ?_,I.base.tups,I.base.frzs,I.base.tbls⟩,⟨m,hn.sameBut hs (Ne.symm (cne x c hc)),fun j y v' e1 e2 e3 => ?_⟩,fun y c' e => ?_,I.free,I.freeC,fun p hp => ?_,tracked ⟨oc,hoc,I.freeC x c hc⟩ hs,by simpa using I.len⟩ ⟨c,hs,.inr hc⟩
  ·exact (hs.2 b (Nat.ne_of_lt (Nat.lt_of_lt_of_le (Heap.lt_size e) (I.ok.cab x c hfn hc)))).trans (I.base.keep b o e n hb hx)
  ·obtain ⟨sl,e1⟩ := I.base.slot b o e n hb hx
   exact ⟨sl,(hs.2 b (Nat.ne_of_lt (Nat.lt_of_lt_of_le (Heap.lt_size e) (I.ok.cab x c hfn hc)))).trans e1⟩
  ·obtain ⟨o',e1⟩ := I.base.there b o e hx
   exact ⟨o',(hs.2 b (Nat.ne_of_lt (Nat.lt_of_lt_of_le (Heap.lt_size e) (I.ok.cab x c hfn hc)))).trans e1⟩
  ·by_cases hj : j = i
   ·subst hj
    rw [hi] at e1; cases e1
    rw [List.getElem?_set_self hiσ] at e2
    cases e2
    exact ⟨u,r,.inr ⟨.inl hk,c,hc,hc'⟩⟩
   ·rw [List.getElem?_set_ne (Ne.symm hj)] at e2
    obtain ⟨u',r',q⟩ := hl j y v' e1 e2 e3
    refine ⟨u',r',?_⟩
    rcases q with q | ⟨k,c',e,z'⟩
    ·exact .inl q
    ·refine .inr ⟨k,c',e,z'.sameBut hs ?_⟩
     rintro rfl
     exact hj (zll hN e1 (I.ok.inj _ _ _ e hc ▸ hi))
  ·by_cases hcc : c' = c
   ·subst hcc; exact ⟨_,hc'⟩
   ·obtain ⟨w2,z2⟩ := I.cell y c' e
    exact ⟨w2,z2.sameBut hs hcc⟩
  ·obtain ⟨e,n,ne,nf,d⟩ := I.pin p hp
   refine ⟨(hs.2 p.1 ?_).trans e,n,ne,nf,d⟩
   intro q
   rw [q,hoc] at e
   have q' : oc = p.2 := Option.some.inj e
   exact d w' (by rw [<- q']; exact hocd)
theorem zf8 {M : Model} {A : Around} {E : Value -> Shared -> Prop} {i : Nat} {x : Str} {v : V} {u : Value} {Q : Unit -> Shared -> Prop} (I : Inv X pins σ H s) (hN : X.N.Nodup) (hi : X.N[i]? = some x) (hx : Loc X.env.scope x) (r : RelV v u)
  (h : ∀ s',Inv X pins (σ.set i (some v)) H s' -> Q () s') (hf : X.fn x = true \/ X.env.scope.names.lookup x = some .local := by first | exact .inl rfl | exact .inr rfl | assumption) : wpAny M A (storeName X.env x u) Q E s :=
 zjd I hN hi hx r (fun s' I' _ => h s' I') hf
theorem Inv.call' {s' : Shared} {ch : List Addr} (I : Inv X pins σ H s) (ho : s'.os = s.os) (u : Un (frs X.stack) ch H H' s.heap s'.heap) (hok : HOk X.prog X.w H' s'.heap) (hg : AllBare s'.gens)
  (hch : ∀ b ∈ ch,(b ∈ X.ex \/ X.s₀.heap.objs.size <= b) /\ b ≠ X.env.locals /\ (∀ x c,X.env.cells.lookup x = some c -> c ≠ b) /\ ∀ p ∈ X.pn ++ pins,p.1 ≠ b) : Inv X pins σ H' s':=by
 obtain ⟨h',g',d',t',o'⟩ := s'
 have e : o' = s.os := ho
 subst e
 exact I.call (g' := g') (t' := t') (d' := d') u hok hg hch
end
abbrev XK := Value -> Option Addr -> Hp -> Prop
abbrev St := List (Option V)
abbrev VK := V -> Hp -> Prop
abbrev TE := St -> Hp -> VK -> Prop
abbrev TT := St -> Hp -> (Bool -> Hp -> Prop) -> Prop
abbrev TA := St -> Hp -> (List V -> Hp -> Prop) -> Prop
structure Ends where
 nx : St -> Hp -> Prop
 rt : VK
 bk : St -> Hp -> Prop := fun _ _ => False
 ct : St -> Hp -> Prop := fun _ _ => False
abbrev TS := Ends -> St -> Hp -> Prop
def EP (X : Cx) (pins : List (Addr × Obj)) (σ : St) (Q : VK) (u : Value) (s' : Shared) : Prop := ∃ v H',Inv X pins σ H' s' /\ RelV v u /\ Q v H'
def TP (X : Cx) (pins : List (Addr × Obj)) (σ : St) (Q : Bool -> Hp -> Prop) (b : Bool) (s' : Shared) : Prop := ∃ H',Inv X pins σ H' s' /\ Q b H'
def AP (X : Cx) (pins : List (Addr × Obj)) (σ : St) (Q : List V -> Hp -> Prop) (us : List Value) (s' : Shared) : Prop := ∃ vs H',Inv X pins σ H' s' /\ Vals vs us /\ Q vs H'
def SP (X : Cx) (pins : List (Addr × Obj)) (D : Ends) (f : Flow) (s' : Shared) : Prop :=
 match f with
 | .next => ∃ σ' H',Inv X pins σ' H' s' /\ D.nx σ' H'
 | .brk => ∃ σ' H',Inv X pins σ' H' s' /\ D.bk σ' H'
 | .cont => ∃ σ' H',Inv X pins σ' H' s' /\ D.ct σ' H'
 | .ret u => ∃ v σ' H',Inv X pins σ' H' s' /\ RelV v u /\ D.rt v H'
def PE (X : Cx) (e : Expr) (t : TE) : Prop :=
 ∀ (pins : List (Addr × Obj)) (s : Shared) (σ : St) (H : Hp) (Q : VK),Inv X pins σ H s -> t σ H Q -> wpAny (model X.prog X.w) X.A (eval e X.env) (EP X pins σ Q) X.xe s
def PT (X : Cx) (e : Expr) (t : TT) : Prop :=
 ∀ (pins : List (Addr × Obj)) (s : Shared) (σ : St) (H : Hp) (Q : Bool -> Hp -> Prop),Inv X pins σ H s -> t σ H Q -> wpAny (model X.prog X.w) X.A (isTrue e X.env (eval e X.env)) (TP X pins σ Q) X.xe s
def PW (X : Cx) (e : Expr) (t : TT) : Prop :=
 ∀ (whole : Sem Value) (pins : List (Addr × Obj)) (s : Shared) (σ : St) (H : Hp) (Q : Bool -> Hp -> Prop),Inv X pins σ H s -> t σ H Q -> wpAny (model X.prog X.w) X.A (isTrue e X.env whole) (TP X pins σ Q) X.xe s
theorem PW.pt {X : Cx} {e : Expr} {t : TT} (h : PW X e t) : PT X e t := h _
def PA (X : Cx) (es : List Expr) (t : TA) : Prop :=
 ∀ (pos : Pos) (pins : List (Addr × Obj)) (s : Shared) (σ : St) (H : Hp) (Q : List V -> Hp -> Prop),Inv X pins σ H s -> t σ H Q -> wpAny (model X.prog X.w) X.A (spliced (backTo pos (starEach es X.env))) (AP X pins σ Q) X.xe s
def PS (X : Cx) (st : Stmt) (t : TS) : Prop :=
 ∀ (pins : List (Addr × Obj)) (s : Shared) (σ : St) (H : Hp) (D : Ends),Inv X pins σ H s -> t D σ H -> wpAny (model X.prog X.w) X.A (exec st X.env) (SP X pins D) X.xe s
def PSs (X : Cx) (st : List Stmt) (t : TS) : Prop :=
 ∀ (pins : List (Addr × Obj)) (s : Shared) (σ : St) (H : Hp) (D : Ends),Inv X pins σ H s -> t D σ H -> wpAny (model X.prog X.w) X.A (execs st X.env) (SP X pins D) X.xe s
theorem thn {α : Type} {t : Sem α} {Q Q' : α -> Shared -> Prop} {M : Model} {A : Around} {E : Value -> Shared -> Prop} {s : Shared} (h : wpAny M A t Q E s) (hQ : ∀ a s,Q a s -> Q' a s) : wpAny M A t Q' E s := wpAny_mono h hQ fun _ _ x => x
end L2
namespace L2
open PySem PySem.Spec PyProof.Rows
section
variable {X : Cx}
theorem bin {a b : Expr} {ta tb : TE} (ha : PE X a ta) (hb : PE X b tb) {pins : List (Addr × Obj)} {s : Shared} {σ : St} {H : Hp} {R : V -> V -> Hp -> Prop} (I : Inv X pins σ H s) (h : ta σ H fun x H1 => tb σ H1 fun y H2 => R x y H2)
  {α : Type} {Q : α -> Shared -> Prop} {f : Value -> Value -> Sem α}
  (hf : ∀ v u s2 x y H2,Inv X pins σ H2 s2 -> RelV x v -> RelV y u -> R x y H2 -> wpAny (model X.prog X.w) X.A (f v u) Q X.xe s2) :
  wpAny (model X.prog X.w) X.A (eval a X.env) (fun v s₁ => wpAny (model X.prog X.w) X.A (eval b X.env) (fun u s₂ => wpAny (model X.prog X.w) X.A (f v u) Q X.xe s₂) X.xe s₁) X.xe s:=by
 refine thn (ha pins s σ H _ I h) fun v s1 ⟨x,H1,I1,r1,q1⟩ => ?_
 refine thn (hb pins s1 σ H1 _ I1 q1) fun u s2 ⟨y,H2,I2,r2,q2⟩ => ?_
 exact hf v u s2 x y H2 I2 r1 r2 q2
def zkb (i : Nat) : TE := fun σ H Q => ∃ v,σ[i]? = some (some v) /\ Q v H
def tC (v : V) : TE := fun _ H Q => Q v H
theorem zp2 {i : Nat} {x : Str} {pos : Pos} (hN : X.N[i]? = some x) (hv : Vis X.env.scope x) (hd : (x == ("__debug__" : Str)) = false := by decide) (hcd : (x == ("__classdict__" : Str)) = false := by decide) : PE X (.Name x pos) (zkb i):=by
 intro pins s σ H Q I h
 obtain ⟨v,e,h⟩ := h
 obtain ⟨m,hn,hl⟩ := I.loc
 obtain ⟨u,r,l⟩ := hl i x v hN e hv
 have fin : EP X pins σ Q u s := ⟨v,H,I,r,h⟩
 rcases l with ⟨hk,hm⟩ | ⟨hk,c,hc,hcell⟩
 ·exact wpAny_Name (wpAny_loadName_local I.ok.kind hk hn hm fin) hd
 ·rcases hk with hk | hk
  ·exact wpAny_Name (wpAny_loadName_cell I.ok.kind hk hc hcell fin) hd
  ·exact wpAny_Name (wpAny_loadName_free I.ok.kind hk hc hcell fin hcd) hd
theorem zst {i j pos} : PE X (.Constant (.int i) j pos) (tC (.int i)) := fun _ _ _ H _ I h => wpAny_Constant_int ⟨.int i,H,I.tok _,⟨_,rfl⟩,h⟩
theorem zuf {b j pos} : PE X (.Constant (.bool b) j pos) (tC (.bl b)) := fun _ _ _ H _ I h => Constant_bool ⟨.bl b,H,I,rfl,h⟩
theorem zsq {j pos} : PE X (.Constant .none j pos) (tC .non) := fun _ _ _ H _ I h => Constant_none ⟨.non,H,I,rfl,h⟩
def Gl (X : Cx) (x : Str) : Prop := X.env.kindOf x = some .globalImplicit
theorem zku {E : Value -> Shared -> Prop} {pins : List (Addr × Obj)} {s : Shared} {σ : St} {H : Hp} {x : Str} {u : Value} {pos : Pos} {Q : Value -> Shared -> Prop} (I : Inv X pins σ H s) (hg : Gl X x) (hm : X.mg x = some u) (h : Q u s)
  (hd : (x == ("__debug__" : Str)) = false := by decide) : wpAny (model X.prog X.w) X.A (eval (.Name x pos) X.env) Q E s :=
 Calls.Name_function_global I.ok.kind hg (Calls.loadGlobal_global (by rw [I.ok.glob]; exact I.mod.glob.keeps I.bk) hm h) hd
theorem zhT {E : Value -> Shared -> Prop} {pins : List (Addr × Obj)} {s : Shared} {σ : St} {H : Hp} {x : Str} {u : Value} {pos : Pos} {Q : Value -> Shared -> Prop} (I : Inv X pins σ H s) (hg : Gl X x) (hm : X.mg x = none) (hv : bootBuiltins x = some u) (h : Q u s)
  (hn : x ≠ "__name__" := by decide) (hd : (x == ("__debug__" : Str)) = false := by decide) : wpAny (model X.prog X.w) X.A (eval (.Name x pos) X.env) Q E s:=by
 obtain ⟨mb,h1,h2⟩ := I.mod.blt
 exact Calls.Name_function_global I.ok.kind hg (Calls.loadGlobal_builtin (by rw [I.ok.glob]; exact I.mod.glob.keeps I.bk) hm (by rw [I.ok.blt]; exact h1.keeps I.bk) ((h2 x hn).trans hv) h) hd
theorem zm5 {x : Str} {v : V} {u : Value} {pos : Pos} (hg : Gl X x) (hm : X.mg x = some u) (r : RelV v u) (hd : (x == ("__debug__" : Str)) = false := by decide) : PE X (.Name x pos) (tC v) :=
 fun _ _ _ H _ I h => zku I hg hm ⟨v,H,I,r,h⟩ hd
theorem zq8 {x : Str} {v : V} {u : Value} {pos : Pos} (hg : Gl X x) (hm : X.mg x = none) (hv : bootBuiltins x = some u) (r : RelV v u) (hn : x ≠ "__name__" := by decide) (hd : (x == ("__debug__" : Str)) = false := by decide) : PE X (.Name x pos) (tC v) :=
 fun _ _ _ H _ I h => zhT I hg hm hv ⟨v,H,I,r,h⟩ hn hd
variable {a b : Expr} {ta tb : TE} {pos : Pos}
def tB (t : TE) : TT := fun σ H Q => t σ H fun x H1 => ∃ c,x = .bl c /\ Q c H1
variable {tA tB' : TT} {rest : List Expr}
def tOr (t u : TT) : TT := fun σ H Q => t σ H fun c H1 => if c = true then Q true H1 else u σ H1 Q
def zeE (t : TT) : TT := fun σ H Q => t σ H fun c H1 => Q (!c) H1
theorem zsc (ha : PT X a tA) : PW X (.BoolOp .Or [a] pos) tA:=by
 intro wh pins s σ H Q I h
 refine isTrue_or (thn (ha pins s σ H Q I h) fun c s1 e => ?_)
 cases c with
 | false => exact isTrue_or_nil e
 | true => exact e
theorem zt3 (ha : PT X a tA) (hb : PW X (.BoolOp .Or (b :: rest) pos) tB') : PW X (.BoolOp .Or (a :: b :: rest) pos) (tOr tA tB'):=by
 intro wh pins s σ H Q I h
 refine isTrue_or (thn (ha pins s σ H _ I h) fun c s1 ⟨H1,I1,q1⟩ => ?_)
 cases c with
 | true => exact ⟨H1,I1,q1⟩
 | false => exact hb wh pins s1 σ H1 Q I1 q1
theorem zsg (ha : PT X a tA) : PT X (.UnaryOp .Not a pos) (zeE tA):=by
 intro pins s σ H Q I h
 exact isTrue_not (ha pins s σ H (fun c H1 => Q (!c) H1) I h)
def ztW (ta tb : TE) : TE := fun σ H Q => ta σ H fun x H1 => ∃ c,x = .bl c /\ if c = true then tb σ H1 Q else Q (.bl false) H1
def zvd (ta tb : TE) : TE := fun σ H Q => ta σ H fun x H1 => ∃ c,x = .bl c /\ if c = true then Q (.bl true) H1 else tb σ H1 Q
def ztT (ta : TE) : TE := fun σ H Q => ta σ H fun x H1 => ∃ c,x = .bl c /\ Q (.bl (!c)) H1
theorem zso {op} {t : TE} (h : PE X a t) : PE X (.BoolOp op [a] pos) t := fun pins s σ H Q I hw => BoolOp_one (h pins s σ H Q I hw)
theorem zsv (ha : PE X a ta) (hb : PE X (.BoolOp .And (b :: rest) pos) tb) : PE X (.BoolOp .And (a :: b :: rest) pos) (ztW ta tb):=by
 intro pins s σ H Q I h
 refine BoolOp_and (thn (ha pins s σ H _ I h) fun v s1 ⟨x,H1,I1,r1,q1⟩ => ?_)
 obtain ⟨c,rfl,q1⟩ := q1
 cases r1
 refine wpAny_truthy_bool ?_
 cases c with
 | true => exact hb pins s1 σ H1 Q I1 q1
 | false => exact ⟨.bl false,H1,I1,rfl,q1⟩
theorem zuc (ha : PE X a ta) (hb : PE X (.BoolOp .Or (b :: rest) pos) tb) : PE X (.BoolOp .Or (a :: b :: rest) pos) (zvd ta tb):=by
 intro pins s σ H Q I h
 refine BoolOp_or (thn (ha pins s σ H _ I h) fun v s1 ⟨x,H1,I1,r1,q1⟩ => ?_)
 obtain ⟨c,rfl,q1⟩ := q1
 cases r1
 refine wpAny_truthy_bool ?_
 cases c with
 | false => exact hb pins s1 σ H1 Q I1 q1
 | true => exact ⟨.bl true,H1,I1,rfl,q1⟩
theorem zsp (ha : PE X a ta) : PE X (.UnaryOp .Not a pos) (ztT ta):=by
 intro pins s σ H Q I h
 refine UnaryOp_ (thn (ha pins s σ H _ I h) fun v s1 ⟨x,H1,I1,r1,q1⟩ => ?_)
 obtain ⟨c,rfl,q1⟩ := q1
 cases r1
 exact not_of (wpAny_truthy_bool ⟨.bl (!c),H1,I1,rfl,q1⟩)
end
end L2
namespace L2
open PySem PySem.Spec PyProof.Rows
def SqL (K : PySem.W.Frag) (H : Hp) (a : Addr) (xs : List V) : Prop :=
 Rd H a (.lst xs) \/
  ∃ (o : Obj) (its : Array Value) (n : Nat),K.lookup a = some o /\ o.cls = .type "list" /\ o.dict = none /\ o.data = .seq its n /\ its.size <= sizeLine /\ Vals xs its.toList
def SqT (K : PySem.W.Frag) (H : Hp) (a : Addr) (xs : List V) : Prop :=
 Rd H a (.tup xs) \/
  ∃ (o : Obj) (its : Array Value) (n : Nat),K.lookup a = some o /\ o.cls = .type "tuple" /\ o.data = .seq its n /\ its.size <= sizeLine /\ Vals xs its.toList
def zvN : Value -> Option V
 | .none => some .non
 | .bool b => some (.bl b)
 | .int i _ => some (.int i)
 | .str x _ => some (.str x)
 | .bytes b _ => some (.byt b)
 | .float b _ => some (.flt b)
 | .ref a => some (.ref a)
 | .type n => some (.ty n)
 | _ => none
theorem RelV.abs {x : V} {u : Value} (r : RelV x u) : zvN u = some x:=by
 cases x with
 | non => cases r; rfl
 | bl _ => cases r; rfl
 | int _ => obtain ⟨t,rfl⟩ := r; rfl
 | str _ => obtain ⟨t,rfl⟩ := r; rfl
 | byt _ => obtain ⟨t,rfl⟩ := r; rfl
 | flt _ => obtain ⟨t,rfl⟩ := r; rfl
 | ref _ => cases r; rfl
 | ty _ => cases r; rfl
theorem RelV.inj {x y : V} {u : Value} (r : RelV x u) (q : RelV y u) : x = y := Option.some.inj (r.abs.symm.trans q.abs)
theorem Vals.inj : ∀ {xs ys : List V} {us : List Value},Vals xs us -> Vals ys us -> xs = ys
 | _,_,_,.nil,.nil => rfl
 | _,_,_,.cons r t,.cons r' t' => by rw [r.inj r',Vals.inj t t']
section
variable {X : Cx} {pins : List (Addr × Obj)} {σ : St} {H : Hp} {s : Shared} {a : Addr} {xs ys : List V}
theorem SqL.of {K : PySem.W.Frag} (h : H a = some (.lst xs)) : SqL K H a xs := .inl (.inl h)
theorem Inv.list (I : Inv X pins σ H s) (h : SqL X.K H a xs) : ∃ its : List Value,Vals xs its /\ PlainL s.heap a its.toArray /\ xs.length <= sizeLine:=by
 rcases h with h | ⟨o,its,n,hk,hc,hd,hs,hz,r⟩
 ·obtain ⟨z,its,n,r,e⟩ := h.ok I.hok
  exact ⟨its,r,⟨_,n,e,rfl,rfl,rfl⟩,z⟩
 ·refine ⟨its.toList,r,⟨o,n,I.kIn a o hk,hc,hd,by simpa using hs⟩,?_⟩
  have e := r.length
  simp only [Array.length_toList] at e
  omega
theorem Inv.tuple (I : Inv X pins σ H s) (h : SqT X.K H a xs) : ∃ its : List Value,Vals xs its /\ IsTup s.heap a its.toArray /\ xs.length <= sizeLine:=by
 rcases h with h | ⟨o,its,n,hk,hc,hs,hz,r⟩
 ·obtain ⟨z,its,r,p⟩ := h.ok I.hok
  exact ⟨its,r,p,z⟩
 ·refine ⟨its.toList,r,⟨o,I.kIn a o hk,hc,n,by simpa using hs⟩,?_⟩
  have e := r.length
  simp only [Array.length_toList] at e
  omega
theorem Inv.zga (I : Inv X pins σ H s) (h : SqL X.K H a xs) (h' : SqL X.K H a ys) : xs = ys:=by
 obtain ⟨its,r,⟨o,n,e,_,_,d⟩,_⟩ := I.list h
 obtain ⟨its',r',⟨o',n',e',_,_,d'⟩,_⟩ := I.list h'
 rw [e] at e'; cases e'
 rw [d] at d'
 injection d' with d1 _
 have : its = its' := by simpa using congrArg Array.toList d1
 subst this
 exact r.inj r'
theorem Inv.zmA (I : Inv X pins σ H s) (h : SqT X.K H a xs) (h' : SqT X.K H a ys) : xs = ys:=by
 obtain ⟨its,r,⟨o,e,_,n,d⟩,_⟩ := I.tuple h
 obtain ⟨its',r',⟨o',e',_,n',d'⟩,_⟩ := I.tuple h'
 rw [e] at e'; cases e'
 rw [d] at d'
 injection d' with d1 _
 have : its = its' := by simpa using congrArg Array.toList d1
 subst this
 exact r.inj r'
end
abbrev Cx.wish (X : Cx) (E : Value -> Shared -> Prop) : Cx := { X with xe := E }
abbrev Cx.nox (X : Cx) : Cx := X.wish fun _ _ => False
theorem Cx.Ok.wish {X : Cx} (ok : X.Ok) (E : Value -> Shared -> Prop) : (X.wish E).Ok :=
 ⟨ok.mod,ok.kind,ok.glob,ok.blt,ok.above,ok.inj,ok.has,ok.cab,ok.hd,ok.frames,ok.stk,ok.exf,ok.bs,ok.bsz,ok.noex,ok.exfs,ok.zml,ok.frf⟩
theorem Cx.Ok.zfH {X : Cx} {E : Value -> Shared -> Prop} (ok : (X.wish E).Ok) : X.Ok :=
 ⟨ok.mod,ok.kind,ok.glob,ok.blt,ok.above,ok.inj,ok.has,ok.cab,ok.hd,ok.frames,ok.stk,ok.exf,ok.bs,ok.bsz,ok.noex,ok.exfs,ok.zml,ok.frf⟩
section
variable {X : Cx} {pins : List (Addr × Obj)} {σ : St} {H : Hp} {s : Shared} {E : Value -> Shared -> Prop}
theorem Inv.wish (I : Inv X pins σ H s) (E : Value -> Shared -> Prop) : Inv (X.wish E) pins σ H s := ⟨I.ok.wish E,I.os,I.bare,I.base,I.loc,I.cell,I.free,I.freeC,I.pin,I.hok,I.len⟩
theorem Inv.zfH (I : Inv (X.wish E) pins σ H s) : Inv X pins σ H s := ⟨I.ok.zfH,I.os,I.bare,I.base,I.loc,I.cell,I.free,I.freeC,I.pin,I.hok,I.len⟩
theorem SP.zfH {D : Ends} {f : Flow} {s' : Shared} (h : SP (X.wish E) pins D f s') : SP X pins D f s':=by
 cases f with
 | next => obtain ⟨σ',H',I,q⟩ := h; exact ⟨σ',H',I.zfH,q⟩
 | brk => obtain ⟨σ',H',I,q⟩ := h; exact ⟨σ',H',I.zfH,q⟩
 | cont => obtain ⟨σ',H',I,q⟩ := h; exact ⟨σ',H',I.zfH,q⟩
 | ret u => obtain ⟨v,σ',H',I,r,q⟩ := h; exact ⟨v,σ',H',I.zfH,r,q⟩
theorem PSs.nox {st : List Stmt} {t : TS} (h : PSs X.nox st t) : PSs X st t := fun pins s σ H D I hw =>
 wpAny_mono (h pins s σ H D (I.wish _) hw) (fun _ _ q => q.zfH) fun _ _ z => False.elim z
end
section
variable {X : Cx} {st : Stmt} {rest : List Stmt} {t u : TS} {e : Expr} {te : TE} {pos : Pos}
def ztU : TS := fun D σ H => D.nx σ H
def zva (t u : TS) : TS := fun D σ H => t { D with nx := u D } σ H
theorem zqT : PSs X [] ztU := fun _ _ σ H _ I h => wpAny_execs_nil ⟨σ,H,I,h⟩
theorem zo5 (h1 : PS X st t) (h2 : PSs X rest u) : PSs X (st :: rest) (zva t u):=by
 intro pins s σ H D I h
 refine wpAny_execs_cons (thn (h1 pins s σ H { D with nx := u D } I h) fun f s1 q => ?_)
 cases f with
 | next =>
  obtain ⟨σ',H',I',q⟩ := q
  exact h2 pins s1 σ' H' D I' q
 | ret v => exact q
 | brk => exact q
 | cont => exact q
theorem zqS (h1 : PS X st t) : PSs X [st] t:=by
 intro pins s σ H D I h
 refine wpAny_execs_cons (thn (h1 pins s σ H D I h) fun f s1 q => ?_)
 cases f with
 | next => exact wpAny_execs_nil q
 | ret v => exact q
 | brk => exact q
 | cont => exact q
theorem Inv.quiet {pins : List (Addr × Obj)} {σ : St} {H : Hp} {s : Shared} (I : Inv X pins σ H s) : interactive X.env = false := by simp [interactive,I.ok.kind]
def ztV (te : TE) : TS := fun D σ H => te σ H fun _ H1 => D.nx σ H1
theorem zmZ (he : PE X e te) (hs : swapsWith e none pos.line X.env = pure false := by rfl) : PS X (.Expr e pos) (ztV te):=by
 intro pins s σ H D I h
 exact wpAny_Expr_any (thn (he pins s σ H _ I h) fun v s1 ⟨x,H1,I1,r1,q1⟩ => ⟨σ,H1,I1,q1⟩) I.quiet hs
def zvb (te : TE) : TS := fun D σ H => te σ H D.rt
theorem zmY (he : PE X e te) : PS X (.Return (some e) pos) (zvb te):=by
 intro pins s σ H D I h
 exact wpAny_Return_some (thn (he pins s σ H _ I h) fun v s1 ⟨x,H1,I1,r1,q1⟩ => ⟨x,σ,H1,I1,r1,q1⟩)
def zvf (c : TT) (t u : TS) : TS := fun D σ H => c σ H fun b H1 => if b = true then t D σ H1 else u D σ H1
theorem zt9 {c : Expr} {a b : List Stmt} {tc : TT} (hc : PT X c tc) (ha : PSs X a t) (hb : PSs X b u) : PS X (.If c a b pos) (zvf tc t u):=by
 intro pins s σ H D I h
 refine wpAny_If (thn (hc pins s σ H _ I h) fun d s1 ⟨H1,I1,q1⟩ => ?_)
 cases d with
 | true => exact ha pins s1 σ H1 D I1 q1
 | false => exact hb pins s1 σ H1 D I1 q1
def zrY : TS := fun _ _ _ => False
theorem zo7 : PS X st zrY := fun _ _ _ _ _ _ h => h.elim
end
abbrev TG := V -> St -> Hp -> (St -> Hp -> Prop) -> Prop
abbrev TGs := List V -> St -> Hp -> (St -> Hp -> Prop) -> Prop
def PG (X : Cx) (target : Expr) (t : TG) : Prop :=
 ∀ (pins : List (Addr × Obj)) (s : Shared) (σ : St) (H : Hp) (v : V) (u : Value) (Q : St -> Hp -> Prop),Inv X pins σ H s -> RelV v u -> t v σ H Q ->
  wpAny (model X.prog X.w) X.A (assign target X.env u) (fun _ s' => ∃ σ' H',Inv X pins σ' H' s' /\ Q σ' H') X.xe s
def PGs (X : Cx) (ts : List Expr) (t : TGs) : Prop :=
 ∀ (pins : List (Addr × Obj)) (s : Shared) (σ : St) (H : Hp) (vs : List V) (us : List Value) (Q : St -> Hp -> Prop),Inv X pins σ H s -> Vals vs us -> t vs σ H Q ->
  wpAny (model X.prog X.w) X.A (assignInOrder ((assignEach ts X.env).map (·.2)) us) (fun _ s' => ∃ σ' H',Inv X pins σ' H' s' /\ Q σ' H') X.xe s
abbrev zuN := V -> V -> V -> Hp -> (Hp -> Prop) -> Prop
def zu4 (X : Cx) (t : zuN) : Prop :=
 ∀ (pins : List (Addr × Obj)) (s : Shared) (σ : St) (H : Hp) (o i v : V) (ov iv u : Value) (Q : Hp -> Prop),Inv X pins σ H s -> RelV o ov -> RelV i iv -> RelV v u -> t o i v H Q ->
  wpAny (model X.prog X.w) X.A (setItem ov iv u) (fun _ s' => ∃ H',Inv X pins σ H' s' /\ Q H') X.xe s
section
variable {X : Cx} {pos : Pos}
def znN (i : Nat) : TG := fun v σ H Q => Q (σ.set i (some v)) H
theorem zq5 {i : Nat} {x : Str} (hN : X.N.Nodup) (hi : X.N[i]? = some x) (hx : Loc X.env.scope x) (hf : X.fn x = true \/ X.env.scope.names.lookup x = some .local := by first | exact .inl rfl | exact .inr rfl | assumption) : PG X (.Name x pos) (znN i):=by
 intro pins s σ H v u Q I r h
 exact wpAny_assign_Name (zf8 I hN hi hx r (fun s' I' => ⟨_,H,I',h⟩) hf)
def zvK : TGs := fun vs σ H Q => vs = [] /\ Q σ H
def zux (t : TG) (u : TGs) : TGs := fun vs σ H Q => ∃ v r,vs = v :: r /\ t v σ H fun σ' H' => u r σ' H' Q
theorem zq4 : PGs X [] zvK:=by
 intro pins s σ H vs us Q I r h
 obtain ⟨e,h⟩ := h
 subst e
 cases r
 exact assignInOrder_nil ⟨σ,H,I,h⟩
theorem zpa {e : Expr} {es : List Expr} {t : TG} {u : TGs} (h1 : PG X e t) (h2 : PGs X es u)
  (hs : (assignEach (e :: es) X.env).map (·.2) = assign e X.env :: (assignEach es X.env).map (·.2) := by rfl) : PGs X (e :: es) (zux t u):=by
 intro pins s σ H vs us Q I r h
 obtain ⟨v,vr,e1,h⟩ := h
 subst e1
 cases r with
 | cons r rr =>
  rw [hs]
  refine assignInOrder_cons (thn (h1 pins s σ H _ _ _ I r h) fun _ s1 ⟨σ1,H1,I1,q1⟩ => ?_)
  exact h2 pins s1 σ1 H1 _ _ Q I1 rr q1
def zvI (K : PySem.W.Frag) (n : Nat) (t : TGs) : TG := fun v σ H Q => ∃ a xs,v = .ref a /\ SqT K H a xs /\ xs.length = n /\ t xs σ H Q
theorem zsl {es : List Expr} {k : Nat} {t : TGs} {n : Nat} (hc : X.calm = true) (h : PGs X es t)
  (hn : (assignEach es X.env).length = n := by rfl) (hst : (assignEach es X.env).findIdx? (·.1) = none := by rfl) : PG X (.Tuple es k pos) (zvI X.K n t):=by
 intro pins s σ H v u Q I r hw
 obtain ⟨a,xs,e1,hq,hl,hw⟩ := hw
 subst e1
 cases r
 obtain ⟨its,rv,ht,hz⟩ := I.tuple hq
 refine assign_Tuple_tuple (I.ok.hd hc) ht (by simp [hn,<- hl,rv.length]) hst fun h' hx => ?_
 have I1 : Inv X pins σ H { s with heap := h' } := I.kept (t' := s.toks) fun b o e => hx b o (Nat.ne_of_lt (Heap.lt_size e)) e
 exact h pins _ σ H xs _ Q I1 (by simpa using rv) hw
def zvJ (to ti : TE) (t : zuN) : TG := fun v σ H Q => to σ H fun o H1 => ti σ H1 fun i H2 => t o i v H2 fun H3 => Q σ H3
theorem zsm {o i : Expr} {to ti : TE} {t : zuN} (ho : PE X o to) (hi : PE X i ti) (hs : zu4 X t)
  (ha : ∀ v,assign (.Subscript o i pos) X.env v = (do
   let ov <- holding [v] (eval o X.env)
   let iv <- holding [v,ov] (eval i X.env)
   standAt pos
   holding [v,ov,iv] (setItem ov iv v)
   release [v,ov,iv] []) := by intro _; rfl) : PG X (.Subscript o i pos) (zvJ to ti t):=by
 intro pins s σ H v u Q I r h
 rw [ha]
 refine wpAny_bind (wpAny_holding (thn (ho pins s σ H _ I h) fun ov s1 ⟨x,H1,I1,r1,q1⟩ => ?_))
 refine wpAny_bind (wpAny_holding (thn (hi pins s1 σ H1 _ I1 q1) fun iv s2 ⟨y,H2,I2,r2,q2⟩ => ?_))
 refine wpAny_bind (wpAny_standAt (wpAny_bind (wpAny_holding (thn (hs pins s2 σ H2 x y v ov iv u _ I2 r1 r2 r q2) fun _ s3 ⟨H3,I3,q3⟩ => ?_))))
 exact wpAny_release ⟨σ,H3,I3,q3⟩
def zr2 (te : TE) (g : TG) : TS := fun D σ H => te σ H fun x H1 => g x σ H1 D.nx
theorem zp1 {tg e : Expr} {te : TE} {g : TG} (he : PE X e te) (hg : PG X tg g) (hs : swapsWithSole [tg] e pos.line X.env = pure false := by rfl) (hw : swappedStores [tg] e X.env = pure none := by rfl)
  (h1 : (assignEach [tg] X.env).map (·.2) = [assign tg X.env] := by rfl) : PS X (.Assign [tg] e pos) (zr2 te g):=by
 intro pins s σ H D I h
 refine wpAny_Assign_stores (thn (he pins s σ H _ I h) fun v s1 ⟨x,H1,I1,r1,q1⟩ => ?_) hs hw
 rw [h1]
 exact thn (hg pins s1 σ H1 x v _ I1 r1 q1) fun _ s2 q => q
theorem zp0 {i : Nat} {x : Str} {e : Expr} {te : TE} {pos' : Pos} (hN : X.N.Nodup) (hi : X.N[i]? = some x) (hx : Loc X.env.scope x) (he : PE X e te) (hs : swapsWith e (some (.Name x pos')) pos.line X.env = pure false := by rfl) (hf : X.fn x = true \/ X.env.scope.names.lookup x = some .local := by first | exact .inl rfl | exact .inr rfl | assumption) :
  PS X (.Assign [.Name x pos'] e pos) (zr2 te (znN i)):=by
 intro pins s σ H D I h
 refine wpAny_Assign_Name (thn (he pins s σ H _ I h) fun v s1 ⟨y,H1,I1,r1,q1⟩ => ?_) hs
 exact zf8 I1 hN hi hx r1 (fun s2 I2 => ⟨_,H1,I2,q1⟩) hf
def zvc (i j : Nat) (ta : TA) : TS := fun D σ H => ta σ H fun vs H1 => ∃ v w,vs = [v,w] /\ D.nx ((σ.set i (some v)).set j (some w)) H1
theorem zsh {i j : Nat} {x y : Str} {a b : Expr} {ta : TA} {px py pt : Pos} {kt k2 pt2} (hc : X.calm = true) (hN : X.N.Nodup) (hi : X.N[i]? = some x) (hj : X.N[j]? = some y) (hij : i ≠ j)
  (hx : X.env.scope.names.lookup x = some .local) (hy : X.env.scope.names.lookup y = some .local) (ha : PA X [a,b] ta)
  (hw : swappedStores [.Tuple [.Name x px,.Name y py] kt pt] (.Tuple [a,b] k2 pt2) X.env = pure (some [x,y]))
  (hs : swapsWithSole [.Tuple [.Name x px,.Name y py] kt pt] (.Tuple [a,b] k2 pt2) pos.line X.env = pure false := by rfl) :
  PS X (.Assign [.Tuple [.Name x px,.Name y py] kt pt] (.Tuple [a,b] k2 pt2) pos) (zvc i j ta):=by
 intro pins s σ H D I h
 rw [exec_Assign_arm]
 refine wpAny_bind (wpAny_standAt ?_)
 rw [hs]
 refine wpAny_bind (wpAny_pure ?_)
 rw [if_neg (by decide)]
 refine wpAny_bind (Tuple_ (thn (ha _ pins s σ H _ I h) fun us s1 ⟨vs,H1,I1,r1,q1⟩ => ?_))
 obtain ⟨v,w,e1,q1⟩ := q1
 subst e1
 obtain ⟨u1,u2,rfl,rv,rw'⟩ : ∃ u1 u2,us = [u1,u2] /\ RelV v u1 /\ RelV w u2:=by
  cases r1 with
  | cons p q =>
   cases q with
   | cons p' q' =>
    cases q'
    exact ⟨_,_,rfl,p,p'⟩
 refine wpAny_newObj_type ?_ (by show 2 <= sizeLine; decide)
 have I2 : Inv X pins σ H1 { s1 with heap := s1.heap.push { cls := .type "tuple",data := .seq [u1,u2].toArray } } := I1.kept (t' := s1.toks) fun b o e => Heap.get?_push_of_some _ e
 rw [hw]
 refine wpAny_bind (wpAny_pure ?_)
 show wpAny (model X.prog X.w) X.A (do rule "assign.swapped-stores"; let items <- unpackItems (.ref s1.heap.objs.size) 2 none; assignInOrder [fun v => bindName X.env y v,fun v => bindName X.env x v] items.reverse; pure Flow.next) _ _ _
 refine wpAny_bind (wpAny_rule (wpAny_bind (unpackItems_tuple (items:=#[u1,u2]) (I.ok.hd hc) (IsTup.new s1.heap _) fun h' hx' => ?_)))
 have I3 := I2.kept (h' := h') (t' := s1.toks) fun b o e => hx' b o (Nat.ne_of_lt (Heap.lt_size e)) e
 show wpAny _ _ (assignInOrder [fun v => bindName X.env y v,fun v => bindName X.env x v] [u2,u1] >>= fun _ => pure Flow.next) _ _ _
 refine wpAny_bind (assignInOrder_cons (wpAny_bindName (zf8 I3 hN hj (.inl hy) rw' (fun s2 I4 => ?_) (.inr hy))))
 refine assignInOrder_cons (wpAny_bindName (zf8 I4 hN hi (.inl hx) rv (fun s3 I5 => assignInOrder_nil (wpAny_pure ?_)) (.inr hx)))
 rw [List.set_comm _ _ (Ne.symm hij)] at I5
 exact ⟨_,H1,I5,q1⟩
end
section
variable {X : Cx} {pos : Pos}
def zrW (c : TT) (tb : TS) : TS := fun D σ H => ∃ W : Nat -> St -> Hp -> Prop,(∃ m,W m σ H) /\ ∀ m σ H,W m σ H ->
 c σ H fun b H1 => if b = true then ∃ N : St -> Hp -> Prop,(∀ σ' H',N σ' H' -> ∃ m',m' < m /\ W m' σ' H') /\ tb { D with nx := N,ct := N,bk := D.nx } σ H1 else D.nx σ H1
theorem zo6 {c : Expr} {body : List Stmt} {tc : TT} {tb : TS} (hp : PassesOwn (model X.prog X.w) X.A X.env X.xe) (hc : PT X c tc) (hb : PSs X body tb) : PS X (.While c body [] pos) (zrW tc tb):=by
 intro pins s σ H D I h
 obtain ⟨W,⟨m0,w0⟩,turn⟩ := h
 refine wpAny_While (codeAny_whileLoop (fun n s' => ∃ σ' H',Inv X pins σ' H' s' /\ W n σ' H') ?_ m0 ⟨σ,H,I,w0⟩)
 rintro n s1 ⟨σ1,H1,I1,w1⟩
 refine wpAny_passesOwn hp (thn (hc pins s1 σ1 H1 _ I1 (turn n σ1 H1 w1)) fun b s2 ⟨H2,I2,q2⟩ => ?_)
 cases b with
 | true =>
  obtain ⟨N,hN,q2⟩ := q2
  rw [if_pos rfl]
  refine wpAny_passesOwn hp (thn (hb pins s2 σ1 H2 _ I2 q2) fun f s3 q3 => ?_)
  cases f with
  | next =>
   obtain ⟨σ3,H3,I3,n3⟩ := q3
   obtain ⟨m',hm,w3⟩ := hN σ3 H3 n3
   exact ⟨m',hm,σ3,H3,I3,w3⟩
  | cont =>
   obtain ⟨σ3,H3,I3,n3⟩ := q3
   obtain ⟨m',hm,w3⟩ := hN σ3 H3 n3
   exact ⟨m',hm,σ3,H3,I3,w3⟩
  | brk => exact q3
  | ret v => exact q3
 | false =>
  rw [if_neg Bool.false_ne_true]
  exact wpAny_execs_nil ⟨σ1,H2,I2,q2⟩
end
structure It where
 go : Nat -> Hp -> Prop
 yld : Nat -> Hp -> V -> Hp -> Prop
 stop : Nat -> Hp -> Prop
def zhn (X : Cx) (pins : List (Addr × Obj)) (H : Hp) (b : Addr) : Prop :=
 H b = none /\ b ≠ X.env.locals /\ b ∉ X.fs /\ (b ∈ X.ex \/ X.s₀.heap.objs.size <= b) /\ (∀ x c,X.env.cells.lookup x = some c -> c ≠ b) /\ ∀ p ∈ X.pn ++ pins,p.1 ≠ b
theorem Inv.zow {X : Cx} {pins : List (Addr × Obj)} {σ : St} {H H' : Hp} {s : Shared} {b : Addr} (I : Inv X pins σ H s) (hb : s.heap.objs.size <= b) (hn : H' b = none) : zhn X pins H' b:=by
 refine ⟨hn,Nat.ne_of_gt (Nat.lt_of_lt_of_le I.lt hb),I.zvx hb,.inr (Nat.le_trans I.sz hb),fun x c e z => ?_,fun p hp z => ?_⟩
 ·obtain ⟨v,q⟩ := I.cell x c e
  exact absurd (Nat.lt_of_lt_of_le q.lt (by rw [z]; exact hb)) (Nat.lt_irrefl _)
 ·exact absurd (Nat.lt_of_lt_of_le (Heap.lt_size (I.pin p hp).1) (by rw [z]; exact hb)) (Nat.lt_irrefl _)
structure Turn (P : Program) (w : World) (K : PySem.W.Frag) (tg : Expr) (J : It) (fp : List Addr) (it : Addr) (tn : Nat -> Heap -> Prop) : Prop where
 mem : it ∈ fp
 obj : ∀ i h,tn i h -> ∀ b ∈ fp,∃ o,h.get? b = some o /\ ∀ v,o.data ≠ .cell v
 keep : ∀ i h h',tn i h -> (∀ b ∈ fp,∀ o,h.get? b = some o -> h'.get? b = some o) -> tn i h'
 item : ∀ (X : Cx),X.prog = P -> X.w = w -> X.K = K -> X.calm = true -> ∀ (i : Nat) (pins : List (Addr × Obj)) (s : Shared) (σ : St) (H : Hp) (E : Value -> Shared -> Prop),Inv X pins σ H s -> (∀ b ∈ fp,zhn X pins H b) -> tn i s.heap -> J.go i H ->
  wpAny (model P w) X.A (pyNext (.ref it)) (fun r s1 => ∃ u,r = some u /\
   wpAny (model P w) X.A (letOwnedTupleGo tg (.ref it) u) (fun _ s2 => ∃ x H',Inv X pins σ H' s2 /\ RelV x u /\ J.yld i H x H' /\ tn (i + 1) s2.heap /\ ∀ b ∈ fp,H' b = none) E s1) E s
 done : ∀ (X : Cx),X.prog = P -> X.w = w -> X.K = K -> X.calm = true -> ∀ (i : Nat) (pins : List (Addr × Obj)) (s : Shared) (σ : St) (H : Hp) (E : Value -> Shared -> Prop),Inv X pins σ H s -> (∀ b ∈ fp,zhn X pins H b) -> tn i s.heap -> J.stop i H ->
  wpAny (model P w) X.A (pyNext (.ref it)) (fun r s1 => r = none /\ Inv X pins σ H s1) E s
 self : ∀ (A : Around) (i : Nat) (s : Shared) (Q : Value -> Shared -> Prop) (E : Value -> Shared -> Prop),tn i s.heap -> Q (.ref it) s -> wpAny (model P w) A (pyIter (.ref it)) Q E s
abbrev TI := St -> Hp -> (It -> Hp -> Prop) -> Prop
def PIE (X : Cx) (pins : List (Addr × Obj)) (σ : St) (tg : Expr) (R : It -> Hp -> Prop) (itv : Value) (s2 : Shared) : Prop :=
 ∃ (it : Addr) (fp : List Addr) (tn : Nat -> Heap -> Prop) (J : It) (H' : Hp),itv = .ref it /\ Inv X pins σ H' s2 /\ Turn X.prog X.w X.K tg J fp it tn /\ tn 0 s2.heap /\ (∀ b ∈ fp,zhn X pins H' b) /\ R J H'
def PI (X : Cx) (tg iter : Expr) (wi : TI) : Prop :=
 ∀ (pins : List (Addr × Obj)) (s : Shared) (σ : St) (H : Hp) (R : It -> Hp -> Prop),Inv X pins σ H s -> wi σ H R ->
  wpAny (model X.prog X.w) X.A (eval iter X.env) (fun v s1 => wpAny (model X.prog X.w) X.A (pyIter v) (PIE X pins σ tg R) X.xe s1) X.xe s
theorem znJ {M : Model} {A : Around} {E : Value -> Shared -> Prop} {s : Shared} {tg : Expr} {it : Addr} {u : Value} {o : Obj} {n : String} {vs : Array Value} {Q : Unit -> Shared -> Prop} (ho : s.heap.get? it = some o) (hc : o.cls = .type n) (hd : o.data = .fields vs)
    (hn : ["enumerate", "zip", "dict_itemiterator", "dict_reverseitemiterator", "odict_iterator", "itertools.zip_longest", "itertools.pairwise"].contains n = false) (hQ : Q () s) : wpAny M A (letOwnedTupleGo tg (.ref it) u) Q E s := by
  unfold letOwnedTupleGo
  cases tg <;> first
    | exact wpAny_pure hQ
    | (cases u <;> first
        | exact wpAny_pure hQ
        | (refine wpAny_bind (wpAny_load ho ?_)
           rw [hc, hd]
           show wpAny M A (if (["enumerate", "zip", "dict_itemiterator", "dict_reverseitemiterator", "odict_iterator", "itertools.zip_longest", "itertools.pairwise"].contains n && vs[0]? == some (rawInt _)) = true then _ else _) Q E s
           rw [if_neg (by intro h; rw [hn, Bool.false_and] at h; cases h)]
           exact wpAny_pure hQ))
def Itl (K : PySem.W.Frag) (a : Addr) : It :=
 ⟨fun i H => ∃ xs x,SqL K H a xs /\ xs[i]? = some x,fun i H x H' => H' = H /\ ∀ xs,SqL K H a xs -> xs[i]? = some x,fun i H => ∃ xs,SqL K H a xs /\ xs.length <= i⟩
def Itt (K : PySem.W.Frag) (a : Addr) : It :=
 ⟨fun i H => ∃ xs x,SqT K H a xs /\ xs[i]? = some x,fun i H x H' => H' = H /\ ∀ xs,SqT K H a xs -> xs[i]? = some x,fun i H => ∃ xs,SqT K H a xs /\ xs.length <= i⟩
def Itr (lo : Int) (n : Nat) : It := ⟨fun i _ => i < n,fun i H x H' => H' = H /\ x = .int (lo + i),fun i _ => n <= i⟩
theorem zmx {P : Program} {w : World} {K : PySem.W.Frag} {tg : Expr} (a it : Addr) : Turn P w K tg (Itl K a) [it] it (fun i h => h.IsListIter it a i) where
 mem := by simp
 obj := fun i h st b hb => by
  have e : b = it := by simpa using hb
  subst e
  obtain ⟨o,e,c,d⟩ := st
  exact ⟨o,e,fun v z => by rw [d] at z; cases z⟩
 keep := fun i h h' st k => st.at fun o e => k it (by simp) o e
 item:=by
  intro X hP hw hK hc i pins s σ H E I hf st hg
  subst hP hw hK
  obtain ⟨xs,x,hq,hx⟩ := hg
  obtain ⟨its,rv,p,hz⟩ := I.list hq
  obtain ⟨u,hu,ru⟩ := rv.get hx
  obtain ⟨f0,f1,f2,f3,f4,f5⟩ := hf it (by simp)
  refine wpAny_pyNext_list_item st p.isList (x:=u) (by simpa using hu) fun h' st' sb => ?_
  have I1 : Inv X pins σ H { s with heap := h' } := I.turned (t' := s.toks) (fun b o hb e => (sb.2 b hb).trans e) f0 f1 f3 f4 f5
  obtain ⟨o,e,c,d⟩ := id st'
  exact ⟨u,rfl,znJ (s:={ s with heap := h' }) e c d (by decide) ⟨x,H,I1,ru,⟨rfl,fun ys hy => by rw [I.zga hy hq]; exact hx⟩,st',fun b hb => (hf b hb).1⟩⟩
 done:=by
  intro X hP hw hK hc i pins s σ H E I hf st hg
  subst hP hw hK
  obtain ⟨xs,hq,hx⟩ := hg
  obtain ⟨its,rv,p,hz⟩ := I.list hq
  obtain ⟨f0,f1,f2,f3,f4,f5⟩ := hf it (by simp)
  have hl := rv.length
  exact wpAny_pyNext_list_end (I.ok.hd hc) st p.isList (by simp; omega) fun h' eb => ⟨rfl,I.turned (t' := s.toks) (fun b o hb e => eb b o hb e) f0 f1 f3 f4 f5⟩
 self := fun _ _ _ _ _ st h => wpAny_pyIter_listiter st h
theorem zlO {P : Program} {w : World} {K : PySem.W.Frag} {tg : Expr} (a it : Addr) : Turn P w K tg (Itt K a) [it] it (fun i h => h.IsTupleIter it a i) where
 mem := by simp
 obj := fun i h st b hb => by
  have e : b = it := by simpa using hb
  subst e
  obtain ⟨o,e,c,d⟩ := st
  exact ⟨o,e,fun v z => by rw [d] at z; cases z⟩
 keep := fun i h h' st k => st.at fun o e => k it (by simp) o e
 item:=by
  intro X hP hw hK hc i pins s σ H E I hf st hg
  subst hP hw hK
  obtain ⟨xs,x,hq,hx⟩ := hg
  obtain ⟨its,rv,p,hz⟩ := I.tuple hq
  obtain ⟨u,hu,ru⟩ := rv.get hx
  obtain ⟨f0,f1,f2,f3,f4,f5⟩ := hf it (by simp)
  refine wpAny_pyNext_tuple_item st (show s.heap.IsTuple a its.toArray from p) (x:=u) (by simpa using hu) fun h' st' sb => ?_
  have I1 : Inv X pins σ H { s with heap := h' } := I.turned (t' := s.toks) (fun b o hb e => (sb.2 b hb).trans e) f0 f1 f3 f4 f5
  obtain ⟨o,e,c,d⟩ := id st'
  exact ⟨u,rfl,znJ (s:={ s with heap := h' }) e c d (by decide) ⟨x,H,I1,ru,⟨rfl,fun ys hy => by rw [I.zmA hy hq]; exact hx⟩,st',fun b hb => (hf b hb).1⟩⟩
 done:=by
  intro X hP hw hK hc i pins s σ H E I hf st hg
  subst hP hw hK
  obtain ⟨xs,hq,hx⟩ := hg
  obtain ⟨its,rv,p,hz⟩ := I.tuple hq
  obtain ⟨f0,f1,f2,f3,f4,f5⟩ := hf it (by simp)
  have hl := rv.length
  exact wpAny_pyNext_tuple_end (I.ok.hd hc) st (show s.heap.IsTuple a its.toArray from p) (by simp; omega) fun h' eb => ⟨rfl,I.turned (t' := s.toks) (fun b o hb e => eb b o hb e) f0 f1 f3 f4 f5⟩
 self := fun _ _ _ _ _ st h => wpAny_pyIter_tupleiter st h
theorem zlP {P : Program} {w : World} {K : PySem.W.Frag} {tg : Expr} (it : Addr) (lo : Int) (n : Nat) : Turn P w K tg (Itr lo n) [it] it (fun i h => IsRangeIter h it (lo + (i : Nat) * 1) ((n : Int) - (i : Nat)) 1) where
 mem := by simp
 obj := fun i h st b hb => by
  have e : b = it := by simpa using hb
  subst e
  exact ⟨_,st,fun v z => by
   have z' : Data.fields _ = Data.cell v := z
   cases z'⟩
 keep := fun i h h' st k => k it (by simp) _ st
 item:=by
  intro X hP hw hK hc i pins s σ H E I hf st hg
  subst hP hw hK
  obtain ⟨f0,f1,f2,f3,f4,f5⟩ := hf it (by simp)
  have W := Walks.range (prog:=X.prog) (w:=X.w) (I.ok.hd hc) it lo 1 n
  refine W.item i s _ _ hg st fun v h' tk hv st' kk => ?_
  obtain ⟨t,rfl⟩ := hv
  have I1 : Inv X pins σ H { s with heap := h',toks := tk } := I.turned (fun b o hb e => kk b o (by simpa using hb) e) f0 f1 f3 f4 f5
  refine ⟨_,rfl,znJ (s:={ s with heap := h',toks := tk }) (n:="range_iterator") st' rfl rfl (by decide) ⟨.int (lo + i),H,I1,⟨t,?_⟩,⟨rfl,rfl⟩,st',fun b hb => (hf b hb).1⟩⟩
  rw [Int.mul_one]
 done:=by
  intro X hP hw hK hc i pins s σ H E I hf st hg
  subst hP hw hK
  obtain ⟨f0,f1,f2,f3,f4,f5⟩ := hf it (by simp)
  exact wpAny_pyNext_range_end (I.ok.hd hc) st (by have : n <= i := hg; omega) fun h' eb => ⟨rfl,I.turned (t' := s.toks) (fun b o hb e => eb b o hb e) f0 f1 f3 f4 f5⟩
 self := fun _ _ _ _ _ st h => wpAny_pyIter_rangeiter st h
end L2
namespace L2
open PySem PySem.Spec PyProof.Rows
section
variable {X : Cx} {tg : Expr}
theorem zoP {pins : List (Addr × Obj)} {σ : St} {H : Hp} {s : Shared} {R : It -> Hp -> Prop} {E : Value -> Shared -> Prop} {lo hi : Int} {t u v : Tok} {tk : Nat} (I : Inv X pins σ H s) (h1 : -(2 ^ 62) <= lo) (h2 : lo < 2 ^ 62) (h3 : -(2 ^ 62) <= hi) (h4 : hi < 2 ^ 62)
  (q : R (Itr lo (hi - lo).toNat) H) : wpAny (model X.prog X.w) X.A (pyIter (.ref s.heap.objs.size)) (PIE X pins σ tg R) E { s with heap := s.heap.push { cls := .type "range",data := .fields #[.int lo t,.int hi u,.int 1 v] },toks := tk }:=by
 refine wpAny_pyIter_range (IsRange.new ..) (small_one h1 h2 h3 h4) ?_
 have I1 : Inv X pins σ H { s with heap := s.heap.push { cls := .type "range",data := .fields #[.int lo t,.int hi u,.int 1 v] },toks := tk } := I.kept fun b o e => Heap.get?_push_of_some _ e
 refine ⟨(s.heap.push { cls := .type "range",data := .fields #[.int lo t,.int hi u,.int 1 v] }).objs.size,[(s.heap.push { cls := .type "range",data := .fields #[.int lo t,.int hi u,.int 1 v] }).objs.size],_,_,H,rfl,
  I1.kept (t' := tk) fun b o e => Heap.get?_push_of_some _ e,zlP _ lo (hi - lo).toNat,?_,fun b hb => ?_,q⟩
 ·have e1 : lo + ((0 : Nat) : Int) * 1 = lo := by simp
  have e2 : (((hi - lo).toNat : Nat) : Int) - ((0 : Nat) : Int) = Builtin.Range.rangeSize lo hi 1 := by rw [rangeSize_one]; split <;> omega
  show IsRangeIter _ _ (lo + ((0 : Nat) : Int) * 1) ((((hi - lo).toNat : Nat) : Int) - ((0 : Nat) : Int)) 1
  rw [e1,e2]
  exact Heap.get?_push_size _ rfl
 ·have e : b = (s.heap.push { cls := .type "range",data := .fields #[.int lo t,.int hi u,.int 1 v] }).objs.size := by simpa using hb
  subst e
  exact I1.zow (Nat.le_refl _) (I1.hok.fresh (Nat.le_refl _))
def zuu (ta : TA) : TI := fun σ H R => ta σ H fun vs H1 => ∃ j : Int,vs = [.int j] /\ -(2 ^ 62) <= j /\ j < 2 ^ 62 /\ R (Itr 0 j.toNat) H1
theorem zm4 {a : Expr} {ta : TA} {p pos : Pos} (hg : Gl X "range") (hm : X.mg "range" = none) (ha : PA X [a] ta) (hs : starEach [a] X.env = [(false,eval a X.env)] := by rfl) : PI X tg (.Call (.Name "range" p) [a] [] pos) (zuu ta):=by
 intro pins s σ H R I h
 refine Call_ (zhT I hg hm boot_range (PyProof.Rows.callWith_type1 (thn (ha pos pins s σ H _ I h) fun us s1 ⟨vs,H1,I1,r1,q1⟩ => ?_) hs rfl))
 obtain ⟨j,e,q1,q2,q⟩ := q1
 subst e
 cases r1 with
 | cons r rr =>
  cases rr
  obtain ⟨t,rfl⟩ := r
  exact call_range_1 (zoP I1 (by omega) (by omega) q1 q2 (by simpa using q))
def zvg (wi : TI) (g : TG) (tb : TS) : TS := fun D σ H => wi σ H fun J H1 => ∃ W : Nat -> Nat -> St -> Hp -> Prop,(∃ m,W 0 m σ H1) /\ ∀ i m σ H,W i m σ H ->
 (J.stop i H /\ D.nx σ H) \/ (J.go i H /\ ∃ N : St -> Hp -> Prop,(∀ σ' H',N σ' H' -> ∃ m',m' < m /\ W (i + 1) m' σ' H') /\ ∀ x H',J.yld i H x H' -> g x σ H' fun σ2 H2 => tb { D with nx := N,ct := N,bk := D.nx } σ2 H2)
def zgD (fp : List Addr) (h : Heap) : List (Addr × Obj) := fp.filterMap fun b => (h.get? b).map fun o => (b,o)
theorem zbF {fp : List Addr} {h : Heap} {b : Addr} {o : Obj} (hb : b ∈ fp) (e : h.get? b = some o) : (b,o) ∈ zgD fp h := List.mem_filterMap.mpr ⟨b,hb,by rw [e]; rfl⟩
theorem zm7 {fp : List Addr} {h : Heap} {p : Addr × Obj} (hp : p ∈ zgD fp h) : p.1 ∈ fp /\ h.get? p.1 = some p.2:=by
 obtain ⟨b,hb,e⟩ := List.mem_filterMap.mp hp
 cases q : h.get? b with
 | none => rw [q] at e; cases e
 | some o =>
  rw [q] at e
  have e' : (b,o) = p := Option.some.inj e
  subst e'
  exact ⟨hb,q⟩
theorem Inv.pinned {pins : List (Addr × Obj)} {σ : St} {H : Hp} {s : Shared} {fp : List Addr} (I : Inv X pins σ H s) (hf : ∀ b ∈ fp,zhn X pins H b) (ho : ∀ b ∈ fp,∃ o,s.heap.get? b = some o /\ ∀ v,o.data ≠ .cell v) : Inv X (pins ++ zgD fp s.heap) σ H s :=
 I.ziy fun p hp => (List.mem_append.mp hp).elim (fun z => I.pin p (List.mem_append_right _ z)) fun z => by
  obtain ⟨hb,e⟩ := zm7 z
  obtain ⟨f0,f1,f2,_⟩ := hf p.1 hb
  obtain ⟨o,e',d⟩ := ho p.1 hb
  rw [e] at e'; cases e'
  exact ⟨e,f0,f1,f2,d⟩
theorem Inv.zcp {pins pl : List (Addr × Obj)} {σ : St} {H : Hp} {s : Shared} (I : Inv X (pins ++ pl) σ H s) : Inv X pins σ H s := I.ziy fun p hp => I.pin p (List.mem_append_right _ (List.mem_append_left _ hp))
theorem zsi {iter : Expr} {body : List Stmt} {wi : TI} {g : TG} {tb : TS} {pos : Pos} (hp : PassesOwn (model X.prog X.w) X.A X.env X.xe) (hc : X.calm = true) (hi : PI X tg iter wi) (hg : PG X tg g) (hb : PSs X body tb)
  (hs : ∀ x,foldedSetIterable iter X.env x = pure x := by intro _; rfl) : PS X (.For tg iter body [] pos) (zvg wi g tb):=by
 intro pins s σ H D I h
 refine wpAny_For (thn (hi pins s σ H _ I h) fun v s1 h1 => thn h1 fun itv s2 h2 => ?_) hs
 obtain ⟨it,fp,tn,J,H2,e,I2,T,st2,f2,W,⟨m0,w0⟩,turn⟩ := h2
 subst e
 have stat : ∀ {H' : Hp},(∀ b ∈ fp,H' b = none) -> ∀ b ∈ fp,zhn X pins H' b := fun hn b hb => ⟨hn b hb,(f2 b hb).2⟩
 refine codeAny_forLoop_any (fun n s' => ∃ i σ' H',Inv X pins σ' H' s' /\ tn i s'.heap /\ (∀ b ∈ fp,H' b = none) /\ W i n σ' H') ?_ m0 ⟨0,σ,H2,I2,st2,fun b hb => (f2 b hb).1,w0⟩
 rintro n s3 ⟨i,σ3,H3,I3,st3,fr3,w3⟩
 rcases turn i n σ3 H3 w3 with ⟨stop,qn⟩ | ⟨go,N,hN,step⟩
 ·refine wpAny_passesOwn hp (thn (T.done X rfl rfl rfl hc i pins s3 σ3 H3 X.xe I3 (stat fr3) st3 stop) fun r s4 ⟨hr,I4⟩ => ?_)
  subst hr
  exact wpAny_execs_nil ⟨σ3,H3,I4,qn⟩
 ·refine wpAny_passesOwn hp (thn (T.item X rfl rfl rfl hc i pins s3 σ3 H3 X.xe I3 (stat fr3) st3 go) fun r s4 ⟨u,hr,h4⟩ => ?_)
  subst hr
  refine wpAny_passesOwn hp (thn h4 fun _ s5 ⟨x,H5,I5,r5,y5,st5,fr5⟩ => ?_)
  have I5' := I5.pinned (stat fr5) (T.obj _ _ st5)
  refine wpAny_passesOwn hp (thn (hg _ s5 σ3 H5 x u _ I5' r5 (step x H5 y5)) fun _ s6 ⟨σ6,H6,I6,q6⟩ => ?_)
  refine wpAny_passesOwn hp (thn (hb _ s6 σ6 H6 _ I6 q6) fun f s7 q7 => ?_)
  have again : ∀ {σ7 : St} {H7 : Hp},Inv X (pins ++ zgD fp s5.heap) σ7 H7 s7 -> N σ7 H7 -> ∃ m,m < n /\ ∃ i σ' H',Inv X pins σ' H' s7 /\ tn i s7.heap /\ (∀ b ∈ fp,H' b = none) /\ W i m σ' H' := fun {σ7 H7} I7 n7 => by
   obtain ⟨m',hm,w7⟩ := hN σ7 H7 n7
   refine ⟨m',hm,i + 1,σ7,H7,I7.zcp,T.keep _ _ _ st5 fun b hb o e => (I7.pin (b,o) (List.mem_append_right _ (List.mem_append_right _ (zbF hb e)))).1,fun b hb => ?_,w7⟩
   obtain ⟨o,e,d⟩ := T.obj _ _ st5 b hb
   exact (I7.pin (b,o) (List.mem_append_right _ (List.mem_append_right _ (zbF hb e)))).2.1
  cases f with
  | next => obtain ⟨σ7,H7,I7,n7⟩ := q7; exact again I7 n7
  | cont => obtain ⟨σ7,H7,I7,n7⟩ := q7; exact again I7 n7
  | brk => obtain ⟨σ7,H7,I7,q7⟩ := q7; exact ⟨σ7,H7,I7.zcp,q7⟩
  | ret v => obtain ⟨x7,σ7,H7,I7,r7,q7⟩ := q7; exact ⟨x7,σ7,H7,I7.zcp,r7,q7⟩
end
end L2
namespace L2
open PySem PySem.Spec PyProof.Rows
abbrev R2 := V -> V -> Hp -> VK -> Prop
def OpR (X : Cx) (f : Value -> Value -> Sem Value) (r : R2) : Prop :=
 ∀ (pins : List (Addr × Obj)) (s : Shared) (σ : St) (H : Hp) (x y : V) (v u : Value) (Q : VK),Inv X pins σ H s -> RelV x v -> RelV y u -> r x y H Q ->
  wpAny (model X.prog X.w) X.A (f v u) (EP X pins σ Q) X.xe s
def UnR (X : Cx) (f : Value -> Sem Value) (r : V -> Hp -> VK -> Prop) : Prop :=
 ∀ (pins : List (Addr × Obj)) (s : Shared) (σ : St) (H : Hp) (x : V) (v : Value) (Q : VK),Inv X pins σ H s -> RelV x v -> r x H Q ->
  wpAny (model X.prog X.w) X.A (f v) (EP X pins σ Q) X.xe s
def zd6 (X : Cx) (f : Value) (r : List V -> Hp -> VK -> Prop) : Prop :=
 ∀ (pins : List (Addr × Obj)) (s : Shared) (σ : St) (H : Hp) (xs : List V) (us : List Value) (Q : VK),Inv X pins σ H s -> Vals xs us -> r xs H Q ->
  wpAny (model X.prog X.w) X.A (call f us) (EP X pins σ Q) X.xe s
def zuM (X : Cx) (r : V -> Hp -> (Bool -> Hp -> Prop) -> Prop) : Prop :=
 ∀ (pins : List (Addr × Obj)) (s : Shared) (σ : St) (H : Hp) (x : V) (v : Value) (Q : Bool -> Hp -> Prop),Inv X pins σ H s -> RelV x v -> r x H Q ->
  wpAny (model X.prog X.w) X.A (truthy v) (TP X pins σ Q) X.xe s
def tOp (r : R2) (ta tb : TE) : TE := fun σ H Q => ta σ H fun x H1 => tb σ H1 fun y H2 => r x y H2 Q
def tUn (r : V -> Hp -> VK -> Prop) (ta : TE) : TE := fun σ H Q => ta σ H fun x H1 => r x H1 Q
def rI (C : Int -> Int -> Prop) (g : Int -> Int -> V) : R2 := fun x y H Q => ∃ i j,x = .int i /\ y = .int j /\ C i j /\ Q (g i j) H
def rI0 (g : Int -> Int -> V) : R2 := fun x y H Q => ∃ i j,x = .int i /\ y = .int j /\ Q (g i j) H
def rU (g : Int -> V) : V -> Hp -> VK -> Prop := fun x H Q => ∃ i,x = .int i /\ Q (g i) H
section
variable {X : Cx} {a b c : Expr} {ta tb tc : TE} {pos : Pos}
theorem zuJ (ha : PE X a ta) (hb : PE X b tb) {pins : List (Addr × Obj)} {s : Shared} {σ : St} {H : Hp} {R : V -> V -> Hp -> Prop} (I : Inv X pins σ H s)
  (h : ta σ H fun x H1 => tb σ H1 fun y H2 => R x y H2) {Q : Value -> Shared -> Prop} {f : Value -> Value -> Sem Value}
  (hf : ∀ v u s2 x y H2,Inv X pins σ H2 s2 -> RelV x v -> RelV y u -> R x y H2 -> wpAny (model X.prog X.w) X.A (f v u) Q X.xe s2) :
  wpAny (model X.prog X.w) X.A (eval a X.env) (fun v s₁ => wpAny (model X.prog X.w) X.A (eval b X.env) (fun u s₂ => wpAny (model X.prog X.w) X.A (f v u) Q X.xe s₂) X.xe s₁) X.xe s:=by
 refine thn (ha pins s σ H _ I h) fun v s1 ⟨x,H1,I1,r1,q1⟩ => ?_
 refine thn (hb pins s1 σ H1 _ I1 q1) fun u s2 ⟨y,H2,I2,r2,q2⟩ => ?_
 exact hf v u s2 x y H2 I2 r1 r2 q2
theorem zud {op : Operator} {r : R2} (ho : OpR X (binaryOp op) r) (ha : PE X a ta) (hb : PE X b tb) : PE X (.BinOp a op b pos) (tOp r ta tb):=by
 intro pins s σ H Q I h
 exact wpAny_BinOp (zuJ ha hb I h fun v u s2 x y H2 I2 rx ry q => ho pins s2 σ H2 x y v u Q I2 rx ry q)
theorem zua {op : UnaryOp} {r : V -> Hp -> VK -> Prop} (ho : UnR X (unaryOp op) r) (ha : PE X a ta) : PE X (.UnaryOp op a pos) (tUn r ta):=by
 intro pins s σ H Q I h
 exact UnaryOp_ (thn (ha pins s σ H _ I h) fun v s1 ⟨x,H1,I1,r1,q1⟩ => ho pins s1 σ H1 x v Q I1 r1 q1)
theorem opI {f : Value -> Value -> Sem Value} {C : Int -> Int -> Prop} {g : Int -> Int -> Int}
  (rule : ∀ (i j : Int) (t u : Tok) (s : Shared) (Q : Value -> Shared -> Prop) (E : Value -> Shared -> Prop),C i j -> Q (.int (g i j) s.toks) { s with toks := s.toks + 1 } -> wpAny (model X.prog X.w) X.A (f (.int i t) (.int j u)) Q E s) :
  OpR X f (rI C fun i j => .int (g i j)):=by
 intro pins s σ H x y v u Q I rx ry h
 obtain ⟨i,j,rfl,rfl,hc,q⟩ := h
 obtain ⟨t,rfl⟩ := rx
 obtain ⟨t',rfl⟩ := ry
 exact rule i j t t' s _ _ hc ⟨.int (g i j),H,I.tok _,⟨_,rfl⟩,q⟩
theorem zuU {f : Value -> Value -> Sem Value} {g : Int -> Int -> Int}
  (rule : ∀ (i j : Int) (t u : Tok) (s : Shared) (Q : Value -> Shared -> Prop) (E : Value -> Shared -> Prop),Q (.int (g i j) s.toks) { s with toks := s.toks + 1 } -> wpAny (model X.prog X.w) X.A (f (.int i t) (.int j u)) Q E s) :
  OpR X f (rI0 fun i j => .int (g i j)):=by
 intro pins s σ H x y v u Q I rx ry h
 obtain ⟨i,j,rfl,rfl,q⟩ := h
 obtain ⟨t,rfl⟩ := rx
 obtain ⟨t',rfl⟩ := ry
 exact rule i j t t' s _ _ ⟨.int (g i j),H,I.tok _,⟨_,rfl⟩,q⟩
theorem ztE {f : Value -> Value -> Sem Value} {g : Int -> Int -> Bool}
  (rule : ∀ (i j : Int) (t u : Tok) (s : Shared) (Q : Value -> Shared -> Prop) (E : Value -> Shared -> Prop),Q (.bool (g i j)) s -> wpAny (model X.prog X.w) X.A (f (.int i t) (.int j u)) Q E s) :
  OpR X f (rI0 fun i j => .bl (g i j)):=by
 intro pins s σ H x y v u Q I rx ry h
 obtain ⟨i,j,rfl,rfl,q⟩ := h
 obtain ⟨t,rfl⟩ := rx
 obtain ⟨t',rfl⟩ := ry
 exact rule i j t t' s _ _ ⟨.bl (g i j),H,I,rfl,q⟩
def zu7 (i j : Int) : Prop := 0 <= j /\ j <= 1000000 /\ i.natAbs < 2 ^ 64
theorem zsD : OpR X (binaryOp .Add) (rI0 fun i j => .int (i + j)) := zuU fun _ _ _ _ _ _ _ q => add_int q
theorem zsx : OpR X (binaryOp .Sub) (rI0 fun i j => .int (i - j)) := zuU fun _ _ _ _ _ _ _ q => sub_int q
theorem zrc : OpR X (binaryOp .Mod) (rI (fun _ j => j ≠ 0) fun i j => .int (i.fmod j)) := opI fun _ _ _ _ _ _ _ hc q => mod_int' hc q
theorem zsy : OpR X (binaryOp .Pow) (rI zu7 fun i j => .int (i ^ j.toNat)) := opI fun _ _ _ _ _ _ _ hc q => pow_int_small hc.1 hc.2.1 hc.2.2 q
theorem unI {f : Value -> Sem Value} {g : Int -> Int}
  (rule : ∀ (i : Int) (t : Tok) (s : Shared) (Q : Value -> Shared -> Prop) (E : Value -> Shared -> Prop),Q (.int (g i) s.toks) { s with toks := s.toks + 1 } -> wpAny (model X.prog X.w) X.A (f (.int i t)) Q E s) :
  UnR X f (rU fun i => .int (g i)):=by
 intro pins s σ H x v Q I rx h
 obtain ⟨i,rfl,q⟩ := h
 obtain ⟨t,rfl⟩ := rx
 exact rule i t s _ _ ⟨.int (g i),H,I.tok _,⟨_,rfl⟩,q⟩
theorem zrS : UnR X (unaryOp .USub) (rU fun i => .int (-i)) := unI fun _ _ _ _ _ q => neg_int q
end
section
variable {X : Cx} {a b c : Expr} {ta tb tc : TE} {pos : Pos}
theorem zs7 {pins : List (Addr × Obj)} {σ : St} {H : Hp} {s : Shared} {Q : VK} {k k' : Bool} (I : Inv X pins σ H s) (q : Q (.bl k) H) (e : k = k') : EP X pins σ Q (.bool k') s:=by
 subst e
 exact ⟨.bl k,H,I,rfl,q⟩
theorem zug : OpR X (compareOp .Lt) (rI0 fun i j => .bl (decide (i < j))) := ztE fun _ _ _ _ _ _ _ q => lt_int q
theorem zuh : OpR X (compareOp .LtE) (rI0 fun i j => .bl (decide (i <= j))) := ztE fun _ _ _ _ _ _ _ q => le_int q
theorem zui : OpR X (compareOp .Gt) (rI0 fun i j => .bl (decide (j < i))) := ztE fun _ _ _ _ _ _ _ q => gt_int q
theorem zuj : OpR X (compareOp .GtE) (rI0 fun i j => .bl (decide (j <= i))) := ztE fun _ _ _ _ _ _ _ q => ge_int q
theorem zsA : OpR X (compareOp .Is) (fun x y H Q => y = .non /\ Q (.bl (decide (x = .non))) H):=by
 intro pins s σ H x y v u Q I rx ry h
 obtain ⟨rfl,q⟩ := h
 cases ry
 refine is_none_gen (zs7 I q ?_)
 cases x <;> first
  | (cases rx; rfl)
  | (obtain ⟨t,rfl⟩ := rx; rfl)
theorem zbo (b : Expr) {op : CmpOp} (h : op ≠ .In := by decide) (h2 : op ≠ .NotIn := by decide) : behindInMarks op b = false:=by
 have e1 : (op == CmpOp.In) = false := by cases op <;> first | rfl | exact absurd rfl h
 have e2 : (op == CmpOp.NotIn) = false := by cases op <;> first | rfl | exact absurd rfl h2
 cases b <;> simp [behindInMarks,e1,e2]
theorem zq6 {op : CmpOp} {r : R2} (ho : OpR X (compareOp op) r) (ha : PE X a ta) (hb : PE X b tb) (hm : behindInMarks op b = false) : PE X (.Compare a [op] [b] pos) (tOp r ta tb):=by
 intro pins s σ H Q I h
 exact wpAny_Compare1 (zuJ ha hb I h fun v u s2 x y H2 I2 rx ry q => ho pins s2 σ H2 x y v u Q I2 rx ry q) hm
def zrX (t : TE) : TT := fun σ H Q => t σ H fun x H' => ∃ k,x = .bl k /\ Q k H'
theorem zmX {op : CmpOp} {r : R2} (ho : OpR X (compareOp op) r) (ha : PE X a ta) (hb : PE X b tb) (hm : behindInMarks op b = false) : PT X (.Compare a [op] [b] pos) (zrX (tOp r ta tb)):=by
 intro pins s σ H Q I h
 refine wpAny_isTrue_Compare1 (thn (ha pins s σ H _ I h) fun v s1 ⟨x,H1,I1,r1,q1⟩ => thn (hb pins s1 σ H1 _ I1 q1) fun u s2 ⟨y,H2,I2,r2,q2⟩ =>
  thn (ho pins s2 σ H2 x y v u _ I2 r1 r2 q2) fun c s3 ⟨z,H3,I3,r3,k,e,q3⟩ => ?_) hm
 subst e
 cases r3
 exact wpAny_truthy_bool ⟨H3,I3,q3⟩
def zmD (r r' : R2) (ta tb tc : TE) : TE := fun σ H Q => ta σ H fun x H1 => tb σ H1 fun y H2 => r x y H2 fun z H3 => ∃ k,z = .bl k /\
 (if k = true then tc σ H3 fun w' H4 => r' y w' H4 Q else Q (.bl false) H3)
theorem zpg {op op' : CmpOp} {r r' : R2} (ho : OpR X (compareOp op) r) (ho' : OpR X (compareOp op') r') (ha : PE X a ta) (hb : PE X b tb) (hc : PE X c tc)
  (hm : lastMarks [op,op'] [b,c] = false := by with_unfolding_all rfl) : PE X (.Compare a [op,op'] [b,c] pos) (zmD r r' ta tb tc):=by
 intro pins s σ H Q I h
 refine Compare_chain (thn (ha pins s σ H _ I h) fun v s1 ⟨x,H1,I1,r1,q1⟩ => chain_link (thn (hb pins s1 σ H1 _ I1 q1) fun u s2 ⟨y,H2,I2,r2,q2⟩ =>
  thn (ho pins s2 σ H2 x y v u _ I2 r1 r2 q2) fun d s3 ⟨z,H3,I3,r3,k,e,q3⟩ => ?_)) hm
 subst e
 cases r3
 refine wpAny_truthy_bool ?_
 cases k with
 | false => exact ite_ff ⟨.bl false,H3,I3,rfl,q3⟩
 | true => exact ite_tt (chain_last (thn (hc pins s3 σ H3 _ I3 q3) fun w' s4 ⟨z',H4,I4,r4,q4⟩ => ho' pins s4 σ H4 y z' u w' Q I4 r2 r4 q4))
theorem zo4 {op op' : CmpOp} {r r' : R2} (ho : OpR X (compareOp op) r) (ho' : OpR X (compareOp op') r') (ha : PE X a ta) (hb : PE X b tb) (hc : PE X c tc)
  (hm : lastMarks [op,op'] [b,c] = false := by with_unfolding_all rfl) : PT X (.Compare a [op,op'] [b,c] pos) (zrX (zmD r r' ta tb tc)):=by
 intro pins s σ H Q I h
 refine isTrue_chain (thn (ha pins s σ H _ I h) fun v s1 ⟨x,H1,I1,r1,q1⟩ => test_link (thn (hb pins s1 σ H1 _ I1 q1) fun u s2 ⟨y,H2,I2,r2,q2⟩ =>
  thn (ho pins s2 σ H2 x y v u _ I2 r1 r2 q2) fun d s3 ⟨z,H3,I3,r3,k,e,q3⟩ => ?_)) hm
 subst e
 cases r3
 refine wpAny_truthy_bool ?_
 cases k with
 | false =>
  obtain ⟨k',e',q'⟩ := q3
  cases e'
  exact ite_ff ⟨H3,I3,q'⟩
 | true =>
  refine ite_tt (test_last (thn (hc pins s3 σ H3 _ I3 q3) fun w' s4 ⟨z',H4,I4,r4,q4⟩ => thn (ho' pins s4 σ H4 y z' u w' _ I4 r2 r4 q4) fun d' s5 ⟨z2,H5,I5,r5,k2,e2,q5⟩ => ?_))
  subst e2
  cases r5
  exact wpAny_truthy_bool ⟨H5,I5,q5⟩
def zvO (K : PySem.W.Frag) (x : V) (H : Hp) (k : Bool) : Prop :=
 match x with
 | .non => k = false
 | .bl b => k = b
 | .int i => k = (i != 0)
 | .str y => y.length <= sizeLine /\ k = ((y.length : Int) != 0)
 | .byt y => y.size <= sizeLine /\ k = ((y.size : Int) != 0)
 | .ref p => (∃ xs,SqL K H p xs /\ k = !xs.isEmpty) \/ (∃ xs,SqT K H p xs /\ k = !xs.isEmpty) \/ ∃ kvs,H p = some (.dK kvs) /\ k = !kvs.isEmpty
 | _ => False
theorem zmi {κ : Type} {kvs : List (κ × V)} {vs : List (κ × Value)} (r : KV kvs vs) : (!vs.isEmpty) = !kvs.isEmpty:=by
 cases r <;> rfl
theorem zhV {xs : List V} {its : List Value} (r : Vals xs its) : (!its.toArray.isEmpty) = !xs.isEmpty:=by
 cases r <;> simp
theorem zjA : (sizeLine : Nat) < 2 ^ 63 := by rw [sizeLine_eq]; decide
theorem zrU : zuM X (fun x H Q => ∃ k,zvO X.K x H k /\ Q k H):=by
 intro pins s σ H x v Q I rx h
 obtain ⟨k,e,q⟩ := h
 have hl := zjA
 have hs : sizeLine = 16777216 := sizeLine_eq
 cases x with
 | non =>
  cases rx
  have e' : k = false := e
  subst e'
  exact truthy_none ⟨H,I,q⟩
 | bl b =>
  cases rx
  have e' : k = b := e
  subst e'
  exact wpAny_truthy_bool ⟨H,I,q⟩
 | int i =>
  obtain ⟨t,rfl⟩ := rx
  have e' : k = (i != 0) := e
  subst e'
  exact PySem.P.truthy_int ⟨H,I,q⟩
 | str y =>
  obtain ⟨t,rfl⟩ := rx
  obtain ⟨hy,e'⟩ : y.length <= sizeLine /\ k = ((y.length : Int) != 0) := e
  subst e'
  exact PySem.P.truthy_str (by omega) ⟨H,I.tok _,q⟩
 | byt y =>
  obtain ⟨t,rfl⟩ := rx
  obtain ⟨hy,e'⟩ : y.size <= sizeLine /\ k = ((y.size : Int) != 0) := e
  subst e'
  exact PySem.W.truthy_bytes (by omega) ⟨H,I.tok _,q⟩
 | ref p =>
  cases rx
  have e' : (∃ xs,SqL X.K H p xs /\ k = !xs.isEmpty) \/ (∃ xs,SqT X.K H p xs /\ k = !xs.isEmpty) \/ ∃ kvs,H p = some (.dK kvs) /\ k = !kvs.isEmpty := e
  rcases e' with ⟨xs,hx,e'⟩ | ⟨xs,hx,e'⟩ | ⟨kvs,hx,e'⟩
  ·subst e'
   obtain ⟨its,r,pl,hz⟩ := I.list hx
   have hlen := r.length
   exact wpAny_truthy_list pl.isList (by simp only [List.size_toArray]; omega) ⟨H,I.tok _,by rw [zhV r]; exact q⟩
  ·subst e'
   obtain ⟨its,r,pl,hz⟩ := I.tuple hx
   have hlen := r.length
   exact truthy_tuple pl (by simp only [List.size_toArray]; omega) ⟨H,I.tok _,by rw [zhV r]; exact q⟩
  ·subst e'
   obtain ⟨hz,hS,vs,r,m⟩ : kvs.length <= sizeLine /\ (p == sysModules) = false /\ ∃ vs,KV kvs vs /\ s.heap.DictOf (zaK X.prog X.w) p vs := I.hok p _ hx
   have hlen : kvs.length = vs.length := Paired.length r
   exact wpAny_truthy_dict hS m (by omega) ⟨H,I.tok _,by rw [zmi r]; exact q⟩
 | _ => exact (show False from e).elim
theorem vals1 {x : V} {us : List Value} (r : Vals [x] us) : ∃ u,us = [u] /\ RelV x u:=by
 cases r with
 | cons r1 r2 => cases r2; exact ⟨_,rfl,r1⟩
theorem vals2 {x y : V} {us : List Value} (r : Vals [x,y] us) : ∃ u w',us = [u,w'] /\ RelV x u /\ RelV y w':=by
 cases r with
 | cons r1 r2 =>
  cases r2 with
  | cons r3 r4 => cases r4; exact ⟨_,_,rfl,r1,r3⟩
theorem zpP : zd6 X (.builtin "abs") (fun xs H Q => ∃ i,xs = [.int i] /\ Q (.int (if i < 0 then -i else i)) H):=by
 intro pins s σ H xs us Q I r h
 obtain ⟨i,rfl,q⟩ := h
 obtain ⟨u,rfl,t,rfl⟩ := vals1 r
 exact call_abs_int fun u tk => ⟨.int (if i < 0 then -i else i),H,I.tok _,⟨_,rfl⟩,q⟩
theorem zn7 (hc : X.calm = true) : zd6 X (.builtin "max") (fun xs H Q => ∃ i j,xs = [.int i,.int j] /\ Q (.int (if j > i then j else i)) H):=by
 intro pins s σ H xs us Q I r h
 obtain ⟨i,j,rfl,q⟩ := h
 obtain ⟨u,w',rfl,⟨t,rfl⟩,⟨t',rfl⟩⟩ := vals2 r
 refine max_two_ints (I.ok.hd hc) fun h' tk k => ⟨_,H,I.kept k,?_,q⟩
 by_cases hj : j > i
 ·rw [if_pos hj,if_pos hj]; exact ⟨_,rfl⟩
 ·rw [if_neg hj,if_neg hj]; exact ⟨_,rfl⟩
theorem zn6 (hc : X.calm = true) : zd6 X (.builtin "min") (fun xs H Q => ∃ i j,xs = [.int i,.int j] /\ Q (.int (if j < i then j else i)) H):=by
 intro pins s σ H xs us Q I r h
 obtain ⟨i,j,rfl,q⟩ := h
 obtain ⟨u,w',rfl,⟨t,rfl⟩,⟨t',rfl⟩⟩ := vals2 r
 refine min_two_ints (I.ok.hd hc) fun h' tk k => ⟨_,H,I.kept k,?_,q⟩
 by_cases hj : j < i
 ·rw [if_pos hj,if_pos hj]; exact ⟨_,rfl⟩
 ·rw [if_neg hj,if_neg hj]; exact ⟨_,rfl⟩
end
end L2
namespace L2
open PySem PySem.Spec PyProof.Rows
structure zvP (h : Heap) (x dx C : Addr) (mA : Str -> Option Value) : Prop where
 obj : h.get? x = some (PySem.W.instObj C dx)
 ns : h.Ns1 dx mA
 ne : dx ≠ x
theorem zkR.some_of {v : V} {o : Option Value} (r : zkR (some v) o) : ∃ u,o = some u /\ RelV v u:=by
 cases o with
 | none => exact (show False from r).elim
 | some u => exact ⟨u,rfl,r⟩
structure Cls (K : PySem.W.Frag) (C : Addr) : Prop where
 pg : PySem.W.plainGet K C Str.empty = true
 hd : PySem.W.hasDictIn K C = true
 po : PySem.W.plainOver K C = true
 sa : PySem.W.findIn K (.ref C) "__setattr__" = some (some (.builtin "object.__setattr__"))
structure Con (K : PySem.W.Frag) (C : Addr) (f : Str) (v : V) (u : Value) : Prop where
 at_ : PySem.W.findIn K (.ref C) f = some (some u)
 rel : RelV v u
 get : PySem.W.specialIn K u "__get__" = some none
 cp : PySem.W.copiedNames.contains f = false
structure Meth (K : PySem.W.Frag) (C : Addr) (m : Str) (f : Addr) : Prop where
 at_ : PySem.W.findIn K (.ref C) m = some (some (.ref f))
 fn : PySem.W.isFn K (.ref f) = true
 kp : PySem.W.keepIn K (.ref f) = true
section
variable {X : Cx} {pins : List (Addr × Obj)} {σ : St} {H : Hp} {s : Shared} {A : Around} {E : Value -> Shared -> Prop} {Q : Value -> Shared -> Prop} {c : Value} {b : Bool}
inductive zok (K : PySem.W.Frag) (H : Hp) : V -> Value -> Prop where
 | non : zok K H .non (.type "NoneType")
 | bl (x : Bool) : zok K H (.bl x) (.type "bool")
 | int (i : Int) : zok K H (.int i) (.type "int")
 | str (x : Str) : zok K H (.str x) (.type "str")
 | flt (x : UInt64) : zok K H (.flt x) (.type "float")
 | lst {a : Addr} {xs : List V} (e : H a = some (.lst xs)) : zok K H (.ref a) (.type "list")
 | frz {a : Addr} {o : Obj} {xs : List V} (e : H a = some (.frz o (.lst xs))) : zok K H (.ref a) (.type "list")
 | tup {a : Addr} {xs : List V} (e : H a = some (.tup xs)) : zok K H (.ref a) (.type "tuple")
 | dK {a : Addr} {kvs : List (Key × V)} (e : H a = some (.dK kvs)) : zok K H (.ref a) (.type "dict")
 | dT {a : Addr} {kvs : List (List Key × V)} (e : H a = some (.dT kvs)) : zok K H (.ref a) (.type "dict")
 | ins {a C dx : Addr} {fs : List (Str × V)} (e : H a = some (.ins C dx fs)) (cl : Cls K C) (ha : PySem.W.findIn K (.ref C) "__class__" = some (some (.builtin "object.__class__")))
   (hn : PySem.W.specialIn K (.builtin "object.__class__") "__get__" = some (some (.builtin "getset_descriptor.__get__"))) (htk : PySem.W.takesIn K (.builtin "object.__class__") = some true)
   (hm : PySem.W.mroIn K C (.type "object") = some true) : zok K H (.ref a) (.ref C)
end
end L2
namespace L2
open PySem PySem.Spec PyProof.Rows
structure zdT (k : Nat) (A : Around) : Prop where
 hd : A.handled = none
 dp : A.depth + 3 * k + 5 < recursionLimit
 un : A.units + 16 * k + 200 < cLine
 gd : A.guards = some []
theorem zdT.mono {j k : Nat} {A : Around} (r : zdT k A) (h : j <= k) : zdT j A := ⟨r.hd,by have := r.dp; omega,by have := r.un; omega,r.gd⟩
theorem zdT.deeper {k : Nat} {A : Around} (r : zdT (k + 1) A) (env : Env) : zdT k (A.deeper env) :=
 ⟨r.hd,by have := r.dp; show A.depth + 1 + 3 * k + 5 < _; omega,by have := r.un; show A.units + 3 + 16 * k + 200 < _; omega,r.gd⟩
theorem zdT.in1 {k : Nat} {A : Around} (r : zdT (k + 1) A) : zdT k A.in1 :=
 ⟨r.hd,by have := r.dp; show A.depth + 3 * k + 5 < _; omega,by have := r.un; show A.units + 1 + 16 * k + 200 < _; omega,r.gd⟩
theorem zdT.depth {k : Nat} {A : Around} (r : zdT k A) : A.depth < recursionLimit := by have := r.dp; omega
theorem zdT.units {k : Nat} {A : Around} (r : zdT k A) : A.units + 64 < cLine := by have := r.un; omega
def zuQ : TA := fun _ H Q => Q [] H
def zr1 (ta : TE) (tr : TA) : TA := fun σ H Q => ta σ H fun x H1 => tr σ H1 fun xs H2 => Q (x :: xs) H2
section
variable {X : Cx} {e : Expr} {es : List Expr} {te : TE} {t : TA} {pos : Pos}
theorem zjr : PA X [] zuQ := fun _ _ _ _ H Q I h => Calls.spliced_nil ⟨[],H,I,.nil,h⟩
theorem zdr (ha : PE X e te) (hr : PA X es t) (hs : starEach (e :: es) X.env = (false,eval e X.env) :: starEach es X.env := by rfl) : PA X (e :: es) (zr1 te t):=by
 intro pos pins s σ H Q I h
 rw [hs]
 show wpAny _ _ (spliced ((false,eval e X.env) :: backTo pos (starEach es X.env))) _ _ s
 refine Calls.spliced_cons (thn (ha pins s σ H _ I h) fun u s1 ⟨x,H1,I1,r1,q1⟩ => ?_)
 exact thn (hr pos pins s1 σ H1 _ I1 q1) fun us s2 ⟨xs,H2,I2,r2,q2⟩ => ⟨x :: xs,H2,I2,.cons r1 r2,q2⟩
def zu9 (t : TA) : TE := fun σ H Q => t σ H fun xs H1 => xs.length <= sizeLine /\ ∀ p,H1 p = none -> Q (.ref p) (upd H1 p (.tup xs))
def zve (t : TA) : TE := fun σ H Q => t σ H fun xs H1 => xs.length <= sizeLine /\ ∀ p,H1 p = none -> Q (.ref p) (upd H1 p (.lst xs))
theorem zsn {x1} (h : PA X es t) : PE X (.Tuple es x1 pos) (zu9 t):=by
 intro pins s σ H Q I hq
 refine wpAny_Tuple_spliced (thn (h pos pins s σ H _ I hq) fun us s1 ⟨xs,H1,I1,r,z,q⟩ => ⟨by rw [<- r.length]; exact z,?_⟩)
 have hf : H1 s1.heap.objs.size = none := I1.hok.fresh (Nat.le_refl _)
 refine ⟨.ref s1.heap.objs.size,upd H1 s1.heap.objs.size (.tup xs),I1.laid (t' := s1.toks) (fun b u e => Heap.get?_push_of_some _ e) (Nat.le_refl _) ?_,rfl,q _ hf⟩
 exact ⟨z,us,r,⟨_,Heap.get?_push_size _ rfl,rfl,_,rfl⟩⟩
theorem zsr (h : PA X es t) : PE X (.List es pos) (zve t):=by
 intro pins s σ H Q I hq
 refine wpAny_List_spliced (thn (h pos pins s σ H _ I hq) fun us s1 ⟨xs,H1,I1,r,z,q⟩ => ⟨by rw [<- r.length]; exact z,?_⟩)
 have hf : H1 s1.heap.objs.size = none := I1.hok.fresh (Nat.le_refl _)
 refine ⟨.ref s1.heap.objs.size,upd H1 s1.heap.objs.size (.lst xs),I1.laid (t' := s1.toks) (fun b u e => Heap.get?_push_of_some _ e) (Nat.le_refl _) ?_,rfl,q _ hf⟩
 exact ⟨z,us,0,r,Heap.get?_push_size _ rfl⟩
end
abbrev Sp := List V -> Hp -> VK -> XK -> Prop
abbrev CXT := List Env -> Hp -> Shared -> XK -> Value -> Shared -> Prop
structure ztQ (P : Program) (w : World) (K : PySem.W.Frag) (mg : Str -> Option Value) (base : Heap) (A : Around) (outer : List Env) (s : Shared) (H : Hp) : Prop where
 frames : A.frames = some outer
 mod : Mod K mg base
 bs : ∀ b o,base.get? b = some o -> s.heap.get? b = some o /\ H b = none
 bsz : base.objs.size <= s.heap.objs.size
 zml : s.heap.FunFrames base outer
 frf : ∀ b ∈ frs outer,H b = none
 hok : HOk P w H s.heap
 bare : AllBare s.gens
def CE (outer : List Env) (P : Program) (w : World) (H : Hp) (s : Shared) (Q : VK) (u : Value) (s' : Shared) : Prop :=
 ∃ v H',s'.os = s.os /\ AllBare s'.gens /\ Un (frs outer) [] H H' s.heap s'.heap /\ HOk P w H' s'.heap /\ RelV v u /\ Q v H'
def CR (CX : CXT) (outer : List Env) (P : Program) (w : World) (H : Hp) (s : Shared) (Q : VK) (E : XK) (r : Result) (s' : Shared) : Prop :=
 match r with
 | .ok (.ret u) => CE outer P w H s Q u s'
 | .ok _ => False
 | .error e => CX outer H s E e s'
structure zie (P : Program) (w : World) (K : PySem.W.Frag) (mg : Str -> Option Value) (base : Heap) (CX : CXT) (k : Nat) (f : Addr) (fd : FuncData) (ps : List Str) (sp : Sp) : Prop where
 len : ∀ vs H Q E,sp vs H Q E -> vs.length = ps.length
 run : ∀ (A : Around) (outer : List Env) (s : Shared) (H : Hp) (args : Args) (us : List Value) (vs : List V) (Q : VK) (E : XK),zdT k A -> ztQ P w K mg base A outer s H -> BindsTo s fd args (ps.zip us) -> Vals vs us -> sp vs H Q E ->
  codeAny (model P w) A (.call (.ref f) args) (CR CX outer P w H s Q E) s
theorem zie.imp {P : Program} {w : World} {K : PySem.W.Frag} {mg : Str -> Option Value} {base : Heap} {CX : CXT} {k : Nat} {f : Addr} {fd : FuncData} {ps : List Str} {sp sp' : Sp} (F : zie P w K mg base CX k f fd ps sp)
  (h : ∀ vs H Q E,sp' vs H Q E -> sp vs H Q E) : zie P w K mg base CX k f fd ps sp' :=
 ⟨fun vs H Q E q => F.len vs H Q E (h _ _ _ _ q),fun A outer s H args us vs Q E hr he hb hv hs => F.run A outer s H args us vs Q E hr he hb hv (h _ _ _ _ hs)⟩
section
variable {X : Cx} {pins : List (Addr × Obj)} {σ : St} {H : Hp} {s s' : Shared}
theorem Inv.env0 (I : Inv X pins σ H s) : ztQ X.prog X.w X.K X.mg X.base X.A X.stack s H :=
 ⟨I.ok.frames,I.ok.mod,I.bs,Nat.le_trans I.ok.bsz I.sz,I.stack,I.zmF,I.hok,I.bare⟩
theorem Inv.after {Q : VK} {u : Value} (I : Inv X pins σ H s) (h : CE X.stack X.prog X.w H s Q u s') : EP X pins σ Q u s':=by
 obtain ⟨v,H',os,bare,un,hok,r,q⟩ := h
 obtain ⟨hh,g,d,t,os'⟩ := s'
 obtain rfl : os' = s.os := os
 exact ⟨v,H',I.call (h' := hh) (g' := g) (d' := d) (t' := t) (ch:=[]) un hok bare (fun b z => absurd z (by simp)),r,q⟩
end
def zqD (sp : Sp) (dvs : List V) (E : XK) (t : TA) : TE := fun σ H Q => t σ H fun vs H1 => sp (vs ++ dvs) H1 Q E
def Binds (K : PySem.W.Frag) (fd : FuncData) (ps : List Str) (ds : List Value) : Prop :=
 ∀ (s : Shared) (us : List Value),K.In s.heap -> (us ++ ds).length = ps.length -> BindsTo s fd ⟨us,[]⟩ (ps.zip (us ++ ds))
theorem Binds.all {K : PySem.W.Frag} {fd : FuncData} {ps : List Str} (h : ∀ us : List Value,us.length = ps.length -> bindArgs fd ⟨us,[]⟩ = pure (ps.zip us)) : Binds K fd ps [] := fun s us _ hl => by
 rw [List.append_nil] at hl ⊢
 exact .of_eq (h us hl)
def Passes (CX : CXT) (X : Cx) (E : XK) : Prop := ∀ (pins : List (Addr × Obj)) (σ : St) (H : Hp) (s : Shared) (e : Value) (s' : Shared),Inv X pins σ H s -> CX X.stack H s E e s' -> X.xe e s'
section
variable {X : Cx} {CX : CXT} {k : Nat} {f C : Addr} {fd : FuncData} {ps : List Str} {sp : Sp} {dvs : List V} {ds : List Value} {E : XK} {x m : Str} {p pos apos : Pos} {e o : Expr} {es : List Expr} {ta : TE} {t : TA}
theorem zr7 {pins : List (Addr × Obj)} {σ : St} {H : Hp} {s : Shared} {Q : VK} {us : List Value} {vs : List V} (F : zie X.prog X.w X.K X.mg X.base CX k f fd ps sp) (hr : zdT k X.A) (hb : Binds X.K fd ps ds) (hd : Vals dvs ds) (hx : Passes CX X E)
  (I : Inv X pins σ H s) (r : Vals vs us) (h : sp (vs ++ dvs) H Q E) : wpAny (model X.prog X.w) X.A (call (.ref f) us) (EP X pins σ Q) X.xe s:=by
 have r2 : Vals (vs ++ dvs) (us ++ ds) := r.append hd
 have hl : (us ++ ds).length = ps.length := by rw [<- r2.length]; exact F.len _ _ _ _ h
 refine wpAny_call (codeAny_mono (F.run X.A X.stack s H ⟨us,[]⟩ (us ++ ds) (vs ++ dvs) Q E hr I.env0 (hb s us I.kIn hl) r2 h) fun r s' hq => ?_)
 cases r with
 | error e => exact hx pins σ H s e s' I hq
 | ok fl =>
  cases fl with
  | ret u => exact I.after hq
  | next => exact False.elim hq
  | brk => exact False.elim hq
  | cont => exact False.elim hq
theorem zq7 (F : zie X.prog X.w X.K X.mg X.base CX k f fd ps sp) (hr : zdT k X.A) (hg : Gl X x) (hm : X.mg x = some (.ref f)) (hk : PySem.W.keepIn X.K (.ref f) = true) (hb : Binds X.K fd ps ds) (hd : Vals dvs ds) (hx : Passes CX X E)
  (ha : PA X (e :: es) t) (hdb : (x == ("__debug__" : Str)) = false := by decide) (he : starEach (e :: es) X.env = (false,eval e X.env) :: starEach es X.env := by rfl) (hpl : (backTo pos (starEach es X.env)).any (·.1) = false := by rfl) :
  PE X (.Call (.Name x p) (e :: es) [] pos) (zqD sp dvs E t):=by
 intro pins s σ H Q I h
 refine wpAny_Call_Name_kw (zku I hg hm ?_ hdb)
 refine PySem.W.callWith_K (h₀:=X.base) I.ok.mod.kin hk (thn (ha pos pins s σ H _ I h) fun us s1 ⟨vs,H1,I1,r,q⟩ => ⟨I1.kIn,?_⟩) he hpl
 exact zr7 F hr hb hd hx I1 r q
structure Mk (K : PySem.W.Frag) (C f : Addr) : Prop where
 makes : PySem.W.makesIn K C = true
 init : PySem.W.findIn K (.ref C) "__init__" = some (some (.ref f))
 fn : PySem.W.isFn K (.ref f) = true
 kp : PySem.W.keepIn K (.ref C) = true
end
section
variable {X : Cx} {CX : CXT} {k : Nat} {f C : Addr} {fd : FuncData} {ps ks : List Str} {sp : Sp} {E : XK} {x m : Str} {p pos apos kpos : Pos} {e o : Expr} {es : List Expr} {kws : List Keyword} {te ta : TE} {t tk : TA} {nm : Option Str}
structure zu5 (K : PySem.W.Frag) (fd : FuncData) (ps ks : List Str) (g : List Value -> List Value -> List Value) (gV : List V -> List V -> List V) : Prop where
 to : ∀ (s : Shared) (us ws : List Value),K.In s.heap -> (g us ws).length = ps.length -> BindsTo s fd ⟨us,ks.zip ws⟩ (ps.zip (g us ws))
 rel : ∀ {vs : List V} {us : List Value} {zs : List V} {ws : List Value},Vals vs us -> Vals zs ws -> Vals (gV vs zs) (g us ws)
variable {g : List Value -> List Value -> List Value} {gV : List V -> List V -> List V}
end
structure zaz (N P : List Str) (sc : Scope) : Prop where
 kind : sc.kind = .function
 co : sc.isCoroutine = false
 gen : sc.isGenerator = false
 nd : N.Nodup
 pre : N.take P.length = P
 par : ∀ x ∈ P,sc.names.lookup x = some .local \/ sc.names.lookup x = some .cell
 nofree : ∀ y ∈ sc.names,y.2 ≠ .free
theorem zjY {kindOf : Str -> Option NameKind} {x : Str} : ∀ {binds : List (Str × Value)} {m : Str -> Option Value},(∀ v,(x,v) ∉ binds) -> bindL kindOf binds m x = m x
 | [],_,_ => rfl
 | (n,v) :: r,m,h => by
  unfold bindL
  rw [zjY fun w hw => h w (List.mem_cons_of_mem _ hw)]
  split
  ·have : x ≠ n := by rintro rfl; exact h v List.mem_cons_self
   simp [this]
  ·rfl
theorem zj0 {kindOf : Str -> Option NameKind} {x : Str} : ∀ {binds : List (Str × Value)} {m : Str -> Option Value},(∀ v,(x,v) ∉ binds) -> bindC kindOf binds m x = m x
 | [],_,_ => rfl
 | (n,v) :: r,m,h => by
  unfold bindC
  rw [zj0 fun w hw => h w (List.mem_cons_of_mem _ hw)]
  split
  ·rfl
  ·have : x ≠ n := by rintro rfl; exact h v List.mem_cons_self
   simp [this]
theorem zjZ {kindOf : Str -> Option NameKind} {x : Str} {v : Value} : ∀ {P : List Str} {vs : List Value} {i : Nat} {m : Str -> Option Value},P.Nodup -> P[i]? = some x -> vs[i]? = some v -> kindOf x = some .local ->
  bindL kindOf (P.zip vs) m x = some v
 | [],_,_,_,_,h,_,_ => by simp at h
 | _ :: _,[],_,_,_,_,h,_ => by simp at h
 | p :: P,w :: vs,0,m,nd,h1,h2,hk => by
  simp at h1 h2; subst h1; subst h2
  show bindL kindOf ((p,w) :: P.zip vs) m p = _
  unfold bindL
  rw [zjY fun v hv => (List.nodup_cons.mp nd).1 (List.of_mem_zip hv).1,if_pos hk]
  simp
 | p :: P,w :: vs,i + 1,m,nd,h1,h2,hk => by
  show bindL kindOf ((p,w) :: P.zip vs) m x = _
  unfold bindL
  exact zjZ (i:=i) (List.nodup_cons.mp nd).2 (by simpa using h1) (by simpa using h2) hk
theorem zj1 {kindOf : Str -> Option NameKind} {x : Str} {v : Value} : ∀ {P : List Str} {vs : List Value} {i : Nat} {m : Str -> Option Value},P.Nodup -> P[i]? = some x -> vs[i]? = some v -> kindOf x ≠ some .local ->
  bindC kindOf (P.zip vs) m x = some v
 | [],_,_,_,_,h,_,_ => by simp at h
 | _ :: _,[],_,_,_,_,h,_ => by simp at h
 | p :: P,w :: vs,0,m,nd,h1,h2,hk => by
  simp at h1 h2; subst h1; subst h2
  show bindC kindOf ((p,w) :: P.zip vs) m p = _
  unfold bindC
  rw [zj0 fun v hv => (List.nodup_cons.mp nd).1 (List.of_mem_zip hv).1,if_neg hk]
  simp
 | p :: P,w :: vs,i + 1,m,nd,h1,h2,hk => by
  show bindC kindOf ((p,w) :: P.zip vs) m x = _
  unfold bindC
  exact zj1 (i:=i) (List.nodup_cons.mp nd).2 (by simpa using h1) (by simpa using h2) hk
def start (N : List Str) (vs : List V) : St := vs.map some ++ List.replicate (N.length - vs.length) none
def zqo (CX : CXT) (P : Program) (w : World) (K : PySem.W.Frag) (mg : Str -> Option Value) (base : Heap) (N : List Str) (qual : Str) (scope : Scope) (f : Addr) (cd : Value) (A : Around) (outer : List Env) (s : Shared) (H : Hp) (E : XK) : Cx where
 prog := P
 w := w
 K := K
 mg := mg
 base := base
 A := A.deeper (envOfC qual scope s.heap.objs.size f cd)
 N := N
 s₀ := s
 H₀ := H
 env := envOfC qual scope s.heap.objs.size f cd
 outer := outer
 stack := envOfC qual scope s.heap.objs.size f cd :: outer
 ex := []
 calm := true
 fn := fun _ => true
 pn := []
 xe := fun e s' => wpAny (model P w) (A.deeper (envOfC qual scope s.heap.objs.size f cd)) (leaving (envOfC qual scope s.heap.objs.size f cd) e) (fun _ s'' => CX outer H s E e s'') (fun e' s'' => CX outer H s E e' s'') s'
theorem zlI {sc : Scope} {n : Nat} {x : Str} (h : sc.names.lookup x = some .cell) : ∃ c,(cellsFrom n sc.names []).lookup x = some c:=by
 have q := PySem.W.cellsFrom_some sc.names n [] (.inl h)
 exact Option.isSome_iff_exists.mp q
theorem znD {CX : CXT} {P : Program} {w : World} {K : PySem.W.Frag} {mg : Str -> Option Value} {base : Heap} {N ps : List Str} {qual : Str} {scope : Scope} {f : Addr} {cd : Value} {A : Around} {outer : List Env} {s s1 : Shared} {H : Hp} {E : XK} {us : List Value} {vs : List V}
  (S : zaz N ps scope) (hd : A.handled = none) (e0 : ztQ P w K mg base A outer s H) (hl : vs.length = ps.length) (r : Vals vs us)
  (x : InCallC s s.heap.objs.size (bindL (envOfC qual scope s.heap.objs.size f cd).kindOf (ps.zip us) fun _ => none) (cellsFrom (s.heap.objs.size + 1) scope.names []) (bindC (envOfC qual scope s.heap.objs.size f cd).kindOf (ps.zip us) fun _ => none) s1) :
  Inv (zqo CX P w K mg base N qual scope f cd A outer s H E) [] (start N vs) H s1:=by
 have hpl : ps.length <= N.length := by have := congrArg List.length S.pre; rw [List.length_take] at this; omega
 obtain ⟨h1,tk,rfl,hk⟩ := x.done
 have noA : ∀ b : Addr,b ∉ (zqo CX P w K mg base N qual scope f cd A outer s H E).ex := fun b z => absurd (show b ∈ ([] : List Addr) from z) (by simp)
 refine ⟨⟨e0.mod,S.kind,rfl,rfl,Nat.le_refl _,fun y z c h1 h2 => ?_,fun y hy => ?_,fun y c _ h => ?_,fun _ => hd,Around.frames_deeper e0.frames,.inr ⟨rfl,rfl⟩,fun b z => absurd z (noA b),e0.bs,e0.bsz,fun b _ _ => noA b,fun b z => absurd z (noA b),e0.zml,e0.frf⟩,
  rfl,e0.bare,Un.kept hk,⟨_,x.toInCall.ns,fun i y v h1 h2 h3 => ?_⟩,fun y c h => ⟨_,x.cell y c h⟩,e0.hok.fresh (Nat.le_refl _),fun y c h => ?_,fun p hp => absurd (show p ∈ ([] : List (Addr × Obj)) from hp) (by simp),e0.hok.kept hk,?_⟩
 ·exact name_of_addr x.apart (PySem.mem_of_lookup h1) (PySem.mem_of_lookup h2)
 ·have hy : scope.names.lookup y = some .cell \/ scope.names.lookup y = some .free := hy
  rcases hy with hy | hy
  ·exact zlI hy
  ·exact absurd rfl (S.nofree _ (PySem.mem_of_lookup hy))
 ·exact Nat.le_of_lt (x.above y c (PySem.mem_of_lookup h))
 ·have hi : i < vs.length:=by
   unfold start at h2
   by_cases hi : i < vs.length
   ·exact hi
   ·rw [List.getElem?_append_right (by simpa using hi)] at h2
    rw [List.getElem?_replicate] at h2
    split at h2 <;> cases h2
  have ha : vs[i]? = some v:=by
   unfold start at h2
   rw [List.getElem?_append_left (by simpa using hi),List.getElem?_map] at h2
   cases e : vs[i]? with
   | none => rw [e] at h2; cases h2
   | some a => rw [e] at h2; cases h2; rfl
  obtain ⟨u,hu,rv⟩ := r.get ha
  have hp : ps[i]? = some y:=by
   rw [<- S.pre,List.getElem?_take_of_lt (by omega)]; exact h1
  have ndP : ps.Nodup := by rw [<- S.pre]; exact S.nd.sublist (List.take_sublist _ _)
  refine ⟨u,rv,?_⟩
  rcases S.par y (List.mem_of_getElem? hp) with k | k
  ·exact .inl ⟨k,zjZ ndP hp hu k⟩
  ·obtain ⟨c,e⟩ := zlI (n:=s.heap.objs.size + 1) k
   refine .inr ⟨.inl k,c,e,?_⟩
   have q := x.cell y c e
   rw [zj1 ndP hp hu (by show scope.names.lookup y ≠ _; rw [k]; decide)] at q
   exact q
 ·exact e0.hok.fresh (Nat.le_of_lt (x.above y c (PySem.mem_of_lookup h)))
 ·unfold start
  show _ = N.length
  rw [List.length_append,List.length_map,List.length_replicate]
  omega
theorem zuA {CX : CXT} {P : Program} {w : World} {K : PySem.W.Frag} {mg : Str -> Option Value} {base : Heap} {k : Nat} {f : Addr} {name qual : Str} {params : Arguments} {body : List Stmt} {scope : Scope} {dV kV doc pm cdv ct oc : Value} {an od : Option Addr}
  {osl : Array (Option Value)} {N ps : List Str} {sp : Sp} (lk : K.lookup f = some ⟨oc,od,.func (PySem.W.fnOf name qual params body scope dV kV doc pm an cdv ct),osl⟩) (hcd : PySem.W.codeIn K cdv qual = true) (S : zaz N ps scope)
  (len : ∀ vs H Q E,sp vs H Q E -> vs.length = ps.length)
  (hbody : ∀ (A : Around) (outer : List Env) (s : Shared) (H : Hp) (vs : List V) (Q : VK) (E : XK),zdT k (A.deeper (envOfC qual scope s.heap.objs.size f cdv)) -> sp vs H Q E ->
   ∃ t,PSs (zqo CX P w K mg base N qual scope f cdv A outer s H E) body t /\ t { nx := fun _ H' => Q .non H',rt := Q } (start N vs) H) :
  zie P w K mg base CX (k + 1) f (PySem.W.fnOf name qual params body scope dV kV doc pm an cdv ct) ps sp:=by
 refine ⟨len,fun A outer s H args us vs Q E hr e0 hb r hsp => ?_⟩
 have hl := len _ _ _ _ hsp
 have KX : K.In s.heap := e0.mod.kin.keeps fun b o e => (e0.bs b o e).1
 have lim : s.heap.NoLimit := e0.mod.nolimit.keeps fun b o e => (e0.bs b o e).1
 have hkind : ∀ y ∈ ps.zip us,scope.names.lookup y.1 = some .local \/ (scope.names.lookup y.1 = some .cell /\ ((cellsFrom (s.heap.objs.size + 1) scope.names []).lookup y.1).isSome = true) := fun ⟨n,v⟩ hy => by
  rcases S.par n (List.of_mem_zip hy).1 with q | q
  ·exact .inl q
  ·exact .inr ⟨q,PySem.W.cellsFrom_some _ _ _ (.inl q)⟩
 refine codeAny_call_function hr.depth (KX _ _ lk) rfl S.co S.gen rfl (PySem.W.codeRec_of KX hcd) (hb _ _ _ _ ?_)
 refine wpAny_newFunctionEnv_cells S.kind hkind fun env he s1 x => ?_
 subst he
 refine ⟨lim.keeps x.toInCall.keep,codeAny_func ?_⟩
 obtain ⟨t,ht,hq⟩ := hbody A outer s H vs Q E (hr.deeper _) hsp
 have I : Inv (zqo CX P w K mg base N qual scope f cdv A outer s H E) [] (start N vs) H s1 := znD S hr.hd e0 hl r x
 refine wpAny_mono (ht [] s1 (start N vs) H _ I hq) (fun fl s' hs => ?_) fun e s' hs => hs
 have fin : ∀ {σ' : St} {H' : Hp} {v : V} {u : Value},Inv (zqo CX P w K mg base N qual scope f cdv A outer s H E) [] σ' H' s' -> RelV v u -> Q v H' -> CE outer P w H s Q u s' :=
  fun {σ' H' v u} J rv q => ⟨v,H',J.os,J.bare,J.base,J.hok,rv,q⟩
 cases fl with
 | ret u =>
  obtain ⟨v,σ',H',J,rv,q⟩ := hs
  exact fin J rv q
 | next =>
  obtain ⟨σ',H',J,q⟩ := hs
  exact fin (v:=V.non) (u:=Value.none) J rfl q
 | brk =>
  obtain ⟨_,_,_,q⟩ := hs
  exact False.elim q
 | cont =>
  obtain ⟨_,_,_,q⟩ := hs
  exact False.elim q
end L2
namespace L2
open PySem PySem.Spec PyProof.Rows
section
variable {X : Cx} {x : Str} {p pos : Pos} {e : Expr} {es : List Expr} {t : TA} {id T : String} {r : List V -> Hp -> VK -> Prop}
def tCB (r : List V -> Hp -> VK -> Prop) (t : TA) : TE := fun σ H Q => t σ H fun vs H1 => r vs H1 Q
theorem zlh (hc : zd6 X (.builtin id) r) (hg : Gl X x) (hm : X.mg x = none) (hv : bootBuiltins x = some (.builtin id)) (ha : PA X (e :: es) t) (hn : x ≠ "__name__" := by decide) (hdb : (x == ("__debug__" : Str)) = false := by decide)
  (he : starEach (e :: es) X.env = (false,eval e X.env) :: starEach es X.env := by rfl) (hpl : (backTo pos (starEach es X.env)).any (·.1) = false := by rfl) : PE X (.Call (.Name x p) (e :: es) [] pos) (tCB r t):=by
 intro pins s σ H Q I h
 refine wpAny_Call_Name_kw (zhT I hg hm hv ?_ hn hdb)
 exact PyProof.Rows.callWith_builtin1 (thn (ha pos pins s σ H _ I h) fun us s1 ⟨vs,H1,I1,r1,q1⟩ => hc pins s1 σ H1 vs us Q I1 r1 q1) he hpl
theorem zjq (hc : zd6 X (.type T) r) (hg : Gl X x) (hm : X.mg x = none) (hv : bootBuiltins x = some (.type T)) (ha : PA X (e :: es) t) (hn : x ≠ "__name__" := by decide) (hdb : (x == ("__debug__" : Str)) = false := by decide)
  (he : starEach (e :: es) X.env = (false,eval e X.env) :: starEach es X.env := by rfl) (hpl : (backTo pos (starEach es X.env)).any (·.1) = false := by rfl) : PE X (.Call (.Name x p) (e :: es) [] pos) (tCB r t):=by
 intro pins s σ H Q I h
 refine wpAny_Call_Name_kw (zhT I hg hm hv ?_ hn hdb)
 exact PyProof.Rows.callWith_type1 (thn (ha pos pins s σ H _ I h) fun us s1 ⟨vs,H1,I1,r1,q1⟩ => hc pins s1 σ H1 vs us Q I1 r1 q1) he hpl
end
end L2
namespace HT
open PySem PyProof.Rows
def lexLt : List Int -> List Int -> Bool
 | [],[] => false
 | [],_ :: _ => true
 | _ :: _,[] => false
 | x :: xs,y :: ys => if x = y then lexLt xs ys else decide (x < y)
theorem zl5 (x y : Int) (xs ys : List Int) : lexLt (x :: xs) (y :: ys) = if x = y then lexLt xs ys else decide (x < y) := rfl
theorem ziD : lexLt [] [] = false := rfl
theorem zhy (y : Int) (ys : List Int) : lexLt [] (y :: ys) = true := rfl
theorem zhz (x : Int) (xs : List Int) : lexLt (x :: xs) [] = false := rfl
theorem zgd (A : Around) (s : Shared) (a : Int) (t : Tok) (c : Int) (u : Tok) : ∃ e,SeqAt.EqAt A s (.int a t) (.int c u) e /\ (e = true ↔ a = c) :=
 ⟨(a == c),SeqAt.EqAt.int_int a t c u,by simp⟩
theorem zlb (A : Around) (s : Shared) (a : Int) (t : Tok) (c : Int) (u : Tok) (prog : Program) (w : World) (E : Value -> Shared -> Prop) (Q : Value -> Shared -> Prop) (h : Q (.bool (decide (a < c))) s) :
  wpAny (model prog w) A (richCompare .Lt (.int a t) (.int c u)) Q E s :=
 (PyProof.Rows.lt_int h : wpAny (model prog w) A (compareOp .Lt (.int a t) (.int c u)) Q E s)
section
open PySem.SeqAt
open PySem.AutoSeq1 (wpAny_loadPart')
open PySem.MeetsSeq PySem.MeetsSeq2 PySem.MeetsSeq3
theorem zih (l b : Addr) (items items2 : Array Value) (n n2 : Nat) (dd dd2 : Option Addr) (sl sl2 : Array (Option Value)) (ns ms : List Int) (hi : IntsAre items.toList ns) (hj : IntsAre items2.toList ms) :
  Meets (Builtin.«tuple.__lt__» ⟨[.ref l,.ref b],[]⟩)
   (fun _ R s => s.heap.get? l = some { cls := .type "tuple",dict := dd,data := .seq items n,slots := sl } /\ s.heap.get? b = some { cls := .type "tuple",dict := dd2,data := .seq items2 n2,slots := sl2 } /\
    R (.ok (.ret (.bool (lexLt ns ms)))) s) :=
 .of_wp fun prog w A R s h => by
  obtain ⟨hp,g,d,tk,os⟩ := s; obtain ⟨hl,hb,h⟩ := h
  have f2 := AutoSeq1.sub_tuple_tuple
  have z1 : items.size = ns.length := by rw [<- hi.length]; simp
  have z2 : items2.size = ms.length := by rw [<- hj.length]; simp
  wp_walk using wpAny_loadPart' hl,wpAny_loadPart' hb,wpAny_forIn_list _ (fun rest b s' => b.1 = none /\ s' = ⟨hp,g,d,tk,os⟩ /\ ∃ (vs ws : List Value) (ns' ms' : List Int),rest = vs.zip ws /\
   IntsAre vs ns' /\ IntsAre ws ms' /\ ns'.length + items2.size = ms'.length + items.size /\ R (.ok (.ret (.bool (lexLt ns' ms')))) ⟨hp,g,d,tk,os⟩) _
  case turn =>
   rintro ⟨y,x⟩ rest b s' ⟨hb',rfl,vs,ws,ns',ms',hz,hvi,hwi,hlen,hR⟩
   cases hvi with
   | nil => rw [List.zip_nil_left] at hz; cases hz
   | cons a t hvi' =>
    cases hwi with
    | nil => rw [List.zip_nil_right] at hz; cases hz
    | cons c u hwi' =>
     rw [List.zip_cons_cons] at hz
     injection hz with hyx hrest
     injection hyx with hy hx
     subst hy hx
     rw [zl5] at hR
     simp only [List.length_cons] at hlen
     obtain ⟨e,he,hiff⟩ := zgd A.in1 ⟨hp,g,d,tk,os⟩ a t c u
     refine wpAny_bind (he prog w _ _ ?_)
     cases e with
     | true =>
      rw [if_pos (hiff.mp rfl)] at hR
      wp_walk
      exact ⟨rfl,rfl,_,_,_,_,hrest,hvi',hwi',by omega,hR⟩
     | false =>
      rw [if_neg (fun q => absurd (hiff.mpr q) Bool.false_ne_true)] at hR
      have hri := zlb A.in1 ⟨hp,g,d,tk,os⟩ a t c u prog w
      wp_walk using hri
      exact ⟨_,rfl,by simpa using hR⟩
  case fin =>
   rintro ⟨b1,b2⟩ s' ⟨hb',rfl,vs,ws,ns',ms',hz,hvi,hwi,hlen,hR⟩
   simp only at hb'
   subst hb'
   have hv : lexLt ns' ms' = decide (items.size < items2.size):=by
    cases hvi with
    | nil =>
     cases hwi with
     | nil =>
      simp only [List.length_nil] at hlen
      rw [ziD]
      exact (decide_eq_false (by omega)).symm
     | cons c u hw =>
      simp only [List.length_nil,List.length_cons] at hlen
      rw [zhy]
      exact (decide_eq_true (by omega)).symm
    | cons a t hv =>
     cases hwi with
     | nil =>
      simp only [List.length_nil,List.length_cons] at hlen
      rw [zhz]
      exact (decide_eq_false (by omega)).symm
     | cons c u hw =>
      rw [List.zip_cons_cons] at hz
      cases hz
   rw [hv] at hR
   wp_walk
   exact ⟨_,rfl,by simpa [Builtin.Tuple.tupleCompareSizes] using hR⟩
  case h =>
   exact ⟨rfl,rfl,items.toList,items2.toList,ns,ms,rfl,hi,hj,by omega,h⟩
end
section
variable {prog : Program} {w : World} {A : Around} {E : Value -> Shared -> Prop} {s : Shared}
theorem zff {l b : Addr} {items items2 : Array Value} {ns ms : List Int} {Q : Value -> Shared -> Prop} (hl : IsTup s.heap l items) (hb : IsTup s.heap b items2) (hi : IntsAre items.toList ns) (hj : IntsAre items2.toList ms)
  (hu : A.units < cLine) (h : Q (.bool (lexLt ns ms)) s) : wpAny (model prog w) A (compareOp .Lt (.ref l) (.ref b)) Q E s:=by
 obtain ⟨⟨cls,dd,data,sl⟩,ho,hc,n,hd⟩ := id hl
 obtain ⟨⟨cls2,dd2,data2,sl2⟩,ho2,hc2,n2,hd2⟩ := id hb
 simp only at hc hd hc2 hd2
 subst hc hd hc2 hd2
 exact richCompare_meets_room (op:=.Lt) ⟨_,ho,rfl⟩ ⟨_,ho2,rfl⟩ PySem.F.slot_tuple_lt PySem.F.entry_tuple_lt (PySem.F.args_tuple_lt_2 _ _) (zih l b items items2 n n2 dd dd2 sl sl2 ns ms hi hj)
  ⟨ho,ho2,show Value.bool (lexLt ns ms) ≠ Value.notImplemented /\ Q (.bool (lexLt ns ms)) s from ⟨(fun x => nomatch x),h⟩⟩ hu
theorem zrB {t b : Addr} {vs ws : List Value} {Q : Value -> Shared -> Prop} (ht : IsTup s.heap t vs.toArray) (hb : IsTup s.heap b ws.toArray) (hv : vs ≠ [])
  (h1 : ws = [] -> Q (.ref t) s) (h2 : ws ≠ [] -> Q (.ref s.heap.objs.size) { s with heap := s.heap.push { cls := .type "tuple",data := .seq (vs ++ ws).toArray } })
  (hsz : vs.length + ws.length <= sizeLine) : wpAny (model prog w) A (binaryOp .Add (.ref t) (.ref b)) Q E s:=by
 obtain ⟨⟨cls,dd,data,sl⟩,ho,hc,n,hd⟩ := id ht
 obtain ⟨⟨cls2,dd2,data2,sl2⟩,ho2,hc2,n2,hd2⟩ := id hb
 simp only at hc hd hc2 hd2
 subst hc hd hc2 hd2
 have e : vs.toArray ++ ws.toArray = (vs ++ ws).toArray := by simp
 by_cases hw : ws = []
 ·exact concat_meets ⟨_,ho,rfl⟩ ⟨_,ho2,rfl⟩ noFill_tuple_add seq_tuple_add PySem.F.slot_tuple_add PySem.F.entry_tuple_add (PySem.F.args_tuple_add_2 _ _)
   (tuple_addW1 t b vs.toArray ws.toArray n n2 dd dd2 sl sl2 (by simpa using hv) (by simp [hw])) ⟨ho,ho2,h1 hw⟩
 ·refine concat_meets ⟨_,ho,rfl⟩ ⟨_,ho2,rfl⟩ noFill_tuple_add seq_tuple_add PySem.F.slot_tuple_add PySem.F.entry_tuple_add (PySem.F.args_tuple_add_2 _ _)
   (tuple_addW2 t b vs.toArray ws.toArray n n2 dd dd2 sl sl2 (by simpa using hv) (by simpa using hw) (by rw [List.size_toArray,List.size_toArray]; exact hsz)) ⟨ho,ho2,?_⟩
  rw [e]
  exact h2 hw
def sIx (n d : Nat) : Option Int -> Nat
 | none => d
 | some v => if v < 0 then (v + (n : Int)).toNat else min v.toNat n
theorem zr6 (n d : Nat) (hd : d <= n) (o : Option Int) : sIx n d o <= n:=by
 cases o with
 | none => exact hd
 | some v =>
  show (if v < 0 then (v + (n : Int)).toNat else min v.toNat n) <= n
  by_cases hv : v < 0
  ·rw [if_pos hv]; omega
  ·rw [if_neg hv]; exact Nat.min_le_right _ _
theorem zn3 (v : Int) (n d : Nat) : (if v < 0 then max (v + (n : Int)) 0 else min v (n : Int)) = ((sIx n d (some v) : Nat) : Int):=by
 show (if v < 0 then max (v + (n : Int)) 0 else min v (n : Int)) = (((if v < 0 then (v + (n : Int)).toNat else min v.toNat n) : Nat) : Int)
 by_cases hv : v < 0
 ·simp only [if_pos hv]; omega
 ·simp only [if_neg hv]; omega
theorem zmp (lo hi : Option Int) (n : Nat) : Builtin.Slice.sliceAdjust lo hi 1 (n : Int) = (((sIx n 0 lo : Nat) : Int),((sIx n n hi : Nat) : Int)):=by
 have h1 : ¬ ((1 : Int) < 0) := by omega
 unfold Builtin.Slice.sliceAdjust
 simp only [h1,if_false]
 refine Prod.ext ?_ ?_
 ·cases lo with
  | none => rfl
  | some v => exact zn3 v n 0
 ·cases hi with
  | none => rfl
  | some v => exact zn3 v n n
theorem zlX (i j : Nat) : Builtin.Slice.slicePlaces (i : Int) (j : Int) 1 = j - i:=by
 unfold Builtin.Slice.slicePlaces
 have h1 : (1 : Int) > 0 := by omega
 simp only [h1,if_true,Int.ediv_one]
 split <;> omega
theorem zhN {v : Value} {o : Option Int} {Q : Option Int -> Shared -> Prop} (p : IsPart v o) (h : Q o s) : wpAny (model prog w) A (Builtin.Slice.slicePartIndex v) Q E s:=by
 cases p with
 | none => exact slicePart_none h
 | int i t => exact slicePart_int h
theorem zda {sl : Addr} {vl vu : Value} {lo hi : Option Int} {n : Nat} {Q : Int × Int × Nat -> Shared -> Prop} (hs : s.heap.IsSliceOf sl vl vu .none) (pl : IsPart vl lo) (pu : IsPart vu hi)
  (h : Q (((sIx n 0 lo : Nat) : Int),1,sIx n n hi - sIx n 0 lo) s) : wpAny (model prog w) A (Builtin.Slice.sliceApplied (.ref sl) (pure (n : Int))) Q E s:=by
 obtain ⟨os,hos,hcs,hds⟩ := id hs
 unfold Builtin.Slice.sliceApplied Builtin.Slice.sliceFields
 refine wpAny_bind (wpAny_bind (wpAny_field hos hds (x:=vl) rfl (wpAny_bind (wpAny_field hos hds (x:=vu) rfl (wpAny_bind (wpAny_field hos hds (x:=.none) rfl (wpAny_pure ?_)))))))
 refine wpAny_bind (slicePart_none ?_)
 show wpAny _ _ (if ((1 : Int) == 0) = true then _ else _) _ _ s
 rw [if_neg (by decide)]
 refine wpAny_bind (zhN pl (wpAny_bind (zhN pu (wpAny_bind (wpAny_pure ?_)))))
 show wpAny _ _ (match Builtin.Slice.sliceAdjust lo hi 1 (n : Int) with | (lo,hi) => pure (lo,(1 : Int),Builtin.Slice.slicePlaces lo hi 1)) _ _ s
 rw [zmp lo hi n]
 show wpAny _ _ (pure (((sIx n 0 lo : Nat) : Int),(1 : Int),Builtin.Slice.slicePlaces ((sIx n 0 lo : Nat) : Int) ((sIx n n hi : Nat) : Int) 1)) _ _ s
 rw [zlX]
 exact wpAny_pure h
theorem zo9 (xs : Array Value) (i k : Nat) : ((List.range k).filterMap fun (m : Nat) => xs[((i : Int) + (m : Int) * 1).toNat]?).toArray = ((xs.toList.drop i).take k).toArray:=by
 have e : (fun (m : Nat) => xs[((i : Int) + (m : Int) * 1).toNat]?) = fun m => xs[i + m]?:=by
  funext m
  have : ((i : Int) + (m : Int) * 1).toNat = i + m := by omega
  rw [this]
 rw [e]
 have := pick_run xs i k
 rw [List.filterMap_map] at this
 have e2 : ((fun x => xs[x]?) ∘ fun x => i + x) = fun m => xs[i + m]? := rfl
 rw [e2] at this
 rw [this]
theorem zfk {t sl : Addr} {items : Array Value} {vl vu : Value} {lo hi : Option Int} {Q : Value -> Shared -> Prop} (ht : IsTup s.heap t items) (hs : s.heap.IsSliceOf sl vl vu .none) (pl : IsPart vl lo) (pu : IsPart vu hi)
  (hw : ¬ (sIx items.size 0 lo = 0 /\ sIx items.size items.size hi = items.size))
  (h : Q (.ref s.heap.objs.size) { s with heap := s.heap.push { cls := .type "tuple",data := .seq ((items.toList.drop (sIx items.size 0 lo)).take (sIx items.size items.size hi - sIx items.size 0 lo)).toArray } })
  (hsz : items.size <= sizeLine) : wpAny (model prog w) A (getItem (.ref t) (.ref sl)) Q E s:=by
 have htake : sizeOk (.seq ((items.toList.drop (sIx items.size 0 lo)).take (sIx items.size items.size hi - sIx items.size 0 lo)).toArray):=by
  show ((items.toList.drop (sIx items.size 0 lo)).take (sIx items.size items.size hi - sIx items.size 0 lo)).toArray.size <= sizeLine
  rw [List.size_toArray,List.length_take,List.length_drop,Array.length_toList]
  omega
 have hj : sIx items.size items.size hi <= items.size := zr6 _ _ (Nat.le_refl _) hi
 obtain ⟨os,hos,hcs,hds⟩ := id hs
 have hTs : s.TypeIs (.ref sl) "slice" := ⟨os,hos,hcs⟩
 unfold getItem
 try with_reducible refine wpAny_holding ?_
 first | refine wpAny_bind (wpAny_pure ?_) | skip
 refine wpAny_bind (wpAny_sequenceKey ht.typeIs (by decide) ?_)
 refine wpAny_bind (wpAny_callSpecial?_slot (name:=Str.ofString "__getitem__") ht.typeIs PyProof.Rows.slot_tuple_getitem
  (wpAny_call_entry PyProof.Rows.slot_tuple_getitem ht.typeIs entry_tuple_getitem ?_ (args_tuple_getitem _ _)))
 show wpAny _ _ (Builtin.Tuple.tupleItemsOf (.ref t) >>= _) _ _ s
 refine wpAny_bind (tupleItemsOf_ ht ?_)
 refine wpAny_bind (wpAny_typeOf hTs ?_)
 rw [if_pos (by decide)]
 refine wpAny_bind (zda hs pl pu ?_)
 have hno : ¬ ((((sIx items.size 0 lo : Nat) : Int) == 0 && (1 : Int) == 1 && (sIx items.size items.size hi - sIx items.size 0 lo) == items.size) = true):=by
  intro q
  rw [Bool.and_eq_true,Bool.and_eq_true] at q
  have q1 : ((sIx items.size 0 lo : Nat) : Int) = 0 := eq_of_beq q.1.1
  have q2 : sIx items.size items.size hi - sIx items.size 0 lo = items.size := eq_of_beq q.2
  exact hw ⟨by omega,by omega⟩
 show wpAny _ _ (if (((sIx items.size 0 lo : Nat) : Int) == 0 && (1 : Int) == 1 && (sIx items.size items.size hi - sIx items.size 0 lo) == items.size) = true then _ else _) _ _ s
 rw [if_neg hno,zo9]
 first
  | exact wpAny_bind (m:=Builtin.Tuple.tupleExact _) (wpAny_newObj_type (wpAny_pure ⟨_,rfl,wpAny_pure h⟩) htake)
  | exact wpAny_bind (m:=Builtin.Tuple.tupleExact _) (wpAny_newObj_type (wpAny_bind (wpAny_pure (wpAny_pure ⟨_,rfl,wpAny_pure h⟩))) htake)
  | exact wpAny_bind (wpAny_bind (m:=Builtin.Tuple.tupleExact _) (wpAny_newObj_type (wpAny_pure (wpAny_pure ⟨_,rfl,wpAny_pure h⟩)) htake))
  | exact wpAny_bind (wpAny_bind (m:=Builtin.Tuple.tupleExact _) (wpAny_newObj_type (wpAny_pure ⟨_,rfl,wpAny_pure h⟩) htake))
end
end HT
namespace L2
open PySem PySem.Spec PyProof.Rows
abbrev TO := St -> Hp -> (Option Int -> Hp -> Prop) -> Prop
def PO (X : Cx) (e : Option Expr) (t : TO) : Prop :=
 ∀ (pins : List (Addr × Obj)) (s : Shared) (σ : St) (H : Hp) (Q : Option Int -> Hp -> Prop),Inv X pins σ H s -> t σ H Q ->
  wpAny (model X.prog X.w) X.A (evalPart e X.env) (fun u s' => ∃ o H',Inv X pins σ H' s' /\ IsPart u o /\ Q o H') X.xe s
def zqC : TO := fun _ H Q => Q none H
def ztS (t : TE) : TO := fun σ H Q => t σ H fun x H1 => ∃ i,x = .int i /\ Q (some i) H1
theorem intsAre_of {ns : List Int} : ∀ {us : List Value},Vals (ns.map V.int) us -> IntsAre us ns:=by
 induction ns with
 | nil => intro us r; rw [List.map_nil] at r; cases r; exact .nil
 | cons n ns ih =>
  intro us r
  rw [List.map_cons] at r
  cases r with
  | cons r1 r2 =>
   obtain ⟨t,e⟩ := r1
   subst e
   exact .cons n t (ih r2)
section
variable {X : Cx} {e : Expr} {te : TE} {lo hi : Option Expr} {tl th : TO} {pos p2 : Pos}
theorem zq0 : PO X none zqC:=by
 intro pins s σ H Q I h
 rw [evalPart_none]
 exact wpAny_pure ⟨none,H,I,.none,h⟩
theorem zqZ (h : PE X e te) : PO X (some e) (ztS te):=by
 intro pins s σ H Q I hw
 rw [evalPart_some]
 refine thn (h pins s σ H _ I hw) fun u s1 ⟨x,H1,I1,r1,q1⟩ => ?_
 obtain ⟨i,rfl,q⟩ := q1
 obtain ⟨t,rfl⟩ := r1
 exact ⟨some i,H1,I1,.int i t,q⟩
def SlR (X : Cx) (r : V -> Option Int -> Option Int -> Hp -> VK -> Prop) : Prop :=
 ∀ (pins : List (Addr × Obj)) (s : Shared) (σ : St) (H : Hp) (x : V) (v vl vu : Value) (lo hi : Option Int) (sl : Addr) (Q : VK),Inv X pins σ H s -> RelV x v -> s.heap.IsSliceOf sl vl vu .none -> IsPart vl lo -> IsPart vu hi -> r x lo hi H Q ->
  ∃ T id,typeLookup (.type T) "__getitem__" = pure (some (.builtin id)) /\ s.TypeIs v T /\ wpAny (model X.prog X.w) X.A (getItem v (.ref sl)) (EP X pins σ Q) X.xe s
def tSl (r : V -> Option Int -> Option Int -> Hp -> VK -> Prop) (te : TE) (tl th : TO) : TE := fun σ H Q => te σ H fun x H1 => tl σ H1 fun l H2 => th σ H2 fun u H3 => r x l u H3 Q
theorem zpb {r : V -> Option Int -> Option Int -> Hp -> VK -> Prop} (hr : SlR X r) (he : PE X e te) (hl : PO X lo tl) (hu : PO X hi th) : PE X (.Subscript e (.Slice lo hi none p2) pos) (tSl r te tl th):=by
 intro pins s σ H Q I h
 refine Subscript_ (thn (he pins s σ H _ I h) fun v s1 ⟨x,H1,I1,r1,q1⟩ => ?_)
 refine wpAny_Slice (thn (hl pins s1 σ H1 _ I1 q1) fun vl s2 ⟨l,H2,I2,pl,q2⟩ => thn (hu pins s2 σ H2 _ I2 q2) fun vu s3 ⟨u,H3,I3,pu,q3⟩ => ?_)
 rw [evalPart_none]
 refine wpAny_pure ?_
 have I4 : Inv X pins σ H3 { s3 with heap := s3.heap.push { cls := .type "slice",data := .fields #[vl,vu,.none] } } := I3.kept (t' := s3.toks) fun b ob q => Heap.get?_push_of_some _ q
 obtain ⟨T,id,hT,ht,hg⟩ := hr pins { s3 with heap := s3.heap.push { cls := .type "slice",data := .fields #[vl,vu,.none] } } σ H3 x v vl vu l u s3.heap.objs.size Q I4 r1 (Heap.IsSliceOf.new ..) pl pu q3
 show wpAny (model X.prog X.w) X.A (subscriptTail e (.Slice lo hi none p2) v (.ref s3.heap.objs.size)) (EP X pins σ Q) X.xe { s3 with heap := s3.heap.push { cls := .type "slice",data := .fields #[vl,vu,.none] } }
 exact tail_any (ops:=[.ref s3.heap.objs.size,v]) ht hT hg (by with_unfolding_all rfl)
def zpI (xs : List V) (lo hi : Option Int) : List V := (xs.drop (HT.sIx xs.length 0 lo)).take (HT.sIx xs.length xs.length hi - HT.sIx xs.length 0 lo)
theorem zg2 (xs : List V) (lo hi : Option Int) : (zpI xs lo hi).length <= xs.length:=by
 unfold zpI
 rw [List.length_take,List.length_drop]
 omega
def zvj (K : PySem.W.Frag) : V -> Option Int -> Option Int -> Hp -> VK -> Prop := fun x lo hi H Q => ∃ a xs,x = .ref a /\ SqT K H a xs /\
 ¬ (HT.sIx xs.length 0 lo = 0 /\ HT.sIx xs.length xs.length hi = xs.length) /\ ∀ p,H p = none -> Q (.ref p) (upd H p (.tup (zpI xs lo hi)))
theorem zr5 : SlR X (zvj X.K):=by
 intro pins s σ H x v vl vu lo hi sl Q I rx hs pl pu h
 obtain ⟨a,xs,rfl,hx,hw,q⟩ := h
 cases rx
 obtain ⟨its,r,ht,hz⟩ := I.tuple hx
 have hlen : its.toArray.size = xs.length := by rw [List.size_toArray]; exact r.length.symm
 refine ⟨"tuple",_,PyProof.Rows.slot_tuple_getitem.lookup,ht.typeIs,?_⟩
 refine HT.zfk ht hs pl pu (by rw [hlen]; exact hw) ?_ (by rw [hlen]; exact hz)
 rw [hlen]
 refine ⟨.ref s.heap.objs.size,_,I.laid (t' := s.toks) (o:=.tup (zpI xs lo hi)) (fun b ob q => Heap.get?_push_of_some _ q) (Nat.le_refl _) ?_,rfl,q _ (I.hok.fresh (Nat.le_refl _))⟩
 exact ⟨Nat.le_trans (zg2 xs lo hi) hz,_,(r.drop (HT.sIx xs.length 0 lo)).take (HT.sIx xs.length xs.length hi - HT.sIx xs.length 0 lo),IsTup.new _ _⟩
def zt2 (K : PySem.W.Frag) : R2 := fun x y H Q => ∃ a b xs ys,x = .ref a /\ y = .ref b /\ SqT K H a xs /\ SqT K H b ys /\ xs ≠ [] /\ xs.length + ys.length <= sizeLine /\
 (ys = [] -> Q (.ref a) H) /\ (ys ≠ [] -> ∀ p,H p = none -> Q (.ref p) (upd H p (.tup (xs ++ ys))))
theorem Vals.zkn {xs : List V} {us : List Value} (r : Vals xs us) : us = [] ↔ xs = []:=by
 cases r with
 | nil => simp
 | cons _ _ => simp
theorem zrd : OpR X (binaryOp .Add) (zt2 X.K):=by
 intro pins s σ H x y v u Q I rx ry h
 obtain ⟨a,b,xs,ys,rfl,rfl,ha,hb,hx,hz,q1,q2⟩ := h
 cases rx
 cases ry
 obtain ⟨its,r1,p1,_⟩ := I.tuple ha
 obtain ⟨its2,r2,p2,_⟩ := I.tuple hb
 refine HT.zrB p1 p2 (fun z => hx (r1.zkn.mp z)) (fun z => ⟨.ref a,H,I,rfl,q1 (r2.zkn.mp z)⟩) (fun z => ?_) (by rw [<- r1.length,<- r2.length]; exact hz)
 refine ⟨.ref s.heap.objs.size,_,I.laid (t' := s.toks) (o:=.tup (xs ++ ys)) (fun b ob q => Heap.get?_push_of_some _ q) (Nat.le_refl _) ?_,rfl,q2 (fun w => z (r2.zkn.mpr w)) _ (I.hok.fresh (Nat.le_refl _))⟩
 exact ⟨by rw [List.length_append]; exact hz,_,r1.append r2,IsTup.new _ _⟩
end
end L2
namespace L2
open PySem PySem.Spec PyProof.Rows
def ixN (n : Nat) (i : Int) : Option Nat := if 0 <= i then (if i < n then some i.toNat else none) else if -(n : Int) <= i then some (i + n).toNat else none
def atI {α : Type} (xs : List α) (i : Int) : Option α := (ixN xs.length i).bind fun j => xs[j]?
theorem znC {n : Nat} {i : Int} {j : Nat} (h : ixN n i = some j) : seqIndex? i n = some j /\ j < n /\ -(n : Int) <= i /\ i < n:=by
 unfold ixN at h
 by_cases h0 : 0 <= i
 ·rw [if_pos h0] at h
  by_cases h1 : i < n
  ·rw [if_pos h1] at h
   have e : i.toNat = j := Option.some.inj h
   exact ⟨by rw [seqIndex_of h0 h1,e],by omega,by omega,h1⟩
  ·rw [if_neg h1] at h; cases h
 ·rw [if_neg h0] at h
  by_cases h1 : -(n : Int) <= i
  ·rw [if_pos h1] at h
   have e : (i + n).toNat = j := Option.some.inj h
   exact ⟨by rw [seqIndex_neg (by omega) h1,e],by omega,h1,by omega⟩
  ·rw [if_neg h1] at h; cases h
theorem zof {α : Type} {xs : List α} {i : Int} {v : α} (h : atI xs i = some v) : ∃ j,seqIndex? i xs.length = some j /\ xs[j]? = some v /\ j < xs.length /\ -(xs.length : Int) <= i /\ i < xs.length:=by
 unfold atI at h
 cases e : ixN xs.length i with
 | none => rw [e] at h; cases h
 | some j =>
  rw [e] at h
  obtain ⟨h1,h2,h3,h4⟩ := znC e
  exact ⟨j,h1,h,h2,h3,h4⟩
def zkS (b : Expr) : Prop := ∀ o i,subscripted b false o i = operate [o,i] (getItem o i)
def IxR (X : Cx) (r : R2) : Prop :=
 ∀ (value slice : Expr) (pins : List (Addr × Obj)) (s : Shared) (σ : St) (H : Hp) (x y : V) (v u : Value) (Q : VK),Inv X pins σ H s -> RelV x v -> RelV y u -> r x y H Q ->
  subscripted slice false v u = operate [v,u] (getItem v u) -> wpAny (model X.prog X.w) X.A (subscriptTail value slice v u) (EP X pins σ Q) X.xe s
def MtR (X : Cx) (id : String) (r : V -> List V -> Hp -> VK -> Prop) : Prop :=
 ∀ (pins : List (Addr × Obj)) (s : Shared) (σ : St) (H : Hp) (x : V) (xs : List V) (v : Value) (us : List Value) (Q : VK),Inv X pins σ H s -> RelV x v -> Vals xs us -> r x xs H Q ->
  wpAny (model X.prog X.w) X.A (call (.builtin id) (v :: us)) (EP X pins σ Q) X.xe s
section
variable {X : Cx} {a b : Expr} {ta tb : TE} {pos : Pos}
theorem zss {r : R2} (hr : IxR X r) (ha : PE X a ta) (hb : PE X b tb) (hs : zkS b) : PE X (.Subscript a b pos) (tOp r ta tb):=by
 intro pins s σ H Q I h
 exact Subscript_ (zuJ ha hb I h fun v u s2 x y H2 I2 rx ry q => hr a b pins s2 σ H2 x y v u Q I2 rx ry q (hs _ _))
def zvo (K : PySem.W.Frag) : R2 := fun x y H Q => ∃ p xs i v,x = .ref p /\ y = .int i /\ SqL K H p xs /\ atI xs i = some v /\ Q v H
def zvn (K : PySem.W.Frag) : R2 := fun x y H Q => ∃ p xs i v,x = .ref p /\ y = .int i /\ SqT K H p xs /\ atI xs i = some v /\ Q v H
theorem zrm : IxR X (zvo X.K):=by
 intro value slice pins s σ H x y v u Q I rx ry h hs
 obtain ⟨p,xs,i,z,rfl,rfl,hq,he,q⟩ := h
 cases rx
 obtain ⟨t,rfl⟩ := ry
 obtain ⟨its,r,pl,hz⟩ := I.list hq
 obtain ⟨j,h1,h2,h3,h4,h5⟩ := zof he
 obtain ⟨w,ew,rw'⟩ := r.get h2
 have hl := r.length
 have hn := zjA
 have fin : EP X pins σ Q w s := ⟨z,H,I,rw',q⟩
 by_cases h0 : 0 <= i
 ·have hj : i.toNat = j:=by
   rw [seqIndex_of h0 h5] at h1
   exact Option.some.inj h1
  exact item_listR pl.isList h0 (by omega) (by rw [hj]; simpa using ew) fin hs
 ·have hj : (i + (its.toArray.size : Int)).toNat = j:=by
   rw [seqIndex_neg (by omega) h4] at h1
   rw [List.size_toArray,<- hl]
   exact Option.some.inj h1
  exact subscriptTail_builtinR (x:=w) pl.isList.typeIs slot_list_getitem.lookup
   (wpAny_getItem_list_neg (Q:=fun r s' => r = w /\ EP X pins σ Q r s') pl.isList (by omega) (by rw [List.size_toArray] <;> omega) (by omega) (by rw [hj]; simpa using ew) ⟨rfl,fin⟩) hs
theorem zsW : IxR X (zvn X.K):=by
 intro value slice pins s σ H x y v u Q I rx ry h hs
 obtain ⟨p,xs,i,z,rfl,rfl,hq,he,q⟩ := h
 cases rx
 obtain ⟨t,rfl⟩ := ry
 obtain ⟨its,r,pl,hz⟩ := I.tuple hq
 obtain ⟨j,h1,h2,h3,h4,h5⟩ := zof he
 obtain ⟨w,ew,rw'⟩ := r.get h2
 have hl := r.length
 have hn := zjA
 have fin : EP X pins σ Q w s := ⟨z,H,I,rw',q⟩
 exact subscriptTail_builtinR (x:=w) pl.typeIs slot_tuple_getitem.lookup
  (getItem_tuple (j:=j) (Q:=fun r s' => r = w /\ EP X pins σ Q r s') pl (by omega) (by omega) (by rw [List.size_toArray,<- hl]; exact h1) (by simpa using ew) ⟨rfl,fin⟩) hs
theorem zl4 (its : List Value) (n j : Nat) (u : Value) : Obj.mapSeq (·.setIfInBounds j u) { cls := .type "list",data := .seq its.toArray n } = { cls := .type "list",data := .seq (its.set j u).toArray n }:=by
 simp [Obj.mapSeq]
theorem Inv.lst {pins : List (Addr × Obj)} {σ : St} {H : Hp} {s : Shared} {p : Addr} {xs : List V} (I : Inv X pins σ H s) (h : H p = some (.lst xs)) :
  ∃ (its : List Value) (n : Nat),Vals xs its /\ s.heap.get? p = some { cls := .type "list",data := .seq its.toArray n } /\ xs.length <= sizeLine:=by
 obtain ⟨z,its,n,r,e⟩ := I.hok p _ h
 exact ⟨its,n,r,e,z⟩
theorem Inv.zsK {pins : List (Addr × Obj)} {σ : St} {H : Hp} {s : Shared} {p : Addr} {xs ys : List V} {its its' : List Value} {n n' : Nat} {f : Obj -> Obj} (I : Inv X pins σ H s) (h : H p = some (.lst xs))
  (ho : s.heap.get? p = some { cls := .type "list",data := .seq its.toArray n }) (hf : f { cls := .type "list",data := .seq its.toArray n } = { cls := .type "list",data := .seq its'.toArray n' }) (r : Vals ys its') (hz : ys.length <= sizeLine) (t : Nat) :
  Inv X pins σ (upd H p (.lst ys)) { s with heap := s.heap.update p f,toks := t }:=by
 have e : (s.heap.update p f).get? p = some { cls := .type "list",data := .seq its'.toArray n' }:=by
  rw [Heap.get?_update_self f ho (by rw [hf] <;> rfl),hf]
 refine I.write (x:=p) (e:=p) (by rw [h]; trivial) (.inl rfl) (fun b u hb q => (Heap.get?_update_other _ _ (Ne.symm hb)).trans q) ⟨_,e⟩ ?_
 exact ⟨hz,its',n',r,e⟩
def zt1 : V -> V -> V -> Hp -> (Hp -> Prop) -> Prop := fun o i v H Q => ∃ p xs k j,o = .ref p /\ i = .int k /\ H p = some (.lst xs) /\ ixN xs.length k = some j /\ Q (upd H p (.lst (xs.set j v)))
theorem set_list : zu4 X zt1:=by
 intro pins s σ H o i v ov iv u Q I ro ri rv h
 obtain ⟨p,xs,k,j,rfl,rfl,hp,hj,q⟩ := h
 cases ro
 obtain ⟨t,rfl⟩ := ri
 obtain ⟨its,n,r,ho,hz⟩ := I.lst hp
 obtain ⟨h1,h2,h3,h4⟩ := znC hj
 have hl := r.length
 have hn := zjA
 have I' : Inv X pins σ (upd H p (.lst (xs.set j v))) { s with heap := s.heap.update p (Obj.mapSeq (·.setIfInBounds j u)) } :=
  I.zsK hp ho (zl4 its n j u) (r.set rv j) (by rw [List.length_set]; exact hz) s.toks
 by_cases h0 : 0 <= k
 ·have hk : k.toNat = j:=by
   rw [seqIndex_of h0 h4] at h1
   exact Option.some.inj h1
  exact PySem.W.ki_setAt ho h0 (by omega) (by rw [List.size_toArray,<- hl]; exact h4) (by rw [hk]; exact ⟨_,I',q⟩)
 ·have hk : (k + (its.toArray.size : Int)).toNat = j:=by
   rw [seqIndex_neg (by omega) h3] at h1
   rw [List.size_toArray,<- hl]
   exact Option.some.inj h1
  exact PySem.W.ki_setBack ho (by omega) (by rw [List.size_toArray,<- hl]; exact h3) (by omega) (by rw [hk]; exact ⟨_,I',q⟩)
theorem zje (lo hi : Option Int) (n : Nat) : (sliceBounds lo hi none n).1 = ((HT.sIx n 0 lo : Nat) : Int) /\ (sliceBounds lo hi none n).2.1 = ((HT.sIx n n hi : Nat) : Int) /\ (sliceBounds lo hi none n).2.2 = 1:=by
 refine ⟨?_,?_,rfl⟩
 ·cases lo with
  | none => simp [sliceBounds,HT.sIx]
  | some i =>
   simp only [sliceBounds,HT.sIx,Option.getD_none,show (1 : Int) > 0 by decide,if_true]
   by_cases h : i < 0
   ·simp only [h,if_true] <;> omega
   ·simp only [h,if_false] <;> omega
 ·cases hi with
  | none => simp [sliceBounds,HT.sIx]
  | some i =>
   simp only [sliceBounds,HT.sIx,Option.getD_none,show (1 : Int) > 0 by decide,if_true]
   by_cases h : i < 0
   ·simp only [h,if_true] <;> omega
   ·simp only [h,if_false] <;> omega
theorem zim (its : List Value) (lo hi : Option Int) : slicePick its.toArray lo hi none = ((its.drop (HT.sIx its.length 0 lo)).take (HT.sIx its.length its.length hi - HT.sIx its.length 0 lo)).toArray:=by
 obtain ⟨h1,h2,h3⟩ := zje lo hi its.toArray.size
 unfold slicePick
 rw [h1,h2,h3]
 simp only [sliceRange_one,pick_run,List.size_toArray] <;> rfl
def zvk (K : PySem.W.Frag) : V -> Option Int -> Option Int -> Hp -> VK -> Prop := fun x lo hi H Q => ∃ a xs,x = .ref a /\ SqL K H a xs /\ ∀ p,H p = none -> Q (.ref p) (upd H p (.lst (zpI xs lo hi)))
theorem zqG : SlR X (zvk X.K):=by
 intro pins s σ H x v vl vu lo hi sl Q I rx hs pl pu h
 obtain ⟨a,xs,rfl,hx,q⟩ := h
 cases rx
 obtain ⟨its,r,ht,hz⟩ := I.list hx
 have hlen := r.length
 refine ⟨"list",_,slot_list_getitem.lookup,ht.isList.typeIs,?_⟩
 refine wpAny_getItem_list_slice ht.isList hs pl pu .none (by simp) ?_ (by rw [List.size_toArray] <;> omega)
 rw [zim,<- hlen]
 refine ⟨.ref s.heap.objs.size,_,I.laid (t' := s.toks) (o:=.lst (zpI xs lo hi)) (fun b ob q => Heap.get?_push_of_some _ q) (Nat.le_refl _) ?_,rfl,q _ (I.hok.fresh (Nat.le_refl _))⟩
 exact ⟨Nat.le_trans (zg2 xs lo hi) hz,_,0,(r.drop (HT.sIx xs.length 0 lo)).take (HT.sIx xs.length xs.length hi - HT.sIx xs.length 0 lo),Heap.get?_push_size _ rfl⟩
theorem zfT : zd6 X (.builtin "len") (fun xs H Q => ∃ p ys,xs = [.ref p] /\ (SqL X.K H p ys \/ SqT X.K H p ys) /\ Q (.int ys.length) H):=by
 intro pins s σ H xs us Q I r h
 obtain ⟨p,ys,rfl,hq,q⟩ := h
 obtain ⟨u,rfl,rx⟩ := vals1 r
 cases rx
 have hn := zjA
 rcases hq with hq | hq
 ·obtain ⟨its,r',pl,hz⟩ := I.list hq
  have hlen := r'.length
  exact Calls.call_len_list pl.isList (by simp only [List.size_toArray] <;> omega) ⟨.int ys.length,H,I.tok _,⟨s.toks + 1,by rw [List.size_toArray,hlen]⟩,q⟩
 ·obtain ⟨its,r',pl,hz⟩ := I.tuple hq
  have hlen := r'.length
  exact len_tuple pl (by simp only [List.size_toArray] <;> omega) ⟨.int ys.length,H,I.tok _,⟨s.toks + 1,by rw [List.size_toArray,hlen]⟩,q⟩
theorem zfS : zd6 X (.type "list") (fun xs H Q => ∃ p ys,xs = [.ref p] /\ (SqL X.K H p ys \/ SqT X.K H p ys) /\ ∀ l,H l = none -> Q (.ref l) (upd H l (.lst ys))):=by
 intro pins s σ H xs us Q I r h
 obtain ⟨p,ys,rfl,hq,q⟩ := h
 obtain ⟨u,rfl,rx⟩ := vals1 r
 cases rx
 have fin : ∀ (its : List Value),Vals ys its -> ys.length <= sizeLine -> ∀ (h' : Heap) (c' : Nat),(∀ b o',s.heap.get? b = some o' -> h'.get? b = some o') ->
   h'.get? s.heap.objs.size = some { cls := .type "list",dict := none,data := .seq its.toArray c',slots := #[] } -> EP X pins σ Q (.ref s.heap.objs.size) { s with heap := h' } := fun its r' hz h' c' kp e =>
  ⟨.ref s.heap.objs.size,_,I.laid (t' := s.toks) kp (Nat.le_refl _) (show zbu X.prog X.w _ h' _ (.lst ys) from ⟨hz,its,c',r',e⟩),rfl,q _ (I.hok.fresh (Nat.le_refl _))⟩
 rcases hq with hq | hq
 ·obtain ⟨its,r',pl,hz⟩ := I.list hq
  have hlen := r'.length
  obtain ⟨o,ho,hc,n,hd⟩ := pl.isList
  exact call_list_seq p (.inl rfl) ho hc hd (fun h' c' kp e => fin its r' hz h' c' kp e) (by simp only [List.size_toArray] <;> omega)
 ·obtain ⟨its,r',pl,hz⟩ := I.tuple hq
  have hlen := r'.length
  obtain ⟨o,ho,hc,n,hd⟩ := pl
  exact call_list_seq p (.inr rfl) ho hc hd (fun h' c' kp e => fin its r' hz h' c' kp e) (by simp only [List.size_toArray] <;> omega)
theorem zeZ : zd6 X (.type "tuple") (fun xs H Q => ∃ p ys,xs = [.ref p] /\ ((SqL X.K H p ys /\ ∀ l,H l = none -> Q (.ref l) (upd H l (.tup ys))) \/ (SqT X.K H p ys /\ Q (.ref p) H))):=by
 intro pins s σ H xs us Q I r h
 obtain ⟨p,ys,rfl,h⟩ := h
 obtain ⟨u,rfl,rx⟩ := vals1 r
 cases rx
 rcases h with ⟨hq,q⟩ | ⟨hq,q⟩
 ·obtain ⟨its,r',pl,hz⟩ := I.list hq
  have hlen := r'.length
  refine call_tuple_list pl.isList (fun h' kp => ?_) (by simp only [List.size_toArray] <;> omega)
  have I1 : Inv X pins σ H { s with heap := h' } := I.kept (t' := s.toks) kp
  have I2 : Inv X pins σ (upd H h'.objs.size (.tup ys)) { s with heap := h'.push { cls := .type "tuple",data := .seq its.toArray } } :=
   I1.laid (t' := s.toks) (fun b o e => Heap.get?_push_of_some _ e) (Nat.le_refl _) (show zbu X.prog X.w _ _ _ (.tup ys) from ⟨hz,its,r',IsTup.new _ _⟩)
  exact ⟨.ref h'.objs.size,_,I2,rfl,q _ (I1.hok.fresh (Nat.le_refl _))⟩
 ·obtain ⟨its,r',pl,hz⟩ := I.tuple hq
  exact call_tuple_same pl ⟨.ref p,H,I,rfl,q⟩
def tyV (K : PySem.W.Frag) (T : String) (x : V) (H : Hp) : Prop := match x with
 | .str _ => T = "str"
 | .int _ => T = "int"
 | .ref p => (T = "list" /\ ∃ xs,SqL K H p xs) \/ (T = "tuple" /\ ∃ o,K.lookup p = some o /\ o.cls = .type "tuple" /\ o.dict = none) \/
   (T = "dict" /\ ((∃ kvs,H p = some (.dK kvs)) \/ ∃ kvs,H p = some (.dT kvs))) \/ (T = "set" /\ ∃ S n,H p = some (.set S n))
 | _ => False
theorem zrT {pins : List (Addr × Obj)} {σ : St} {H : Hp} {s : Shared} {T : String} {x : V} {v : Value} (I : Inv X pins σ H s) (r : RelV x v) (ty : tyV X.K T x H) :
  s.TypeIs v T /\ ∀ a,v = .ref a -> ∃ ob,s.heap.get? a = some ob /\ ob.dict = none:=by
 cases x with
 | str z =>
  obtain ⟨t,rfl⟩ := r
  cases (show T = "str" from ty)
  exact ⟨typeIs_str s z t,fun _ e => nomatch e⟩
 | int i =>
  obtain ⟨t,rfl⟩ := r
  cases (show T = "int" from ty)
  exact ⟨typeIs_int s i t,fun _ e => nomatch e⟩
 | ref p =>
  cases r
  rcases ty with ⟨rfl,xs,hq⟩ | ⟨rfl,o,hk,hc,hd⟩ | ⟨rfl,hk⟩ | ⟨rfl,S,n,hk⟩
  ·obtain ⟨its,_,pl,_⟩ := I.list hq
   refine ⟨pl.isList.typeIs,fun a e => ?_⟩
   cases e
   obtain ⟨o,n,e,c,hd,_⟩ := pl
   exact ⟨o,e,hd⟩
  ·refine ⟨⟨o,I.kIn p o hk,hc⟩,fun a e => ?_⟩
   cases e
   exact ⟨o,I.kIn _ o hk,hd⟩
  ·have z : ∃ o,s.heap.get? p = some o /\ o.ExactDict:=by
    rcases hk with ⟨kvs,hk⟩ | ⟨kvs,hk⟩
    ·obtain ⟨_,_,_,_,o,_,_,e,ex,_⟩ := I.hok p _ hk
     exact ⟨o,e,ex⟩
    ·obtain ⟨_,_,_,_,o,_,_,e,ex,_⟩ := I.hok p _ hk
     exact ⟨o,e,ex⟩
   obtain ⟨o,e,ex⟩ := z
   refine ⟨⟨o,e,ex.1⟩,fun a e2 => ?_⟩
   cases e2
   exact ⟨o,e,ex.2.1⟩
  ·obtain ⟨o,_,_,_,e,ex,_⟩ := I.hok p _ hk
   refine ⟨⟨o,e,ex.1⟩,fun a e2 => ?_⟩
   cases e2
   exact ⟨o,e,ex.2.1⟩
 | _ => exact False.elim ty
def zvh (K : PySem.W.Frag) (T : String) (r : V -> List V -> Hp -> VK -> Prop) (to : TE) : TE := fun σ H Q => to σ H fun x H1 => tyV K T x H1 /\ r x [] H1 Q
variable {o e : Expr} {es : List Expr} {to : TE} {t : TA} {name : Str} {apos cpos : Pos} {T id : String} {r : V -> List V -> Hp -> VK -> Prop}
theorem zsu (pa : PlainAttrs T) (slot : Slot T name id) (hty : typeOf (.builtin id) = pure (.type "method_descriptor")) (hm : MtR X id r) (ho : PE X o to)
  (hbase : attributeBase o name X.env (eval o X.env) = eval o X.env := by rfl) (hline : (apos.endLine == cpos.line) = true := by rfl) : PE X (.Call (.Attribute o name apos) [] [] cpos) (zvh X.K T r to):=by
 intro pins s σ H Q I h
 refine wpAny_Call_method0_late hbase hline (thn (ho pins s σ H _ I h) fun v s1 ⟨x,H1,I1,r1,ty,q1⟩ => ?_)
 obtain ⟨h1,h2⟩ := zrT I1 r1 ty
 exact ⟨T,id,pa,slot,hty,h1,h2,Calls.callWith_builtin rfl (PySem.evalArgs_none (hm pins s1 σ H1 x [] v [] Q I1 r1 .nil q1))⟩
/- xs.append(e),list.index on a module's tuple .. are MtR facts of 06m -/
end
end L2
namespace L2
open PySem PySem.Spec PyProof.Rows
def MtM (X : Cx) (id : String) (r : V -> List V -> Hp -> VK -> Prop) : Prop :=
 ∀ (pins : List (Addr × Obj)) (s : Shared) (σ : St) (H : Hp) (x : V) (xs : List V) (v : Value) (us : List Value) (Q : VK),Inv X pins σ H s -> RelV x v -> Vals xs us -> r x xs H Q ->
  wpAny (model X.prog X.w) X.A (call (.builtin id) (v :: us)) (EP X pins σ Q) X.xe s
theorem Vals.one : ∀ {x : V} {us : List Value},Vals [x] us -> ∃ u,us = [u] /\ RelV x u
 | _,_,.cons r .nil => ⟨_,rfl,r⟩
theorem Vals.zero : ∀ {us : List Value},Vals [] us -> us = []
 | _,.nil => rfl
theorem Vals.rep {xs : List V} {us : List Value} (h : Vals xs us) : ∀ k : Nat,Vals (List.replicate k xs).flatten (List.replicate k us).flatten
 | 0 => .nil
 | k + 1 => by
  rw [List.replicate_succ,List.replicate_succ,List.flatten_cons,List.flatten_cons]
  exact Vals.append h (Vals.rep h k)
theorem foldl_rep (its : List Value) : ∀ (k : Nat) (acc : List Value),
  List.foldl (fun x1 x2 => x1 ++ x2) acc.toArray (List.replicate k its.toArray) = (acc ++ (List.replicate k its).flatten).toArray
 | 0,acc => by simp
 | k + 1,acc => by
  have e : acc.toArray ++ its.toArray = (acc ++ its).toArray := by simp
  have e2 : (acc ++ its) ++ (List.replicate k its).flatten = acc ++ (List.replicate (k + 1) its).flatten:=by
   rw [List.replicate_succ,List.flatten_cons,List.append_assoc]
  rw [<- e2,<- foldl_rep its k (acc ++ its),<- e,List.replicate_succ,List.foldl_cons]
section
variable {X : Cx} {pins : List (Addr × Obj)} {σ : St} {H : Hp} {s : Shared} {l b : Addr} {xs ys zs : List V}
theorem Inv.zur {its its' : List Value} {n : Nat} {f : Array Value -> Array Value} {t' : Nat} (I : Inv X pins σ H s) (hH : H l = some (.lst xs))
  (e : s.heap.get? l = some { cls := .type "list",data := .seq its.toArray n }) (hf : f its.toArray = its'.toArray) (hv : Vals ys its') (hz : ys.length <= sizeLine) :
  Inv X pins σ (upd H l (.lst ys)) { s with heap := s.heap.update l (Obj.mapSeq f),toks := t' }:=by
 have q := PySem.IsL.update e f
 rw [hf] at q
 refine I.write (x:=l) (e:=l) (by rw [hH]; exact trivial) (.inl rfl) (fun b' u hb hu => (Heap.get?_update_other s.heap (Obj.mapSeq f) (Ne.symm hb)).trans hu) ⟨_,q⟩ ?_
 exact ⟨hz,its',_,hv,q⟩
theorem Inv.zvC {its : List Value} {t' : Nat} (I : Inv X pins σ H s) (hv : Vals ys its) (hz : ys.length <= sizeLine) :
  Inv X pins σ (upd H s.heap.objs.size (.lst ys)) { s with heap := s.heap.push { cls := .type "list",data := .seq its.toArray },toks := t' } :=
 I.laid (fun _ _ q => Heap.get?_push_of_some _ q) (Nat.le_refl _) ⟨hz,its,0,hv,Heap.get?_push_size _ rfl⟩
theorem Inv.fresh (I : Inv X pins σ H s) : H s.heap.objs.size = none := I.hok.fresh (Nat.le_refl _)
theorem Inv.zup (I : Inv X pins σ H s) (hH : H l = some (.lst xs)) : xs.length <= sizeLine /\ ∃ (its : List Value) (n : Nat),Vals xs its /\ xs.length = its.length /\ s.heap.get? l = some { cls := .type "list",data := .seq its.toArray n }:=by
 obtain ⟨z,its,n,r,e⟩ := I.hok l _ hH
 exact ⟨z,its,n,r,r.length,e⟩
end
section
variable {X : Cx}
def zqK : V -> List V -> Hp -> VK -> Prop := fun x vs H Q => ∃ l xs y,x = .ref l /\ vs = [y] /\ H l = some (.lst xs) /\ xs.length < sizeLine /\ Q .non (upd H l (.lst (xs ++ [y])))
theorem zjw : MtM X "list.append" zqK:=by
 intro pins s σ H x vs v us Q I rx rv h
 obtain ⟨l,xs,y,rfl,rfl,hH,hz,q⟩ := h
 cases rx
 obtain ⟨u,rfl,ru⟩ := rv.one
 obtain ⟨z,its,n,r,hl,e⟩ := I.zup hH
 refine call_meets F.slot_list_append ⟨_,e,rfl⟩ F.entry_list_append (F.args_list_append_2 _ _) (PySem.list_append l its.toArray n u (by rw [List.size_toArray]; omega)) ⟨e,?_⟩
 refine ⟨.non,_,I.zur (its' := its ++ [u]) hH e (by simp) (r.append (.cons ru .nil)) ?_,rfl,q⟩
 rw [List.length_append,List.length_singleton]
 omega
def zvl : V -> List V -> Hp -> VK -> Prop := fun x vs H Q => ∃ l xs y,x = .ref l /\ vs = [] /\ H l = some (.lst xs) /\ xs[xs.length - 1]? = some y /\ Q y (upd H l (.lst xs.dropLast))
def zsb : V -> List V -> Hp -> VK -> Prop := fun x vs H Q => ∃ l xs,x = .ref l /\ vs = [] /\ H l = some (.lst xs) /\ Q .non (upd H l (.lst []))
theorem zpp : MtM X "list.clear" zsb:=by
 intro pins s σ H x vs v us Q I rx rv h
 obtain ⟨l,xs,rfl,rfl,hH,q⟩ := h
 cases rx
 have hus := rv.zero
 subst hus
 obtain ⟨z,its,n,r,hl,e⟩ := I.zup hH
 refine call_meets F.slot_list_clear ⟨_,e,rfl⟩ F.entry_list_clear (F.args_list_clear_1 _) (AutoSeq1.list_clear_list_0 l its.toArray n (by rw [List.size_toArray]; omega)) ⟨e,?_⟩
 exact ⟨.non,_,I.zur (its' := []) (ys:=[]) hH e rfl .nil (Nat.zero_le _),rfl,q⟩
theorem len_rep {α : Type} (xs : List α) (k : Nat) : (List.replicate k xs).flatten.length = k * xs.length:=by
 induction k with
 | zero => simp
 | succ k ih => rw [List.replicate_succ,List.flatten_cons,List.length_append,ih,Nat.succ_mul,Nat.add_comm]
end
end L2
namespace Att
open PySem PySem.W PySem.Calls PyProof.Rows
theorem zgP {P : Params} {h : Heap} : ∀ (ns : List Int) (vs : List Value),WellAll P h vs (ns.map WData.int) -> IntsAre vs ns:=by
 intro ns
 induction ns with
 | nil =>
  intro vs w
  rw [List.map_nil] at w
  cases w
  exact .nil
 | cons n ns ih =>
  intro vs w
  rw [List.map_cons] at w
  cases w with
  | cons a b =>
   cases a
   exact .cons _ _ (ih _ b)
theorem zmK {l : OpenLaw} {n : Nat} (hn : l.most = some n) {P : Params} {h : Heap} {args : List WData} {vals : List Value}
  (hpre : l.row.toRowW.claim.pre args = true) (hwl : WellAll P h vals args) :
  ∃ a vs ns,vals = [Value.ref a] /\ args = [WData.list (ns.map WData.int)] /\ h.get? a = some { cls := .type "list",data := .seq vs.toArray } /\ IntsAre vs ns /\ ns.length <= n:=by
 have hsh : WShape.hasAll [] args [.list .int] = true := (pre_splitW hpre).1
 have hc : l.pre.holds [] { args := args } = true := (pre_splitW hpre).2
 obtain ⟨d,r,rfl,h1,h2⟩ := hasAllW_cons hsh
 obtain rfl := hasAllW_nil h2
 obtain ⟨xs,rfl,h3⟩ := hasW_list h1
 obtain ⟨ns,rfl⟩ := items_int h3
 have hlen : ns.length <= n:=by
  unfold OpenLaw.pre at hc
  have h4 : (WTm.not (.lt (.lit (.int (n : Int))) (.len (.arg 0)))).holds [] { args := [.list (ns.map .int)] } = true:=by
   have h4 := (holds_andW hc).1
   rw [hn] at h4
   exact h4
  have h5 := condW_of h4 (w_not (w_lt w_lit (w_len_list (w_arg rfl))))
  rw [List.length_map] at h5
  refine Nat.le_of_not_lt fun q => ?_
  have q' : (n : Int) < ((ns.length : Nat) : Int) := by omega
  first
   | (rw [decide_eq_true q'] at h5; exact absurd h5 (by decide))
   | (simp at h5; omega)
 cases hwl with
 | cons w1 w2 =>
  cases w2
  cases w1 with
  | list ho hall => exact ⟨_,_,ns,rfl,rfl,ho,zgP ns _ hall,hlen⟩
theorem zm0 (l : OpenLaw) (args : List WData) : l.row.toRowW.claim.post args (.bool true) args = true :=
 postW_of (r:=l.row.toRowW) (X:=(true == true))
  (show WShape.has [] (.bool true) .bool = true by first | rfl | decide | simp [WShape.has,WShape.arms,WShape.armsAll])
  (show (WTm.eq .res (.lit (.bool true))).value [] { args := args,res := some (.bool true),after := args } = some (.bool (true == true)) from w_eq_bool (w_res rfl) w_lit) rfl
theorem zkP {l : OpenLaw} {n : Nat} {q : Program} {loose : List Str} {XP : (Str -> Option Value) -> Heap -> Prop} {YP : World -> Heap -> Prop} {d : DefRec}
  (hn : l.most = some n) (hdf : d.params.defaults = [])
  (call : ∀ (w : World) (s₀ s₁ : Shared) (mg mb : Str -> Option Value) (fa : Addr) (o : Obj) (pm cd doc : Value) (a : Addr) (vs : List Value) (ns : List Int),
   Ground q loose [] XP w s₀ mg mb s₁.heap -> YP w s₁.heap ->
   s₁.heap.get? fa = some o -> o.data = .func (docDef d.name d.params d.body d.scope pm cd doc) -> s₁.heap.CodeRec cd d.name -> mg d.name = some (.ref fa) ->
   s₁.heap.get? a = some { cls := .type "list",data := .seq vs.toArray } -> IntsAre vs ns -> ns.length <= n -> s₁.gens = #[] ->
   codeAny (model l.prog w) callerA (.call (.ref fa) ⟨[.ref a],[]⟩) (fun r s' => r = .ok (.ret (.bool true)) /\ OldK s₁.heap s'.heap /\ s'.os = s₁.os /\ AllBare s'.gens) s₁) :
  WalkO q loose XP YP l.row.toRowW d [] (fun f vs => PySem.call f vs):=by
 intro w s₀ s₁ mg mb G Y fa o pm cd doc dV kV ho hd hcd hD hmg hg args vals as hpre hlay hrd hwl hlo
 obtain rfl : dV = .none := Dflts.none hD hdf
 obtain rfl : kV = .none := Dflts.noKw hD
 obtain ⟨a,vs,ns,rfl,rfl,hobj,hints,hlen⟩ := zmK hn hpre hwl
 refine enter_call (codeAny_mono (call w s₀ s₁ mg mb fa o pm cd doc a vs ns G Y ho (fd_plain hd) hcd hmg hobj hints hlen hg) fun r s' hq => ?_)
 obtain ⟨rfl,h2,h3,h4⟩ := hq
 exact ⟨.inl ⟨.bool true,.bool true,[],rfl,fun _ => rfl,.bool true,zm0 l _,fun _ => ⟨List.Pairwise.nil,fun _ hm => (nomatch hm)⟩⟩,h2,h3,h4⟩
end Att
namespace L2
open PySem PySem.Spec PyProof.Rows
theorem zjb : ∀ {vs : List Value} {ns : List Int},IntsAre vs ns -> Vals (ns.map V.int) vs
 | _,_,.nil => .nil
 | _,_,.cons n t h => .cons ⟨t,rfl⟩ (zjb h)
end L2
namespace L2
open PySem PySem.Spec PyProof.Rows
abbrev KOf {K : PySem.W.Frag} {h : Heap} (_ : K.In h) : PySem.W.Frag := K
end L2
/- THE LAST THEOREM (shape; LID,My.* are yours):
  My.Adr: a structure of the addresses that your layer names (classes,functions); My.Txt K t: a structure (Prop) of the equations over K;
  My.txt_mk : {K} {implicit addresses ..} (e1 : nsIn K mainGlobals "law" = some (some (.ref f))) (e2 : K.lookup f = some ⟨oc,od,.func (fnOf "law" "law" params body scope dV kV doc pm an cdv ct),sl⟩) (e3 : codeIn K cdv "law" = true) .. : ∃ t,My.Txt K t
set_option maxRecDepth 100000 in
set_option maxHeartbeats 0 in
theorem PySem.Challenge.zqp : PySem.Challenge.rw_LID.Holds := by
 w_on; o_law; k_head; (case hw => w_witness2)
 k_fill
 refine L2.walk_of (l:=PySem.Challenge.rw_LID) (n:=63) (k:=40) (x:="script") (CX:=fun w => ..) (sp:=fun _ => My.sp_law) rfl (by decide) rfl ⟨rfl,by decide,by decide⟩ (fun w h Y => PySem.W.kIn_of Y) ?F ?S ?C
 case F =>
  intro w mg fa h KX G hmg
  have T : ∃ t,My.Txt (L2.KOf KX) t:=by
   dsimp only [L2.KOf]                          -- K must stand as «<heap const> w.params» for k_is
   refine' My.txt_mk ?e1 ?e2 ?e3 ..
   (case e1 => PySem.W.k_is)                    -- in the order: a name -> its address -> its object -> its parts
   (case e2 => PySem.W.k_is)
   ..
  obtain ⟨t,T⟩ := T
  have e0 := hmg.symm.trans (PySem.W.mg_of KX G T.law)
  cases e0                                       -- fa is the law's own address
  exact ⟨_,fun s u => .of_eq rfl,fun base kb nb => My.law_fn T kb nb⟩     -- if «.of_eq rfl» comes too early: refine' ⟨_,?b,fun base kb nb => My.law_fn T kb nb⟩; exact fun s u => .of_eq rfl
 case S => exact fun w H a ns hl hO hS => ..
 case C => exact ..
(the tactic k_is has no namespace: write k_is) -/
/-! SHORT WORDS over the layer: a def of the text,its body,what a loop and a test want. -/
namespace L2
open PySem PySem.Spec PyProof.Rows
def zep (s : Stmt) : Arguments := match s with
 | .FunctionDef _ a _ _ _ _ _ _ _ _ => a
 | _ => { posonlyargs := [],args := [],vararg := none,kwonlyargs := [],kw_defaults := [],kwarg := none,defaults := [] }
def zcy (s : Stmt) : List Stmt := match s with
 | .FunctionDef _ _ b _ _ _ _ _ _ _ => b
 | _ => []
def zao (s : Stmt) : Scope := match s with
 | .FunctionDef _ _ _ _ _ _ sc _ _ _ => sc
 | _ => { kind := .function,names := [],isGenerator := false,isCoroutine := false }
abbrev E0 : XK := fun _ _ _ => False
structure Fun (K : PySem.W.Frag) (x qual : Str) (st : Stmt) (f : Addr) (fd : FuncData) : Prop where
 ex : ∃ (oc : Value) (od : Option Addr) (kV doc pm : Value) (an : Option Addr) (cdv ct : Value) (osl : Array (Option Value)),
  fd = PySem.W.fnOf x qual (zep st) (zcy st) (zao st) .none kV doc pm an cdv ct /\ K.lookup f = some ⟨oc,od,.func fd,osl⟩ /\ PySem.W.codeIn K cdv qual = true
 kp : PySem.W.keepIn K (.ref f) = true
section
variable {P : Program} {w : World} {K : PySem.W.Frag} {mg : Str -> Option Value} {base : Heap}
theorem Fun.binds {x qual : Str} {st : Stmt} {f : Addr} {fd : FuncData} {ps : List Str} (F : Fun K x qual st f fd)
  (h : ∀ (kV doc pm : Value) (an : Option Addr) (cdv ct : Value) (us : List Value),us.length = ps.length -> bindArgs (PySem.W.fnOf x qual (zep st) (zcy st) (zao st) .none kV doc pm an cdv ct) ⟨us,[]⟩ = pure (ps.zip us)) : Binds K fd ps []:=by
 obtain ⟨oc,od,kV,doc,pm,an,cdv,ct,osl,rfl,lk,hcd⟩ := F.ex
 exact .all (h kV doc pm an cdv ct)
theorem zs4 {x qual : Str} {st : Stmt} {f : Addr} {oc : Value} {od an : Option Addr} {osl : Array (Option Value)} {kV doc pm cdv ct : Value} (l : K.lookup f = some ⟨oc,od,.func (PySem.W.fnOf x qual (zep st) (zcy st) (zao st) .none kV doc pm an cdv ct),osl⟩)
  (c : PySem.W.codeIn K cdv qual = true) (k : PySem.W.keepIn K (.ref f) = true) : Fun K x qual st f (PySem.W.fnOf x qual (zep st) (zcy st) (zao st) .none kV doc pm an cdv ct) := ⟨⟨oc,od,kV,doc,pm,an,cdv,ct,osl,rfl,l,c⟩,k⟩
end
theorem zmI {n : Nat} (h : n <= 1000) : n < sizeLine := Nat.lt_of_le_of_lt h (by decide)
section
variable {X : Cx}
theorem pv (i : Nat) {x : Str} {pos : Pos} (hN : X.N[i]? = some x := by rfl) (hv : Vis X.env.scope x := by first | exact Or.inl rfl | exact Or.inr (Or.inl rfl) | exact Or.inr (Or.inr rfl)) (hd : (x == ("__debug__" : Str)) = false := by decide)
  (hcd : (x == ("__classdict__" : Str)) = false := by decide) : PE X (.Name x pos) (zkb i) := zp2 hN hv hd hcd
end
theorem zqf {A B : Prop} (h : B) : if false = true then A else B:=by
 rw [if_neg Bool.false_ne_true]
 exact h
theorem zqe {A B : Prop} (h : A) : if true = true then A else B:=by
 rw [if_pos rfl]
 exact h
def zaY (H H' : Hp) : Prop := ∀ b o,H b = some o -> H' b = some o
theorem zaY.refl (H : Hp) : zaY H H := fun _ _ h => h
end L2
namespace L2
open PySem PySem.Spec PyProof.Rows
theorem bits_le {k : Int} {a : Nat} (h : k.natAbs < 2 ^ a) : Builtin.Int.intBits k <= a:=by
 unfold Builtin.Int.intBits
 split
 ·exact Nat.zero_le _
 ·rename_i h0
  have hp : k.natAbs ≠ 0:=by
   intro z
   apply h0
   have : k = 0 := by omega
   subst this
   rfl
  have := (Nat.log2_lt hp).mpr h
  omega
theorem mulOk_of {i j : Int} {a b : Nat} (hi : i.natAbs < 2 ^ a) (hj : j.natAbs < 2 ^ b) (h : a + b <= 134217728) : IntMulOk i j:=by
 have h1 := bits_le hi
 have h2 := bits_le hj
 have h3 : Builtin.Int.intTooBig ((Builtin.Int.intBits i : Int) + (Builtin.Int.intBits j : Int)) = false:=by
  unfold Builtin.Int.intTooBig
  rw [bitsLine_eq]
  simp
  omega
 unfold IntMulOk
 rw [h3]
 simp
section
variable {X : Cx}
theorem zrb : OpR X (binaryOp .Mult) (rI IntMulOk fun i j => .int (i * j)) := opI fun _ _ _ _ _ _ _ hc q => mul_int q hc
end
mutual
/-- the value v is the thing d in the abstract heap -/
def Is (K : PySem.W.Frag) (H : Hp) : PyData -> V -> Prop
 | .none,v => v = .non
 | .bool b,v => v = .bl b
 | .int i,v => v = .int i
 | .str x,v => v = .str x
 | .list xs,v => ∃ a vs,v = .ref a /\ SqL K H a vs /\ zfw K H xs vs
 | .tuple xs,v => ∃ a vs,v = .ref a /\ SqT K H a vs /\ zfw K H xs vs
 | .dict _,_ => False
def zfw (K : PySem.W.Frag) (H : Hp) : List PyData -> List V -> Prop
 | [],vs => vs = []
 | d :: ds,vs => ∃ v r,vs = v :: r /\ Is K H d v /\ zfw K H ds r
end
section
variable {X : Cx} {pins : List (Addr × Obj)} {σ : St} {H : Hp} {s : Shared}
mutual
theorem Is.reads (I : Inv X pins σ H s) : ∀ (d : PyData) (v : V) (u : Value),Is X.K H d v -> RelV v u -> ∃ as,Reads s.heap u d as
 | .none,v,u,h,r => by
  simp only [Is] at h; subst h
  cases (show u = Value.none from r)
  exact ⟨_,.none⟩
 | .bool b,v,u,h,r => by
  simp only [Is] at h; subst h
  cases (show u = Value.bool b from r)
  exact ⟨_,.bool b⟩
 | .int i,v,u,h,r => by
  simp only [Is] at h; subst h
  obtain ⟨t,rfl⟩ := (show ∃ t,u = Value.int i t from r)
  exact ⟨_,.int i t⟩
 | .str x,v,u,h,r => by
  simp only [Is] at h; subst h
  obtain ⟨t,rfl⟩ := (show ∃ t,u = Value.str x t from r)
  exact ⟨_,.str x t⟩
 | .list xs,v,u,h,r => by
  simp only [Is] at h
  obtain ⟨a,vs,rfl,h1,h2⟩ := h
  cases (show u = Value.ref a from r)
  obtain ⟨its,rv,⟨o,n,ho,hc,_,hd⟩,_⟩ := I.list h1
  obtain ⟨as,ra⟩ := zfw.reads I xs vs its h2 rv
  exact ⟨_,.list ho hc hd (by simpa using ra)⟩
 | .tuple xs,v,u,h,r => by
  simp only [Is] at h
  obtain ⟨a,vs,rfl,h1,h2⟩ := h
  cases (show u = Value.ref a from r)
  obtain ⟨its,rv,⟨o,ho,hc,n,hd⟩,_⟩ := I.tuple h1
  obtain ⟨as,ra⟩ := zfw.reads I xs vs its h2 rv
  exact ⟨_,.tuple ho hc hd (by simpa using ra)⟩
 | .dict _,v,u,h,r => by simp only [Is] at h
theorem zfw.reads (I : Inv X pins σ H s) : ∀ (ds : List PyData) (vs : List V) (us : List Value),zfw X.K H ds vs -> Vals vs us -> ∃ as,ReadsAll s.heap us ds as
 | [],vs,us,h,r => by
  simp only [zfw] at h; subst h
  cases r
  exact ⟨_,.nil⟩
 | d :: ds,vs,us,h,r => by
  simp only [zfw] at h
  obtain ⟨v,rr,rfl,h1,h2⟩ := h
  cases r with
  | cons r1 r2 =>
   obtain ⟨as,q1⟩ := Is.reads I d v _ h1 r1
   obtain ⟨bs,q2⟩ := zfw.reads I ds rr _ h2 r2
   exact ⟨_,.cons q1 q2⟩
end
end
section
variable {X : Cx}
def zvq (K : PySem.W.Frag) : R2 := fun x y H Q => ∃ d e,Is K H d x /\ Is K H e y /\ SeqAt.shaped d = true /\ SeqAt.shaped e = true /\ Q (.bl (PyData.eqv d e)) H
def zvm (K : PySem.W.Frag) : R2 := fun x y H Q => ∃ d e,Is K H d x /\ Is K H e y /\ SeqAt.shaped d = true /\ SeqAt.shaped e = true /\ Q (.bl (!PyData.eqv d e)) H
theorem zsC (hu : X.A.units + 64 < cLine) : OpR X (compareOp .Eq) (zvq X.K):=by
 intro pins s σ H x y v u Q I rx ry h
 obtain ⟨d,e,h1,h2,c1,c2,q⟩ := h
 obtain ⟨as,ra⟩ := Is.reads I d x v h1 rx
 obtain ⟨bs,rb⟩ := Is.reads I e y u h2 ry
 exact SeqAt.compareEq_shaped ra rb c1 c2 hu ⟨.bl _,H,I,rfl,q⟩
theorem zsz (hu : X.A.units + 64 < cLine) : OpR X (compareOp .NotEq) (zvm X.K):=by
 intro pins s σ H x y v u Q I rx ry h
 obtain ⟨d,e,h1,h2,c1,c2,q⟩ := h
 obtain ⟨as,ra⟩ := Is.reads I d x v h1 rx
 obtain ⟨bs,rb⟩ := Is.reads I e y u h2 ry
 exact SeqAt.compareNe_shaped ra rb c1 c2 hu ⟨.bl _,H,I,rfl,q⟩
end
end L2
namespace L2
open PySem PySem.Spec PyProof.Rows
inductive Ty (K : PySem.W.Frag) (H : Hp) : V -> Value -> Prop where
 | non : Ty K H .non (.type "NoneType")
 | bl (x : Bool) : Ty K H (.bl x) (.type "bool")
 | int (i : Int) : Ty K H (.int i) (.type "int")
 | str (x : Str) : Ty K H (.str x) (.type "str")
 | lst {a : Addr} {xs : List V} (e : SqL K H a xs) : Ty K H (.ref a) (.type "list")
 | tup {a : Addr} {xs : List V} (e : SqT K H a xs) : Ty K H (.ref a) (.type "tuple")
def ztL : V -> Value
 | .ty n => .type n
 | .ref a => .ref a
 | _ => .none
theorem zrz {y : V} {u : Value} (r : RelV y u) (h : ztL y ≠ .none) : u = ztL y:=by
 cases y with
 | ty n => exact r
 | ref a => exact r
 | _ => exact absurd rfl h
section
variable {X : Cx}
theorem zsY {pins : List (Addr × Obj)} {σ : St} {H : Hp} {s : Shared} {A : Around} {E : Value -> Shared -> Prop} {Q : Value -> Shared -> Prop} {c : Value} {b : Bool} {x : V} {u t : Value} (I : Inv X pins σ H s) (rx : RelV x u) (ty : Ty X.K H x t) (e : PySem.W.kitOne X.K t c = some b) (h : ∀ tk,Q (.bool b) { s with toks := tk }) :
  wpAny (model X.prog X.w) A (call (.builtin "isinstance") [u,c]) Q E s:=by
 cases ty with
 | non => cases (show u = Value.none from rx); exact PySem.W.kia_one PySem.W.kitx_none I.kIn True.intro e (fun z => nomatch z) h
 | bl y => cases (show u = Value.bool y from rx); exact PySem.W.kia_one PySem.W.kitx_bool I.kIn True.intro e (fun z => nomatch z) h
 | int i => obtain ⟨t,q⟩ := (show ∃ t,u = Value.int i t from rx); cases q; exact PySem.W.kia_one PySem.W.kitx_int I.kIn True.intro e (fun z => nomatch z) h
 | str y => obtain ⟨t,q⟩ := (show ∃ t,u = Value.str y t from rx); cases q; exact PySem.W.kia_one PySem.W.kitx_str I.kIn True.intro e (fun z => nomatch z) h
 | @lst a xs ea =>
  cases (show u = Value.ref a from rx)
  obtain ⟨its,_,⟨o,n,ho,hc,_⟩,_⟩ := I.list ea
  exact PySem.W.kia_one PySem.W.kitx_list I.kIn ⟨o,ho,hc⟩ e (fun z => nomatch z) h
 | @tup a xs ea =>
  cases (show u = Value.ref a from rx)
  obtain ⟨its,_,⟨o,ho,hc,_⟩,_⟩ := I.tuple ea
  exact PySem.W.kia_one PySem.W.kitx_tuple I.kIn ⟨o,ho,hc⟩ e (fun z => nomatch z) h
def zvp (K : PySem.W.Frag) : List V -> Hp -> VK -> Prop := fun xs H Q => ∃ x y t b,xs = [x,y] /\ ztL y ≠ .none /\ Ty K H x t /\ PySem.W.kitOne K t (ztL y) = some b /\ Q (.bl b) H
theorem zpN : zd6 X (.builtin "isinstance") (zvp X.K):=by
 intro pins s σ H xs us Q I r h
 obtain ⟨x,y,t,b,rfl,hy,ty,e,q⟩ := h
 obtain ⟨u,v,rfl,ru,rv⟩ := vals2 r
 cases zrz rv hy
 exact zsY I ru ty e fun tk => ⟨.bl b,H,I.tok tk,rfl,q⟩
theorem zub {x : Str} {n : String} {pos : Pos} (hg : Gl X x) (hm : X.mg x = none) (hv : bootBuiltins x = some (.type n)) (hn : x ≠ "__name__" := by decide) (hd : (x == ("__debug__" : Str)) = false := by decide) : PE X (.Name x pos) (tC (.ty n)) := zq8 hg hm hv rfl hn hd
end
end L2
namespace L2
open PySem PySem.Spec PyProof.Rows
def zg6 (cells : List (Str × Addr)) : List (Str × NameKind) -> List (Str × Addr) -> List (Str × Addr)
 | [],acc => acc
 | (n,k) :: r,acc => if k = .free then (match cells.lookup n with | some a => zg6 cells r ((n,a) :: acc) | none => zg6 cells r acc) else zg6 cells r acc
theorem zgg {cells : List (Str × Addr)} : ∀ {names : List (Str × NameKind)} {acc : List (Str × Addr)},(∀ p ∈ acc,cells.lookup p.1 = some p.2) -> ∀ p ∈ zg6 cells names acc,cells.lookup p.1 = some p.2
 | [],acc,h,p,hp => h p hp
 | (n,k) :: r,acc,h,p,hp => by
  unfold zg6 at hp
  split at hp
  ·split at hp
   ·rename_i a e
    exact zgg (names:=r) (acc:=(n,a) :: acc) (fun q hq => by
     rcases List.mem_cons.mp hq with rfl | hq
     ·exact e
     ·exact h q hq) p hp
   ·exact zgg h p hp
  ·exact zgg h p hp
theorem zgh {cells : List (Str × Addr)} : ∀ {names : List (Str × NameKind)} {acc : List (Str × Addr)},∀ p ∈ acc,p ∈ zg6 cells names acc
 | [],acc,p,hp => hp
 | (n,k) :: r,acc,p,hp => by
  unfold zg6
  split
  ·split
   ·exact zgh p (List.mem_cons_of_mem _ hp)
   ·exact zgh p hp
  ·exact zgh p hp
theorem zeY {cells : List (Str × Addr)} {x : Str} {a : Addr} (e : cells.lookup x = some a) : ∀ {names : List (Str × NameKind)} {acc : List (Str × Addr)},(x,NameKind.free) ∈ names -> (x,a) ∈ zg6 cells names acc
 | (n,k) :: r,acc,h => by
  unfold zg6
  rcases List.mem_cons.mp h with h | h
  ·cases h
   rw [if_pos rfl,e]
   exact zgh _ (List.mem_cons_self ..)
  ·split
   ·split
    ·exact zeY e h
    ·exact zeY e h
   ·exact zeY e h
theorem zbI {α : Type} {x : Str} {a : α} : ∀ {l : List (Str × α)},(x,a) ∈ l -> ∃ b,l.lookup x = some b
 | (y,b) :: r,h => by
  by_cases e : (x == y) = true
  ·exact ⟨b,by simp [List.lookup_cons,e]⟩
  ·rcases List.mem_cons.mp h with h | h
   ·cases h
    exact absurd (beq_self_eq_true _) e
   ·obtain ⟨c,hc⟩ := zbI h
    refine ⟨c,?_⟩
    have e' : (x == y) = false := by simpa using e
    simp only [List.lookup_cons,e']
    exact hc
theorem zc5 {scope : Scope} {env : Env} (h : ∀ y ∈ scope.names,y.2 = .free -> ∃ a,env.cells.lookup y.1 = some a) : closureFor scope env = pure (zg6 env.cells scope.names []):=by
 have key : ∀ (names : List (Str × NameKind)) (acc : List (Str × Addr)),(∀ y ∈ names,y.2 = .free -> ∃ a,env.cells.lookup y.1 = some a) ->
   (forIn names acc (fun x r => match x with
    | (name,kind) => if (kind == NameKind.free) = true then do let a <- cellOf env name; pure (ForInStep.yield ((name,a) :: r)) else pure (ForInStep.yield r)) : Sem (List (Str × Addr))) = pure (zg6 env.cells names acc):=by
  intro names
  induction names with
  | nil => intro acc _; rfl
  | cons p r ih =>
   intro acc hh
   obtain ⟨n,k⟩ := p
   rw [List.forIn_cons]
   by_cases hk : k = .free
   ·subst hk
    obtain ⟨a,ea⟩ := hh (n,.free) (List.mem_cons_self ..) rfl
    have e1 : cellOf env n = pure a := by unfold cellOf; rw [ea]
    simp only [beq_self_eq_true,if_true,e1,pure_bind,zg6,ea]
    exact ih _ fun y hy => hh y (List.mem_cons_of_mem _ hy)
   ·have hk' : (k == NameKind.free) = false := by simpa using hk
    simp only [hk',Bool.false_eq_true,if_false,pure_bind,zg6,hk]
    exact ih _ fun y hy => hh y (List.mem_cons_of_mem _ hy)
 unfold closureFor
 exact (bind_pure _).trans (key scope.names [] h)
theorem zbg {scope : Scope} {env : Env} {x : Str} {k : NameKind} : ∀ {names : List (Str × NameKind)},
  (names.map fun (n,k) => if (k == NameKind.free && env.scope.kind == .function && env.kindOf n == some .cell) then (n,NameKind.cell) else (n,k)).lookup x = some k ->
  ∃ k0,names.lookup x = some k0 /\ (x,k0) ∈ names /\ (k0 = k \/ (k0 = .free /\ k = .cell))
 | [],h => by simp at h
 | (n,k0) :: r,h => by
  by_cases e : (x == n) = true
  ·have en : x = n := by simpa using e
   subst en
   refine ⟨k0,by simp [List.lookup_cons],List.mem_cons_self ..,?_⟩
   rw [List.map_cons] at h
   by_cases hc : (k0 == NameKind.free && env.scope.kind == .function && env.kindOf x == some .cell) = true
   ·simp only [hc,if_true,List.lookup_cons,beq_self_eq_true] at h
    simp only [Bool.and_eq_true,beq_iff_eq] at hc
    exact .inr ⟨hc.1.1,(Option.some.inj h).symm⟩
   ·simp only [hc,Bool.false_eq_true,if_false,List.lookup_cons,beq_self_eq_true] at h
    exact .inl (Option.some.inj h)
  ·have e' : (x == n) = false := by simpa using e
   rw [List.map_cons] at h
   have h' : (r.map fun (n,k) => if (k == NameKind.free && env.scope.kind == .function && env.kindOf n == some .cell) then (n,NameKind.cell) else (n,k)).lookup x = some k:=by
    by_cases hc : (k0 == NameKind.free && env.scope.kind == .function && env.kindOf n == some .cell) = true
    ·simp only [hc,if_true,List.lookup_cons,e'] at h
     exact h
    ·simp only [hc,Bool.false_eq_true,if_false,List.lookup_cons,e'] at h
     exact h
   obtain ⟨k1,h1,h2,h3⟩ := zbg (scope:=scope) h'
   exact ⟨k1,by simp only [List.lookup_cons,e']; exact h1,List.mem_cons_of_mem _ h2,h3⟩
structure ztx (X : Cx) (scope : Scope) (cap : List Str) : Prop where
 kind : scope.kind = .function
 nocell : ∀ y ∈ scope.names,y.2 ≠ .cell
 cell : ∀ y ∈ scope.names,y.2 = .free -> X.env.kindOf y.1 = some .cell
 loc : ∀ y ∈ scope.names,y.2 = .local -> scope.names.lookup y.1 = some .local
 cap : ∀ x ∈ cap,scope.names.lookup x ≠ some .local
def zd4 (X : Cx) (ix : List Nat) : List Str := ix.map fun i => X.N.getD i ""
def zd3 (k : Nat) (ix : List Nat) (σ : St) : St := List.replicate k none ++ ix.map fun i => (σ[i]?).getD none
end L2
namespace L2
open PySem PySem.Spec PyProof.Rows
section
variable {prog : Program} {w : World} {A : Around} {R : Result -> Shared -> Prop} {s : Shared}
theorem zg4 {elt target iter : Expr} {ifs : List Expr} {scope : Scope} {pos : Pos} {it acc : Value} {env : Env} (I : Nat -> Shared -> Prop)
  (turn : ∀ n s,I n s -> wpAny (model prog w) A (pyNext it) (fun r s₁ => match r with
   | none => R (.ok .next) s₁
   | some v => wpAny (model prog w) A (letOwnedTupleGo target it v) (fun _ s₀ => wpAny (model prog w) A (assign target env v) (fun _ s₂ =>
     wpAny (model prog w) A (forIn ifs true fun c r => if r = true then do let ok <- isTrue c env (eval c env); pure (ForInStep.yield ok) else pure (ForInStep.yield r)) (fun ok s₃ =>
      if ok = true then wpAny (model prog w) A (eval elt env) (fun x s₄ =>
       wpAny (model prog w) A (call (.builtin "list.append") [acc,x]) (fun _ s₅ => ∃ m,m < n /\ I m s₅) (notedBy (model prog w) A env fun e s' => R (.error e) s') s₄) (notedBy (model prog w) A env fun e s' => R (.error e) s') s₃
      else ∃ m,m < n /\ I m s₃) (notedBy (model prog w) A env fun e s' => R (.error e) s') s₂) (notedBy (model prog w) A env fun e s' => R (.error e) s') s₀) (notedBy (model prog w) A env fun e s' => R (.error e) s') s₁) (notedBy (model prog w) A env fun e s' => R (.error e) s') s)
  (n : Nat) (h : I n s) :
  codeAny (model prog w) A (.compLoop (.ListComp elt [⟨target,iter,ifs,0⟩] scope pos) 0 it acc env) R s:=by
 refine codeAny_loop rfl I (fun n s hI => ?_) n h
 show wpAny _ A ((compTurn (.ListComp elt [⟨target,iter,ifs,0⟩] scope pos) 0 it acc env).onRaise (fun x => do noteFrame x env; theTreesLotGoes x)) _ _ s
 refine wpAny_noted ?_
 rw [compTurn_list]
 refine wpAny_bind (wpAny_standAt (wpAny_bind (wpAny_mono (turn n s hI) (fun r s₁ h₁ => ?_) fun _ _ h' => h')))
 cases r with
 | none => exact wpAny_pure h₁
 | some v =>
  refine wpAny_bind (wpAny_mono h₁ (fun _ s₀ h₀ => ?_) fun _ _ h' => h')
  refine wpAny_bind (wpAny_mono h₀ (fun _ s₂ h₂ => wpAny_bind (wpAny_mono h₂ (fun ok s₃ h₃ => ?_) fun _ _ h' => h')) fun _ _ h' => h')
  cases ok with
  | false => exact wpAny_pure ⟨rfl,h₃⟩
  | true =>
   exact wpAny_bind (wpAny_bind (wpAny_mono h₃ (fun x s₄ h₄ => wpAny_bind (wpAny_mono h₄ (fun _ s₅ h₅ => wpAny_pure (wpAny_pure ⟨rfl,h₅⟩)) fun _ _ h' => h')) fun _ _ h' => h'))
end
def PTs (X : Cx) (ifs : List Expr) (t : TT) : Prop :=
 ∀ (pins : List (Addr × Obj)) (s : Shared) (σ : St) (H : Hp) (Q : Bool -> Hp -> Prop),Inv X pins σ H s -> t σ H Q ->
  wpAny (model X.prog X.w) X.A (forIn ifs true fun c r => if r = true then do let ok <- isTrue c X.env (eval c X.env); pure (ForInStep.yield ok) else pure (ForInStep.yield r)) (TP X pins σ Q) X.xe s
def zvi : TT := fun _ H Q => Q true H
theorem zqR {X : Cx} : PTs X [] zvi := fun _ _ _ H _ I h => wpAny_tests_nil ⟨H,I,h⟩
theorem zqQ {X : Cx} {c : Expr} {t : TT} (hc : PT X c t) : PTs X [c] t := fun pins s σ H Q I h => wpAny_tests_one (hc pins s σ H Q I h)
def zkU (k : Nat) (g : TG) : Prop := ∀ x σ H Q,g x σ H Q -> g x σ H fun σ2 H2 => (σ2.length = σ.length /\ ∀ i : Nat,k <= i -> σ2[i]? = σ[i]?) /\ Q σ2 H2
def zlS (k : Nat) (ix : List Nat) (wi : TI) (g : TG) (tc : TT) (te : TE) : TE := fun σ H Q => wi σ H fun J H1 => ∀ l,H1 l = none ->
 ∃ W : Nat -> Nat -> List V -> Hp -> Prop,(∃ m,W 0 m [] (upd H1 l (.lst []))) /\ ∀ i m ys H2,W i m ys H2 -> H2 l = some (.lst ys) /\
  ((J.stop i H2 /\ Q (.ref l) H2) \/ (J.go i H2 /\ ∀ x H3,J.yld i H2 x H3 -> g x (zd3 k ix σ) H3 fun σ2 H4 => tc σ2 H4 fun b H5 =>
   if b = true then te σ2 H5 fun v H6 => H6 l = some (.lst ys) /\ ys.length < sizeLine /\ ∃ m',m' < m /\ W (i + 1) m' (ys ++ [v]) (upd H6 l (.lst (ys ++ [v]))) else ∃ m',m' < m /\ W (i + 1) m' ys H5))
end L2
namespace L2
open PySem PySem.Spec PyProof.Rows
def Fl (h : Heap) (e : Addr) (cls : Value) (dd : Option Addr) (T : Addr) (fl : Value) : Prop :=
 ∃ oe vs oT ts,h.get? e = some oe /\ oe.cls = cls /\ oe.dict = dd /\ oe.data = .fields vs /\ vs[1]? = some (.ref T) /\ T ≠ e /\ h.get? T = some oT /\ oT.data = .fields ts /\ ts[3]? = some fl
end L2
namespace L2
open PySem PySem.Spec PyProof.Rows
theorem zbu.some {P : Program} {w : World} {H : Hp} {h : Heap} {a : Addr} {o : HO} (x : zbu P w H h a o) : ∃ ob,h.get? a = some ob:=by
 cases o with
 | lst xs => obtain ⟨_,_,_,_,e⟩ := x; exact ⟨_,e⟩
 | tup xs => obtain ⟨_,_,_,ob,e,_⟩ := x; exact ⟨_,e⟩
 | dK kvs => obtain ⟨_,_,_,_,ob,_,_,e,_⟩ := x; exact ⟨_,e⟩
 | dT kvs => obtain ⟨_,_,_,_,ob,_,_,e,_⟩ := x; exact ⟨_,e⟩
 | set S n => obtain ⟨ob,_,_,_,e,_⟩ := x; exact ⟨_,e⟩
 | ins C dx fs => obtain ⟨_,_,_,e,_⟩ := x; exact ⟨_,e⟩
 | own y => exact x
 | xd fs => obtain ⟨_,⟨od,_,_,e,_⟩,_⟩ := x; exact ⟨_,e⟩
 | met f y => exact ⟨_,x⟩
 | rng lo hi => obtain ⟨_,_,_,e⟩ := x; exact ⟨_,e⟩
 | frz ob u => exact ⟨_,x.1⟩
 | tbl ps => exact ⟨_,x⟩
 | ext φ => exact x.2.1
def CXe (P : Program) (w : World) : CXT := fun outer H s E ev s' => ∃ (e : Addr) (cls : Value) (dd : Option Addr) (T : Addr) (H' : Hp),ev = .ref e /\ s'.os = s.os /\ AllBare s'.gens /\ Un (frs outer) [] H H' s.heap s'.heap /\ HOk P w H' s'.heap /\
 Fl s'.heap e cls dd T .none /\ H' e = none /\ H' T = none /\ s.heap.get? e = none /\ s.heap.get? T = none /\ E cls dd H'
theorem zap {P : Program} {w : World} {X : Cx} : Passes (CXe P w) X E0 := fun _ _ _ _ _ _ _ ⟨_,_,_,_,_,_,_,_,_,_,_,_,_,_,_,q⟩ => q.elim
section
variable {P : Program} {w : World} {K : PySem.W.Frag} {mg : Str -> Option Value} {base : Heap} {N : List Str} {qual : Str} {scope : Scope} {f : Addr} {cd : Value} {A : Around} {outer : List Env} {s : Shared} {H : Hp} {E : XK}
theorem Fun.okE {x : Str} {st : Stmt} {fd : FuncData} {ps : List Str} {k : Nat} {sp : Sp} (F : Fun K x qual st f fd) (S : zaz N ps (zao st)) (len : ∀ vs H Q E,sp vs H Q E -> vs.length = ps.length)
  (hbody : ∀ (cdv : Value) (A : Around) (outer : List Env) (s : Shared) (H : Hp) (vs : List V) (Q : VK) (E : XK),zdT k (A.deeper (envOfC qual (zao st) s.heap.objs.size f cdv)) -> sp vs H Q E ->
   ∃ t,PSs (zqo (CXe P w) P w K mg base N qual (zao st) f cdv A outer s H E) (zcy st) t /\ t { nx := fun _ H' => Q .non H',rt := Q } (start N vs) H) : zie P w K mg base (CXe P w) (k + 1) f fd ps sp:=by
 obtain ⟨oc,od,kV,doc,pm,an,cdv,ct,osl,rfl,lk,hcd⟩ := F.ex
 exact zuA lk hcd S len fun A outer s H vs Q E hr hsp => hbody cdv A outer s H vs Q E hr hsp
end
end L2
namespace L2
open PySem PySem.Spec PyProof.Rows
def Nw (X : Cx) (pins : List (Addr × Obj)) (b : Addr) : Prop :=
 X.s₀.heap.get? b = none /\ b ≠ X.env.locals /\ b ∉ X.fs /\ (∀ x c,X.env.cells.lookup x = some c -> c ≠ b) /\ ∀ p ∈ X.pn ++ pins,p.1 ≠ b
def XP (X : Cx) (pins : List (Addr × Obj)) (σ : St) (E : XK) (ev : Value) (s' : Shared) : Prop :=
 ∃ (e : Addr) (cls : Value) (dd : Option Addr) (T : Addr) (H' : Hp),ev = .ref e /\ Inv X pins σ H' s' /\ Fl s'.heap e cls dd T .none /\ H' e = none /\ H' T = none /\ Nw X pins e /\ Nw X pins T /\ E cls dd H'
abbrev TSX := Ends -> (St -> XK) -> St -> Hp -> Prop
structure zu6 (K : PySem.W.Frag) (C : Addr) : Prop where
 ty : PySem.W.typeIn K (.ref C) = some (.type "type")
 cl : (PySem.W.clsIn K C).isSome = true
 be : PySem.W.subIn K (.ref C) (.type "BaseException") = some true
end L2
namespace L2
open PySem PySem.Spec PyProof.Rows
end L2
namespace L2
open PySem PySem.Spec PyProof.Rows
structure zvQ (K : PySem.W.Frag) (D : Addr) : Prop where
 ga : PySem.W.findIn K (.ref D) "__getattribute__" = some (some (.builtin "BaseException.__getattribute__"))
 gn : PySem.W.findIn K (.ref D) "__getattr__" = some none
 cl : PySem.W.findIn K (.ref D) "__class__" = some (some (.builtin "object.__class__"))
 be : PySem.W.subIn K (.ref D) (.type "BaseException") = some true
 ob : PySem.W.mroIn K D (.type "object") = some true
 is : (PySem.W.clsIn K D).isSome = true
end L2
namespace L2
open PySem PySem.Spec PyProof.Rows
def Has (K : PySem.W.Frag) (mg : Str -> Option Value) (x : Str) (st : Stmt) : Prop := ∃ (f : Addr) (fd : FuncData),mg x = some (.ref f) /\ Fun K x x st f fd
def Callee (P : Program) (w : World) (K : PySem.W.Frag) (mg : Str -> Option Value) (base : Heap) (x : Str) (k : Nat) (ps : List Str) (sp : Sp) : Prop :=
 ∃ (f : Addr) (fd : FuncData),mg x = some (.ref f) /\ PySem.W.keepIn K (.ref f) = true /\ Binds K fd ps [] /\ zie P w K mg base (CXe P w) k f fd ps sp
section
variable {X : Cx} {k j : Nat} {ps : List Str} {sp : Sp} {E : XK} {x : Str} {p pos : Pos} {e : Expr} {es : List Expr} {t : TA}
theorem zeP (c : Callee X.prog X.w X.K X.mg X.base x k ps sp) (hr : zdT j X.A) (hg : Gl X x) (hx : Passes (CXe X.prog X.w) X E) (ha : PA X (e :: es) t) (hj : k <= j := by decide) (hdb : (x == ("__debug__" : Str)) = false := by decide)
  (he : starEach (e :: es) X.env = (false,eval e X.env) :: starEach es X.env := by rfl) (hpl : (backTo pos (starEach es X.env)).any (·.1) = false := by rfl) : PE X (.Call (.Name x p) (e :: es) [] pos) (zqD sp [] E t):=by
 obtain ⟨f,fd,hm,hk,hb,F⟩ := c
 exact zq7 F (hr.mono hj) hg hm hk hb .nil hx ha hdb he hpl
end
end L2
namespace L2
open PySem PySem.Spec PyProof.Rows
end L2
namespace L2
open PySem PySem.Spec PyProof.Rows
theorem nd {M : List Str} (h : M.Nodup) : M.Nodup := h
end L2
namespace L2
open PySem PySem.Spec PyProof.Rows
theorem zaY.upd {H : Hp} {l : Addr} {o : HO} (h : H l = none) : zaY H (upd H l o) := fun b u e => by rw [zay (zbQ e h)]; exact e
end L2
namespace L2
open PySem PySem.Spec PyProof.Rows
end L2
namespace L2
open PySem PySem.Spec PyProof.Rows
end L2
namespace L2
open PySem PySem.Spec PyProof.Rows
section
variable {X : Cx} {pins : List (Addr × Obj)} {σ : List (Option V)} {H H' : Hp} {s : Shared} {h' : Heap}
theorem Inv.zgo {t' : Nat} {fp : List Addr} (I : Inv X pins σ H s) (k : ∀ b o,b ∉ fp -> s.heap.get? b = some o -> h'.get? b = some o) (hf : ∀ b ∈ fp,zhn X pins H b) : Inv X pins σ H { s with heap := h',toks := t' }:=by
 have nit : ∀ b u,H b = some u -> b ∉ fp := fun b u e z => by
  have := (hf b z).1
  rw [e] at this
  cases this
 have hL : X.env.locals ∉ fp := fun z => (hf _ z).2.1 rfl
 refine I.step (g' := s.gens) (d' := s.drawn) (ch:=fp) (fun b hb => ?_) (fun b o _ _ hc e _ => k b o hc e) (fun b o _ _ hc e _ => ⟨o.slots,k b o hc e⟩) (fun _ _ _ _ n => n)
  (fun b o hc e => ⟨o,k b o hc e⟩) (fun _ _ e => e) (fun _ _ _ e => e) (fun b ps e => ⟨#[],by rw [e]; simp⟩) (fun m hm => ?_) (fun b u e => ?_) I.bare
 ·obtain ⟨_,h1,_,h3,h4,h5⟩ := hf b hb
  exact ⟨h3,h1,h4,h5⟩
 ·obtain ⟨o,es,ep,ho,r⟩ := hm
  exact ⟨o,es,ep,k _ o hL ho,r⟩
 ·refine (I.hok b u e).stay (fun c v hc q => k c v ?_ q) (fun _ q => q) fun _ _ q => q
  rcases hc with z | z
  ·rw [z]; exact nit b u e
  ·exact nit c _ z
theorem Inv.zmw {t' : Nat} {fp : List Addr} {xs : List V} {us : List Value} {n : Nat} (I : Inv X pins σ H s) (k : ∀ b o,b ∉ fp -> s.heap.get? b = some o -> h'.get? b = some o) (hf : ∀ b ∈ fp,zhn X pins H b) (hfp : ∀ b ∈ fp,b < s.heap.objs.size)
  (ht : h'.get? s.heap.objs.size = some { cls := .type "tuple",data := .seq us.toArray n }) (r : Vals xs us) (hz : xs.length <= sizeLine) :
  Inv X pins σ (upd H s.heap.objs.size (.tup xs)) { s with heap := h',toks := t' }:=by
 have I1 : Inv X pins σ (upd H s.heap.objs.size (.tup xs)) { s with heap := s.heap.push { cls := .type "tuple",data := .seq us.toArray n },toks := s.toks } :=
  I.laid (t' := s.toks) (fun b u e => Heap.get?_push_of_some _ e) (Nat.le_refl _) ⟨hz,us,r,⟨_,Heap.get?_push_size _ rfl,rfl,_,rfl⟩⟩
 refine Inv.zgo (s:={ s with heap := s.heap.push { cls := .type "tuple",data := .seq us.toArray n },toks := s.toks }) (t' := t') (fp:=fp) I1 (fun b o hb e => ?_) fun b hb => ⟨by rw [zay (Nat.ne_of_lt (hfp b hb))]; exact (hf b hb).1,(hf b hb).2⟩
 by_cases hbs : b = s.heap.objs.size
 ·subst hbs
  have e' : (s.heap.push { cls := .type "tuple",data := .seq us.toArray n }).get? s.heap.objs.size = some o := e
  rw [Heap.get?_push_size _ rfl] at e'
  cases e'
  exact ht
 ·refine k b o hb ?_
  have e' : (s.heap.push { cls := .type "tuple",data := .seq us.toArray n }).get? b = some o := e
  have lt : b < (s.heap.push { cls := .type "tuple",data := .seq us.toArray n }).objs.size := Heap.lt_size e'
  rw [Heap.size_push] at lt
  have lt' : b < s.heap.objs.size := Nat.lt_of_le_of_ne (Nat.le_of_lt_succ lt) hbs
  unfold Heap.get? at e' ⊢
  unfold Heap.push at e'
  simp only at e'
  rw [Array.getElem?_push_lt lt'] at e'
  rw [Array.getElem?_eq_getElem lt']
  exact e'
end
def Itz (K : PySem.W.Frag) (a b : Addr) : It :=
 ⟨fun i H => ∃ xs ys x y,SqL K H a xs /\ SqL K H b ys /\ xs[i]? = some x /\ ys[i]? = some y,
  fun i H x H' => ∃ t u v,x = .ref t /\ H t = none /\ H' = upd H t (.tup [u,v]) /\ (∀ xs,SqL K H a xs -> xs[i]? = some u) /\ ∀ ys,SqL K H b ys -> ys[i]? = some v,
  fun i H => ∃ xs ys,SqL K H a xs /\ SqL K H b ys /\ (xs.length <= i \/ ys.length <= i)⟩
def tnZ (z TI TO i1 i2 a b : Addr) (i : Nat) (h : Heap) : Prop := IsZip h z TI TO .none /\ IsPair h TI (.ref i1) (.ref i2) /\ (∃ u v,IsPair h TO u v) /\ h.IsListIter i1 a i /\ h.IsListIter i2 b i
theorem ztz {P : Program} {w : World} {K : PySem.W.Frag} {es : List Expr} {k : Nat} {pos : Pos} (z TI TO i1 i2 a b : Addr) (D : ZipApart z TI TO i1 i2 a b) : Turn P w K (.Tuple es k pos) (Itz K a b) [z,TI,TO,i1,i2] z (tnZ z TI TO i1 i2 a b) where
 mem := by simp
 obj := fun i h st c hc => by
  obtain ⟨h1,h2,⟨u,v,h3⟩,⟨o4,h4,_,d4⟩,⟨o5,h5,_,d5⟩⟩ := st
  simp only [List.mem_cons,List.not_mem_nil,or_false] at hc
  rcases hc with rfl | rfl | rfl | rfl | rfl
  ·exact ⟨_,h1,fun v z => by cases z⟩
  ·exact ⟨_,h2,fun v z => by cases z⟩
  ·exact ⟨_,h3,fun v z => by cases z⟩
  ·exact ⟨_,h4,fun v z => by rw [d4] at z; cases z⟩
  ·exact ⟨_,h5,fun v z => by rw [d5] at z; cases z⟩
 keep := fun i h h' st k => by
  obtain ⟨h1,h2,⟨u,v,h3⟩,h4,h5⟩ := st
  exact ⟨k _ (by simp) _ h1,k _ (by simp) _ h2,⟨u,v,k _ (by simp) _ h3⟩,h4.at fun o e => k _ (by simp) o e,h5.at fun o e => k _ (by simp) o e⟩
 item:=by
  intro X hP hw hK hc i pins s σ H E I hf st hg
  subst hP hw hK
  obtain ⟨xs,ys,x,y,hqx,hqy,hx,hy⟩ := hg
  obtain ⟨itx,rvx,px,_⟩ := I.list hqx
  obtain ⟨ity,rvy,py,_⟩ := I.list hqy
  obtain ⟨ux,hux,rux⟩ := rvx.get hx
  obtain ⟨uy,huy,ruy⟩ := rvy.get hy
  obtain ⟨h1,h2,⟨u,v,h3⟩,h4,h5⟩ := id st
  have lts : ∀ c ∈ [z,TI,TO,i1,i2],c < s.heap.objs.size := fun c hc => by
   obtain ⟨o4,e4,_⟩ := id h4
   obtain ⟨o5,e5,_⟩ := id h5
   simp only [List.mem_cons,List.not_mem_nil,or_false] at hc
   rcases hc with rfl | rfl | rfl | rfl | rfl
   ·exact Heap.lt_size h1
   ·exact Heap.lt_size h2
   ·exact Heap.lt_size h3
   ·exact Heap.lt_size e4
   ·exact Heap.lt_size e5
  refine wpAny_pyNext_zip_item D h1 h2 h3 h4 h5 px.isList py.isList (by simpa using hux) (by simpa using huy) fun h' a1 a2 a3 a4 a5 a6 hk => ?_
  refine ⟨_,rfl,wpAny_letOwnedTupleGo_zip a1 fun h'' b1 sb => ?_⟩
  have zlt := lts z (by simp)
  have k2 : ∀ c o,c ∉ [z,TI,TO,i1,i2] -> s.heap.get? c = some o -> h''.get? c = some o := fun c o hc e => by
   simp only [List.mem_cons,List.not_mem_nil,or_false,not_or] at hc
   exact sb.extBut c o hc.1 (hk c o hc.1 hc.2.2.1 hc.2.2.2.1 hc.2.2.2.2 e)
  have ht : h''.get? s.heap.objs.size = some { cls := .type "tuple",data := .seq #[ux,uy] } := sb.extBut _ _ (Nat.ne_of_gt zlt) a5
  refine ⟨.ref s.heap.objs.size,_,Inv.zmw (s:=s) (h' := h'') (t' := s.toks) (fp:=[z,TI,TO,i1,i2]) I (xs:=[x,y]) (us:=[ux,uy]) k2 hf lts ht (.cons rux (.cons ruy .nil)) (by rw [sizeLine_eq]; show 2 <= 16777216; decide),rfl,
   ⟨_,x,y,rfl,I.hok.fresh (Nat.le_refl _),rfl,fun zs hz => by rw [I.zga hz hqx]; exact hx,fun zs hz => by rw [I.zga hz hqy]; exact hy⟩,?_,fun c hc => ?_⟩
  ·exact ⟨b1,sb.extBut _ _ D.TIz (hk _ _ D.TIz D.TITO D.TIi1 D.TIi2 h2),⟨_,_,sb.extBut _ _ D.TOz a2⟩,a3.extBut sb.extBut D.i1z,a4.extBut sb.extBut D.i2z⟩
  ·rw [zay (Nat.ne_of_lt (lts c hc))]
   exact (hf c hc).1
 done:=by
  intro X hP hw hK hc i pins s σ H E I hf st hg
  subst hP hw hK
  obtain ⟨xs,ys,hqx,hqy,hend⟩ := hg
  obtain ⟨itx,rvx,px,_⟩ := I.list hqx
  obtain ⟨ity,rvy,py,_⟩ := I.list hqy
  obtain ⟨h1,h2,⟨u,v,h3⟩,h4,h5⟩ := id st
  have lx := rvx.length
  have ly := rvy.length
  refine wpAny_pyNext_zip_end (I.ok.hd hc) D h1 h2 h3 h4 h5 px.isList py.isList ?_ fun h' hk => ⟨rfl,I.zgo (t' := s.toks) (fun c o hc e => ?_) hf⟩
  ·rcases hend with h | h
   ·exact .inl (by simp; omega)
   ·exact .inr (by simp; omega)
  ·simp only [List.mem_cons,List.not_mem_nil,or_false,not_or] at hc
   exact hk c o hc.1 hc.2.2.1 hc.2.2.2.1 hc.2.2.2.2 e
 self := fun _ _ _ _ _ st h => wpAny_pyIter_zip st.1 h
def Ite (K : PySem.W.Frag) (a : Addr) : It :=
 ⟨fun i H => ∃ xs x,SqL K H a xs /\ xs[i]? = some x,fun i H x H' => ∃ t v,x = .ref t /\ H t = none /\ H' = upd H t (.tup [.int i,v]) /\ ∀ xs,SqL K H a xs -> xs[i]? = some v,fun i H => ∃ xs,SqL K H a xs /\ xs.length <= i⟩
theorem zmy {P : Program} {w : World} {K : PySem.W.Frag} {es : List Expr} {k : Nat} {pos : Pos} (e it a : Addr) (hne : e ≠ it) : Turn P w K (.Tuple es k pos) (Ite K a) [e,it] e (fun i h => (∃ old,IsEnum h e it i old) /\ h.IsListIter it a i) where
 mem := by simp
 obj := fun i h st c hc => by
  obtain ⟨⟨old,h1⟩,⟨o4,h4,_,d4⟩⟩ := st
  simp only [List.mem_cons,List.not_mem_nil,or_false] at hc
  rcases hc with rfl | rfl
  ·exact ⟨_,h1,fun v z => by cases z⟩
  ·exact ⟨_,h4,fun v z => by rw [d4] at z; cases z⟩
 keep := fun i h h' st k => by
  obtain ⟨⟨old,h1⟩,h4⟩ := st
  exact ⟨⟨old,k _ (by simp) _ h1⟩,h4.at fun o e => k _ (by simp) o e⟩
 item:=by
  intro X hP hw hK hc i pins s σ H E I hf st hg
  subst hP hw hK
  obtain ⟨xs,x,hqx,hx⟩ := hg
  obtain ⟨itx,rvx,px,_⟩ := I.list hqx
  obtain ⟨ux,hux,rux⟩ := rvx.get hx
  obtain ⟨⟨old,h1⟩,h4⟩ := id st
  have lts : ∀ c ∈ [e,it],c < s.heap.objs.size := fun c hc => by
   obtain ⟨o4,e4,_⟩ := id h4
   simp only [List.mem_cons,List.not_mem_nil,or_false] at hc
   rcases hc with rfl | rfl
   ·exact Heap.lt_size h1
   ·exact Heap.lt_size e4
  refine wpAny_pyNext_enum_item h1 h4 px.isList (by simpa using hux) hne fun h' a1 a3 a5 a6 hk => ?_
  refine ⟨_,rfl,wpAny_letOwnedTupleGo_enum a1 fun h'' b1 sb => ?_⟩
  have zlt := lts e (by simp)
  have k2 : ∀ c o,c ∉ [e,it] -> s.heap.get? c = some o -> h''.get? c = some o := fun c o hc g => by
   simp only [List.mem_cons,List.not_mem_nil,or_false,not_or] at hc
   exact sb.extBut c o hc.1 (hk c o hc.1 hc.2 g)
  have ht : h''.get? s.heap.objs.size = some { cls := .type "tuple",data := .seq #[.int i s.toks,ux] } := sb.extBut _ _ (Nat.ne_of_gt zlt) a5
  refine ⟨.ref s.heap.objs.size,_,Inv.zmw (s:=s) (h' := h'') (t' := s.toks + 1) (fp:=[e,it]) I (xs:=[.int i,x]) (us:=[.int i s.toks,ux]) k2 hf lts ht (.cons ⟨_,rfl⟩ (.cons rux .nil)) (by rw [sizeLine_eq]; show 2 <= 16777216; decide),rfl,
   ⟨_,x,rfl,I.hok.fresh (Nat.le_refl _),rfl,fun zs hz => by rw [I.zga hz hqx]; exact hx⟩,?_,fun c hc => ?_⟩
  ·exact ⟨⟨_,b1⟩,a3.extBut sb.extBut (Ne.symm hne)⟩
  ·rw [zay (Nat.ne_of_lt (lts c hc))]
   exact (hf c hc).1
 done:=by
  intro X hP hw hK hc i pins s σ H E I hf st hg
  subst hP hw hK
  obtain ⟨xs,hqx,hend⟩ := hg
  obtain ⟨itx,rvx,px,_⟩ := I.list hqx
  obtain ⟨⟨old,h1⟩,h4⟩ := id st
  have lx := rvx.length
  refine wpAny_pyNext_enum_end (I.ok.hd hc) h1 h4 px.isList (by simp; omega) fun h' hk => ⟨rfl,I.zgo (t' := s.toks) (fun c o hc g => ?_) hf⟩
  simp only [List.mem_cons,List.not_mem_nil,or_false,not_or] at hc
  exact hk c o hc.2 g
 self := fun _ _ _ _ _ st h => by
  obtain ⟨⟨old,h1⟩,_⟩ := st
  exact wpAny_pyIter_enum h1 h
section
variable {X : Cx}
def zuv (K : PySem.W.Frag) (ta : TA) : TI := fun σ H R => ta σ H fun vs H1 => ∃ a,vs = [.ref a] /\ (∃ xs,SqL K H1 a xs) /\ R (Ite K a) H1
theorem zq3 {es : List Expr} {k : Nat} {p0 : Pos} {a : Expr} {ta : TA} {p pos : Pos} (hg : Gl X "enumerate") (hm : X.mg "enumerate" = none) (ha : PA X [a] ta) (hs : starEach [a] X.env = [(false,eval a X.env)] := by rfl) :
  PI X (.Tuple es k p0) (.Call (.Name "enumerate" p) [a] [] pos) (zuv X.K ta):=by
 intro pins s σ H R I h
 refine Call_ (zhT I hg hm (by decide +kernel : bootBuiltins "enumerate" = some (.type "enumerate")) (PyProof.Rows.callWith_type1 (thn (ha pos pins s σ H _ I h) fun us s1 ⟨vs,H1,I1,r1,q1⟩ => ?_) hs rfl))
 obtain ⟨l1,e,⟨xs,hx⟩,q⟩ := q1
 subst e
 cases r1 with
 | cons r rr =>
  cases rr
  cases r
  obtain ⟨itx,rvx,px,_⟩ := I1.list hx
  refine call_enumerate_list px.isList fun h' g1 g4 g6 hk => ?_
  refine wpAny_pyIter_enum g1 ⟨_,[s1.heap.objs.size + 1,s1.heap.objs.size],_,_,H1,rfl,I1.kept (t' := s1.toks) hk,zmy _ _ l1 (Nat.succ_ne_self _),⟨⟨_,g1⟩,g4⟩,fun c hc => ?_,q⟩
  have hc' : s1.heap.objs.size <= c:=by
   simp only [List.mem_cons,List.not_mem_nil,or_false] at hc
   rcases hc with rfl | rfl <;> first | exact Nat.le_add_right _ _ | exact Nat.le_refl _
  exact I1.zow hc' (I1.hok.fresh hc')
theorem zpR {bs : List Bool} : ∀ {us : List Value},Vals (bs.map V.bl) us -> us = bs.map Value.bool:=by
 induction bs with
 | nil => intro us h; cases h; rfl
 | cons b r ih =>
  intro us h
  cases h with
  | cons h1 h2 =>
   have := ih h2
   cases h1
   rw [this]
   rfl
theorem zpO (hc : X.calm = true) : zd6 X (.builtin "all") (fun xs H Q => ∃ (a : Addr) (bs : List Bool),xs = [.ref a] /\ SqL X.K H a (bs.map V.bl) /\ Q (.bl (bs.all id)) H):=by
 intro pins s σ H xs us Q I r h
 obtain ⟨a,bs,rfl,hq,q⟩ := h
 obtain ⟨u,rfl,rx⟩ := vals1 r
 cases rx
 obtain ⟨its,rv,p,hz⟩ := I.list hq
 have e := zpR rv
 subst e
 have hne : a ≠ s.heap.objs.size:=by
  obtain ⟨o,eo,_⟩ := p.isList
  exact Nat.ne_of_lt (Heap.lt_size eo)
 have W := Walks.list (prog:=X.prog) (w:=X.w) (A:=X.A.in1) (show X.A.in1.handled = none from I.ok.hd hc) s.heap.objs.size a hne (bs.map Value.bool).toArray
 refine call_all_walk (wpAny_pyIter_list p.isList ⟨_,_,_,_,_,_,fun i => bs.getD i true,rfl,W,⟨⟨_,Heap.get?_push_size _ rfl,rfl,rfl⟩,p.isList.push _⟩,?_,fun h' tk hk => ⟨.bl (bs.all id),H,?_,?_,q⟩⟩)
 ·intro i v s' Q' E' hP hQ
  have hP' : (bs.map Value.bool)[i]? = some v := by simpa using hP
  rw [List.getElem?_map] at hP'
  cases e : bs[i]? with
  | none => rw [e] at hP'; cases hP'
  | some b =>
   rw [e] at hP'
   cases hP'
   have : bs.getD i true = b := by simp [List.getD,e]
   have hQ2 : Q' (bs.getD i true) s' := hQ
   rw [this] at hQ2
   exact wpAny_pure hQ2
 ·refine Inv.zgo (s:={ s with heap := s.heap.push { cls := .type "list_iterator",data := .fields #[.ref a,.int 0 0] },toks := s.toks }) (t' := tk) (fp:=[s.heap.objs.size]) (I.kept (t' := s.toks) fun b o e => Heap.get?_push_of_some _ e) (fun b o hb e => hk b o hb e) fun b hb => ?_
  have e : b = s.heap.objs.size := by simpa using hb
  subst e
  exact I.zow (Nat.le_refl _) (I.hok.fresh (Nat.le_refl _))
 ·show Value.bool _ = Value.bool _
  congr 1
  simp only [List.size_toArray,List.length_map]
  rw [Bool.eq_iff_iff,List.all_eq_true,List.all_eq_true]
  constructor
  ·intro h b hb
   obtain ⟨i,hi,e⟩ := List.getElem_of_mem hb
   have := h i (List.mem_range.mpr hi)
   simpa [List.getD,hi,e] using this
  ·intro h i hi
   have hi' := List.mem_range.mp hi
   have := h bs[i] (List.getElem_mem hi')
   simpa [List.getD,hi'] using this
end
end L2
namespace L2
open PySem PySem.Spec PyProof.Rows
theorem zg7 : ∀ (names : List (Str × NameKind)) (n : Nat) (acc : List (Str × Addr)),cellsFrom n names acc = cellsFrom n names [] ++ acc
 | [],n,acc => rfl
 | (x,k) :: r,n,acc => by
  unfold cellsFrom
  split
  ·rw [zg7 r (n + 1) ((x,n) :: acc),zg7 r (n + 1) [(x,n)]]
   simp
  ·exact zg7 r n acc
theorem zi0 : ∀ (names : List (Str × NameKind)) (n : Nat) (p : Str × Addr),p ∈ cellsFrom n names [] -> (p.1,NameKind.cell) ∈ names
 | [],n,p,h => nomatch h
 | (x,k) :: r,n,p,h => by
  unfold cellsFrom at h
  split at h
  ·rename_i hk
   rw [zg7] at h
   rcases List.mem_append.mp h with h | h
   ·exact List.mem_cons_of_mem _ (zi0 r _ p h)
   ·have e : p = (x,n) := by simpa using h
    have hk' : k = .cell := by simpa using hk
    subst e hk'
    exact List.mem_cons_self ..
  ·exact List.mem_cons_of_mem _ (zi0 r _ p h)
theorem zn4 {x : Str} : ∀ (names : List (Str × NameKind)) (n : Nat),(x,NameKind.cell) ∈ names -> ∃ c,(x,c) ∈ cellsFrom n names []
 | (y,k) :: r,n,h => by
  unfold cellsFrom
  rcases List.mem_cons.mp h with e | h
  ·cases e
   rw [if_pos (by rfl),zg7]
   exact ⟨n,List.mem_append_right _ (List.mem_singleton.mpr rfl)⟩
  ·split
   ·obtain ⟨c,hc⟩ := zn4 r (n + 1) h
    exact ⟨c,by rw [zg7]; exact List.mem_append_left _ hc⟩
   ·exact zn4 r n h
theorem zhS {α : Type} {x : Str} {c : α} : ∀ {l m : List (Str × α)},(l ++ m).lookup x = some c -> l.lookup x = some c \/ (l.lookup x = none /\ m.lookup x = some c)
 | [],m,h => .inr ⟨rfl,h⟩
 | (y,b) :: r,m,h => by
  rw [List.cons_append,List.lookup_cons] at h
  rw [List.lookup_cons]
  split at h
  ·exact .inl h
  ·exact zhS h
theorem zd9 {α : Type} {x : Str} {c : α} : ∀ {l m : List (Str × α)},m.lookup x = some c -> ∃ d,(l ++ m).lookup x = some d
 | [],m,h => ⟨c,h⟩
 | (y,b) :: r,m,h => by
  rw [List.cons_append,List.lookup_cons]
  split
  ·exact ⟨_,rfl⟩
  ·exact zd9 h
theorem zdt {α : Type} {x : Str} : ∀ {l m : List (Str × α)},l.lookup x = none -> (l ++ m).lookup x = m.lookup x
 | [],m,h => rfl
 | (y,b) :: r,m,h => by
  rw [List.lookup_cons] at h
  rw [List.cons_append,List.lookup_cons]
  split at h
  ·cases h
  ·exact zdt h
theorem zd8 {α : Type} {x : Str} : ∀ {l : List (Str × α)},(∀ p ∈ l,p.1 ≠ x) -> l.lookup x = none
 | [],_ => rfl
 | (y,b) :: r,h => by
  rw [List.lookup_cons]
  have : (x == y) = false:=by
   have := h (y,b) (List.mem_cons_self ..)
   simpa using fun e => this e.symm
  rw [this]
  exact zd8 fun p hp => h p (List.mem_cons_of_mem _ hp)
def zjs (C : Addr) (scope : Scope) : List (Str × Addr) := cellsFrom (C + 1) scope.names []
def zaA (X : Cx) (M : List Str) (scope : Scope) (C : Addr) (s₃ : Shared) (H₃ : Hp) (fp : List Addr) : Cx :=
 { X with N := M,s₀ := s₃,H₀ := H₃,env := compEnvC scope (zjs C scope ++ zg6 X.env.cells scope.names []) C X.env,outer := X.stack,stack := X.stack,ex := fp,fn := fun x => scope.names.contains (x,NameKind.cell),pn := [],xe := fun _ _ => False }
structure zd0 (X : Cx) (scope : Scope) (cap : List Str) : Prop where
 kind : scope.kind = .function
 cell : ∀ y ∈ scope.names,y.2 = .free -> X.env.kindOf y.1 = some .cell
 loc : ∀ y ∈ scope.names,y.2 = .local -> scope.names.lookup y.1 = some .local
 cap : ∀ x ∈ cap,scope.names.lookup x ≠ some .local /\ (x,NameKind.cell) ∉ scope.names
 dis : ∀ y ∈ scope.names,y.2 = .free -> (y.1,NameKind.cell) ∉ scope.names
theorem zju {C : Addr} {m : Str -> Option Value} : ∀ (names : List (Str × NameKind)) {h : Heap},h.Ns C m -> (pushCells h names).Ns C m := fun names h hn => by
 obtain ⟨o,es,ep,ho,r⟩ := hn
 exact ⟨o,es,ep,pushCells_keeps names h C o ho,r⟩
section
variable {X : Cx} {pins : List (Addr × Obj)} {σ : St} {H : Hp} {s : Shared}
theorem zgO {scope : Scope} {L : List Str} {ix : List Nat} {h' : Heap} {fp : List Addr} {t' : Nat} (S : zd0 X scope (zd4 X ix)) (I : Inv X pins σ H s) (hf : ∀ b ∈ fp,zhn X pins H b) (hfp : ∀ b ∈ fp,b < s.heap.objs.size)
  (hix : ∀ i ∈ ix,i < X.N.length) (hn : h'.Ns s.heap.objs.size fun _ => none) (hk : ∀ b u,s.heap.get? b = some u -> h'.get? b = some u) (hcs : CellsOk h' (s.heap.objs.size + 1) (zjs s.heap.objs.size scope)) :
  Inv (zaA X (L ++ zd4 X ix) scope s.heap.objs.size s H fp) [] (zd3 L.length ix σ) H { s with heap := h',toks := t' }:=by
 have cl : ∀ x c,(zg6 X.env.cells scope.names []).lookup x = some c -> X.env.cells.lookup x = some c := fun x c e =>
  zgg (acc:=[]) (fun p hp => nomatch hp) (x,c) (PySem.mem_of_lookup e)
 have old : ∀ x c,X.env.cells.lookup x = some c -> c < s.heap.objs.size := fun x c e => by
  obtain ⟨v,q⟩ := I.cell x c e
  exact q.lt
 have own : ∀ x c,(zjs s.heap.objs.size scope).lookup x = some c -> h'.IsCell c none /\ s.heap.objs.size + 1 <= c /\ (x,NameKind.cell) ∈ scope.names := fun x c e => by
  have m := PySem.mem_of_lookup e
  exact ⟨(hcs.empty x c m).1,(hcs.empty x c m).2,zi0 _ _ _ m⟩
 have al : ∀ x c,(zjs s.heap.objs.size scope ++ zg6 X.env.cells scope.names []).lookup x = some c -> (zjs s.heap.objs.size scope).lookup x = some c \/ ((zjs s.heap.objs.size scope).lookup x = none /\ X.env.cells.lookup x = some c) := fun x c e => by
  rcases zhS e with h | ⟨h1,h2⟩
  ·exact .inl h
  ·exact .inr ⟨h1,cl x c h2⟩
 have ownHas : ∀ x,(x,NameKind.cell) ∈ scope.names -> ∃ c,(zjs s.heap.objs.size scope).lookup x = some c := fun x hx => by
  obtain ⟨c,hc⟩ := zn4 scope.names (s.heap.objs.size + 1) hx
  exact zbI hc
 refine ⟨⟨I.ok.mod,S.kind,I.ok.glob,I.ok.blt,Nat.le_refl _,fun x y c e1 e2 => ?_,fun x hx => ?_,fun x c e1 e2 => ?_,I.ok.hd,I.ok.frames,.inl rfl,fun b hb => ⟨Nat.ne_of_lt (hfp b hb),fun x c e => ?_⟩,
  fun b o e => I.bs b o e,Nat.le_trans I.ok.bsz I.sz,fun b o e hb => ?_,fun b hb hz => ?_,I.stack,I.zmF⟩,
  rfl,I.bare,Un.kept hk,⟨_,hn,fun i x v h1 h2 h3 => ?_⟩,fun x c e => ?_,I.hok.fresh (Nat.le_refl _),fun x c e => ?_,fun p hp => absurd (show p ∈ ([] : List (Addr × Obj)) from hp) (by simp),I.hok.kept hk,?_⟩
 ·rcases al x c e1 with a1 | ⟨_,a1⟩ <;> rcases al y c e2 with a2 | ⟨_,a2⟩
  ·exact name_of_addr hcs.apart (PySem.mem_of_lookup a1) (PySem.mem_of_lookup a2)
  ·exact absurd (old y c a2) (Nat.not_lt.mpr (Nat.le_of_succ_le (own x c a1).2.1))
  ·exact absurd (old x c a1) (Nat.not_lt.mpr (Nat.le_of_succ_le (own y c a2).2.1))
  ·exact I.ok.inj x y c a1 a2
 ·have hx' : (relabel scope X.env).names.lookup x = some .cell \/ (relabel scope X.env).names.lookup x = some .free := hx
  have fr : (x,NameKind.cell) ∈ scope.names \/ (x,NameKind.free) ∈ scope.names:=by
   rcases hx' with q | q
   ·obtain ⟨k0,_,h2,h3⟩ := zbg (scope:=scope) q
    rcases h3 with rfl | ⟨rfl,_⟩
    ·exact .inl h2
    ·exact .inr h2
   ·obtain ⟨k0,_,h2,h3⟩ := zbg (scope:=scope) q
    rcases h3 with rfl | ⟨_,z⟩
    ·exact .inr h2
    ·cases z
  rcases fr with fr | fr
  ·obtain ⟨c,hc⟩ := ownHas x fr
   show ∃ c,(zjs s.heap.objs.size scope ++ zg6 X.env.cells scope.names []).lookup x = some c
   exact zbI (List.mem_append_left _ (PySem.mem_of_lookup hc))
  ·obtain ⟨c,hc⟩ := I.ok.has x (.inl (S.cell _ fr rfl))
   obtain ⟨d,hd⟩ := zbI (zeY (names:=scope.names) (acc:=[]) hc fr)
   exact zd9 hd
 ·have hx : (x,NameKind.cell) ∈ scope.names:=by
   have e1' : scope.names.contains (x,NameKind.cell) = true := e1
   simpa using e1'
  rcases al x c e2 with a1 | ⟨a1,_⟩
  ·exact Nat.le_of_succ_le (own x c a1).2.1
  ·obtain ⟨d,hd⟩ := ownHas x hx
   rw [a1] at hd
   cases hd
 ·rcases al x c e with a1 | ⟨_,a1⟩
  ·exact Nat.ne_of_gt (Nat.lt_of_lt_of_le (hfp b hb) (Nat.le_of_succ_le (own x c a1).2.1))
  ·exact (hf b hb).2.2.2.2.1 x c a1
 ·rcases (hf b hb).2.2.2.1 with z | z
  ·exact I.ok.noex b o e z
  ·exact absurd (Heap.lt_size (I.ok.bs b o e).1) (Nat.not_lt.mpr z)
 ·rcases List.mem_cons.mp (I.zmE b hz) with z | z
  ·exact (hf b hb).2.1 z
  ·exact (hf b hb).2.2.1 z
 ·-- a name that is drawn in
  have hi : L.length <= i:=by
   by_cases hi : i < L.length
   ·unfold zd3 at h2
    rw [List.getElem?_append_left (by simpa using hi),List.getElem?_replicate,if_pos hi] at h2
    cases h2
   ·omega
  unfold zd3 at h2
  rw [List.getElem?_append_right (by simpa using hi),List.length_replicate,List.getElem?_map] at h2
  have h1' : (L ++ zd4 X ix)[i]? = some x := h1
  rw [List.getElem?_append_right hi] at h1'
  unfold zd4 at h1'
  rw [List.getElem?_map] at h1'
  cases ej : ix[i - L.length]? with
  | none => rw [ej] at h1'; cases h1'
  | some j =>
   rw [ej] at h1' h2
   have hj : j < X.N.length := hix j (List.mem_of_getElem? ej)
   have e1 : X.N[j]? = some x:=by
    have : X.N.getD j "" = x := Option.some.inj h1'
    rw [<- this]
    simp [List.getD,hj]
   have e2 : σ[j]? = some (some v):=by
    have z : (σ[j]?).getD none = some v := Option.some.inj h2
    cases q : σ[j]? with
    | none => rw [q] at z; cases z
    | some o => rw [q] at z; exact congrArg some z
   have hx : x ∈ zd4 X ix:=by
    unfold zd4
    refine List.mem_map.mpr ⟨j,List.mem_of_getElem? ej,?_⟩
    exact Option.some.inj h1'
   have h3' : (relabel scope X.env).names.lookup x = some .local \/ (relabel scope X.env).names.lookup x = some .cell \/ (relabel scope X.env).names.lookup x = some .free := h3
   have fr : (x,NameKind.free) ∈ scope.names:=by
    rcases h3' with q | q | q
    ·obtain ⟨k0,g1,g2,g3⟩ := zbg (scope:=scope) q
     rcases g3 with rfl | ⟨_,z⟩
     ·exact absurd g1 (S.cap x hx).1
     ·cases z
    ·obtain ⟨k0,_,g2,g3⟩ := zbg (scope:=scope) q
     rcases g3 with rfl | ⟨rfl,_⟩
     ·exact absurd g2 (S.cap x hx).2
     ·exact g2
    ·obtain ⟨k0,_,g2,g3⟩ := zbg (scope:=scope) q
     rcases g3 with rfl | ⟨_,z⟩
     ·exact g2
     ·cases z
   have hc : X.env.kindOf x = some .cell := S.cell _ fr rfl
   obtain ⟨m,_,hl⟩ := I.loc
   obtain ⟨u,ru,lk⟩ := hl j x v e1 e2 (.inr (.inl hc))
   refine ⟨u,ru,?_⟩
   rcases lk with ⟨z,_⟩ | ⟨_,c,ec,ic⟩
   ·rw [hc] at z; cases z
   ·have k3 : (relabel scope X.env).names.lookup x = some .cell \/ (relabel scope X.env).names.lookup x = some .free:=by
     rcases h3' with q | q | q
     ·obtain ⟨k0,g1,g2,g3⟩ := zbg (scope:=scope) q
      rcases g3 with rfl | ⟨_,z⟩
      ·exact absurd g1 (S.cap x hx).1
      ·cases z
     ·exact .inl q
     ·exact .inr q
    obtain ⟨c',ec'⟩ := zbI (zeY (names:=scope.names) (acc:=[]) ec fr)
    have e3 := cl x c' ec'
    rw [ec] at e3
    cases e3
    obtain ⟨oc,g1,g2⟩ := ic
    have no : (zjs s.heap.objs.size scope).lookup x = none := zd8 fun p hp z => (S.cap x hx).2 (by rw [<- z]; exact zi0 _ _ _ hp)
    exact .inr ⟨k3,c,(zdt no).trans ec',oc,hk _ _ g1,g2⟩
 ·rcases al x c e with a1 | ⟨_,a1⟩
  ·exact ⟨none,(own x c a1).1⟩
  ·obtain ⟨v,oc,g1,g2⟩ := I.cell x c a1
   exact ⟨v,oc,hk _ _ g1,g2⟩
 ·rcases al x c e with a1 | ⟨_,a1⟩
  ·exact I.hok.fresh (Nat.le_of_succ_le (own x c a1).2.1)
  ·exact I.freeC x c a1
 ·show (zd3 L.length ix σ).length = (L ++ zd4 X ix).length
  unfold zd3 zd4
  simp
end
theorem zko {M : Model} {A : Around} {E : Value -> Shared -> Prop} {s : Shared} {scope : Scope} {globals : Addr} {cl : List (Str × Addr)} {qual : Str} {outer : Env} {Q : Env -> Shared -> Prop}
  (hQ : ∀ h',h'.Ns s.heap.objs.size (fun _ => none) -> (∀ b u,s.heap.get? b = some u -> h'.get? b = some u) -> CellsOk h' (s.heap.objs.size + 1) (zjs s.heap.objs.size scope) ->
   Q { scope := scope,locals := s.heap.objs.size,globals := globals,cells := zjs s.heap.objs.size scope ++ cl,qual := qual,func := none,code := outer.code,frame := outer.frame,builtins := outer.builtins } { s with heap := h' }) :
  wpAny M A (newFunctionEnv scope globals cl [] qual none .none (some outer)) Q E s:=by
 simp only [newFunctionEnv,Option.isSome_some,if_true]
 refine wpAny_bind (wpAny_alloc ?_)
 refine wpAny_bind (wpAny_layCells _ (fun name kind cells => by cases hkc : kind == NameKind.cell <;> simp [hkc]) _ _ _ _ ?_)
 have ok := cellsFrom_ok scope.names (s.heap.push { cls := .type "dict",data := .dict #[] }) (s.heap.objs.size + 1) [] ⟨fun _ _ hm => (nomatch hm),List.Pairwise.nil⟩ (by rw [Heap.size_push]; exact Nat.le_refl _)
 rw [Heap.size_push] at ok
 rw [show ({ s with heap := s.heap.push { cls := .type "dict",data := .dict #[] } } : Shared).heap.objs.size = s.heap.objs.size + 1 from Heap.size_push ..,zg7]
 refine wpAny_bind ?_
 rw [List.forIn_nil]
 refine wpAny_pure (wpAny_pure ?_)
 exact hQ _ (zju _ (Heap.Ns.new ..)) (fun b u e => pushCells_keeps _ _ _ _ (Heap.get?_push_of_some _ e)) ok
section
variable {X : Cx}
theorem zpf {elt tg iter : Expr} {ifs : List Expr} {scope : Scope} {pos : Pos} {L : List Str} {ix : List Nat} {wi : TI} {g : TG} {tc : TT} {te : TE} (hc : X.calm = true) (S : zd0 X scope (zd4 X ix)) (hix : ∀ i ∈ ix,i < X.N.length) (hi : PI X tg iter wi)
  (hg : ∀ C s₃ H₃ fp,PG (zaA X (L ++ zd4 X ix) scope C s₃ H₃ fp) tg g) (hgo : zkU L.length g)
  (ht : ∀ C s₃ H₃ fp,PTs (zaA X (L ++ zd4 X ix) scope C s₃ H₃ fp) ifs tc) (he : ∀ C s₃ H₃ fp,PE (zaA X (L ++ zd4 X ix) scope C s₃ H₃ fp) elt te)
  (hs : ∀ x,foldedSetIterable iter X.env x = pure x := by intro _; rfl) :
  PE X (.ListComp elt [⟨tg,iter,ifs,0⟩] scope pos) (zlS L.length ix wi g tc te):=by
 intro pins s σ H Q I h
 rw [eval_ListComp]
 refine wpAny_comprehension_free (use:=none) rfl hs (zc5 fun y hy e => I.ok.has y.1 (.inl (S.cell y hy e))) S.kind S.loc (thn (hi pins s σ H _ I h) fun xv s1 h1 => thn h1 fun itv s2 h2 => ?_)
 obtain ⟨it,fp,tn,J,H2,rfl,I2,T,st2,f2,q⟩ := h2
 have nD : H2 s2.heap.objs.size = none := I2.hok.fresh (Nat.le_refl _)
 obtain ⟨W,⟨m0,w0⟩,turn⟩ := q _ nD
 generalize hD : s2.heap.objs.size = D at nD w0 turn
 have fD : ∀ b ∈ fp,b < D := fun b hb => by
  obtain ⟨o,e,_⟩ := T.obj _ _ st2 b hb
  rw [<- hD]
  exact Heap.lt_size e
 have I3 : Inv X pins σ (upd H2 D (.lst [])) { s2 with heap := s2.heap.push { cls := .type "list",data := .seq ([] : List Value).toArray },toks := s2.toks }:=by
  rw [<- hD]
  exact I2.laid (t' := s2.toks) (fun b u e => Heap.get?_push_of_some _ e) (Nat.le_refl _) ⟨by simp,[],0,.nil,Heap.get?_push_size _ rfl⟩
 refine wpAny_newObj_type (zko (fun h₁ hns₁ hsb₁ hcs₁ => ?_)) (by show 0 <= sizeLine; exact Nat.zero_le _)
 rw [hD]
 have st3 : tn 0 (s2.heap.push { cls := .type "list",data := .seq ([] : List Value).toArray }) := T.keep _ _ _ st2 fun b hb o e => Heap.get?_push_of_some _ e
 generalize hp3 : s2.heap.push { cls := .type "list",data := .seq ([] : List Value).toArray } = h3 at I3 st3 hns₁ hsb₁ hcs₁
 dsimp only at hns₁ hsb₁ hcs₁ ⊢
 have sz3 : h3.objs.size = D + 1 := by rw [<- hp3,Heap.size_push,hD]
 have old : ∀ b u,h3.get? b = some u -> h₁.get? b = some u := fun b u e => hsb₁ b u e
 have f3 : ∀ b ∈ fp,zhn X pins (upd H2 D (.lst [])) b := fun b hb => ⟨by rw [zay (Nat.ne_of_lt (fD b hb))]; exact (f2 b hb).1,(f2 b hb).2⟩
 have I4 := zgO (L:=L) (ix:=ix) (t' := s2.toks) S I3 f3 (fun b hb => by show b < h3.objs.size; rw [sz3]; exact Nat.lt_succ_of_lt (fD b hb)) hix (h' := h₁) hns₁ old hcs₁
 have st4 : tn 0 h₁ := T.keep _ _ _ st3 fun b hb o e => old b o e
 generalize hC : (zaA X (L ++ zd4 X ix) scope h3.objs.size { s2 with heap := h3,toks := s2.toks } (upd H2 D (.lst [])) fp) = Y at I4
 have eEnv : Y.env = compEnvC scope (zjs h3.objs.size scope ++ zg6 X.env.cells scope.names []) h3.objs.size X.env := by rw [<- hC]; rfl
 have hcY : Y.calm = true := by rw [<- hC]; exact hc
 have xeY : Y.xe = fun _ _ => False := by rw [<- hC]; rfl
 have eP : Y.prog = X.prog := by rw [<- hC]; rfl
 have eW : Y.w = X.w := by rw [<- hC]; rfl
 have eK : Y.K = X.K := by rw [<- hC]; rfl
 have eA : Y.A = X.A := by rw [<- hC]; rfl
 have gY : PG Y tg g := by rw [<- hC]; exact hg _ _ _ _
 have tY : PTs Y ifs tc := by rw [<- hC]; exact ht _ _ _ _
 have pY : PE Y elt te := by rw [<- hC]; exact he _ _ _ _
 have stat : ∀ {H' : Hp},(∀ b ∈ fp,H' b = none) -> ∀ b ∈ fp,zhn Y [] H' b := fun {H'} hn b hb => by
  have z1 : b ∈ Y.ex := by rw [<- hC]; exact hb
  have zp : Y.pn = [] := by rw [<- hC]; rfl
  refine ⟨hn b hb,(I4.ok.exf b z1).1,I4.ok.exfs b z1,.inl z1,(I4.ok.exf b z1).2,fun p hp => ?_⟩
  rw [zp] at hp
  exact absurd hp (by simp)
 have fin : ∀ {H' : Hp} {s' : Shared},Inv Y [] (zd3 L.length ix σ) H' s' -> Q (.ref D) H' -> compPost (model X.prog X.w) X.A X.xe none (EP X pins σ Q) (.ref D) h3.objs.size (.ok .next) s':=by
  intro H' s' J' qe
  obtain ⟨m,hm,_⟩ := J'.loc
  rw [eEnv] at hm
  refine ⟨m,hm,fun h' sb => ⟨.ref D,H',?_,rfl,qe⟩⟩
  have hfr : H' h3.objs.size = none:=by
   have := J'.free
   rw [eEnv] at this
   exact this
  have neC : ∀ b u,H' b = some u -> b ≠ h3.objs.size := fun b u e z => by rw [z,hfr] at e; cases e
  have base : Un (frs X.stack) fp (upd H2 D (.lst [])) H' h3 s'.heap:=by
   have := J'.base
   rw [<- hC] at this
   exact this
  have to' : ∀ b o,b ≠ h3.objs.size -> s'.heap.get? b = some o -> h'.get? b = some o := fun b o hb e => sb.extBut b o hb e
  have lt3 : ∀ b o,h3.get? b = some o -> b ≠ h3.objs.size := fun b o e => Nat.ne_of_lt (Heap.lt_size e)
  have un : Un (frs X.stack) fp (upd H2 D (.lst [])) H' h3 h' :=
   ⟨fun b o e n hb hx => to' b o (lt3 b o e) (base.keep b o e n hb hx),
    fun b o e n hb hx => by
    obtain ⟨sl,z⟩ := base.slot b o e n hb hx
    exact ⟨sl,to' _ _ (lt3 b o e) z⟩,
    base.free,
    fun b o e hx => by
    obtain ⟨o',z⟩ := base.there b o e hx
    exact ⟨o',to' _ _ (lt3 b o e) z⟩,
    base.tups,base.frzs,base.tbls⟩
  have hok : HOk X.prog X.w H' h' := fun b u e => by
   have z := J'.hok b u e
   rw [eP,eW] at z
   refine z.stay (fun c v hcv qv => to' c v ?_ qv) (fun _ qq => qq) fun _ _ qq => qq
   rcases hcv with zz | zz
   ·rw [zz]; exact neC b u e
   ·exact neC c _ zz
  refine I3.call' (s' := { s' with heap := h' }) (ch:=fp) ?_ un hok J'.bare fun b hb => ?_
  ·have := J'.os
   rw [<- hC] at this
   exact this
  ·obtain ⟨_,g1,g2,g3,g4,g5⟩ := f2 b hb
   exact ⟨g3,g1,g4,g5⟩
 have key : ∀ s5 : Shared,s5 = { s2 with heap := h₁,toks := s2.toks } ->
   codeAny (model X.prog X.w) X.A (.compLoop (.ListComp elt [⟨tg,iter,ifs,0⟩] scope pos) 0 (.ref it) (.ref D) (compEnvC scope (zjs h3.objs.size scope ++ zg6 X.env.cells scope.names []) h3.objs.size X.env))
    (compPost (model X.prog X.w) X.A X.xe none (EP X pins σ Q) (.ref D) h3.objs.size) s5:=by
  rintro s5 rfl
  rw [<- eEnv,<- eP,<- eW,<- eA]
  refine zg4 (fun n s' => ∃ i ys H',Inv Y [] (zd3 L.length ix σ) H' s' /\ tn i s'.heap /\ (∀ b ∈ fp,H' b = none) /\ W i n ys H') ?_ m0 ⟨0,[],_,?_,st4,fun b hb => (f3 b hb).1,w0⟩
  ·rintro n s6 ⟨i,ys,H6,I6,st6,fr6,w6⟩
   obtain ⟨hl6,alt⟩ := turn i n ys H6 w6
   rcases alt with ⟨stop,qe⟩ | ⟨go,step⟩
   ·have Td := T.done Y eP eW eK hcY i [] s6 _ H6 (fun _ _ => False) I6 (stat fr6) st6 stop
    rw [<- eP,<- eW] at Td
    refine wpAny_mono Td (fun r s7 hr7 => ?_) fun _ _ f => f.elim
    obtain ⟨hr,I7⟩ := hr7
    subst hr
    rw [eP,eW,eA]
    exact fin I7 qe
   ·have Ti := T.item Y eP eW eK hcY i [] s6 _ H6 (fun _ _ => False) I6 (stat fr6) st6 go
    rw [<- eP,<- eW] at Ti
    refine wpAny_mono Ti (fun r s7 hr7 => ?_) fun _ _ f => f.elim
    obtain ⟨u,hr,h7⟩ := hr7
    subst hr
    refine wpAny_mono h7 (fun _ s8 hr8 => ?_) fun _ _ f => f.elim
    obtain ⟨x,H8,I8,r8,y8,st8,fr8⟩ := hr8
    have I8' := I8.pinned (stat fr8) (T.obj _ _ st8)
    have stp := hgo _ _ _ _ (step x H8 y8)
    refine wpAny_mono (gY _ s8 _ H8 x u _ I8' r8 stp) (fun _ s9 ⟨σ9,H9,I9,⟨k1,k2⟩,q9⟩ => ?_) fun _ _ f => by rw [xeY] at f; exact f.elim
    have weak : ∀ {Hz : Hp} {sz : Shared},Inv Y ([] ++ zgD fp s8.heap) σ9 Hz sz -> Inv Y [] (zd3 L.length ix σ) Hz sz /\ tn (i + 1) sz.heap /\ ∀ b ∈ fp,Hz b = none := fun {Hz sz} Iz => by
     refine ⟨Iz.zcp.weak k1.symm fun j v e => ?_,T.keep _ _ _ st8 fun b hb o e => (Iz.pin (b,o) (List.mem_append_right _ (List.mem_append_right _ (zbF hb e)))).1,fun b hb => ?_⟩
     ·by_cases hj : L.length <= j
      ·rw [k2 j hj]; exact e
      ·unfold zd3 at e
       rw [List.getElem?_append_left (by simpa using Nat.lt_of_not_le hj),List.getElem?_replicate,if_pos (Nat.lt_of_not_le hj)] at e
       cases e
     ·obtain ⟨o,e,d⟩ := T.obj _ _ st8 b hb
      exact (Iz.pin (b,o) (List.mem_append_right _ (List.mem_append_right _ (zbF hb e)))).2.1
    refine wpAny_mono (tY _ s9 σ9 H9 _ I9 q9) (fun ok s10 ⟨H10,I10,q10⟩ => ?_) fun _ _ f => by rw [xeY] at f; exact f.elim
    cases ok with
    | false =>
     have q10' : ∃ m',m' < n /\ W (i + 1) m' ys H10 := q10
     obtain ⟨m',hm',w10⟩ := q10'
     obtain ⟨z1,z2,z3⟩ := weak I10
     exact ⟨m',hm',i + 1,ys,H10,z1,z2,z3,w10⟩
    | true =>
     refine wpAny_mono (pY _ s10 σ9 H10 _ I10 q10) (fun xv s11 ⟨v,H11,I11,r11,hl11,hz11,m',hm',w11⟩ => ?_) fun _ _ f => by rw [xeY] at f; exact f.elim
     refine wpAny_mono (zjw (X:=Y) _ s11 σ9 H11 (.ref D) [v] (.ref D) [xv] (fun _ Hq => Hq = upd H11 D (.lst (ys ++ [v]))) I11 rfl (.cons r11 .nil) ⟨D,ys,v,rfl,rfl,hl11,hz11,rfl⟩) (fun _ s12 ⟨_,H12,I12,_,e12⟩ => ?_) fun _ _ f => by rw [xeY] at f; exact f.elim
     subst e12
     obtain ⟨z1,z2,z3⟩ := weak I12
     exact ⟨m',hm',i + 1,ys ++ [v],_,z1,z2,z3,w11⟩
  ·exact I4
 exact codeAny_compStart_list (key _ rfl) (T.self _ 0 _ _ _ st4 (key _ rfl))
end
end L2
namespace L2
open PySem PySem.Spec PyProof.Rows
def zc4 (sc scope : Scope) (N : List Str) (ix : List Nat) : Bool :=
 (scope.names.all fun y => (y.2 != .free || sc.names.lookup y.1 == some .cell) && (y.2 != .local || scope.names.lookup y.1 == some .local) && (y.2 != .free || !(scope.names.contains (y.1,NameKind.cell)))) &&
 ((ix.map fun i => N.getD i "").all fun x => scope.names.lookup x != some .local && !(scope.names.contains (x,NameKind.cell))) && ix.all (fun i => decide (i < N.length))
section
variable {X : Cx}
theorem zpe {elt tg iter : Expr} {ifs : List Expr} {scope : Scope} {pos : Pos} {wi : TI} {g : TG} {tc : TT} {te : TE} (L : List Str) (ix : List Nat) (M : List Str) (hc : X.calm = true) (hk : scope.kind = .function)
  (hd : zc4 X.env.scope scope X.N ix = true) (hM : M = L ++ ix.map fun i => X.N.getD i "") (hi : PI X tg iter wi)
  (hg : ∀ C s₃ H₃ fp,PG (zaA X M scope C s₃ H₃ fp) tg g) (hgo : zkU L.length g)
  (ht : ∀ C s₃ H₃ fp,PTs (zaA X M scope C s₃ H₃ fp) ifs tc) (he : ∀ C s₃ H₃ fp,PE (zaA X M scope C s₃ H₃ fp) elt te)
  (hs : ∀ x,foldedSetIterable iter X.env x = pure x := by intro _; rfl) :
  PE X (.ListComp elt [⟨tg,iter,ifs,0⟩] scope pos) (zlS L.length ix wi g tc te):=by
 unfold zc4 at hd
 simp only [Bool.and_eq_true,List.all_eq_true,bne_iff_ne,ne_eq,Bool.or_eq_true,beq_iff_eq,decide_eq_true_eq,Bool.not_eq_true',List.contains_eq_mem,decide_eq_false_iff_not] at hd
 obtain ⟨⟨d1,d2⟩,d3⟩ := hd
 have eM : M = L ++ zd4 X ix := by rw [hM]; unfold zd4; rfl
 subst eM
 refine zpf (L:=L) (ix:=ix) hc ⟨hk,fun y hy e => ?_,fun y hy e => ?_,fun x hx => ?_,fun y hy e => ?_⟩ d3 hi hg hgo ht he hs
 ·rcases (d1 y hy).1.1 with z | z
  ·exact absurd e z
  ·exact z
 ·rcases (d1 y hy).1.2 with z | z
  ·exact absurd e z
  ·exact z
 ·unfold zd4 at hx
  exact d2 x hx
 ·rcases (d1 y hy).2 with z | z
  ·exact absurd e z
  ·exact z
end
end L2
namespace L2
open PySem PySem.Spec PyProof.Rows
end L2
namespace L2
open PySem PySem.Spec PyProof.Rows
section
variable {X : Cx}
theorem zqV {elt tg iter : Expr} {ifs : List Expr} {scope : Scope} {pos : Pos} {L : List Str} {ix : List Nat} {wi : TI} {g : TG} {tc : TT} {te : TE} {i0 : Nat} {x0 : Str} {pos' spos : Pos} (hN : X.N.Nodup) (hii : X.N[i0]? = some x0) (hx0 : Loc X.env.scope x0) (hf0 : X.fn x0 = true \/ X.env.scope.names.lookup x0 = some .local)
  (hsw : swapsWith (.ListComp elt [⟨tg,iter,ifs,0⟩] scope pos) (some (.Name x0 pos')) spos.line X.env = pure true) (hc : X.calm = true) (S : zd0 X scope (zd4 X ix)) (hix : ∀ i ∈ ix,i < X.N.length) (hi : PI X tg iter wi)
  (hg : ∀ C s₃ H₃ fp,PG (zaA X (L ++ zd4 X ix) scope C s₃ H₃ fp) tg g) (hgo : zkU L.length g)
  (ht : ∀ C s₃ H₃ fp,PTs (zaA X (L ++ zd4 X ix) scope C s₃ H₃ fp) ifs tc) (he : ∀ C s₃ H₃ fp,PE (zaA X (L ++ zd4 X ix) scope C s₃ H₃ fp) elt te)
  (hs : ∀ x,foldedSetIterable iter X.env x = pure x := by intro _; rfl) :
  PS X (.Assign [.Name x0 pos'] (.ListComp elt [⟨tg,iter,ifs,0⟩] scope pos) spos) (zr2 (zlS L.length ix wi g tc te) (znN i0)):=by
 intro pins s σ H Dn I h
 have h : zlS L.length ix wi g tc te σ H (fun v H1 => Dn.nx (σ.set i0 (some v)) H1) := h
 generalize hQ : (fun v H1 => Dn.nx (σ.set i0 (some v)) H1 : VK) = Q at h
 rw [exec_Assign_Name_used _ _ _ _ hsw]
 refine wpAny_bind (wpAny_standAt (wpAny_bind ?_))
 show wpAny _ _ (do let _ <- comprehension (.ListComp elt [⟨tg,iter,ifs,0⟩] scope pos) scope X.env _ (newList []) false (eval iter X.env) (some (assign (.Name x0 pos') X.env))) _ _ s
 refine wpAny_bind (wpAny_mono (wpAny_comprehension_free (use:=some (assign (.Name x0 pos') X.env)) (Q:=fun _ s' => SP X pins Dn .next s') rfl hs (zc5 fun y hy e => I.ok.has y.1 (.inl (S.cell y hy e))) S.kind S.loc (thn (hi pins s σ H _ I h) fun xv s1 h1 => thn h1 fun itv s2 h2 => ?_)) (fun _ s' hq => wpAny_pure (wpAny_pure hq)) fun _ _ e => e)
 obtain ⟨it,fp,tn,J,H2,rfl,I2,T,st2,f2,q⟩ := h2
 have nD : H2 s2.heap.objs.size = none := I2.hok.fresh (Nat.le_refl _)
 obtain ⟨W,⟨m0,w0⟩,turn⟩ := q _ nD
 generalize hD : s2.heap.objs.size = D at nD w0 turn
 have fD : ∀ b ∈ fp,b < D := fun b hb => by
  obtain ⟨o,e,_⟩ := T.obj _ _ st2 b hb
  rw [<- hD]
  exact Heap.lt_size e
 have I3 : Inv X pins σ (upd H2 D (.lst [])) { s2 with heap := s2.heap.push { cls := .type "list",data := .seq ([] : List Value).toArray },toks := s2.toks }:=by
  rw [<- hD]
  exact I2.laid (t' := s2.toks) (fun b u e => Heap.get?_push_of_some _ e) (Nat.le_refl _) ⟨by simp,[],0,.nil,Heap.get?_push_size _ rfl⟩
 refine wpAny_newObj_type (zko (fun h₁ hns₁ hsb₁ hcs₁ => ?_)) (by show 0 <= sizeLine; exact Nat.zero_le _)
 rw [hD]
 have st3 : tn 0 (s2.heap.push { cls := .type "list",data := .seq ([] : List Value).toArray }) := T.keep _ _ _ st2 fun b hb o e => Heap.get?_push_of_some _ e
 generalize hp3 : s2.heap.push { cls := .type "list",data := .seq ([] : List Value).toArray } = h3 at I3 st3 hns₁ hsb₁ hcs₁
 dsimp only at hns₁ hsb₁ hcs₁ ⊢
 have sz3 : h3.objs.size = D + 1 := by rw [<- hp3,Heap.size_push,hD]
 have old : ∀ b u,h3.get? b = some u -> h₁.get? b = some u := fun b u e => hsb₁ b u e
 have f3 : ∀ b ∈ fp,zhn X pins (upd H2 D (.lst [])) b := fun b hb => ⟨by rw [zay (Nat.ne_of_lt (fD b hb))]; exact (f2 b hb).1,(f2 b hb).2⟩
 have I4 := zgO (L:=L) (ix:=ix) (t' := s2.toks) S I3 f3 (fun b hb => by show b < h3.objs.size; rw [sz3]; exact Nat.lt_succ_of_lt (fD b hb)) hix (h' := h₁) hns₁ old hcs₁
 have st4 : tn 0 h₁ := T.keep _ _ _ st3 fun b hb o e => old b o e
 generalize hC : (zaA X (L ++ zd4 X ix) scope h3.objs.size { s2 with heap := h3,toks := s2.toks } (upd H2 D (.lst [])) fp) = Y at I4
 have eEnv : Y.env = compEnvC scope (zjs h3.objs.size scope ++ zg6 X.env.cells scope.names []) h3.objs.size X.env := by rw [<- hC]; rfl
 have hcY : Y.calm = true := by rw [<- hC]; exact hc
 have xeY : Y.xe = fun _ _ => False := by rw [<- hC]; rfl
 have eP : Y.prog = X.prog := by rw [<- hC]; rfl
 have eW : Y.w = X.w := by rw [<- hC]; rfl
 have eK : Y.K = X.K := by rw [<- hC]; rfl
 have eA : Y.A = X.A := by rw [<- hC]; rfl
 have gY : PG Y tg g := by rw [<- hC]; exact hg _ _ _ _
 have tY : PTs Y ifs tc := by rw [<- hC]; exact ht _ _ _ _
 have pY : PE Y elt te := by rw [<- hC]; exact he _ _ _ _
 have stat : ∀ {H' : Hp},(∀ b ∈ fp,H' b = none) -> ∀ b ∈ fp,zhn Y [] H' b := fun {H'} hn b hb => by
  have z1 : b ∈ Y.ex := by rw [<- hC]; exact hb
  have zp : Y.pn = [] := by rw [<- hC]; rfl
  refine ⟨hn b hb,(I4.ok.exf b z1).1,I4.ok.exfs b z1,.inl z1,(I4.ok.exf b z1).2,fun p hp => ?_⟩
  rw [zp] at hp
  exact absurd hp (by simp)
 have fin : ∀ {H' : Hp} {s' : Shared},Inv Y [] (zd3 L.length ix σ) H' s' -> Q (.ref D) H' -> compPost (model X.prog X.w) X.A X.xe (some (assign (.Name x0 pos') X.env)) (fun _ s' => SP X pins Dn .next s') (.ref D) h3.objs.size (.ok .next) s':=by
  intro H' s' J' qe
  obtain ⟨m,hm,_⟩ := J'.loc
  rw [eEnv] at hm
  have hfr : H' h3.objs.size = none:=by
   have := J'.free
   rw [eEnv] at this
   exact this
  have mk : ∀ h',Heap.SameBut h3.objs.size s'.heap h' -> Inv X pins σ H' { s' with heap := h' }:=by
   intro h' sb
   have hfr : H' h3.objs.size = none:=by
    have := J'.free
    rw [eEnv] at this
    exact this
   have neC : ∀ b u,H' b = some u -> b ≠ h3.objs.size := fun b u e z => by rw [z,hfr] at e; cases e
   have base : Un (frs X.stack) fp (upd H2 D (.lst [])) H' h3 s'.heap:=by
    have := J'.base
    rw [<- hC] at this
    exact this
   have to' : ∀ b o,b ≠ h3.objs.size -> s'.heap.get? b = some o -> h'.get? b = some o := fun b o hb e => sb.extBut b o hb e
   have lt3 : ∀ b o,h3.get? b = some o -> b ≠ h3.objs.size := fun b o e => Nat.ne_of_lt (Heap.lt_size e)
   have un : Un (frs X.stack) fp (upd H2 D (.lst [])) H' h3 h' :=
    ⟨fun b o e n hb hx => to' b o (lt3 b o e) (base.keep b o e n hb hx),
     fun b o e n hb hx => by
     obtain ⟨sl,z⟩ := base.slot b o e n hb hx
     exact ⟨sl,to' _ _ (lt3 b o e) z⟩,
     base.free,
     fun b o e hx => by
     obtain ⟨o',z⟩ := base.there b o e hx
     exact ⟨o',to' _ _ (lt3 b o e) z⟩,
     base.tups,base.frzs,base.tbls⟩
   have hok : HOk X.prog X.w H' h' := fun b u e => by
    have z := J'.hok b u e
    rw [eP,eW] at z
    refine z.stay (fun c v hcv qv => to' c v ?_ qv) (fun _ qq => qq) fun _ _ qq => qq
    rcases hcv with zz | zz
    ·rw [zz]; exact neC b u e
    ·exact neC c _ zz
   refine I3.call' (s' := { s' with heap := h' }) (ch:=fp) ?_ un hok J'.bare fun b hb => ?_
   ·have := J'.os
    rw [<- hC] at this
    exact this
   ·obtain ⟨_,g1,g2,g3,g4,g5⟩ := f2 b hb
    exact ⟨g3,g1,g4,g5⟩
  have I5 : Inv X pins σ H' s' := mk s'.heap (Heap.SameBut.refl ..)
  show wpAny _ _ (assign (.Name x0 pos') X.env (.ref D)) _ _ s'
  refine wpAny_assign_Name (zjd (v:=.ref D) I5 hN hii hx0 rfl (fun s'' I6 hh => ?_) hf0)
  obtain ⟨a6,sb6,ha6⟩ := hh
  have neC : a6 ≠ h3.objs.size:=by
   rcases ha6 with z | z
   ·rw [z]; exact Nat.ne_of_lt I3.lt
   ·obtain ⟨v6,q6⟩ := I3.cell x0 a6 z
    exact Nat.ne_of_lt q6.lt
  refine ⟨m,hm.sameBut sb6 (Ne.symm neC),fun h'' sb2 => ⟨_,H',?_,by rw [<- hQ] at qe; exact qe⟩⟩
  refine Inv.zgo (t' := s''.toks) (fp:=[h3.objs.size]) I6 (fun b o hb e => sb2.extBut b o (by simpa using hb) e) fun b hb => ?_
  have e : b = h3.objs.size := by simpa using hb
  subst e
  exact I3.zow (Nat.le_refl _) hfr
 have key : ∀ s5 : Shared,s5 = { s2 with heap := h₁,toks := s2.toks } ->
   codeAny (model X.prog X.w) X.A (.compLoop (.ListComp elt [⟨tg,iter,ifs,0⟩] scope pos) 0 (.ref it) (.ref D) (compEnvC scope (zjs h3.objs.size scope ++ zg6 X.env.cells scope.names []) h3.objs.size X.env))
    (compPost (model X.prog X.w) X.A X.xe (some (assign (.Name x0 pos') X.env)) (fun _ s' => SP X pins Dn .next s') (.ref D) h3.objs.size) s5:=by
  rintro s5 rfl
  rw [<- eEnv,<- eP,<- eW,<- eA]
  refine zg4 (fun n s' => ∃ i ys H',Inv Y [] (zd3 L.length ix σ) H' s' /\ tn i s'.heap /\ (∀ b ∈ fp,H' b = none) /\ W i n ys H') ?_ m0 ⟨0,[],_,?_,st4,fun b hb => (f3 b hb).1,w0⟩
  ·rintro n s6 ⟨i,ys,H6,I6,st6,fr6,w6⟩
   obtain ⟨hl6,alt⟩ := turn i n ys H6 w6
   rcases alt with ⟨stop,qe⟩ | ⟨go,step⟩
   ·have Td := T.done Y eP eW eK hcY i [] s6 _ H6 (fun _ _ => False) I6 (stat fr6) st6 stop
    rw [<- eP,<- eW] at Td
    refine wpAny_mono Td (fun r s7 hr7 => ?_) fun _ _ f => f.elim
    obtain ⟨hr,I7⟩ := hr7
    subst hr
    rw [eP,eW,eA]
    exact fin I7 qe
   ·have Ti := T.item Y eP eW eK hcY i [] s6 _ H6 (fun _ _ => False) I6 (stat fr6) st6 go
    rw [<- eP,<- eW] at Ti
    refine wpAny_mono Ti (fun r s7 hr7 => ?_) fun _ _ f => f.elim
    obtain ⟨u,hr,h7⟩ := hr7
    subst hr
    refine wpAny_mono h7 (fun _ s8 hr8 => ?_) fun _ _ f => f.elim
    obtain ⟨x,H8,I8,r8,y8,st8,fr8⟩ := hr8
    have I8' := I8.pinned (stat fr8) (T.obj _ _ st8)
    have stp := hgo _ _ _ _ (step x H8 y8)
    refine wpAny_mono (gY _ s8 _ H8 x u _ I8' r8 stp) (fun _ s9 ⟨σ9,H9,I9,⟨k1,k2⟩,q9⟩ => ?_) fun _ _ f => by rw [xeY] at f; exact f.elim
    have weak : ∀ {Hz : Hp} {sz : Shared},Inv Y ([] ++ zgD fp s8.heap) σ9 Hz sz -> Inv Y [] (zd3 L.length ix σ) Hz sz /\ tn (i + 1) sz.heap /\ ∀ b ∈ fp,Hz b = none := fun {Hz sz} Iz => by
     refine ⟨Iz.zcp.weak k1.symm fun j v e => ?_,T.keep _ _ _ st8 fun b hb o e => (Iz.pin (b,o) (List.mem_append_right _ (List.mem_append_right _ (zbF hb e)))).1,fun b hb => ?_⟩
     ·by_cases hj : L.length <= j
      ·rw [k2 j hj]; exact e
      ·unfold zd3 at e
       rw [List.getElem?_append_left (by simpa using Nat.lt_of_not_le hj),List.getElem?_replicate,if_pos (Nat.lt_of_not_le hj)] at e
       cases e
     ·obtain ⟨o,e,d⟩ := T.obj _ _ st8 b hb
      exact (Iz.pin (b,o) (List.mem_append_right _ (List.mem_append_right _ (zbF hb e)))).2.1
    refine wpAny_mono (tY _ s9 σ9 H9 _ I9 q9) (fun ok s10 ⟨H10,I10,q10⟩ => ?_) fun _ _ f => by rw [xeY] at f; exact f.elim
    cases ok with
    | false =>
     have q10' : ∃ m',m' < n /\ W (i + 1) m' ys H10 := q10
     obtain ⟨m',hm',w10⟩ := q10'
     obtain ⟨z1,z2,z3⟩ := weak I10
     exact ⟨m',hm',i + 1,ys,H10,z1,z2,z3,w10⟩
    | true =>
     refine wpAny_mono (pY _ s10 σ9 H10 _ I10 q10) (fun xv s11 ⟨v,H11,I11,r11,hl11,hz11,m',hm',w11⟩ => ?_) fun _ _ f => by rw [xeY] at f; exact f.elim
     refine wpAny_mono (zjw (X:=Y) _ s11 σ9 H11 (.ref D) [v] (.ref D) [xv] (fun _ Hq => Hq = upd H11 D (.lst (ys ++ [v]))) I11 rfl (.cons r11 .nil) ⟨D,ys,v,rfl,rfl,hl11,hz11,rfl⟩) (fun _ s12 ⟨_,H12,I12,_,e12⟩ => ?_) fun _ _ f => by rw [xeY] at f; exact f.elim
     subst e12
     obtain ⟨z1,z2,z3⟩ := weak I12
     exact ⟨m',hm',i + 1,ys ++ [v],_,z1,z2,z3,w11⟩
  ·exact I4
 exact codeAny_compStart_list (key _ rfl) (T.self _ 0 _ _ _ st4 (key _ rfl))
theorem zqU {elt tg iter : Expr} {ifs : List Expr} {scope : Scope} {pos : Pos} {wi : TI} {g : TG} {tc : TT} {te : TE} {x0 : Str} {pos' spos : Pos} (i0 : Nat) (L : List Str) (ix : List Nat) (M : List Str) (hN : X.N.Nodup) (hii : X.N[i0]? = some x0) (hx0 : X.env.scope.names.lookup x0 = some .local)
  (hsw : swapsWith (.ListComp elt [⟨tg,iter,ifs,0⟩] scope pos) (some (.Name x0 pos')) spos.line X.env = pure true) (hc : X.calm = true) (hk : scope.kind = .function)
  (hd : zc4 X.env.scope scope X.N ix = true) (hM : M = L ++ ix.map fun i => X.N.getD i "") (hi : PI X tg iter wi)
  (hg : ∀ C s₃ H₃ fp,PG (zaA X M scope C s₃ H₃ fp) tg g) (hgo : zkU L.length g)
  (ht : ∀ C s₃ H₃ fp,PTs (zaA X M scope C s₃ H₃ fp) ifs tc) (he : ∀ C s₃ H₃ fp,PE (zaA X M scope C s₃ H₃ fp) elt te)
  (hs : ∀ x,foldedSetIterable iter X.env x = pure x := by intro _; rfl) :
  PS X (.Assign [.Name x0 pos'] (.ListComp elt [⟨tg,iter,ifs,0⟩] scope pos) spos) (zr2 (zlS L.length ix wi g tc te) (znN i0)):=by
 unfold zc4 at hd
 simp only [Bool.and_eq_true,List.all_eq_true,bne_iff_ne,ne_eq,Bool.or_eq_true,beq_iff_eq,decide_eq_true_eq,Bool.not_eq_true',List.contains_eq_mem,decide_eq_false_iff_not] at hd
 obtain ⟨⟨d1,d2⟩,d3⟩ := hd
 have eM : M = L ++ zd4 X ix := by rw [hM]; unfold zd4; rfl
 subst eM
 refine zqV (L:=L) (ix:=ix) hN hii (.inl hx0) (.inr hx0) hsw hc ⟨hk,fun y hy e => ?_,fun y hy e => ?_,fun x hx => ?_,fun y hy e => ?_⟩ d3 hi hg hgo ht he hs
 ·rcases (d1 y hy).1.1 with z | z
  ·exact absurd e z
  ·exact z
 ·rcases (d1 y hy).1.2 with z | z
  ·exact absurd e z
  ·exact z
 ·unfold zd4 at hx
  exact d2 x hx
 ·rcases (d1 y hy).2 with z | z
  ·exact absurd e z
  ·exact z
end
end L2
namespace L2
open PySem PySem.Spec PyProof.Rows
def Itd (d : Addr) (o : Obj) (kvs : List (Key × V)) : It :=
 ⟨fun i H => H d = some (.frz o (.dK kvs)) /\ i < kvs.length,fun i H x H' => H' = H /\ ∃ k v,kvs[i]? = some (k,v) /\ x = kV k,fun i H => H d = some (.frz o (.dK kvs)) /\ kvs.length <= i⟩
theorem zla {k : Key} {u : Value} (h : zkv k u = true) : RelV (kV k) u:=by
 rcases zaX h with ⟨i,t,rfl,rfl⟩ | ⟨x,t,rfl,rfl⟩
 ·exact ⟨t,rfl⟩
 ·exact ⟨t,rfl⟩
theorem KV.len {kvs : List (Key × V)} {vs : List (Key × Value)} (h : KV kvs vs) : kvs.length = vs.length := Paired.length h
theorem zdN {α β : Type} {R : α -> β -> Prop} : ∀ {xs : List α} {ys : List β} {i : Nat} {x : α},Paired R xs ys -> xs[i]? = some x -> ∃ y,ys[i]? = some y /\ R x y
 | _ :: _,_ :: _,0,_,.cons r _,e => by
  simp only [List.getElem?_cons_zero,Option.some.injEq] at e
  subst e
  exact ⟨_,rfl,r⟩
 | _ :: _,_ :: _,i + 1,_,.cons _ t,e => by
  simp only [List.getElem?_cons_succ] at e ⊢
  exact zdN t e
 | [],_,_,_,_,e => by simp at e
theorem znP {P : Program} {w : World} {H : Hp} {h : Heap} {d : Addr} {o : Obj} {kvs : List (Key × V)} {es : Array DictEntry} {ep : Nat} (ok : zbu P w H h d (.frz o (.dK kvs))) (hd : o.data = .dict es ep) :
  ∃ vs,KV kvs vs /\ h.DictAt (zaK P w) d vs ep /\ (d == sysModules) = false:=by
 obtain ⟨e,_,sy,vs,kv,o',es',ep',e',r1,r2,r3⟩ := ok
 rw [e] at e'
 cases e'
 rw [hd] at r2
 cases r2
 exact ⟨vs,kv,⟨o,es,e,r1,hd,r3⟩,sy⟩
theorem zmz {P : Program} {w : World} {K : PySem.W.Frag} {tg : Expr} {o : Obj} {es : Array DictEntry} {ep : Nat} {kvs : List (Key × V)} (d it : Addr) (hdat : o.data = .dict es ep) :
  Turn P w K tg (Itd d o kvs) [it] it (fun i h => h.IsKeyIter it d i kvs.length ep) where
 mem := by simp
 obj := fun i h st b hb => by
  have e : b = it := by simpa using hb
  subst e
  obtain ⟨o,e,c,d⟩ := st
  exact ⟨o,e,fun v z => by rw [d] at z; cases z⟩
 keep := fun i h h' st k => st.at fun o e => k it (by simp) o e
 item:=by
  intro X hP hw hK hc i pins s σ H E I hf st hg
  subst hP hw hK
  obtain ⟨hd,hi⟩ := hg
  obtain ⟨vs,kv,da,_⟩ := znP (I.hok d _ hd) hdat
  obtain ⟨⟨k',v'⟩,ev,rk,rv⟩ := zdN kv (List.getElem?_eq_getElem hi)
  obtain ⟨f0,f1,f2,f3,f4,f5⟩ := hf it (by simp)
  have st' : s.heap.IsKeyIter it d i vs.length ep := by rw [<- kv.len]; exact st
  refine wpAny_pyNext_dict_item st' da ev fun key h' hk st2 sb => ?_
  have I1 : Inv X pins σ H { s with heap := h' } := I.turned (t' := s.toks) (fun b o hb e => (sb.2 b hb).trans e) f0 f1 f3 f4 f5
  rw [<- kv.len] at st2
  obtain ⟨o,e,c,dd⟩ := id st2
  exact ⟨key,rfl,znJ (s:={ s with heap := h' }) e c dd (by decide) ⟨kV k',H,I1,zla hk,⟨rfl,kvs[i].1,kvs[i].2,List.getElem?_eq_getElem hi,congrArg kV rk.symm⟩,st2,fun b hb => (hf b hb).1⟩⟩
 done:=by
  intro X hP hw hK hc i pins s σ H E I hf st hg
  subst hP hw hK
  obtain ⟨hd,hi⟩ := hg
  obtain ⟨vs,kv,da,_⟩ := znP (I.hok d _ hd) hdat
  obtain ⟨f0,f1,f2,f3,f4,f5⟩ := hf it (by simp)
  have st' : s.heap.IsKeyIter it d i vs.length ep := by rw [<- kv.len]; exact st
  exact wpAny_pyNext_dict_end (I.ok.hd hc) st' da (List.getElem?_eq_none (by rw [<- kv.len]; exact hi)) fun h' eb => ⟨rfl,I.turned (t' := s.toks) (fun b o hb e => eb b o hb e) f0 f1 f3 f4 f5⟩
 self := fun _ _ _ _ _ st h => wpAny_pyIter_keyiter st h
end L2
namespace L2
open PySem PySem.Spec PyProof.Rows
section
variable {κ : Type} [DecidableEq κ]
def zhr (kvs : List (κ × V)) (k : κ) : Option V := (kvs.find? fun kv => decide (kv.1 = k)).map (·.2)
def putK (kvs : List (κ × V)) (k : κ) (v : V) : List (κ × V) :=
 if (kvs.any fun kv => decide (kv.1 = k)) = true then kvs.map (fun kv => if kv.1 = k then (kv.1,v) else kv) else kvs ++ [(k,v)]
def zbN (kvs : List (κ × V)) (k : κ) : List (κ × V) := kvs.filter fun kv => decide (kv.1 ≠ k)
theorem zeH {p : κ × V} {r : List (κ × V)} {k : κ} (e : p.1 = k) : zhr (p :: r) k = some p.2 := by simp [zhr,List.find?_cons,e]
theorem zeI {p : κ × V} {r : List (κ × V)} {k : κ} (e : ¬ p.1 = k) : zhr (p :: r) k = zhr r k := by simp [zhr,List.find?_cons,e]
theorem zkX (k : κ) : ∀ kvs : List (κ × V),(kvs.any fun kv => decide (kv.1 = k)) = (zhr kvs k).isSome
 | [] => rfl
 | p :: r => by
  rw [List.any_cons]
  by_cases e : p.1 = k
  ·simp only [zeH e,decide_eq_true e,Bool.true_or,Option.isSome_some]
  ·rw [zeI e,decide_eq_false e,Bool.false_or]; exact zkX k r
theorem zcY (kvs : List (κ × V)) (k : κ) (v : V) : (putK kvs k v).length <= kvs.length + 1:=by
 unfold putK
 split
 ·rw [List.length_map]; omega
 ·rw [List.length_append,List.length_cons,List.length_nil]; omega
theorem zkR.zeU {o : Option V} {u : Option Value} (r : zkR o u) : o.isSome = u.isSome:=by
 cases o with
 | none => cases u with
  | none => rfl
  | some _ => exact (show False from r).elim
 | some _ => cases u with
  | none => exact (show False from r).elim
  | some _ => rfl
theorem zkR.getD {o : Option V} {u : Option Value} {d : V} {d' : Value} (r : zkR o u) (rd : RelV d d') : RelV (o.getD d) (u.getD d'):=by
 cases o with
 | none => cases u with
  | none => exact rd
  | some _ => exact (show False from r).elim
 | some _ => cases u with
  | none => exact (show False from r).elim
  | some _ => exact r
theorem KV.val {kvs : List (κ × V)} {vs : List (κ × Value)} (r : KV kvs vs) (k : κ) : zkR (zhr kvs k) (valueAt vs k):=by
 unfold KV at r
 induction r with
 | nil => exact True.intro
 | @cons p q ps qs h t ih =>
  obtain ⟨h1,h2⟩ := h
  by_cases e : p.1 = k
  ·have e' : q.1 = k := h1.symm.trans e
   have b : valueAt (q :: qs) k = some q.2 := by simp [valueAt,List.find?_cons,e']
   rw [zeH e,b]; exact h2
  ·have e' : ¬ q.1 = k := fun z => e (h1.trans z)
   have b : valueAt (q :: qs) k = valueAt qs k := by simp [valueAt,List.find?_cons,e']
   rw [zeI e,b]; exact ih
theorem KV.any {kvs : List (κ × V)} {vs : List (κ × Value)} (r : KV kvs vs) (k : κ) : (kvs.any fun kv => decide (kv.1 = k)) = vs.any fun kv => decide (kv.1 = k):=by
 unfold KV at r
 induction r with
 | nil => rfl
 | cons h t ih => rw [List.any_cons,List.any_cons,ih,h.1]
theorem KV.repl {kvs : List (κ × V)} {vs : List (κ × Value)} (r : KV kvs vs) (k : κ) {y : V} {u : Value} (ry : RelV y u) :
  KV (kvs.map fun kv => if kv.1 = k then (kv.1,y) else kv) (vs.map fun kv => if kv.1 = k then (kv.1,u) else kv):=by
 unfold KV at r ⊢
 induction r with
 | nil => exact .nil
 | @cons p q ps qs h t ih =>
  rw [List.map_cons,List.map_cons]
  refine .cons ?_ ih
  obtain ⟨h1,h2⟩ := h
  by_cases e : p.1 = k
  ·rw [if_pos e,if_pos (h1.symm.trans e)]; exact ⟨h1,ry⟩
  ·rw [if_neg e,if_neg (fun z => e (h1.trans z))]; exact ⟨h1,h2⟩
theorem KV.put {kvs : List (κ × V)} {vs : List (κ × Value)} (r : KV kvs vs) (k : κ) {y : V} {u : Value} (ry : RelV y u) : KV (putK kvs k y) (stored vs k u):=by
 unfold putK stored
 rw [r.any k]
 by_cases e : (vs.any fun kv => decide (kv.1 = k)) = true
 ·rw [if_pos e,if_pos e]; exact r.repl k ry
 ·rw [if_neg e,if_neg e]; exact Paired.snoc r ⟨rfl,ry⟩
theorem KV.drop {kvs : List (κ × V)} {vs : List (κ × Value)} (r : KV kvs vs) (k : κ) : KV (zbN kvs k) (without vs k):=by
 unfold KV at r ⊢
 unfold zbN without
 induction r with
 | nil => exact .nil
 | @cons p q ps qs h t ih =>
  obtain ⟨h1,h2⟩ := h
  rw [List.filter_cons,List.filter_cons]
  by_cases e : p.1 = k
  ·have a : ¬ decide (p.1 ≠ k) = true := by simp [e]
   have b : ¬ decide (q.1 ≠ k) = true := by simp [h1.symm.trans e]
   rw [if_neg a,if_neg b]; exact ih
  ·have e' : ¬ q.1 = k := fun z => e (h1.trans z)
   have a : decide (p.1 ≠ k) = true := by simp [e]
   have b : decide (q.1 ≠ k) = true := by simp [e']
   rw [if_pos a,if_pos b]; exact .cons ⟨h1,h2⟩ ih
theorem KV.length {kvs : List (κ × V)} {vs : List (κ × Value)} (r : KV kvs vs) : kvs.length = vs.length := Paired.length r
theorem zgf (kvs : List (κ × V)) (k : κ) : (zbN kvs k).length <= kvs.length := List.length_filter_le _ _
end
theorem zhI {P : Program} {w : World} {k : Key} {u : Value} (r : RelV (kV k) u) : (zaK P w).is k u = true:=by
 cases k with
 | inl i => obtain ⟨t,e⟩ := (show ∃ t,u = Value.int i t from r); subst e; exact zkq P w i t
 | inr x => obtain ⟨t,e⟩ := (show ∃ t,u = Value.str x t from r); subst e; exact zkp P w x t
theorem zjK {P : Program} {w : World} : ∀ {ks : List Key} {us : List Value},Vals (ks.map kV) us -> ItemsAre (zaK P w) ks us
 | [],_,r => by rw [List.map_nil] at r; cases r; exact .nil
 | k :: ks,_,r => by
  rw [List.map_cons] at r
  cases r with
  | cons h t => exact .cons (zhI h) (zjK t)
abbrev KT (H : Hp) : List (List Key × V) -> List (List Key × Addr × Value) -> Prop := Paired fun p q => p.1 = q.1 /\ TAt H q.2.1 (p.1.map kV) /\ RelV p.2 q.2.2
theorem KT.val {H : Hp} {kvs : List (List Key × V)} {xs : List (List Key × Addr × Value)} (r : KT H kvs xs) (k : List Key) : zkR (zhr kvs k) ((atKey xs k).map (·.2)):=by
 induction r with
 | nil => exact True.intro
 | @cons p q ps qs h t ih =>
  obtain ⟨h1,_,h2⟩ := h
  by_cases e : p.1 = k
  ·have e' : q.1 = k := h1.symm.trans e
   have b : atKey (q :: qs) k = some q.2 := by simp [atKey,List.find?_cons,e']
   rw [zeH e,b]; exact h2
  ·have e' : ¬ q.1 = k := fun z => e (h1.trans z)
   have b : atKey (q :: qs) k = atKey qs k := by simp [atKey,List.find?_cons,e']
   rw [zeI e,b]; exact ih
theorem KT.repl {H : Hp} {kvs : List (List Key × V)} {xs : List (List Key × Addr × Value)} (r : KT H kvs xs) (k : List Key) {y : V} {u : Value} (ry : RelV y u) :
  KT H (kvs.map fun kv => if kv.1 = k then (kv.1,y) else kv) (xs.map (putAt k u)):=by
 induction r with
 | nil => exact .nil
 | @cons p q ps qs h t ih =>
  rw [List.map_cons,List.map_cons]
  refine .cons ?_ ih
  obtain ⟨h1,h2,h3⟩ := h
  unfold putAt
  by_cases e : p.1 = k
  ·rw [if_pos e,if_pos (h1.symm.trans e)]; exact ⟨h1,h2,ry⟩
  ·rw [if_neg e,if_neg (fun z => e (h1.trans z))]; exact ⟨h1,h2,h3⟩
theorem KT.put {H : Hp} {kvs : List (List Key × V)} {xs : List (List Key × Addr × Value)} (r : KT H kvs xs) (k : List Key) {b : Addr} {y : V} {u : Value} (hb : TAt H b (k.map kV)) (ry : RelV y u) :
  KT H (putK kvs k y) (storedH xs k b u):=by
 have e : (kvs.any fun kv => decide (kv.1 = k)) = (atKey xs k).isSome:=by
  rw [zkX,(r.val k).zeU,Option.isSome_map]
 unfold putK storedH
 rw [e]
 by_cases q : (atKey xs k).isSome = true
 ·rw [if_pos q,if_pos q]; exact r.repl k ry
 ·rw [if_neg q,if_neg q]; exact Paired.snoc r ⟨rfl,hb,ry⟩
theorem KT.keeps {H H' : Hp} {kvs : List (List Key × V)} {xs : List (List Key × Addr × Value)} (r : KT H kvs xs) (ht : ∀ b ys,TAt H b ys -> TAt H' b ys) : KT H' kvs xs :=
 Paired.zuo r fun _ _ z => ⟨z.1,ht _ _ z.2.1,z.2.2⟩
section
variable {P : Program} {w : World} {H : Hp} {h : Heap} {a : Addr}
theorem zsa {u : HO} (ok : HOk P w H h) (e : Rd H a u) : zbu P w H h a u := e.ok ok
theorem zjS {kvs : List (Key × V)} (ok : HOk P w H h) (e : Rd H a (.dK kvs)) : kvs.length <= sizeLine /\ (a == sysModules) = false /\ ∃ vs,KV kvs vs /\ h.DictOf (zaK P w) a vs :=
 show zbu P w H h a (.dK kvs) from zsa ok e
theorem znW {kvs : List (Key × V)} (ok : HOk P w H h) (e : H a = some (.dK kvs)) : kvs.length <= sizeLine /\ (a == sysModules) = false /\ ∃ vs,KV kvs vs /\ h.DictOf (zaK P w) a vs := zjS ok (.inl e)
theorem zcs {ks : List Key} (ok : HOk P w H h) (e : TAt H a (ks.map kV)) : (tupleKind (zaK P w)).is h ks a:=by
 obtain ⟨_,its,r,o,h1,h2,n,h3⟩ := (show zbu P w H h a (.tup (ks.map kV)) from Rd.ok e ok)
 exact ⟨o,its.toArray,n,h1,h2,h3,by simpa using zjK r⟩
theorem zjP {kvs : List (List Key × V)} (ok : HOk P w H h) (e : Rd H a (.dT kvs)) : kvs.length <= sizeLine /\ (a == sysModules) = false /\
  ∃ xs,KT H kvs xs /\ h.DictOfH (tupleKind (zaK P w)) a xs:=by
 obtain ⟨z,y,xs,r,o,es,ep,h1,h2,h3,h4,h5⟩ := (show zbu P w H h a (.dT kvs) from zsa ok e)
 refine ⟨z,y,xs,r,o,es,ep,h1,h2,h3,h4,fun x hx => ?_,h5⟩
 have all : ∀ {l : List (List Key × V)} {m : List (List Key × Addr × Value)},KT H l m -> ∀ x ∈ m,(tupleKind (zaK P w)).is h x.1 x.2.1:=by
  intro l m q
  induction q with
  | nil => intro x hx; exact nomatch hx
  | @cons p q ps qs hq t ih =>
   intro x hx
   rcases List.mem_cons.mp hx with e | hx
   ·subst e
    exact zcs ok (by rw [<- hq.1]; exact hq.2.1)
   ·exact ih x hx
 exact all r x hx
theorem zpE {kvs : List (List Key × V)} (ok : HOk P w H h) (e : H a = some (.dT kvs)) : kvs.length <= sizeLine /\ (a == sysModules) = false /\
  ∃ xs,KT H kvs xs /\ h.DictOfH (tupleKind (zaK P w)) a xs := zjP ok (.inl e)
end
def ztw (H : Hp) (a : Addr) (y : V) (r : Option V) : Prop :=
 (∃ kvs k,Rd H a (.dK kvs) /\ y = kV k /\ r = zhr kvs k) \/ ∃ kvs k b,Rd H a (.dT kvs) /\ y = .ref b /\ TAt H b (k.map kV) /\ r = zhr kvs k
def zos (H : Hp) (a : Addr) (y v : V) (H' : Hp) : Prop :=
 (∃ kvs k,H a = some (.dK kvs) /\ y = kV k /\ kvs.length < sizeLine /\ H' = upd H a (.dK (putK kvs k v))) \/
 ∃ kvs k b,H a = some (.dT kvs) /\ y = .ref b /\ TAt H b (k.map kV) /\ kvs.length < sizeLine /\ H' = upd H a (.dT (putK kvs k v))
theorem zos.k {H : Hp} {a : Addr} {kvs : List (Key × V)} {k : Key} {v : V} (e : H a = some (.dK kvs)) (hl : kvs.length < sizeLine) : zos H a (kV k) v (upd H a (.dK (putK kvs k v))) := .inl ⟨kvs,k,e,rfl,hl,rfl⟩
theorem zos.t {H : Hp} {a b : Addr} {kvs : List (List Key × V)} {k : List Key} {v : V} (e : H a = some (.dT kvs)) (eb : TAt H b (k.map kV)) (hl : kvs.length < sizeLine) :
  zos H a (.ref b) v (upd H a (.dT (putK kvs k v))) := .inr ⟨kvs,k,b,e,rfl,eb,hl,rfl⟩
section
variable {X : Cx} {pins : List (Addr × Obj)} {σ : St} {H : Hp} {s : Shared} {a : Addr} {y v : V} {u r : Value} {o : Option V} {A : Around} {E : Value -> Shared -> Prop}
theorem Inv.big (I : Inv X pins σ H s) : sysModules < s.heap.objs.size:=by
 have h : mainGlobals < s.heap.objs.size := (I.mod.glob.keeps I.bk).lt
 exact Nat.lt_trans (by decide) h
theorem znX {Q : Value -> Shared -> Prop} (hu : A.units + 1 < cLine) (I : Inv X pins σ H s) (g : ztw H a y (some v)) (ry : RelV y u) (h : ∀ w' s',Inv X pins σ H s' -> RelV v w' -> Q w' s') :
  wpAny (model X.prog X.w) A (getItem (.ref a) u) Q E s:=by
 rcases g with ⟨kvs,k,e,ey,l⟩ | ⟨kvs,k,b,e,ey,eb,l⟩
 ·subst ey
  obtain ⟨z,hd,vs,rel,dd⟩ := zjS I.hok e
  obtain ⟨w',hw,rw'⟩ := zkR.some_of (v:=v) (o:=valueAt vs k) (by rw [l]; exact rel.val k)
  exact wpAny_getItem_of (zhI ry) dd.mapOf hw (h w' _ (I.tok _) rw')
 ·subst ey
  cases (show u = Value.ref b from ry)
  obtain ⟨z,hd,xs,rel,dd⟩ := zjP I.hok e
  obtain ⟨w',hw,rw'⟩ := zkR.some_of (v:=v) (o:=(atKey xs k).map (·.2)) (by rw [l]; exact rel.val k)
  obtain ⟨p,hp,hp2⟩ := Option.map_eq_some_iff.mp hw
  refine wpAny_getItem_heap (tupleKind_room_in1 hu) (zcs I.hok eb) dd hp ?_
  rw [hp2]
  exact h w' _ (I.tok _) rw'
theorem zvL {Q : Value -> Shared -> Prop} (hu : A.units + 1 < cLine) (I : Inv X pins σ H s) (g : ztw H a y o) (ry : RelV y u) (h : ∀ s',Inv X pins σ H s' -> Q (.bool o.isSome) s') :
  wpAny (model X.prog X.w) A (compareOp .In u (.ref a)) Q E s:=by
 rcases g with ⟨kvs,k,e,ey,l⟩ | ⟨kvs,k,b,e,ey,eb,l⟩
 ·subst ey
  obtain ⟨z,hd,vs,rel,dd⟩ := zjS I.hok e
  refine wpAny_in_of (zhI ry) hd dd.mapOf ?_
  rw [<- (rel.val k).zeU,<- l]
  exact h _ (I.tok _)
 ·subst ey
  cases (show u = Value.ref b from ry)
  obtain ⟨z,hd,xs,rel,dd⟩ := zjP I.hok e
  refine wpAny_in_heap (tupleKind_room_in1 hu) (zcs I.hok eb) hd dd ?_
  have q := (rel.val k).zeU
  rw [Option.isSome_map] at q
  rw [<- q,<- l]
  exact h _ (I.tok _)
theorem zcz {h' : Heap} {t' : Nat} {ob : HO} (I : Inv X pins σ H s) (mu : Mut (H a)) (hs : Heap.SameBut a s.heap h') (he : ∃ q,h'.get? a = some q) (new : zbu X.prog X.w (upd H a ob) h' a ob) :
  Inv X pins σ (upd H a ob) { s with heap := h',toks := t' } :=
 I.write (x:=a) (e:=a) mu (.inl rfl) (fun b q hb z => (hs.2 b hb).trans z) he new
theorem zlF {P : Program} {w : World} {H' : Hp} {h' : Heap} {kvs : List (Key × V)} {vs : List (Key × Value)} (z : kvs.length <= sizeLine) (hd : (a == sysModules) = false) (rel : KV kvs vs) (dd : h'.DictOf (zaK P w) a vs) :
  zbu P w H' h' a (.dK kvs) := ⟨z,hd,vs,rel,dd⟩
theorem zg1 {H' : Hp} {Q : Unit -> Shared -> Prop} (hu : A.units + 1 < cLine) (I : Inv X pins σ H s) (g : zos H a y v H') (ry : RelV y u) (rv : RelV v r) (h : ∀ s',Inv X pins σ H' s' -> Q () s') :
  wpAny (model X.prog X.w) A (setItem (.ref a) u r) Q E s:=by
 rcases g with ⟨kvs,k,e,ey,l,eH⟩ | ⟨kvs,k,b,e,ey,eb,l,eH⟩
 ·subst ey eH
  obtain ⟨z,hd,vs,rel,dd⟩ := znW I.hok e
  have hz : vs.length <= sizeLine := by rw [<- rel.length]; exact z
  have hl : (putK kvs k v).length <= sizeLine := by have := zcY kvs k v; omega
  refine wpAny_setItem_pairs (hsz:=hz) (zhI ry) dd fun h' dd' hs => h _ ?_
  have he : ∃ q,h'.get? a = some q := let ⟨q,_,_,hq,_⟩ := dd'; ⟨q,hq⟩
  exact zcz I (by rw [e]; exact True.intro) hs he (zlF hl hd (rel.put k rv) dd')
 ·subst ey eH
  cases (show u = Value.ref b from ry)
  obtain ⟨z,hd,xs,rel,dd⟩ := zpE I.hok e
  have hz : xs.length <= sizeLine := by rw [<- Paired.length rel]; exact z
  have hl : (putK kvs k v).length <= sizeLine := by have := zcY kvs k v; omega
  refine wpAny_setItem_heap (hsz:=hz) (tupleKind_room_in1 hu) (zcs I.hok eb) dd fun h' dd' hs => h _ ?_
  obtain ⟨q,es,ep,hq,h2,h3,h4,_,h5⟩ := dd'
  refine zcz I (by rw [e]; exact True.intro) hs ⟨q,hq⟩ ⟨hl,hd,_,(rel.put k eb rv).keeps fun c ys ec => ?_,q,es,ep,hq,h2,h3,h4,h5⟩
  exact ec.upd (fun _ z => zf0 z e (fun z => nomatch z)) fun _ _ z => zf0 z e (fun z => nomatch z)
end
section
variable {X : Cx} {pins : List (Addr × Obj)} {σ : St} {H : Hp} {s : Shared} {a : Addr} {kvs : List (Key × V)} {k : Key} {u : Value} {A : Around} {E : Value -> Shared -> Prop}
theorem znZ {Q : Unit -> Shared -> Prop} (I : Inv X pins σ H s) (e : H a = some (.dK kvs)) (ry : RelV (kV k) u) (l : (zhr kvs k).isSome = true) (h : ∀ s',Inv X pins σ (upd H a (.dK (zbN kvs k))) s' -> Q () s') :
  wpAny (model X.prog X.w) A (delItem (.ref a) u) Q E s:=by
 obtain ⟨z,hd,vs,rel,dd⟩ := znW I.hok e
 refine wpAny_delItem_slot dd.typeIs (by decide) PySem.F.slot_dict_delitem
  (call_meetsIn PySem.F.slot_dict_delitem dd.typeIs PySem.F.entry_dict_delitem (PySem.F.args_dict_delitem_2 _ _) (meets_dict_delitem_pairs (zaK X.prog X.w) a (zhI ry)) ⟨vs,dd,by rw [<- rel.length]; exact z,by rw [<- (rel.val k).zeU]; exact l,fun h' dd' hs => h _ ?_⟩)
 have he : ∃ q,h'.get? a = some q := let ⟨q,_,_,hq,_⟩ := dd'; ⟨q,hq⟩
 exact zcz I (by rw [e]; exact True.intro) hs he (zlF (Nat.le_trans (zgf kvs k) z) hd (rel.drop k) dd')
theorem zuF {v : V} {more : List Value} {Q : Value -> Shared -> Prop} (I : Inv X pins σ H s) (e : H a = some (.dK kvs)) (ry : RelV (kV k) u) (l : zhr kvs k = some v) (hm : more = [] \/ ∃ x,more = [x])
  (h : ∀ w' s',Inv X pins σ (upd H a (.dK (zbN kvs k))) s' -> RelV v w' -> Q w' s') : wpAny (model X.prog X.w) A (call (.builtin "dict.pop") (.ref a :: u :: more)) Q E s:=by
 obtain ⟨z,hd,vs,rel,dd⟩ := znW I.hok e
 obtain ⟨w',hw,rw'⟩ := zkR.some_of (v:=v) (o:=valueAt vs k) (by rw [<- l]; exact rel.val k)
 have hp : (keyPart u).isSome = true:=by
  cases k with
  | inl i => obtain ⟨t,q⟩ := (show ∃ t,u = Value.int i t from ry); subst q; rfl
  | inr x => obtain ⟨t,q⟩ := (show ∃ t,u = Value.str x t from ry); subst q; rfl
 have ha : argsOk "dict.pop" ⟨.ref a :: u :: more,[]⟩:=by
  rcases hm with q | ⟨x,q⟩
  ·subst q; exact PySem.F.args_dict_pop_2 _ _
  ·subst q; exact PySem.F.args_dict_pop_3 _ _ _
 refine call_meetsIn PySem.F.slot_dict_pop dd.typeIs PySem.F.entry_dict_pop ha (meets_dict_pop_there (zaK X.prog X.w) a (zhI ry) more hm hp)
  ⟨vs,w',dd,by rw [<- rel.length]; exact z,hw,fun h' dd' hs => h w' _ ?_ rw'⟩
 have he : ∃ q,h'.get? a = some q := let ⟨q,_,_,hq,_⟩ := dd'; ⟨q,hq⟩
 exact zcz I (by rw [e]; exact True.intro) hs he (zlF (Nat.le_trans (zgf kvs k) z) hd (rel.drop k) dd')
end
theorem zkJ {X : Cx} {pins : List (Addr × Obj)} {σ : St} {H : Hp} {s : Shared} {a : Addr} {y : V} {o : Option V} (I : Inv X pins σ H s) (g : ztw H a y o) : s.TypeIs (.ref a) "dict":=by
 rcases g with ⟨kvs,k,e,_,_⟩ | ⟨kvs,k,b,e,_,_,_⟩
 ·obtain ⟨_,_,vs,_,dd⟩ := zjS I.hok e
  exact dd.typeIs
 ·obtain ⟨_,_,xs,_,dd⟩ := zjP I.hok e
  exact dd.typeIs
theorem zpG {P : Program} {w : World} {H : Hp} (h : Heap) (hb : sysModules < h.objs.size) : zbu P w H (h.push { cls := .type "dict",data := .dict #[] }) h.objs.size (.dK []) :=
 ⟨Nat.zero_le _,beq_eq_false_iff_ne.mpr (Ne.symm (Nat.ne_of_lt hb)),[],.nil,Heap.DictOf.new h⟩
theorem zpF {P : Program} {w : World} {H : Hp} (h : Heap) (hb : sysModules < h.objs.size) : zbu P w H (h.push { cls := .type "dict",data := .dict #[] }) h.objs.size (.dT []) :=
 ⟨Nat.zero_le _,beq_eq_false_iff_ne.mpr (Ne.symm (Nat.ne_of_lt hb)),[],.nil,_,#[],0,Heap.get?_push_size _ rfl,⟨rfl,rfl,rfl⟩,rfl,rfl,List.nodup_nil⟩
def zr0 : TE := fun _ H Q => ∀ p,H p = none -> Q (.ref p) (upd H p (.dT []))
section
variable {X : Cx} {pos : Pos}
theorem zpd : PE X (.Dict [] [] pos) zr0 := fun pins s σ H Q I h =>
 wpAny_Dict_empty ⟨.ref s.heap.objs.size,_,I.laid (a:=s.heap.objs.size) (o:=.dT []) (t' := s.toks) (fun _ _ q => Heap.get?_push_of_some _ q) (Nat.le_refl _) (zpF s.heap I.big),rfl,h _ (I.hok.fresh (Nat.le_refl _))⟩
end
structure M1 (X : Cx) (o : Expr) (m : Str) (apos : Pos) (e : Expr) (cpos : Pos) : Prop where
 base : attributeBase o m X.env (eval o X.env) = eval o X.env
 few : ((backTo cpos (starEach [e] X.env)).all (fun x => !x.1) && (backToKw cpos (keywordEach [] X.env)).all (fun x => x.1.isSome)
  && decide (([e] : List Expr).length + ([] : List Keyword).length + (if ([] : List Keyword).isEmpty then 0 else 1) < 30)) = true
 line : (apos.endLine == cpos.line) = true
 trees : backTo cpos (starEach [e] X.env) = [(false,eval e X.env)]
structure M2 (X : Cx) (o : Expr) (m : Str) (apos : Pos) (e f : Expr) (cpos : Pos) : Prop where
 base : attributeBase o m X.env (eval o X.env) = eval o X.env
 few : ((backTo cpos (starEach [e,f] X.env)).all (fun x => !x.1) && (backToKw cpos (keywordEach [] X.env)).all (fun x => x.1.isSome)
  && decide (([e,f] : List Expr).length + ([] : List Keyword).length + (if ([] : List Keyword).isEmpty then 0 else 1) < 30)) = true
 line : (apos.endLine == cpos.line) = true
 trees : backTo cpos (starEach [e,f] X.env) = [(false,eval e X.env),(false,eval f X.env)]
def IsD (H : Hp) (a : Addr) : Prop := (∃ kvs,Rd H a (.dK kvs)) \/ ∃ kvs,Rd H a (.dT kvs)
theorem zqg {X : Cx} {pins : List (Addr × Obj)} {σ : St} {H : Hp} {s : Shared} {a : Addr} (I : Inv X pins σ H s) (d : IsD H a) :
  s.TypeIs (.ref a) "dict" /\ (∀ b,Value.ref a = .ref b -> ∃ ob,s.heap.get? b = some ob /\ ob.dict = none) /\ (a == sysModules) = false:=by
 rcases d with ⟨kvs,e⟩ | ⟨kvs,e⟩
 ·obtain ⟨_,hd,vs,_,dd⟩ := zjS I.hok e
  refine ⟨dd.typeIs,fun b q => ?_,hd⟩
  cases q
  obtain ⟨ob,_,_,h1,h2,_⟩ := dd
  exact ⟨ob,h1,h2.2.1⟩
 ·obtain ⟨_,hd,xs,_,dd⟩ := zjP I.hok e
  refine ⟨dd.typeIs,fun b q => ?_,hd⟩
  cases q
  obtain ⟨ob,_,_,h1,h2,_⟩ := dd
  exact ⟨ob,h1,h2.2.1⟩
section
variable {X : Cx} {pins : List (Addr × Obj)} {σ : St} {H : Hp} {s : Shared} {a : Addr} {y d : V} {u r : Value} {o : Option V} {A : Around} {E : Value -> Shared -> Prop}
theorem ztg {Q : Value -> Shared -> Prop} (hu : A.units + 1 < cLine) (I : Inv X pins σ H s) (g : ztw H a y o) (ry : RelV y u) (rd : RelV d r) (h : ∀ w' s',Inv X pins σ H s' -> RelV (o.getD d) w' -> Q w' s') :
  wpAny (model X.prog X.w) A (call (.builtin "dict.get") [.ref a,u,r]) Q E s:=by
 rcases g with ⟨kvs,k,e,ey,l⟩ | ⟨kvs,k,b,e,ey,eb,l⟩
 ·subst ey
  obtain ⟨z,hd,vs,rel,dd⟩ := zjS I.hok e
  refine call_meetsIn PySem.F.slot_dict_get dd.typeIs PySem.F.entry_dict_get (PySem.F.args_dict_get_3 _ _ _) (meets_dict_get_default (zaK X.prog X.w) a (zhI ry) hd r) ⟨_,dd.mapOf,h _ _ (I.tok _) ?_⟩
  rw [l]
  exact (rel.val k).getD rd
 ·subst ey
  cases (show u = Value.ref b from ry)
  obtain ⟨z,hd,xs,rel,dd⟩ := zjP I.hok e
  refine call_meetsIn PySem.F.slot_dict_get dd.typeIs PySem.F.entry_dict_get (PySem.F.args_dict_get_3 _ _ _) (meetsH_dict_get_default (tupleKind (zaK X.prog X.w)) a b hd r) ⟨tupleKind_room_in1 hu,k,xs,zcs I.hok eb,dd,h _ _ (I.tok _) ?_⟩
  rw [l]
  exact (rel.val k).getD rd
end
end L2
namespace L2
open PySem PySem.Spec PyProof.Rows
section
variable {κ : Type} [DecidableEq κ]
theorem zjQ {p : κ × V} {r : List (κ × V)} {k : κ} (e : p.1 = k) : zbN (p :: r) k = zbN r k:=by
 unfold zbN
 rw [List.filter_cons,if_neg (by simp [e])]
theorem zjR {p : κ × V} {r : List (κ × V)} {k : κ} (e : ¬ p.1 = k) : zbN (p :: r) k = p :: zbN r k:=by
 unfold zbN
 rw [List.filter_cons,if_pos (by simp [e])]
end
end L2
namespace L2
open PySem PySem.Spec PyProof.Rows
section
variable {prog : Program} {w : World} {A : Around} {R : Result -> Shared -> Prop} {s : Shared}
theorem zjT {kx vx target iter : Expr} {ifs : List Expr} {scope : Scope} {pos : Pos} {it : Value} {D : Addr} {env : Env} (I : Nat -> Shared -> Prop)
  (turn : ∀ n s,I n s -> wpAny (model prog w) A (pyNext it) (fun r s₁ => match r with
   | none => R (.ok .next) s₁
   | some v => wpAny (model prog w) A (letOwnedTupleGo target it v) (fun _ s₀ => wpAny (model prog w) A (assign target env v) (fun _ s₂ =>
     wpAny (model prog w) A (forIn ifs true fun c r => if r = true then do let ok <- isTrue c env (eval c env); pure (ForInStep.yield ok) else pure (ForInStep.yield r)) (fun ok s₃ =>
      if ok = true then wpAny (model prog w) A (eval kx env) (fun kv s₄ => wpAny (model prog w) A (eval vx env) (fun vv s₅ =>
       wpAny (model prog w) A (dictSet D kv vv) (fun _ s₆ => ∃ m,m < n /\ I m s₆) (notedBy (model prog w) A env fun e s' => R (.error e) s') s₅) (notedBy (model prog w) A env fun e s' => R (.error e) s') s₄) (notedBy (model prog w) A env fun e s' => R (.error e) s') s₃
      else ∃ m,m < n /\ I m s₃) (notedBy (model prog w) A env fun e s' => R (.error e) s') s₂) (notedBy (model prog w) A env fun e s' => R (.error e) s') s₀) (notedBy (model prog w) A env fun e s' => R (.error e) s') s₁) (notedBy (model prog w) A env fun e s' => R (.error e) s') s)
  (n : Nat) (h : I n s) : codeAny (model prog w) A (.compLoop (.DictComp kx vx [⟨target,iter,ifs,0⟩] scope pos) 0 it (.ref D) env) R s:=by
 refine codeAny_loop rfl I (fun n s hI => ?_) n h
 show wpAny _ A ((compTurn (.DictComp kx vx [⟨target,iter,ifs,0⟩] scope pos) 0 it (.ref D) env).onRaise (fun x => do noteFrame x env; theTreesLotGoes x)) _ _ s
 refine wpAny_noted ?_
 rw [compTurn_dict]
 refine wpAny_bind (wpAny_standAt (wpAny_bind (wpAny_mono (turn n s hI) (fun r s₁ h₁ => ?_) fun _ _ h' => h')))
 cases r with
 | none => exact wpAny_pure h₁
 | some v =>
  refine wpAny_bind (wpAny_mono h₁ (fun _ s₀ h₀ => ?_) fun _ _ h' => h')
  refine wpAny_bind (wpAny_mono h₀ (fun _ s₂ h₂ => wpAny_bind (wpAny_mono h₂ (fun ok s₃ h₃ => ?_) fun _ _ h' => h')) fun _ _ h' => h')
  cases ok with
  | false => exact wpAny_pure ⟨rfl,h₃⟩
  | true =>
   exact wpAny_bind (wpAny_bind (wpAny_mono h₃ (fun kv s₄ h₄ => wpAny_bind (wpAny_holding (wpAny_mono h₄ (fun vv s₅ h₅ => wpAny_bind (wpAny_standAt (wpAny_holding (wpAny_mono h₅ (fun _ s₆ h₆ => wpAny_pure ⟨rfl,h₆⟩) fun _ _ h' => h')))) fun _ _ h' => h'))) fun _ _ h' => h'))
end
section
variable {X : Cx} {pins : List (Addr × Obj)} {σ : St} {H : Hp} {s : Shared} {a : Addr} {kvs : List (Key × V)} {k : Key} {v : V} {u r : Value} {A : Around} {E : Value -> Shared -> Prop}
theorem zuE {Q : Unit -> Shared -> Prop} (I : Inv X pins σ H s) (e : H a = some (.dK kvs)) (l : kvs.length < sizeLine) (ry : RelV (kV k) u) (rv : RelV v r) (h : ∀ s',Inv X pins σ (upd H a (.dK (putK kvs k v))) s' -> Q () s') :
  wpAny (model X.prog X.w) A (dictSet a u r) Q E s:=by
 obtain ⟨z,hd,vs,rel,dd⟩ := znW I.hok e
 have hz : vs.length <= sizeLine := by rw [<- rel.length]; exact z
 have hl : (putK kvs k v).length <= sizeLine := by have := zcY kvs k v; omega
 refine wpAny_dictSet_pairs (hsz:=hz) (zhI ry) dd fun h' dd' hs => h _ ?_
 have he : ∃ q,h'.get? a = some q := let ⟨q,_,_,hq,_⟩ := dd'; ⟨q,hq⟩
 exact zcz I (by rw [e]; exact True.intro) hs he (zlF hl hd (rel.put k rv) dd')
end
end L2
namespace L2
open PySem PySem.Spec PyProof.Rows
end L2
namespace L2
open PySem PySem.Spec PyProof.Rows
end L2
namespace L2
open PySem PySem.Spec PyProof.Rows
section
variable {prog : Program} {w : World} {A : Around} {E : Value -> Shared -> Prop} {s : Shared} {K : Type} [DecidableEq K] {knd : PySem.KeyKind prog w K}
theorem zjW {d : Addr} {kvs : List (K × Value)} {ep : Nat} {Q : List Value -> Shared -> Prop} (hh : A.handled = none) (sy : (d == sysModules) = false) (hm : s.heap.DictAt knd d kvs ep) (hn : kvs.length <= 1000)
  (hQ : ∀ s' (acc : Array Value),(∀ b o,s.heap.get? b = some o -> s'.heap.get? b = some o) -> s'.gens = s.gens -> s'.drawn = s.drawn -> s'.os = s.os -> s.heap.objs.size <= s'.heap.objs.size -> ItemsOf (fun i v => ∃ k x,kvs[i]? = some (k,x) /\ knd.is k v = true) acc kvs.length -> Q acc.toList s') :
  wpAny (model prog w) A (collect (.ref d)) Q E s:=by
 unfold collect
 refine wpAny_bind (wpAny_runValue (codeAny_builtin F.entry_proto_collect ?_))
 rw [Around.under_plainId F.plain_proto_collect _]
 show wpAny _ A.in1 (newList [] >>= fun l => again (.builtin "list.__iadd__" ⟨[l,.ref d],[]⟩)) _ _ s
 refine wpAny_bind (wpAny_newObj_type ?_)
 refine wpAny_pure ⟨plainId_quiet F.plain_list_iadd _,codeAny_builtin F.entry_list_iadd ?_⟩
 rw [Around.under_plainId F.plain_list_iadd _]
 have dl := hm.lt_size
 have hm1 := hm.push { cls := .type "list",data := .seq ([] : List Value).toArray }
 have hSd : s.heap.objs.size ≠ d := Nat.ne_of_gt dl
 have h1 : Builtin.List.listSameRef (.ref s.heap.objs.size) (.ref d) = false := by simp [Builtin.List.listSameRef,hSd]
 show wpAny _ A.in1 (Builtin.List.listExtendWith (.ref s.heap.objs.size) (.ref d) (.ref s.heap.objs.size)) _ _ _
 unfold Builtin.List.listExtendWith
 refine wpAny_bind (wpAny_typeOf (s:={ s with heap := s.heap.push { cls := .type "list",data := .seq ([] : List Value).toArray } }) hm1.dictOf.typeIs ?_)
 rw [if_neg (by rw [h1]; decide)]
 refine wpAny_bind (wpAny_pyIter_dict (s:={ s with heap := s.heap.push { cls := .type "list",data := .seq ([] : List Value).toArray } }) sy hm1 ?_)
 refine wpAny_bind (wpAny_holding ?_)
 have I2 : s.heap.objs.size + 1 = (s.heap.push { cls := .type "list",data := .seq ([] : List Value).toArray }).objs.size := (Heap.size_push ..).symm
 have hm2 := hm1.push { cls := .type "dict_keyiterator",data := .fields #[.ref d,.int 0 0,.int kvs.length 0,.int ep 0] }
 unfold Builtin.List.listLengthHint
 refine wpAny_bind (wpAny_specialOf hm2.dictOf.typeIs F.slot_dict_len.lookup ?_)
 generalize hid : ("dict.__len__" : String) = id0
 wp_delta
 rw [show splitId id0 = some ("dict","__len__") from by subst hid; decide +kernel]
 subst hid
 refine wpAny_bind (wpAny_isInstance (b:=true) hm2.dictOf.typeIs (by rw [isSubtype_type]; kernel_rfl) ?_)
 rw [if_neg (by decide)]
 dsimp only
 rw [if_pos (by decide +kernel)]
 refine wpAny_bind (wpAny_typeOf hm2.dictOf.typeIs ?_)
 refine wpAny_pure ?_
 rw [if_pos (by decide +kernel)]
 refine wpAny_bind (wpAny_rule ?_)
 unfold Builtin.List.listTouch
 have hS0 : ((s.heap.push { cls := .type "list",data := .seq ([] : List Value).toArray }).push { cls := .type "dict_keyiterator",data := .fields #[.ref d,.int 0 0,.int kvs.length 0,.int ep 0] }).get? s.heap.objs.size = some (seqObj "list" #[] 0) := Heap.get?_push_of_some _ (Heap.get?_push_size _ rfl)
 refine wpAny_bind (wpAny_bind (listUpdate_at hS0 rfl ?_ (Nat.zero_le _) (by show 1 <= sizeLine + 1; omega)))
 have hS1 := get?_update_seq hS0 (·.push .none)
 refine listUpdate_at hS1 rfl ?_ (by show 1 <= sizeLine; rw [sizeLine_eq]; decide) (by show 0 <= sizeLine + 1; omega)
 have hS2 := get?_update_seq hS1 (·.pop)
 have up : ∀ b o,b ≠ s.heap.objs.size -> ((s.heap.push { cls := .type "list",data := .seq ([] : List Value).toArray }).push { cls := .type "dict_keyiterator",data := .fields #[.ref d,.int 0 0,.int kvs.length 0,.int ep 0] }).get? b = some o ->
   ((((s.heap.push { cls := .type "list",data := .seq ([] : List Value).toArray }).push { cls := .type "dict_keyiterator",data := .fields #[.ref d,.int 0 0,.int kvs.length 0,.int ep 0] }).update s.heap.objs.size (Obj.mapSeq fun x => x.push Value.none)).update s.heap.objs.size (Obj.mapSeq fun x => x.pop)).get? b = some o := fun b o hb e =>
  (((Heap.SameBut.update ..).2 b hb).trans ((Heap.SameBut.update ..).2 b hb)).trans e
 have hI : ((s.heap.push { cls := .type "list",data := .seq ([] : List Value).toArray }).push { cls := .type "dict_keyiterator",data := .fields #[.ref d,.int 0 0,.int kvs.length 0,.int ep 0] }).get? (s.heap.push { cls := .type "list",data := .seq ([] : List Value).toArray }).objs.size = some { cls := .type "dict_keyiterator",data := .fields #[.ref d,.int 0 0,.int kvs.length 0,.int ep 0] } := Heap.get?_push_size _ rfl
 have neI : (s.heap.push { cls := .type "list",data := .seq ([] : List Value).toArray }).objs.size ≠ s.heap.objs.size := by rw [<- I2]; omega
 have old : ∀ b o,s.heap.get? b = some o -> ((s.heap.push { cls := .type "list",data := .seq ([] : List Value).toArray }).push { cls := .type "dict_keyiterator",data := .fields #[.ref d,.int 0 0,.int kvs.length 0,.int ep 0] }).get? b = some o := fun b o e => Heap.get?_push_of_some _ (Heap.get?_push_of_some _ e)
 generalize ((((s.heap.push { cls := .type "list",data := .seq ([] : List Value).toArray }).push { cls := .type "dict_keyiterator",data := .fields #[.ref d,.int 0 0,.int kvs.length 0,.int ep 0] }).update s.heap.objs.size (Obj.mapSeq fun x => x.push Value.none)).update s.heap.objs.size (Obj.mapSeq fun x => x.pop)) = h5 at hS2 up ⊢
 have st : h5.IsKeyIter (s.heap.push { cls := .type "list",data := .seq ([] : List Value).toArray }).objs.size d 0 kvs.length ep := ⟨_,up _ _ neI hI,rfl,rfl⟩
 have da : h5.DictAt knd d kvs ep := hm2.at' fun o e => up d o (Ne.symm hSd) e
 generalize hIa : (s.heap.push { cls := .type "list",data := .seq ([] : List Value).toArray }).objs.size = Ia at st neI hI ⊢
 have ia : Ia = s.heap.objs.size + 1 := by rw [<- hIa]; exact I2.symm
 have ne : d ≠ Ia := by rw [ia]; exact Nat.ne_of_lt (Nat.lt_succ_of_lt dl)
 have nS : s.heap.objs.size ∉ [Ia,d] := fun h => by
  rcases List.mem_cons.mp h with c | c
  ·exact neI c.symm
  ·exact hSd (List.mem_singleton.mp c)
 have W := (Walks.dictKeys (knd:=knd) (A:=A.in1) hh Ia d ne kvs ep).toS
 refine wpAny_pure ⟨plainId_quiet F.plain_extend_loop _,codeAny_extend_loopS W (by rw [sizeLine_eq]; omega) s.heap.objs.size nS _ kvs.length 0 _ _ _ rfl (Nat.zero_le _) ⟨st,da⟩ hS2 (ItemsOf.nil _) fun s' acc' c' mv hS' hacc => ?_⟩
 show wpAny _ A (load s.heap.objs.size >>= _) _ _ s'
 refine wpAny_bind (wpAny_load hS' ?_)
 refine wpAny_pure (hQ s' acc' (fun b o e => ?_) mv.gens mv.drawn mv.os (Nat.le_of_lt (Heap.lt_size hS')) hacc)
 have lt := Heap.lt_size e
 have b1 : b ≠ s.heap.objs.size := Nat.ne_of_lt lt
 have b2 : b ≠ Ia := by rw [ia]; exact Nat.ne_of_lt (Nat.lt_succ_of_lt lt)
 refine mv.heap b o (fun h => ?_) (up b o b1 (old b o e))
 rcases List.mem_cons.mp h with c | c
 ·exact b1 c
 ·exact b2 (List.mem_singleton.mp c)
end
end L2
namespace L2
open PySem PySem.Spec PyProof.Rows
theorem zkf : ∀ {xs : List V} {us : List Value},xs.length = us.length -> (∀ (j : Nat) x u,xs[j]? = some x -> us[j]? = some u -> RelV x u) -> Vals xs us
 | [],[],_,_ => .nil
 | x :: xs,u :: us,l,h => .cons (h 0 x u rfl rfl) (zkf (by simpa using l) fun j y v e1 e2 => h (j + 1) y v (by simpa using e1) (by simpa using e2))
end L2
namespace L2
open PySem PySem.Spec PyProof.Rows
end L2
namespace L2
open PySem PySem.Spec PyProof.Rows
end L2
namespace PySem
open Spec
section
variable {prog : Program} {w : World} {A : Around} {E : Value -> Shared -> Prop} {s : Shared} {K : Type} [DecidableEq K] {knd : HeapKind prog w K}
def zdg (xs : List (K × Addr × Value)) (k : K) : List (K × Addr × Value) := xs.filter fun x => decide (x.1 ≠ k)
theorem zgW {k : K} {p : Addr × Value} : ∀ {xs : List (K × Addr × Value)} {j : Nat},(xs.map (·.1)).Nodup -> xs[j]? = some (k,p) -> xs.eraseIdx j = zdg xs k
 | [],j,_,h => by simp at h
 | x :: xs,0,hn,h => by
  have hx : x = (k,p) := by simpa using h
  subst hx
  rw [List.map_cons,List.nodup_cons] at hn
  have hf : zdg ((k,p) :: xs) k = zdg xs k := by simp [zdg]
  rw [hf]
  show xs = _
  unfold zdg
  rw [List.filter_eq_self.mpr]
  intro y hy
  refine decide_eq_true fun e => hn.1 ?_
  show k ∈ _
  rw [<- e]
  exact List.mem_map_of_mem hy
 | x :: xs,j + 1,hn,h => by
  rw [List.map_cons,List.nodup_cons] at hn
  have h' : xs[j]? = some (k,p) := by simpa using h
  have hne : x.1 ≠ k := fun e => hn.1 (by rw [e]; exact List.mem_map.mpr ⟨(k,p),List.mem_of_getElem? h',rfl⟩)
  have hf : zdg (x :: xs) k = x :: zdg xs k := by simp [zdg,hne]
  rw [List.eraseIdx_cons_succ,zgW hn.2 h',hf]
theorem zjO {α β : Type} (f : α -> β) : ∀ (l : List α) (j : Nat),(l.map f).eraseIdx j = (l.eraseIdx j).map f
 | [],_ => rfl
 | _ :: _,0 => rfl
 | x :: l,j + 1 => by rw [List.map_cons,List.eraseIdx_cons_succ,List.eraseIdx_cons_succ,List.map_cons,zjO f l j]
theorem zk2 {d a : Addr} {xs : List (K × Addr × Value)} {k : K} {Q : Option DictEntry -> Shared -> Prop} (hu : knd.room A) (hkey : knd.is s.heap k a) (hm : s.heap.DictOfH knd d xs) (there : ∃ p,(k,p) ∈ xs)
  (hQ : ∀ e h',h'.DictOfH knd d (zdg xs k) -> Heap.SameBut d s.heap h' -> Q (some e) { s with heap := h',toks := s.toks + knd.draws k }) (hsz : xs.length <= sizeLine) :
  wpAny (model prog w) A (Builtin.Dict.takeOut d (.ref a)) Q E s:=by
 obtain ⟨o,es,ep,ho,hc,hd,he,his,hn⟩ := hm
 unfold Builtin.Dict.takeOut
 try with_reducible refine wpAny_holding ?_
 refine wpAny_bind (knd.pyHash hu hkey ?_)
 refine wpAny_bind (wpAny_dictFind_heap (s:={ s with toks := s.toks + knd.draws k }) hu hkey ho hd he his hn ?_ ?_)
 ·intro hno
  obtain ⟨p,hp⟩ := there
  obtain ⟨j,hj⟩ := List.getElem?_of_mem hp
  exact absurd hj (hno j p)
 ·intro j p hj
  refine wpAny_bind (wpAny_dictEntries (s:={ s with toks := s.toks + knd.draws k }) ho hd ?_)
  rw [entry_at he j,hj]
  refine wpAny_bind (wpAny_updateDictKeys (hz:=by have e := size_of_entries he; omega) (s:={ s with toks := s.toks + knd.draws k }) ho hd (wpAny_pure (hQ _ _ ⟨_,_,ep + 1,Heap.get?_update_self _ ho (Obj.isFreed_of_dict (Obj.data_mapDictKeys hd _)),
   hc.mapDictKeys _,Obj.data_mapDictKeys hd _,?_,?_,?_⟩ (Heap.SameBut.update ..))))
  ·rw [<- zgW hn hj]
   have : (es.eraseIdxIfInBounds j).toList = es.toList.eraseIdx j:=by
    obtain ⟨l⟩ := es
    simp
   rw [this,he,zjO]
  ·intro x hx
   exact knd.keeps (his x (List.mem_filter.mp hx).1) ho hd (Heap.SameBut.update ..)
  ·exact List.Nodup.sublist (List.Sublist.map _ List.filter_sublist) hn
theorem zpH {d a : Addr} {xs : List (K × Addr × Value)} {k : K} {Q : Unit -> Shared -> Prop} (hu : knd.room A.in1) (hkey : knd.is s.heap k a) (hm : s.heap.DictOfH knd d xs) (there : ∃ p,(k,p) ∈ xs)
  (hQ : ∀ h',h'.DictOfH knd d (zdg xs k) -> Heap.SameBut d s.heap h' -> Q () { s with heap := h',toks := s.toks + knd.draws k }) (hsz : xs.length <= sizeLine) :
  wpAny (model prog w) A (delItem (.ref d) (.ref a)) Q E s:=by
 refine wpAny_delItem_slot hm.typeIs (by decide) PySem.F.slot_dict_delitem (wpAny_call_entry PySem.F.slot_dict_delitem hm.typeIs PySem.F.entry_dict_delitem ?_ (PySem.F.args_dict_delitem_2 _ _))
 unfold Builtin.«dict.__delitem__»
 refine wpAny_bind ?_
 unfold Builtin.Dict.dictSlotArgs
 refine wpAny_bind (wpAny_notOrdered_dict hm.typeIs ?_)
 show wpAny _ _ (pure (Value.ref d,Value.ref a)) _ _ s
 refine wpAny_pure ?_
 show wpAny _ _ (Builtin.Dict.takeOut d (.ref a) >>= _) _ _ s
 refine wpAny_bind (zk2 hu hkey hm there (fun e h' hm' hs' => ?_) hsz)
 exact wpAny_bind (wpAny_letGo (wpAny_pure ⟨.none,rfl,hQ h' hm' hs'⟩))
end
end PySem
namespace L2
open PySem PySem.Spec PyProof.Rows
theorem KT.drop {H : Hp} {kvs : List (List Key × V)} {xs : List (List Key × Addr × Value)} (r : KT H kvs xs) (k : List Key) : KT H (zbN kvs k) (zdg xs k):=by
 induction r with
 | nil => exact .nil
 | @cons p q ps qs hq t ih =>
  by_cases e : p.1 = k
  ·have e2 : q.1 = k := by rw [<- hq.1]; exact e
   have d1 : zbN (p :: ps) k = zbN ps k := by simp [zbN,e]
   have d2 : zdg (q :: qs) k = zdg qs k := by simp [zdg,e2]
   rw [d1,d2]; exact ih
  ·have e2 : ¬ q.1 = k := by rw [<- hq.1]; exact e
   have d1 : zbN (p :: ps) k = p :: zbN ps k := by simp [zbN,e]
   have d2 : zdg (q :: qs) k = q :: zdg qs k := by simp [zdg,e2]
   rw [d1,d2]; exact .cons hq ih
section
variable {X : Cx} {pins : List (Addr × Obj)} {σ : St} {H : Hp} {s : Shared} {a b : Addr} {kvs : List (List Key × V)} {k : List Key} {A : Around} {E : Value -> Shared -> Prop}
theorem zth {Q : Unit -> Shared -> Prop} (hu : A.units + 1 < cLine) (I : Inv X pins σ H s) (e : H a = some (.dT kvs)) (eb : TAt H b (k.map kV)) (l : (zhr kvs k).isSome = true) (h : ∀ s',Inv X pins σ (upd H a (.dT (zbN kvs k))) s' -> Q () s') :
  wpAny (model X.prog X.w) A (delItem (.ref a) (.ref b)) Q E s:=by
 obtain ⟨z,hd,xs,rel,dd⟩ := zpE I.hok e
 have hz : xs.length <= sizeLine := by rw [<- Paired.length rel]; exact z
 have there : ∃ p,(k,p) ∈ xs:=by
  have hv := rel.val k
  obtain ⟨v,ev⟩ := Option.isSome_iff_exists.mp l
  rw [ev] at hv
  obtain ⟨w',hw,_⟩ := zkR.some_of (v:=v) (o:=(atKey xs k).map (·.2)) hv
  obtain ⟨p,hp,_⟩ := Option.map_eq_some_iff.mp hw
  unfold atKey at hp
  obtain ⟨x,hx,ex⟩ := Option.map_eq_some_iff.mp hp
  have h0 := List.find?_some hx
  have h1 : x.1 = k := of_decide_eq_true h0
  exact ⟨x.2,by rw [<- h1]; exact List.mem_of_find?_eq_some hx⟩
 refine zpH (tupleKind_room_in1 hu) (zcs I.hok eb) dd there (fun h' dd' hs => h _ ?_) hz
 obtain ⟨q,es,ep,hq,h2,h3,h4,_,h5⟩ := dd'
 refine zcz I (by rw [e]; exact True.intro) hs ⟨q,hq⟩ ⟨Nat.le_trans (zgf kvs k) z,hd,_,(rel.drop k).keeps fun c ys ec => ?_,q,es,ep,hq,h2,h3,h4,h5⟩
 exact ec.upd (fun _ z => zf0 z e (fun z => nomatch z)) fun _ _ z => zf0 z e (fun z => nomatch z)
end
section
variable {X : Cx} {o i : Expr} {td ty : TE} {pos tpos : Pos}
variable {pins : List (Addr × Obj)} {σ : St} {H : Hp} {s : Shared} {a : Addr}
theorem Inv.kt (I : Inv X pins σ H s) (e : H a = some (.dK [])) : Inv X pins σ (upd H a (.dT [])) s:=by
 obtain ⟨z,hd,vs,rel,dd⟩ := znW I.hok e
 have ev : vs = [] := by cases rel; rfl
 subst ev
 obtain ⟨q,es,ep,hq,h2,h3,h4,h5,h6⟩ := dd
 have := zcz (t' := s.toks) I (by rw [e]; exact True.intro) (Heap.SameBut.refl a s.heap) ⟨q,hq⟩ (ob:=.dT []) ⟨Nat.zero_le _,hd,[],.nil,q,es,ep,hq,h2,h3,?_,?_⟩
 ·exact this
 ·exact List.eq_nil_of_length_eq_zero (by have := h5.length; simpa using this)
 ·exact List.nodup_nil
end
end L2
namespace PySem
open Spec
section
variable {prog : Program} {w : World} {A : Around} {E : Value -> Shared -> Prop} {s : Shared}
structure DEs (h : Heap) (d : Addr) (es : Array DictEntry) (ep : Nat) : Prop where
 ex : ∃ o,h.get? d = some o /\ o.ExactDict /\ o.data = .dict es ep
theorem DEs.typ {d : Addr} {es : Array DictEntry} {ep : Nat} (x : DEs s.heap d es ep) : s.TypeIs (.ref d) "dict":=by
 obtain ⟨o,ho,hc,_⟩ := x.ex
 exact ⟨o,ho,hc.1⟩
theorem zsX {d : Addr} {es : Array DictEntry} {ep : Nat} {Q : Value -> Shared -> Prop} (hd : (d == sysModules) = false) (x : DEs s.heap d es ep)
  (hQ : Q (.ref s.heap.objs.size) { s with heap := s.heap.push { cls := .type "dict_keyiterator",data := .fields #[.ref d,.int 0 0,.int es.size 0,.int ep 0] } }) : wpAny (model prog w) A (pyIter (.ref d)) Q E s:=by
 obtain ⟨o,ho,hc,hdat⟩ := x.ex
 have hT := x.typ
 refine wpAny_pyIter_slot hT F.slot_dict_iter (wpAny_call_entry F.slot_dict_iter hT F.entry_dict_iter ?_ (F.args_dict_iter_1 _))
 unfold Builtin.«dict.__iter__» Builtin.Dict.dictSlotNone
 refine wpAny_bind (wpAny_bind (wpAny_notOrdered_dict hT ?_))
 show wpAny _ _ (pure (Value.ref d)) _ _ s
 refine wpAny_pure ?_
 show wpAny _ _ (Builtin.Dict.showsAll d >>= _) _ _ s
 unfold Builtin.Dict.showsAll
 rw [if_neg (by rw [hd]; exact Bool.false_ne_true)]
 refine wpAny_bind (wpAny_pure (wpAny_bind (wpAny_dictEntries ho hdat (wpAny_bind (wpAny_dictEpoch ho hdat ?_)))))
 refine wpAny_bind (wpAny_newObj_type (wpAny_pure ⟨_,rfl,"dict_keyiterator",_,⟨_,Heap.get?_push_size _ rfl,rfl⟩,F.slot_dict_keyiterator_next.lookup,?_⟩))
 simpa [rawInt] using hQ
theorem zsG {it d : Addr} {i ep : Nat} {es : Array DictEntry} {Q : Option Value -> Shared -> Prop} (hit : s.heap.IsKeyIter it d i es.size ep) (x : DEs s.heap d es ep) (hi : i < es.size)
  (hQ : ∀ h',h'.IsKeyIter it d (i + 1) es.size ep -> Heap.SameBut it s.heap h' -> Q (some es[i].key) { s with heap := h' }) : wpAny (model prog w) A (pyNext (.ref it)) Q E s:=by
 obtain ⟨o,ho,hc,hd⟩ := id hit
 obtain ⟨od,hod,hcd,hdd⟩ := x.ex
 unfold pyNext
 refine wpAny_bind (wpAny_attempt (wpAny_callSpecial?_slot (name:=Str.ofString "__next__") hit.typeIs F.slot_dict_keyiterator_next (wpAny_call_entry F.slot_dict_keyiterator_next hit.typeIs F.entry_dict_keyiterator_next ?_ (F.args_dict_keyiterator_next_1 _))))
 refine wpAny_bind (wpAny_pure (wpAny_bind (wpAny_bind ?_)))
 first | refine wpAny_bind (wpAny_typeNameOfWhole_keyiter hit.typeIs (wpAny_pure ?_)) | refine wpAny_bind (wpAny_typeNameOf_keyiter hit.typeIs (wpAny_pure ?_))
 refine wpAny_bind (wpAny_fieldsOf ho hd ?_)
 have hown : Builtin.Dict_items.ownsTuple "dict_keyiterator" = false := by decide
 simp only [hown,Bool.false_eq_true,if_false]
 show wpAny _ _ (if (Value.ref d == Value.none) = true then _ else _) _ _ s
 rw [if_neg (show ¬ ((Value.ref d == Value.none) = true) from Bool.false_ne_true)]
 refine wpAny_bind (wpAny_pure (wpAny_bind (wpAny_dictEntries hod hdd ?_)))
 rw [if_neg (by simp)]
 refine wpAny_bind (wpAny_pure (wpAny_bind (wpAny_dictEpoch hod hdd ?_)))
 rw [if_neg (by simp)]
 refine wpAny_pure ?_
 simp only [show ¬ ((i : Int) < 0) from by omega,if_false,Int.toNat_natCast,Array.getElem?_eq_getElem hi]
 refine wpAny_bind ?_
 first | refine wpAny_bind (wpAny_typeNameOfWhole_keyiter hit.typeIs (wpAny_pure ?_)) | refine wpAny_bind (wpAny_typeNameOf_keyiter hit.typeIs (wpAny_pure ?_))
 refine wpAny_bind (wpAny_isOneOf_keyiter hit.typeIs ?_)
 show wpAny _ _ (setField (.ref it) 1 (rawInt ((i : Int) + 1)) >>= _) _ _ s
 refine wpAny_bind (wpAny_setField ho hd (by simp) ?_)
 have hit' : (s.heap.update it (Obj.mapFields (·.setIfInBounds 1 (rawInt ((i : Int) + 1))))).IsKeyIter it d (i + 1) es.size ep :=
  ⟨_,Heap.get?_update_self _ ho (Obj.isFreed_of_fields (Obj.data_mapFields hd _)),(Obj.cls_mapFields ..).trans hc,by rw [Obj.data_mapFields hd]; simp [rawInt]⟩
 refine wpAny_bind (wpAny_holding (wpAny_bind (wpAny_isOneOf_keyiter (s:={ s with heap := s.heap.update it (Obj.mapFields (·.setIfInBounds 1 (rawInt ((i : Int) + 1)))) }) hit'.typeIs ?_)))
 show wpAny _ _ (pure es[i].key) _ _ _
 exact wpAny_pure (wpAny_pure ⟨_,rfl,wpAny_pure (hQ _ hit' (Heap.SameBut.update ..))⟩)
theorem zu0 {it d : Addr} {i ep : Nat} {es : Array DictEntry} {Q : Option Value -> Shared -> Prop} (hh : A.handled = none) (hit : s.heap.IsKeyIter it d i es.size ep) (x : DEs s.heap d es ep) (hge : es.size <= i)
  (hQ : ∀ h',Heap.ExtBut it s.heap h' -> Q none { s with heap := h' }) : wpAny (model prog w) A (pyNext (.ref it)) Q E s:=by
 obtain ⟨o,ho,hc,hd⟩ := id hit
 obtain ⟨od,hod,hcd,hdd⟩ := x.ex
 unfold pyNext
 refine wpAny_bind (wpAny_attempt (wpAny_callSpecial?_slot (name:=Str.ofString "__next__") hit.typeIs F.slot_dict_keyiterator_next (wpAny_call_entry F.slot_dict_keyiterator_next hit.typeIs F.entry_dict_keyiterator_next ?_ (F.args_dict_keyiterator_next_1 _))))
 refine wpAny_bind (wpAny_pure (wpAny_bind (wpAny_bind ?_)))
 first | refine wpAny_bind (wpAny_typeNameOfWhole_keyiter hit.typeIs (wpAny_pure ?_)) | refine wpAny_bind (wpAny_typeNameOf_keyiter hit.typeIs (wpAny_pure ?_))
 refine wpAny_bind (wpAny_fieldsOf ho hd ?_)
 have hown : Builtin.Dict_items.ownsTuple "dict_keyiterator" = false := by decide
 simp only [hown,Bool.false_eq_true,if_false]
 show wpAny _ _ (if (Value.ref d == Value.none) = true then _ else _) _ _ s
 rw [if_neg (show ¬ ((Value.ref d == Value.none) = true) from Bool.false_ne_true)]
 refine wpAny_bind (wpAny_pure (wpAny_bind (wpAny_dictEntries hod hdd ?_)))
 rw [if_neg (by simp)]
 refine wpAny_bind (wpAny_pure (wpAny_bind (wpAny_dictEpoch hod hdd ?_)))
 rw [if_neg (by simp)]
 refine wpAny_pure ?_
 simp only [show ¬ ((i : Int) < 0) from by omega,if_false,Int.toNat_natCast,Array.getElem?_eq_none hge]
 refine wpAny_bind ?_
 first | refine wpAny_bind (wpAny_typeNameOfWhole_keyiter hit.typeIs (wpAny_pure ?_)) | refine wpAny_bind (wpAny_typeNameOf_keyiter hit.typeIs (wpAny_pure ?_))
 show wpAny _ _ (setField (.ref it) 0 .none >>= _) _ _ s
 refine wpAny_bind (wpAny_setField ho hd (by simp) ?_)
 show wpAny _ _ (newExc (.type "StopIteration") [] >>= _) _ _ _
 refine wpAny_bind ?_
 simp only [newExc,newTuple]
 refine wpAny_bind (wpAny_newObj_type ?_ (by size_fits))
 refine wpAny_bind (m:=firstArgMember _ _) (wpAny_of_eq (a:=Value.none) (by first | rfl | (simp only [firstArgMember]; rfl)) ?_)
 refine wpAny_newObj_type ?_ (by size_fits)
 simp only [raiseNew]
 refine wpAny_bind (wpAny_handled ?_)
 rw [show A.in1.handled = none from hh]
 refine wpAny_bind (wpAny_pure (wpAny_throw ?_))
 refine wpAny_bind (wpAny_isInstance (T:="StopIteration") (b:=true) ⟨_,Heap.get?_push_size _ rfl,rfl⟩ isSubtype_stop ?_)
 exact wpAny_pure (hQ _ (((Heap.SameBut.update ..).extBut.push _).push _))
end
end PySem
namespace L2
open PySem PySem.Spec PyProof.Rows
def zuO (d : Addr) (o : Obj) (kvs : List (List Key × V)) : It :=
 ⟨fun i H => H d = some (.frz o (.dT kvs)) /\ i < kvs.length,fun i H x H' => H' = H /\ ∃ k v b,kvs[i]? = some (k,v) /\ x = .ref b /\ TAt H b (k.map kV),fun i H => H d = some (.frz o (.dT kvs)) /\ kvs.length <= i⟩
theorem zkG {P : Program} {w : World} {H : Hp} {h : Heap} {d : Addr} {o : Obj} {kvs : List (List Key × V)} {es : Array DictEntry} {ep : Nat} (ok : zbu P w H h d (.frz o (.dT kvs))) (hd : o.data = .dict es ep) :
  ∃ xs,KT H kvs xs /\ DEs h d es ep /\ es.toList = xs.map (entryOfKey (tupleKind (zaK P w))) /\ (d == sysModules) = false:=by
 obtain ⟨e,_,sy,xs,kt,o',es',ep',e',r1,r2,r3,r4⟩ := ok
 rw [e] at e'
 cases e'
 rw [hd] at r2
 cases r2
 exact ⟨xs,kt,⟨o,e,r1,hd⟩,r3,sy⟩
theorem zlQ {P : Program} {w : World} {K : PySem.W.Frag} {tg : Expr} {o : Obj} {es : Array DictEntry} {ep : Nat} {kvs : List (List Key × V)} (d it : Addr) (hdat : o.data = .dict es ep) :
  Turn P w K tg (zuO d o kvs) [it] it (fun i h => h.IsKeyIter it d i es.size ep) where
 mem := by simp
 obj := fun i h st b hb => by
  have e : b = it := by simpa using hb
  subst e
  obtain ⟨o,e,c,d⟩ := st
  exact ⟨o,e,fun v z => by rw [d] at z; cases z⟩
 keep := fun i h h' st k => st.at fun o e => k it (by simp) o e
 item:=by
  intro X hP hw hK hc i pins s σ H E I hf st hg
  subst hP hw hK
  obtain ⟨hd,hi⟩ := hg
  obtain ⟨xs,kt,da,he,_⟩ := zkG (I.hok d _ hd) hdat
  have hl : kvs.length = xs.length := Paired.length kt
  have hsz : es.size = xs.length := size_of_entries he
  obtain ⟨⟨k',b,v'⟩,ev,rk,rb,rv⟩ := zdN kt (List.getElem?_eq_getElem hi)
  obtain ⟨f0,f1,f2,f3,f4,f5⟩ := hf it (by simp)
  have hi' : i < es.size := by omega
  have hk : es[i].key = .ref b:=by
   have := entry_at he i
   rw [ev,Array.getElem?_eq_getElem hi'] at this
   simp only [Option.map_some,Option.some.injEq] at this
   rw [this]
   rfl
  refine zsG st da hi' fun h' st2 sb => ?_
  have I1 : Inv X pins σ H { s with heap := h' } := I.turned (t' := s.toks) (fun b o hb e => (sb.2 b hb).trans e) f0 f1 f3 f4 f5
  obtain ⟨o,e,c,dd⟩ := id st2
  rw [hk]
  exact ⟨.ref b,rfl,znJ (s:={ s with heap := h' }) e c dd (by decide) ⟨.ref b,H,I1,rfl,⟨rfl,kvs[i].1,kvs[i].2,b,List.getElem?_eq_getElem hi,rfl,rb⟩,st2,fun b hb => (hf b hb).1⟩⟩
 done:=by
  intro X hP hw hK hc i pins s σ H E I hf st hg
  subst hP hw hK
  obtain ⟨hd,hi⟩ := hg
  obtain ⟨xs,kt,da,he,_⟩ := zkG (I.hok d _ hd) hdat
  have hl : kvs.length = xs.length := Paired.length kt
  have hsz : es.size = xs.length := size_of_entries he
  obtain ⟨f0,f1,f2,f3,f4,f5⟩ := hf it (by simp)
  exact zu0 (I.ok.hd hc) st da (by omega) fun h' eb => ⟨rfl,I.turned (t' := s.toks) (fun b o hb e => eb b o hb e) f0 f1 f3 f4 f5⟩
 self := fun _ _ _ _ _ st h => wpAny_pyIter_keyiter st h
end L2
namespace L2
open PySem PySem.Spec PyProof.Rows
theorem zql {P : Program} {w : World} {H : Hp} {h : Heap} {a : Addr} (ok : HOk P w H h) (e : Rd H a (.dK [])) : (a == sysModules) = false /\ h.DictOfH (tupleKind (zaK P w)) a []:=by
 obtain ⟨z,hd,vs,rel,dd⟩ := zjS ok e
 have ev : vs = [] := by cases rel; rfl
 subst ev
 obtain ⟨q,es,ep,hq,h2,h3,h4,h5,h6⟩ := dd
 exact ⟨hd,q,es,ep,hq,h2,h3,List.eq_nil_of_length_eq_zero (by have := h5.length; simpa using this),(fun x hx => nomatch hx),List.nodup_nil⟩
theorem znU {P : Program} {w : World} {H : Hp} {h : Heap} {a : Addr} (ok : HOk P w H h) (e : Rd H a (.dT [])) : (a == sysModules) = false /\ h.DictOf (zaK P w) a []:=by
 obtain ⟨z,hd,xs,rel,dd⟩ := zjP ok e
 have ev : xs = [] := by cases rel; rfl
 subst ev
 obtain ⟨q,es,ep,hq,h2,h3,h4,h5,h6⟩ := dd
 have he : es = #[]:=by
  apply Array.ext'
  rw [h4]; rfl
 subst he
 exact ⟨hd,q,#[],ep,hq,h2,h3,fun e he => by simp at he,.nil,List.nodup_nil⟩
def DG (H : Hp) (a : Addr) (y : V) (r : Option V) : Prop :=
 ztw H a y r \/ (r = none /\ Rd H a (.dK []) /\ ∃ (b : Addr) (k : List Key),y = .ref b /\ TAt H b (k.map kV)) \/ (r = none /\ Rd H a (.dT []) /\ ∃ k : Key,y = kV k)
section
variable {X : Cx} {pins : List (Addr × Obj)} {σ : St} {H : Hp} {s : Shared} {a : Addr} {y v d : V} {u r : Value} {o : Option V} {A : Around} {E : Value -> Shared -> Prop}
theorem zuD {Q : Value -> Shared -> Prop} (hu : A.units + 1 < cLine) (I : Inv X pins σ H s) (g : DG H a y o) (ry : RelV y u) (h : ∀ s',Inv X pins σ H s' -> Q (.bool o.isSome) s') :
  wpAny (model X.prog X.w) A (compareOp .In u (.ref a)) Q E s:=by
 rcases g with g | ⟨rfl,e,b,k,rfl,eb⟩ | ⟨rfl,e,k,rfl⟩
 ·exact zvL hu I g ry h
 ·cases (show u = Value.ref b from ry)
  obtain ⟨hd,dd⟩ := zql I.hok e
  exact wpAny_in_heap (tupleKind_room_in1 hu) (zcs I.hok eb) hd dd (h _ (I.tok _))
 ·obtain ⟨hd,dd⟩ := znU I.hok e
  exact wpAny_in_of (zhI ry) hd dd.mapOf (h _ (I.tok _))
theorem zry {Q : Value -> Shared -> Prop} (hu : A.units + 1 < cLine) (I : Inv X pins σ H s) (g : DG H a y o) (ry : RelV y u) (rd : RelV d r) (h : ∀ w' s',Inv X pins σ H s' -> RelV (o.getD d) w' -> Q w' s') :
  wpAny (model X.prog X.w) A (call (.builtin "dict.get") [.ref a,u,r]) Q E s:=by
 rcases g with g | ⟨rfl,e,b,k,rfl,eb⟩ | ⟨rfl,e,k,rfl⟩
 ·exact ztg hu I g ry rd h
 ·cases (show u = Value.ref b from ry)
  obtain ⟨hd,dd⟩ := zql I.hok e
  exact call_meetsIn PySem.F.slot_dict_get dd.typeIs PySem.F.entry_dict_get (PySem.F.args_dict_get_3 _ _ _) (meetsH_dict_get_default (tupleKind (zaK X.prog X.w)) a b hd r) ⟨tupleKind_room_in1 hu,k,[],zcs I.hok eb,dd,h _ _ (I.tok _) rd⟩
 ·obtain ⟨hd,dd⟩ := znU I.hok e
  exact call_meetsIn PySem.F.slot_dict_get dd.typeIs PySem.F.entry_dict_get (PySem.F.args_dict_get_3 _ _ _) (meets_dict_get_default (zaK X.prog X.w) a (zhI ry) hd r) ⟨_,dd.mapOf,h _ _ (I.tok _) rd⟩
def DP (H : Hp) (a : Addr) (y v : V) (H' : Hp) : Prop :=
 zos H a y v H' \/ (∃ (k : List Key) (b : Addr),H a = some (.dK []) /\ y = .ref b /\ TAt H b (k.map kV) /\ H' = upd H a (.dT [(k,v)])) \/ ∃ k : Key,H a = some (.dT []) /\ y = kV k /\ H' = upd H a (.dK [(k,v)])
theorem Inv.tk (I : Inv X pins σ H s) (e : H a = some (.dT [])) : Inv X pins σ (upd H a (.dK [])) s:=by
 obtain ⟨hd,dd⟩ := znU I.hok (.inl e)
 obtain ⟨q,es,ep,hq,rest⟩ := id dd
 exact zcz (t' := s.toks) I (by rw [e]; exact True.intro) (Heap.SameBut.refl a s.heap) ⟨q,hq⟩ (ob:=.dK []) ⟨Nat.zero_le _,hd,[],.nil,dd⟩
theorem ztc {H' : Hp} {Q : Unit -> Shared -> Prop} (hu : A.units + 1 < cLine) (I : Inv X pins σ H s) (g : DP H a y v H') (ry : RelV y u) (rv : RelV v r) (h : ∀ s',Inv X pins σ H' s' -> Q () s') :
  wpAny (model X.prog X.w) A (setItem (.ref a) u r) Q E s:=by
 rcases g with g | ⟨k,b,e,rfl,eb,rfl⟩ | ⟨k,e,rfl,rfl⟩
 ·exact zg1 hu I g ry rv h
 ·have eb' : TAt (upd H a (.dT [])) b (k.map kV) := eb.upd (fun _ z => zf0 z e (fun z => nomatch z)) fun _ _ z => zf0 z e (fun z => nomatch z)
  have g := zos.t (H:=upd H a (.dT [])) (a:=a) (v:=v) zas eb' (by decide)
  rw [zgm] at g
  exact zg1 hu (I.kt e) g ry rv h
 ·have g := zos.k (H:=upd H a (.dK [])) (a:=a) (k:=k) (v:=v) zas (by decide)
  rw [zgm] at g
  exact zg1 hu (I.tk e) g ry rv h
end
section
variable {X : Cx} {o i e f value : Expr} {apos cpos pos pos' : Pos} {td ty tx tv : TE}
def zrZ (td ty tx : TE) : TE := fun σ H Q => td σ H fun x H1 => ∃ a,x = .ref a /\ IsD H1 a /\ ty σ H1 fun y H2 => tx σ H2 fun z H3 => ∃ o,DG H3 a y o /\ Q (o.getD z) H3
def ztY (td ty tv : TE) : TS := fun D σ H => tv σ H fun v H1 => td σ H1 fun x H2 => ty σ H2 fun y H3 => ∃ a H4,x = .ref a /\ DP H3 a y v H4 /\ D.nx σ H4
theorem zpc (hu : X.A.units + 1 < cLine) (ho : PE X o td) (he : PE X e ty) (hf : PE X f tx) (m : M2 X o "get" apos e f cpos) : PE X (.Call (.Attribute o "get" apos) [e,f] [] cpos) (zrZ td ty tx):=by
 intro pins s σ H Q I h
 refine wpAny_Call_method m.base m.few m.line PySem.F.plainAttrs_dict PySem.F.slot_dict_get PySem.F.type_dict_get (thn (ho pins s σ H _ I h) fun u s1 ⟨x,H1,I1,rx,a,ex,d,q1⟩ => ?_)
 subst ex
 obtain rfl : u = Value.ref a := rx
 obtain ⟨t1,t2,_⟩ := zqg I1 d
 refine ⟨t1,t2,?_⟩
 rw [m.trees]
 exact Calls.callWith_builtin rfl (Calls.evalArgs_plain (Calls.spliced_cons (thn (he pins s1 σ H1 _ I1 q1) fun iv s2 ⟨y,H2,I2,ry,q2⟩ =>
  Calls.spliced_cons (thn (hf pins s2 σ H2 _ I2 q2) fun fv s3 ⟨z,H3,I3,rz,ov,g,q3⟩ => Calls.spliced_nil (zry hu I3 g ry rz fun w' s4 I4 rw' => ⟨_,H3,I4,rw',q3⟩)))))
theorem zqW (hu : X.A.units + 1 < cLine) (ho : PE X o td) (hi : PE X i ty) (hv : PE X value tv) (hs : swapsWith value (some (.Subscript o i pos')) pos.line X.env = pure false) :
  PS X (.Assign [.Subscript o i pos'] value pos) (ztY td ty tv):=by
 intro pins s σ H D I h
 refine wpAny_Assign_Subscript (thn (hv pins s σ H _ I h) fun r s1 ⟨v,H1,I1,rv,q1⟩ => thn (ho pins s1 σ H1 _ I1 q1) fun u s2 ⟨x,H2,I2,rx,q2⟩ => thn (hi pins s2 σ H2 _ I2 q2) fun iv s3 ⟨y,H3,I3,ry,a,H4,ex,g,q3⟩ => ?_) hs
 subst ex
 obtain rfl : u = Value.ref a := rx
 exact ztc hu I3 g ry rv fun s4 I4 => ⟨σ,H4,I4,q3⟩
end
end L2
namespace L2
open PySem PySem.Spec PyProof.Rows PySem.W
abbrev gp (p : Array Nat) (i : Nat) : Nat := p.getD i 0
theorem znI {p q : Array Nat} {i j : Nat} (h : p[i]? = q[j]?) : gp p i = gp q j:=by
 simp only [gp,Array.getD_eq_getD_getElem?,h]
section
variable {lt : Nat -> Nat -> Bool} {n : Nat} {cmp : Nat -> Nat -> (Bool -> Shared -> Prop) -> Shared -> Prop} {P : Shared -> Prop}
structure Ord (lt : Nat -> Nat -> Bool) : Prop where
 tr : ∀ i j k,lt j i = false -> lt k j = false -> lt k i = false
 as : ∀ i j,lt i j = true -> lt j i = false
def Asks (lt : Nat -> Nat -> Bool) (n : Nat) (P : Shared -> Prop) (cmp : Nat -> Nat -> (Bool -> Shared -> Prop) -> Shared -> Prop) : Prop :=
 ∀ i j (C : Bool -> Shared -> Prop) s,i < n -> j < n -> P s -> (∀ s',P s' -> C (lt i j) s') -> cmp i j C s
theorem Ord.refl (o : Ord lt) (i : Nat) : lt i i = false:=by
 cases h : lt i i with
 | false => rfl
 | true => exact h.symm.trans (o.as i i h)
def Up (lt : Nat -> Nat -> Bool) (p : Array Nat) (m : Nat) : Prop := ∀ i j,i <= j -> j < m -> lt (gp p j) (gp p i) = false
def Dn (lt : Nat -> Nat -> Bool) (p : Array Nat) (m : Nat) : Prop := ∀ i j,i <= j -> j < m -> lt (gp p i) (gp p j) = false
def Eb (lt : Nat -> Nat -> Bool) (p : Array Nat) (a b : Nat) : Prop := ∀ i j,a <= i -> i < b -> a <= j -> j < b -> lt (gp p i) (gp p j) = false
structure Arr (n : Nat) (p : Array Nat) : Prop where
 sz : p.size = n
 pm : p.Perm (List.toArray (List.range n))
theorem Arr.lim {p : Array Nat} (h : Arr n p) (hn : 0 < n) (i : Nat) : gp p i < n:=by
 by_cases c : i < p.size
 ·have e : gp p i = p[i] := by simp [gp,Array.getD,c]
  rw [e]
  have m : p[i] ∈ p.toList := Array.getElem_mem_toList c
  have m2 := (Array.perm_iff_toList_perm.mp h.pm).mem_iff.mp m
  simpa using m2
 ·have e : gp p i = 0 := by simp [gp,Array.getD,c]
  rw [e]; exact hn
theorem Up.next (o : Ord lt) {p : Array Nat} {m : Nat} (h : Up lt p m) (hm : 1 <= m) (e : lt (gp p m) (gp p (m - 1)) = false) : Up lt p (m + 1) := fun i j hij hj => by
 by_cases c : j < m
 ·exact h i j hij c
 ·have : j = m := by omega
  subst this
  by_cases c2 : i = j
  ·subst c2; exact o.refl _
  ·exact o.tr _ _ _ (h i (j - 1) (by omega) (by omega)) e
theorem Dn.next (o : Ord lt) {p : Array Nat} {m : Nat} (h : Dn lt p m) (hm : 1 <= m) (e : lt (gp p (m - 1)) (gp p m) = false) : Dn lt p (m + 1) := fun i j hij hj => by
 by_cases c : j < m
 ·exact h i j hij c
 ·have : j = m := by omega
  subst this
  by_cases c2 : i = j
  ·subst c2; exact o.refl _
  ·exact o.tr _ _ _ e (h i (j - 1) (by omega) (by omega))
theorem zhZ {p : Array Nat} {a b : Nat} (hb : b <= p.size) (k : Nat) : gp (kas_rev p a b) k = if a <= k /\ k < b then gp p (a + b - 1 - k) else gp p k:=by
 have e := getElem?_mirror_all (xs:=p) (i:=a) hb k
 unfold kas_rev
 split
 ·rename_i c; rw [if_pos c] at e; exact znI e
 ·rename_i c; rw [if_neg c] at e; exact znI e
theorem Arr.rev {p : Array Nat} (h : Arr n p) (a b : Nat) : Arr n (kas_rev p a b) := ⟨by unfold kas_rev; rw [mirror_size]; exact h.sz,(mirror_perm _ _ _ _).trans h.pm⟩
theorem Dn.rev (o : Ord lt) {p : Array Nat} {a b m : Nat} (hb : b <= p.size) (h : Dn lt p m) (e : Eb lt p a b) (hbm : b <= m) : Dn lt (kas_rev p a b) m := fun i j hij hj => by
 rw [zhZ hb,zhZ hb]
 split
 ·rename_i c1
  split
  ·rename_i c2; exact e _ _ (by omega) (by omega) (by omega) (by omega)
  ·rename_i c2; exact h _ _ (by omega) (by omega)
 ·rename_i c1
  split
  ·rename_i c2; exact h _ _ (by omega) (by omega)
  ·exact h _ _ hij hj
theorem zog (o : Ord lt) (hc : Asks lt n P cmp) (hn : 0 < n) {p : Array Nat} (ar : Arr n p) : ∀ (f m : Nat) {Q : Nat -> Shared -> Prop} {s : Shared},1 <= m -> Up lt p m -> P s ->
  (∀ m' s',P s' -> m <= m' -> m' <= m + f -> Up lt p m' -> (m' = m + f \/ lt (gp p m') (gp p (m' - 1)) = true) -> Q m' s') -> (kas_asc p f m).kasWp cmp Q s
 | 0,m,Q,s,h1,hu,hp,h => h m s hp (Nat.le_refl _) (Nat.le_refl _) hu (.inl rfl)
 | f + 1,m,Q,s,h1,hu,hp,h => by
  refine hc _ _ _ s (ar.lim hn _) (ar.lim hn _) hp fun s' hp' => ?_
  cases e : lt (p.getD m 0) (p.getD (m - 1) 0) with
  | true => exact h m s' hp' (Nat.le_refl _) (by omega) hu (.inr e)
  | false =>
   refine zog o hc hn ar f (m + 1) (by omega) (hu.next o h1 e) hp' fun m' s'' hp'' a b c d => h m' s'' hp'' (by omega) (by omega) c ?_
   rcases d with d | d
   ·exact .inl (by omega)
   ·exact .inr d
theorem ziY (o : Ord lt) (hc : Asks lt n P cmp) (hn : 0 < n) : ∀ (f : Nat) (p : Array Nat) (m q : Nat) {Q : Array Nat × Nat × Nat -> Shared -> Prop} {s : Shared},Arr n p -> q + 1 <= m -> m + f <= n -> Dn lt p m -> Eb lt p (m - (q + 1)) m -> P s ->
  (∀ p' m' q' s',P s' -> Arr n p' -> m <= m' -> m' <= n -> q' + 1 <= m' -> Dn lt p' m' -> Eb lt p' (m' - (q' + 1)) m' -> Q (p',m',q') s') -> (kas_desc f p m q).kasWp cmp Q s
 | 0,p,m,q,Q,s,ar,h1,h2,hd,he,hp,h => h p m q s hp ar (Nat.le_refl _) (by omega) h1 hd he
 | f + 1,p,m,q,Q,s,ar,h1,h2,hd,he,hp,h => by
  refine hc _ _ _ s (ar.lim hn _) (ar.lim hn _) hp fun s' hp' => ?_
  cases e : lt (p.getD m 0) (p.getD (m - 1) 0) with
  | true =>
   have hd2 : Dn lt p (m + 1) := hd.next o (by omega) (o.as _ _ e)
   show (if q > 0 then kas_desc f (kas_rev p (m - (q + 1)) m) (m + 1) 0 else kas_desc f p (m + 1) 0).kasWp cmp Q s'
   split
   ·refine ziY o hc hn f _ (m + 1) 0 (ar.rev _ _) (by omega) (by omega) (hd2.rev o (by rw [ar.sz]; omega) he (by omega)) (fun i j a b c d => ?_) hp' fun p' m' q' s'' a b c => h p' m' q' s'' a b (by omega)
    have e1 : i = m := by omega
    have e2 : j = m := by omega
    subst e1; subst e2; exact o.refl _
   ·refine ziY o hc hn f _ (m + 1) 0 ar (by omega) (by omega) hd2 (fun i j a b c d => ?_) hp' fun p' m' q' s'' a b c => h p' m' q' s'' a b (by omega)
    have e1 : i = m := by omega
    have e2 : j = m := by omega
    subst e1; subst e2; exact o.refl _
  | false =>
   refine hc _ _ _ s' (ar.lim hn _) (ar.lim hn _) hp' fun s'' hp'' => ?_
   cases e2 : lt (p.getD (m - 1) 0) (p.getD m 0) with
   | true => exact h p m q s'' hp'' ar (Nat.le_refl _) (by omega) h1 hd he
   | false =>
    refine ziY o hc hn f p (m + 1) (q + 1) ar (by omega) (by omega) (hd.next o (by omega) e2) (fun i j a b c d => ?_) hp'' fun p' m' q' s3 a b c => h p' m' q' s3 a b (by omega)
    have eq1 : ∀ x,m - (q + 1) <= x -> x < m -> lt (gp p m) (gp p x) = false /\ lt (gp p x) (gp p m) = false := fun x x1 x2 =>
     ⟨o.tr _ _ _ (he (m - 1) x (by omega) (by omega) x1 x2) e,o.tr _ _ _ e2 (he x (m - 1) x1 x2 (by omega) (by omega))⟩
    by_cases c1 : i = m
    ·by_cases c2 : j = m
     ·subst c1; subst c2; exact o.refl _
     ·subst c1; exact (eq1 j (by omega) (by omega)).1
    ·by_cases c2 : j = m
     ·subst c2; exact (eq1 i (by omega) (by omega)).2
     ·exact he i j (by omega) (by omega) (by omega) (by omega)
theorem zk3 (o : Ord lt) (hc : Asks lt n P cmp) (hn : 0 < n) {p : Array Nat} (ar : Arr n p) {m : Nat} {Q : Nat × Array Nat -> Shared -> Prop} {s : Shared} (h1 : 1 <= m) (hm : m <= n) (hd : Dn lt p m) (hp : P s)
  (h : ∀ m' p' s',P s' -> Arr n p' -> 1 <= m' -> m' <= n -> Up lt p' m' -> Q (m',p') s') : (kas_tail3 m n p).kasWp cmp Q s:=by
 unfold kas_tail3
 rw [KasT.kasWp_bind]
 refine zog o hc hn (ar.rev 0 m) (n - m) m h1 (fun i j hij hj => ?_) hp fun m' s' hp' a b c _ => h m' _ s' hp' (ar.rev 0 m) (by omega) (by omega) c
 rw [zhZ (by rw [ar.sz]; exact hm),zhZ (by rw [ar.sz]; exact hm),if_pos (by omega),if_pos (by omega)]
 exact hd _ _ (by omega) (by omega)
theorem zg0 (o : Ord lt) (hc : Asks lt n P cmp) (hn : 0 < n) {p : Array Nat} (ar : Arr n p) {m : Nat} {Q : Nat × Array Nat -> Shared -> Prop} {s : Shared} (hm : m + 1 <= n) (hd : Dn lt p (m + 1)) (hp : P s)
  (h : ∀ m' p' s',P s' -> Arr n p' -> 1 <= m' -> m' <= n -> Up lt p' m' -> Q (m',p') s') : (kas_descPart m n p).kasWp cmp Q s:=by
 unfold kas_descPart
 rw [KasT.kasWp_bind]
 refine ziY o hc hn _ p (m + 1) 0 ar (by omega) (by omega) hd (fun i j a b c d => ?_) hp fun p' m' q' s' hp' ar' a b c hd' he' => ?_
 ·have e1 : i = m := by omega
  have e2 : j = m := by omega
  subst e1; subst e2; exact o.refl _
 ·show (if q' > 0 then kas_tail3 m' n (kas_rev p' (m' - (q' + 1)) m') else kas_tail3 m' n p').kasWp cmp Q s'
  split
  ·exact zk3 o hc hn (ar'.rev _ _) (by omega) b (hd'.rev o (by rw [ar'.sz]; exact b) he' (Nat.le_refl _)) hp' h
  ·exact zk3 o hc hn ar' (by omega) b hd' hp' h
theorem zpK (o : Ord lt) (hc : Asks lt n P cmp) (hn : 0 < n) {p : Array Nat} (ar : Arr n p) {Q : Nat × Array Nat -> Shared -> Prop} {s : Shared} (hp : P s)
  (h : ∀ m' p' s',P s' -> Arr n p' -> 1 <= m' -> m' <= n -> Up lt p' m' -> Q (m',p') s') : (kas_count n p).kasWp cmp Q s:=by
 unfold kas_count
 rw [KasT.kasWp_bind]
 refine zog o hc hn ar (n - 1) 1 (Nat.le_refl _) (fun i j a b => ?_) hp fun m s' hp' a b hu hl => ?_
 ·have e1 : i = 0 := by omega
  have e2 : j = 0 := by omega
  subst e1; subst e2; exact o.refl _
 by_cases c : m = n
 ·subst c
  rw [if_pos (by simp)]
  exact h m p s' hp' ar a (Nat.le_refl _) hu
 ·rw [if_neg (by simpa using c)]
  have hl2 : lt (gp p m) (gp p (m - 1)) = true:=by
   rcases hl with hl | hl
   ·omega
   ·exact hl
  by_cases c1 : m > 1
  ·rw [if_pos c1]
   refine hc _ _ _ s' (ar.lim hn _) (ar.lim hn _) hp' fun s'' hp'' => ?_
   cases e : lt (p.getD 0 0) (p.getD (m - 1) 0) with
   | true => exact h m p s'' hp'' ar a (by omega) hu
   | false =>
    have hs : m <= p.size := by rw [ar.sz]; omega
    have all : ∀ i j,i < m -> j < m -> lt (gp p i) (gp p j) = false := fun i j hi hj =>
     o.tr _ _ _ (hu j (m - 1) (by omega) (by omega)) (o.tr _ _ _ e (hu 0 i (Nat.zero_le _) hi))
    refine zg0 o hc hn (ar.rev 0 m) (by omega) (fun i j hij hj => ?_) hp'' h
    rw [zhZ hs,zhZ hs]
    by_cases cj : j < m
    ·rw [if_pos (by omega),if_pos (by omega)]
     exact all _ _ (by omega) (by omega)
    ·have ej : j = m := by omega
     subst ej
     rw [if_neg (by omega : ¬ (0 <= j /\ j < j))]
     split
     ·exact o.tr _ _ _ (o.as _ _ hl2) (all _ _ (by omega) (by omega))
     ·have ei : i = j := by omega
      subst ei; exact o.refl _
  ·rw [if_neg c1]
   have e1 : m = 1 := by omega
   subst e1
   refine zg0 o hc hn ar (by omega) ?_ hp' h
   refine Dn.next o (fun i j hij hj => ?_) (Nat.le_refl _) (o.as _ _ hl2)
   have e1 : i = 0 := by omega
   have e2 : j = 0 := by omega
   subst e1; subst e2; exact o.refl _
theorem zix (o : Ord lt) (hc : Asks lt n P cmp) (hn : 0 < n) {p : Array Nat} (ar : Arr n p) {k : Nat} (hu : Up lt p k) : ∀ (f l r : Nat) {Q : Nat -> Shared -> Prop} {s : Shared},l <= r -> r <= k -> r - l <= f ->
  (∀ i,i < l -> lt (gp p k) (gp p i) = false) -> (∀ i,r <= i -> i < k -> lt (gp p i) (gp p k) = false) -> P s ->
  (∀ l' s',P s' -> l' <= k -> (∀ i,i < l' -> lt (gp p k) (gp p i) = false) -> (∀ i,l' <= i -> i < k -> lt (gp p i) (gp p k) = false) -> Q l' s') -> (kas_place p k f l r).kasWp cmp Q s
 | 0,l,r,Q,s,h1,h2,h3,a,b,hp,h => h l s hp (by omega) a (by
   have : l = r := by omega
   subst this; exact b)
 | f + 1,l,r,Q,s,h1,h2,h3,a,b,hp,h => by
  unfold kas_place
  by_cases c : l ≥ r
  ·rw [if_pos c]
   have : l = r := by omega
   subst this
   exact h l s hp h2 a b
  ·rw [if_neg c]
   refine hc _ _ _ s (ar.lim hn _) (ar.lim hn _) hp fun s' hp' => ?_
   cases e : lt (p.getD k 0) (p.getD ((l + r) / 2) 0) with
   | true =>
    refine zix o hc hn ar hu f l ((l + r) / 2) (by omega) (by omega) (by omega) a (fun i i1 i2 => ?_) hp' h
    exact o.tr _ _ _ (o.as _ _ e) (hu _ _ i1 i2)
   | false =>
    refine zix o hc hn ar hu f ((l + r) / 2 + 1) r (by omega) h2 (by omega) (fun i i1 => ?_) b hp' h
    exact o.tr _ _ _ (hu i ((l + r) / 2) (by omega) (by omega)) e
theorem zqs (o : Ord lt) (hc : Asks lt n P cmp) (hn : 0 < n) : ∀ (f : Nat) (p : Array Nat) (k : Nat) {Q : Array Nat -> Shared -> Prop} {s : Shared}, Arr n p -> k + f = n -> Up lt p k -> P s ->
    (∀ p' s', P s' -> Arr n p' -> Up lt p' n -> Q p' s') -> (kas_bin f p k).kasWp cmp Q s
  | 0, p, k, Q, s, ar, h1, hu, hp, h => h p s hp ar (by have : k = n := by omega
                                                        subst this; exact hu)
  | f + 1, p, k, Q, s, ar, h1, hu, hp, h => by
    unfold kas_bin
    rw [KasT.kasWp_bind]
    refine zix o hc hn ar hu k 0 k (Nat.zero_le _) (Nat.le_refl _) (by omega) (fun i hi => by omega) (fun i a b => by omega) hp fun l s' hp' hl ha hb => ?_
    have hk : k < p.size := by rw [ar.sz]; omega
    have gb : ∀ i, gp (bubble p k (k - l)) i = if i = l then gp p k else if l < i /\ i <= k then gp p (i - 1) else gp p i := fun i => by
      have e := getElem?_bubble hk (k - l) (by omega) i
      rw [show k - (k - l) = l by omega] at e
      by_cases c1 : i = l
      · rw [if_pos c1] at e ⊢; exact znI e
      · rw [if_neg c1] at e ⊢
        by_cases c2 : l < i /\ i <= k
        · rw [if_pos c2] at e ⊢; exact znI e
        · rw [if_neg c2] at e ⊢; exact znI e
    refine zqs o hc hn f _ (k + 1) ⟨by rw [bubble_size]; exact ar.sz, (bubble_perm _ _ _).trans ar.pm⟩ (by omega) (fun i j hij hj => ?_) hp' h
    rw [gb i, gb j]
    by_cases c1 : i = l
    · rw [if_pos c1]
      by_cases c2 : j = l
      · rw [if_pos c2]; exact o.refl _
      · rw [if_neg c2, if_pos (by omega)]
        exact hb _ (by omega) (by omega)
    · rw [if_neg c1]
      by_cases c2 : j = l
      · rw [if_pos c2, if_neg (by omega)]
        exact ha _ (by omega)
      · rw [if_neg c2]
        by_cases c3 : l < i /\ i <= k
        · rw [if_pos c3, if_pos (by omega)]
          exact hu _ _ (by omega) (by omega)
        · rw [if_neg c3]
          split
          · exact hu _ _ (by omega) (by omega)
          · exact hu _ _ (by omega) (by omega)
theorem zqE (o : Ord lt) (hc : Asks lt n P cmp) (hn : 0 < n) {Q : Array Nat -> Shared -> Prop} {s : Shared} (hp : P s) (h : ∀ p s',P s' -> Arr n p -> Up lt p n -> Q p s') : (kas_sort n).kasWp cmp Q s:=by
 unfold kas_sort
 rw [KasT.kasWp_bind]
 refine zpK o hc hn ⟨by simp,Array.Perm.refl _⟩ hp fun m p s' hp' ar h1 h2 hu => ?_
 show (if m < n then kas_bin (n - max m 1) p (max m 1) else KasT.ret p).kasWp cmp Q s'
 split
 ·have e : max m 1 = m := by omega
  rw [e]
  exact zqs o hc hn _ p m ar (by omega) hu hp' h
 ·have : m = n := by omega
  subst this
  exact h p s' hp' ar hu
end
end L2
namespace PySem
open Spec PyProof.Rows
section
variable {prog : Program} {w : World} {A : Around} {E : Value -> Shared -> Prop} {s : Shared}
theorem DEs.at {h h' : Heap} {d : Addr} {es : Array DictEntry} {ep : Nat} (x : DEs h d es ep) (k : ∀ o,h.get? d = some o -> h'.get? d = some o) : DEs h' d es ep:=by
 obtain ⟨o,e,r⟩ := x.ex
 exact ⟨o,k o e,r⟩
theorem zrQ (hh : A.handled = none) (I d : Addr) (hne : d ≠ I) (es : Array DictEntry) (ep : Nat) :
  Walks prog w A I [I,d] [I] es.size (fun i v => ∃ h : i < es.size,v = es[i].key) (fun i h => h.IsKeyIter I d i es.size ep /\ DEs h d es ep) where
 sub := fun b hb => by simp at hb; simp [hb]
 frame := fun _ _ _ st hk => ⟨st.1.at fun o e => hk I (by simp) o e,st.2.at fun o e => hk d (by simp) o e⟩
 item := fun i s Q E hi st hQ => by
  refine zsG st.1 st.2 hi fun h' hit' hs' => ?_
  exact hQ _ h' s.toks ⟨hi,rfl⟩ ⟨hit',st.2.at fun o e => hs'.extBut d o hne e⟩ fun b o hb e => hs'.extBut b o (fun h => hb (by simp [h])) e
 done := fun s Q E st hQ => zu0 hh st.1 st.2 (Nat.le_refl _) fun h' he' => hQ h' s.toks fun b o hb e => he' b o (fun h => hb (by simp [h])) e
 self := fun _ _ _ _ st hQ => wpAny_pyIter_keyiter st.1 hQ
theorem zpL {d : Addr} {es : Array DictEntry} {ep : Nat} {Q : List Value -> Shared -> Prop} (hh : A.handled = none) (sy : (d == sysModules) = false) (hm : DEs s.heap d es ep) (hn : es.size <= 1000)
  (hQ : ∀ s' (acc : Array Value),(∀ b o,s.heap.get? b = some o -> s'.heap.get? b = some o) -> s'.gens = s.gens -> s'.drawn = s.drawn -> s'.os = s.os -> s.heap.objs.size <= s'.heap.objs.size -> ItemsOf (fun i v => ∃ h : i < es.size,v = es[i].key) acc es.size -> Q acc.toList s') :
  wpAny (model prog w) A (collect (.ref d)) Q E s:=by
 obtain ⟨od,hod,hxd,hdd⟩ := hm.ex
 have dl := Heap.lt_size hod
 unfold collect
 refine wpAny_bind (wpAny_runValue (codeAny_builtin F.entry_proto_collect ?_))
 rw [Around.under_plainId F.plain_proto_collect _]
 show wpAny _ A.in1 (newList [] >>= fun l => again (.builtin "list.__iadd__" ⟨[l,.ref d],[]⟩)) _ _ s
 refine wpAny_bind (wpAny_newObj_type ?_)
 refine wpAny_pure ⟨plainId_quiet F.plain_list_iadd _,codeAny_builtin F.entry_list_iadd ?_⟩
 rw [Around.under_plainId F.plain_list_iadd _]
 have hm1 : DEs (s.heap.push { cls := .type "list",data := .seq ([] : List Value).toArray }) d es ep := hm.at fun o e => Heap.get?_push_of_some _ e
 have hSd : s.heap.objs.size ≠ d := Nat.ne_of_gt dl
 have h1 : Builtin.List.listSameRef (.ref s.heap.objs.size) (.ref d) = false := by simp [Builtin.List.listSameRef,hSd]
 show wpAny _ A.in1 (Builtin.List.listExtendWith (.ref s.heap.objs.size) (.ref d) (.ref s.heap.objs.size)) _ _ _
 unfold Builtin.List.listExtendWith
 refine wpAny_bind (wpAny_typeOf (s:={ s with heap := s.heap.push { cls := .type "list",data := .seq ([] : List Value).toArray } }) hm1.typ ?_)
 rw [if_neg (by rw [h1]; decide)]
 refine wpAny_bind (zsX (s:={ s with heap := s.heap.push { cls := .type "list",data := .seq ([] : List Value).toArray } }) sy hm1 ?_)
 refine wpAny_bind (wpAny_holding ?_)
 have I2 : s.heap.objs.size + 1 = (s.heap.push { cls := .type "list",data := .seq ([] : List Value).toArray }).objs.size := (Heap.size_push ..).symm
 have hm2 : DEs ((s.heap.push { cls := .type "list",data := .seq ([] : List Value).toArray }).push { cls := .type "dict_keyiterator",data := .fields #[.ref d,.int 0 0,.int es.size 0,.int ep 0] }) d es ep := hm1.at fun o e => Heap.get?_push_of_some _ e
 have ty2 := DEs.typ (s:={ s with heap := (s.heap.push { cls := .type "list",data := .seq ([] : List Value).toArray }).push { cls := .type "dict_keyiterator",data := .fields #[.ref d,.int 0 0,.int es.size 0,.int ep 0] } }) hm2
 unfold Builtin.List.listLengthHint
 refine wpAny_bind (wpAny_specialOf ty2 F.slot_dict_len.lookup ?_)
 generalize hid : ("dict.__len__" : String) = id0
 wp_delta
 rw [show splitId id0 = some ("dict","__len__") from by subst hid; decide +kernel]
 subst hid
 refine wpAny_bind (wpAny_isInstance (b:=true) ty2 (by rw [isSubtype_type]; kernel_rfl) ?_)
 rw [if_neg (by decide)]
 dsimp only
 rw [if_pos (by decide +kernel)]
 refine wpAny_bind (wpAny_typeOf ty2 ?_)
 refine wpAny_pure ?_
 rw [if_pos (by decide +kernel)]
 refine wpAny_bind (wpAny_rule ?_)
 unfold Builtin.List.listTouch
 have hS0 : ((s.heap.push { cls := .type "list",data := .seq ([] : List Value).toArray }).push { cls := .type "dict_keyiterator",data := .fields #[.ref d,.int 0 0,.int es.size 0,.int ep 0] }).get? s.heap.objs.size = some (seqObj "list" #[] 0) := Heap.get?_push_of_some _ (Heap.get?_push_size _ rfl)
 refine wpAny_bind (wpAny_bind (listUpdate_at hS0 rfl ?_ (Nat.zero_le _) (by show 1 <= sizeLine + 1; omega)))
 have hS1 := get?_update_seq hS0 (·.push .none)
 refine listUpdate_at hS1 rfl ?_ (by show 1 <= sizeLine; rw [sizeLine_eq]; decide) (by show 0 <= sizeLine + 1; omega)
 have hS2 := get?_update_seq hS1 (·.pop)
 have up : ∀ b o,b ≠ s.heap.objs.size -> ((s.heap.push { cls := .type "list",data := .seq ([] : List Value).toArray }).push { cls := .type "dict_keyiterator",data := .fields #[.ref d,.int 0 0,.int es.size 0,.int ep 0] }).get? b = some o ->
   ((((s.heap.push { cls := .type "list",data := .seq ([] : List Value).toArray }).push { cls := .type "dict_keyiterator",data := .fields #[.ref d,.int 0 0,.int es.size 0,.int ep 0] }).update s.heap.objs.size (Obj.mapSeq fun x => x.push Value.none)).update s.heap.objs.size (Obj.mapSeq fun x => x.pop)).get? b = some o := fun b o hb e =>
  (((Heap.SameBut.update ..).2 b hb).trans ((Heap.SameBut.update ..).2 b hb)).trans e
 have hI : ((s.heap.push { cls := .type "list",data := .seq ([] : List Value).toArray }).push { cls := .type "dict_keyiterator",data := .fields #[.ref d,.int 0 0,.int es.size 0,.int ep 0] }).get? (s.heap.push { cls := .type "list",data := .seq ([] : List Value).toArray }).objs.size = some { cls := .type "dict_keyiterator",data := .fields #[.ref d,.int 0 0,.int es.size 0,.int ep 0] } := Heap.get?_push_size _ rfl
 have neI : (s.heap.push { cls := .type "list",data := .seq ([] : List Value).toArray }).objs.size ≠ s.heap.objs.size := by rw [<- I2]; omega
 have old : ∀ b o,s.heap.get? b = some o -> ((s.heap.push { cls := .type "list",data := .seq ([] : List Value).toArray }).push { cls := .type "dict_keyiterator",data := .fields #[.ref d,.int 0 0,.int es.size 0,.int ep 0] }).get? b = some o := fun b o e => Heap.get?_push_of_some _ (Heap.get?_push_of_some _ e)
 generalize ((((s.heap.push { cls := .type "list",data := .seq ([] : List Value).toArray }).push { cls := .type "dict_keyiterator",data := .fields #[.ref d,.int 0 0,.int es.size 0,.int ep 0] }).update s.heap.objs.size (Obj.mapSeq fun x => x.push Value.none)).update s.heap.objs.size (Obj.mapSeq fun x => x.pop)) = h5 at hS2 up ⊢
 have st : h5.IsKeyIter (s.heap.push { cls := .type "list",data := .seq ([] : List Value).toArray }).objs.size d 0 es.size ep := ⟨_,up _ _ neI hI,rfl,rfl⟩
 have da : DEs h5 d es ep := hm2.at fun o e => up d o (Ne.symm hSd) e
 generalize hIa : (s.heap.push { cls := .type "list",data := .seq ([] : List Value).toArray }).objs.size = Ia at st neI hI ⊢
 have ia : Ia = s.heap.objs.size + 1 := by rw [<- hIa]; exact I2.symm
 have ne : d ≠ Ia := by rw [ia]; exact Nat.ne_of_lt (Nat.lt_succ_of_lt dl)
 have nS : s.heap.objs.size ∉ [Ia,d] := fun h => by
  rcases List.mem_cons.mp h with c | c
  ·exact neI c.symm
  ·exact hSd (List.mem_singleton.mp c)
 have W := (zrQ (prog:=prog) (w:=w) (A:=A.in1) hh Ia d ne es ep).toS
 refine wpAny_pure ⟨plainId_quiet F.plain_extend_loop _,codeAny_extend_loopS W (by rw [sizeLine_eq]; omega) s.heap.objs.size nS _ es.size 0 _ _ _ rfl (Nat.zero_le _) ⟨st,da⟩ hS2 (ItemsOf.nil _) fun s' acc' c' mv hS' hacc => ?_⟩
 show wpAny _ A (load s.heap.objs.size >>= _) _ _ s'
 refine wpAny_bind (wpAny_load hS' ?_)
 refine wpAny_pure (hQ s' acc' (fun b o e => ?_) mv.gens mv.drawn mv.os (Nat.le_of_lt (Heap.lt_size hS')) hacc)
 have lt := Heap.lt_size e
 have b1 : b ≠ s.heap.objs.size := Nat.ne_of_lt lt
 have b2 : b ≠ Ia := by rw [ia]; exact Nat.ne_of_lt (Nat.lt_succ_of_lt lt)
 refine mv.heap b o (fun h => ?_) (up b o b1 (old b o e))
 rcases List.mem_cons.mp h with c | c
 ·exact b1 c
 ·exact b2 (List.mem_singleton.mp c)
end
end PySem
namespace L2
open PySem PySem.Spec PyProof.Rows PySem.W
def Cx.in1 (X : Cx) : Cx := { X with A := X.A.in1 }
section
variable {X : Cx} {pins : List (Addr × Obj)} {σ : L2.St} {H : Hp} {s : Shared}
theorem Cx.Ok.in1 (o : X.Ok) : X.in1.Ok := ⟨o.mod,o.kind,o.glob,o.blt,o.above,o.inj,o.has,o.cab,o.hd,o.frames,o.stk,o.exf,o.bs,o.bsz,o.noex,o.exfs,o.zml,o.frf⟩
theorem Cx.Ok.ztD (o : X.in1.Ok) : X.Ok := ⟨o.mod,o.kind,o.glob,o.blt,o.above,o.inj,o.has,o.cab,o.hd,o.frames,o.stk,o.exf,o.bs,o.bsz,o.noex,o.exfs,o.zml,o.frf⟩
theorem Inv.in1 (I : Inv X pins σ H s) : Inv X.in1 pins σ H s := ⟨I.ok.in1,I.os,I.bare,I.base,I.loc,I.cell,I.free,I.freeC,I.pin,I.hok,I.len⟩
theorem Inv.ztD (I : Inv X.in1 pins σ H s) : Inv X pins σ H s := ⟨I.ok.ztD,I.os,I.bare,I.base,I.loc,I.cell,I.free,I.freeC,I.pin,I.hok,I.len⟩
end
end L2
namespace L2
open PySem PySem.Spec PyProof.Rows PySem.W
theorem zp8 : ∀ a b c : List Int,HT.lexLt b a = false -> HT.lexLt c b = false -> HT.lexLt c a = false
 | [],_,[],_,_ => rfl
 | [],[],_ :: _,_,_ => rfl
 | [],_ :: _,_ :: _,_,_ => rfl
 | _ :: _,[],_,h,_ => by cases h
 | _ :: _,_ :: _,[],_,h => by cases h
 | x :: xs,y :: ys,z :: zs,h1,h2 => by
  simp only [HT.lexLt] at h1 h2 ⊢
  by_cases c1 : y = x
  ·subst c1
   rw [if_pos rfl] at h1
   by_cases c2 : z = y
   ·subst c2; rw [if_pos rfl] at h2 ⊢; exact zp8 xs ys zs h1 h2
   ·rw [if_neg c2] at h2 ⊢; exact h2
  ·rw [if_neg c1] at h1
   have h1' := of_decide_eq_false h1
   by_cases c2 : z = y
   ·subst c2; rw [if_neg c1]; exact h1
   ·rw [if_neg c2] at h2
    have h2' := of_decide_eq_false h2
    rw [if_neg (by omega)]
    exact decide_eq_false (by omega)
theorem zlo : ∀ a b : List Int,HT.lexLt a b = true -> HT.lexLt b a = false
 | [],[],h => by cases h
 | [],_ :: _,_ => rfl
 | _ :: _,[],h => by cases h
 | x :: xs,y :: ys,h => by
  simp only [HT.lexLt] at h ⊢
  by_cases c : x = y
  ·subst c; rw [if_pos rfl] at h ⊢; exact zlo xs ys h
  ·rw [if_neg c] at h
   have h' := of_decide_eq_true h
   rw [if_neg (by omega)]
   exact decide_eq_false (by omega)
abbrev WK := Int × List Int
def ltK (p q : WK) : Bool := if p.1 = q.1 then HT.lexLt p.2 q.2 else decide (p.1 < q.1)
theorem znk (a b c : WK) (h1 : ltK b a = false) (h2 : ltK c b = false) : ltK c a = false:=by
 unfold ltK at h1 h2 ⊢
 by_cases c1 : b.1 = a.1
 ·rw [if_pos c1] at h1
  by_cases c2 : c.1 = b.1
  ·rw [if_pos c2] at h2; rw [if_pos (c2.trans c1)]; exact zp8 _ _ _ h1 h2
  ·rw [if_neg c2] at h2; rw [if_neg (by rw [<- c1]; exact c2),<- c1]; exact h2
 ·rw [if_neg c1] at h1
  have h1' := of_decide_eq_false h1
  by_cases c2 : c.1 = b.1
  ·rw [c2,if_neg c1]; exact h1
  ·rw [if_neg c2] at h2
   have h2' := of_decide_eq_false h2
   rw [if_neg (by omega)]
   exact decide_eq_false (by omega)
theorem zjz (a b : WK) (h : ltK a b = true) : ltK b a = false:=by
 unfold ltK at h ⊢
 by_cases c : a.1 = b.1
 ·rw [if_pos c] at h; rw [if_pos c.symm]; exact zlo _ _ h
 ·rw [if_neg c] at h
  have h' := of_decide_eq_true h
  rw [if_neg (by omega)]
  exact decide_eq_false (by omega)
def ltP (kd : List WK) (i j : Nat) : Bool := ltK (kd.getD i (0,[])) (kd.getD j (0,[]))
theorem zuT (kd : List WK) : Ord (ltP kd) := ⟨fun _ _ _ h1 h2 => znk _ _ _ h1 h2,fun _ _ h => zjz _ _ h⟩
def zes (H : Hp) (k : WK) (v : V) : Prop := ∃ b c,v = .ref b /\ TAt H b [.int k.1,.ref c] /\ TAt H c (k.2.map V.int)
def zib (H : Hp) : List WK -> List V -> Prop
 | [],vs => vs = []
 | k :: r,vs => ∃ v t,vs = v :: t /\ zes H k v /\ zib H r t
theorem TAt.same {H H' : Hp} {b : Addr} {xs : List V} (s : zaY H H') (h : TAt H b xs) : TAt H' b xs:=by
 rcases h with h | ⟨o,h⟩
 ·exact .inl (s _ _ h)
 ·exact .inr ⟨o,s _ _ h⟩
theorem zes.same {H H' : Hp} {k : WK} {v : V} (s : zaY H H') (h : zes H k v) : zes H' k v:=by
 obtain ⟨b,c,e,h1,h2⟩ := h
 exact ⟨b,c,e,h1.same s,h2.same s⟩
theorem zib.same {H H' : Hp} (s : zaY H H') : ∀ {ks : List WK} {vs : List V},zib H ks vs -> zib H' ks vs
 | [],vs,h => h
 | k :: r,vs,h => by
  obtain ⟨v,t,e,h1,h2⟩ := h
  exact ⟨v,t,e,h1.same s,zib.same s h2⟩
theorem zib.snoc {H : Hp} {k : WK} {v : V} (h : zes H k v) : ∀ {ks : List WK} {vs : List V},zib H ks vs -> zib H (ks ++ [k]) (vs ++ [v])
 | [],vs,e => by
  have : vs = [] := e
  subst this
  exact ⟨v,[],rfl,h,rfl⟩
 | k0 :: r,vs,e => by
  obtain ⟨v0,t,rfl,h1,h2⟩ := e
  exact ⟨v0,t ++ [v],rfl,h1,zib.snoc h h2⟩
theorem zib.len {H : Hp} : ∀ {ks : List WK} {vs : List V},zib H ks vs -> vs.length = ks.length
 | [],vs,e => by
  have : vs = [] := e
  subst this; rfl
 | k0 :: r,vs,e => by
  obtain ⟨v0,t,rfl,h1,h2⟩ := e
  simp [zib.len h2]
theorem zib.get {H : Hp} : ∀ {ks : List WK} {vs : List V} {i : Nat} {v : V},zib H ks vs -> vs[i]? = some v -> zes H (ks.getD i (0,[])) v
 | [],vs,i,v,e,h => by
  have : vs = [] := e
  subst this; simp at h
 | k0 :: r,vs,i,v,e,h => by
  obtain ⟨v0,t,rfl,h1,h2⟩ := e
  cases i with
  | zero => simp at h; subst h; exact h1
  | succ i => simpa using zib.get h2 (i:=i) (by simpa using h)
section
variable {X : Cx} {pins : List (Addr × Obj)} {σ : L2.St} {H : Hp} {s : Shared}
theorem zgM (I : Inv X pins σ H s) {k : WK} {v : V} {u : Value} (h : zes H k v) (r : RelV v u) :
  ∃ b o n0 c,∃ tk : Tok,u = .ref b /\ s.heap.get? b = some o /\ o.cls = .type "tuple" /\ o.data = .seq #[.int k.1 tk,.ref c] n0 /\ TAt H c (k.2.map V.int):=by
 obtain ⟨b,c,rfl,h1,h2⟩ := h
 cases r
 obtain ⟨its,rv,⟨o,ho,hc,n,hd⟩,_⟩ := I.tuple (.inl h1)
 cases rv with
 | cons r1 rv =>
  cases rv with
  | cons r2 rv =>
   cases rv
   obtain ⟨tk,rfl⟩ := r1
   cases r2
   exact ⟨b,o,n,c,tk,rfl,ho,hc,hd,h2⟩
theorem ziK (I : Inv X pins σ H s) {c : Addr} {w : List Int} (h : TAt H c (w.map V.int)) : ∃ its : Array Value,IsTup s.heap c its /\ IntsAre its.toList w:=by
 obtain ⟨its,rv,p,_⟩ := I.tuple (.inl h)
 exact ⟨its.toArray,p,by simpa using intsAre_of rv⟩
theorem map_inl (w : List Int) : (w.map (Sum.inl (β:=Str))).map kV = w.map V.int := by simp [kV]
theorem zsR (hu : X.A.units + 1 < cLine) (I : Inv X pins σ H s) {k k' : WK} {v v' : V} {u u' : Value} {C : Bool -> Shared -> Prop} {E : Value -> Shared -> Prop} (h : zes H k v) (h' : zes H k' v') (r : RelV v u) (r' : RelV v' u')
  (q : C (ltK k k') s) : wpAny (model X.prog X.w) X.A (keyLt' (tuples' true) u u') C E s:=by
 obtain ⟨b,o,n0,c,tk,rfl,ho,hc,hd,hw⟩ := zgM I h r
 obtain ⟨b',o',n0',c',tk',rfl,ho',hc',hd',hw'⟩ := zgM I h' r'
 refine kat_lt ho hd ho' hd' ?_
 refine kat_cons (wpAny_eqBool_int ?_)
 unfold ltK at q
 by_cases e1 : k.1 = k'.1
 ·rw [if_pos e1] at q
  rw [show (k.1 == k'.1) = true from by simpa using e1]
  refine kat_yes (kat_cons ?_)
  have i1 := zcs (ks:=k.2.map (Sum.inl (β:=Str))) I.hok (by rw [map_inl]; exact hw)
  have i2 := zcs (ks:=k'.2.map (Sum.inl (β:=Str))) I.hok (by rw [map_inl]; exact hw')
  refine wpAny_eqBool_tuple (by omega) i1 i2 ?_
  by_cases e2 : k.2 = k'.2
  ·rw [show decide (k.2.map (Sum.inl (β:=Str)) = k'.2.map Sum.inl) = true from by rw [e2]; simp]
   refine kat_yes (kat_nil ?_)
   rw [e2] at q
   have z : HT.lexLt k'.2 k'.2 = false:=by
    cases hz : HT.lexLt k'.2 k'.2 with
    | false => rfl
    | true => exact hz.symm.trans (zlo _ _ hz)
   rw [z] at q
   simpa using q
  ·rw [show decide (k.2.map (Sum.inl (β:=Str)) = k'.2.map Sum.inl) = false from decide_eq_false fun z => e2 (by
    have := congrArg (List.map (Sum.elim id fun _ => (0 : Int))) z
    simpa [List.map_map,Function.comp_def] using this)]
   refine kat_no ?_
   obtain ⟨its,p1,j1⟩ := ziK I hw
   obtain ⟨its',p2,j2⟩ := ziK I hw'
   exact kat_one _ _ (HT.zff p1 p2 j1 j2 (by omega) q)
 ·rw [if_neg e1] at q
  rw [show (k.1 == k'.1) = false from by simpa using e1]
  exact kat_no (oneLt_int q)
end
end L2
namespace L2
open PySem PySem.Spec PyProof.Rows PySem.W
section
variable {X : Cx} {pins : List (Addr × Obj)} {σ : L2.St} {H : Hp} {s : Shared} {h' : Heap}
theorem Inv.adopt {a : Addr} {o : HO} {t' : Nat} (I : Inv X pins σ H s) (k : ∀ b u,b ≠ a -> s.heap.get? b = some u -> h'.get? b = some u) (hf : zhn X pins H a) (new : zbu X.prog X.w (upd H a o) h' a o) :
  Inv X pins σ (upd H a o) { s with heap := h',toks := t' }:=by
 obtain ⟨hn,hL,hfs,h1,h2,h3⟩ := hf
 have ne : ∀ b u,H b = some u -> b ≠ a := fun b u e z => by rw [z,hn] at e; cases e
 refine I.step (g' := s.gens) (d' := s.drawn) (ch:=[a]) (fun b hb => ?_) (fun b o _ _ hc e _ => k b o (fun z => hc (by simp [z])) e) (fun b o _ _ hc e _ => ⟨o.slots,k b o (fun z => hc (by simp [z])) e⟩) (fun b o hc _ n => ?_)
  (fun b o hc e => ⟨o,k b o (fun z => hc (by simp [z])) e⟩) (fun b xs e => ?_) (fun b o u e => ?_) (fun b ps e => ⟨#[],?_⟩) (fun m hm => ?_) (fun b u e => ?_) I.bare
 ·have e : b = a := by simpa using hb
  subst e
  exact ⟨h1,hL,h2,h3⟩
 ·rw [zay fun z => hc (by simp [z])]; exact n
 ·rw [zay (ne b _ e)]; exact e
 ·rw [zay (ne b _ e)]; exact e
 ·rw [zay (ne b _ e),e]; simp
 ·obtain ⟨o,es,ep,ho,r⟩ := hm
  exact ⟨o,es,ep,k _ o (Ne.symm hL) ho,r⟩
 ·by_cases c : b = a
  ·subst c
   rw [zas] at e
   cases e
   exact new
  ·rw [zay c] at e
   refine (I.hok b u e).stay (fun d v hc q => k d v ?_ q) (fun b' q => by rw [zay (ne b' _ q)]; exact q) fun b' xs q => q.upd (fun _ r => ne b' _ r) fun _ _ r => ne b' _ r
   rcases hc with z | z
   ·rw [z]; exact ne b u e
   ·exact ne d _ z
variable {f kS a : Addr} {oa : Obj} {H0 : Hp} {E : Value -> Shared -> Prop} {Q : Shared -> Prop}
def KCall (X : Cx) (σ : L2.St) (H0 : Hp) (f : Addr) (x : V) (kk : WK) : Prop := ∀ (u : Value) (pins' : List (Addr × Obj)) (H' : Hp) (s' : Shared),RelV x u -> zaY H0 H' -> Inv X pins' σ H' s' ->
 wpAny (model X.prog X.w) X.A (call (.ref f) [u]) (EP X pins' σ fun k H'' => zaY H' H'' /\ zes H'' kk k) (fun _ _ => False) s'
def zic (X : Cx) (σ : L2.St) (H0 : Hp) (f : Addr) : List V -> List WK -> Prop
 | [],kd => kd = []
 | x :: r,kd => ∃ k t,kd = k :: t /\ KCall X σ H0 f x k /\ zic X σ H0 f r t
theorem zhO {H1 H2 H3 : Hp} (a : zaY H1 H2) (b : zaY H2 H3) : zaY H1 H3 := fun c o e => b c o (a c o e)
theorem zlr {body : Value -> PUnit -> Sem (ForInStep PUnit)}
  (hb : ∀ (x : Value) (s : Shared) (C : Shared -> Prop),wpAny (model X.prog X.w) X.A (call (.ref f) [x]) (fun k s' => wpAny (model X.prog X.w) X.A (Builtin.List.listUpdate (.ref kS) (·.push k)) (fun _ s'' => C s'') E s') (fun _ _ => False) s ->
   wpAny (model X.prog X.w) X.A (body x ⟨⟩) (fun r s'' => r = .yield ⟨⟩ /\ C s'') E s) :
  ∀ (us : List Value) (xs : List V) (kd : List WK) (done : List Value) (kvs : List V) (dk : List WK) (e : Nat) (H : Hp) (s : Shared),Vals xs us -> done.length + us.length < 64 -> Inv X (pins ++ [(a,oa)]) σ H s -> zaY H0 H ->
   zhn X (pins ++ [(a,oa)]) H kS -> s.heap.get? kS = some (seqObj "list" done.toArray e) -> Vals kvs done -> zib H dk kvs -> zic X σ H0 f xs kd ->
   (∀ H' s' done' kvs' e',Inv X (pins ++ [(a,oa)]) σ H' s' -> zaY H0 H' -> zhn X (pins ++ [(a,oa)]) H' kS -> s'.heap.get? kS = some (seqObj "list" (List.toArray done') e') -> Vals kvs' done' -> zib H' (dk ++ kd) kvs' -> Q s') ->
   wpAny (model X.prog X.w) X.A (forIn us PUnit.unit body) (fun _ s' => Q s') E s
 | [],xs,kd,done,kvs,dk,e,H,s,rv,hl,I,sm,fp,hk,rk,ks,kc,fin => by
  rw [List.forIn_nil]
  cases rv
  have : kd = [] := kc
  subst this
  refine wpAny_pure (fin H s done kvs e I sm fp hk rk ?_)
  rw [List.append_nil]; exact ks
 | u :: us,xs,kd,done,kvs,dk,e,H,s,rv,hl,I,sm,fp,hk,rk,ks,kc,fin => by
  rw [List.forIn_cons]
  cases rv with
  | @cons x _ xr _ rx rv =>
   obtain ⟨k,t,rfl,c1,kc⟩ := kc
   rw [List.length_cons] at hl
   have I2 : Inv X ((pins ++ [(a,oa)]) ++ [(kS,seqObj "list" done.toArray e)]) σ H s := I.ziy fun p hp => by
    rcases List.mem_append.mp hp with z | z
    ·exact I.pin p (List.mem_append_right _ z)
    ·have e : p = (kS,seqObj "list" done.toArray e) := by simpa using z
     subst e
     exact ⟨hk,fp.1,fp.2.1,fp.2.2.1,fun v z => nomatch z⟩
   refine wpAny_bind (wpAny_mono (hb u s (fun s2 => ∃ H2 k2 v2 e2,Inv X (pins ++ [(a,oa)]) σ H2 s2 /\ zaY H H2 /\ zhn X (pins ++ [(a,oa)]) H2 kS /\ s2.heap.get? kS = some (seqObj "list" (done ++ [k2]).toArray e2) /\ RelV v2 k2 /\ zes H2 k v2) ?_) (fun r s2 ⟨er,H2,k2,v2,e2,I5,sm2,fp2,hk2,rk2,ka⟩ => ?_) fun _ _ z => z)
   ·refine wpAny_mono (c1 u _ H s rx sm I2) (fun k2 s3 ⟨v2,H3,I3,r3,sm3,ka⟩ => ?_) fun _ _ z => z
    obtain ⟨p1,p2,_⟩ := I3.pin (kS,seqObj "list" done.toArray e) (List.mem_append_right _ (List.mem_append_right _ (by simp)))
    have hlen : done.toArray.size < 64 := by rw [List.size_toArray]; omega
    have ea : (done.toArray).push k2 = (done ++ [k2]).toArray := by simp
    refine listUpdate_at p1 rfl ?_ (by rw [sizeLine_eq]; omega) (by rw [Array.size_push,sizeLine_eq]; omega)
    have I4 := I3.zcp
    refine ⟨H3,k2,v2,(if ((done.toArray).push k2).size == done.toArray.size then e else e + 1),I4.turned (t' := s3.toks) (fun b o hb e => ((Heap.SameBut.update ..).2 b hb).trans e) p2 fp.2.1 fp.2.2.2.1 fp.2.2.2.2.1 fp.2.2.2.2.2,sm3,⟨p2,fp.2⟩,?_,r3,ka⟩
    rw [<- ea]
    exact get?_update_seq p1 (·.push k2)
   ·subst er
    show wpAny _ _ (forIn us PUnit.unit body) _ _ s2
    refine zlr hb us xr t (done ++ [k2]) (kvs ++ [v2]) (dk ++ [k]) e2 H2 s2 rv (by rw [List.length_append,List.length_singleton]; omega) I5 (zhO sm sm2) fp2 hk2 (rk.append (.cons rk2 .nil)) (zib.snoc ka (ks.same sm2)) kc fun H' s' d' kv' e' a1 a2 a3 a4 a5 a6 => fin H' s' d' kv' e' a1 a2 a3 a4 a5 ?_
    rw [List.append_assoc] at a6
    exact a6
theorem zkW : ∀ {xs : List V} {us : List Value} (p : List Nat),Vals xs us -> (∀ i ∈ p,i < us.length) -> Vals (p.map fun i => xs.getD i .non) (p.map fun i => us.getD i Value.none)
 | xs,us,[],_,_ => .nil
 | xs,us,i :: p,r,h => by
  refine .cons ?_ (zkW p r fun j hj => h j (List.mem_cons_of_mem _ hj))
  have hi := h i (List.mem_cons_self ..)
  have hl := r.length
  obtain ⟨w,ew,rw'⟩ := r.get (i:=i) (x:=xs[i]) (List.getElem?_eq_getElem (by omega))
  have e1 : xs.getD i .non = xs[i] := by simp [List.getD_eq_getElem?_getD,List.getElem?_eq_getElem (show i < xs.length by omega)]
  have e2 : us.getD i Value.none = w := by rw [List.getD_eq_getElem?_getD,ew]; rfl
  show RelV (xs.getD i .non) (us.getD i Value.none)
  rw [e1,e2]
  exact rw'
theorem ztp (n : Nat) : Arr n (List.toArray (List.range n)) := ⟨by simp,Array.Perm.refl _⟩
theorem zmH {us : List Value} {xs : List V} {kd : List WK} {n0 : Nat} {P : PySem.Fin -> Shared -> Prop} (hu : X.A.units + 1 < cLine) (I : Inv X pins σ H s) (ho : s.heap.get? a = some (seqObj "list" us.toArray n0)) (hf : zhn X pins H a) (rv : Vals xs us) (hl : us.length < 64)
  (hc : zic X σ H f xs kd)
  (hQ : ∀ (p : Array Nat) (H' : Hp) (s' : Shared),Arr us.length p -> Up (ltP kd) p us.length -> zaY H H' -> H' a = none -> Inv X pins σ (upd H' a (.lst (p.toList.map fun i => xs.getD i .non))) s' -> P (.done (.ret .none)) s') :
  wpAny (model X.prog X.w) X.A (ksk_tree a (.ref f) false) P E s:=by
 have hk : ∀ {xs : List V} {kd : List WK},zic X σ H f xs kd -> kd.length = xs.length:=by
  intro xs
  induction xs with
  | nil => intro kd h; have : kd = [] := h; subst this; rfl
  | cons x r ih => intro kd h; obtain ⟨k,t,rfl,_,h2⟩ := h; simp [ih h2]
 have hkl := hk hc
 have hxl := rv.length
 have s1 := Heap.SameBut.update s.heap a (Obj.mapSeq fun _ => (#[] : Array Value))
 obtain ⟨e1,ho1⟩ : ∃ e1,(s.heap.update a (Obj.mapSeq fun _ => (#[] : Array Value))).get? a = some (seqObj "list" #[] e1) := ⟨_,get?_update_seq ho fun _ => #[]⟩
 unfold ksk_tree
 refine wpAny_bind (listItems_at ho rfl ?_)
 refine wpAny_bind (listUpdate_at ho rfl ?_ (by rw [List.size_toArray,sizeLine_eq]; omega) (Nat.zero_le _))
 refine wpAny_bind (seqEpoch_at ho1 rfl ?_)
 refine wpAny_bind (wpAny_newTuple ?_ (by show us.length <= _; rw [sizeLine_eq]; omega))
 refine wpAny_bind (wpAny_newList ?_ (Nat.zero_le _))
 refine wpAny_holding ?_
 have I1 : Inv X pins σ H { s with heap := s.heap.update a (Obj.mapSeq fun _ => (#[] : Array Value)) } := I.turned (t' := s.toks) (fun b o hb e => (s1.2 b hb).trans e) hf.1 hf.2.1 hf.2.2.2.1 hf.2.2.2.2.1 hf.2.2.2.2.2
 have k2 : ∀ b u,(s.heap.update a (Obj.mapSeq fun _ => (#[] : Array Value))).get? b = some u -> (((s.heap.update a (Obj.mapSeq fun _ => (#[] : Array Value))).push (seqObj "tuple" us.toArray 0)).push (seqObj "list" #[] 0)).get? b = some u := fun b u e => Heap.get?_push_of_some _ (Heap.get?_push_of_some _ e)
 have I2 : Inv X pins σ H { s with heap := ((s.heap.update a (Obj.mapSeq fun _ => (#[] : Array Value))).push (seqObj "tuple" us.toArray 0)).push (seqObj "list" #[] 0) } := I1.kept (t' := s.toks) k2
 have ho2 := k2 a _ ho1
 have hkS : (((s.heap.update a (Obj.mapSeq fun _ => (#[] : Array Value))).push (seqObj "tuple" us.toArray 0)).push (seqObj "list" #[] 0)).get? ((s.heap.update a (Obj.mapSeq fun _ => (#[] : Array Value))).push (seqObj "tuple" us.toArray 0)).objs.size = some (seqObj "list" ([] : List Value).toArray 0) := Heap.get?_push_size _ rfl
 have hge : s.heap.objs.size <= ((s.heap.update a (Obj.mapSeq fun _ => (#[] : Array Value))).push (seqObj "tuple" us.toArray 0)).objs.size := by rw [size_push',Heap.size_update]; omega
 have I3 : Inv X (pins ++ [(a,seqObj "list" #[] e1)]) σ H { s with heap := ((s.heap.update a (Obj.mapSeq fun _ => (#[] : Array Value))).push (seqObj "tuple" us.toArray 0)).push (seqObj "list" #[] 0) } := I2.ziy fun p hp => by
  rcases List.mem_append.mp hp with z | z
  ·exact I2.pin p (List.mem_append_right _ z)
  ·have e : p = (a,seqObj "list" #[] e1) := by simpa using z
   subst e
   exact ⟨ho2,hf.1,hf.2.1,hf.2.2.1,fun v z => nomatch z⟩
 have fkS : zhn X (pins ++ [(a,seqObj "list" #[] e1)]) H ((s.heap.update a (Obj.mapSeq fun _ => (#[] : Array Value))).push (seqObj "tuple" us.toArray 0)).objs.size:=by
  obtain ⟨f0,f1,f2,f3,f4,f5⟩ := I.zow hge (I.hok.fresh hge)
  refine ⟨f0,f1,f2,f3,f4,fun p hp => ?_⟩
  rw [<- List.append_assoc] at hp
  rcases List.mem_append.mp hp with z | z
  ·exact f5 p z
  ·have e : p = (a,seqObj "list" #[] e1) := by simpa using z
   subst e
   exact Nat.ne_of_lt (Nat.lt_of_lt_of_le (Heap.lt_size ho) hge)
 generalize hks : ((s.heap.update a (Obj.mapSeq fun _ => (#[] : Array Value))).push (seqObj "tuple" us.toArray 0)).objs.size = kS at hkS fkS ⊢
 have nka : kS ≠ a := fun z => fkS.2.2.2.2.2 (a,seqObj "list" #[] e1) (List.mem_append_right _ (List.mem_append_right _ (by simp))) z.symm
 clear hge hks k2 I2 I1
 unfold ksk_rest
 refine wpAny_bind (wpAny_rule ?_)
 first
  | rw [List.forIn_toArray]
  | (rw [<- Array.forIn_toList]; simp only [List.toList_toArray])
  | rw [<- Array.forIn_toList]
 refine wpAny_bind (wpAny_mono (zlr (E:=E) (H0:=H) (a:=a) (oa:=seqObj "list" #[] e1) (kS:=kS) (f:=f) (Q:=fun s' => ∃ H' done kvs e',Inv X (pins ++ [(a,seqObj "list" #[] e1)]) σ H' s' /\ zaY H H' /\ zhn X (pins ++ [(a,seqObj "list" #[] e1)]) H' kS /\ s'.heap.get? kS = some (seqObj "list" (List.toArray done) e') /\ Vals kvs done /\ zib H' kd kvs)
  (fun x s' C hx => ?_) us xs kd [] [] [] 0 H _ rv (by simpa using hl) I3 (zaY.refl _) fkS hkS .nil rfl hc fun H' s' d' kv' e' a1 a2 a3 a4 a5 a6 => ⟨H',d',kv',e',a1,a2,a3,a4,a5,a6⟩) (fun _ s' hd => ?_) fun _ _ z => z)
 ·refine wpAny_bind (wpAny_attempt (wpAny_mono hx (fun k s'' hk => ?_) fun _ _ hF => hF.elim))
  try dsimp only
  exact wpAny_bind (wpAny_mono hk (fun _ s3 h3 => wpAny_pure ⟨rfl,h3⟩) fun _ _ z => z)
 ·obtain ⟨H',done,kvs,e',I4,sm,fk,hk4,rk,ks⟩ := hd
  try dsimp only
  refine wpAny_bind (listItems_at hk4 rfl ?_)
  have hdl : done.length = us.length := by rw [<- rk.length,ks.len,hkl,hxl]
  obtain ⟨pa1,pa2,_⟩ := I4.pin (a,seqObj "list" #[] e1) (List.mem_append_right _ (List.mem_append_right _ (by simp)))
  have tail : ∀ (st : SortSt) (p : Array Nat),Arr us.length p -> Up (ltP kd) p us.length -> (arrOf st).map (·.2) = List.toArray (p.toList.map fun i => us.getD i Value.none) -> failedOf st = none ->
    wpAny (model X.prog X.w) X.A (ksk_tail a false e1 (.ref kS) st) P E s' := fun st p ar up har hfl => by
   have hps : p.size = us.length := ar.sz
   have hout : (List.toArray (p.toList.map fun i => us.getD i Value.none)).size = us.length := by rw [List.size_toArray,List.length_map,Array.length_toList,hps]
   have t1 := Heap.SameBut.update s'.heap kS (Obj.mapSeq fun _ => (#[] : Array Value))
   have na1 : (s'.heap.update kS (Obj.mapSeq fun _ => (#[] : Array Value))).get? a = some (seqObj "list" #[] e1) := (t1.2 a nka.symm).trans pa1
   have t2 := Heap.SameBut.update (s'.heap.update kS (Obj.mapSeq fun _ => (#[] : Array Value))) a (Obj.mapSeq fun _ => List.toArray (p.toList.map fun i => us.getD i Value.none))
   obtain ⟨c2,hc2⟩ : ∃ c2,((s'.heap.update kS (Obj.mapSeq fun _ => (#[] : Array Value))).update a (Obj.mapSeq fun _ => List.toArray (p.toList.map fun i => us.getD i Value.none))).get? a = some (seqObj "list" (List.toArray (p.toList.map fun i => us.getD i Value.none)) c2) :=
    ⟨_,get?_update_seq na1 fun _ => List.toArray (p.toList.map fun i => us.getD i Value.none)⟩
   unfold ksk_tail
   try dsimp only
   rw [har]
   refine wpAny_bind (listUpdate_at hk4 rfl ?_ (by rw [List.size_toArray,sizeLine_eq]; omega) (Nat.zero_le _))
   refine wpAny_bind (wpAny_letGo ?_)
   refine wpAny_bind (seqEpoch_at na1 rfl ?_)
   refine wpAny_bind (listUpdate_at na1 rfl ?_ (Nat.zero_le _) (by simp only [Bool.false_eq_true,if_false]; rw [hout,sizeLine_eq]; omega))
   rw [hfl]
   simp only [bne_self_eq_false,Bool.false_eq_true,if_false]
   have I5 := I4.turned (t' := s'.toks) (fun b o hb e => (t1.2 b hb).trans e) fk.1 fk.2.1 fk.2.2.2.1 fk.2.2.2.2.1 fk.2.2.2.2.2
   have I6 : Inv X pins σ H' { s' with heap := s'.heap.update kS (Obj.mapSeq fun _ => (#[] : Array Value)) } := I5.zcp
   refine wpAny_pure (hQ p H' _ ar up sm pa2 (I6.adopt (t' := s'.toks) (fun b u hb e => (t2.2 b hb).trans e) ⟨pa2,hf.2⟩ ?_))
   have mem : ∀ i ∈ p.toList,i < us.length := fun i hi => by
    have := (Array.perm_iff_toList_perm.mp ar.pm).mem_iff.mp hi
    simpa using this
   exact ⟨by rw [List.length_map,Array.length_toList,hps,sizeLine_eq]; omega,p.toList.map fun i => us.getD i Value.none,c2,zkW p.toList rv mem,hc2⟩
  unfold ksk_end
  try dsimp only
  simp only [Bool.false_eq_true,if_false]
  by_cases h2 : us.toArray.size < 2
  ·rw [if_pos h2,if_pos h2]
   rw [List.size_toArray] at h2
   refine wpAny_bind (wpAny_pure ?_)
   rw [StateT.run_pure]
   refine wpAny_bind (wpAny_pure ?_)
   try dsimp only
   refine tail _ (List.toArray (List.range us.length)) (ztp _) (fun i j hij hj => ?_) ?_ rfl
   ·have : i = j := by omega
    subst this
    exact (zuT kd).refl _
   ·show ((done.toArray.zip us.toArray).map (·.2)) = _
    apply Array.toList_inj.mp
    rw [Array.toList_map,ksk_zip]
    simp only [List.toList_toArray]
    rw [List.map_snd_zip (by omega)]
    apply List.ext_getElem (by simp)
    intro i h3 h4
    simp [List.getD_eq_getElem?_getD,List.getElem?_eq_getElem h3]
  ·rw [if_neg h2,if_neg h2]
   rw [List.size_toArray] at h2
   have tups : ∀ {ks : List WK} {kv : List V} {ds : List Value},zib H' ks kv -> Vals kv ds -> ∃ fs : List Value,KatTups s'.heap ds fs /\ fs.length = ds.length /\ ∀ v ∈ fs,∃ i t,v = Value.int i t:=by
    intro ks
    induction ks with
    | nil => intro kv ds h r; have : kv = [] := h; subst this; cases r; exact ⟨[],.nil,rfl,fun v hv => by simp at hv⟩
    | cons k r0 ih =>
     intro kv ds h r
     obtain ⟨v,t,rfl,h1,h2⟩ := h
     cases r with
     | cons r1 r2 =>
      obtain ⟨fs,t1,t2,t3⟩ := ih h2 r2
      obtain ⟨b,o,n0,c,tk,rfl,g1,g2,g3,_⟩ := zgM I4 h1 r1
      refine ⟨.int k.1 tk :: fs,.cons g1 g2 g3 rfl t1,by simp [t2],fun v hv => ?_⟩
      rcases List.mem_cons.mp hv with rfl | hv
      ·exact ⟨_,_,rfl⟩
      ·exact t3 v hv
   obtain ⟨fs,kt,lfs,hfs⟩ := tups ks rk
   refine wpAny_bind (kat_kind (T:=.type "int") kt (by omega) (fun v hv => by obtain ⟨i,t,rfl⟩ := hfs v hv; exact Looks.of_pure rfl) (by decide) ?_)
   rw [show ((Value.type "int" != Value.type "tuple") : Bool) = true from by decide]
   refine wpAny_bind (wpAny_mono (kat_run (E:=E) (vs:=us) (ks:=done) (κ:=tuples' true) (Q:=fun st' s2 => s2 = s' /\ ∃ p : Array Nat,Arr us.length p /\ Up (ltP kd) p us.length /\ arrOf st' = p.map (kas_item (done.toArray.zip us.toArray)) /\ failedOf st' = none) hdl (by omega) hl
    (G:=fun p s2 => s2 = s' /\ Arr us.length p /\ Up (ltP kd) p us.length) (fun p st' s2 a1 a2 a3 a4 => ⟨a4.1,p,a4.2.1,a4.2.2,a2,a3⟩) ?_) ?_ fun _ _ z => z)
   ·refine zqE (P:=fun s2 => s2 = s') (zuT kd) (fun i j C s2 hi hj es hC => ?_) (by omega) rfl fun p s2 es ar up => ⟨es,ar,up⟩
    subst es
    have hget : ∀ i,i < us.length -> ∃ v u,kvs[i]? = some v /\ RelV v u /\ done.getD i Value.none = u := fun i hi => by
     have hi' : i < kvs.length := by rw [rk.length]; omega
     obtain ⟨u,eu,ru⟩ := rk.get (List.getElem?_eq_getElem hi')
     exact ⟨_,u,List.getElem?_eq_getElem hi',ru,by rw [List.getD_eq_getElem?_getD,eu]; rfl⟩
    obtain ⟨v,u,g1,g2,g3⟩ := hget i hi
    obtain ⟨v',u',g1',g2',g3'⟩ := hget j hj
    show wpAny _ _ (keyLt' (tuples' true) (done.getD i Value.none) (done.getD j Value.none)) _ _ _
    rw [g3,g3']
    exact zsR hu I4 (ks.get g1) (ks.get g1') g2 g2' (hC _ rfl)
   ·rintro ⟨⟨⟩,st'⟩ s2 ⟨es,p,ar,up,har,hfl⟩
    have es' : s2 = s' := es
    subst es'
    try dsimp only
    exact tail st' p ar up (kat_snds hdl har) hfl
end
end L2
namespace L2
open PySem PySem.Spec PyProof.Rows PySem.W
def KTs (H : Hp) : List (List Key × V) -> List V -> Prop
 | [],xs => xs = []
 | kv :: r,xs => ∃ b t,xs = .ref b :: t /\ TAt H b (kv.1.map kV) /\ KTs H r t
def zot (H : Hp) (d : Addr) (xs : List V) : Prop := (∃ kvs,Rd H d (.dT kvs) /\ KTs H kvs xs) \/ ∃ kvs : List (Key × V),Rd H d (.dK kvs) /\ xs = kvs.map fun kv => kV kv.1
section
variable {X : Cx} {pins : List (Addr × Obj)} {σ : L2.St} {H : Hp} {s : Shared} {d f : Addr}
theorem zp9 : ∀ {kvs : List (List Key × V)} {ys : List (List Key × Addr × Value)},KT H kvs ys -> KTs H kvs (ys.map fun y => V.ref y.2.1)
 | [],_,.nil => rfl
 | kv :: r,_,.cons h t => ⟨_,_,rfl,h.2.1,zp9 t⟩
theorem zpM {A : Around} {E : Value -> Shared -> Prop} {Q : List Value -> Shared -> Prop} (hh : A.handled = none) (I : Inv X pins σ H s) (rd : IsD H d) (hn : ∀ xs,zot H d xs -> xs.length < 64)
  (hQ : ∀ xs us s',zot H d xs -> Vals xs us -> Inv X pins σ H s' -> Q us s') : wpAny (model X.prog X.w) A (collect (.ref d)) Q E s:=by
 have fin : ∀ (s' : Shared),(∀ b o,s.heap.get? b = some o -> s'.heap.get? b = some o) -> s'.gens = s.gens -> s'.drawn = s.drawn -> s'.os = s.os -> Inv X pins σ H s' := fun s' k g dr os => by
  obtain ⟨h,g',dr',tk,os'⟩ := s'
  simp only at g dr os
  subst g; subst dr; subst os
  exact I.kept (t' := tk) k
 rcases rd with ⟨kvs,rd⟩ | ⟨kvs,rd⟩
 ·obtain ⟨z,sy,vs,rel,dd⟩ := zjS I.hok rd
  obtain ⟨ep,da⟩ := dd.dictAt
  have lk := hn _ (.inr ⟨kvs,rd,rfl⟩)
  rw [List.length_map] at lk
  have lv : kvs.length = vs.length := rel.length
  refine zjW hh sy da (by omega) fun s' acc hk hg hd ho hsz hacc => hQ (kvs.map fun kv => kV kv.1) _ s' (.inr ⟨kvs,rd,rfl⟩) ?_ (fin s' hk hg hd ho)
  have la : acc.toList.length = vs.length := by rw [Array.length_toList]; exact hacc.1
  refine zkf (by rw [List.length_map]; omega) fun j x v ex ev => ?_
  rw [Array.getElem?_toList] at ev
  obtain ⟨k,y,e1,e2⟩ := hacc.2 j v ev
  have lj : j < vs.length := Nat.lt_of_not_le fun c => by rw [List.getElem?_eq_none c] at e1; cases e1
  have lj' : j < kvs.length := lv ▸ lj
  obtain ⟨⟨k',y'⟩,e3,e4,_⟩ := zdN rel (List.getElem?_eq_getElem lj')
  rw [e1] at e3
  cases e3
  rw [List.getElem?_map,List.getElem?_eq_getElem lj'] at ex
  cases ex
  show RelV (kV kvs[j].1) v
  rw [show kvs[j].1 = k from e4]
  exact zla e2
 ·obtain ⟨z,sy,ys,kt,o,es,ep,e',r1,r2,r3,r4⟩ := zjP I.hok rd
  have ks := zp9 kt
  have lk := hn _ (.inl ⟨kvs,rd,ks⟩)
  have ly : kvs.length = ys.length := Paired.length kt
  have hsz : es.size = ys.length := size_of_entries r3
  rw [List.length_map] at lk
  refine zpL hh sy ⟨o,e',r1,r2⟩ (by omega) fun s' acc hk hg hd ho hs hacc => hQ _ _ s' (.inl ⟨kvs,rd,ks⟩) ?_ (fin s' hk hg hd ho)
  have la : acc.toList.length = es.size := by rw [Array.length_toList]; exact hacc.1
  refine zkf (by rw [List.length_map]; omega) fun j x v ex ev => ?_
  rw [Array.getElem?_toList] at ev
  obtain ⟨hj,rfl⟩ := hacc.2 j v ev
  have lj : j < ys.length := by omega
  rw [List.getElem?_map,List.getElem?_eq_getElem lj] at ex
  cases ex
  have := entry_at r3 j
  rw [List.getElem?_eq_getElem lj,Array.getElem?_eq_getElem hj] at this
  simp only [Option.map_some,Option.some.injEq] at this
  rw [this]
  rfl
theorem zjX {Q : VK} {E : Value -> Shared -> Prop} (hu : X.A.units + 3 < cLine) (hc : X.calm = true) (I : Inv X pins σ H s) (rd : IsD H d) (hn : ∀ xs,zot H d xs -> xs.length < 64)
  (h : ∀ xs,zot H d xs -> ∃ kd,zic X.in1.in1 σ H f xs kd /\ ∀ (p : Array Nat) (a : Addr) (H' : Hp),Arr xs.length p -> Up (ltP kd) p xs.length -> zaY H H' -> H' a = none -> Q (.ref a) (upd H' a (.lst (p.toList.map fun i => xs.getD i .non)))) :
  wpAny (model X.prog X.w) X.A (call (.builtin "sorted") [.ref d] [(Str.ofString "key",.ref f)]) (EP X pins σ Q) E s:=by
 refine call_function_entry_kw kind_sorted plain_sorted entry_sorted (ksk_s1 _ _) ?_
 unfold Builtin.«sorted»
 refine wpAny_bind (m:=checkCount "sorted" 1 1 _) (wpAny_pure ?_)
 refine wpAny_bind (zpM (show X.A.in1.handled = none from I.ok.hd hc) I rd hn fun xs us s1 dk rv I1 => ?_)
 have hx := hn xs dk
 have hxl := rv.length
 obtain ⟨kd,kc,hq⟩ := h xs dk
 refine wpAny_bind (wpAny_newList ?_ (by rw [sizeLine_eq]; omega))
 have hoL : (s1.heap.push (seqObj "list" us.toArray 0)).get? s1.heap.objs.size = some (seqObj "list" us.toArray 0) := Heap.get?_push_size _ rfl
 have I2 : Inv X pins σ H { s1 with heap := s1.heap.push (seqObj "list" us.toArray 0) } := I1.kept (t' := s1.toks) fun b u e => Heap.get?_push_of_some _ e
 have fa : zhn X pins H s1.heap.objs.size := I1.zow (Nat.le_refl _) (I1.hok.fresh (Nat.le_refl _))
 refine wpAny_bind (wpAny_holding (wpAny_call_entry_kw slot_list_sort ⟨_,hoL,rfl⟩ entry_list_sort ?body (ksk_l1 _ _)))
 case body =>
  show wpAny (model X.prog X.w) X.in1.in1.A (Builtin.«list.sort» ⟨[.ref s1.heap.objs.size],[(Str.ofString "key",.ref f)]⟩) _ _ _
  rw [ksk_t1]
  refine zmH (X:=X.in1.in1) (by show X.A.units + 1 + 1 + 1 < cLine; omega) I2.in1.in1 hoL fa rv (by omega) kc fun p H' s' ar up sm ha I3 => ⟨_,rfl,?_⟩
  refine wpAny_pure ⟨_,rfl,.ref s1.heap.objs.size,_,I3.ztD.ztD,rfl,hq p _ H' (by rw [hxl]; exact ar) (by rw [hxl]; exact up) sm ha⟩
end
end L2
namespace L2
open PySem PySem.Spec PyProof.Rows PySem.W
end L2
namespace Q1
def fr (t b : Int) : Int × Int := if b < 0 then (t / -(Int.gcd t b : Int),b / -(Int.gcd t b : Int)) else (t / (Int.gcd t b : Int),b / (Int.gcd t b : Int))
structure Low (p q : Int) : Prop where
 pos : 0 < q
 cop : Int.gcd p q = 1
theorem zgT {t b : Int} (h : b ≠ 0) : 0 < (Int.gcd t b : Int):=by
 have : 0 < Int.gcd t b := Int.gcd_pos_of_ne_zero_right _ h
 omega
theorem zuC {t b : Int} : ((Int.gcd t b : Nat) : Int) ∣ t := Int.gcd_dvd_left ..
theorem zrw {t b : Int} : ((Int.gcd t b : Nat) : Int) ∣ b := Int.gcd_dvd_right ..
theorem zg3 {t b : Int} (h : b ≠ 0) : Int.gcd (t / (Int.gcd t b : Int)) (b / (Int.gcd t b : Int)) = 1:=by
 have hp : 0 < Int.gcd t b := Int.gcd_pos_of_ne_zero_right _ h
 exact Int.gcd_ediv_gcd_ediv_gcd hp
theorem zs6 {t b : Int} (h : b ≠ 0) : Low (fr t b).1 (fr t b).2:=by
 have hg := zgT (t:=t) h
 have c := zg3 (t:=t) h
 unfold fr
 split
 ·rename_i hb
  refine ⟨?_,?_⟩
  ·show 0 < b / -(Int.gcd t b : Int)
   rw [Int.ediv_neg]
   have := Int.ediv_mul_cancel (zrw (t:=t) (b:=b))
   have h1 : b / (Int.gcd t b : Int) < 0:=by
    rcases Int.lt_trichotomy (b / (Int.gcd t b : Int)) 0 with z | z | z
    ·exact z
    ·rw [z] at this; omega
    ·have := Int.mul_pos z hg; omega
   omega
  ·show Int.gcd (t / -(Int.gcd t b : Int)) (b / -(Int.gcd t b : Int)) = 1
   rw [Int.ediv_neg,Int.ediv_neg,Int.gcd_neg,Int.neg_gcd]
   exact c
 ·rename_i hb
  refine ⟨?_,c⟩
  show 0 < b / (Int.gcd t b : Int)
  have := Int.ediv_mul_cancel (zrw (t:=t) (b:=b))
  rcases Int.lt_trichotomy (b / (Int.gcd t b : Int)) 0 with z | z | z
  ·have := Int.mul_neg_of_neg_of_pos z hg; omega
  ·rw [z] at this; omega
  ·exact z
theorem zuz {t b : Int} (h : b ≠ 0) : (fr t b).1 * b = t * (fr t b).2:=by
 have e1 := Int.ediv_mul_cancel (zuC (t:=t) (b:=b))
 have e2 := Int.ediv_mul_cancel (zrw (t:=t) (b:=b))
 have key : t / (Int.gcd t b : Int) * b = t * (b / (Int.gcd t b : Int)):=by
  calc t / (Int.gcd t b : Int) * b = t / (Int.gcd t b : Int) * (b / (Int.gcd t b : Int) * (Int.gcd t b : Int)) := by rw [e2]
   _ = t / (Int.gcd t b : Int) * (Int.gcd t b : Int) * (b / (Int.gcd t b : Int)) := by rw [Int.mul_assoc,Int.mul_comm (b / _)]
   _ = t * (b / (Int.gcd t b : Int)) := by rw [e1]
 unfold fr
 split
 ·show t / -(Int.gcd t b : Int) * b = t * (b / -(Int.gcd t b : Int))
  rw [Int.ediv_neg,Int.ediv_neg,Int.neg_mul,Int.mul_neg,key]
 ·exact key
theorem zgY {q p r : Int} (h : q ∣ p * r) (c : Int.gcd p q = 1) : q ∣ r:=by
 have h1 : q.natAbs ∣ p.natAbs * r.natAbs:=by
  rw [<- Int.natAbs_mul]
  exact Int.natAbs_dvd_natAbs.mpr h
 have c' : Nat.Coprime q.natAbs p.natAbs:=by
  show Nat.gcd q.natAbs p.natAbs = 1
  rw [Nat.gcd_comm]
  exact c
 exact Int.natAbs_dvd_natAbs.mp (Nat.Coprime.dvd_of_dvd_mul_left c' h1)
theorem zps {p q p' q' : Int} (a : Low p q) (b : Low p' q') (h : p * q' = p' * q) : p = p' /\ q = q':=by
 have d1 : q ∣ q':=by
  have : q ∣ p * q' := ⟨p',by rw [h,Int.mul_comm]⟩
  exact zgY this a.cop
 have d2 : q' ∣ q:=by
  have : q' ∣ p' * q := ⟨p,by rw [<- h,Int.mul_comm]⟩
  exact zgY this b.cop
 have e : q = q' := Int.dvd_antisymm (Int.le_of_lt a.pos) (Int.le_of_lt b.pos) d1 d2
 refine ⟨?_,e⟩
 subst e
 exact Int.eq_of_mul_eq_mul_right (Int.ne_of_gt a.pos) h
theorem zs5 {t b p q : Int} (hb : b ≠ 0) (l : Low p q) (h : p * b = t * q) : fr t b = (p,q):=by
 have e := zuz (t:=t) hb
 have l' := zs6 (t:=t) hb
 have : (fr t b).1 * q = p * (fr t b).2:=by
  have h2 : (fr t b).1 * q * b = p * (fr t b).2 * b:=by
   calc (fr t b).1 * q * b = (fr t b).1 * b * q := by rw [Int.mul_assoc,Int.mul_comm q,Int.mul_assoc]
    _ = t * (fr t b).2 * q := by rw [e]
    _ = t * q * (fr t b).2 := by rw [Int.mul_assoc,Int.mul_comm (fr t b).2,Int.mul_assoc]
    _ = p * b * (fr t b).2 := by rw [h]
    _ = p * (fr t b).2 * b := by rw [Int.mul_assoc,Int.mul_comm b,Int.mul_assoc]
  exact Int.eq_of_mul_eq_mul_right hb h2
 obtain ⟨a1,a2⟩ := zps l' l this
 exact Prod.ext a1 a2
theorem zqk {t b : Int} (h : 0 < b) : fr t b = (t / (Int.gcd t b : Int),b / (Int.gcd t b : Int)):=by
 unfold fr
 rw [if_neg (by omega)]
end Q1
namespace Q1
theorem Low.ne {p q : Int} (l : Low p q) : q ≠ 0 := Int.ne_of_gt l.pos
theorem gcd_one {a b : Int} (h : ∀ d : Int,d ∣ a -> d ∣ b -> d ∣ 1) : Int.gcd a b = 1:=by
 have := h (Int.gcd a b : Int) (Int.gcd_dvd_left ..) (Int.gcd_dvd_right ..)
 have h2 : (Int.gcd a b) ∣ 1:=by
  have := Int.natAbs_dvd_natAbs.mpr this
  simpa using this
 exact Nat.dvd_one.mp h2
theorem dvd_one {a b d : Int} (h : Int.gcd a b = 1) (h1 : d ∣ a) (h2 : d ∣ b) : d ∣ 1:=by
 have := Int.dvd_coe_gcd h1 h2
 rw [h] at this
 exact this
theorem zgU {a b : Int} (h : Int.gcd a b = 1) : Int.gcd b a = 1 := by rw [Int.gcd_comm]; exact h
theorem gcd_mul {a b c : Int} (h1 : Int.gcd a b = 1) (h2 : Int.gcd a c = 1) : Int.gcd a (b * c) = 1:=by
 refine gcd_one fun d da db => ?_
 have c1 : Int.gcd b d = 1 := gcd_one fun e e1 e2 => dvd_one h1 (Int.dvd_trans e2 da) e1
 exact dvd_one h2 da (zgY db c1)
theorem zlx {a b a' b' : Int} (h : Int.gcd a b = 1) (h1 : a' ∣ a) (h2 : b' ∣ b) : Int.gcd a' b' = 1 :=
 gcd_one fun d da db => dvd_one h (Int.dvd_trans da h1) (Int.dvd_trans db h2)
theorem zge {a b : Int} (h : b ∣ a) : a / b ∣ a:=by
 obtain ⟨c,rfl⟩ := h
 by_cases z : b = 0
 ·subst z; simp
 ·rw [Int.mul_ediv_cancel_left _ z]; exact ⟨b,Int.mul_comm _ _⟩
theorem zcG {a b : Int} (h : 0 < a * b) (hb : 0 < b) : 0 < a:=by
 rcases Int.lt_trichotomy a 0 with z | z | z
 ·have := Int.mul_neg_of_neg_of_pos z hb; omega
 ·subst z; simp at h
 ·exact z
def zlW (p q r s : Int) : Int × Int :=
 let g := (Int.gcd q s : Int)
 let top := p * (s / g) + r * (q / g)
 let e := (Int.gcd top g : Int)
 (top / e,q / g * (s / e))
def zk1 (p q r s : Int) : Int × Int :=
 (p / (Int.gcd p s : Int) * (r / (Int.gcd r q : Int)),q / (Int.gcd r q : Int) * (s / (Int.gcd p s : Int)))
theorem zm1 {p q r s g m t e top T G : Int} (l1 : Low p q) (l2 : Low r s) (g0 : 0 < g) (e0 : 0 < e) (hq : q = m * g) (hs : s = t * g) (hmt : Int.gcd m t = 1)
  (ht : top = p * t + r * m) (hT : top = T * e) (hG : g = G * e) (hTG : Int.gcd T G = 1) : Low T (m * (t * G)) /\ T * (q * s) = (p * s + r * q) * (m * (t * G)):=by
 have hm : 0 < m := zcG (by rw [<- hq]; exact l1.pos) g0
 have htt : 0 < t := zcG (by rw [<- hs]; exact l2.pos) g0
 have hGG : 0 < G := zcG (by rw [<- hG]; exact g0) e0
 refine ⟨⟨Int.mul_pos hm (Int.mul_pos htt hGG),?_⟩,?_⟩
 ·have dT : T ∣ top := ⟨e,hT⟩
  have c1 : Int.gcd T m = 1:=by
   refine gcd_one fun d da db => ?_
   have h1 : d ∣ p * t:=by
    have h2 : d ∣ p * t + r * m := by rw [<- ht]; exact Int.dvd_trans da dT
    exact (Int.dvd_add_left (Int.dvd_mul_of_dvd_right db)).mp h2
   have h3 : Int.gcd p d = 1 := zlx l1.cop (Int.dvd_refl _) (by rw [hq]; exact Int.dvd_trans db (Int.dvd_mul_right ..))
   exact dvd_one hmt db (zgY h1 h3)
  have c2 : Int.gcd T t = 1:=by
   refine gcd_one fun d da db => ?_
   have h1 : d ∣ r * m:=by
    have h2 : d ∣ p * t + r * m := by rw [<- ht]; exact Int.dvd_trans da dT
    exact (Int.dvd_add_right (Int.dvd_mul_of_dvd_right db)).mp h2
   have h3 : Int.gcd r d = 1 := zlx l2.cop (Int.dvd_refl _) (by rw [hs]; exact Int.dvd_trans db (Int.dvd_mul_right ..))
   exact dvd_one hmt (zgY h1 h3) db
  exact gcd_mul c1 (gcd_mul c2 hTG)
 ·have k1 : p * s + r * q = top * g:=by
   rw [hq,hs,ht,Int.add_mul,Int.mul_assoc,Int.mul_assoc]
  rw [k1,hT,hq,hs]
  rw [show m * g * (t * g) = m * (t * G) * (e * g) by rw [show t * g = t * (G * e) by rw [hG]]; ac_rfl]
  ac_rfl
theorem zq2 {p q r s : Int} (l1 : Low p q) (l2 : Low r s) : zlW p q r s = fr (p * s + r * q) (q * s):=by
 have g0 : 0 < (Int.gcd q s : Int) := zgT l2.ne
 have d1 : (Int.gcd q s : Int) ∣ q := Int.gcd_dvd_left ..
 have d2 : (Int.gcd q s : Int) ∣ s := Int.gcd_dvd_right ..
 have e0 : 0 < (Int.gcd (p * (s / (Int.gcd q s : Int)) + r * (q / (Int.gcd q s : Int))) (Int.gcd q s : Int) : Int) := zgT (Int.ne_of_gt g0)
 have d3 := Int.gcd_dvd_left (a:=p * (s / (Int.gcd q s : Int)) + r * (q / (Int.gcd q s : Int))) (b:=(Int.gcd q s : Int))
 have d4 := Int.gcd_dvd_right (a:=p * (s / (Int.gcd q s : Int)) + r * (q / (Int.gcd q s : Int))) (b:=(Int.gcd q s : Int))
 have core := zm1 l1 l2 g0 e0 (Int.ediv_mul_cancel d1).symm (Int.ediv_mul_cancel d2).symm (zg3 l2.ne) rfl (Int.ediv_mul_cancel d3).symm (Int.ediv_mul_cancel d4).symm (zg3 (Int.ne_of_gt g0))
 have e : zlW p q r s = (_,_) := rfl
 have hs : s / (Int.gcd (p * (s / (Int.gcd q s : Int)) + r * (q / (Int.gcd q s : Int))) (Int.gcd q s : Int) : Int) = s / (Int.gcd q s : Int) * ((Int.gcd q s : Int) / (Int.gcd (p * (s / (Int.gcd q s : Int)) + r * (q / (Int.gcd q s : Int))) (Int.gcd q s : Int) : Int)):=by
  refine Int.ediv_eq_of_eq_mul_left (Int.ne_of_gt e0) ?_
  rw [Int.mul_assoc,Int.ediv_mul_cancel d4,Int.ediv_mul_cancel d2]
 symm
 refine zs5 (Int.ne_of_gt (Int.mul_pos l1.pos l2.pos)) (p:=(zlW p q r s).1) (q:=(zlW p q r s).2) ?_ ?_
 ·have : (zlW p q r s).2 = _ := rfl
  rw [this]
  show Low _ (q / (Int.gcd q s : Int) * (s / _))
  rw [hs]
  exact core.1
 ·show _ * (q * s) = _ * (q / (Int.gcd q s : Int) * (s / _))
  rw [hs]
  exact core.2
theorem zil {p q r s : Int} (l1 : Low p q) (l2 : Low r s) : zk1 p q r s = fr (p * r) (q * s):=by
 have m0 : 0 < (Int.gcd p s : Int) := zgT l2.ne
 have i0 : 0 < (Int.gcd r q : Int) := zgT l1.ne
 have a1 : (Int.gcd p s : Int) ∣ p := Int.gcd_dvd_left ..
 have a2 : (Int.gcd p s : Int) ∣ s := Int.gcd_dvd_right ..
 have b1 : (Int.gcd r q : Int) ∣ r := Int.gcd_dvd_left ..
 have b2 : (Int.gcd r q : Int) ∣ q := Int.gcd_dvd_right ..
 symm
 refine zs5 (Int.ne_of_gt (Int.mul_pos l1.pos l2.pos)) (p:=(zk1 p q r s).1) (q:=(zk1 p q r s).2) ⟨?_,?_⟩ ?_
 ·refine Int.mul_pos ?_ ?_
  ·exact zcG (by rw [Int.ediv_mul_cancel b2]; exact l1.pos) i0
  ·exact zcG (by rw [Int.ediv_mul_cancel a2]; exact l2.pos) m0
 ·show Int.gcd (p / _ * (r / _)) (q / _ * (s / _)) = 1
  have x1 : Int.gcd (p / (Int.gcd p s : Int)) (q / (Int.gcd r q : Int)) = 1 := zlx l1.cop (zge a1) (zge b2)
  have x2 : Int.gcd (p / (Int.gcd p s : Int)) (s / (Int.gcd p s : Int)) = 1 := zg3 l2.ne
  have x3 : Int.gcd (r / (Int.gcd r q : Int)) (q / (Int.gcd r q : Int)) = 1 := zg3 l1.ne
  have x4 : Int.gcd (r / (Int.gcd r q : Int)) (s / (Int.gcd p s : Int)) = 1 := zlx l2.cop (zge b1) (zge a2)
  exact zgU (gcd_mul (zgU (gcd_mul x1 x2)) (zgU (gcd_mul x3 x4)))
 ·show p / (Int.gcd p s : Int) * (r / (Int.gcd r q : Int)) * (q * s) = p * r * (q / (Int.gcd r q : Int) * (s / (Int.gcd p s : Int)))
  have y1 := Int.ediv_mul_cancel a1
  have y2 := Int.ediv_mul_cancel a2
  have y3 := Int.ediv_mul_cancel b1
  have y4 := Int.ediv_mul_cancel b2
  generalize (Int.gcd p s : Int) = m at *
  generalize (Int.gcd r q : Int) = i at *
  generalize p / m = P at *
  generalize s / m = S at *
  generalize r / i = R at *
  generalize q / i = Q at *
  rw [<- y1,<- y2,<- y3,<- y4]
  ac_rfl
end Q1
namespace QR
open Q1
theorem low (r : Rat) : Low r.num r.den := ⟨by have := r.den_nz; omega,by
 have := r.reduced
 unfold Nat.Coprime at this
 show Nat.gcd r.num.natAbs (r.den : Int).natAbs = 1
 simpa using this⟩
theorem zvH (t : Int) (d : Nat) : (Int.gcd t (d : Int)) = Nat.gcd t.natAbs d:=by
 show Nat.gcd t.natAbs (d : Int).natAbs = _
 simp
theorem norm {t : Int} {d : Nat} (h : d ≠ 0) : fr t (d : Int) = ((Rat.normalize t d h).num,((Rat.normalize t d h).den : Int)):=by
 rw [zqk (by omega),Rat.normalize_eq,zvH]
 simp
theorem add (r s : Rat) : fr (r.num * s.den + s.num * r.den) ((r.den : Int) * s.den) = ((r + s).num,((r + s).den : Int)):=by
 rw [Rat.add_def,<- norm]
 congr 1
theorem mul (r s : Rat) : fr (r.num * s.num) ((r.den : Int) * s.den) = ((r * s).num,((r * s).den : Int)):=by
 rw [Rat.mul_def,<- norm]
 congr 1
def Bd (n : Nat) (r : Rat) : Prop := r.num.natAbs < 2 ^ n /\ r.den < 2 ^ n
theorem Bd.mono {n m : Nat} {r : Rat} (h : Bd n r) (k : n <= m) : Bd m r := ⟨Nat.lt_of_lt_of_le h.1 (Nat.pow_le_pow_right (by decide) k),Nat.lt_of_lt_of_le h.2 (Nat.pow_le_pow_right (by decide) k)⟩
theorem zru (t b : Int) : (fr t b).1.natAbs <= t.natAbs /\ (fr t b).2.natAbs <= b.natAbs:=by
 unfold fr
 split
 ·exact ⟨Int.natAbs_ediv_le_natAbs _ _,Int.natAbs_ediv_le_natAbs _ _⟩
 ·exact ⟨Int.natAbs_ediv_le_natAbs _ _,Int.natAbs_ediv_le_natAbs _ _⟩
theorem zgI {a b n m : Nat} (h1 : a < 2 ^ n) (h2 : b < 2 ^ m) : a * b < 2 ^ (n + m):=by
 rw [Nat.pow_add]
 exact Nat.mul_lt_mul'' h1 h2
theorem Bd.add {n m : Nat} {r s : Rat} (h : Bd n r) (k : Bd m s) : Bd (n + m + 1) (r + s):=by
 have e := QR.add r s
 have l := zru (r.num * s.den + s.num * r.den) ((r.den : Int) * s.den)
 rw [e] at l
 simp only at l
 have a1 : r.num.natAbs * s.den < 2 ^ (n + m) := zgI h.1 k.2
 have a2 : s.num.natAbs * r.den < 2 ^ (n + m) := by rw [Nat.mul_comm,Nat.mul_comm]; rw [Nat.add_comm]; exact zgI k.1 h.2
 have a3 : r.den * s.den < 2 ^ (n + m) := zgI h.2 k.2
 have p2 : 2 ^ (n + m + 1) = 2 ^ (n + m) + 2 ^ (n + m) := by rw [Nat.pow_succ]; omega
 refine ⟨?_,?_⟩
 ·refine Nat.lt_of_le_of_lt l.1 (Nat.lt_of_le_of_lt (Int.natAbs_add_le _ _) ?_)
  rw [Int.natAbs_mul,Int.natAbs_mul,Int.natAbs_natCast,Int.natAbs_natCast,p2]
  omega
 ·have := l.2
  rw [Int.natAbs_mul,Int.natAbs_natCast,Int.natAbs_natCast,Int.natAbs_natCast] at this
  rw [p2]
  omega
theorem Bd.mul {n m : Nat} {r s : Rat} (h : Bd n r) (k : Bd m s) : Bd (n + m) (r * s):=by
 have e := QR.mul r s
 have l := zru (r.num * s.num) ((r.den : Int) * s.den)
 rw [e] at l
 simp only at l
 refine ⟨?_,?_⟩
 ·refine Nat.lt_of_le_of_lt l.1 ?_
  rw [Int.natAbs_mul]
  exact zgI h.1 k.1
 ·have := l.2
  rw [Int.natAbs_mul,Int.natAbs_natCast,Int.natAbs_natCast,Int.natAbs_natCast] at this
  exact Nat.lt_of_le_of_lt this (zgI h.2 k.2)
theorem Bd.zero (n : Nat) : Bd (n + 1) 0:=by
 refine ⟨?_,?_⟩
 ·show (0 : Nat) < 2 ^ (n + 1)
  exact Nat.pos_of_ne_zero (by simp)
 ·show (1 : Nat) < 2 ^ (n + 1)
  exact Nat.one_lt_two_pow (by omega)
def part (xs ys : List Rat) : Nat -> Rat
 | 0 => 0
 | i + 1 => part xs ys i + xs.getD i 0 * ys.getD i 0
end QR
namespace KC
open PySem L2 PySem.Spec PyProof.Rows
structure Blt (mg : Str -> Option Value) : Prop where
 zjv : mg "abs" = none
 zaM : mg "isinstance" = none
 zl1 : mg "int" = none
 zhQ : mg "bool" = none
 zcW : mg "tuple" = none
 zd1 : mg "len" = none
 zl2 : mg "all" = none
 zgG : mg "list" = none
 zcw : mg "range" = none
 znd : mg "zip" = none
 zbR : mg "enumerate" = none
namespace Bt
theorem isinstance : bootBuiltins "isinstance" = some (.builtin "isinstance") := by decide +kernel
end Bt
def isInt : PyData -> Bool
 | .int _ | .bool _ => true | _ => false
def zf1 (T c : String) : Option Bool := if (Value.type T == Value.type c) = true then some true else if PySem.W.kitMeta c = true then (fastBuiltinMro T).map (·.contains (.type c)) else none
end KC
namespace KC
open PySem L2 PySem.Spec PyProof.Rows
end KC
namespace KC
open PySem L2 PySem.Spec PyProof.Rows
end KC
namespace FL
open PySem
abbrev D := PyData
inductive R (α : Type) where
 | bad
 | err (c : String) (fs : List D)
 | ok (a : α)
def R.bind {α β : Type} (r : R α) (k : α -> R β) : R β := match r with
 | .bad => .bad
 | .err c f => .err c f
 | .ok a => k a
theorem zae {α β : Type} (a : α) (k : α -> R β) : (R.ok a).bind k = k a := rfl
def chk {α : Type} (c : Bool) (r : R α) : R α := if c = true then r else .bad
theorem zaO {α : Type} {c : Bool} {r : R α} (h : c = true) : chk c r = r := if_pos h
inductive Sl where
 | no
 | val (d : D)
 | ow (p : Bool) (d : D)
abbrev En := List Sl
inductive Fl where
 | nx | bk | ct
 | rt (d : D)
 | rf (d : D)
abbrev EF := En -> R (D × En)
abbrev TF := En -> R (Bool × En)
abbrev AF := En -> R (List D × En)
abbrev SF := En -> R (Fl × En)
abbrev GF := D -> En -> R En
def tyOf : D -> String
 | .none => "NoneType" | .bool _ => "bool" | .int _ => "int" | .str _ => "str" | .list _ => "list" | .tuple _ => "tuple" | .dict _ => "dict"
def isI (T : String) (d : D) : Bool := match d with
 | .bool _ => T == "bool" || T == "int"
 | d => tyOf d == T
def lim : Nat := 1000000
def intsOf : List D -> Option (List Int)
 | [] => some []
 | .int i :: r => (intsOf r).map (i :: ·)
 | _ :: _ => none
def boolsOf : List D -> Option (List Bool)
 | [] => some []
 | .bool i :: r => (boolsOf r).map (i :: ·)
 | _ :: _ => none
def R.of {α : Type} : Option α -> R α
 | none => .bad
 | some a => .ok a
def leB (a b : Nat) : Bool := Nat.ble a b
theorem leB_iff {a b : Nat} : leB a b = true ↔ a <= b := Iff.of_eq Nat.ble_eq
theorem zeR {a b : Nat} (h : a <= b) : leB a b = true := leB_iff.mpr h
theorem zjB {a b : Nat} (h : leB a b = true) : a <= b := leB_iff.mp h
def zng (i j : Int) : Bool := leB (i.natAbs.log2 + j.natAbs.log2 + 2) 134217728
def zba : D -> D -> R D
 | .int i,.int j => .ok (.int (i + j))
 | .list a,.list b => chk (leB (a.length + b.length) lim) (.ok (.list (a ++ b)))
 | .tuple a,.tuple b => chk (leB (a.length + b.length) lim) (.ok (.tuple (a ++ b)))
 | _,_ => .bad
def zf7 : D -> D -> R D
 | .int i,.int j => .ok (.int (i - j))
 | _,_ => .bad
def zbM : D -> D -> R D
 | .int i,.int j => chk (zng i j) (.ok (.int (i * j)))
 | .tuple a,.int k => chk (!a.isEmpty && leB 2 k.toNat && leB k.toNat 1000000 && leB (a.length * k.toNat) lim) (.ok (.tuple (List.replicate k.toNat a).flatten))
 | _,_ => .bad
def zaS : D -> D -> R D
 | .int i,.int j => chk (decide (j ≠ 0) && leB (j.natAbs.log2 + 1) 9000) (.ok (.int (i.fdiv j)))
 | _,_ => .bad
def zeF : D -> D -> R D
 | .int i,.int j => chk (decide (j ≠ 0)) (.ok (.int (i.fmod j)))
 | _,_ => .bad
def zhv : D -> D -> R D
 | .int i,.int j => chk (decide (0 <= j) && leB j.toNat 1000000 && leB i.natAbs 18446744073709551615) (.ok (.int (i ^ j.toNat)))
 | _,_ => .bad
def ztG : D -> R D
 | .int i => .ok (.int (-i))
 | _ => .bad
def eqD (a b : D) : R D := chk (SeqAt.shaped a && SeqAt.shaped b) (.ok (.bool (PyData.eqv a b)))
def neD (a b : D) : R D := chk (SeqAt.shaped a && SeqAt.shaped b) (.ok (.bool (!PyData.eqv a b)))
def lexLt : List Int -> List Int -> Bool
 | [],[] => false
 | [],_ :: _ => true
 | _ :: _,[] => false
 | x :: xs,y :: ys => if x = y then lexLt xs ys else decide (x < y)
def lexLe : List Int -> List Int -> Bool
 | [],[] => true
 | [],_ :: _ => true
 | _ :: _,[] => false
 | x :: xs,y :: ys => if x = y then lexLe xs ys else decide (x <= y)
def zfg : List Int -> List Int -> Bool
 | [],[] => false
 | [],_ :: _ => false
 | _ :: _,[] => true
 | x :: xs,y :: ys => if x = y then zfg xs ys else decide (y < x)
def zfh : List Int -> List Int -> Bool
 | [],[] => true
 | [],_ :: _ => false
 | _ :: _,[] => true
 | x :: xs,y :: ys => if x = y then zfh xs ys else decide (y <= x)
def ztk (p : Int -> Int -> Bool) (q : List Int -> List Int -> Bool) : D -> D -> R D
 | .int i,.int j => .ok (.bool (p i j))
 | .tuple a,.tuple b => (R.of (intsOf a)).bind fun x => (R.of (intsOf b)).bind fun y => .ok (.bool (q x y))
 | _,_ => .bad
def ltD : D -> D -> R D := ztk (fun i j => decide (i < j)) lexLt
def leD : D -> D -> R D := ztk (fun i j => decide (i <= j)) lexLe
def gtD : D -> D -> R D := ztk (fun i j => decide (j < i)) zfg
def geD : D -> D -> R D := ztk (fun i j => decide (j <= i)) zfh
def zvE : D -> R D
 | .none => .ok (.bool true)
 | _ => .ok (.bool false)
def isD (a b : D) : R D := match b with
 | .none => zvE a
 | _ => .bad
def ixN (n : Nat) (i : Int) : Option Nat := if 0 <= i then (if i < n then some i.toNat else none) else if -(n : Int) <= i then some (i + n).toNat else none
def atI {α : Type} (xs : List α) (i : Int) : Option α := (ixN xs.length i).bind fun j => xs[j]?
def ixD : D -> D -> R D
 | .list a,.int i => R.of (atI a i)
 | .tuple a,.int i => R.of (atI a i)
 | _,_ => .bad
def sIx (n d : Nat) : Option Int -> Nat
 | none => d
 | some v => if v < 0 then (v + (n : Int)).toNat else min v.toNat n
def cut {α : Type} (xs : List α) (lo hi : Option Int) : List α := (xs.drop (sIx xs.length 0 lo)).take (sIx xs.length xs.length hi - sIx xs.length 0 lo)
def zmJ (d : D) (lo hi : Option Int) : R D := match d with
 | .list a => .ok (.list (cut a lo hi))
 | .tuple a => .ok (.tuple (cut a lo hi))
 | _ => .bad
def zkZ : D -> R Bool
 | .none => .ok false
 | .bool b => .ok b
 | .int i => .ok (i != 0)
 | .list a => .ok (!a.isEmpty)
 | .tuple a => .ok (!a.isEmpty)
 | _ => .bad
def zdf : D -> R D
 | .list a => .ok (.int a.length)
 | .tuple a => .ok (.int a.length)
 | _ => .bad
def zoj : D -> R D
 | .int i => .ok (.int (if i < 0 then -i else i))
 | _ => .bad
def zni : D -> D -> R D
 | .int i,.int j => .ok (.int (if j > i then j else i))
 | _,_ => .bad
def zl3 : D -> D -> R D
 | .int i,.int j => .ok (.int (if j < i then j else i))
 | _,_ => .bad
def zvA : List Int -> Option Int
 | [] => none
 | x :: xs => some (xs.foldl (fun m y => if y > m then y else m) x)
def maxD : D -> R D
 | .list a => (R.of (intsOf a)).bind fun x => (R.of (zvA x)).bind fun m => .ok (.int m)
 | _ => .bad
def ztM : D -> R D
 | .list a => (R.of (boolsOf a)).bind fun x => .ok (.bool (x.all id))
 | _ => .bad
def zkt : D -> R D
 | .list a => .ok (.list a)
 | .tuple a => .ok (.list a)
 | _ => .bad
def zmB : D -> R D
 | .list a => .ok (.tuple a)
 | .tuple a => .ok (.tuple a)
 | _ => .bad
def zuP (d : D) : Bool := match d with
 | .dict _ => false
 | _ => true
def zd2 (T : String) (d : D) : R D := chk (zuP d) (.ok (.bool (isI T d)))
def one (g : D -> R D) : List D -> R D
 | [d] => g d
 | _ => .bad
def two (g : D -> D -> R D) : List D -> R D
 | [d,e] => g d e
 | _ => .bad
def zls : D -> R (List D)
 | .list a => .ok a
 | .tuple a => .ok a
 | _ => .bad
def rng (lo hi : Int) : List D := (List.range (hi - lo).toNat).map fun (i : Nat) => .int (lo + (i : Int))
def zoM (i : Int) : Bool := leB i.natAbs 1000000000
def zej : List D -> R (List D)
 | [.int j] => chk (zoM j && leB j.toNat lim) (.ok (rng 0 j))
 | _ => .bad
def eC (d : D) : EF := fun ρ => .ok (d,ρ)
def eV (i : Nat) : EF := fun ρ => match ρ[i]? with
 | some (.val d) => .ok (d,ρ)
 | _ => .bad
def e1 (g : D -> R D) (f : EF) : EF := fun ρ => (f ρ).bind fun x => (g x.1).bind fun d => .ok (d,x.2)
def e2 (g : D -> D -> R D) (f h : EF) : EF := fun ρ => (f ρ).bind fun x => (h x.2).bind fun y => (g x.1 y.1).bind fun d => .ok (d,y.2)
def znV (f h : EF) : EF := fun ρ => (f ρ).bind fun x => match x.1 with
 | .bool true => h x.2
 | .bool false => .ok (.bool false,x.2)
 | _ => .bad
def eOr (f h : EF) : EF := fun ρ => (f ρ).bind fun x => match x.1 with
 | .bool true => .ok (.bool true,x.2)
 | .bool false => h x.2
 | _ => .bad
def zuB (f : EF) : EF := fun ρ => (f ρ).bind fun x => match x.1 with
 | .bool b => .ok (.bool (!b),x.2)
 | _ => .bad
def zfQ (g h : D -> D -> R D) (f1 f2 f3 : EF) : EF := fun ρ => (f1 ρ).bind fun x => (f2 x.2).bind fun y => (g x.1 y.1).bind fun c => match c with
 | .bool true => (f3 y.2).bind fun z => (h y.1 z.1).bind fun d => .ok (d,z.2)
 | .bool false => .ok (.bool false,y.2)
 | _ => .bad
def zau : AF := fun ρ => .ok ([],ρ)
def zac (f : EF) (a : AF) : AF := fun ρ => (f ρ).bind fun x => (a x.2).bind fun y => .ok (x.1 :: y.1,y.2)
def zcH (a : AF) : EF := fun ρ => (a ρ).bind fun x => chk (leB x.1.length lim) (.ok (.tuple x.1,x.2))
def zf5 (a : AF) : EF := fun ρ => (a ρ).bind fun x => chk (leB x.1.length lim) (.ok (.list x.1,x.2))
def zal (G : List D -> R D) (a : AF) : EF := fun ρ => (a ρ).bind fun x => (G x.1).bind fun d => .ok (d,x.2)
abbrev OF := En -> R (Option Int × En)
def zpk : OF := fun ρ => .ok (none,ρ)
def zpj (f : EF) : OF := fun ρ => (f ρ).bind fun x => match x.1 with
 | .int i => .ok (some i,x.2)
 | _ => .bad
def eSl (f : EF) (lo hi : OF) : EF := fun ρ => (f ρ).bind fun x => (lo x.2).bind fun l => (hi l.2).bind fun u => (zmJ x.1 l.1 u.1).bind fun d => .ok (d,u.2)
def zaH (ρ : En) (i : Nat) : R D := match ρ[i]? with
 | some (.ow _ d) => .ok d
 | _ => .bad
def ziB (ρ : En) (i : Nat) : R (List D) := match ρ[i]? with
 | some (.ow _ (.list a)) => .ok a
 | _ => .bad
def m1 (g : D -> R D) (i : Nat) : EF := fun ρ => (zaH ρ i).bind fun c => (g c).bind fun d => .ok (d,ρ)
def m2 (g : D -> D -> R D) (i : Nat) (h : EF) : EF := fun ρ => (zaH ρ i).bind fun _ => (h ρ).bind fun y => (zaH y.2 i).bind fun c => (g c y.1).bind fun d => .ok (d,y.2)
def m2r (g : D -> D -> R D) (f : EF) (i : Nat) : EF := fun ρ => (f ρ).bind fun x => (zaH x.2 i).bind fun c => (g x.1 c).bind fun d => .ok (d,x.2)
inductive Ar where
 | v (f : EF)
 | m (i : Nat)
 | t (f : EF)
inductive Itm where
 | vd (d : D)
 | mi (i : Nat)
 | td (d : D)
def zj7 : List Ar -> En -> R (List Itm × En)
 | [],ρ => .ok ([],ρ)
 | .v f :: r,ρ => (f ρ).bind fun x => (zj7 r x.2).bind fun y => .ok (.vd x.1 :: y.1,y.2)
 | .m i :: r,ρ => (zaH ρ i).bind fun _ => (zj7 r ρ).bind fun y => .ok (.mi i :: y.1,y.2)
 | .t f :: r,ρ => (f ρ).bind fun x => (zj7 r x.2).bind fun y => .ok (.td x.1 :: y.1,y.2)
def zia (ρ : En) : List Itm -> R (List D)
 | [] => .ok []
 | .vd d :: r => (zia ρ r).bind fun ds => .ok (d :: ds)
 | .mi i :: r => (zaH ρ i).bind fun d => (zia ρ r).bind fun ds => .ok (d :: ds)
 | .td d :: r => (zia ρ r).bind fun ds => .ok (d :: ds)
def zbs (ρ : En) (i : Nat) (d : D) : En := match ρ[i]? with
 | some (.ow p _) => ρ.set i (.ow p d)
 | _ => ρ
def zhK : List Itm -> List D -> List (Nat × Sl)
 | .mi i :: r,d :: ds => (i,.ow true d) :: zhK r ds
 | .vd _ :: r,_ :: ds => zhK r ds
 | .td _ :: r,_ :: ds => zhK r ds
 | _,_ => []
def bk1 (m : List (Nat × Sl)) (i : Nat) (x : Sl) : Sl := match x,m.lookup i with
 | .ow p _,some (.ow _ d) => .ow p d
 | x,_ => x
def bkL (m : List (Nat × Sl)) : Nat -> En -> En
 | _,[] => []
 | n,x :: r => bk1 m n x :: bkL m (n + 1) r
def zi6 (ρ : En) (a : List Itm) (os : List D) : En := bkL (zhK a os) 0 ρ
def zav (F : List D -> R (D × List D)) (a : List Ar) : EF := fun ρ => (zj7 a ρ).bind fun x => (zia x.2 x.1).bind fun ds => (F ds).bind fun y => .ok (y.1,zi6 x.2 x.1 y.2)
def tE (f : EF) : TF := fun ρ => (f ρ).bind fun x => (zkZ x.1).bind fun b => .ok (b,x.2)
def tB (f : EF) : TF := fun ρ => (f ρ).bind fun x => match x.1 with
 | .bool b => .ok (b,x.2)
 | _ => .bad
def tOr (t u : TF) : TF := fun ρ => (t ρ).bind fun c => if c.1 = true then .ok (true,c.2) else u c.2
def zeE (t : TF) : TF := fun ρ => (t ρ).bind fun c => .ok (!c.1,c.2)
def zde : TF := fun ρ => .ok (true,ρ)
abbrev IF := En -> R (List D × En)
def iE (f : EF) : IF := fun ρ => (f ρ).bind fun x => (zls x.1).bind fun l => .ok (l,x.2)
def iR1 (a : AF) : IF := fun ρ => (a ρ).bind fun x => (zej x.1).bind fun l => .ok (l,x.2)
def zf4 : Nat -> List D -> List D
 | _,[] => []
 | n,d :: r => .tuple [.int n,d] :: zf4 (n + 1) r
def gN (i : Nat) : GF := fun d ρ => match ρ[i]? with
 | some (.ow true _) => .bad
 | some _ => .ok (ρ.set i (.val d))
 | none => .bad
def zrq : List GF -> List D -> En -> R En
 | [],[],ρ => .ok ρ
 | g :: r,d :: ds,ρ => (g d ρ).bind fun ρ1 => zrq r ds ρ1
 | _,_,_ => .bad
def gT (gs : List GF) : GF := fun d ρ => match d with
 | .tuple ds => zrq gs ds ρ
 | _ => .bad
def blk (k : Nat) (ix : List Nat) (ρ : En) : En := List.replicate k .no ++ ix.map fun i => (ρ[i]?).getD .no
def back (ρ : En) (ix : List Nat) (cs : En) : En := bkL (ix.zip cs) 0 ρ
def zg5 (k : Nat) (ix : List Nat) (g : GF) (t : TF) (f : EF) : List D -> En -> List D -> R (List D × En)
 | [],ρ,acc => .ok (acc,ρ)
 | x :: xs,ρ,acc => (g x (blk k ix ρ)).bind fun β => (t β).bind fun c =>
   if c.1 = true then (f c.2).bind fun y => chk (leB (acc.length + 1) lim) (zg5 k ix g t f xs (back ρ ix (y.2.drop k)) (acc ++ [y.1]))
   else zg5 k ix g t f xs (back ρ ix (c.2.drop k)) acc
def zdA (k : Nat) (ix : List Nat) (it : IF) (g : GF) (t : TF) (f : EF) : EF := fun ρ => (it ρ).bind fun x => (zg5 k ix g t f x.1 x.2 []).bind fun y => .ok (.list y.1,y.2)
def sNx : SF := fun ρ => .ok (.nx,ρ)
def zaI (s t : SF) : SF := fun ρ => (s ρ).bind fun x => match x.1 with
 | .nx => t x.2
 | _ => .ok x
def sE (f : EF) : SF := fun ρ => (f ρ).bind fun x => .ok (.nx,x.2)
def zbp (g : GF) (f : EF) : SF := fun ρ => (f ρ).bind fun x => (g x.1 x.2).bind fun ρ1 => .ok (.nx,ρ1)
def ziq (i : Nat) (f : EF) : SF := fun ρ => (f ρ).bind fun x => match x.2[i]? with
 | some (.ow true _) => .bad
 | some _ => .ok (.nx,x.2.set i (.ow false x.1))
 | none => .bad
def zoJ (i : Nat) (s : SF) : SF := fun ρ => (s ρ).bind fun x => match x.1 with
 | .nx => (match x.2[i]? with
  | some (.ow false d) => .ok (.nx,x.2.set i (.val d))
  | _ => .bad)
 | _ => .ok x
def zhs (i j : Nat) (f h : EF) : SF := fun ρ => (f ρ).bind fun x => (h x.2).bind fun y => (gN i x.1 y.2).bind fun ρ1 => (gN j y.1 ρ1).bind fun ρ2 => .ok (.nx,ρ2)
def ztB (i : Nat) (s : SF) : SF := fun ρ => match ρ[i]? with
 | some (.ow false d) => s (ρ.set i (.val d))
 | _ => .bad
def zaW (f : EF) : SF := fun ρ => (f ρ).bind fun x => .ok (.rt x.1,x.2)
def zca (f : EF) : SF := fun ρ => (f ρ).bind fun x => .ok (.rf x.1,x.2)
def zmM (i : Nat) : SF := fun ρ => match ρ[i]? with
 | some (.ow false d) => .ok (.rf d,ρ)
 | _ => .bad
def sIf (t : TF) (a b : SF) : SF := fun ρ => (t ρ).bind fun c => if c.1 = true then a c.2 else b c.2
def zrL : SF := fun _ => .bad
def forL (g : GF) (b : SF) : List D -> En -> R (Fl × En)
 | [],ρ => .ok (.nx,ρ)
 | x :: xs,ρ => (g x ρ).bind fun ρ1 => (b ρ1).bind fun y => match y.1 with
  | .nx | .ct => forL g b xs y.2
  | .bk => .ok (.nx,y.2)
  | .rt d => .ok (.rt d,y.2)
  | .rf d => .ok (.rf d,y.2)
def zir (it : IF) (g : GF) (b : SF) : SF := fun ρ => (it ρ).bind fun x => forL g b x.1 x.2
def zgl (t : TF) (b : SF) : Nat -> En -> R (Fl × En)
 | 0,_ => .bad
 | n + 1,ρ => (t ρ).bind fun c => if c.1 = true then (b c.2).bind fun y => match y.1 with
   | .nx | .ct => zgl t b n y.2
   | .bk => .ok (.nx,y.2)
   | .rt d => .ok (.rt d,y.2)
   | .rf d => .ok (.rf d,y.2)
  else .ok (.nx,c.2)
def zgt (fuel : En -> Nat) (t : TF) (b : SF) : SF := fun ρ => zgl t b (fuel ρ) ρ
def zrR (i : Nat) (u : List D -> R (List D)) : SF := fun ρ => (ziB ρ i).bind fun c => (u c).bind fun c' => .ok (.nx,zbs ρ i (.list c'))
def zu1 (a : List D) : R (List D) := .ok []
def setM (i : Nat) (f k : EF) : SF := fun ρ => (f ρ).bind fun x => (ziB x.2 i).bind fun _ => (k x.2).bind fun y => (ziB y.2 i).bind fun c => match y.1 with
 | .int j => (R.of (ixN c.length j)).bind fun n => .ok (.nx,zbs y.2 i (.list (c.set n x.1)))
 | _ => .bad
def slots : List Bool -> List D -> En
 | m :: ms,d :: ds => (if m = true then .ow true d else .val d) :: slots ms ds
 | _,_ => []
def outD (m : Bool) (d : D) (x : Option Sl) : D := match m,x with
 | true,some (.ow _ d') => d'
 | _,_ => d
def outs : List Bool -> List D -> En -> List D
 | m :: ms,d :: ds,ρ => outD m d ρ.head? :: outs ms ds ρ.tail
 | _,_,_ => []
def run (ms : List Bool) (fr : Bool) (n : Nat) (b : SF) (ds : List D) : R (D × List D) :=
 if ds.length = ms.length then (b (slots ms ds ++ List.replicate (n - ds.length) .no)).bind fun x => match x.1,fr with
  | .rt d,false => .ok (d,outs ms ds x.2)
  | .rf d,true => .ok (d,outs ms ds x.2)
  | .nx,false => .ok (.none,outs ms ds x.2)
  | _,_ => .bad
 else .bad
def zbD (fr : Bool) (k n : Nat) (b : SF) (ds : List D) : R D := (run (List.replicate k false) fr n b ds).bind fun x => .ok x.1
end FL
namespace FL
open PySem
end FL
namespace FL
open PySem
abbrev K1 := Int ⊕ Str
abbrev KQ := List K1 ⊕ K1
def kOf : D -> Option K1
 | .int i => some (.inl i)
 | .str x => some (.inr x)
 | _ => none
def zou : List D -> Option (List K1)
 | [] => some []
 | d :: r => (kOf d).bind fun k => (zou r).map fun ks => k :: ks
def keyOf : D -> Option KQ
 | .tuple xs => (zou xs).map .inl
 | .int i => some (.inr (.inl i))
 | .str x => some (.inr (.inr x))
 | _ => none
def form : KQ -> Bool
 | .inl _ => true
 | .inr _ => false
def keysOk (f : Bool) (kvs : List (D × D)) : Bool := kvs.all fun kv => match keyOf kv.1 with
 | some q => form q == f
 | none => false
def look (kvs : List (D × D)) (q : KQ) : Option D := (kvs.find? fun kv => decide (keyOf kv.1 = some q)).map (·.2)
def zo1 (kvs : List (D × D)) (k : D) (q : KQ) (v : D) : List (D × D) :=
 if (kvs.any fun kv => decide (keyOf kv.1 = some q)) = true then kvs.map fun kv => if keyOf kv.1 = some q then (kv.1,v) else kv else kvs ++ [(k,v)]
def zc3 (kvs : List (D × D)) (q : KQ) : List (D × D) := kvs.filter fun kv => decide (keyOf kv.1 ≠ some q)
def dictAt (d k : D) : R (List (D × D) × KQ) := match d with
 | .dict kvs => (R.of (keyOf k)).bind fun q => chk (keysOk (form q) kvs) (.ok (kvs,q))
 | _ => .bad
def zeX (d k : D) : R (Option D) := (dictAt d k).bind fun x => .ok (look x.1 x.2)
def znM (d k x : D) : R D := (zeX d k).bind fun o => .ok (o.getD x)
def inD (k d : D) : R D := (zeX d k).bind fun o => .ok (.bool o.isSome)
def zfR (d k : D) : R D := (zeX d k).bind fun o => R.of o
def zkI (d k v : D) : R D := (dictAt d k).bind fun x => chk (leB (x.1.length + 1) lim) (.ok (.dict (zo1 x.1 k x.2 v)))
def zmn (d k : D) : R D := (dictAt d k).bind fun x => chk (look x.1 x.2).isSome (.ok (.dict (zc3 x.1 x.2)))
def zgK : D -> R (List D)
 | .dict kvs => .ok (kvs.map (·.1))
 | _ => .bad
def zhx (i : Nat) (k x : EF) : EF := fun ρ => (zaH ρ i).bind fun c0 => (zgK c0).bind fun _ => (k ρ).bind fun a => (x a.2).bind fun b => (zaH b.2 i).bind fun c => (znM c a.1 b.1).bind fun d => .ok (d,b.2)
def e3 (g : D -> D -> D -> R D) (d k x : EF) : EF := fun ρ => (d ρ).bind fun c => (k c.2).bind fun a => (x a.2).bind fun b => (g c.1 a.1 b.1).bind fun r => .ok (r,b.2)
def zf6 (i : Nat) (k f : EF) : SF := fun ρ => (f ρ).bind fun v => (zaH v.2 i).bind fun _ => (k v.2).bind fun a => (zaH a.2 i).bind fun c => (zkI c a.1 v.1).bind fun d => .ok (.nx,zbs a.2 i d)
def zn1 (i : Nat) (k : EF) : SF := fun ρ => (zaH ρ i).bind fun _ => (k ρ).bind fun a => (zaH a.2 i).bind fun c => (zmn c a.1).bind fun d => .ok (.nx,zbs a.2 i d)
def iD (f : EF) : IF := fun ρ => (f ρ).bind fun x => (zgK x.1).bind fun l => .ok (l,x.2)
def zfO : EF := fun ρ => .ok (.dict [],ρ)
end FL
namespace FL
open PySem
def zdk (i : Nat) (ρ : En) : Nat := match ρ[i]? with
 | some (.val (.int n)) => n.natAbs + 1
 | _ => 0
abbrev WK := Int × List Int
def zoy : D -> Option WK
 | .tuple [.int n,.tuple xs] => (intsOf xs).map fun w => (n,w)
 | _ => none
def zgL (G : List D -> R D) : List D -> R (List WK)
 | [] => .ok []
 | d :: r => (G [d]).bind fun k => (R.of (zoy k)).bind fun w => (zgL G r).bind fun ws => .ok (w :: ws)
def ltW (p q : WK) : Bool := if p.1 = q.1 then lexLt p.2 q.2 else decide (p.1 < q.1)
def znE (x : WK × D) : List (WK × D) -> List (WK × D)
 | [] => [x]
 | y :: r => if ltW y.1 x.1 = true then y :: znE x r else x :: y :: r
def zfN : List (WK × D) -> List (WK × D)
 | [] => []
 | x :: r => znE x (zfN r)
def zeJ (G : List D -> R D) (d : D) : R D := (zgK d).bind fun ks => chk (leB (ks.length + 1) 64) ((zgL G ks).bind fun ws => chk (decide ws.Nodup) (.ok (.list ((zfN (ws.zip ks)).map (·.2)))))
theorem zgR (x : WK × D) : ∀ l,(znE x l).Perm (x :: l)
 | [] => .refl _
 | y :: r => by
  unfold znE
  split
  ·exact ((zgR x r).cons y).trans (.swap x y r)
  ·exact .refl _
theorem zgN : ∀ l : List (WK × D),(zfN l).Perm l
 | [] => .refl _
 | x :: r => (zgR x _).trans ((zgN r).cons x)
end FL
namespace FL
open PySem L2 PySem.Spec
open PyProof.Rows hiding St
class Cs where
 C : Hp
 st : ∀ a u,C a = some u -> ∃ o xs,u = .frz o (.tup xs)
def FzL (K : PySem.W.Frag) (H : Hp) (a : Addr) (xs : List V) : Prop := (∃ o,H a = some (.frz o (.lst xs))) \/
 ∃ (o : Obj) (its : Array Value) (n : Nat),K.lookup a = some o /\ o.cls = .type "list" /\ o.dict = none /\ o.data = .seq its n /\ its.size <= sizeLine /\ Vals xs its.toList
def kD : Key -> PyData
 | .inl i => .int i
 | .inr x => .str x
def zma (k : List Key) : PyData := .tuple (k.map kD)
mutual
def Fz (K : PySem.W.Frag) (H : Hp) : PyData -> V -> Prop
 | .none,v => v = .non
 | .bool b,v => v = .bl b
 | .int i,v => v = .int i
 | .str x,v => v = .str x
 | .list xs,v => ∃ a vs,v = .ref a /\ FzL K H a vs /\ zak K H xs vs
 | .tuple xs,v => ∃ a vs,v = .ref a /\ TAt H a vs /\ zak K H xs vs
 | .dict kvs,v => ∃ a o,v = .ref a /\ ((∃ kk,H a = some (.frz o (.dT kk)) /\ zbK K H kvs kk) \/ ∃ kk,H a = some (.frz o (.dK kk)) /\ zbL K H kvs kk)
def zak (K : PySem.W.Frag) (H : Hp) : List PyData -> List V -> Prop
 | [],vs => vs = []
 | d :: ds,vs => ∃ v r,vs = v :: r /\ Fz K H d v /\ zak K H ds r
def zbK (K : PySem.W.Frag) (H : Hp) : List (PyData × PyData) -> List (List Key × V) -> Prop
 | [],kk => kk = []
 | (k,d) :: r,kk => ∃ q v t,kk = (q,v) :: t /\ k = zma q /\ Fz K H d v /\ zbK K H r t
def zbL (K : PySem.W.Frag) (H : Hp) : List (PyData × PyData) -> List (Key × V) -> Prop
 | [],kk => kk = []
 | (k,d) :: r,kk => ∃ q v t,kk = (q,v) :: t /\ k = kD q /\ Fz K H d v /\ zbL K H r t
end
def ztu : HO -> Prop
 | .tup _ => True
 | .frz _ _ => True
 | _ => False
def Fzn (H H' : Hp) : Prop := ∀ a o,H a = some o -> ztu o -> H' a = some o
theorem Fzn.refl (H : Hp) : Fzn H H := fun _ _ h _ => h
theorem Fzn.trans {H H1 H2 : Hp} (a : Fzn H H1) (b : Fzn H1 H2) : Fzn H H2 := fun c o h s => b c o (a c o h s) s
theorem Fzn.of {H H' : Hp} (s : zaY H H') : Fzn H H' := fun a o h _ => s a o h
section
variable {K : PySem.W.Frag} {H H' : Hp}
theorem Fzn.ztA {a : Addr} {xs : List V} (e : Fzn H H') (h : TAt H a xs) : TAt H' a xs:=by
 rcases h with h | ⟨o,h⟩
 ·exact .inl (e _ _ h trivial)
 ·exact .inr ⟨o,e _ _ h trivial⟩
theorem Fzn.zqH {a : Addr} {xs : List V} (e : Fzn H H') (h : FzL K H a xs) : FzL K H' a xs:=by
 rcases h with ⟨o,h⟩ | h
 ·exact .inl ⟨o,e _ _ h trivial⟩
 ·exact .inr h
theorem FzL.sq {a : Addr} {xs : List V} (h : FzL K H a xs) : SqL K H a xs:=by
 rcases h with ⟨o,h⟩ | h
 ·exact .inl (.inr ⟨o,h⟩)
 ·exact .inr h
mutual
theorem Fz.mono (e : Fzn H H') : ∀ (d : PyData) (v : V),Fz K H d v -> Fz K H' d v
 | .none,v,h => by simp only [Fz] at h ⊢; exact h
 | .bool b,v,h => by simp only [Fz] at h ⊢; exact h
 | .int i,v,h => by simp only [Fz] at h ⊢; exact h
 | .str x,v,h => by simp only [Fz] at h ⊢; exact h
 | .list xs,v,h => by
  simp only [Fz] at h ⊢
  obtain ⟨a,vs,e1,h1,h2⟩ := h
  exact ⟨a,vs,e1,e.zqH h1,zak.mono e xs vs h2⟩
 | .tuple xs,v,h => by
  simp only [Fz] at h ⊢
  obtain ⟨a,vs,e1,h1,h2⟩ := h
  exact ⟨a,vs,e1,e.ztA h1,zak.mono e xs vs h2⟩
 | .dict kvs,v,h => by
  simp only [Fz] at h ⊢
  obtain ⟨a,o,e1,h⟩ := h
  rcases h with ⟨kk,h1,h2⟩ | ⟨kk,h1,h2⟩
  ·exact ⟨a,o,e1,.inl ⟨kk,e _ _ h1 trivial,zbK.mono e kvs kk h2⟩⟩
  ·exact ⟨a,o,e1,.inr ⟨kk,e _ _ h1 trivial,zbL.mono e kvs kk h2⟩⟩
theorem zak.mono (e : Fzn H H') : ∀ (ds : List PyData) (vs : List V),zak K H ds vs -> zak K H' ds vs
 | [],vs,h => by simp only [zak] at h ⊢; exact h
 | d :: ds,vs,h => by
  simp only [zak] at h ⊢
  obtain ⟨v,r,e1,h1,h2⟩ := h
  exact ⟨v,r,e1,Fz.mono e d v h1,zak.mono e ds r h2⟩
theorem zbK.mono (e : Fzn H H') : ∀ (kvs : List (PyData × PyData)) (kk : List (List Key × V)),zbK K H kvs kk -> zbK K H' kvs kk
 | [],kk,h => by simp only [zbK] at h ⊢; exact h
 | (k,d) :: r,kk,h => by
  simp only [zbK] at h ⊢
  obtain ⟨q,v,t,e1,e2,h1,h2⟩ := h
  exact ⟨q,v,t,e1,e2,Fz.mono e d v h1,zbK.mono e r t h2⟩
theorem zbL.mono (e : Fzn H H') : ∀ (kvs : List (PyData × PyData)) (kk : List (Key × V)),zbL K H kvs kk -> zbL K H' kvs kk
 | [],kk,h => by simp only [zbL] at h ⊢; exact h
 | (k,d) :: r,kk,h => by
  simp only [zbL] at h ⊢
  obtain ⟨q,v,t,e1,e2,h1,h2⟩ := h
  exact ⟨q,v,t,e1,e2,Fz.mono e d v h1,zbL.mono e r t h2⟩
end
theorem zak.len : ∀ {ds : List PyData} {vs : List V},zak K H ds vs -> vs.length = ds.length
 | [],vs,h => by simp only [zak] at h; subst h; rfl
 | d :: ds,vs,h => by
  simp only [zak] at h
  obtain ⟨v,r,rfl,_,h2⟩ := h
  simp [zak.len h2]
theorem zak.get : ∀ {ds : List PyData} {vs : List V} {i : Nat} {d : PyData},zak K H ds vs -> ds[i]? = some d -> ∃ v,vs[i]? = some v /\ Fz K H d v
 | [],vs,i,d,h,e => by simp at e
 | d0 :: ds,vs,i,d,h,e => by
  simp only [zak] at h
  obtain ⟨v,r,rfl,h1,h2⟩ := h
  cases i with
  | zero => simp at e; subst e; exact ⟨v,by simp,h1⟩
  | succ i =>
   obtain ⟨w,e1,f⟩ := zak.get h2 (by simpa using e)
   exact ⟨w,by simpa using e1,f⟩
theorem zak.app : ∀ {ds es : List PyData} {vs ws : List V},zak K H ds vs -> zak K H es ws -> zak K H (ds ++ es) (vs ++ ws)
 | [],es,vs,ws,h,g => by simp only [zak] at h; subst h; exact g
 | d :: ds,es,vs,ws,h,g => by
  simp only [zak] at h
  obtain ⟨v,r,rfl,h1,h2⟩ := h
  simp only [List.cons_append,zak]
  exact ⟨v,r ++ ws,rfl,h1,zak.app h2 g⟩
theorem zak.take : ∀ {ds : List PyData} {vs : List V} (n : Nat),zak K H ds vs -> zak K H (ds.take n) (vs.take n)
 | ds,vs,0,h => by simp [zak]
 | [],vs,n + 1,h => by simp only [zak] at h; subst h; simp [zak]
 | d :: ds,vs,n + 1,h => by
  simp only [zak] at h
  obtain ⟨v,r,rfl,h1,h2⟩ := h
  simp only [List.take_succ_cons,zak]
  exact ⟨v,_,rfl,h1,zak.take n h2⟩
theorem zak.drop : ∀ {ds : List PyData} {vs : List V} (n : Nat),zak K H ds vs -> zak K H (ds.drop n) (vs.drop n)
 | ds,vs,0,h => by simpa using h
 | [],vs,n + 1,h => by simp only [zak] at h; subst h; simp [zak]
 | d :: ds,vs,n + 1,h => by
  simp only [zak] at h
  obtain ⟨v,r,rfl,h1,h2⟩ := h
  simpa using zak.drop n h2
theorem zak.set : ∀ {ds : List PyData} {vs : List V} {d : PyData} {v : V} (n : Nat),zak K H ds vs -> Fz K H d v -> zak K H (ds.set n d) (vs.set n v)
 | [],vs,d,v,n,h,f => by simp only [zak] at h; subst h; simp [zak]
 | d0 :: ds,vs,d,v,n,h,f => by
  simp only [zak] at h
  obtain ⟨v0,r,rfl,h1,h2⟩ := h
  cases n with
  | zero => simp only [List.set_cons_zero,zak]; exact ⟨v,r,rfl,f,h2⟩
  | succ n => simp only [List.set_cons_succ,zak]; exact ⟨v0,_,rfl,h1,zak.set n h2 f⟩
theorem zak.rep {ds : List PyData} {vs : List V} (h : zak K H ds vs) : ∀ k : Nat,zak K H (List.replicate k ds).flatten (List.replicate k vs).flatten
 | 0 => by simp [zak]
 | k + 1 => by simp only [List.replicate_succ,List.flatten_cons]; exact zak.app h (zak.rep h k)
theorem zak.ints : ∀ {ds : List PyData} {vs : List V} {ns : List Int},zak K H ds vs -> intsOf ds = some ns -> vs = ns.map V.int /\ ds = ns.map PyData.int
 | [],vs,ns,h,e => by simp only [zak] at h; simp only [intsOf,Option.some.injEq] at e; subst h; subst e; exact ⟨rfl,rfl⟩
 | d :: ds,vs,ns,h,e => by
  simp only [zak] at h
  obtain ⟨v,r,rfl,h1,h2⟩ := h
  cases d with
  | int i =>
   simp only [intsOf,Option.map_eq_some_iff] at e
   obtain ⟨ms,e1,rfl⟩ := e
   obtain ⟨a,b⟩ := zak.ints h2 e1
   simp only [Fz] at h1
   subst h1; subst a; subst b
   exact ⟨rfl,rfl⟩
  | _ => simp [intsOf] at e
theorem zak.bools : ∀ {ds : List PyData} {vs : List V} {ns : List Bool},zak K H ds vs -> boolsOf ds = some ns -> vs = ns.map V.bl /\ ds = ns.map PyData.bool
 | [],vs,ns,h,e => by simp only [zak] at h; simp only [boolsOf,Option.some.injEq] at e; subst h; subst e; exact ⟨rfl,rfl⟩
 | d :: ds,vs,ns,h,e => by
  simp only [zak] at h
  obtain ⟨v,r,rfl,h1,h2⟩ := h
  cases d with
  | bool i =>
   simp only [boolsOf,Option.map_eq_some_iff] at e
   obtain ⟨ms,e1,rfl⟩ := e
   obtain ⟨a,b⟩ := zak.bools h2 e1
   simp only [Fz] at h1
   subst h1; subst a; subst b
   exact ⟨rfl,rfl⟩
  | _ => simp [boolsOf] at e
theorem zak.ofInts : ∀ (ns : List Int),zak K H (ns.map PyData.int) (ns.map V.int)
 | [] => by simp [zak]
 | i :: r => by simp only [List.map_cons,zak]; exact ⟨_,_,rfl,by simp [Fz],zak.ofInts r⟩
end
def zbq (K : PySem.W.Frag) (H : Hp) (a : Addr) : PyData -> Prop
 | .list ds => ∃ vs,H a = some (.lst vs) /\ zak K H ds vs
 | .dict kvs => (∃ kk,H a = some (.dT kk) /\ zbK K H kvs kk) \/ ∃ kk,H a = some (.dK kk) /\ zbL K H kvs kk
 | _ => False
def Tp (K : PySem.W.Frag) (H : Hp) : PyData -> V -> Prop
 | .list ds,v => ∃ a vs,v = .ref a /\ SqL K H a vs /\ zak K H ds vs
 | .dict kvs,v => ∃ a,v = .ref a /\ ((∃ kk,Rd H a (.dT kk) /\ zbK K H kvs kk) \/ ∃ kk,Rd H a (.dK kk) /\ zbL K H kvs kk)
 | d,v => Fz K H d v
section
variable {K : PySem.W.Frag} {H H' : Hp}
theorem Fz.tp {d : PyData} {v : V} (h : Fz K H d v) : Tp K H d v:=by
 cases d with
 | list ds =>
  simp only [Fz] at h
  obtain ⟨a,vs,e,h1,h2⟩ := h
  exact ⟨a,vs,e,h1.sq,h2⟩
 | dict kvs =>
  simp only [Fz] at h
  obtain ⟨a,o,e,h⟩ := h
  rcases h with ⟨kk,h1,h2⟩ | ⟨kk,h1,h2⟩
  ·exact ⟨a,e,.inl ⟨kk,.inr ⟨o,h1⟩,h2⟩⟩
  ·exact ⟨a,e,.inr ⟨kk,.inr ⟨o,h1⟩,h2⟩⟩
 | _ => exact h
theorem zbq.tp {d : PyData} {a : Addr} (h : zbq K H a d) : Tp K H d (.ref a):=by
 cases d with
 | list ds =>
  obtain ⟨vs,h1,h2⟩ := h
  exact ⟨a,vs,rfl,SqL.of h1,h2⟩
 | dict kvs =>
  rcases h with ⟨kk,h1,h2⟩ | ⟨kk,h1,h2⟩
  ·exact ⟨a,rfl,.inl ⟨kk,.inl h1,h2⟩⟩
  ·exact ⟨a,rfl,.inr ⟨kk,.inl h1,h2⟩⟩
 | _ => exact h.elim
def Own : HO -> Prop
 | .lst _ => True
 | .dT _ => True
 | .dK _ => True
 | _ => False
theorem zbq.own {d : PyData} {a : Addr} (h : zbq K H a d) : ∃ o,H a = some o /\ Own o:=by
 cases d with
 | list ds => obtain ⟨vs,h1,_⟩ := h; exact ⟨_,h1,trivial⟩
 | dict kvs =>
  rcases h with ⟨kk,h1,h2⟩ | ⟨kk,h1,h2⟩
  ·exact ⟨_,h1,trivial⟩
  ·exact ⟨_,h1,trivial⟩
 | _ => exact h.elim
theorem Own.zdc {o : HO} (h : Own o) : ¬ ztu o := by cases o <;> first | exact fun z => z | exact h.elim
theorem zbq.mono {d : PyData} {a : Addr} (e : Fzn H H') (k : H' a = H a) (h : zbq K H a d) : zbq K H' a d:=by
 cases d with
 | list ds => obtain ⟨vs,h1,h2⟩ := h; exact ⟨vs,by rw [k]; exact h1,h2.mono e⟩
 | dict kvs =>
  rcases h with ⟨kk,h1,h2⟩ | ⟨kk,h1,h2⟩
  ·exact .inl ⟨kk,by rw [k]; exact h1,h2.mono e⟩
  ·exact .inr ⟨kk,by rw [k]; exact h1,h2.mono e⟩
 | _ => exact h.elim
end
def zrI (K : PySem.W.Frag) (H : Hp) : Sl -> Option V -> Prop
 | .no,_ => True
 | .val d,some v => Fz K H d v
 | .ow _ d,some (.ref a) => zbq K H a d
 | _,_ => False
def At (ρ : En) (σ : St) (i : Nat) (a : Addr) : Prop := (∃ p d,ρ[i]? = some (.ow p d)) /\ σ[i]? = some (some (.ref a))
def zqv [Cs] (H : Hp) : Prop := ∀ a u,Cs.C a = some u -> H a = some u
theorem zqv.mono [Cs] {H H' : Hp} (h : zqv H) (e : Fzn H H') : zqv H' := fun a u q => e a u (h a u q) (by
 obtain ⟨o,xs,rfl⟩ := Cs.st a u q
 trivial)
structure Rel [Cs] (K : PySem.W.Frag) (ρ : En) (σ : St) (H : Hp) : Prop where
 len : ρ.length = σ.length
 ok : ∀ (i : Nat) x v,ρ[i]? = some x -> σ[i]? = some v -> zrI K H x v
 sep : ∀ i j a,At ρ σ i a -> At ρ σ j a -> i = j
 cst : zqv H
variable [Cs]
def MA (ρ : En) (σ : St) (a : Addr) : Prop := ∃ i,At ρ σ i a
structure Stp (ρ ρ' : En) (σ : St) (H H' : Hp) : Prop where
 md : ∀ (i : Nat) p,(∃ d,ρ[i]? = some (.ow p d)) ↔ ∃ d,ρ'[i]? = some (.ow p d)
 kp : ∀ a o,H a = some o -> ¬ MA ρ σ a -> H' a = some o
section
variable {K : PySem.W.Frag} {ρ ρ' ρ'' : En} {σ : St} {H H' H'' : Hp}
theorem Rel.zto (r : Rel K ρ σ H) {i : Nat} {a : Addr} (h : At ρ σ i a) : ∃ p d,ρ[i]? = some (.ow p d) /\ zbq K H a d:=by
 obtain ⟨⟨p,d,e⟩,e2⟩ := h
 exact ⟨p,d,e,r.ok i _ _ e e2⟩
theorem Rel.zbG (r : Rel K ρ σ H) {a : Addr} (h : MA ρ σ a) : ∃ o,H a = some o /\ Own o:=by
 obtain ⟨i,h⟩ := h
 obtain ⟨p,d,_,m⟩ := r.zto h
 exact m.own
theorem Stp.refl : Stp ρ ρ σ H H := ⟨fun _ _ => Iff.rfl,fun _ _ h _ => h⟩
theorem Stp.ma (s : Stp ρ ρ' σ H H') {a : Addr} : MA ρ σ a ↔ MA ρ' σ a:=by
 constructor
 ·rintro ⟨i,⟨p,h⟩,e⟩; exact ⟨i,⟨p,(s.md i p).mp h⟩,e⟩
 ·rintro ⟨i,⟨p,h⟩,e⟩; exact ⟨i,⟨p,(s.md i p).mpr h⟩,e⟩
theorem Stp.trans (a : Stp ρ ρ' σ H H') (b : Stp ρ' ρ'' σ H' H'') : Stp ρ ρ'' σ H H'' :=
 ⟨fun i p => (a.md i p).trans (b.md i p),fun c o h n => b.kp c o (a.kp c o h n) fun z => n (a.ma.mpr z)⟩
theorem Stp.of (s : zaY H H') : Stp ρ ρ σ H H' := ⟨fun _ _ => Iff.rfl,fun a o h _ => s a o h⟩
theorem Stp.fzn (s : Stp ρ ρ' σ H H') (r : Rel K ρ σ H) : Fzn H H' := fun a o h st => s.kp a o h fun m => by
 obtain ⟨o',e,w⟩ := r.zbG m
 rw [h] at e
 cases e
 exact w.zdc st
theorem zrI.mono {x : Sl} {v : Option V} (f : Fzn H H') (k : ∀ a,v = some (.ref a) -> (∃ p d,x = .ow p d) -> H' a = H a) (h : zrI K H x v) : zrI K H' x v:=by
 cases x with
 | no => trivial
 | val d => cases v with
  | none => exact h.elim
  | some v => exact Fz.mono f d v h
 | ow p d => cases v with
  | none => exact h.elim
  | some v => cases v with
   | ref a => exact zbq.mono f (k a rfl ⟨p,d,rfl⟩) h
   | _ => exact h.elim
theorem Rel.same (r : Rel K ρ σ H) (s : zaY H H') : Rel K ρ σ H':=by
 refine ⟨r.len,fun i x v e1 e2 => (r.ok i x v e1 e2).mono (Fzn.of s) fun a e3 ⟨p,d,e4⟩ => ?_,r.sep,r.cst.mono (Fzn.of s)⟩
 subst e3; subst e4
 obtain ⟨o,e,_⟩ := r.zbG ⟨i,⟨p,d,e1⟩,e2⟩
 rw [e,s a o e]
theorem Rel.put {a : Addr} {o : HO} (r : Rel K ρ σ H) (n : ¬ MA ρ σ a) (ns : ∀ u,H a = some u -> ¬ ztu u) : Rel K ρ σ (upd H a o):=by
 have f : Fzn H (upd H a o) := fun b u e st => by
  rw [zay fun z => by subst z; exact ns u e st]
  exact e
 refine ⟨r.len,fun i x v e1 e2 => (r.ok i x v e1 e2).mono f fun b e3 ⟨p,d,e4⟩ => ?_,r.sep,r.cst.mono f⟩
 subst e3; subst e4
 exact zay fun z => n ⟨i,⟨p,d,e1⟩,z ▸ e2⟩
end
end FL
namespace FL
open PySem L2 PySem.Spec
open PyProof.Rows hiding St
variable [Cs]
section
variable {X : Cx} {pins : List (Addr × Obj)} {σ : L2.St} {H : Hp} {s : Shared}
theorem zuy {a : Addr} {u : HO} {o : Obj} (I : Inv X pins σ H s) (hd : H a = some u) (ow : Own u) (ho : s.heap.get? a = some o) : Inv X pins σ (upd H a (.frz o u)) s:=by
 have ne : ∀ b w,H b = some w -> ¬ Own w -> b ≠ a := fun b w e n z => by
  subst z
  rw [e] at hd
  cases hd
  exact n ow
 refine Inv.step (s:=s) (h' := s.heap) (H' := upd H a (.frz o u)) (g' := s.gens) (t' := s.toks) (d' := s.drawn) (ch:=[]) I (fun _ z => nomatch z) (fun b o _ _ _ e _ => e) (fun b o _ _ _ e _ => ⟨o.slots,e⟩) (fun b _ _ _ n => ?_) (fun b o _ e => ⟨o,e⟩)
  (fun b xs e => ?_) (fun b o u e => ?_) (fun b ps e => ⟨#[],?_⟩) (fun m hm => hm) (fun b w e => ?_) I.bare
 ·rw [zay fun z => by subst z; rw [n] at hd; cases hd]; exact n
 ·rw [zay (ne b _ e fun z => z)]; exact e
 ·rw [zay (ne b _ e fun z => z)]; exact e
 ·rw [zay (ne b _ e fun z => z),e]; simp
 ·have st : ∀ (b : Addr) (w : HO),zbu X.prog X.w H s.heap b w -> zbu X.prog X.w (upd H a (.frz o u)) s.heap b w := fun b w k =>
   k.stay (fun _ _ _ q => q) (fun b' q => by rw [zay (ne b' _ q fun z => z)]; exact q) (fun b' xs q => q.upd (fun _ r => ne b' _ r fun z => z) fun _ _ r => ne b' _ r fun z => z)
  by_cases c : b = a
  ·subst c
   rw [zas] at e
   cases e
   exact ⟨ho,st b u (I.hok b u hd)⟩
  ·rw [zay c] at e
   exact st b w (I.hok b w e)
theorem zta {Q : VK} {w : Value} (h : EP X pins σ (fun v H1 => ∃ a u,v = .ref a /\ H1 a = some u /\ Own u /\ ∀ o,Q v (upd H1 a (.frz o u))) w s) : EP X pins σ Q w s:=by
 obtain ⟨v,H1,I,r,a,u,e,e1,ow,q⟩ := h
 obtain ⟨o,ho⟩ := (I.hok a u e1).some
 exact ⟨v,_,zuy I e1 ow ho,r,q o⟩
def tFz (t : TE) : TE := fun σ H Q => t σ H fun v H1 => ∃ a u,v = .ref a /\ H1 a = some u /\ Own u /\ ∀ o,Q v (upd H1 a (.frz o u))
theorem zue {e : Expr} {t : TE} (h : PE X e t) : PE X e (tFz t) := fun pins s σ H Q I q => thn (h pins s σ H _ I q) fun _ _ z => zta z
end
def Good {β : Type} (K : PySem.W.Frag) (ρ : En) (σ : L2.St) (H : Hp) (r : R (β × En)) (P : β -> En -> Hp -> Prop) : Prop := match r with
 | .ok x => ∀ H',Rel K x.2 σ H' -> Stp ρ x.2 σ H H' -> P x.1 x.2 H'
 | _ => False
def tV (K : PySem.W.Frag) (f : EF) : TE := fun σ H Q => ∃ ρ,Rel K ρ σ H /\ Good K ρ σ H (f ρ) fun d _ H' => ∀ v,Fz K H' d v -> Q v H'
def tT (K : PySem.W.Frag) (f : TF) : TT := fun σ H Q => ∃ ρ,Rel K ρ σ H /\ Good K ρ σ H (f ρ) fun b _ H' => Q b H'
def tA (K : PySem.W.Frag) (f : AF) : TA := fun σ H Q => ∃ ρ,Rel K ρ σ H /\ Good K ρ σ H (f ρ) fun ds _ H' => ∀ vs,zak K H' ds vs -> Q vs H'
def tO (K : PySem.W.Frag) (f : OF) : TO := fun σ H Q => ∃ ρ,Rel K ρ σ H /\ Good K ρ σ H (f ρ) fun o _ H' => Q o H'
def tN (K : PySem.W.Frag) (f : EF) : TE := fun σ H Q => ∃ ρ,Rel K ρ σ H /\ Good K ρ σ H (f ρ) fun d ρ' H' => ∀ a,H a = none -> zbq K H' a d -> Q (.ref a) H'
def PV (K : PySem.W.Frag) (X : Cx) (e : Expr) (f : EF) : Prop := X.K = K -> PE X e (tV K f)
def PVT (K : PySem.W.Frag) (X : Cx) (e : Expr) (f : TF) : Prop := X.K = K -> PT X e (tT K f)
def PVW (K : PySem.W.Frag) (X : Cx) (e : Expr) (f : TF) : Prop := X.K = K -> PW X e (tT K f)
def PVA (K : PySem.W.Frag) (X : Cx) (es : List Expr) (f : AF) : Prop := X.K = K -> PA X es (tA K f)
def PVO (K : PySem.W.Frag) (X : Cx) (e : Option Expr) (f : OF) : Prop := X.K = K -> PO X e (tO K f)
def PVN (K : PySem.W.Frag) (X : Cx) (e : Expr) (f : EF) : Prop := X.K = K -> PE X e (tN K f)
theorem _root_.L2.PE.weak {X : Cx} {e : Expr} {t t' : TE} (h : PE X e t) (w : ∀ σ H Q,t' σ H Q -> t σ H Q) : PE X e t' := fun pins s σ H Q I q => h pins s σ H Q I (w σ H Q q)
theorem _root_.L2.PT.weak {X : Cx} {e : Expr} {t t' : TT} (h : PT X e t) (w : ∀ σ H Q,t' σ H Q -> t σ H Q) : PT X e t' := fun pins s σ H Q I q => h pins s σ H Q I (w σ H Q q)
theorem _root_.L2.PW.weak {X : Cx} {e : Expr} {t t' : TT} (h : PW X e t) (w : ∀ σ H Q,t' σ H Q -> t σ H Q) : PW X e t' := fun wh pins s σ H Q I q => h wh pins s σ H Q I (w σ H Q q)
theorem _root_.L2.PA.weak {X : Cx} {e : List Expr} {t t' : TA} (h : PA X e t) (w : ∀ σ H Q,t' σ H Q -> t σ H Q) : PA X e t' := fun pos pins s σ H Q I q => h pos pins s σ H Q I (w σ H Q q)
theorem _root_.L2.PO.weak {X : Cx} {e : Option Expr} {t t' : TO} (h : PO X e t) (w : ∀ σ H Q,t' σ H Q -> t σ H Q) : PO X e t' := fun pins s σ H Q I q => h pins s σ H Q I (w σ H Q q)
section
variable {K : PySem.W.Frag} {ρ ρ1 : En} {σ : L2.St} {H H1 : Hp} {β γ : Type}
theorem Good.step {r : R (β × En)} {P : β -> En -> Hp -> Prop} (st : Stp ρ ρ1 σ H H1) (g : Good K ρ σ H r P) : Good K ρ1 σ H1 r P:=by
 cases r with
 | ok x => exact fun H' rel s => g H' rel (st.trans s)
 | _ => exact g
theorem Good.bnd {r : R (β × En)} {k : β × En -> R (γ × En)} {P : γ -> En -> Hp -> Prop} (g : Good K ρ σ H (r.bind k) P) : ∃ x,r = .ok x /\ Good K ρ σ H (k x) P:=by
 cases r with
 | ok x => exact ⟨x,rfl,g⟩
 | _ => exact g.elim
theorem Good.zeq {r : R β} {k : β -> R (γ × En)} {P : γ -> En -> Hp -> Prop} (g : Good K ρ σ H (r.bind k) P) : ∃ x,r = .ok x /\ Good K ρ σ H (k x) P:=by
 cases r with
 | ok x => exact ⟨x,rfl,g⟩
 | _ => exact g.elim
theorem Good.chk {c : Bool} {r : R (γ × En)} {P : γ -> En -> Hp -> Prop} (g : Good K ρ σ H (chk c r) P) : c = true /\ Good K ρ σ H r P:=by
 cases c with
 | true => exact ⟨rfl,g⟩
 | false => exact g.elim
theorem Good.now {x : β} {P : β -> En -> Hp -> Prop} (g : Good K ρ σ H (.ok (x,ρ)) P) (rel : Rel K ρ σ H) : P x ρ H := g H rel .refl
theorem Good.new {x : β} {P : β -> En -> Hp -> Prop} (g : Good K ρ σ H (.ok (x,ρ)) P) (rel : Rel K ρ σ H) (s : zaY H H1) : P x ρ H1 := g H1 (rel.same s) (.of s)
theorem goV {f : EF} {k : D × En -> R (β × En)} {S : VK} {P : β -> En -> Hp -> Prop} (rel : Rel K ρ σ H) (g : Good K ρ σ H ((f ρ).bind k) P)
  (h : ∀ d ρ1 v H1,Rel K ρ1 σ H1 -> Stp ρ ρ1 σ H H1 -> Fz K H1 d v -> Good K ρ1 σ H1 (k (d,ρ1)) P -> S v H1) : tV K f σ H S:=by
 obtain ⟨x,e,g1⟩ := g.bnd
 refine ⟨ρ,rel,?_⟩
 rw [e]
 exact fun H' r s v fz => h x.1 x.2 v H' r s fz (g1.step s)
theorem goT {f : TF} {k : Bool × En -> R (β × En)} {S : Bool -> Hp -> Prop} {P : β -> En -> Hp -> Prop} (rel : Rel K ρ σ H) (g : Good K ρ σ H ((f ρ).bind k) P)
  (h : ∀ b ρ1 H1,Rel K ρ1 σ H1 -> Stp ρ ρ1 σ H H1 -> Good K ρ1 σ H1 (k (b,ρ1)) P -> S b H1) : tT K f σ H S:=by
 obtain ⟨x,e,g1⟩ := g.bnd
 refine ⟨ρ,rel,?_⟩
 rw [e]
 exact fun H' r s => h x.1 x.2 H' r s (g1.step s)
theorem goA {f : AF} {k : List D × En -> R (β × En)} {S : List V -> Hp -> Prop} {P : β -> En -> Hp -> Prop} (rel : Rel K ρ σ H) (g : Good K ρ σ H ((f ρ).bind k) P)
  (h : ∀ ds ρ1 vs H1,Rel K ρ1 σ H1 -> Stp ρ ρ1 σ H H1 -> zak K H1 ds vs -> Good K ρ1 σ H1 (k (ds,ρ1)) P -> S vs H1) : tA K f σ H S:=by
 obtain ⟨x,e,g1⟩ := g.bnd
 refine ⟨ρ,rel,?_⟩
 rw [e]
 exact fun H' r s vs fz => h x.1 x.2 vs H' r s fz (g1.step s)
theorem goO {f : OF} {k : Option Int × En -> R (β × En)} {S : Option Int -> Hp -> Prop} {P : β -> En -> Hp -> Prop} (rel : Rel K ρ σ H) (g : Good K ρ σ H ((f ρ).bind k) P)
  (h : ∀ b ρ1 H1,Rel K ρ1 σ H1 -> Stp ρ ρ1 σ H H1 -> Good K ρ1 σ H1 (k (b,ρ1)) P -> S b H1) : tO K f σ H S:=by
 obtain ⟨x,e,g1⟩ := g.bnd
 refine ⟨ρ,rel,?_⟩
 rw [e]
 exact fun H' r s => h x.1 x.2 H' r s (g1.step s)
end
def rD (K : PySem.W.Frag) (g : D -> D -> R D) : R2 := fun x y H Q => ∃ dx dy d,Tp K H dx x /\ Tp K H dy y /\ g dx dy = .ok d /\ ∀ v H',zaY H H' -> Fz K H' d v -> Q v H'
def rD1 (K : PySem.W.Frag) (g : D -> R D) : V -> Hp -> VK -> Prop := fun x H Q => ∃ dx d,Tp K H dx x /\ g dx = .ok d /\ ∀ v H',zaY H H' -> Fz K H' d v -> Q v H'
def rDs (K : PySem.W.Frag) (G : List D -> R D) : List V -> Hp -> VK -> Prop := fun xs H Q => ∃ ds d,zak K H ds xs /\ G ds = .ok d /\ ∀ v H',zaY H H' -> Fz K H' d v -> Q v H'
def rD0 (K : PySem.W.Frag) (g : D -> R D) : List V -> Hp -> VK -> Prop := fun xs H Q => ∃ x dx d,xs = [x] /\ Tp K H dx x /\ g dx = .ok d /\ ∀ v H',zaY H H' -> Fz K H' d v -> Q v H'
section
variable {K : PySem.W.Frag} {X : Cx} {a b c : Expr} {f h k : EF} {pos : Pos}
theorem zad {x : Str} (i : Nat) (hN : X.N[i]? = some x := by rfl) (hv : Vis X.env.scope x := by first | exact Or.inl rfl | exact Or.inr (Or.inl rfl) | exact Or.inr (Or.inr rfl)) (hd : (x == ("__debug__" : Str)) = false := by decide)
  (hcd : (x == ("__classdict__" : Str)) = false := by decide) : PV K X (.Name x pos) (eV i) := fun _ => (zp2 hN hv hd hcd).weak fun σ H Q => by
 rintro ⟨ρ,rel,g⟩
 unfold eV at g
 cases e : ρ[i]? with
 | none => rw [e] at g; exact g.elim
 | some x =>
  rw [e] at g
  cases x with
  | val d =>
   have hl : i < σ.length := by rw [<- rel.len]; exact (List.getElem?_eq_some_iff.mp e).1
   have o := rel.ok i _ _ e (List.getElem?_eq_getElem hl)
   cases es : σ[i] with
   | none => rw [es] at o; exact o.elim
   | some v =>
    rw [es] at o
    exact ⟨v,by rw [List.getElem?_eq_getElem hl,es],g.now rel v o⟩
  | _ => exact g.elim
theorem ztC {e : Expr} {v : V} {d : D} (h : PE X e (tC v)) (hv : ∀ H,Fz K H d v) : PV K X e (eC d) := fun _ => h.weak fun σ H Q => by
 rintro ⟨ρ,rel,g⟩
 exact g.now rel v (hv H)
theorem zah {i : Int} {j} : PV K X (.Constant (.int i) j pos) (eC (.int i)) := ztC zst fun _ => by simp [Fz]
theorem zkk {i : Bool} {j} : PV K X (.Constant (.bool i) j pos) (eC (.bool i)) := ztC zuf fun _ => by simp [Fz]
theorem zpZ {j} : PV K X (.Constant .none j pos) (eC .none) := ztC zsq fun _ => by simp [Fz]
theorem ziw {x : Str} {v : V} {u : Value} {d : D} (hg : Gl X x) (hm : X.mg x = some u) (r : RelV v u) (hv : ∀ H,Fz K H d v) (hd : (x == ("__debug__" : Str)) = false := by decide) : PV K X (.Name x pos) (eC d) := ztC (zm5 hg hm r hd) hv
theorem ztJ {g : D -> D -> R D} {r : R2} (ho : ∀ x y H Q,rD K g x y H Q -> r x y H Q) (σ : L2.St) (H : Hp) (Q : VK) (q : tV K (e2 g f h) σ H Q) : tOp r (tV K f) (tV K h) σ H Q:=by
 obtain ⟨ρ,rel,q⟩ := q
 refine goV rel q fun dx ρ1 x H1 rel1 st1 fx q1 => goV rel1 q1 fun dy ρ2 y H2 rel2 st2 fy q2 => ?_
 obtain ⟨d,ed,q3⟩ := q2.zeq
 exact ho _ _ _ _ ⟨dx,dy,d,(fx.mono (st2.fzn rel1)).tp,fy.tp,ed,fun v H' s fz => q3.new rel2 s v fz⟩
theorem zax {op : Operator} {g : D -> D -> R D} (ho : OpR X (binaryOp op) (rD X.K g)) (ha : PV K X a f) (hb : PV K X b h) : PV K X (.BinOp a op b pos) (e2 g f h) := fun hK => by
 subst hK
 exact (zud ho (ha rfl) (hb rfl)).weak fun σ H Q q => ztJ (fun _ _ _ _ z => z) σ H Q q
theorem za0 {g : D -> D -> R D} (ho : IxR X (rD X.K g)) (ha : PV K X a f) (hb : PV K X b h) (hs : zkS b := by exact fun _ _ => rfl) : PV K X (.Subscript a b pos) (e2 g f h) := fun hK => by
 subst hK
 exact (zss ho (ha rfl) (hb rfl) hs).weak fun σ H Q q => ztJ (fun _ _ _ _ z => z) σ H Q q
theorem zlf {op : CmpOp} {g : D -> D -> R D} (ho : OpR X (compareOp op) (rD X.K g)) (ha : PV K X a f) (hb : PV K X b h) (hm : behindInMarks op b = false) : PV K X (.Compare a [op] [b] pos) (e2 g f h) := fun hK => by
 subst hK
 exact (zq6 ho (ha rfl) (hb rfl) hm).weak fun σ H Q q => ztJ (fun _ _ _ _ z => z) σ H Q q
theorem zt5 {op : UnaryOp} {g : D -> R D} (ho : UnR X (unaryOp op) (rD1 X.K g)) (ha : PV K X a f) : PV K X (.UnaryOp op a pos) (e1 g f) := fun hK => by
 subst hK
 exact (zua ho (ha rfl)).weak fun σ H Q => by
  rintro ⟨ρ,rel,q⟩
  refine goV rel q fun dx ρ1 x H1 rel1 st1 fx q1 => ?_
  obtain ⟨d,ed,q3⟩ := q1.zeq
  exact ⟨dx,d,fx.tp,ed,fun v H' s fz => q3.new rel1 s v fz⟩
theorem znL {g g' : D -> D -> R D} (σ : L2.St) (H : Hp) (Q : VK) (q : tV K (zfQ g g' f h k) σ H Q) : zmD (rD K g) (rD K g') (tV K f) (tV K h) (tV K k) σ H Q:=by
 obtain ⟨ρ,rel,q⟩ := q
 refine goV rel q fun dx ρ1 x H1 rel1 st1 fx q1 => goV rel1 q1 fun dy ρ2 y H2 rel2 st2 fy q2 => ?_
 obtain ⟨d,ed,q3⟩ := q2.zeq
 refine ⟨dx,dy,d,(fx.mono (st2.fzn rel1)).tp,fy.tp,ed,fun v H' s fz => ?_⟩
 cases d with
 | bool bb =>
  simp only [Fz] at fz
  subst fz
  have rel3 := rel2.same s
  have q4 := q3.step (.of s)
  cases bb with
  | true =>
   refine ⟨true,rfl,zqe ?_⟩
   refine goV rel3 q4 fun dz ρ3 z H3 rel4 st4 fzz q5 => ?_
   obtain ⟨d2,ed2,q6⟩ := q5.zeq
   exact ⟨dy,dz,d2,((fy.mono (Fzn.of s)).mono (st4.fzn rel3)).tp,fzz.tp,ed2,fun v H' s fz => q6.new rel4 s v fz⟩
  | false => exact ⟨false,rfl,zqf (q4.now rel3 _ (by simp [Fz]))⟩
 | _ => exact q3.elim
theorem zo0 {op op' : CmpOp} {g g' : D -> D -> R D} (ho : OpR X (compareOp op) (rD X.K g)) (ho' : OpR X (compareOp op') (rD X.K g')) (ha : PV K X a f) (hb : PV K X b h) (hc : PV K X c k)
  (hm : lastMarks [op,op'] [b,c] = false := by with_unfolding_all rfl) : PV K X (.Compare a [op,op'] [b,c] pos) (zfQ g g' f h k) := fun hK => by
 subst hK
 exact (zpg ho ho' (ha rfl) (hb rfl) (hc rfl) hm).weak fun σ H Q q => znL σ H Q q
theorem zld {op} (ha : PV K X a f) : PV K X (.BoolOp op [a] pos) f := fun hK => zso (ha hK)
theorem zlg {rest : List Expr} (ha : PV K X a f) (hb : PV K X (.BoolOp .And (b :: rest) pos) h) : PV K X (.BoolOp .And (a :: b :: rest) pos) (znV f h) := fun hK => (zsv (ha hK) (hb hK)).weak fun σ H Q => by
 rintro ⟨ρ,rel,q⟩
 refine goV rel q fun dx ρ1 x H1 rel1 st1 fx q1 => ?_
 cases dx with
 | bool bb =>
  simp only [Fz] at fx
  subst fx
  cases bb with
  | true => exact ⟨true,rfl,zqe ⟨ρ1,rel1,q1⟩⟩
  | false => exact ⟨false,rfl,zqf (q1.now rel1 _ (by simp [Fz]))⟩
 | _ => exact q1.elim
theorem zt6 {rest : List Expr} (ha : PV K X a f) (hb : PV K X (.BoolOp .Or (b :: rest) pos) h) : PV K X (.BoolOp .Or (a :: b :: rest) pos) (eOr f h) := fun hK => (zuc (ha hK) (hb hK)).weak fun σ H Q => by
 rintro ⟨ρ,rel,q⟩
 refine goV rel q fun dx ρ1 x H1 rel1 st1 fx q1 => ?_
 cases dx with
 | bool bb =>
  simp only [Fz] at fx
  subst fx
  cases bb with
  | true => exact ⟨true,rfl,zqe (q1.now rel1 _ (by simp [Fz]))⟩
  | false => exact ⟨false,rfl,zqf ⟨ρ1,rel1,q1⟩⟩
 | _ => exact q1.elim
theorem zsd (ha : PV K X a f) : PV K X (.UnaryOp .Not a pos) (zuB f) := fun hK => (zsp (ha hK)).weak fun σ H Q => by
 rintro ⟨ρ,rel,q⟩
 refine goV rel q fun dx ρ1 x H1 rel1 st1 fx q1 => ?_
 cases dx with
 | bool bb =>
  simp only [Fz] at fx
  subst fx
  exact ⟨bb,rfl,q1.now rel1 _ (by simp [Fz])⟩
 | _ => exact q1.elim
variable {es : List Expr} {fa : AF}
theorem zaj : PVA K X [] zau := fun _ => zjr.weak fun σ H Q => by
 rintro ⟨ρ,rel,q⟩
 exact q.now rel [] (by simp [zak])
theorem zab (ha : PV K X a f) (hr : PVA K X es fa) (hs : starEach (a :: es) X.env = (false,eval a X.env) :: starEach es X.env := by rfl) : PVA K X (a :: es) (zac f fa) := fun hK => (zdr (ha hK) (hr hK) hs).weak fun σ H Q => by
 rintro ⟨ρ,rel,q⟩
 refine goV rel q fun dx ρ1 x H1 rel1 st1 fx q1 => goA rel1 q1 fun ds ρ2 vs H2 rel2 st2 fs q2 => ?_
 exact q2.now rel2 _ (by simp only [zak]; exact ⟨x,vs,rfl,fx.mono (st2.fzn rel1),fs⟩)
theorem zcr : lim <= sizeLine := by rw [sizeLine_eq]; decide
theorem zdb {x1} (h : PVA K X es fa) : PV K X (.Tuple es x1 pos) (zcH fa) := fun hK => (zsn (h hK)).weak fun σ H Q => by
 rintro ⟨ρ,rel,q⟩
 refine goA rel q fun ds ρ1 vs H1 rel1 st1 fs q1 => ?_
 obtain ⟨c,q2⟩ := q1.chk
 refine ⟨by rw [fs.len]; exact Nat.le_trans (zjB c) zcr,fun p hp => ?_⟩
 have s : zaY H1 (upd H1 p (.tup vs)) := zaY.upd hp
 refine q2.new rel1 s _ ?_
 simp only [Fz]
 exact ⟨p,vs,rfl,.inl zas,fs.mono (Fzn.of s)⟩
theorem zfe (h : PVA K X es fa) : PVN K X (.List es pos) (zf5 fa) := fun hK => (zsr (h hK)).weak fun σ H Q => by
 rintro ⟨ρ,rel,q⟩
 refine goA rel q fun ds ρ1 vs H1 rel1 st1 fs q1 => ?_
 obtain ⟨c,q2⟩ := q1.chk
 refine ⟨by rw [fs.len]; exact Nat.le_trans (zjB c) zcr,fun p hp => ?_⟩
 have s : zaY H1 (upd H1 p (.lst vs)) := zaY.upd hp
 refine q2.new rel1 s p ?_ ?_
 ·cases e : H p with
  | none => rfl
  | some o =>
   by_cases m : MA ρ σ p
   ·obtain ⟨o',e',_⟩ := rel1.zbG (st1.ma.mp m)
    rw [hp] at e'; cases e'
   ·rw [st1.kp p o e m] at hp; cases hp
 ·exact ⟨vs,zas,fs.mono (Fzn.of s)⟩
theorem PVN.pv {e : Expr} {f : EF} (h : PVN K X e f) : PV K X e f := fun hK => (zue (h hK)).weak fun σ H Q => by
 rintro ⟨ρ,rel,q⟩
 refine ⟨ρ,rel,?_⟩
 cases e : f ρ with
 | ok x =>
  rw [e] at q
  intro H' rel' st a ha m
  obtain ⟨u,e1,ow⟩ := m.own
  refine ⟨a,u,rfl,e1,ow,fun o => ?_⟩
  have nma : ¬ MA ρ σ a := fun z => by
   obtain ⟨o',e',_⟩ := rel.zbG z
   rw [ha] at e'; cases e'
  have nma' : ¬ MA x.2 σ a := fun z => nma (st.ma.mpr z)
  have fz : Fzn H' (upd H' a (.frz o u)) := fun b w e2 sy => by
   rw [zay fun z => by subst z; rw [e1] at e2; cases e2; exact ow.zdc sy]
   exact e2
  refine q _ (rel'.put nma' fun u' e2 => by rw [e1] at e2; cases e2; exact ow.zdc) ⟨st.md,fun b w e2 n => ?_⟩ _ ?_
  ·rw [zay fun z => by subst z; rw [ha] at e2; cases e2]
   exact st.kp b w e2 n
  ·obtain ⟨d,ρ'⟩ := x
   cases d with
   | list ds =>
    obtain ⟨vs,h1,h2⟩ := m
    rw [e1] at h1
    cases h1
    simp only [Fz]
    exact ⟨a,vs,rfl,.inl ⟨o,zas⟩,h2.mono fz⟩
   | dict kvs =>
    simp only [Fz]
    rcases m with ⟨kk,h1,h2⟩ | ⟨kk,h1,h2⟩
    ·rw [e1] at h1
     cases h1
     exact ⟨a,o,rfl,.inl ⟨kk,zas,h2.mono fz⟩⟩
    ·rw [e1] at h1
     cases h1
     exact ⟨a,o,rfl,.inr ⟨kk,zas,h2.mono fz⟩⟩
   | _ => exact m.elim
 | _ => rw [e] at q; exact q.elim
theorem goC {G : List D -> R D} {r : List V -> Hp -> VK -> Prop} (hr : ∀ xs H Q,rDs K G xs H Q -> r xs H Q) (σ : L2.St) (H : Hp) (Q : VK) (q : tV K (zal G fa) σ H Q) : tCB r (tA K fa) σ H Q:=by
 obtain ⟨ρ,rel,q⟩ := q
 refine goA rel q fun ds ρ1 vs H1 rel1 st1 fs q1 => ?_
 obtain ⟨d,ed,q2⟩ := q1.zeq
 exact hr _ _ _ ⟨ds,d,fs,ed,fun v H' s fz => q2.new rel1 s v fz⟩
theorem zaR {x : Str} {id : String} {G : List D -> R D} {p : Pos} {e : Expr} (hc : zd6 X (.builtin id) (rDs X.K G)) (hg : Gl X x) (hm : X.mg x = none) (hv : bootBuiltins x = some (.builtin id)) (ha : PVA K X (e :: es) fa) (hn : x ≠ "__name__" := by decide) (hdb : (x == ("__debug__" : Str)) = false := by decide)
  (he : starEach (e :: es) X.env = (false,eval e X.env) :: starEach es X.env := by rfl) (hpl : (backTo pos (starEach es X.env)).any (·.1) = false := by rfl) : PV K X (.Call (.Name x p) (e :: es) [] pos) (zal G fa) := fun hK => by
 subst hK
 exact (zlh hc hg hm hv (ha rfl) hn hdb he hpl).weak fun σ H Q q => goC (fun _ _ _ z => z) σ H Q q
theorem zeN {x : Str} {T : String} {G : List D -> R D} {p : Pos} {e : Expr} (hc : zd6 X (.type T) (rDs X.K G)) (hg : Gl X x) (hm : X.mg x = none) (hv : bootBuiltins x = some (.type T)) (ha : PVA K X (e :: es) fa) (hn : x ≠ "__name__" := by decide) (hdb : (x == ("__debug__" : Str)) = false := by decide)
  (he : starEach (e :: es) X.env = (false,eval e X.env) :: starEach es X.env := by rfl) (hpl : (backTo pos (starEach es X.env)).any (·.1) = false := by rfl) : PV K X (.Call (.Name x p) (e :: es) [] pos) (zal G fa) := fun hK => by
 subst hK
 exact (zjq hc hg hm hv (ha rfl) hn hdb he hpl).weak fun σ H Q q => goC (fun _ _ _ z => z) σ H Q q
variable {lo hi : Option Expr} {fl fh : OF}
theorem zoX : PVO K X none zpk := fun _ => zq0.weak fun σ H Q => by
 rintro ⟨ρ,rel,q⟩
 exact q.now rel
theorem zoW (h : PV K X a f) : PVO K X (some a) (zpj f) := fun hK => (zqZ (h hK)).weak fun σ H Q => by
 rintro ⟨ρ,rel,q⟩
 refine goV rel q fun dx ρ1 x H1 rel1 st1 fx q1 => ?_
 cases dx with
 | int i =>
  simp only [Fz] at fx
  exact ⟨i,fx,q1.now rel1⟩
 | _ => exact q1.elim
def zuS (K : PySem.W.Frag) : V -> Option Int -> Option Int -> Hp -> VK -> Prop := fun x lo hi H Q => ∃ dx d,Tp K H dx x /\ zmJ dx lo hi = .ok d /\ ∀ v H',zaY H H' -> Fz K H' d v -> Q v H'
theorem zoZ {p2 : Pos} (hr : SlR X (zuS X.K)) (he : PV K X a f) (hl : PVO K X lo fl) (hu : PVO K X hi fh) : PV K X (.Subscript a (.Slice lo hi none p2) pos) (eSl f fl fh) := fun hK => by
 subst hK
 exact (zpb hr (he rfl) (hl rfl) (hu rfl)).weak fun σ H Q => by
  rintro ⟨ρ,rel,q⟩
  refine goV rel q fun dx ρ1 x H1 rel1 st1 fx q1 => goO rel1 q1 fun l ρ2 H2 rel2 st2 q2 => goO rel2 q2 fun u ρ3 H3 rel3 st3 q3 => ?_
  obtain ⟨d,ed,q4⟩ := q3.zeq
  exact ⟨dx,d,((fx.mono (st2.fzn rel1)).mono (st3.fzn rel2)).tp,ed,fun v H' s fz => q4.new rel3 s v fz⟩
variable {t u : TF}
theorem zdq (hv : zuM X (fun x H Q => ∃ d k,Tp X.K H d x /\ zkZ d = .ok k /\ Q k H)) (h : PV K X a f) (he : ∀ whole,isTrue a X.env whole = (do let v <- whole; standAt a.pos; holding [v] (truthy v)) := by intro _; rfl) : PVT K X a (tE f) := fun hK => by
 subst hK
 intro pins s σ H Q I q
 rw [he]
 obtain ⟨ρ,rel,q⟩ := q
 refine wpAny_bind (thn (h rfl pins s σ H (fun x H' => ∃ d k,Tp X.K H' d x /\ zkZ d = .ok k /\ Q k H') I ?_) fun v s1 ⟨x,H1,I1,r1,q1⟩ => wpAny_bind (wpAny_standAt (wpAny_holding (hv pins s1 σ H1 x v Q I1 r1 q1))))
 refine goV rel q fun dx ρ1 x H1 rel1 st1 fx q1 => ?_
 obtain ⟨d,ed,q2⟩ := q1.zeq
 exact ⟨dx,d,fx.tp,ed,q2.now rel1⟩
theorem goB {te : TE} (hw : ∀ σ H Q,tV K f σ H Q -> te σ H Q) (σ : L2.St) (H : Hp) (Q : Bool -> Hp -> Prop) (q : tT K (tB f) σ H Q) : te σ H fun x H' => ∃ k,x = .bl k /\ Q k H':=by
 obtain ⟨ρ,rel,q⟩ := q
 refine hw σ H _ (goV rel q fun dx ρ1 x H1 rel1 st1 fx q1 => ?_)
 cases dx with
 | bool bb =>
  simp only [Fz] at fx
  exact ⟨bb,fx,q1.now rel1⟩
 | _ => exact q1.elim
theorem zbc {op : CmpOp} {g : D -> D -> R D} (ho : OpR X (compareOp op) (rD X.K g)) (ha : PV K X a f) (hb : PV K X b h) (hm : behindInMarks op b = false) : PVT K X (.Compare a [op] [b] pos) (tB (e2 g f h)) := fun hK => by
 subst hK
 exact (zmX ho (ha rfl) (hb rfl) hm).weak fun σ H Q q => goB (fun σ H Q z => ztJ (fun _ _ _ _ z => z) σ H Q z) σ H Q q
theorem zfc (ha : PVT K X a t) : PVW K X (.BoolOp .Or [a] pos) t := fun hK => zsc (ha hK)
theorem zgy {rest : List Expr} (ha : PVT K X a t) (hb : PVW K X (.BoolOp .Or (b :: rest) pos) u) : PVW K X (.BoolOp .Or (a :: b :: rest) pos) (FL.tOr t u) := fun hK => (zt3 (ha hK) (hb hK)).weak fun σ H Q => by
 rintro ⟨ρ,rel,q⟩
 refine goT rel q fun cb ρ1 H1 rel1 st1 q1 => ?_
 cases cb with
 | true => exact zqe (q1.now rel1)
 | false => exact zqf ⟨ρ1,rel1,q1⟩
theorem PVW.pvt (h : PVW K X a t) : PVT K X a t := fun hK => (h hK).pt
theorem zcS (ha : PVT K X a t) : PVT K X (.UnaryOp .Not a pos) (FL.zeE t) := fun hK => (zsg (ha hK)).weak fun σ H Q => by
 rintro ⟨ρ,rel,q⟩
 exact goT rel q fun cb ρ1 H1 rel1 st1 q1 => q1.now rel1
theorem zmU {op op' : CmpOp} {g g' : D -> D -> R D} (ho : OpR X (compareOp op) (rD X.K g)) (ho' : OpR X (compareOp op') (rD X.K g')) (ha : PV K X a f) (hb : PV K X b h) (hc : PV K X c k)
  (hm : lastMarks [op,op'] [b,c] = false := by with_unfolding_all rfl) : PVT K X (.Compare a [op,op'] [b,c] pos) (tB (zfQ g g' f h k)) := fun hK => by
 subst hK
 exact (zo4 ho ho' (ha rfl) (hb rfl) (hc rfl) hm).weak fun σ H Q q => goB (fun σ H Q z => znL σ H Q z) σ H Q q
end
end FL
namespace FL
open PySem L2 PySem.Spec
open PyProof.Rows hiding St
variable [Cs]
theorem zl6 (x y : Int) (xs ys : List Int) : lexLe (x :: xs) (y :: ys) = if x = y then lexLe xs ys else decide (x <= y) := rfl
theorem ziE : lexLe [] [] = true := rfl
theorem zhA (y : Int) (ys : List Int) : lexLe [] (y :: ys) = true := rfl
theorem zhB (x : Int) (xs : List Int) : lexLe (x :: xs) [] = false := rfl
theorem zmR (A : Around) (s : Shared) (a : Int) (t : Tok) (c : Int) (u : Tok) (prog : Program) (w : World) (E : Value -> Shared -> Prop) (Q : Value -> Shared -> Prop) (h : Q (.bool (decide (a <= c))) s) :
  wpAny (model prog w) A (richCompare .LtE (.int a t) (.int c u)) Q E s :=
 (PyProof.Rows.le_int h : wpAny (model prog w) A (compareOp .LtE (.int a t) (.int c u)) Q E s)
section
open PySem.SeqAt
open PySem.AutoSeq1 (wpAny_loadPart')
open PySem.MeetsSeq PySem.MeetsSeq2 PySem.MeetsSeq3
theorem zii (l b : Addr) (items items2 : Array Value) (n n2 : Nat) (dd dd2 : Option Addr) (sl sl2 : Array (Option Value)) (ns ms : List Int) (hi : IntsAre items.toList ns) (hj : IntsAre items2.toList ms) :
  Meets (Builtin.«tuple.__le__» ⟨[.ref l,.ref b],[]⟩)
   (fun _ R s => s.heap.get? l = some { cls := .type "tuple",dict := dd,data := .seq items n,slots := sl } /\ s.heap.get? b = some { cls := .type "tuple",dict := dd2,data := .seq items2 n2,slots := sl2 } /\
    R (.ok (.ret (.bool (lexLe ns ms)))) s) :=
 .of_wp fun prog w A R s h => by
  obtain ⟨hp,g,d,tk,os⟩ := s; obtain ⟨hl,hb,h⟩ := h
  have f2 := AutoSeq1.sub_tuple_tuple
  have z1 : items.size = ns.length := by rw [<- hi.length]; simp
  have z2 : items2.size = ms.length := by rw [<- hj.length]; simp
  wp_walk using wpAny_loadPart' hl,wpAny_loadPart' hb,wpAny_forIn_list _ (fun rest b s' => b.1 = none /\ s' = ⟨hp,g,d,tk,os⟩ /\ ∃ (vs ws : List Value) (ns' ms' : List Int),rest = vs.zip ws /\
   IntsAre vs ns' /\ IntsAre ws ms' /\ ns'.length + items2.size = ms'.length + items.size /\ R (.ok (.ret (.bool (lexLe ns' ms')))) ⟨hp,g,d,tk,os⟩) _
  case turn =>
   rintro ⟨y,x⟩ rest b s' ⟨hb',rfl,vs,ws,ns',ms',hz,hvi,hwi,hlen,hR⟩
   cases hvi with
   | nil => rw [List.zip_nil_left] at hz; cases hz
   | cons a t hvi' =>
    cases hwi with
    | nil => rw [List.zip_nil_right] at hz; cases hz
    | cons c u hwi' =>
     rw [List.zip_cons_cons] at hz
     injection hz with hyx hrest
     injection hyx with hy hx
     subst hy hx
     rw [zl6] at hR
     simp only [List.length_cons] at hlen
     obtain ⟨e,he,hiff⟩ := HT.zgd A.in1 ⟨hp,g,d,tk,os⟩ a t c u
     refine wpAny_bind (he prog w _ _ ?_)
     cases e with
     | true =>
      rw [if_pos (hiff.mp rfl)] at hR
      wp_walk
      exact ⟨rfl,rfl,_,_,_,_,hrest,hvi',hwi',by omega,hR⟩
     | false =>
      rw [if_neg (fun q => absurd (hiff.mpr q) Bool.false_ne_true)] at hR
      have hri := zmR A.in1 ⟨hp,g,d,tk,os⟩ a t c u prog w
      wp_walk using hri
      exact ⟨_,rfl,by simpa using hR⟩
  case fin =>
   rintro ⟨b1,b2⟩ s' ⟨hb',rfl,vs,ws,ns',ms',hz,hvi,hwi,hlen,hR⟩
   simp only at hb'
   subst hb'
   have hv : lexLe ns' ms' = decide (items.size <= items2.size):=by
    cases hvi with
    | nil =>
     cases hwi with
     | nil =>
      simp only [List.length_nil] at hlen
      rw [ziE]
      exact (decide_eq_true (by omega)).symm
     | cons c u hw =>
      simp only [List.length_nil,List.length_cons] at hlen
      rw [zhA]
      exact (decide_eq_true (by omega)).symm
    | cons a t hv =>
     cases hwi with
     | nil =>
      simp only [List.length_nil,List.length_cons] at hlen
      rw [zhB]
      exact (decide_eq_false (by omega)).symm
     | cons c u hw =>
      rw [List.zip_cons_cons] at hz
      cases hz
   rw [hv] at hR
   wp_walk
   exact ⟨_,rfl,by simpa [Builtin.Tuple.tupleCompareSizes] using hR⟩
  case h =>
   exact ⟨rfl,rfl,items.toList,items2.toList,ns,ms,rfl,hi,hj,by omega,h⟩
end
section
variable {prog : Program} {w : World} {A : Around} {E : Value -> Shared -> Prop} {s : Shared}
theorem zl9 {l b : Addr} {items items2 : Array Value} {ns ms : List Int} {Q : Value -> Shared -> Prop} (hl : IsTup s.heap l items) (hb : IsTup s.heap b items2) (hi : IntsAre items.toList ns) (hj : IntsAre items2.toList ms)
  (hu : A.units < cLine) (h : Q (.bool (lexLe ns ms)) s) : wpAny (model prog w) A (compareOp .LtE (.ref l) (.ref b)) Q E s:=by
 obtain ⟨⟨cls,dd,data,sl⟩,ho,hc,n,hd⟩ := id hl
 obtain ⟨⟨cls2,dd2,data2,sl2⟩,ho2,hc2,n2,hd2⟩ := id hb
 simp only at hc hd hc2 hd2
 subst hc hd hc2 hd2
 exact richCompare_meets_room (op:=.LtE) ⟨_,ho,rfl⟩ ⟨_,ho2,rfl⟩ PySem.F.slot_tuple_le PySem.F.entry_tuple_le (PySem.F.args_tuple_le_2 _ _) (zii l b items items2 n n2 dd dd2 sl sl2 ns ms hi hj)
  ⟨ho,ho2,show Value.bool (lexLe ns ms) ≠ Value.notImplemented /\ Q (.bool (lexLe ns ms)) s from ⟨(fun x => nomatch x),h⟩⟩ hu
end
theorem zl7 (x y : Int) (xs ys : List Int) : zfg (x :: xs) (y :: ys) = if x = y then zfg xs ys else decide (y < x) := rfl
theorem ziF : zfg [] [] = false := rfl
theorem zhC (y : Int) (ys : List Int) : zfg [] (y :: ys) = false := rfl
theorem zhD (x : Int) (xs : List Int) : zfg (x :: xs) [] = true := rfl
theorem zoO (A : Around) (s : Shared) (a : Int) (t : Tok) (c : Int) (u : Tok) (prog : Program) (w : World) (E : Value -> Shared -> Prop) (Q : Value -> Shared -> Prop) (h : Q (.bool (decide (c < a))) s) :
  wpAny (model prog w) A (richCompare .Gt (.int a t) (.int c u)) Q E s :=
 (PyProof.Rows.gt_int h : wpAny (model prog w) A (compareOp .Gt (.int a t) (.int c u)) Q E s)
section
open PySem.SeqAt
open PySem.AutoSeq1 (wpAny_loadPart')
open PySem.MeetsSeq PySem.MeetsSeq2 PySem.MeetsSeq3
theorem zij (l b : Addr) (items items2 : Array Value) (n n2 : Nat) (dd dd2 : Option Addr) (sl sl2 : Array (Option Value)) (ns ms : List Int) (hi : IntsAre items.toList ns) (hj : IntsAre items2.toList ms) :
  Meets (Builtin.«tuple.__gt__» ⟨[.ref l,.ref b],[]⟩)
   (fun _ R s => s.heap.get? l = some { cls := .type "tuple",dict := dd,data := .seq items n,slots := sl } /\ s.heap.get? b = some { cls := .type "tuple",dict := dd2,data := .seq items2 n2,slots := sl2 } /\
    R (.ok (.ret (.bool (zfg ns ms)))) s) :=
 .of_wp fun prog w A R s h => by
  obtain ⟨hp,g,d,tk,os⟩ := s; obtain ⟨hl,hb,h⟩ := h
  have f2 := AutoSeq1.sub_tuple_tuple
  have z1 : items.size = ns.length := by rw [<- hi.length]; simp
  have z2 : items2.size = ms.length := by rw [<- hj.length]; simp
  wp_walk using wpAny_loadPart' hl,wpAny_loadPart' hb,wpAny_forIn_list _ (fun rest b s' => b.1 = none /\ s' = ⟨hp,g,d,tk,os⟩ /\ ∃ (vs ws : List Value) (ns' ms' : List Int),rest = vs.zip ws /\
   IntsAre vs ns' /\ IntsAre ws ms' /\ ns'.length + items2.size = ms'.length + items.size /\ R (.ok (.ret (.bool (zfg ns' ms')))) ⟨hp,g,d,tk,os⟩) _
  case turn =>
   rintro ⟨y,x⟩ rest b s' ⟨hb',rfl,vs,ws,ns',ms',hz,hvi,hwi,hlen,hR⟩
   cases hvi with
   | nil => rw [List.zip_nil_left] at hz; cases hz
   | cons a t hvi' =>
    cases hwi with
    | nil => rw [List.zip_nil_right] at hz; cases hz
    | cons c u hwi' =>
     rw [List.zip_cons_cons] at hz
     injection hz with hyx hrest
     injection hyx with hy hx
     subst hy hx
     rw [zl7] at hR
     simp only [List.length_cons] at hlen
     obtain ⟨e,he,hiff⟩ := HT.zgd A.in1 ⟨hp,g,d,tk,os⟩ a t c u
     refine wpAny_bind (he prog w _ _ ?_)
     cases e with
     | true =>
      rw [if_pos (hiff.mp rfl)] at hR
      wp_walk
      exact ⟨rfl,rfl,_,_,_,_,hrest,hvi',hwi',by omega,hR⟩
     | false =>
      rw [if_neg (fun q => absurd (hiff.mpr q) Bool.false_ne_true)] at hR
      have hri := zoO A.in1 ⟨hp,g,d,tk,os⟩ a t c u prog w
      wp_walk using hri
      exact ⟨_,rfl,by simpa using hR⟩
  case fin =>
   rintro ⟨b1,b2⟩ s' ⟨hb',rfl,vs,ws,ns',ms',hz,hvi,hwi,hlen,hR⟩
   simp only at hb'
   subst hb'
   have hv : zfg ns' ms' = decide (items2.size < items.size):=by
    cases hvi with
    | nil =>
     cases hwi with
     | nil =>
      simp only [List.length_nil] at hlen
      rw [ziF]
      exact (decide_eq_false (by omega)).symm
     | cons c u hw =>
      simp only [List.length_nil,List.length_cons] at hlen
      rw [zhC]
      exact (decide_eq_false (by omega)).symm
    | cons a t hv =>
     cases hwi with
     | nil =>
      simp only [List.length_nil,List.length_cons] at hlen
      rw [zhD]
      exact (decide_eq_true (by omega)).symm
     | cons c u hw =>
      rw [List.zip_cons_cons] at hz
      cases hz
   rw [hv] at hR
   wp_walk
   exact ⟨_,rfl,by simpa [Builtin.Tuple.tupleCompareSizes] using hR⟩
  case h =>
   exact ⟨rfl,rfl,items.toList,items2.toList,ns,ms,rfl,hi,hj,by omega,h⟩
end
section
variable {prog : Program} {w : World} {A : Around} {E : Value -> Shared -> Prop} {s : Shared}
theorem zmj {l b : Addr} {items items2 : Array Value} {ns ms : List Int} {Q : Value -> Shared -> Prop} (hl : IsTup s.heap l items) (hb : IsTup s.heap b items2) (hi : IntsAre items.toList ns) (hj : IntsAre items2.toList ms)
  (hu : A.units < cLine) (h : Q (.bool (zfg ns ms)) s) : wpAny (model prog w) A (compareOp .Gt (.ref l) (.ref b)) Q E s:=by
 obtain ⟨⟨cls,dd,data,sl⟩,ho,hc,n,hd⟩ := id hl
 obtain ⟨⟨cls2,dd2,data2,sl2⟩,ho2,hc2,n2,hd2⟩ := id hb
 simp only at hc hd hc2 hd2
 subst hc hd hc2 hd2
 exact richCompare_meets_room (op:=.Gt) ⟨_,ho,rfl⟩ ⟨_,ho2,rfl⟩ PySem.F.slot_tuple_gt PySem.F.entry_tuple_gt (PySem.F.args_tuple_gt_2 _ _) (zij l b items items2 n n2 dd dd2 sl sl2 ns ms hi hj)
  ⟨ho,ho2,show Value.bool (zfg ns ms) ≠ Value.notImplemented /\ Q (.bool (zfg ns ms)) s from ⟨(fun x => nomatch x),h⟩⟩ hu
end
theorem zl8 (x y : Int) (xs ys : List Int) : zfh (x :: xs) (y :: ys) = if x = y then zfh xs ys else decide (y <= x) := rfl
theorem ziG : zfh [] [] = true := rfl
theorem zhE (y : Int) (ys : List Int) : zfh [] (y :: ys) = false := rfl
theorem zhF (x : Int) (xs : List Int) : zfh (x :: xs) [] = true := rfl
theorem zmS (A : Around) (s : Shared) (a : Int) (t : Tok) (c : Int) (u : Tok) (prog : Program) (w : World) (E : Value -> Shared -> Prop) (Q : Value -> Shared -> Prop) (h : Q (.bool (decide (c <= a))) s) :
  wpAny (model prog w) A (richCompare .GtE (.int a t) (.int c u)) Q E s :=
 (PyProof.Rows.ge_int h : wpAny (model prog w) A (compareOp .GtE (.int a t) (.int c u)) Q E s)
section
open PySem.SeqAt
open PySem.AutoSeq1 (wpAny_loadPart')
open PySem.MeetsSeq PySem.MeetsSeq2 PySem.MeetsSeq3
theorem zik (l b : Addr) (items items2 : Array Value) (n n2 : Nat) (dd dd2 : Option Addr) (sl sl2 : Array (Option Value)) (ns ms : List Int) (hi : IntsAre items.toList ns) (hj : IntsAre items2.toList ms) :
  Meets (Builtin.«tuple.__ge__» ⟨[.ref l,.ref b],[]⟩)
   (fun _ R s => s.heap.get? l = some { cls := .type "tuple",dict := dd,data := .seq items n,slots := sl } /\ s.heap.get? b = some { cls := .type "tuple",dict := dd2,data := .seq items2 n2,slots := sl2 } /\
    R (.ok (.ret (.bool (zfh ns ms)))) s) :=
 .of_wp fun prog w A R s h => by
  obtain ⟨hp,g,d,tk,os⟩ := s; obtain ⟨hl,hb,h⟩ := h
  have f2 := AutoSeq1.sub_tuple_tuple
  have z1 : items.size = ns.length := by rw [<- hi.length]; simp
  have z2 : items2.size = ms.length := by rw [<- hj.length]; simp
  wp_walk using wpAny_loadPart' hl,wpAny_loadPart' hb,wpAny_forIn_list _ (fun rest b s' => b.1 = none /\ s' = ⟨hp,g,d,tk,os⟩ /\ ∃ (vs ws : List Value) (ns' ms' : List Int),rest = vs.zip ws /\
   IntsAre vs ns' /\ IntsAre ws ms' /\ ns'.length + items2.size = ms'.length + items.size /\ R (.ok (.ret (.bool (zfh ns' ms')))) ⟨hp,g,d,tk,os⟩) _
  case turn =>
   rintro ⟨y,x⟩ rest b s' ⟨hb',rfl,vs,ws,ns',ms',hz,hvi,hwi,hlen,hR⟩
   cases hvi with
   | nil => rw [List.zip_nil_left] at hz; cases hz
   | cons a t hvi' =>
    cases hwi with
    | nil => rw [List.zip_nil_right] at hz; cases hz
    | cons c u hwi' =>
     rw [List.zip_cons_cons] at hz
     injection hz with hyx hrest
     injection hyx with hy hx
     subst hy hx
     rw [zl8] at hR
     simp only [List.length_cons] at hlen
     obtain ⟨e,he,hiff⟩ := HT.zgd A.in1 ⟨hp,g,d,tk,os⟩ a t c u
     refine wpAny_bind (he prog w _ _ ?_)
     cases e with
     | true =>
      rw [if_pos (hiff.mp rfl)] at hR
      wp_walk
      exact ⟨rfl,rfl,_,_,_,_,hrest,hvi',hwi',by omega,hR⟩
     | false =>
      rw [if_neg (fun q => absurd (hiff.mpr q) Bool.false_ne_true)] at hR
      have hri := zmS A.in1 ⟨hp,g,d,tk,os⟩ a t c u prog w
      wp_walk using hri
      exact ⟨_,rfl,by simpa using hR⟩
  case fin =>
   rintro ⟨b1,b2⟩ s' ⟨hb',rfl,vs,ws,ns',ms',hz,hvi,hwi,hlen,hR⟩
   simp only at hb'
   subst hb'
   have hv : zfh ns' ms' = decide (items2.size <= items.size):=by
    cases hvi with
    | nil =>
     cases hwi with
     | nil =>
      simp only [List.length_nil] at hlen
      rw [ziG]
      exact (decide_eq_true (by omega)).symm
     | cons c u hw =>
      simp only [List.length_nil,List.length_cons] at hlen
      rw [zhE]
      exact (decide_eq_false (by omega)).symm
    | cons a t hv =>
     cases hwi with
     | nil =>
      simp only [List.length_nil,List.length_cons] at hlen
      rw [zhF]
      exact (decide_eq_true (by omega)).symm
     | cons c u hw =>
      rw [List.zip_cons_cons] at hz
      cases hz
   rw [hv] at hR
   wp_walk
   exact ⟨_,rfl,by simpa [Builtin.Tuple.tupleCompareSizes] using hR⟩
  case h =>
   exact ⟨rfl,rfl,items.toList,items2.toList,ns,ms,rfl,hi,hj,by omega,h⟩
end
section
variable {prog : Program} {w : World} {A : Around} {E : Value -> Shared -> Prop} {s : Shared}
theorem zmk {l b : Addr} {items items2 : Array Value} {ns ms : List Int} {Q : Value -> Shared -> Prop} (hl : IsTup s.heap l items) (hb : IsTup s.heap b items2) (hi : IntsAre items.toList ns) (hj : IntsAre items2.toList ms)
  (hu : A.units < cLine) (h : Q (.bool (zfh ns ms)) s) : wpAny (model prog w) A (compareOp .GtE (.ref l) (.ref b)) Q E s:=by
 obtain ⟨⟨cls,dd,data,sl⟩,ho,hc,n,hd⟩ := id hl
 obtain ⟨⟨cls2,dd2,data2,sl2⟩,ho2,hc2,n2,hd2⟩ := id hb
 simp only at hc hd hc2 hd2
 subst hc hd hc2 hd2
 exact richCompare_meets_room (op:=.GtE) ⟨_,ho,rfl⟩ ⟨_,ho2,rfl⟩ PySem.F.slot_tuple_ge PySem.F.entry_tuple_ge (PySem.F.args_tuple_ge_2 _ _) (zik l b items items2 n n2 dd dd2 sl sl2 ns ms hi hj)
  ⟨ho,ho2,show Value.bool (zfh ns ms) ≠ Value.notImplemented /\ Q (.bool (zfh ns ms)) s from ⟨(fun x => nomatch x),h⟩⟩ hu
end
end FL
namespace FL
open PySem L2 PySem.Spec
open PyProof.Rows hiding St
variable [Cs]
section
variable {K : PySem.W.Frag} {H : Hp}
mutual
theorem Fz.is : ∀ (d : PyData) (v : V),PyData.canLay0 d = true -> Fz K H d v -> Is K H d v
 | .none,v,_,h => by simp only [Fz] at h; simp only [Is]; exact h
 | .bool b,v,_,h => by simp only [Fz] at h; simp only [Is]; exact h
 | .int i,v,_,h => by simp only [Fz] at h; simp only [Is]; exact h
 | .str x,v,_,h => by simp only [Fz] at h; simp only [Is]; exact h
 | .list xs,v,c,h => by
  simp only [Fz] at h; simp only [Is]
  obtain ⟨a,vs,e1,h1,h2⟩ := h
  exact ⟨a,vs,e1,h1.sq,zak.is xs vs c h2⟩
 | .tuple xs,v,c,h => by
  simp only [Fz] at h; simp only [Is]
  obtain ⟨a,vs,e1,h1,h2⟩ := h
  exact ⟨a,vs,e1,.inl h1,zak.is xs vs c h2⟩
 | .dict kvs,v,c,h => by simp [PyData.canLay0] at c
theorem zak.is : ∀ (ds : List PyData) (vs : List V),PyData.canLayAll0 ds = true -> zak K H ds vs -> zfw K H ds vs
 | [],vs,_,h => by simp only [zak] at h; simp only [zfw]; exact h
 | d :: ds,vs,c,h => by
  simp only [PyData.canLayAll0,Bool.and_eq_true] at c
  simp only [zak] at h; simp only [zfw]
  obtain ⟨v,r,e1,h1,h2⟩ := h
  exact ⟨v,r,e1,Fz.is d v c.1 h1,zak.is ds r c.2 h2⟩
end
theorem Tp.is {d : PyData} {v : V} (c : PyData.canLay0 d = true) (h : Tp K H d v) : Is K H d v:=by
 cases d with
 | list ds =>
  obtain ⟨a,vs,e,h1,h2⟩ := h
  simp only [Is]
  exact ⟨a,vs,e,h1,zak.is ds vs c h2⟩
 | dict kvs => simp [PyData.canLay0] at c
 | none => exact Fz.is _ _ c h
 | bool b => exact Fz.is _ _ c h
 | int b => exact Fz.is _ _ c h
 | str b => exact Fz.is _ _ c h
 | tuple b => exact Fz.is _ _ c h
theorem Tp.int {i : Int} {v : V} (h : Tp K H (.int i) v) : v = .int i := by simpa [Tp,Fz] using h
theorem Tp.bool {i : Bool} {v : V} (h : Tp K H (.bool i) v) : v = .bl i := by simpa [Tp,Fz] using h
theorem Tp.none {v : V} (h : Tp K H .none v) : v = .non := by simpa [Tp,Fz] using h
theorem Tp.zu8 {ds : List PyData} {v : V} (h : Tp K H (.tuple ds) v) : ∃ a vs,v = .ref a /\ TAt H a vs /\ zak K H ds vs := by simpa [Tp,Fz] using h
theorem Tp.tup {ds : List PyData} {v : V} (h : Tp K H (.tuple ds) v) : ∃ a vs,v = .ref a /\ SqT K H a vs /\ zak K H ds vs :=
 let ⟨a,vs,x,y,z⟩ := Tp.zu8 h
 ⟨a,vs,x,.inl y,z⟩
theorem Tp.lst {ds : List PyData} {v : V} (h : Tp K H (.list ds) v) : ∃ a vs,v = .ref a /\ SqL K H a vs /\ zak K H ds vs := h
theorem zck (i : Int) : Fz K H (.int i) (.int i) := by simp [Fz]
theorem ziU (i : Bool) : Fz K H (.bool i) (.bl i) := by simp [Fz]
theorem zlA {a : Addr} {vs : List V} {ds : List PyData} (h : TAt H a vs) (f : zak K H ds vs) : Fz K H (.tuple ds) (.ref a) := by simp only [Fz]; exact ⟨a,vs,rfl,h,f⟩
theorem zak.atI {ds : List PyData} {vs : List V} {i : Int} {d : PyData} (h : zak K H ds vs) (e : FL.atI ds i = some d) : ∃ v,L2.atI vs i = some v /\ Fz K H d v:=by
 unfold FL.atI at e
 cases en : FL.ixN ds.length i with
 | none => rw [en] at e; cases e
 | some j =>
  rw [en] at e
  obtain ⟨v,e1,f⟩ := h.get (show ds[j]? = some d from e)
  refine ⟨v,?_,f⟩
  unfold L2.atI
  rw [h.len,show L2.ixN ds.length i = some j from en]
  exact e1
theorem zak.cut {ds : List PyData} {vs : List V} (h : zak K H ds vs) (lo hi : Option Int) : zak K H (FL.cut ds lo hi) (zpI vs lo hi):=by
 unfold FL.cut zpI
 rw [h.len]
 exact (h.drop _).take _
end
theorem zbi {α : Type} {c : Bool} {r : R α} {d : α} (h : chk c r = .ok d) : c = true /\ r = .ok d:=by
 cases c with
 | true => exact ⟨rfl,h⟩
 | false => exact nomatch (show (R.bad : R α) = .ok d from h)
section
variable {X : Cx}
theorem zlD {pins : List (Addr × Obj)} {σ : L2.St} {s : Shared} {H : Hp} {Q : VK} {w : Value} {ds : List D} {vs : List V} (f : zak X.K H ds vs) (q : ∀ v H',zaY H H' -> Fz X.K H' (.list ds) v -> Q v H')
  (h : EP X pins σ (fun v H1 => ∃ p,v = .ref p /\ H p = none /\ H1 = upd H p (.lst vs)) w s) : EP X pins σ Q w s:=by
 obtain ⟨v,H1,I,r,p,rfl,hp,rfl⟩ := h
 refine zta ⟨.ref p,_,I,r,p,.lst vs,rfl,zas,trivial,fun o => ?_⟩
 rw [zgm]
 refine q _ _ (zaY.upd hp) ?_
 simp only [Fz]
 exact ⟨p,vs,rfl,.inl ⟨o,zas⟩,f.mono (Fzn.of (zaY.upd hp))⟩
theorem zbY : OpR X (binaryOp .Add) (rD X.K zba):=by
 intro pins s σ H x y v u Q I rx ry h
 obtain ⟨dx,dy,d,tx,ty,e,q⟩ := h
 cases dx with
 | int i =>
  cases dy with
  | int j => cases e; exact zsD pins s σ H x y v u Q I rx ry ⟨i,j,tx.int,ty.int,q _ H (zaY.refl _) (zck _)⟩
  | _ => exact nomatch (show (R.bad : R D) = .ok d from e)
 | list a =>
  cases dy with
  | list b =>
   obtain ⟨c,e⟩ := zbi (show chk (leB (a.length + b.length) lim) (.ok (.list (a ++ b))) = .ok d from e)
   ·cases e
    obtain ⟨l,xs,rfl,sx,fx⟩ := tx.lst
    obtain ⟨m,ys,rfl,sy,fy⟩ := ty.lst
    cases rx
    cases ry
    obtain ⟨its,r1,⟨o,n,ho,hc,hdn,hd⟩,z1⟩ := I.list sx
    obtain ⟨its2,r2,⟨o2,n2,ho2,hc2,hdn2,hd2⟩,z2⟩ := I.list sy
    obtain ⟨cls,dd,data,sl⟩ := o
    obtain ⟨cls2,dd2,data2,sl2⟩ := o2
    simp only at hc hd hc2 hd2 hdn hdn2
    subst hc hd hc2 hd2 hdn hdn2
    have hz : its.length + its2.length <= sizeLine:=by
     have := zjB c
     have l0 := zcr
     rw [<- r1.length,<- r2.length,fx.len,fy.len]
     omega
    refine thn (concat_meets (Q:=EP X pins σ fun v H1 => ∃ p,v = .ref p /\ H p = none /\ H1 = upd H p (.lst (xs ++ ys))) ⟨_,ho,rfl⟩ ⟨_,ho2,rfl⟩ PySem.noFill_list_add PySem.seq_list_add PySem.F.slot_list_add PySem.F.entry_list_add (PySem.F.args_list_add_2 _ _)
     (list_addW l m its.toArray its2.toArray n n2 none none sl sl2 (by rw [List.size_toArray,List.size_toArray]; exact hz)) ⟨ho,ho2,?_⟩) fun _ _ z => zlD (fx.app fy) q z
    have ea : its.toArray ++ its2.toArray = (its ++ its2).toArray := by simp
    rw [ea]
    exact ⟨.ref _,_,I.zvC (t' := s.toks) (r1.append r2) (by rw [List.length_append,r1.length,r2.length]; exact hz),rfl,_,rfl,I.fresh,rfl⟩
  | _ => exact nomatch (show (R.bad : R D) = .ok d from e)
 | tuple a =>
  cases dy with
  | tuple b =>
   obtain ⟨c,e⟩ := zbi (show chk (leB (a.length + b.length) lim) (.ok (.tuple (a ++ b))) = .ok d from e)
   ·cases e
    obtain ⟨l,xs,rfl,sx,fx⟩ := tx.tup
    obtain ⟨m,ys,rfl,sy,fy⟩ := ty.tup
    have hz : xs.length + ys.length <= sizeLine:=by
     have := zjB c
     have l0 := zcr
     rw [fx.len,fy.len]
     omega
    by_cases x0 : xs = []
    ·subst x0
     have a0 : a = [] := by have := fx.len; cases a with | nil => rfl | cons _ _ => simp at this
     subst a0
     cases rx
     cases ry
     obtain ⟨its,r1,p1,z1⟩ := I.tuple sx
     obtain ⟨its2,r2,p2,z2⟩ := I.tuple sy
     cases r1
     obtain ⟨⟨cls,dd,data,sl⟩,ho,hc,n,hd⟩ := id p1
     obtain ⟨⟨cls2,dd2,data2,sl2⟩,ho2,hc2,n2,hd2⟩ := id p2
     simp only at hc hd hc2 hd2
     subst hc hd hc2 hd2
     exact concat_meets ⟨_,ho,rfl⟩ ⟨_,ho2,rfl⟩ noFill_tuple_add seq_tuple_add PySem.F.slot_tuple_add PySem.F.entry_tuple_add (PySem.F.args_tuple_add_2 _ _)
      (tuple_addW0 l m #[] its2.toArray n n2 dd dd2 sl sl2 rfl) ⟨ho,ho2,⟨.ref m,H,I.tok _,rfl,q _ H (zaY.refl _) ty⟩⟩
    ·exact zrd pins s σ H _ _ v u Q I rx ry ⟨l,m,xs,ys,rfl,rfl,sx,sy,x0,hz,fun y0 => by
      subst y0
      have b0 : b = [] := by have := fy.len; cases b with | nil => rfl | cons _ _ => simp at this
      subst b0
      rw [List.append_nil] at q
      exact q _ H (zaY.refl _) tx,fun _ p hp => q _ _ (zaY.upd hp) (zlA (.inl zas) ((fx.app fy).mono (Fzn.of (zaY.upd hp))))⟩
  | _ => exact nomatch (show (R.bad : R D) = .ok d from e)
 | _ => exact nomatch (show (R.bad : R D) = .ok d from e)
theorem zph {f : Value -> Value -> Sem Value} {C : Int -> Int -> Prop} {g : Int -> Int -> Int} {c : Int -> Int -> Bool} {G : D -> D -> R D} (ho : OpR X f (rI C fun i j => .int (g i j))) (hC : ∀ i j,c i j = true -> C i j)
  (hG : ∀ dx dy d,G dx dy = .ok d -> ∃ i j,dx = .int i /\ dy = .int j /\ c i j = true /\ d = .int (g i j)) : OpR X f (rD X.K G):=by
 intro pins s σ H x y v u Q I rx ry h
 obtain ⟨dx,dy,d,tx,ty,e,q⟩ := h
 obtain ⟨i,j,rfl,rfl,cc,rfl⟩ := hG _ _ _ e
 exact ho pins s σ H x y v u Q I rx ry ⟨i,j,tx.int,ty.int,hC i j cc,q _ H (zaY.refl _) (zck _)⟩
theorem zpB {c : Int -> Int -> Bool} {g : Int -> Int -> Int} {G : D -> D -> R D} (h : ∀ i j,G (.int i) (.int j) = chk (c i j) (.ok (.int (g i j)))) (h0 : ∀ dx dy,(¬ ∃ i j,dx = .int i /\ dy = .int j) -> G dx dy = .bad) :
  ∀ dx dy d,G dx dy = .ok d -> ∃ i j,dx = .int i /\ dy = .int j /\ c i j = true /\ d = .int (g i j):=by
 intro dx dy d e
 by_cases k : ∃ i j,dx = .int i /\ dy = .int j
 ·obtain ⟨i,j,rfl,rfl⟩ := k
  rw [h] at e
  obtain ⟨cc,e⟩ := zbi e
  cases e
  exact ⟨i,j,rfl,rfl,cc,rfl⟩
 ·rw [h0 _ _ k] at e; cases e
theorem zhP {dx dy : D} {G : D -> D -> R D} (hb : ∀ dx dy,(∀ i,dx ≠ .int i) -> G dx dy = .bad) (hb2 : ∀ i dy,(∀ j,dy ≠ .int j) -> G (.int i) dy = .bad) (h : ¬ ∃ i j,dx = .int i /\ dy = .int j) : G dx dy = .bad:=by
 cases dx with
 | int i => exact hb2 i dy fun j e => h ⟨i,j,rfl,e⟩
 | _ => exact hb _ _ fun i e => nomatch e
theorem zm9 : OpR X (binaryOp .Sub) (rD X.K zf7) := zph (C:=fun _ _ => True) (c:=fun _ _ => true) (g:=fun i j => i - j)
 (fun pins s σ H x y v u Q I rx ry ⟨i,j,e1,e2,_,q⟩ => zsx pins s σ H x y v u Q I rx ry ⟨i,j,e1,e2,q⟩) (fun _ _ _ => trivial)
 (zpB (fun _ _ => rfl) fun dx dy h => zhP (fun dx dy h => by cases dx <;> first | rfl | exact absurd rfl (h _)) (fun i dy h => by cases dy <;> first | rfl | exact absurd rfl (h _)) h)
theorem zpo {i j : Int} (h : zng i j = true) : IntMulOk i j:=by
 have := zjB h
 have b : ∀ k : Int,k.natAbs < 2 ^ (k.natAbs.log2 + 1) := fun k => Nat.lt_log2_self
 exact mulOk_of (a:=i.natAbs.log2 + 1) (b:=j.natAbs.log2 + 1) (b i) (b j) (by omega)
theorem zds : OpR X (binaryOp .FloorDiv) (rD X.K zaS) := zph (C:=fun _ j => j ≠ 0 /\ j.natAbs.log2 < 9000) (c:=fun i j => decide (j ≠ 0) && leB (j.natAbs.log2 + 1) 9000) (g:=fun i j => i.fdiv j)
 (opI fun i j _ _ _ _ _ hc q => floordiv_int hc.1 q (.inl (PyProof.noPylong_of_log2 hc.2)))
 (fun i j h => by simp only [Bool.and_eq_true,leB_iff,decide_eq_true_eq] at h; exact ⟨h.1,h.2⟩)
 (zpB (fun _ _ => rfl) fun dx dy h => zhP (fun dx dy h => by cases dx <;> first | rfl | exact absurd rfl (h _)) (fun i dy h => by cases dy <;> first | rfl | exact absurd rfl (h _)) h)
theorem zhw : OpR X (binaryOp .Mod) (rD X.K zeF) := zph (C:=fun _ j => j ≠ 0) (c:=fun i j => decide (j ≠ 0)) (g:=fun i j => i.fmod j) zrc (fun i j h => by simpa using h)
 (zpB (fun _ _ => rfl) fun dx dy h => zhP (fun dx dy h => by cases dx <;> first | rfl | exact absurd rfl (h _)) (fun i dy h => by cases dy <;> first | rfl | exact absurd rfl (h _)) h)
theorem zjt : OpR X (binaryOp .Pow) (rD X.K zhv) := zph (C:=zu7) (c:=fun i j => decide (0 <= j) && leB j.toNat 1000000 && leB i.natAbs 18446744073709551615) (g:=fun i j => i ^ j.toNat) zsy (fun i j h => by simp only [Bool.and_eq_true,decide_eq_true_eq,leB_iff] at h; exact ⟨h.1.1,by omega,by omega⟩)
 (zpB (fun _ _ => rfl) fun dx dy h => zhP (fun dx dy h => by cases dx <;> first | rfl | exact absurd rfl (h _)) (fun i dy h => by cases dy <;> first | rfl | exact absurd rfl (h _)) h)
theorem ztR : UnR X (unaryOp .USub) (rD1 X.K ztG):=by
 intro pins s σ H x v Q I rx h
 obtain ⟨dx,d,tx,e,q⟩ := h
 cases dx with
 | int i => cases e; exact zrS pins s σ H x v Q I rx ⟨i,tx.int,q _ H (zaY.refl _) (zck _)⟩
 | _ => exact nomatch (show (R.bad : R D) = .ok d from e)
theorem ztF (hu : X.A.units + 64 < cLine) : OpR X (compareOp .Eq) (rD X.K eqD):=by
 intro pins s σ H x y v u Q I rx ry h
 obtain ⟨dx,dy,d,tx,ty,e,q⟩ := h
 obtain ⟨c,e⟩ := zbi e
 ·cases e
  simp only [Bool.and_eq_true] at c
  exact zsC hu pins s σ H x y v u Q I rx ry ⟨dx,dy,tx.is (SeqAt.canLay_of_shaped c.1),ty.is (SeqAt.canLay_of_shaped c.2),c.1,c.2,q _ H (zaY.refl _) (ziU _)⟩
theorem zp3 (hu : X.A.units + 64 < cLine) : OpR X (compareOp .NotEq) (rD X.K neD):=by
 intro pins s σ H x y v u Q I rx ry h
 obtain ⟨dx,dy,d,tx,ty,e,q⟩ := h
 obtain ⟨c,e⟩ := zbi e
 ·cases e
  simp only [Bool.and_eq_true] at c
  exact zsz hu pins s σ H x y v u Q I rx ry ⟨dx,dy,tx.is (SeqAt.canLay_of_shaped c.1),ty.is (SeqAt.canLay_of_shaped c.2),c.1,c.2,q _ H (zaY.refl _) (ziU _)⟩
theorem zgb : ∀ a b,FL.lexLt a b = HT.lexLt a b
 | [],[] => rfl
 | [],_ :: _ => rfl
 | _ :: _,[] => rfl
 | x :: xs,y :: ys => by unfold FL.lexLt HT.lexLt; rw [zgb xs ys]
theorem zpi {op : CmpOp} {p : Int -> Int -> Bool} {q : List Int -> List Int -> Bool} (hi : OpR X (compareOp op) (rI0 fun i j => .bl (p i j)))
  (ht : ∀ {s : Shared} {l b : Addr} {items items2 : Array Value} {ns ms : List Int} {Q : Value -> Shared -> Prop},IsTup s.heap l items -> IsTup s.heap b items2 -> IntsAre items.toList ns -> IntsAre items2.toList ms ->
   Q (.bool (q ns ms)) s -> wpAny (model X.prog X.w) X.A (compareOp op (.ref l) (.ref b)) Q X.xe s) : OpR X (compareOp op) (rD X.K (ztk p q)):=by
 intro pins s σ H x y v u Q I rx ry h
 obtain ⟨dx,dy,d,tx,ty,e,k⟩ := h
 cases dx with
 | int i =>
  cases dy with
  | int j => cases e; exact hi pins s σ H x y v u Q I rx ry ⟨i,j,tx.int,ty.int,k _ H (zaY.refl _) (ziU _)⟩
  | _ => exact nomatch (show (R.bad : R D) = .ok d from e)
 | tuple a =>
  cases dy with
  | tuple b =>
   replace e : ((R.of (intsOf a)).bind fun x => (R.of (intsOf b)).bind fun y => R.ok (PyData.bool (q x y))) = .ok d := e
   cases ea : intsOf a with
   | none => rw [ea] at e; cases e
   | some ns =>
    cases eb : intsOf b with
    | none => rw [ea,eb] at e; cases e
    | some ms =>
     rw [ea,eb] at e
     cases e
     obtain ⟨l,xs,rfl,sx,fx⟩ := tx.tup
     obtain ⟨m,ys,rfl,sy,fy⟩ := ty.tup
     cases rx
     cases ry
     obtain ⟨rfl,_⟩ := fx.ints ea
     obtain ⟨rfl,_⟩ := fy.ints eb
     obtain ⟨its,r1,p1,_⟩ := I.tuple sx
     obtain ⟨its2,r2,p2,_⟩ := I.tuple sy
     exact ht p1 p2 (intsAre_of r1) (intsAre_of r2) ⟨.bl (q ns ms),H,I,rfl,k _ H (zaY.refl _) (ziU _)⟩
  | _ => exact nomatch (show (R.bad : R D) = .ok d from e)
 | _ => exact nomatch (show (R.bad : R D) = .ok d from e)
theorem zrM (hu : X.A.units + 64 < cLine) : OpR X (compareOp .Lt) (rD X.K ltD) := zpi zug fun p1 p2 i1 i2 h => HT.zff p1 p2 i1 i2 (by omega) (by rw [<- zgb]; exact h)
theorem zum (hu : X.A.units + 64 < cLine) : OpR X (compareOp .LtE) (rD X.K leD) := zpi zuh fun p1 p2 i1 i2 h => zl9 p1 p2 i1 i2 (by omega) h
theorem zvv (hu : X.A.units + 64 < cLine) : OpR X (compareOp .Gt) (rD X.K gtD) := zpi zui fun p1 p2 i1 i2 h => zmj p1 p2 i1 i2 (by omega) h
theorem zvw (hu : X.A.units + 64 < cLine) : OpR X (compareOp .GtE) (rD X.K geD) := zpi zuj fun p1 p2 i1 i2 h => zmk p1 p2 i1 i2 (by omega) h
theorem zun : OpR X (compareOp .Is) (rD X.K isD) := by
  intro pins s σ H x y v u Q I rx ry h
  obtain ⟨dx, dy, d, tx, ty, e, q⟩ := h
  cases dy with
  | none =>
    refine zsA pins s σ H x y v u Q I rx ry ⟨ty.none, ?_⟩
    have : d = .bool (decide (x = .non)) := by
      cases dx with
      | none => have := tx.none; subst this; cases e; rfl
      | bool b => have := tx.bool; subst this; cases e; rfl
      | int b => have := tx.int; subst this; cases e; rfl
      | str b => have : x = .str b := by simpa [Tp, Fz] using tx
                 subst this; cases e; rfl
      | list b => obtain ⟨_, _, rfl, _⟩ := tx.lst; cases e; rfl
      | tuple b => obtain ⟨_, _, rfl, _⟩ := tx.tup; cases e; rfl
      | dict b => obtain ⟨_, rfl, _⟩ := tx; cases e; rfl
    subst this
    exact q _ H (zaY.refl _) (ziU _)
  | _ => exact nomatch (show (R.bad : R D) = .ok d from e)
theorem zcn : IxR X (rD X.K ixD):=by
 intro value slice pins s σ H x y v u Q I rx ry h hs
 obtain ⟨dx,dy,d,tx,ty,e,q⟩ := h
 cases dx with
 | list a =>
  cases dy with
  | int i =>
   replace e : R.of (FL.atI a i) = .ok d := e
   cases ea : FL.atI a i with
   | none => rw [ea] at e; cases e
   | some d' =>
    rw [ea] at e
    cases e
    obtain ⟨l,xs,rfl,sx,fx⟩ := tx.lst
    obtain ⟨w,ew,fw⟩ := fx.atI ea
    exact zrm value slice pins s σ H _ y v u Q I rx ry ⟨l,xs,i,w,rfl,ty.int,sx,ew,q _ H (zaY.refl _) fw⟩ hs
  | _ => exact nomatch (show (R.bad : R D) = .ok d from e)
 | tuple a =>
  cases dy with
  | int i =>
   replace e : R.of (FL.atI a i) = .ok d := e
   cases ea : FL.atI a i with
   | none => rw [ea] at e; cases e
   | some d' =>
    rw [ea] at e
    cases e
    obtain ⟨l,xs,rfl,sx,fx⟩ := tx.tup
    obtain ⟨w,ew,fw⟩ := fx.atI ea
    exact zsW value slice pins s σ H _ y v u Q I rx ry ⟨l,xs,i,w,rfl,ty.int,sx,ew,q _ H (zaY.refl _) fw⟩ hs
  | _ => exact nomatch (show (R.bad : R D) = .ok d from e)
 | _ => exact nomatch (show (R.bad : R D) = .ok d from e)
theorem zjc : zuM X (fun x H Q => ∃ d k,Tp X.K H d x /\ zkZ d = .ok k /\ Q k H):=by
 intro pins s σ H x v Q I rx h
 obtain ⟨d,k,tx,e,q⟩ := h
 refine zrU pins s σ H x v Q I rx ⟨k,?_,q⟩
 cases d with
 | none => have := tx.none; subst this; cases e; rfl
 | bool b => have := tx.bool; subst this; cases e; rfl
 | int b => have := tx.int; subst this; cases e; rfl
 | list b =>
  obtain ⟨a,vs,rfl,sx,fx⟩ := tx.lst
  cases e
  refine .inl ⟨vs,sx,?_⟩
  have := fx.len
  cases b <;> cases vs <;> simp_all
 | tuple b =>
  obtain ⟨a,vs,rfl,sx,fx⟩ := tx.tup
  cases e
  refine .inr (.inl ⟨vs,sx,?_⟩)
  have := fx.len
  cases b <;> cases vs <;> simp_all
 | _ => exact nomatch (show (R.bad : R Bool) = .ok k from e)
end
end FL
namespace FL
open PySem L2 PySem.Spec
open PyProof.Rows hiding St
variable [Cs]
theorem zfZ : fillsNumberSlot (.type "tuple") "mul" = pure false :=
 PySem.fillsNumberSlot_seq (id:="tuple.__mul__") (r:=some (.builtin "tuple.__rmul__")) PySem.F.slot_tuple_mul.lookup (by decide +kernel) PySem.F.slot_tuple_rmul.lookup (by decide +kernel)
theorem zji : seqRepeat? (.type "tuple") = pure (some (.builtin "tuple.__mul__")):=by
 unfold seqRepeat?
 rw [PySem.seqSlot_of (T:="tuple") (name:="__mul__") (id:="tuple.__mul__") PySem.F.slot_tuple_mul.lookup (by decide +kernel),PySem.seqSlot_of (T:="tuple") (name:="__rmul__") (id:="tuple.__rmul__") PySem.F.slot_tuple_rmul.lookup (by decide +kernel)]
 rfl
section
open PySem.SeqAt
open PySem.AutoSeq1 (wpAny_loadPart')
open PySem.MeetsSeq PySem.MeetsSeq2 PySem.MeetsSeq3
theorem zhJ (a : Int) (t : Tok) (l : Addr) (items : Array Value) (n : Nat) (dd : Option Addr) (sl : Array (Option Value)) :
  Meets (Builtin.«int.__rmul__» ⟨[.int a t,.ref l],[]⟩) (fun _ R s => s.heap.get? l = some { cls := .type "tuple",dict := dd,data := .seq items n,slots := sl } /\ R (.ok (.ret Value.notImplemented)) s) :=
 .of_wp fun prog w A R s h => by obtain ⟨hp,g,d,tk,os⟩ := s; obtain ⟨hl,h⟩ := h; wp_walk; exact ⟨_,rfl,h⟩
theorem zlR (l : Addr) (items : Array Value) (n : Nat) (dd : Option Addr) (sl : Array (Option Value)) (k : Int) (t : Tok) (h0 : items.isEmpty = false) (h1 : 2 <= k) (h2 : k < 2 ^ 62) (h3 : items.size * k.toNat <= sizeLine) :
  Meets (Builtin.«tuple.__mul__» ⟨[.ref l,.int k t],[]⟩) (fun _ R s => s.heap.get? l = some { cls := .type "tuple",dict := dd,data := .seq items n,slots := sl } /\
   R (.ok (.ret (.ref s.heap.objs.size))) { s with heap := s.heap.push { cls := .type "tuple",data := .seq ((List.replicate k.toNat items).foldl (· ++ ·) #[]) } }) :=
 .of_wp fun prog w A R s h => by
  obtain ⟨hp,g,d,tk,os⟩ := s; obtain ⟨hl,h⟩ := h
  have f1 := AutoSeq1.idx_int
  have i0 : (items.size : Int) * k <= (sizeLine : Int):=by
   have e : ((items.size * k.toNat : Nat) : Int) = (items.size : Int) * k := by rw [Int.natCast_mul,Int.toNat_of_nonneg (by omega)]
   rw [<- e]
   exact Int.ofNat_le.mpr h3
  have hA : ¬ (decide (k < -2 ^ 63) || decide (k ≥ 2 ^ 63)) = true:=by
   simp only [Bool.or_eq_true,decide_eq_true_eq,not_or]
   constructor <;> omega
  have hB : ¬ (items.isEmpty || k == 1) = true:=by
   rw [h0]
   simp only [Bool.false_or,beq_iff_eq]
   omega
  have hC : ¬ (decide (k <= 0) || items.isEmpty) = true:=by
   rw [h0]
   simp only [Bool.or_false,decide_eq_true_eq]
   omega
  have sz : (sizeLine : Int) <= 16777216 := by rw [sizeLine_eq]; decide
  have hD : ¬ (items.size : Int) * k > (2 ^ 63 - 1) / 8 := by omega
  have hE : ¬ Builtin.Tuple.tupleTooMany ((items.size : Int) * k) = true:=by
   unfold Builtin.Tuple.tupleTooMany
   simp only [decide_eq_true_eq]
   omega
  have hs : sizeOk (.seq (List.foldl (fun x1 x2 => x1 ++ x2) #[] (List.replicate k.toNat items))):=by
   obtain ⟨its⟩ := items
   have := foldl_rep its k.toNat []
   rw [List.nil_append] at this
   rw [this]
   show (List.replicate k.toNat its).flatten.toArray.size <= sizeLine
   rw [List.size_toArray,len_rep,Nat.mul_comm]
   exact h3
  wp_walk
  rw [if_neg hA]
  wp_walk using wpAny_loadPart' hl
  rw [if_neg hB]
  wp_walk
  rw [if_neg hC]
  wp_walk
  rw [if_neg hD]
  wp_walk
  rw [if_neg (show ¬ (List.foldl (fun x1 x2 => x1 ++ x2) #[] (List.replicate k.toNat items)).size > sizeLine from Nat.not_lt.mpr hs)]
  wp_walk
  exact ⟨_,rfl,h⟩
end
section
variable {prog : Program} {w : World} {A : Around} {E : Value -> Shared -> Prop} {s : Shared}
theorem zkh {t sl : Addr} {items : Array Value} {vl vu : Value} {lo hi : Option Int} {Q : Value -> Shared -> Prop} (ht : IsTup s.heap t items) (hs : s.heap.IsSliceOf sl vl vu .none) (pl : IsPart vl lo) (pu : IsPart vu hi)
  (hw : HT.sIx items.size 0 lo = 0 /\ HT.sIx items.size items.size hi = items.size) (h : Q (.ref t) s) : wpAny (model prog w) A (getItem (.ref t) (.ref sl)) Q E s:=by
 obtain ⟨os,hos,hcs,hds⟩ := id hs
 have hTs : s.TypeIs (.ref sl) "slice" := ⟨os,hos,hcs⟩
 unfold getItem
 try with_reducible refine wpAny_holding ?_
 first | refine wpAny_bind (wpAny_pure ?_) | skip
 refine wpAny_bind (wpAny_sequenceKey ht.typeIs (by decide) ?_)
 refine wpAny_bind (wpAny_callSpecial?_slot (name:=Str.ofString "__getitem__") ht.typeIs PyProof.Rows.slot_tuple_getitem
  (wpAny_call_entry PyProof.Rows.slot_tuple_getitem ht.typeIs entry_tuple_getitem ?_ (args_tuple_getitem _ _)))
 show wpAny _ _ (Builtin.Tuple.tupleItemsOf (.ref t) >>= _) _ _ s
 refine wpAny_bind (tupleItemsOf_ ht ?_)
 refine wpAny_bind (wpAny_typeOf hTs ?_)
 rw [if_pos (by decide)]
 refine wpAny_bind (HT.zda hs pl pu ?_)
 show wpAny _ _ (if (((HT.sIx items.size 0 lo : Nat) : Int) == 0 && (1 : Int) == 1 && (HT.sIx items.size items.size hi - HT.sIx items.size 0 lo) == items.size) = true then _ else _) _ _ s
 rw [hw.1,hw.2,if_pos (by simp)]
 refine wpAny_bind (m:=Builtin.Tuple.tupleIsExact _) ?_
 unfold Builtin.Tuple.tupleIsExact
 refine wpAny_bind (wpAny_typeOf ht.typeIs (wpAny_pure ?_))
 rw [if_pos (by decide)]
 exact wpAny_bind (wpAny_rule (wpAny_bind (wpAny_pure (wpAny_pure ⟨_,rfl,wpAny_pure h⟩))))
end
section
variable {X : Cx}
theorem zcU : OpR X (binaryOp .Mult) (rD X.K zbM):=by
 intro pins s σ H x y v u Q I rx ry h
 obtain ⟨dx,dy,d,tx,ty,e,q⟩ := h
 cases dx with
 | int i =>
  cases dy with
  | int j =>
   obtain ⟨c,e⟩ := zbi (show chk (zng i j) (.ok (.int (i * j))) = .ok d from e)
   cases e
   exact zrb pins s σ H x y v u Q I rx ry ⟨i,j,tx.int,ty.int,zpo c,q _ H (zaY.refl _) (zck _)⟩
  | _ => exact nomatch (show (R.bad : R D) = .ok d from e)
 | tuple a =>
  cases dy with
  | int k =>
   obtain ⟨c,e⟩ := zbi (show chk (!a.isEmpty && leB 2 k.toNat && leB k.toNat 1000000 && leB (a.length * k.toNat) lim) (.ok (.tuple (List.replicate k.toNat a).flatten)) = .ok d from e)
   cases e
   simp only [Bool.and_eq_true,leB_iff] at c
   obtain ⟨⟨⟨c0,c1⟩,c2⟩,c3⟩ := c
   obtain ⟨l,xs,rfl,sx,fx⟩ := tx.tup
   have := ty.int
   subst this
   cases rx
   obtain ⟨t,rfl⟩ := ry
   obtain ⟨its,r1,p1,z1⟩ := I.tuple sx
   obtain ⟨⟨cls,dd,data,sl⟩,ho,hc,n,hd⟩ := id p1
   simp only at hc hd
   subst hc hd
   have hl : its.length = a.length := by rw [<- r1.length,fx.len]
   have hz : its.length * k.toNat <= sizeLine := by rw [hl]; exact Nat.le_trans c3 zcr
   have he : its.toArray.isEmpty = false:=by
    cases its with
    | nil => simp only [List.length_nil] at hl; cases a with | nil => simp at c0 | cons _ _ => simp at hl
    | cons _ _ => rfl
   refine wpAny_binaryOp_repeat_ref (T:="tuple") (U:="int") (by decide) ⟨_,ho,rfl⟩ (fun s' => typeIs_int s' k t) zfZ PySem.F.fills_int_mul PySem.F.slot_int_rmul zji PySem.F.slot_int_index.lookup
    (call_meets PySem.F.slot_int_rmul (typeIs_int s k t) PySem.F.entry_int_rmul (PySem.F.args_int_rmul_2 _ _) (zhJ k t l its.toArray n dd sl)
     ⟨ho,rfl,⟨_,ho,rfl⟩,call_meets PySem.F.slot_tuple_mul ⟨_,ho,rfl⟩ PySem.F.entry_tuple_mul (PySem.F.args_tuple_mul_2 _ _) (zlR l its.toArray n dd sl k t he (by omega) (by omega) (by rw [List.size_toArray]; exact hz)) ⟨ho,?_⟩⟩)
   have en := foldl_rep its k.toNat []
   rw [List.nil_append] at en
   rw [en]
   have hp : H s.heap.objs.size = none := I.hok.fresh (Nat.le_refl _)
   refine ⟨.ref s.heap.objs.size,_,I.laid (t' := s.toks) (o:=.tup (List.replicate k.toNat xs).flatten) (fun b ob q => Heap.get?_push_of_some _ q) (Nat.le_refl _) ⟨by rw [len_rep,Nat.mul_comm,r1.length]; exact hz,_,r1.rep k.toNat,IsTup.new _ _⟩,rfl,
    q _ _ (zaY.upd hp) (zlA (.inl zas) ((fx.rep k.toNat).mono (Fzn.of (zaY.upd hp))))⟩
  | _ => exact nomatch (show (R.bad : R D) = .ok d from e)
 | _ => exact nomatch (show (R.bad : R D) = .ok d from e)
theorem zn2 {α : Type} {ds : List α} {lo hi : Option Int} (h1 : FL.sIx ds.length 0 lo = 0) (h2 : FL.sIx ds.length ds.length hi = ds.length) : FL.cut ds lo hi = ds:=by
 unfold FL.cut
 rw [h1,h2]
 simp
theorem ztX : SlR X (zuS X.K):=by
 intro pins s σ H x v vl vu lo hi sl Q I rx hs pl pu h
 obtain ⟨dx,d,tx,e,q⟩ := h
 cases dx with
 | list a =>
  cases e
  obtain ⟨l,xs,rfl,sx,fx⟩ := tx.lst
  obtain ⟨T,id,h1,h2,h3⟩ := zqG pins s σ H _ v vl vu lo hi sl (fun v H1 => ∃ p,v = .ref p /\ H p = none /\ H1 = upd H p (.lst (zpI xs lo hi))) I rx hs pl pu ⟨l,xs,rfl,sx,fun p hp => ⟨p,rfl,hp,rfl⟩⟩
  exact ⟨T,id,h1,h2,thn h3 fun _ _ z => zlD (fx.cut lo hi) q z⟩
 | tuple a =>
  cases e
  obtain ⟨l,xs,rfl,sx,fx⟩ := tx.tup
  by_cases w : HT.sIx xs.length 0 lo = 0 /\ HT.sIx xs.length xs.length hi = xs.length
  ·cases rx
   obtain ⟨its,r,ht,hz⟩ := I.tuple sx
   have hlen : its.toArray.size = xs.length := by rw [List.size_toArray]; exact r.length.symm
   refine ⟨"tuple",_,PyProof.Rows.slot_tuple_getitem.lookup,ht.typeIs,zkh ht hs pl pu (by rw [hlen]; exact w) ⟨.ref l,H,I,rfl,q _ H (zaY.refl _) ?_⟩⟩
   rw [fx.len] at w
   rw [zn2 w.1 w.2]
   exact tx
  ·exact zr5 pins s σ H _ v vl vu lo hi sl Q I rx hs pl pu ⟨l,xs,rfl,sx,w,fun p hp => q _ _ (zaY.upd hp) (zlA (.inl zas) ((fx.cut lo hi).mono (Fzn.of (zaY.upd hp))))⟩
 | _ => exact nomatch (show (R.bad : R D) = .ok d from e)
end
end FL
namespace FL
open PySem L2 PySem.Spec
open PyProof.Rows hiding St
variable [Cs]
theorem zkY {G : D -> D -> R D} {g : Int -> Int -> D} (hg : ∀ i j,G (.int i) (.int j) = .ok (g i j)) (h0 : ∀ dx dy,(¬ ∃ i j,dx = .int i /\ dy = .int j) -> G dx dy = .bad) {ds : List D} {d : D} (e : two G ds = .ok d) : ∃ i j,ds = [.int i,.int j] /\ d = g i j:=by
 cases ds with
 | nil => exact nomatch (show (R.bad : R D) = .ok d from e)
 | cons x r =>
  cases r with
  | nil => exact nomatch (show (R.bad : R D) = .ok d from e)
  | cons y r =>
   cases r with
   | nil =>
    replace e : G x y = .ok d := e
    by_cases k : ∃ i j,x = .int i /\ y = .int j
    ·obtain ⟨i,j,rfl,rfl⟩ := k
     rw [hg] at e
     cases e
     exact ⟨i,j,rfl,rfl⟩
    ·rw [h0 _ _ k] at e; cases e
   | cons _ _ => exact nomatch (show (R.bad : R D) = .ok d from e)
theorem zoD {ds : List D} {d : D} (e : two zni ds = .ok d) : ∃ i j,ds = [.int i,.int j] /\ d = .int (if j > i then j else i) :=
 zkY (fun _ _ => rfl) (fun dx dy h => zhP (fun dx dy h => by cases dx <;> first | rfl | exact absurd rfl (h _)) (fun i dy h => by cases dy <;> first | rfl | exact absurd rfl (h _)) h) e
theorem zoC {ds : List D} {d : D} (e : two zl3 ds = .ok d) : ∃ i j,ds = [.int i,.int j] /\ d = .int (if j < i then j else i) :=
 zkY (fun _ _ => rfl) (fun dx dy h => zhP (fun dx dy h => by cases dx <;> first | rfl | exact absurd rfl (h _)) (fun i dy h => by cases dy <;> first | rfl | exact absurd rfl (h _)) h) e
section
variable {X : Cx}
def CallD (X : Cx) (f : Value) (g : D -> R D) : Prop := zd6 X f (rD0 X.K g)
theorem CallD.ds {f : Value} {g : D -> R D} (h : CallD X f g) : zd6 X f (rDs X.K (one g)) := fun pins s σ H xs us Q I r ⟨ds,d,fz,e,q⟩ => by
 cases ds with
 | nil => exact nomatch (show (R.bad : R D) = .ok d from e)
 | cons d0 r0 =>
  cases r0 with
  | nil =>
   simp only [zak] at fz
   obtain ⟨v,r',rfl,fv,e2⟩ := fz
   subst e2
   exact h pins s σ H _ us Q I r ⟨v,d0,d,rfl,fv.tp,e,q⟩
  | cons _ _ => exact nomatch (show (R.bad : R D) = .ok d from e)
theorem zg8 : CallD X (.builtin "len") zdf:=by
 intro pins s σ H xs us Q I r h
 obtain ⟨x,dx,d,rfl,tx,e,q⟩ := h
 cases dx with
 | list a => obtain ⟨p,vs,rfl,sx,fx⟩ := tx.lst; cases e; exact zfT pins s σ H _ us Q I r ⟨p,vs,rfl,.inl sx,by rw [fx.len]; exact q _ H (zaY.refl _) (zck _)⟩
 | tuple a => obtain ⟨p,vs,rfl,sx,fx⟩ := tx.tup; cases e; exact zfT pins s σ H _ us Q I r ⟨p,vs,rfl,.inr sx,by rw [fx.len]; exact q _ H (zaY.refl _) (zck _)⟩
 | _ => exact nomatch (show (R.bad : R D) = .ok d from e)
theorem zrE : CallD X (.builtin "abs") zoj:=by
 intro pins s σ H xs us Q I r h
 obtain ⟨x,dx,d,rfl,tx,e,q⟩ := h
 cases dx with
 | int i => have := tx.int; subst this; cases e; exact zpP pins s σ H _ us Q I r ⟨i,rfl,q _ H (zaY.refl _) (zck _)⟩
 | _ => exact nomatch (show (R.bad : R D) = .ok d from e)
theorem zuH (hc : X.calm = true) : CallD X (.builtin "all") ztM:=by
 intro pins s σ H xs us Q I r h
 obtain ⟨x,dx,d,rfl,tx,e,q⟩ := h
 cases dx with
 | list a =>
  obtain ⟨p,vs,rfl,sx,fx⟩ := tx.lst
  replace e : ((R.of (boolsOf a)).bind fun x => R.ok (PyData.bool (x.all id))) = .ok d := e
  cases ea : boolsOf a with
  | none => rw [ea] at e; cases e
  | some ns =>
   rw [ea] at e
   cases e
   obtain ⟨rfl,_⟩ := fx.bools ea
   exact zpO hc pins s σ H _ us Q I r ⟨p,ns,rfl,sx,q _ H (zaY.refl _) (ziU _)⟩
 | _ => exact nomatch (show (R.bad : R D) = .ok d from e)
theorem zqr : CallD X (.type "list") zkt:=by
 intro pins s σ H xs us Q I r h
 obtain ⟨x,dx,d,rfl,tx,e,q⟩ := h
 cases dx with
 | list a =>
  obtain ⟨p,vs,rfl,sx,fx⟩ := tx.lst
  cases e
  exact thn (zfS pins s σ H _ us (fun v H1 => ∃ p,v = .ref p /\ H p = none /\ H1 = upd H p (.lst vs)) I r ⟨p,vs,rfl,.inl sx,fun l hl => ⟨l,rfl,hl,rfl⟩⟩) fun _ _ z => zlD fx q z
 | tuple a =>
  obtain ⟨p,vs,rfl,sx,fx⟩ := tx.tup
  cases e
  exact thn (zfS pins s σ H _ us (fun v H1 => ∃ p,v = .ref p /\ H p = none /\ H1 = upd H p (.lst vs)) I r ⟨p,vs,rfl,.inr sx,fun l hl => ⟨l,rfl,hl,rfl⟩⟩) fun _ _ z => zlD fx q z
 | _ => exact nomatch (show (R.bad : R D) = .ok d from e)
theorem zrD : CallD X (.type "tuple") zmB:=by
 intro pins s σ H xs us Q I r h
 obtain ⟨x,dx,d,rfl,tx,e,q⟩ := h
 cases dx with
 | list a =>
  obtain ⟨p,vs,rfl,sx,fx⟩ := tx.lst
  cases e
  exact zeZ pins s σ H _ us Q I r ⟨p,vs,rfl,.inl ⟨sx,fun l hl => q _ _ (zaY.upd hl) (zlA (.inl zas) (fx.mono (Fzn.of (zaY.upd hl))))⟩⟩
 | tuple a =>
  obtain ⟨p,vs,rfl,sx,fx⟩ := tx.tup
  cases e
  exact zeZ pins s σ H _ us Q I r ⟨p,vs,rfl,.inr ⟨sx,q _ H (zaY.refl _) tx⟩⟩
 | _ => exact nomatch (show (R.bad : R D) = .ok d from e)
theorem ztn (hc : X.calm = true) : zd6 X (.builtin "max") (rDs X.K (two zni)):=by
 intro pins s σ H xs us Q I r h
 obtain ⟨ds,d,fz,e,q⟩ := h
 obtain ⟨i,j,rfl,e2⟩ := zoD e
 ·simp only [zak,Fz] at fz
  obtain ⟨_,_,rfl,rfl,_,_,rfl,rfl,rfl⟩ := fz
  cases e2
  exact zn7 hc pins s σ H _ us Q I r ⟨i,j,rfl,q _ H (zaY.refl _) (zck _)⟩
theorem ztm (hc : X.calm = true) : zd6 X (.builtin "min") (rDs X.K (two zl3)):=by
 intro pins s σ H xs us Q I r h
 obtain ⟨ds,d,fz,e,q⟩ := h
 obtain ⟨i,j,rfl,e2⟩ := zoC e
 ·simp only [zak,Fz] at fz
  obtain ⟨_,_,rfl,rfl,_,_,rfl,rfl,rfl⟩ := fz
  cases e2
  exact zn6 hc pins s σ H _ us Q I r ⟨i,j,rfl,q _ H (zaY.refl _) (zck _)⟩
end
theorem Tp.ty {K : PySem.W.Frag} {H : Hp} {d : D} {x : V} (c : zuP d = true) (h : Tp K H d x) : Ty K H x (.type (tyOf d)) := by
  cases d with
  | none => have := h.none; subst this; exact .non
  | bool b => have := h.bool; subst this; exact .bl b
  | int b => have := h.int; subst this; exact .int b
  | str b => have : x = .str b := by simpa [Tp, Fz] using h
             subst this; exact .str b
  | list b => obtain ⟨_, _, rfl, s, _⟩ := h.lst; exact .lst s
  | tuple b => obtain ⟨_, _, rfl, s, _⟩ := h.tup; exact .tup s
  | dict b => cases c
def zol (T : String) : Prop := ∀ (K : PySem.W.Frag) (d : D),PySem.W.kitOne K (.type (tyOf d)) (.type T) = some (isI T d)
theorem znt {T : String} (h0 : KC.zf1 "NoneType" T = some (isI T .none)) (h1 : ∀ b,KC.zf1 "bool" T = some (isI T (.bool b))) (h2 : ∀ b,KC.zf1 "int" T = some (isI T (.int b))) (h3 : ∀ b,KC.zf1 "str" T = some (isI T (.str b))) (h4 : ∀ b,KC.zf1 "list" T = some (isI T (.list b)))
  (h5 : ∀ b,KC.zf1 "tuple" T = some (isI T (.tuple b))) (h6 : ∀ b,KC.zf1 "dict" T = some (isI T (.dict b))) : zol T := fun K d => by
 cases d with
 | none => exact h0
 | bool b => exact h1 b
 | int b => exact h2 b
 | str b => exact h3 b
 | list b => exact h4 b
 | tuple b => exact h5 b
 | dict b => exact h6 b
theorem zri : zol "int" := znt (by decide +kernel) (fun _ => (by decide +kernel : KC.zf1 "bool" "int" = some (isI "int" (.bool true)))) (fun _ => (by decide +kernel : KC.zf1 "int" "int" = some (isI "int" (.int 0)))) (fun _ => (by decide +kernel : KC.zf1 "str" "int" = some (isI "int" (.str "")))) (fun _ => (by decide +kernel : KC.zf1 "list" "int" = some (isI "int" (.list [])))) (fun _ => (by decide +kernel : KC.zf1 "tuple" "int" = some (isI "int" (.tuple [])))) (fun _ => (by decide +kernel : KC.zf1 "dict" "int" = some (isI "int" (.dict []))))
theorem zpv : zol "bool" := znt (by decide +kernel) (fun _ => (by decide +kernel : KC.zf1 "bool" "bool" = some (isI "bool" (.bool true)))) (fun _ => (by decide +kernel : KC.zf1 "int" "bool" = some (isI "bool" (.int 0)))) (fun _ => (by decide +kernel : KC.zf1 "str" "bool" = some (isI "bool" (.str "")))) (fun _ => (by decide +kernel : KC.zf1 "list" "bool" = some (isI "bool" (.list [])))) (fun _ => (by decide +kernel : KC.zf1 "tuple" "bool" = some (isI "bool" (.tuple [])))) (fun _ => (by decide +kernel : KC.zf1 "dict" "bool" = some (isI "bool" (.dict []))))
theorem kit_tuple : zol "tuple" := znt (by decide +kernel) (fun _ => (by decide +kernel : KC.zf1 "bool" "tuple" = some (isI "tuple" (.bool true)))) (fun _ => (by decide +kernel : KC.zf1 "int" "tuple" = some (isI "tuple" (.int 0)))) (fun _ => (by decide +kernel : KC.zf1 "str" "tuple" = some (isI "tuple" (.str "")))) (fun _ => (by decide +kernel : KC.zf1 "list" "tuple" = some (isI "tuple" (.list [])))) (fun _ => (by decide +kernel : KC.zf1 "tuple" "tuple" = some (isI "tuple" (.tuple [])))) (fun _ => (by decide +kernel : KC.zf1 "dict" "tuple" = some (isI "tuple" (.dict []))))
section
variable {K : PySem.W.Frag} {X : Cx} {a : Expr} {f : EF} {pos : Pos}
theorem zjo {T : String} {tn : Str} {p p2 : Pos} (kt : zol T) (hg : Gl X "isinstance") (hm : X.mg "isinstance" = none) (hg2 : Gl X tn) (hm2 : X.mg tn = none) (hv2 : bootBuiltins tn = some (.type T)) (ha : PV K X a f) (hn : tn ≠ "__name__" := by decide) (hd : (tn == ("__debug__" : Str)) = false := by decide)
  (hs1 : starEach [a,.Name tn p2] X.env = (false,eval a X.env) :: starEach [.Name tn p2] X.env := by rfl) (hs2 : starEach [.Name tn p2] X.env = (false,eval (.Name tn p2) X.env) :: starEach [] X.env := by rfl) (hpl : (backTo pos (starEach [.Name tn p2] X.env)).any (·.1) = false := by rfl) :
  PV K X (.Call (.Name "isinstance" p) [a,.Name tn p2] [] pos) (e1 (zd2 T) f) := fun hK => by
 subst hK
 refine (zlh (x:="isinstance") (id:="isinstance") zpN hg hm KC.Bt.isinstance (zdr (ha rfl) (zdr (zub hg2 hm2 hv2 hn hd) zjr hs2) hs1) (by decide) (by decide) hs1 hpl).weak fun σ H Q => ?_
 rintro ⟨ρ,rel,q⟩
 refine goV rel q fun dx ρ1 x H1 rel1 st1 fx q1 => ?_
 obtain ⟨d,ed,q3⟩ := q1.zeq
 obtain ⟨c,ed⟩ := zbi ed
 cases ed
 exact ⟨x,.ty T,_,_,rfl,(fun z => nomatch z),fx.tp.ty c,kt X.K dx,q3.now rel1 _ (ziU _)⟩
theorem za6 {g : D -> R D} {f : EF} {e : Expr} (h : PV K X e (zal (one g) (zac f zau))) : PV K X e (e1 g f) := fun hK => (h hK).weak fun σ H Q => by
 rintro ⟨ρ,rel,q⟩
 refine ⟨ρ,rel,?_⟩
 have : zal (one g) (zac f zau) ρ = e1 g f ρ:=by
  unfold zal zac zau e1
  cases f ρ with
  | ok x => rfl
  | _ => rfl
 rw [this]
 exact q
end
end FL
namespace FL
open PySem L2 PySem.Spec
open PyProof.Rows hiding St
variable [Cs]
section
variable {K : PySem.W.Frag} {ρ ρ1 : En} {σ : L2.St} {H H1 : Hp} {i : Nat} {d : D}
theorem zgH (h : zaH ρ i = .ok d) : ∃ p,ρ[i]? = some (.ow p d):=by
 unfold zaH at h
 cases e : ρ[i]? with
 | none => rw [e] at h; cases h
 | some x =>
  rw [e] at h
  cases x with
  | ow p c => cases h; exact ⟨p,rfl⟩
  | _ => cases h
theorem Rel.zkc (r : Rel K ρ σ H) (h : zaH ρ i = .ok d) : ∃ a,At ρ σ i a /\ zbq K H a d:=by
 obtain ⟨p,e⟩ := zgH h
 have hl : i < σ.length := by rw [<- r.len]; exact (List.getElem?_eq_some_iff.mp e).1
 have o := r.ok i _ _ e (List.getElem?_eq_getElem hl)
 cases es : σ[i] with
 | none => rw [es] at o; exact o.elim
 | some v =>
  rw [es] at o
  cases v with
  | ref a => exact ⟨a,⟨⟨p,d,e⟩,by rw [List.getElem?_eq_getElem hl,es]⟩,o⟩
  | _ => exact o.elim
theorem Rel.again {a : Addr} (r : Rel K ρ1 σ H1) (h : zaH ρ1 i = .ok d) (at0 : At ρ σ i a) : zbq K H1 a d:=by
 obtain ⟨b,ab,m⟩ := r.zkc h
 have := at0.2.symm.trans ab.2
 cases this
 exact m
theorem Rel.zvt {a : Addr} {o : HO} (r : Rel K ρ σ H) (at0 : At ρ σ i a) (m : zbq K (upd H a o) a d) : Rel K (zbs ρ i d) σ (upd H a o):=by
 obtain ⟨⟨p,c,e⟩,es⟩ := at0
 have hp : zbs ρ i d = ρ.set i (.ow p d) := by unfold zbs; rw [e]
 obtain ⟨u,hu,ow⟩ := r.zbG ⟨i,⟨p,c,e⟩,es⟩
 have f : Fzn H (upd H a o) := fun b w eb st => by
  rw [zay fun z => by subst z; rw [hu] at eb; cases eb; exact ow.zdc st]
  exact eb
 have hl : i < ρ.length := (List.getElem?_eq_some_iff.mp e).1
 rw [hp]
 refine ⟨by rw [List.length_set]; exact r.len,fun j x v e1 e2 => ?_,fun j k b h1 h2 => ?_,r.cst.mono f⟩
 ·by_cases c : i = j
  ·subst c
   rw [List.getElem?_set_self hl] at e1
   cases e1
   rw [es] at e2
   cases e2
   exact m
  ·rw [List.getElem?_set_ne c] at e1
   refine (r.ok j x v e1 e2).mono f fun b e3 ⟨q,dd,e4⟩ => ?_
   subst e3; subst e4
   refine zay fun z => ?_
   subst z
   exact c (r.sep i j b ⟨⟨p,_,e⟩,es⟩ ⟨⟨q,dd,e1⟩,e2⟩)
 ·have w : ∀ j b,At (ρ.set i (.ow p d)) σ j b -> At ρ σ j b := fun j b ⟨⟨q,dd,e1⟩,e2⟩ => by
   by_cases c : i = j
   ·subst c; exact ⟨⟨p,_,e⟩,e2⟩
   ·rw [List.getElem?_set_ne c] at e1; exact ⟨⟨q,dd,e1⟩,e2⟩
  exact r.sep j k b (w _ _ h1) (w _ _ h2)
theorem zk4 {a : Addr} {o : HO} (at0 : At ρ σ i a) : Stp ρ (zbs ρ i d) σ H (upd H a o):=by
 obtain ⟨⟨p,c,e⟩,es⟩ := at0
 have hp : zbs ρ i d = ρ.set i (.ow p d) := by unfold zbs; rw [e]
 have hl : i < ρ.length := (List.getElem?_eq_some_iff.mp e).1
 rw [hp]
 refine ⟨fun j q => ?_,fun b w eb n => ?_⟩
 ·by_cases c : i = j
  ·subst c
   rw [List.getElem?_set_self hl,e]
   constructor
   ·rintro ⟨_,z⟩; cases z; exact ⟨_,rfl⟩
   ·rintro ⟨_,z⟩; cases z; exact ⟨_,rfl⟩
  ·rw [List.getElem?_set_ne c]
 ·rw [zay fun z => by subst z; exact n ⟨i,⟨p,c,e⟩,es⟩]
  exact eb
end
section
variable {K : PySem.W.Frag} {X : Cx} {a b c : Expr} {f h k : EF} {pos : Pos}
theorem zvG {g : D -> R D} {i : Nat} {r : List V -> Hp -> VK -> Prop} (hr : ∀ xs H Q,rD0 K g xs H Q -> r xs H Q) (σ : L2.St) (H : Hp) (Q : VK) (q : tV K (m1 g i) σ H Q) : tCB r (zr1 (zkb i) zuQ) σ H Q:=by
 obtain ⟨ρ,rel,q⟩ := q
 obtain ⟨d,ed,q1⟩ := q.zeq
 obtain ⟨x,ex,q2⟩ := q1.zeq
 obtain ⟨ad,at0,m⟩ := rel.zkc ed
 exact ⟨.ref ad,at0.2,hr _ _ _ ⟨.ref ad,d,x,rfl,m.tp,ex,fun v H' s fz => q2.new rel s v fz⟩⟩
theorem zse {x y : Str} {T : String} {g : D -> R D} {p py : Pos} (i : Nat) (hc : CallD X (.type T) g) (hg : Gl X x) (hm : X.mg x = none) (hv : bootBuiltins x = some (.type T)) (ha : PE X (.Name y py) (zkb i)) (hn : x ≠ "__name__" := by decide) (hdb : (x == ("__debug__" : Str)) = false := by decide) :
  PV K X (.Call (.Name x p) [.Name y py] [] pos) (m1 g i) := fun hK => by
 subst hK
 exact (zjq hc hg hm hv (zdr ha zjr) hn hdb).weak fun σ H Q q => zvG (fun _ _ _ z => z) σ H Q q
theorem zvF {g : D -> D -> R D} {i : Nat} {r : R2} (hr : ∀ x y H Q,rD K g x y H Q -> r x y H Q) (σ : L2.St) (H : Hp) (Q : VK) (q : tV K (m2 g i h) σ H Q) : tOp r (zkb i) (tV K h) σ H Q:=by
 obtain ⟨ρ,rel,q⟩ := q
 obtain ⟨d,ed,q1⟩ := q.zeq
 obtain ⟨ad,at0,m⟩ := rel.zkc ed
 refine ⟨.ref ad,at0.2,goV rel q1 fun dy ρ1 y H1 rel1 st1 fy q2 => ?_⟩
 obtain ⟨d2,ed2,q3⟩ := q2.zeq
 obtain ⟨x,ex,q4⟩ := q3.zeq
 exact hr _ _ _ _ ⟨d2,dy,x,(rel1.again ed2 at0).tp,fy.tp,ex,fun v H' s fz => q4.new rel1 s v fz⟩
theorem zfM {g : D -> D -> R D} {y : Str} {py : Pos} (i : Nat) (ho : IxR X (rD X.K g)) (ha : PE X (.Name y py) (zkb i)) (hb : PV K X b h) (hs : zkS b := by exact fun _ _ => rfl) : PV K X (.Subscript (.Name y py) b pos) (m2 g i h) := fun hK => by
 subst hK
 exact (zss ho ha (hb rfl) hs).weak fun σ H Q q => zvF (fun _ _ _ _ z => z) σ H Q q
theorem zuw {g : D -> D -> R D} {i : Nat} {r : R2} (hr : ∀ x y H Q,rD K g x y H Q -> r x y H Q) (σ : L2.St) (H : Hp) (Q : VK) (q : tV K (m2r g f i) σ H Q) : tOp r (tV K f) (zkb i) σ H Q:=by
 obtain ⟨ρ,rel,q⟩ := q
 refine goV rel q fun dx ρ1 x H1 rel1 st1 fx q2 => ?_
 obtain ⟨d2,ed2,q3⟩ := q2.zeq
 obtain ⟨x,ex,q4⟩ := q3.zeq
 obtain ⟨ad,at0,m⟩ := rel1.zkc ed2
 exact ⟨.ref ad,at0.2,hr _ _ _ _ ⟨dx,d2,x,fx.tp,m.tp,ex,fun v H' s fz => q4.new rel1 s v fz⟩⟩
theorem zqM {op : CmpOp} {g : D -> D -> R D} {y : Str} {py : Pos} (i : Nat) (ho : OpR X (compareOp op) (rD X.K g)) (ha : PV K X a f) (hb : PE X (.Name y py) (zkb i)) (hm : behindInMarks op (.Name y py) = false) : PVT K X (.Compare a [op] [.Name y py] pos) (tB (m2r g f i)) := fun hK => by
 subst hK
 exact (zmX ho (ha rfl) hb hm).weak fun σ H Q q => goB (fun σ H Q z => zuw (fun _ _ _ _ z => z) σ H Q z) σ H Q q
end
end FL
namespace FL
open PySem L2 PySem.Spec
open PyProof.Rows hiding St
variable [Cs]
structure SC where
 H₀ : Hp
 σ₀ : L2.St
 ρ₀ : En
structure zd5 (K : PySem.W.Frag) (C : SC) (ρ : En) (σ : L2.St) (H : Hp) : Prop where
 rel : Rel K ρ σ H
 keep : ∀ a o,C.H₀ a = some o -> ¬ MA C.ρ₀ C.σ₀ a -> H a = some o
 own : ∀ (i : Nat) a d,ρ[i]? = some (.ow false d) -> σ[i]? = some (some (.ref a)) -> C.H₀ a = none
 pin : ∀ (i : Nat),(∃ d,ρ[i]? = some (.ow true d)) ↔ ∃ d,C.ρ₀[i]? = some (.ow true d)
 fix : ∀ (i : Nat) d,ρ[i]? = some (.ow true d) -> σ[i]? = C.σ₀[i]?
 prm : ∀ (i : Nat) p d,C.ρ₀[i]? = some (.ow p d) -> p = true
section
variable {K : PySem.W.Frag} {C : SC} {ρ ρ1 : En} {σ σ1 : L2.St} {H H1 : Hp}
theorem zd5.zvz (r : zd5 K C ρ σ H) {a : Addr} {o : HO} (e : C.H₀ a = some o) (n : ¬ MA C.ρ₀ C.σ₀ a) : ¬ MA ρ σ a:=by
 rintro ⟨i,⟨p,d,e1⟩,e2⟩
 cases p with
 | false => rw [r.own i a d e1 e2] at e; cases e
 | true =>
  obtain ⟨d0,e0⟩ := (r.pin i).mp ⟨d,e1⟩
  exact n ⟨i,⟨true,d0,e0⟩,by rw [<- r.fix i d e1]; exact e2⟩
theorem zd5.step (r : zd5 K C ρ σ H) (rel : Rel K ρ1 σ H1) (st : Stp ρ ρ1 σ H H1) : zd5 K C ρ1 σ H1 where
 rel := rel
 keep := fun a o e n => st.kp a o (r.keep a o e n) (r.zvz e n)
 own := fun i a d e1 e2 => by
  obtain ⟨d',e'⟩ := (st.md i false).mpr ⟨d,e1⟩
  exact r.own i a d' e' e2
 pin := fun i => (st.md i true).symm.trans (r.pin i)
 fix := fun i d e => by
  obtain ⟨d',e'⟩ := (st.md i true).mpr ⟨d,e⟩
  exact r.fix i d' e'
 prm := r.prm
def Chg (dom : List Nat) (ρ ρ1 : En) (σ σ1 : L2.St) : Prop := σ1.length = σ.length /\ ∀ (i : Nat),(ρ1[i]? = ρ[i]? /\ σ1[i]? = σ[i]?) \/ (i ∈ dom /\ (∃ d,ρ1[i]? = some (.val d)) /\ ∀ e,ρ[i]? ≠ some (.ow true e))
theorem Chg.refl {dom : List Nat} : Chg dom ρ ρ σ σ := ⟨rfl,fun _ => .inl ⟨rfl,rfl⟩⟩
theorem Chg.trans {d1 d2 : List Nat} {ρ2 : En} {σ2 : L2.St} (a : Chg d1 ρ ρ1 σ σ1) (b : Chg d2 ρ1 ρ2 σ1 σ2) : Chg (d1 ++ d2) ρ ρ2 σ σ2 := ⟨b.1.trans a.1,fun i => by
 rcases b.2 i with ⟨b1,b2⟩ | ⟨bm,b1,b2⟩
 ·rcases a.2 i with ⟨a1,a2⟩ | ⟨am,a1,a2⟩
  ·exact .inl ⟨b1.trans a1,b2.trans a2⟩
  ·exact .inr ⟨List.mem_append_left _ am,by rw [b1]; exact a1,a2⟩
 ·rcases a.2 i with ⟨a1,a2⟩ | ⟨am,a1,a2⟩
  ·exact .inr ⟨List.mem_append_right _ bm,b1,fun e z => b2 e (by rw [a1]; exact z)⟩
  ·exact .inr ⟨List.mem_append_left _ am,b1,a2⟩⟩
theorem zd5.chg {dom : List Nat} (r : zd5 K C ρ σ H) (rel : Rel K ρ1 σ1 H) (c : Chg dom ρ ρ1 σ σ1) : zd5 K C ρ1 σ1 H where
 rel := rel
 keep := r.keep
 own := fun i a d e1 e2 => by
  rcases c.2 i with ⟨c1,c2⟩ | ⟨_,⟨d',c1⟩,c2⟩
  ·exact r.own i a d (by rw [<- c1]; exact e1) (by rw [<- c2]; exact e2)
  ·rw [c1] at e1; cases e1
 pin := fun i => by
  rcases c.2 i with ⟨c1,c2⟩ | ⟨_,⟨d',c1⟩,c2⟩
  ·rw [c1]; exact r.pin i
  ·rw [c1,<- r.pin i]
   constructor
   ·rintro ⟨_,z⟩; cases z
   ·rintro ⟨d,z⟩; exact absurd z (c2 d)
 fix := fun i d e => by
  rcases c.2 i with ⟨c1,c2⟩ | ⟨_,⟨d',c1⟩,c2⟩
  ·rw [c2]; exact r.fix i d (by rw [<- c1]; exact e)
  ·rw [c1] at e; cases e
 prm := r.prm
theorem zd5.fresh (r : zd5 K C ρ σ H) {a : Addr} (ha : H a = none) : C.H₀ a = none:=by
 cases e0 : C.H₀ a with
 | none => rfl
 | some o =>
  by_cases k : MA C.ρ₀ C.σ₀ a
  ·obtain ⟨i,⟨p,d0,e1⟩,e2⟩ := k
   have := r.prm i p d0 e1
   subst this
   obtain ⟨d2,e3⟩ := (r.pin i).mpr ⟨d0,e1⟩
   obtain ⟨o',e',_⟩ := r.rel.zbG ⟨i,⟨true,d2,e3⟩,by rw [r.fix i d2 e3]; exact e2⟩
   rw [ha] at e'; cases e'
  ·rw [r.keep a o e0 k] at ha; cases ha
def zcm (K : PySem.W.Frag) (C : SC) (H : Hp) (r : R (Fl × En)) (Dn : Ends) : Prop := match r with
 | .ok x => match x.1 with
  | .nx => ∀ σ' H',zd5 K C x.2 σ' H' -> Fzn H H' -> Dn.nx σ' H'
  | .bk => ∀ σ' H',zd5 K C x.2 σ' H' -> Fzn H H' -> Dn.bk σ' H'
  | .ct => ∀ σ' H',zd5 K C x.2 σ' H' -> Fzn H H' -> Dn.ct σ' H'
  | .rt d => ∀ v σ' H',zd5 K C x.2 σ' H' -> Fz K H' d v -> Dn.rt v H'
  | .rf d => ∀ a σ' H',zd5 K C x.2 σ' H' -> C.H₀ a = none -> zbq K H' a d -> Dn.rt (.ref a) H'
 | _ => False
theorem zcm.step {r : R (Fl × En)} {Dn : Ends} (f : Fzn H H1) (g : zcm K C H r Dn) : zcm K C H1 r Dn:=by
 cases r with
 | ok x =>
  obtain ⟨fl,ρ⟩ := x
  cases fl with
  | nx => exact fun σ' H' r z => g σ' H' r (f.trans z)
  | bk => exact fun σ' H' r z => g σ' H' r (f.trans z)
  | ct => exact fun σ' H' r z => g σ' H' r (f.trans z)
  | rt d => exact g
  | rf d => exact g
 | _ => exact g
theorem zcm.bnd {β : Type} {r : R β} {k : β -> R (Fl × En)} {Dn : Ends} (g : zcm K C H (r.bind k) Dn) : ∃ x,r = .ok x /\ zcm K C H (k x) Dn:=by
 cases r with
 | ok x => exact ⟨x,rfl,g⟩
 | _ => exact g.elim
def tS (K : PySem.W.Frag) (C : SC) (f : SF) : TS := fun Dn σ H => ∃ ρ,zd5 K C ρ σ H /\ zcm K C H (f ρ) Dn
theorem zmr {f : EF} {k : D × En -> R (Fl × En)} {S : VK} {Dn : Ends} (rel : zd5 K C ρ σ H) (g : zcm K C H ((f ρ).bind k) Dn)
  (h : ∀ d ρ1 v H1,zd5 K C ρ1 σ H1 -> Stp ρ ρ1 σ H H1 -> Fz K H1 d v -> zcm K C H1 (k (d,ρ1)) Dn -> S v H1) : tV K f σ H S:=by
 obtain ⟨x,e,g1⟩ := g.bnd
 refine ⟨ρ,rel.rel,?_⟩
 rw [e]
 exact fun H' r s v fz => h x.1 x.2 v H' (rel.step r s) s fz (g1.step (s.fzn rel.rel))
theorem zuW {f : TF} {k : Bool × En -> R (Fl × En)} {S : Bool -> Hp -> Prop} {Dn : Ends} (rel : zd5 K C ρ σ H) (g : zcm K C H ((f ρ).bind k) Dn)
  (h : ∀ b ρ1 H1,zd5 K C ρ1 σ H1 -> Fzn H H1 -> zcm K C H1 (k (b,ρ1)) Dn -> S b H1) : tT K f σ H S:=by
 obtain ⟨x,e,g1⟩ := g.bnd
 refine ⟨ρ,rel.rel,?_⟩
 rw [e]
 exact fun H' r s => h x.1 x.2 H' (rel.step r s) (s.fzn rel.rel) (g1.step (s.fzn rel.rel))
theorem zuX {f : EF} {k : D × En -> R (Fl × En)} {S : VK} {Dn : Ends} (rel : zd5 K C ρ σ H) (g : zcm K C H ((f ρ).bind k) Dn)
  (h : ∀ d ρ1 a H1,zd5 K C ρ1 σ H1 -> Fzn H H1 -> H a = none -> ¬ MA ρ1 σ a -> zbq K H1 a d -> zcm K C H1 (k (d,ρ1)) Dn -> S (.ref a) H1) : tN K f σ H S:=by
 obtain ⟨x,e,g1⟩ := g.bnd
 refine ⟨ρ,rel.rel,?_⟩
 rw [e]
 refine fun H' r s a ha m => h x.1 x.2 a H' (rel.step r s) (s.fzn rel.rel) ha (fun z => ?_) m (g1.step (s.fzn rel.rel))
 obtain ⟨o',e',_⟩ := rel.rel.zbG (s.ma.mpr z)
 rw [ha] at e'; cases e'
end
def PSV (K : PySem.W.Frag) (X : Cx) (st : Stmt) (f : SF) : Prop := X.K = K -> ∀ C,PS X st (tS K C f)
def zms (K : PySem.W.Frag) (X : Cx) (st : List Stmt) (f : SF) : Prop := X.K = K -> ∀ C,PSs X st (tS K C f)
theorem _root_.L2.PS.weak {X : Cx} {e : Stmt} {t t' : TS} (h : PS X e t) (w : ∀ Dn σ H,t' Dn σ H -> t Dn σ H) : PS X e t' := fun pins s σ H Dn I q => h pins s σ H Dn I (w Dn σ H q)
theorem _root_.L2.PSs.weak {X : Cx} {e : List Stmt} {t t' : TS} (h : PSs X e t) (w : ∀ Dn σ H,t' Dn σ H -> t Dn σ H) : PSs X e t' := fun pins s σ H Dn I q => h pins s σ H Dn I (w Dn σ H q)
def tG (K : PySem.W.Frag) (dom : List Nat) (g : GF) : TG := fun v σ H Q => ∃ ρ d ρ1,Rel K ρ σ H /\ Fz K H d v /\ g d ρ = .ok ρ1 /\ ∀ σ1,Rel K ρ1 σ1 H -> Chg dom ρ ρ1 σ σ1 -> Q σ1 H
def tGs (K : PySem.W.Frag) (dom : List Nat) (gs : List GF) : TGs := fun vs σ H Q => ∃ ρ ds ρ1,Rel K ρ σ H /\ zak K H ds vs /\ zrq gs ds ρ = .ok ρ1 /\ ∀ σ1,Rel K ρ1 σ1 H -> Chg dom ρ ρ1 σ σ1 -> Q σ1 H
def PVG (K : PySem.W.Frag) (X : Cx) (dom : List Nat) (e : Expr) (g : GF) : Prop := X.K = K -> PG X e (tG K dom g)
def ztN (K : PySem.W.Frag) (X : Cx) (dom : List Nat) (e : List Expr) (g : List GF) : Prop := X.K = K -> PGs X e (tGs K dom g)
theorem _root_.L2.PG.weak {X : Cx} {e : Expr} {t t' : TG} (h : PG X e t) (w : ∀ v σ H Q,t' v σ H Q -> t v σ H Q) : PG X e t' := fun pins s σ H v u Q I r q => h pins s σ H v u Q I r (w v σ H Q q)
theorem _root_.L2.PGs.weak {X : Cx} {e : List Expr} {t t' : TGs} (h : PGs X e t) (w : ∀ v σ H Q,t' v σ H Q -> t v σ H Q) : PGs X e t' := fun pins s σ H v u Q I r q => h pins s σ H v u Q I r (w v σ H Q q)
theorem Rel.set {K : PySem.W.Frag} {ρ : En} {σ : L2.St} {H : Hp} {i : Nat} {x : Sl} {v : Option V} (r : Rel K ρ σ H) (o : zrI K H x v) (s : ∀ a p d,x = .ow p d -> v = some (.ref a) -> ¬ MA ρ σ a) : Rel K (ρ.set i x) (σ.set i v) H:=by
 refine ⟨by rw [List.length_set,List.length_set]; exact r.len,fun j y w e1 e2 => ?_,fun j k b h1 h2 => ?_,r.cst⟩
 ·by_cases c : i = j
  ·subst c
   by_cases hl : i < ρ.length
   ·rw [List.getElem?_set_self hl] at e1
    rw [List.getElem?_set_self (by rw [<- r.len]; exact hl)] at e2
    cases e1; cases e2
    exact o
   ·rw [List.getElem?_eq_none (by rw [List.length_set]; omega)] at e1; cases e1
  ·rw [List.getElem?_set_ne c] at e1 e2
   exact r.ok j y w e1 e2
 ·have w : ∀ j b,At (ρ.set i x) (σ.set i v) j b -> (j = i /\ (∃ p d,x = .ow p d) /\ v = some (.ref b)) \/ (j ≠ i /\ At ρ σ j b) := fun j b ⟨⟨q,dd,e1⟩,e2⟩ => by
   by_cases c : i = j
   ·subst c
    have hl : i < ρ.length:=by
     have := (List.getElem?_eq_some_iff.mp e1).1
     rwa [List.length_set] at this
    rw [List.getElem?_set_self hl] at e1
    rw [List.getElem?_set_self (by rw [<- r.len]; exact hl)] at e2
    cases e1; cases e2
    exact .inl ⟨rfl,⟨q,dd,rfl⟩,rfl⟩
   ·rw [List.getElem?_set_ne c] at e1 e2
    exact .inr ⟨fun z => c z.symm,⟨q,dd,e1⟩,e2⟩
  rcases w j b h1 with ⟨rfl,⟨p,d,e⟩,e'⟩ | ⟨n1,a1⟩
  ·rcases w k b h2 with ⟨rfl,_,_⟩ | ⟨n2,a2⟩
   ·rfl
   ·exact absurd ⟨k,a2⟩ (s b p d e e')
  ·rcases w k b h2 with ⟨rfl,⟨p,d,e⟩,e'⟩ | ⟨n2,a2⟩
   ·exact absurd ⟨j,a1⟩ (s b p d e e')
   ·exact r.sep j k b a1 a2
section
variable {K : PySem.W.Frag} {X : Cx} {pos : Pos}
theorem zly {i : Nat} {d : D} {ρ ρ1 : En} (h : gN i d ρ = .ok ρ1) : ρ1 = ρ.set i (.val d) /\ (∀ e,ρ[i]? ≠ some (.ow true e)) /\ i < ρ.length:=by
 unfold gN at h
 cases e : ρ[i]? with
 | none => rw [e] at h; cases h
 | some x =>
  rw [e] at h
  have hl : i < ρ.length := (List.getElem?_eq_some_iff.mp e).1
  cases x with
  | no => cases h; exact ⟨rfl,(fun _ z => nomatch z),hl⟩
  | val c => cases h; exact ⟨rfl,(fun _ z => nomatch z),hl⟩
  | ow p c =>
   cases p with
   | true => cases h
   | false => cases h; exact ⟨rfl,(fun _ z => nomatch z),hl⟩
theorem ziZ {ρ : En} {σ : L2.St} {i : Nat} {d : D} {v : Option V} (n : ∀ e,ρ[i]? ≠ some (.ow true e)) (hl : i < ρ.length) : Chg [i] ρ (ρ.set i (.val d)) σ (σ.set i v) := ⟨List.length_set,fun j => by
 by_cases c : i = j
 ·subst c
  exact .inr ⟨List.mem_singleton.mpr rfl,⟨d,List.getElem?_set_self hl⟩,n⟩
 ·exact .inl ⟨List.getElem?_set_ne c,List.getElem?_set_ne c⟩⟩
theorem zaG {i : Nat} {x : Str} (hN : X.N.Nodup) (hi : X.N[i]? = some x) (hx : Loc X.env.scope x) (hf : X.fn x = true \/ X.env.scope.names.lookup x = some .local := by first | exact .inl rfl | exact .inr rfl | assumption) : PVG K X [i] (.Name x pos) (gN i) := fun _ => (zq5 hN hi hx hf).weak fun v σ H Q => by
 rintro ⟨ρ,d,ρ1,rel,fz,e,q⟩
 obtain ⟨rfl,n,hl⟩ := zly e
 exact q _ (rel.set fz fun _ _ _ z => nomatch z) (ziZ n hl)
theorem zeM : ztN K X [] [] [] := fun _ => zq4.weak fun vs σ H Q => by
 rintro ⟨ρ,ds,ρ1,rel,fz,e,q⟩
 cases ds with
 | nil =>
  cases e
  simp only [zak] at fz
  exact ⟨fz,q _ rel .refl⟩
 | cons _ _ => cases e
theorem zaq {α β : Type} {r : R α} {k : α -> R β} {b : β} (h : r.bind k = .ok b) : ∃ a,r = .ok a /\ k a = .ok b:=by
 cases r with
 | ok a => exact ⟨a,rfl,h⟩
 | _ => cases h
theorem zbr {e : Expr} {es : List Expr} {g : GF} {gs : List GF} {d1 d2 : List Nat} (h1 : PVG K X d1 e g) (h2 : ztN K X d2 es gs)
  (hs : (assignEach (e :: es) X.env).map (·.2) = assign e X.env :: (assignEach es X.env).map (·.2) := by rfl) : ztN K X (d1 ++ d2) (e :: es) (g :: gs) := fun hK => (zpa (h1 hK) (h2 hK) hs).weak fun vs σ H Q => by
 rintro ⟨ρ,ds,ρ1,rel,fz,e,q⟩
 cases ds with
 | nil => cases e
 | cons d ds =>
  simp only [zak] at fz
  obtain ⟨v,r,rfl,f1,f2⟩ := fz
  obtain ⟨ρ2,e2,e3⟩ := zaq (show (g d ρ).bind (fun ρ1 => zrq gs ds ρ1) = .ok ρ1 from e)
  exact ⟨v,r,rfl,ρ,d,ρ2,rel,f1,e2,fun σ1 rel1 c1 => ⟨ρ2,ds,ρ1,rel1,f2,e3,fun σ2 rel2 c2 => q σ2 rel2 (c1.trans c2)⟩⟩
theorem zlz : ∀ {gs : List GF} {ds : List D} {ρ ρ1 : En},zrq gs ds ρ = .ok ρ1 -> ds.length = gs.length
 | [],[],_,_,_ => rfl
 | [],_ :: _,_,_,e => by cases e
 | _ :: _,[],_,_,e => by cases e
 | g :: gs,d :: ds,ρ,ρ1,e => by
  obtain ⟨ρ2,e2,e3⟩ := zaq (show (g d ρ).bind (fun ρ1 => zrq gs ds ρ1) = .ok ρ1 from e)
  simp [zlz e3]
theorem zgB {es : List Expr} {k : Nat} {gs : List GF} {dom : List Nat} (hc : X.calm = true) (h : ztN K X dom es gs)
  (hn : (assignEach es X.env).length = gs.length := by rfl) (hst : (assignEach es X.env).findIdx? (·.1) = none := by rfl) : PVG K X dom (.Tuple es k pos) (gT gs) := fun hK => by
 subst hK
 refine (zsl hc (h rfl) hn hst).weak fun v σ H Q => ?_
 rintro ⟨ρ,d,ρ1,rel,fz,e,q⟩
 cases d with
 | tuple ds =>
  simp only [Fz] at fz
  obtain ⟨a,vs,rfl,s,f⟩ := fz
  replace e : zrq gs ds ρ = .ok ρ1 := e
  exact ⟨a,vs,rfl,.inl s,by rw [f.len,zlz e],ρ,ds,ρ1,rel,f,e,q⟩
 | _ => cases e
variable {st : Stmt} {rest : List Stmt} {s t : SF} {e : Expr} {f : EF}
theorem zbh : zms K X [] sNx := fun _ C => zqT.weak fun Dn σ H => by
 rintro ⟨ρ,rel,g⟩
 exact g σ H rel (Fzn.refl H)
theorem zam (h1 : PSV K X st s) (h2 : zms K X rest t) : zms K X (st :: rest) (zaI s t) := fun hK C => (zo5 (h1 hK C) (h2 hK C)).weak fun Dn σ H => by
 rintro ⟨ρ,rel,g⟩
 refine ⟨ρ,rel,?_⟩
 obtain ⟨x,ex,g1⟩ := g.bnd
 rw [ex]
 obtain ⟨fl,ρ1⟩ := x
 cases fl with
 | nx => exact fun σ' H' r z => ⟨ρ1,r,g1.step z⟩
 | bk => exact g1
 | ct => exact g1
 | rt d => exact g1
 | rf d => exact g1
theorem zan (h1 : PSV K X st s) : zms K X [st] s := fun hK C => zqS (h1 hK C)
theorem zjk : PSV K X st zrL := fun _ C => zo7.weak fun Dn σ H => by
 rintro ⟨ρ,rel,g⟩
 exact g.elim
theorem zit (he : PV K X e f) (hs : swapsWith e none pos.line X.env = pure false := by rfl) : PSV K X (.Expr e pos) (sE f) := fun hK C => (zmZ (he hK) hs).weak fun Dn σ H => by
 rintro ⟨ρ,rel,g⟩
 exact zmr rel g fun d ρ1 v H1 rel1 st1 fz g1 => g1 σ H1 rel1 (Fzn.refl H1)
theorem zaF (he : PV K X e f) : PSV K X (.Return (some e) pos) (zaW f) := fun hK C => (zmY (he hK)).weak fun Dn σ H => by
 rintro ⟨ρ,rel,g⟩
 exact zmr rel g fun d ρ1 v H1 rel1 st1 fz g1 => g1 v σ H1 rel1 fz
theorem zcb (he : PVN K X e f) : PSV K X (.Return (some e) pos) (zca f) := fun hK C => (zmY (he hK)).weak fun Dn σ H => by
 rintro ⟨ρ,rel,g⟩
 exact zuX rel g fun d ρ1 a H1 rel1 fz ha n m g1 => g1 a σ H1 rel1 (rel.fresh ha) m
theorem zlc {y : Str} {py : Pos} (i : Nat) (ha : PE X (.Name y py) (zkb i)) : PSV K X (.Return (some (.Name y py)) pos) (zmM i) := fun hK C => (zmY ha).weak fun Dn σ H => by
 rintro ⟨ρ,rel,g⟩
 unfold zmM at g
 cases e : ρ[i]? with
 | none => rw [e] at g; exact g.elim
 | some x =>
  rw [e] at g
  cases x with
  | ow p d =>
   cases p with
   | false =>
    obtain ⟨a,at0,m⟩ := rel.rel.zkc (d:=d) (show zaH ρ i = .ok d by unfold zaH; rw [e])
    exact ⟨.ref a,at0.2,g a σ H rel (rel.own i a d e at0.2) m⟩
   | true => exact g.elim
  | _ => exact g.elim
theorem zbO {c : Expr} {a b : List Stmt} {tc : TF} (hc : PVT K X c tc) (ha : zms K X a s) (hb : zms K X b t) : PSV K X (.If c a b pos) (sIf tc s t) := fun hK C => (zt9 (hc hK) (ha hK C) (hb hK C)).weak fun Dn σ H => by
 rintro ⟨ρ,rel,g⟩
 refine zuW rel g fun cb ρ1 H1 rel1 fz g1 => ?_
 cases cb with
 | true => exact zqe ⟨ρ1,rel1,g1⟩
 | false => exact zqf ⟨ρ1,rel1,g1⟩
theorem zqO {tg : Expr} {g : GF} {dom : List Nat} (he : PV K X e f) (hg : PVG K X dom tg g) (hs : swapsWithSole [tg] e pos.line X.env = pure false := by rfl) (hw : swappedStores [tg] e X.env = pure none := by rfl)
  (h1 : (assignEach [tg] X.env).map (·.2) = [assign tg X.env] := by rfl) : PSV K X (.Assign [tg] e pos) (zbp g f) := fun hK C => (zp1 (he hK) (hg hK) hs hw h1).weak fun Dn σ H => by
 rintro ⟨ρ,rel,q⟩
 refine zmr rel q fun d ρ1 v H1 rel1 st1 fz q1 => ?_
 obtain ⟨ρ2,e2,q2⟩ := q1.bnd
 exact ⟨ρ1,d,ρ2,rel1.rel,fz,e2,fun σ1 rel2 c => q2 σ1 H1 (rel1.chg rel2 c) (Fzn.refl H1)⟩
theorem za5 {i : Nat} {x : Str} {pos' : Pos} (hN : X.N.Nodup) (hi : X.N[i]? = some x) (hx : Loc X.env.scope x) (he : PV K X e f) (hs : swapsWith e (some (.Name x pos')) pos.line X.env = pure false := by rfl) (hf : X.fn x = true \/ X.env.scope.names.lookup x = some .local := by first | exact .inl rfl | exact .inr rfl | assumption) :
  PSV K X (.Assign [.Name x pos'] e pos) (zbp (gN i) f) := fun hK C => (zp0 hN hi hx (he hK) hs hf).weak fun Dn σ H => by
 rintro ⟨ρ,rel,q⟩
 refine zmr rel q fun d ρ1 v H1 rel1 st1 fz q1 => ?_
 obtain ⟨ρ2,e2,q2⟩ := q1.bnd
 obtain ⟨rfl,n,hl⟩ := zly e2
 exact q2 _ H1 (rel1.chg (rel1.rel.set fz fun _ _ _ z => nomatch z) (ziZ n hl)) (Fzn.refl H1)
theorem zs0 {i : Nat} {C : SC} (Dn : Ends) (σ : L2.St) (H : Hp) (q0 : tS K C (ziq i f) Dn σ H) : zr2 (tN K f) (znN i) Dn σ H:=by
 revert q0
 rintro ⟨ρ,rel,q⟩
 refine zuX rel q fun d ρ1 a H1 rel1 fz ha n m q1 => ?_
 have hf := rel.fresh ha
 replace q1 : zcm K C H1 (match ρ1[i]? with | some (.ow true _) => .bad | some _ => .ok (.nx,ρ1.set i (.ow false d)) | none => .bad) Dn := q1
 have fin : (∀ e,ρ1[i]? ≠ some (.ow true e)) -> i < ρ1.length -> zd5 K C (ρ1.set i (.ow false d)) (σ.set i (some (.ref a))) H1 := fun np hl => by
  have hls : i < σ.length := by rw [<- rel1.rel.len]; exact hl
  refine ⟨rel1.rel.set (show zrI K H1 (.ow false d) (some (.ref a)) from m) fun b p c e1 e2 => by cases e2; exact n,rel1.keep,fun j b c e1 e2 => ?_,fun j => ?_,fun j c e1 => ?_,rel1.prm⟩
  ·by_cases k : i = j
   ·subst k
    rw [List.getElem?_set_self hls] at e2
    cases e2
    exact hf
   ·rw [List.getElem?_set_ne k] at e1 e2
    exact rel1.own j b c e1 e2
  ·by_cases k : i = j
   ·subst k
    rw [List.getElem?_set_self hl,<- rel1.pin i]
    constructor
    ·rintro ⟨_,z⟩; cases z
    ·rintro ⟨c,z⟩; exact absurd z (np c)
   ·rw [List.getElem?_set_ne k]; exact rel1.pin j
  ·by_cases k : i = j
   ·subst k
    rw [List.getElem?_set_self hl] at e1; cases e1
   ·rw [List.getElem?_set_ne k] at e1 ⊢
    exact rel1.fix j c e1
 cases e1 : ρ1[i]? with
 | none => rw [e1] at q1; exact q1.elim
 | some y =>
  have hl : i < ρ1.length := (List.getElem?_eq_some_iff.mp e1).1
  rw [e1] at q1
  cases y with
  | no => exact q1 _ H1 (fin (fun e z => by rw [e1] at z; cases z) hl) (Fzn.refl H1)
  | val c => exact q1 _ H1 (fin (fun e z => by rw [e1] at z; cases z) hl) (Fzn.refl H1)
  | ow p c =>
   cases p with
   | true => exact q1.elim
   | false => exact q1 _ H1 (fin (fun e z => by rw [e1] at z; cases z) hl) (Fzn.refl H1)
theorem zgz {i : Nat} {x : Str} {pos' : Pos} (hN : X.N.Nodup) (hi : X.N[i]? = some x) (hx : Loc X.env.scope x) (he : PVN K X e f) (hs : swapsWith e (some (.Name x pos')) pos.line X.env = pure false := by rfl) (hf : X.fn x = true \/ X.env.scope.names.lookup x = some .local := by first | exact .inl rfl | exact .inr rfl | assumption) :
  PSV K X (.Assign [.Name x pos'] e pos) (ziq i f) := fun hK C => (zp0 hN hi hx (he hK) hs hf).weak fun Dn σ H q => zs0 Dn σ H q
theorem zqN (i : Nat) (h : PSV K X st s) : PSV K X st (ztB i s) := fun hK C => by
 have h1 : PS X st (fun Dn σ H => ∃ a u,H a = some u /\ Own u /\ ∀ o,tS K C s Dn σ (upd H a (.frz o u))) := fun pins sh σ H Dn I ⟨a,u,e,ow,q⟩ => by
  obtain ⟨o,ho⟩ := (I.hok a u e).some
  exact h hK C pins sh σ _ Dn (zuy I e ow ho) (q o)
 refine h1.weak fun Dn σ H => ?_
 rintro ⟨ρ,rel,g⟩
 unfold ztB at g
 cases e : ρ[i]? with
 | none => rw [e] at g; exact g.elim
 | some x =>
  rw [e] at g
  cases x with
  | ow p d =>
   cases p with
   | true => exact g.elim
   | false =>
    obtain ⟨a,at0,m⟩ := rel.rel.zkc (d:=d) (show zaH ρ i = .ok d by unfold zaH; rw [e])
    obtain ⟨u,e1,ow⟩ := m.own
    refine ⟨a,u,e1,ow,fun o => ⟨ρ.set i (.val d),?_,g.step ?_⟩⟩
    ·have hl : i < ρ.length := (List.getElem?_eq_some_iff.mp e).1
     have hfr := rel.own i a d e at0.2
     have fz : Fzn H (upd H a (.frz o u)) := fun b w e2 sy => by
      rw [zay fun z => by subst z; rw [e1] at e2; cases e2; exact ow.zdc sy]
      exact e2
     have fd : Fz K (upd H a (.frz o u)) d (.ref a):=by
      cases d with
      | list ds =>
       obtain ⟨vs,h1,h2⟩ := m
       rw [e1] at h1
       cases h1
       simp only [Fz]
       exact ⟨a,vs,rfl,.inl ⟨o,zas⟩,h2.mono fz⟩
      | dict kvs =>
       simp only [Fz]
       rcases m with ⟨kk,h1,h2⟩ | ⟨kk,h1,h2⟩
       ·rw [e1] at h1
        cases h1
        exact ⟨a,o,rfl,.inl ⟨kk,zas,h2.mono fz⟩⟩
       ·rw [e1] at h1
        cases h1
        exact ⟨a,o,rfl,.inr ⟨kk,zas,h2.mono fz⟩⟩
      | _ => exact m.elim
     have atw : ∀ j b,At (ρ.set i (.val d)) σ j b -> j ≠ i /\ At ρ σ j b := fun j b ⟨⟨q,dd,e1⟩,e2⟩ => by
      by_cases c : i = j
      ·subst c
       rw [List.getElem?_set_self hl] at e1; cases e1
      ·rw [List.getElem?_set_ne c] at e1
       exact ⟨fun z => c z.symm,⟨q,dd,e1⟩,e2⟩
     refine ⟨⟨by rw [List.length_set]; exact rel.rel.len,fun j y w e2 e3 => ?_,fun j k b h1 h2 => rel.rel.sep j k b (atw j b h1).2 (atw k b h2).2,rel.rel.cst.mono fz⟩,fun b w e2 n => ?_,fun j b c e2 e3 => ?_,fun j => ?_,fun j c e2 => ?_,rel.prm⟩
     ·by_cases c : i = j
      ·subst c
       rw [List.getElem?_set_self hl] at e2
       cases e2
       rw [at0.2] at e3
       cases e3
       exact fd
      ·rw [List.getElem?_set_ne c] at e2
       refine (rel.rel.ok j y w e2 e3).mono fz fun b e4 ⟨p,dd,e5⟩ => ?_
       subst e4; subst e5
       refine zay fun z => ?_
       subst z
       exact c (rel.rel.sep i j b at0 ⟨⟨p,dd,e2⟩,e3⟩)
     ·rw [zay fun z => by subst z; rw [hfr] at e2; cases e2]
      exact rel.keep b w e2 n
     ·by_cases c : i = j
      ·subst c
       rw [List.getElem?_set_self hl] at e2; cases e2
      ·rw [List.getElem?_set_ne c] at e2
       exact rel.own j b _ e2 e3
     ·by_cases c : i = j
      ·subst c
       rw [List.getElem?_set_self hl,<- rel.pin i,e]
       constructor
       ·rintro ⟨_,z⟩; cases z
       ·rintro ⟨_,z⟩; cases z
      ·rw [List.getElem?_set_ne c]; exact rel.pin j
     ·by_cases k : i = j
      ·subst k
       rw [List.getElem?_set_self hl] at e2; cases e2
      ·rw [List.getElem?_set_ne k] at e2
       exact rel.fix j c e2
    ·exact fun b w e2 sy => by
      rw [zay fun z => by subst z; rw [e1] at e2; cases e2; exact ow.zdc sy]
      exact e2
  | _ => exact g.elim
theorem znm {ρ : En} {i : Nat} {c : List D} (h : ziB ρ i = .ok c) : ∃ p,ρ[i]? = some (.ow p (.list c)):=by
 unfold ziB at h
 cases e : ρ[i]? with
 | none => rw [e] at h; cases h
 | some x =>
  rw [e] at h
  cases x with
  | ow p d =>
   cases d with
   | list a => cases h; exact ⟨p,rfl⟩
   | _ => cases h
  | _ => cases h
theorem Rel.zuq {ρ : En} {σ : L2.St} {H : Hp} {i : Nat} {c : List D} (r : Rel K ρ σ H) (h : ziB ρ i = .ok c) : ∃ a vs,At ρ σ i a /\ H a = some (.lst vs) /\ zak K H c vs:=by
 obtain ⟨p,e⟩ := znm h
 obtain ⟨a,at0,m⟩ := r.zkc (d:=.list c) (show zaH ρ i = .ok (.list c) by unfold zaH; rw [e])
 obtain ⟨vs,h1,h2⟩ := m
 exact ⟨a,vs,at0,h1,h2⟩
theorem Rel.zvB {ρ ρ1 : En} {σ : L2.St} {H1 : Hp} {i : Nat} {c : List D} {a : Addr} (r : Rel K ρ1 σ H1) (h : ziB ρ1 i = .ok c) (at0 : At ρ σ i a) : ∃ vs,At ρ1 σ i a /\ H1 a = some (.lst vs) /\ zak K H1 c vs:=by
 obtain ⟨b,vs,ab,h1,h2⟩ := r.zuq h
 have := at0.2.symm.trans ab.2
 cases this
 exact ⟨vs,ab,h1,h2⟩
theorem znK {C : SC} {ρ : En} {σ : L2.St} {H : Hp} {i : Nat} {a : Addr} {o : HO} {d : D} {Dn : Ends} (rel : zd5 K C ρ σ H) (at0 : At ρ σ i a) (m : zbq K (upd H a o) a d) (g : zcm K C H (.ok (.nx,zbs ρ i d)) Dn) : Dn.nx σ (upd H a o):=by
 have st : Stp ρ (zbs ρ i d) σ H (upd H a o) := zk4 at0
 exact g σ _ (rel.step (rel.rel.zvt at0 m) st) (st.fzn rel.rel)
theorem zs2 {C : SC} {ρ : En} {σ : L2.St} {H : Hp} {i : Nat} {a : Addr} {o : HO} (rel : zd5 K C ρ σ H) (at0 : At ρ σ i a) : Fzn H (upd H a o) := (zk4 (d:=.none) at0).fzn rel.rel
theorem zmV {y name : Str} {py apos cpos : Pos} (i : Nat) (hnm : name = "clear") (ha : PE X (.Name y py) (zkb i))
  (hbase : attributeBase (.Name y py) name X.env (eval (.Name y py) X.env) = eval (.Name y py) X.env := by rfl) (hline : (apos.endLine == cpos.line) = true := by rfl)
  (hs : swapsWith (.Call (.Attribute (.Name y py) name apos) [] [] cpos) none pos.line X.env = pure false := by rfl) : PSV K X (.Expr (.Call (.Attribute (.Name y py) name apos) [] [] cpos) pos) (zrR i zu1) := fun hK C => by
 subst hK
 subst hnm
 refine (zmZ (zsu PySem.F.plainAttrs_list PySem.F.slot_list_clear PySem.F.type_list_clear zpp ha hbase hline) hs).weak fun Dn σ H => ?_
 rintro ⟨ρ,rel,g⟩
 obtain ⟨d,ed,g1⟩ := g.bnd
 obtain ⟨a,vs0,at0,h0,f0⟩ := rel.rel.zuq ed
 exact ⟨.ref a,at0.2,.inl ⟨rfl,vs0,SqL.of h0⟩,a,vs0,rfl,rfl,h0,znK (d:=.list []) rel at0 ⟨_,zas,by simp [zak]⟩ g1⟩
theorem zis {y : Str} {py ps' : Pos} {ke : Expr} {k : EF} (i : Nat) (ha : PE X (.Name y py) (zkb i)) (he : PV K X e f) (hk : PV K X ke k)
  (has : ∀ v,assign (.Subscript (.Name y py) ke ps') X.env v = (do
   let ov <- holding [v] (eval (.Name y py) X.env)
   let iv <- holding [v,ov] (eval ke X.env)
   standAt ps'
   holding [v,ov,iv] (setItem ov iv v)
   release [v,ov,iv] []) := by intro _; rfl)
  (hs : swapsWithSole [.Subscript (.Name y py) ke ps'] e pos.line X.env = pure false := by rfl) (hw : swappedStores [.Subscript (.Name y py) ke ps'] e X.env = pure none := by rfl)
  (h1 : (assignEach [.Subscript (.Name y py) ke ps'] X.env).map (·.2) = [assign (.Subscript (.Name y py) ke ps') X.env] := by rfl) : PSV K X (.Assign [.Subscript (.Name y py) ke ps'] e pos) (setM i f k) := fun hK C => by
 subst hK
 refine (zp1 (he rfl) (zsm ha (hk rfl) set_list has) hs hw h1).weak fun Dn σ H => ?_
 rintro ⟨ρ,rel,g⟩
 refine zmr rel g fun dx ρ1 v H1 rel1 st1 fz g1 => ?_
 obtain ⟨d,ed,g2⟩ := g1.bnd
 obtain ⟨a,vs0,at0,h0,_⟩ := rel1.rel.zuq ed
 refine ⟨.ref a,at0.2,zmr rel1 g2 fun dk ρ2 kv H2 rel2 st2 fk g3 => ?_⟩
 obtain ⟨c,ec,g4⟩ := g3.bnd
 obtain ⟨vs,at1,h1,h2⟩ := rel2.rel.zvB ec at0
 cases dk with
 | int j =>
  obtain ⟨n,en,g5⟩ := (show zcm X.K C H2 ((R.of (FL.ixN c.length j)).bind fun n => .ok (.nx,zbs ρ2 i (.list (c.set n dx)))) Dn from g4).bnd
  simp only [Fz] at fk
  subst fk
  refine ⟨a,vs,j,n,rfl,rfl,h1,?_,znK (d:=.list (c.set n dx)) rel2 at1 ⟨_,zas,(h2.set n (fz.mono (st2.fzn rel1.rel))).mono (zs2 rel2 at1)⟩ g5⟩
  rw [h2.len]
  cases e2 : FL.ixN c.length j with
  | none => rw [e2] at en; cases en
  | some m => rw [e2] at en; cases en; exact e2
 | _ => exact g4.elim
end
end FL
namespace FL
open PySem L2 PySem.Spec
open PyProof.Rows hiding St
variable [Cs]
def Walk (K : PySem.W.Frag) (J : It) (items : List D) (H : Hp) : Prop :=
 (∀ i d H',Fzn H H' -> items[i]? = some d -> J.go i H' /\ ∀ x H'',J.yld i H' x H'' -> zaY H' H'' /\ Fz K H'' d x) /\ ∀ i H',Fzn H H' -> items.length <= i -> J.stop i H'
def tI (K : PySem.W.Frag) (it : IF) : TI := fun σ H R => ∃ ρ,Rel K ρ σ H /\ Good K ρ σ H (it ρ) fun items _ H' => ∀ J,Walk K J items H' -> R J H'
def PVI (K : PySem.W.Frag) (X : Cx) (tg e : Expr) (it : IF) : Prop := X.K = K -> PI X tg e (tI K it)
theorem _root_.L2.PI.weak {X : Cx} {tg e : Expr} {t t' : TI} (h : PI X tg e t) (w : ∀ σ H R,t' σ H R -> t σ H R) : PI X tg e t' := fun pins s σ H R I q => h pins s σ H R I (w σ H R q)
section
variable {K : PySem.W.Frag} {X : Cx} {tg e : Expr} {f : EF} {pos : Pos}
theorem zsj {l : Expr} {tl : TE} (hl : PE X l tl) : PI X tg l (fun σ H R => tl σ H fun x H1 => ∃ a,x = .ref a /\ (((∃ xs,SqL X.K H1 a xs) /\ R (Itl X.K a) H1) \/ ((∃ xs,SqT X.K H1 a xs) /\ R (Itt X.K a) H1))):=by
 intro pins s σ H R I h
 refine thn (hl pins s σ H _ I h) fun v s1 ⟨x,H1,I1,r1,q1⟩ => ?_
 obtain ⟨a,e,q1⟩ := q1
 subst e
 cases r1
 rcases q1 with ⟨⟨xs,hq⟩,q⟩ | ⟨⟨xs,hq⟩,q⟩
 ·obtain ⟨its,rv,p,hz⟩ := I1.list hq
  refine wpAny_pyIter_list p.isList ?_
  refine ⟨s1.heap.objs.size,[s1.heap.objs.size],_,_,H1,rfl,I1.kept (t' := s1.toks) fun b o e => Heap.get?_push_of_some _ e,zmx a _,⟨_,Heap.get?_push_size _ rfl,rfl,rfl⟩,fun b hb => ?_,q⟩
  have e : b = s1.heap.objs.size := by simpa using hb
  subst e
  exact I1.zow (Nat.le_refl _) (I1.hok.fresh (Nat.le_refl _))
 ·obtain ⟨its,rv,p,hz⟩ := I1.tuple hq
  refine wpAny_pyIter_tuple (show s1.heap.IsTuple a its.toArray from p) ?_
  refine ⟨s1.heap.objs.size,[s1.heap.objs.size],_,_,H1,rfl,I1.kept (t' := s1.toks) fun b o e => Heap.get?_push_of_some _ e,zlO a _,⟨_,Heap.get?_push_size _ rfl,rfl,rfl⟩,fun b hb => ?_,q⟩
  have e : b = s1.heap.objs.size := by simpa using hb
  subst e
  exact I1.zow (Nat.le_refl _) (I1.hok.fresh (Nat.le_refl _))
theorem zmu {H : Hp} {a : Addr} {vs : List V} {items : List D} (h : FzL K H a vs) (f : zak K H items vs) : Walk K (Itl K a) items H:=by
 refine ⟨fun i d H' fz e => ?_,fun i H' fz e => ⟨vs,(fz.zqH h).sq,by rw [f.len]; exact e⟩⟩
 obtain ⟨v,ev,_⟩ := f.get e
 refine ⟨⟨vs,v,(fz.zqH h).sq,ev⟩,fun x H'' y => ?_⟩
 obtain ⟨rfl,y⟩ := y
 have ex := y vs (fz.zqH h).sq
 obtain ⟨v',ev',fv⟩ := (f.mono fz).get e
 rw [ex] at ev'
 cases ev'
 exact ⟨zaY.refl _,fv⟩
theorem zoz {H : Hp} {a : Addr} {vs : List V} {items : List D} (h : TAt H a vs) (f : zak K H items vs) : Walk K (Itt K a) items H:=by
 refine ⟨fun i d H' fz e => ?_,fun i H' fz e => ⟨vs,.inl (fz.ztA h),by rw [f.len]; exact e⟩⟩
 obtain ⟨v,ev,_⟩ := f.get e
 refine ⟨⟨vs,v,.inl (fz.ztA h),ev⟩,fun x H'' y => ?_⟩
 obtain ⟨rfl,y⟩ := y
 have ex := y vs (.inl (fz.ztA h))
 obtain ⟨v',ev',fv⟩ := (f.mono fz).get e
 rw [ex] at ev'
 cases ev'
 exact ⟨zaY.refl _,fv⟩
theorem zek (he : PV K X e f) : PVI K X tg e (iE f) := fun hK => by
 subst hK
 refine (zsj (he rfl)).weak fun σ H R => ?_
 rintro ⟨ρ,rel,q⟩
 refine goV rel q fun dx ρ1 x H1 rel1 st1 fx q1 => ?_
 obtain ⟨items,ei,q2⟩ := q1.zeq
 cases dx with
 | list a =>
  cases ei
  simp only [Fz] at fx
  obtain ⟨l,vs,rfl,sx,f⟩ := fx
  exact ⟨l,rfl,.inl ⟨⟨vs,sx.sq⟩,q2.now rel1 _ (zmu sx f)⟩⟩
 | tuple a =>
  cases ei
  simp only [Fz] at fx
  obtain ⟨l,vs,rfl,sx,f⟩ := fx
  exact ⟨l,rfl,.inr ⟨⟨vs,.inl sx⟩,q2.now rel1 _ (zoz sx f)⟩⟩
 | _ => cases ei
theorem p62 : (2 : Int) ^ 62 = 4611686018427387904 := by decide
theorem zqI {lo hi : Int} {i : Nat} {d : D} (h : (rng lo hi)[i]? = some d) : i < (hi - lo).toNat /\ d = .int (lo + i):=by
 unfold rng at h
 rw [List.getElem?_map] at h
 by_cases c : i < (hi - lo).toNat
 ·rw [List.getElem?_range c] at h
  cases h
  exact ⟨c,rfl⟩
 ·rw [List.getElem?_eq_none (by rw [List.length_range]; omega)] at h; cases h
theorem zoA {H : Hp} (lo hi : Int) : Walk K (Itr lo (hi - lo).toNat) (rng lo hi) H:=by
 refine ⟨fun i d H' fz e => ?_,fun i H' fz e => ?_⟩
 ·obtain ⟨c,rfl⟩ := zqI e
  refine ⟨c,fun x H'' y => ?_⟩
  obtain ⟨rfl,rfl⟩ := y
  exact ⟨zaY.refl _,zck _⟩
 ·show (hi - lo).toNat <= i
  simpa [rng] using e
theorem zcF {a : Expr} {fa : AF} {p : Pos} (hg : Gl X "range") (hm : X.mg "range" = none) (ha : PVA K X [a] fa) (hs : starEach [a] X.env = [(false,eval a X.env)] := by rfl) : PVI K X tg (.Call (.Name "range" p) [a] [] pos) (iR1 fa) := fun hK => (zm4 hg hm (ha hK) hs).weak fun σ H R => by
 rintro ⟨ρ,rel,q⟩
 refine goA rel q fun ds ρ1 vs H1 rel1 st1 fs q1 => ?_
 obtain ⟨items,ei,q2⟩ := q1.zeq
 cases ds with
 | nil => cases ei
 | cons d r =>
  cases r with
  | cons _ _ => cases d <;> cases ei
  | nil =>
   cases d with
   | int j =>
    obtain ⟨c,ei⟩ := zbi (show chk (zoM j && leB j.toNat lim) (.ok (rng 0 j)) = .ok items from ei)
    cases ei
    simp only [zak,Fz] at fs
    obtain ⟨_,_,rfl,rfl,rfl⟩ := fs
    simp only [zoM,Bool.and_eq_true,leB_iff] at c
    have := zoA (K:=K) (H:=H1) 0 j
    rw [Int.sub_zero] at this
    have e62 := p62
    exact ⟨j,rfl,by omega,by omega,q2.now rel1 _ this⟩
   | _ => cases ei
variable {it : IF} {g : GF} {b t : SF} {body : List Stmt}
theorem zcT {dom : List Nat} (hp : PassesOwn (model X.prog X.w) X.A X.env X.xe) (hc : X.calm = true) (hi : PVI K X tg e it) (hg : PVG K X dom tg g) (hb : zms K X body b) (hs : ∀ x,foldedSetIterable e X.env x = pure x := by intro _; rfl) : PSV K X (.For tg e body [] pos) (zir it g b) := fun hK C =>
 (zsi hp hc (hi hK) (hg hK) (hb hK C) hs).weak fun Dn σ0 H0 => by
 rintro ⟨ρ0,rel0,q⟩
 obtain ⟨x,ex,q⟩ := q.bnd
 refine ⟨ρ0,rel0.rel,?_⟩
 rw [ex]
 intro Hs r st J wk
 have rel1 := rel0.step r st
 have q1 := q.step (st.fzn rel0.rel)
 obtain ⟨items,ρs⟩ := x
 refine ⟨fun i m σ H => m = items.length - i /\ i <= items.length /\ ∃ ρ,zd5 K C ρ σ H /\ Fzn Hs H /\ zcm K C H (forL g b (items.drop i) ρ) Dn,⟨items.length,by simp,Nat.zero_le _,ρs,rel1,Fzn.refl _,q1⟩,?_⟩
 rintro i m σ H ⟨rfl,hi,ρ,rel,fz,gd⟩
 by_cases c : i < items.length
 ·have ed := List.drop_eq_getElem_cons c
  rw [ed] at gd
  obtain ⟨hgo,hy⟩ := wk.1 i items[i] H fz (List.getElem?_eq_getElem c)
  refine .inr ⟨hgo,fun σ' H' => ∃ ρ,zd5 K C ρ σ' H' /\ Fzn Hs H' /\ zcm K C H' (forL g b (items.drop (i + 1)) ρ) Dn,fun σ' H' n => ⟨items.length - (i + 1),by omega,rfl,c,n⟩,fun x H3 y => ?_⟩
  obtain ⟨sm,fx⟩ := hy x H3 y
  have rel3 : zd5 K C ρ σ H3 := rel.step (rel.rel.same sm) (.of sm)
  obtain ⟨ρ1,e1,gd1⟩ := gd.bnd
  refine ⟨ρ,items[i],ρ1,rel3.rel,fx,e1,fun σ1 rel4 chg => ⟨ρ1,rel3.chg rel4 chg,?_⟩⟩
  obtain ⟨y,ey,gd2⟩ := gd1.bnd
  rw [ey]
  have gd3 := gd2.step (Fzn.of sm)
  have fz3 := fz.trans (Fzn.of sm)
  obtain ⟨fl,ρ2⟩ := y
  cases fl with
  | nx => exact fun σ' H' r z => ⟨ρ2,r,fz3.trans z,gd3.step z⟩
  | ct => exact fun σ' H' r z => ⟨ρ2,r,fz3.trans z,gd3.step z⟩
  | bk => exact gd3
  | rt d => exact gd3
  | rf d => exact gd3
 ·have e : i = items.length := by omega
  subst e
  rw [List.drop_length] at gd
  exact .inl ⟨wk.2 _ H fz (Nat.le_refl _),gd σ H rel (Fzn.refl _)⟩
theorem zjj {c : Expr} {tc : TF} (fuel : En -> Nat) (hp : PassesOwn (model X.prog X.w) X.A X.env X.xe) (hc : PVT K X c tc) (hb : zms K X body b) : PSV K X (.While c body [] pos) (zgt fuel tc b) := fun hK C =>
 (zo6 hp (hc hK) (hb hK C)).weak fun Dn σ0 H0 => by
 rintro ⟨ρ0,rel0,q⟩
 refine ⟨fun m σ H => ∃ ρ,zd5 K C ρ σ H /\ zcm K C H (zgl tc b m ρ) Dn,⟨fuel ρ0,ρ0,rel0,q⟩,?_⟩
 rintro m σ H ⟨ρ,rel,gd⟩
 cases m with
 | zero => exact gd.elim
 | succ n =>
  refine zuW rel gd fun cb ρ1 H1 rel1 fz g1 => ?_
  cases cb with
  | false => exact zqf (g1 σ H1 rel1 (Fzn.refl _))
  | true =>
   refine zqe ⟨fun σ' H' => ∃ ρ,zd5 K C ρ σ' H' /\ zcm K C H' (zgl tc b n ρ) Dn,fun σ' H' z => ⟨n,Nat.lt_succ_self _,z⟩,ρ1,rel1,?_⟩
   obtain ⟨y,ey,gd2⟩ := (show zcm K C H1 ((b ρ1).bind fun y => match y.1 with
   | .nx | .ct => zgl tc b n y.2
   | .bk => .ok (.nx,y.2)
   | .rt d => .ok (.rt d,y.2)
   | .rf d => .ok (.rf d,y.2)) Dn from g1).bnd
   rw [ey]
   obtain ⟨fl,ρ2⟩ := y
   cases fl with
   | nx => exact fun σ' H' r z => ⟨ρ2,r,gd2.step z⟩
   | ct => exact fun σ' H' r z => ⟨ρ2,r,gd2.step z⟩
   | bk => exact gd2
   | rt d => exact gd2
   | rf d => exact gd2
end
end FL
namespace FL
open PySem L2 PySem.Spec
open PyProof.Rows hiding St
variable [Cs]
section
variable {K : PySem.W.Frag} {ρ : En} {σ : L2.St} {H H' : Hp} {k : Nat} {ix : List Nat}
theorem zoa {j : Nat} (h : j < k) : (blk k ix ρ)[j]? = some .no:=by
 unfold blk
 rw [List.getElem?_append_left (by simpa using h),List.getElem?_replicate,if_pos h]
theorem zlJ (j : Nat) : (blk k ix ρ)[k + j]? = (ix[j]?).map fun i => (ρ[i]?).getD .no:=by
 unfold blk
 rw [List.getElem?_append_right (by simp),List.length_replicate,Nat.add_sub_cancel_left,List.getElem?_map]
theorem zn5 (j : Nat) : (zd3 k ix σ)[k + j]? = (ix[j]?).map fun i => (σ[i]?).getD none:=by
 unfold zd3
 rw [List.getElem?_append_right (by simp),List.length_replicate,Nat.add_sub_cancel_left,List.getElem?_map]
theorem zh2 {j : Nat} {a : Addr} (h : At (blk k ix ρ) (zd3 k ix σ) j a) : ∃ j' i,j = k + j' /\ ix[j']? = some i /\ At ρ σ i a:=by
 obtain ⟨⟨p,d,e1⟩,e2⟩ := h
 by_cases c : j < k
 ·rw [zoa c] at e1; cases e1
 ·obtain ⟨j',rfl⟩ : ∃ j',j = k + j' := ⟨j - k,by omega⟩
  rw [zlJ] at e1
  rw [zn5] at e2
  cases ei : ix[j']? with
  | none => rw [ei] at e1; cases e1
  | some i =>
   rw [ei] at e1 e2
   refine ⟨j',i,rfl,ei,⟨p,d,?_⟩,?_⟩
   ·simp only [Option.map_some,Option.some.injEq] at e1
    cases er : ρ[i]? with
    | none => rw [er] at e1; cases e1
    | some x => rw [er] at e1; simpa using e1
   ·simp only [Option.map_some,Option.some.injEq] at e2
    cases es : σ[i]? with
    | none => rw [es] at e2; cases e2
    | some x => rw [es] at e2; simpa using e2
theorem znb {l : List Nat} (h : l.Nodup) {i j x : Nat} (a : l[i]? = some x) (b : l[j]? = some x) : i = j:=by
 obtain ⟨h1,e1⟩ := List.getElem?_eq_some_iff.mp a
 obtain ⟨h2,e2⟩ := List.getElem?_eq_some_iff.mp b
 exact (List.getElem_inj h).mp (e1.trans e2.symm)
theorem zn9 (nd : ix.Nodup) (r : Rel K ρ σ H) : Rel K (blk k ix ρ) (zd3 k ix σ) H:=by
 refine ⟨by simp [blk,zd3],fun j x v e1 e2 => ?_,fun i j a h1 h2 => ?_,r.cst⟩
 ·by_cases c : j < k
  ·rw [zoa c] at e1; cases e1; trivial
  ·obtain ⟨j',rfl⟩ : ∃ j',j = k + j' := ⟨j - k,by omega⟩
   rw [zlJ] at e1
   rw [zn5] at e2
   cases ei : ix[j']? with
   | none => rw [ei] at e1; cases e1
   | some i =>
    rw [ei] at e1 e2
    simp only [Option.map_some,Option.some.injEq] at e1 e2
    cases er : ρ[i]? with
    | none => rw [er] at e1; cases e1; trivial
    | some y =>
     have hl : i < σ.length := by rw [<- r.len]; exact (List.getElem?_eq_some_iff.mp er).1
     rw [er] at e1
     rw [List.getElem?_eq_getElem hl] at e2
     cases e1; cases e2
     exact r.ok i _ _ er (List.getElem?_eq_getElem hl)
 ·obtain ⟨i',x,rfl,e1,a1⟩ := zh2 h1
  obtain ⟨j',y,rfl,e2,a2⟩ := zh2 h2
  have := r.sep x y a a1 a2
  subst this
  rw [znb nd e1 e2]
theorem zkO {m : List (Nat × Sl)} : ∀ (ρ : En) (n i : Nat),(bkL m n ρ)[i]? = (ρ[i]?).map (bk1 m (n + i))
 | [],n,i => by simp [bkL]
 | x :: r,n,0 => by simp [bkL]
 | x :: r,n,i + 1 => by
  simp only [bkL,List.getElem?_cons_succ]
  rw [zkO r (n + 1) i,show n + 1 + i = n + (i + 1) by omega]
theorem zlK {cs : En} (i : Nat) : (back ρ ix cs)[i]? = (ρ[i]?).map (bk1 (ix.zip cs) i):=by
 unfold back
 rw [zkO,Nat.zero_add]
theorem zkN {m : List (Nat × Sl)} : ∀ (ρ : En) (n : Nat),(bkL m n ρ).length = ρ.length
 | [],n => rfl
 | x :: r,n => by simp [bkL,zkN r]
theorem zhL : ∀ {ix : List Nat} {cs : En} {i : Nat} {c : Sl},(ix.zip cs).lookup i = some c -> ∃ j : Nat,ix[j]? = some i /\ cs[j]? = some c
 | [],cs,i,c,h => by simp at h
 | x :: r,[],i,c,h => by simp at h
 | x :: r,y :: s,i,c,h => by
  rw [List.zip_cons_cons,List.lookup_cons] at h
  by_cases e : i = x
  ·subst e
   simp only [beq_self_eq_true] at h
   cases h
   exact ⟨0,rfl,rfl⟩
  ·rw [beq_false_of_ne e] at h
   obtain ⟨j,h1,h2⟩ := zhL h
   exact ⟨j + 1,by simpa using h1,by simpa using h2⟩
theorem zeG : ∀ {ix : List Nat} {cs : En} {i j : Nat} {c : Sl},ix.Nodup -> ix[j]? = some i -> cs[j]? = some c -> (ix.zip cs).lookup i = some c
 | [],cs,i,j,c,_,h1,_ => by simp at h1
 | x :: r,[],i,j,c,_,_,h2 => by simp at h2
 | x :: r,y :: s,i,j,c,nd,h1,h2 => by
  rw [List.zip_cons_cons,List.lookup_cons]
  cases j with
  | zero =>
   simp at h1 h2
   subst h1; subst h2
   simp
  | succ j =>
   simp at h1 h2
   have : i ≠ x := fun z => by
    subst z
    exact (List.nodup_cons.mp nd).1 (List.mem_of_getElem? h1)
   rw [beq_false_of_ne this]
   exact zeG (List.nodup_cons.mp nd).2 h1 h2
theorem zi4 {β : En} {σβ : L2.St} (nd : ix.Nodup) (r : Rel K ρ σ H) (hs : ∀ j,σβ[k + j]? = (zd3 k ix σ)[k + j]?) (rb : Rel K β σβ H')
  (md : ∀ j p,(∃ d,β[k + j]? = some (.ow p d)) ↔ ∃ d,(blk k ix ρ)[k + j]? = some (.ow p d)) (kp : ∀ a o,H a = some o -> ¬ MA (blk k ix ρ) (zd3 k ix σ) a -> H' a = some o) :
  Rel K (back ρ ix (β.drop k)) σ H' /\ Stp ρ (back ρ ix (β.drop k)) σ H H':=by
 have hm : ∀ a,MA (blk k ix ρ) (zd3 k ix σ) a -> MA ρ σ a := fun a ⟨j,h⟩ => by
  obtain ⟨_,i,_,_,h⟩ := zh2 h
  exact ⟨i,h⟩
 have fz : Fzn H H' := fun a o h st => kp a o h fun m => by
  obtain ⟨o',e,w⟩ := r.zbG (hm a m)
  rw [h] at e
  cases e
  exact w.zdc st
 have mdB : ∀ (i : Nat) p,(∃ d,ρ[i]? = some (.ow p d)) ↔ ∃ d,(back ρ ix (β.drop k))[i]? = some (.ow p d) := fun i p => by
  rw [zlK]
  constructor
  ·rintro ⟨d,e⟩
   rw [e]
   simp only [Option.map_some,bk1]
   split
   ·rename_i p' d1 q' d2 h1 h2; cases h1; exact ⟨_,rfl⟩
   ·exact ⟨_,rfl⟩
  ·rintro ⟨d,e⟩
   cases er : ρ[i]? with
   | none => rw [er] at e; cases e
   | some x =>
    rw [er] at e
    simp only [Option.map_some,Option.some.injEq,bk1] at e
    split at e
    ·cases e; exact ⟨_,rfl⟩
    ·subst e; exact ⟨_,rfl⟩
 have atB : ∀ i a,At (back ρ ix (β.drop k)) σ i a -> At ρ σ i a := fun i a ⟨⟨p,d,e1⟩,e2⟩ => ⟨⟨p,(mdB i p).mpr ⟨d,e1⟩⟩,e2⟩
 refine ⟨⟨by rw [show (back ρ ix (β.drop k)).length = ρ.length from zkN _ _]; exact r.len,fun i x v e1 e2 => ?_,fun i j a h1 h2 => r.sep i j a (atB i a h1) (atB j a h2),r.cst.mono fz⟩,⟨mdB,fun a o h n => kp a o h fun m => n (hm a m)⟩⟩
 rw [zlK] at e1
 cases er : ρ[i]? with
 | none => rw [er] at e1; cases e1
 | some y =>
  rw [er] at e1
  simp only [Option.map_some,Option.some.injEq] at e1
  have o := r.ok i y v er e2
  cases y with
  | no => simp only [bk1] at e1; subst e1; trivial
  | val d =>
   simp only [bk1] at e1
   subst e1
   exact o.mono fz fun a _ ⟨p,d',z⟩ => nomatch z
  | ow p d =>
   cases v with
   | none => exact o.elim
   | some v =>
    cases v with
    | ref a =>
     have ai : At ρ σ i a := ⟨⟨p,d,er⟩,e2⟩
     cases el : (ix.zip (β.drop k)).lookup i with
     | none =>
      simp only [bk1,el] at e1
      subst e1
      refine o.mono fz fun b e3 _ => ?_
      cases e3
      obtain ⟨u,hu,_⟩ := r.zbG ⟨i,ai⟩
      rw [hu]
      refine kp a u hu fun ⟨j,h⟩ => ?_
      obtain ⟨j',i',rfl,ej,h'⟩ := zh2 h
      have := r.sep i i' a ai h'
      subst this
      have hb : β[k + j']? ≠ none := fun z => by
       have : ∃ d,β[k + j']? = some (.ow p d) := (md j' p).mpr ⟨d,by rw [zlJ,ej]; simp [er]⟩
       obtain ⟨_,w⟩ := this
       rw [z] at w; cases w
      cases hbe : β[k + j']? with
      | none => exact hb hbe
      | some c =>
       have : (β.drop k)[j']? = some c := by rw [List.getElem?_drop]; exact hbe
       rw [zeG nd ej this] at el
       cases el
     | some c =>
      obtain ⟨j,hj,hc⟩ := zhL el
      rw [List.getElem?_drop] at hc
      have bm : (blk k ix ρ)[k + j]? = some (.ow p d) := by rw [zlJ,hj]; simp [er]
      obtain ⟨d',hd'⟩ := (md j p).mpr ⟨d,bm⟩
      rw [hc] at hd'
      cases hd'
      simp only [bk1,el] at e1
      subst e1
      have es : σβ[k + j]? = some (some (.ref a)) := by rw [hs j,zn5,hj]; simp [e2]
      exact rb.ok (k + j) _ _ hc es
    | _ => exact o.elim
end
theorem ziO {K : PySem.W.Frag} {k : Nat} {dom : List Nat} {g : GF} (hd : dom.all (fun i => decide (i < k)) = true) : zkU k (tG K dom g) := fun x σ H Q => by
 rintro ⟨ρ,d,ρ1,rel,fz,e,q⟩
 refine ⟨ρ,d,ρ1,rel,fz,e,fun σ1 rel1 c => ⟨⟨c.1,fun i hi => ?_⟩,q σ1 rel1 c⟩⟩
 rcases c.2 i with ⟨_,c2⟩ | ⟨m,_⟩
 ·exact c2
 ·have := of_decide_eq_true (List.all_eq_true.mp hd i m)
  omega
def ztv (K : PySem.W.Frag) (X : Cx) (ifs : List Expr) (t : TF) : Prop := X.K = K -> PTs X ifs (tT K t)
theorem _root_.L2.PTs.weak {X : Cx} {e : List Expr} {t t' : TT} (h : PTs X e t) (w : ∀ σ H Q,t' σ H Q -> t σ H Q) : PTs X e t' := fun pins s σ H Q I q => h pins s σ H Q I (w σ H Q q)
theorem zdM {K : PySem.W.Frag} {X : Cx} : ztv K X [] zde := fun _ => zqR.weak fun σ H Q => by
 rintro ⟨ρ,rel,q⟩
 exact q.now rel
theorem zoR {K : PySem.W.Frag} {X : Cx} {c : Expr} {t : TF} (h : PVT K X c t) : ztv K X [c] t := fun hK => zqQ (h hK)
section
variable {K : PySem.W.Frag} {X : Cx} {elt tg iter : Expr} {ifs : List Expr} {scope : Scope} {pos : Pos} {it : IF} {g : GF} {t : TF} {f : EF} {dom : List Nat}
theorem zqj {k : Nat} {ix : List Nat} (nd : ix.Nodup) (hgo : dom.all (fun i => decide (i < k)) = true) (σ : L2.St) (H : Hp) (Q : VK) (q : tN K (zdA k ix it g t f) σ H Q) : zlS k ix (tI K it) (tG K dom g) (tT K t) (tV K f) σ H Q:=by
 revert q
 rintro ⟨ρ0,rel0,q⟩
 obtain ⟨x,ex,q⟩ := q.bnd
 refine ⟨ρ0,rel0,?_⟩
 rw [ex]
 intro H1 rel1 st1 J wk l hl
 obtain ⟨items,ρs⟩ := x
 have hl0 : H l = none:=by
  cases e : H l with
  | none => rfl
  | some o =>
   by_cases m : MA ρ0 σ l
   ·obtain ⟨o',e',_⟩ := rel1.zbG (st1.ma.mp m)
    rw [hl] at e'; cases e'
   ·rw [st1.kp l o e m] at hl; cases hl
 have sl : zaY H1 (upd H1 l (.lst [])) := zaY.upd hl
 refine ⟨fun i m ys H2 => m = items.length - i /\ i <= items.length /\ H2 l = some (.lst ys) /\ ∃ ρ acc,Rel K ρ σ H2 /\ ¬ MA ρ σ l /\ zak K H2 acc ys /\ Fzn H1 H2 /\ Stp ρ0 ρ σ H H2 /\
  Good K ρ0 σ H ((zg5 k ix g t f (items.drop i) ρ acc).bind fun (y : List D × En) => .ok ((PyData.list y.1 : D),y.2)) fun d ρ' H' => ∀ a,H a = none -> zbq K H' a d -> Q (.ref a) H',
  ⟨items.length,by simp,Nat.zero_le _,zas,ρs,[],rel1.same sl,fun z => ?_,by simp [zak],Fzn.of sl,st1.trans (.of sl),q⟩,?_⟩
 ·obtain ⟨o',e',_⟩ := rel1.zbG z
  rw [hl] at e'; cases e'
 rintro i m ys H2 ⟨rfl,hi,hly,ρ,acc,rel,nma,fa,fz,st0,gd⟩
 refine ⟨hly,?_⟩
 by_cases c : i < items.length
 ·have ed := List.drop_eq_getElem_cons c
  rw [ed] at gd
  obtain ⟨hgo',hy⟩ := wk.1 i items[i] H2 fz (List.getElem?_eq_getElem c)
  refine .inr ⟨hgo',fun x H3 y => ?_⟩
  obtain ⟨sm,fx⟩ := hy x H3 y
  have rel3 : Rel K ρ σ H3 := rel.same sm
  obtain ⟨w,ew,gd⟩ := gd.zeq
  obtain ⟨β1,e1,ew⟩ := zaq (show (g items[i] (blk k ix ρ)).bind _ = .ok w from ew)
  obtain ⟨c1,ec,ew⟩ := zaq ew
  refine ⟨blk k ix ρ,items[i],β1,zn9 nd rel3,fx,e1,fun σ1 relβ chg => ⟨β1,relβ,?_⟩⟩
  rw [ec]
  intro H5 rel5 st5
  have hσ : ∀ j,σ1[k + j]? = (zd3 k ix σ)[k + j]? := fun j => by
   rcases chg.2 (k + j) with ⟨_,c2⟩ | ⟨m,_⟩
   ·exact c2
   ·have := of_decide_eq_true (List.all_eq_true.mp hgo _ m)
    omega
  have hβ : ∀ j,β1[k + j]? = (blk k ix ρ)[k + j]? := fun j => by
   rcases chg.2 (k + j) with ⟨c2,_⟩ | ⟨m,_⟩
   ·exact c2
   ·have := of_decide_eq_true (List.all_eq_true.mp hgo _ m)
    omega
  have hMA : ∀ a,MA β1 σ1 a -> MA (blk k ix ρ) (zd3 k ix σ) a := fun a ⟨j,⟨p,d,z1⟩,z2⟩ => by
   rcases chg.2 j with ⟨c1,c2⟩ | ⟨_,⟨d',c1⟩,_⟩
   ·exact ⟨j,⟨p,d,by rw [<- c1]; exact z1⟩,by rw [<- c2]; exact z2⟩
   ·rw [c1] at z1; cases z1
  have hMB : ∀ a,MA (blk k ix ρ) (zd3 k ix σ) a -> MA ρ σ a := fun a ⟨j,h⟩ => by
   obtain ⟨_,i,_,_,h⟩ := zh2 h
   exact ⟨i,h⟩
  have h3l : H3 l = some (.lst ys) := sm l _ hly
  have n1 : ¬ MA β1 σ1 l := fun z => nma (hMB l (hMA l z))
  have h5l : H5 l = some (.lst ys) := st5.kp l _ h3l n1
  obtain ⟨cb,β2⟩ := c1
  cases cb with
  | true =>
   refine zqe ⟨β2,rel5,?_⟩
   obtain ⟨y,ey,ew⟩ := zaq (show (f β2).bind _ = .ok w from ew)
   rw [ey]
   intro H6 rel6 st6 v fv
   obtain ⟨cc,ew⟩ := zbi ew
   have n2 : ¬ MA β2 σ1 l := fun z => n1 (st5.ma.mpr z)
   have h6l : H6 l = some (.lst ys) := st6.kp l _ h5l n2
   have st : Stp β1 y.2 σ1 H3 H6 := st5.trans st6
   obtain ⟨rb,sb⟩ := zi4 (k:=k) nd rel3 hσ rel6 (fun j p => by rw [<- hβ j]; exact (st.md (k + j) p).symm) (fun a o h n => st.kp a o h fun z => n (hMA a z))
   have nmb : ¬ MA (back ρ ix (y.2.drop k)) σ l := fun z => nma (sb.ma.mpr z)
   have fz6 : Fzn H2 H6 := (Fzn.of sm).trans (sb.fzn rel3)
   have fz7 : Fzn H6 (upd H6 l (.lst (ys ++ [v]))) := fun b u e s => by
    rw [zay fun z => by subst z; rw [h6l] at e; cases e; exact s]
    exact e
   refine ⟨h6l,?_,items.length - (i + 1),by omega,rfl,c,zas,back ρ ix (y.2.drop k),acc ++ [y.1],rb.put nmb (fun u e => by rw [h6l] at e; cases e; exact fun z => z),nmb,?_,(fz.trans fz6).trans fz7,⟨((st0.trans (.of sm)).trans sb).md,fun a o h n => ?_⟩,?_⟩
   ·have := zjB cc
    have l0 := zcr
    rw [fa.len]; omega
   ·refine ((fa.mono fz6).mono fz7).app ?_
    simp only [zak]
    exact ⟨v,[],rfl,fv.mono fz7,rfl⟩
   ·rw [zay fun z => by subst z; rw [hl0] at h; cases h]
    exact ((st0.trans (.of sm)).trans sb).kp a o h n
   ·rw [ew]
    exact gd
  | false =>
   obtain ⟨rb,sb⟩ := zi4 (k:=k) nd rel3 hσ rel5 (fun j p => by rw [<- hβ j]; exact (st5.md (k + j) p).symm) (fun a o h n => st5.kp a o h fun z => n (hMA a z))
   have nmb : ¬ MA (back ρ ix (β2.drop k)) σ l := fun z => nma (sb.ma.mpr z)
   have fz6 : Fzn H2 H5 := (Fzn.of sm).trans (sb.fzn rel3)
   refine zqf ⟨items.length - (i + 1),by omega,rfl,c,h5l,back ρ ix (β2.drop k),acc,rb,nmb,fa.mono fz6,fz.trans fz6,(st0.trans (.of sm)).trans sb,?_⟩
   rw [show zg5 k ix g t f (items.drop (i + 1)) (back ρ ix (β2.drop k)) acc = .ok w from ew]
   exact gd
 ·have e : i = items.length := by omega
  subst e
  rw [List.drop_length] at gd
  exact .inl ⟨wk.2 _ H2 fz (Nat.le_refl _),gd H2 rel st0 l hl0 ⟨ys,hly,fa⟩⟩
theorem zf9 (L : List Str) (ix : List Nat) (M : List Str) (hc : X.calm = true) (hk : scope.kind = .function) (hd : zc4 X.env.scope scope X.N ix = true) (hM : M = L ++ ix.map fun i => X.N.getD i "") (nd : ix.Nodup) (hi : PVI K X tg iter it)
  (hg : ∀ C s₃ H₃ fp,PVG K (zaA X M scope C s₃ H₃ fp) dom tg g) (hgo : dom.all (fun i => decide (i < L.length)) = true)
  (ht : ∀ C s₃ H₃ fp,ztv K (zaA X M scope C s₃ H₃ fp) ifs t) (he : ∀ C s₃ H₃ fp,PV K (zaA X M scope C s₃ H₃ fp) elt f)
  (hs : ∀ x,foldedSetIterable iter X.env x = pure x := by intro _; rfl) :
  PVN K X (.ListComp elt [⟨tg,iter,ifs,0⟩] scope pos) (zdA L.length ix it g t f) := fun hK => by
 refine (zpe L ix M hc hk hd hM (hi hK) (fun C s₃ H₃ fp => hg C s₃ H₃ fp hK) (ziO hgo) (fun C s₃ H₃ fp => ht C s₃ H₃ fp hK) (fun C s₃ H₃ fp => he C s₃ H₃ fp hK) hs).weak fun σ H Q q => zqj nd hgo σ H Q q
end
end FL
namespace FL
open PySem L2 PySem.Spec
open PyProof.Rows hiding St
variable [Cs]
def spF (K : PySem.W.Frag) (ms : List Bool) (fr : Bool) (F : List D -> R (D × List D)) : Sp := fun vs H Q _ => ∃ ds,vs.length = ms.length /\ ds.length = ms.length /\ Rel K (slots ms ds) (vs.map some) H /\
 ∃ d os,F ds = .ok (d,os) /\ ∀ v H',Rel K (slots ms os) (vs.map some) H' -> (∀ a o,H a = some o -> ¬ MA (slots ms ds) (vs.map some) a -> H' a = some o) ->
  (if fr = true then ∃ a,v = .ref a /\ H a = none /\ zbq K H' a d else Fz K H' d v) -> Q v H'
def spP (K : PySem.W.Frag) (n : Nat) (fr : Bool) (G : List D -> R D) : Sp := fun vs H Q _ => ∃ ds,vs.length = n /\ zqv H /\ zak K H ds vs /\ ∃ d,G ds = .ok d /\ ∀ v H',zaY H H' -> (if fr = true then ∃ a,v = .ref a /\ H a = none /\ zbq K H' a d else Fz K H' d v) -> Q v H'
theorem zbX : ∀ {ms : List Bool} {ds : List D} {i : Nat},ds.length = ms.length -> (slots ms ds)[i]? = (ms[i]?).bind fun m => (ds[i]?).map fun d => if m = true then Sl.ow true d else Sl.val d
 | [],[],i,_ => by simp [slots]
 | [],_ :: _,i,h => by simp at h
 | _ :: _,[],i,h => by simp at h
 | m :: ms,d :: ds,0,_ => by simp [slots]
 | m :: ms,d :: ds,i + 1,h => by
  simp only [slots,List.getElem?_cons_succ]
  exact zbX (by simpa using h)
theorem zdj : ∀ {ms : List Bool} {ds : List D},ds.length = ms.length -> (slots ms ds).length = ms.length
 | [],[],_ => rfl
 | [],_ :: _,h => by simp at h
 | _ :: _,[],h => by simp at h
 | m :: ms,d :: ds,h => by simp only [slots,List.length_cons]; rw [zdj (by simpa using h)]
theorem zeQ : ∀ {ms : List Bool} {ds : List D} {ρ : En},ds.length = ms.length -> (outs ms ds ρ).length = ms.length
 | [],[],_,_ => rfl
 | [],_ :: _,_,h => by simp at h
 | _ :: _,[],_,h => by simp at h
 | m :: ms,d :: ds,ρ,h => by simp only [outs,List.length_cons]; rw [zeQ (by simpa using h)]
theorem zlj : ∀ {ms : List Bool} {ds : List D} {ρ : En} {i : Nat} {m : Bool} {d : D},ms[i]? = some m -> ds[i]? = some d -> (outs ms ds ρ)[i]? = some (outD m d ρ[i]?)
 | m0 :: ms,d0 :: ds,ρ,0,m,d,h1,h2 => by
  simp at h1 h2
  subst h1; subst h2
  simp [outs,List.head?_eq_getElem?]
 | m0 :: ms,d0 :: ds,ρ,i + 1,m,d,h1,h2 => by
  simp at h1 h2
  simp only [outs,List.getElem?_cons_succ]
  rw [zlj h1 h2,List.getElem?_tail]
 | [],_,_,_,_,_,h,_ => by simp at h
 | _ :: _,[],_,_,_,_,_,h => by simp at h
section
variable {K : PySem.W.Frag} {ρ : En} {σ : L2.St} {H : Hp}
theorem Rel.pad (r : Rel K ρ σ H) (n : Nat) : Rel K (ρ ++ List.replicate n .no) (σ ++ List.replicate n none) H:=by
 have w : ∀ i a,At (ρ ++ List.replicate n .no) (σ ++ List.replicate n none) i a -> At ρ σ i a := fun i a ⟨⟨p,d,e1⟩,e2⟩ => by
  by_cases c : i < ρ.length
  ·rw [List.getElem?_append_left c] at e1
   rw [List.getElem?_append_left (by rw [<- r.len]; exact c)] at e2
   exact ⟨⟨p,d,e1⟩,e2⟩
  ·rw [List.getElem?_append_right (by omega),List.getElem?_replicate] at e1
   split at e1 <;> cases e1
 refine ⟨by simp [r.len],fun i x v e1 e2 => ?_,fun i j a h1 h2 => r.sep i j a (w i a h1) (w j a h2),r.cst⟩
 by_cases c : i < ρ.length
 ·rw [List.getElem?_append_left c] at e1
  rw [List.getElem?_append_left (by rw [<- r.len]; exact c)] at e2
  exact r.ok i x v e1 e2
 ·rw [List.getElem?_append_right (by omega),List.getElem?_replicate] at e1
  split at e1
  ·cases e1; trivial
  ·cases e1
theorem zsI {n : Nat} {a : Addr} (hl : ρ.length = σ.length) : MA (ρ ++ List.replicate n .no) (σ ++ List.replicate n none) a ↔ MA ρ σ a:=by
 constructor
 ·rintro ⟨i,⟨p,d,e1⟩,e2⟩
  by_cases c : i < ρ.length
  ·rw [List.getElem?_append_left c] at e1
   rw [List.getElem?_append_left (by rw [<- hl]; exact c)] at e2
   exact ⟨i,⟨p,d,e1⟩,e2⟩
  ·rw [List.getElem?_append_right (by omega),List.getElem?_replicate] at e1
   split at e1 <;> cases e1
 ·rintro ⟨i,⟨p,d,e1⟩,e2⟩
  have c := (List.getElem?_eq_some_iff.mp e1).1
  exact ⟨i,⟨p,d,by rw [List.getElem?_append_left c]; exact e1⟩,by rw [List.getElem?_append_left (by rw [<- hl]; exact c)]; exact e2⟩
end
theorem zdL {ms : List Bool} {ds : List D} {i : Nat} {p : Bool} {d : D} (hl : ds.length = ms.length) (e : (slots ms ds)[i]? = some (.ow p d)) : p = true /\ ms[i]? = some true /\ ds[i]? = some d:=by
 rw [zbX hl] at e
 cases em : ms[i]? with
 | none => rw [em] at e; cases e
 | some m =>
  cases ed : ds[i]? with
  | none => rw [em,ed] at e; cases e
  | some d' =>
   rw [em,ed] at e
   cases m with
   | true => simp at e; exact ⟨e.1,rfl,by rw [e.2]⟩
   | false => simp at e
section
variable {P : Program} {w : World} {K : PySem.W.Frag} {mg : Str -> Option Value} {base : Heap}
theorem znR {x : Str} {st : Stmt} {f : Addr} {fd : FuncData} {N ps : List Str} {k : Nat} {b : SF} (ms : List Bool) (fr : Bool) (h : Fun K x x st f fd) (S : zaz N ps (zao st)) (hps : ps.length = ms.length) (hpN : ps.length <= N.length)
  (hb : ∀ (cdv : Value) (A : Around) (outer : List Env) (s : Shared) (H : Hp) (E : XK),zdT k (A.deeper (envOfC x (zao st) s.heap.objs.size f cdv)) -> zms K (zqo (CXe P w) P w K mg base N x (zao st) f cdv A outer s H E) (zcy st) b) :
  zie P w K mg base (CXe P w) (k + 1) f fd ps (spF K ms fr (run ms fr N.length b)):=by
 refine h.okE S (fun vs H Q E ⟨ds,e,_⟩ => by rw [e,hps]) fun cdv A outer s H vs Q E hr hq => ?_
 obtain ⟨ds,hv,hd,rel,d,os,hF,q⟩ := hq
 have hst : L2.start N vs = vs.map some ++ List.replicate (N.length - ds.length) none := by unfold L2.start; rw [hv,hd]
 refine ⟨tS K ⟨H,L2.start N vs,slots ms ds ++ List.replicate (N.length - ds.length) .no⟩ b,hb cdv A outer s H E hr rfl _,slots ms ds ++ List.replicate (N.length - ds.length) .no,?_,?_⟩
 ·have tru : ∀ (i : Nat) p d,(slots ms ds ++ List.replicate (N.length - ds.length) .no)[i]? = some (.ow p d) -> p = true := fun i p d e => by
   by_cases c : i < (slots ms ds).length
   ·rw [List.getElem?_append_left c] at e
    exact (zdL hd e).1
   ·rw [List.getElem?_append_right (by omega),List.getElem?_replicate] at e
    split at e <;> cases e
  refine ⟨?_,fun a o e _ => e,fun i a d e _ => absurd (tru i false d e) Bool.false_ne_true,fun i => Iff.rfl,fun i d e => rfl,tru⟩
  rw [hst]
  exact rel.pad _
 ·unfold run at hF
  rw [if_pos hd] at hF
  obtain ⟨y,ey,hF⟩ := zaq hF
  rw [ey]
  have fin : ∀ (ρ' : En) (σ' : L2.St) (H' : Hp),zd5 K ⟨H,L2.start N vs,slots ms ds ++ List.replicate (N.length - ds.length) .no⟩ ρ' σ' H' ->
    Rel K (slots ms (outs ms ds ρ')) (vs.map some) H' /\ (∀ a o,H a = some o -> ¬ MA (slots ms ds) (vs.map some) a -> H' a = some o) := fun ρ' σ' H' r => by
   have hl0 : (slots ms ds).length = (vs.map some).length := by rw [zdj hd,List.length_map,hv]
   have kp : ∀ a o,H a = some o -> ¬ MA (slots ms ds) (vs.map some) a -> H' a = some o := fun a o e n => r.keep a o e fun z => n (by
    have z' : MA (slots ms ds ++ List.replicate (N.length - ds.length) .no) (L2.start N vs) a := z
    rw [hst] at z'
    exact (zsI hl0).mp z')
   have fz : Fzn H H' := fun a o e sy => kp a o e fun m => by
    obtain ⟨o',e',ow⟩ := rel.zbG m
    rw [e] at e'
    cases e'
    exact ow.zdc sy
   refine ⟨?_,kp⟩
   have pinned : ∀ (i : Nat) d0,ms[i]? = some true -> ds[i]? = some d0 -> ∃ d',ρ'[i]? = some (.ow true d') /\ σ'[i]? = (vs.map some)[i]? := fun i d0 em ed => by
    have hi : i < (slots ms ds).length := by rw [zdj hd]; exact (List.getElem?_eq_some_iff.mp em).1
    have e0 : (slots ms ds ++ List.replicate (N.length - ds.length) .no)[i]? = some (.ow true d0):=by
     rw [List.getElem?_append_left hi,zbX hd,em,ed]; rfl
    obtain ⟨d',e'⟩ := (r.pin i).mpr ⟨d0,e0⟩
    refine ⟨d',e',?_⟩
    rw [r.fix i d' e']
    show (L2.start N vs)[i]? = _
    rw [hst,List.getElem?_append_left (by rw [<- hl0]; exact hi)]
   have ho : (outs ms ds ρ').length = ms.length := zeQ hd
   refine ⟨by rw [zdj ho,List.length_map,hv],fun i x v e1 e2 => ?_,fun i j a h1 h2 => ?_,rel.cst.mono fz⟩
   ·rw [zbX ho] at e1
    cases em : ms[i]? with
    | none => rw [em] at e1; cases e1
    | some m =>
     have hi : i < ds.length := by rw [hd]; exact (List.getElem?_eq_some_iff.mp em).1
     have ed := List.getElem?_eq_getElem hi
     rw [em,zlj em ed] at e1
     cases m with
     | true =>
      obtain ⟨d',e3,e4⟩ := pinned i _ em ed
      rw [e3] at e1
      cases e1
      rw [<- e4] at e2
      exact r.rel.ok i _ _ e3 e2
     | false =>
      cases e1
      have e5 : (slots ms ds)[i]? = some (.val ds[i]) := by rw [zbX hd,em,ed]; rfl
      exact (rel.ok i _ _ e5 e2).mono fz fun a _ ⟨p,d',z⟩ => nomatch z
   ·have w : ∀ i a,At (slots ms (outs ms ds ρ')) (vs.map some) i a -> At (slots ms ds) (vs.map some) i a := fun i a ⟨⟨p,d0,e1⟩,e2⟩ => by
     obtain ⟨rfl,em,_⟩ := zdL ho e1
     have hi : i < ds.length := by rw [hd]; exact (List.getElem?_eq_some_iff.mp em).1
     have ed := List.getElem?_eq_getElem hi
     exact ⟨⟨true,ds[i],by rw [zbX hd,em,ed]; rfl⟩,e2⟩
    exact rel.sep i j a (w i a h1) (w j a h2)
  obtain ⟨fl,ρ'⟩ := y
  cases fr with
  | false =>
   cases fl with
   | rt dr =>
    cases hF
    exact fun v σ' H' r fz => q v H' (fin ρ' σ' H' r).1 (fin ρ' σ' H' r).2 fz
   | nx =>
    cases hF
    exact fun σ' H' r fz => q .non H' (fin ρ' σ' H' r).1 (fin ρ' σ' H' r).2 (by show Fz K H' .none .non; simp [Fz])
   | _ => cases hF
  | true =>
   cases fl with
   | rf dr =>
    cases hF
    exact fun a σ' H' r ha m => q (.ref a) H' (fin ρ' σ' H' r).1 (fin ρ' σ' H' r).2 ⟨a,rfl,ha,m⟩
   | _ => cases hF
theorem zaQ {x : Str} {st : Stmt} {N ps : List Str} {k : Nat} {b : SF} (ms : List Bool) (fr : Bool) (h : Has K mg x st) (S : zaz N ps (zao st)) (hps : ps.length = ms.length) (hpN : ps.length <= N.length)
  (hbi : ∀ (kV doc pm : Value) (an : Option Addr) (cdv ct : Value) (us : List Value),us.length = ps.length -> bindArgs (PySem.W.fnOf x x (zep st) (zcy st) (zao st) .none kV doc pm an cdv ct) ⟨us,[]⟩ = pure (ps.zip us))
  (hb : ∀ (f : Addr) (cdv : Value) (A : Around) (outer : List Env) (s : Shared) (H : Hp) (E : XK),zdT k (A.deeper (envOfC x (zao st) s.heap.objs.size f cdv)) -> zms K (zqo (CXe P w) P w K mg base N x (zao st) f cdv A outer s H E) (zcy st) b) :
  Callee P w K mg base x (k + 1) ps (spF K ms fr (run ms fr N.length b)):=by
 obtain ⟨f,fd,hm,F⟩ := h
 exact ⟨f,fd,hm,F.kp,F.binds hbi,znR ms fr F S hps hpN (hb f)⟩
end
end FL
namespace FL
open PySem L2 PySem.Spec
open PyProof.Rows hiding St
variable [Cs]
theorem zeb : ∀ {n : Nat} {ds : List D},ds.length = n -> slots (List.replicate n false) ds = ds.map Sl.val
 | 0,[],_ => rfl
 | n + 1,d :: ds,h => by
  simp only [List.replicate_succ,slots,List.map_cons]
  rw [zeb (by simpa using h)]
  rfl
 | 0,_ :: _,h => by simp at h
 | n + 1,[],h => by simp at h
theorem zoN {K : PySem.W.Frag} {H : Hp} : ∀ {ds : List D} {vs : List V},zqv H -> zak K H ds vs -> Rel K (ds.map Sl.val) (vs.map some) H := fun {ds vs} cst f => by
 refine ⟨by simp [f.len],fun i x v e1 e2 => ?_,fun i j a ⟨⟨p,d,e⟩,_⟩ => ?_,cst⟩
 ·rw [List.getElem?_map] at e1 e2
  cases ed : ds[i]? with
  | none => rw [ed] at e1; cases e1
  | some d =>
   obtain ⟨u,eu,fu⟩ := f.get ed
   rw [ed] at e1
   rw [eu] at e2
   cases e1; cases e2
   exact fu
 ·rw [List.getElem?_map] at e
  cases ed : ds[i]? with
  | none => rw [ed] at e; cases e
  | some d => rw [ed] at e; cases e
theorem zlZ {ds : List D} {σ : L2.St} {a : Addr} : ¬ MA (ds.map Sl.val) σ a:=by
 rintro ⟨i,⟨p,d,e⟩,_⟩
 rw [List.getElem?_map] at e
 cases ed : ds[i]? with
 | none => rw [ed] at e; cases e
 | some d => rw [ed] at e; cases e
section
variable {P : Program} {w : World} {K : PySem.W.Frag} {mg : Str -> Option Value} {base : Heap} {x : Str} {k : Nat} {ps : List Str}
theorem zie.pure {f : Addr} {fd : FuncData} {n m : Nat} {fr : Bool} {b : SF} (F : zie P w K mg base (CXe P w) k f fd ps (spF K (List.replicate n false) fr (run (List.replicate n false) fr m b))) : zie P w K mg base (CXe P w) k f fd ps (spP K n fr (zbD fr n m b)):=by
 refine F.imp fun vs H Q E => ?_
 rintro ⟨ds,hv,cst,f,d,e,q⟩
 have hd : ds.length = n := by rw [<- f.len,hv]
 obtain ⟨y,ey,e⟩ := zaq e
 cases e
 refine ⟨ds,by simpa using hv,by simpa using hd,by rw [zeb hd]; exact zoN cst f,y.1,y.2,by rw [ey],fun v H' r kp fin => q v H' (fun a o e => kp a o e (by rw [zeb hd]; exact zlZ)) fin⟩
theorem Callee.pure {n m : Nat} {fr : Bool} {b : SF} (c : Callee P w K mg base x k ps (spF K (List.replicate n false) fr (run (List.replicate n false) fr m b))) : Callee P w K mg base x k ps (spP K n fr (zbD fr n m b)):=by
 obtain ⟨f,fd,h1,h2,h3,F⟩ := c
 exact ⟨f,fd,h1,h2,h3,zie.pure F⟩
end
def zty (fa : AF) (n : Nat) : Prop := ∀ ρ y,fa ρ = .ok y -> y.1.length = n
theorem zat : zty zau 0 := fun ρ y h => by cases h; rfl
theorem zag {f : EF} {a : AF} {n : Nat} (h : zty a n) : zty (zac f a) (n + 1) := fun ρ y e => by
 obtain ⟨x,_,e⟩ := zaq (show (f ρ).bind _ = .ok y from e)
 obtain ⟨z,e2,e⟩ := zaq e
 cases e
 simp [h _ _ e2]
section
variable {K : PySem.W.Frag} {X : Cx} {k j n : Nat} {ps : List Str} {E : XK} {x : Str} {p pos : Pos} {e : Expr} {es : List Expr} {G : List D -> R D} {fa : AF}
theorem zaJ (c : Callee X.prog X.w X.K X.mg X.base x k ps (spP X.K n false G)) (hr : zdT j X.A) (hg : Gl X x) (hx : Passes (CXe X.prog X.w) X E) (ha : PVA K X (e :: es) fa) (hl : zty fa n) (hj : k <= j := by decide) (hdb : (x == ("__debug__" : Str)) = false := by decide)
  (he : starEach (e :: es) X.env = (false,eval e X.env) :: starEach es X.env := by rfl) (hpl : (backTo pos (starEach es X.env)).any (·.1) = false := by rfl) : PV K X (.Call (.Name x p) (e :: es) [] pos) (zal G fa) := fun hK => by
 subst hK
 refine (zeP c hr hg hx (ha rfl) hj hdb he hpl).weak fun σ H Q => ?_
 rintro ⟨ρ,rel,q⟩
 obtain ⟨y,ey,q0⟩ := q.bnd
 have hy := hl ρ y ey
 refine ⟨ρ,rel,?_⟩
 rw [ey]
 intro H1 rel1 st1 vs fs
 obtain ⟨d,ed,q2⟩ := (q0.step st1).zeq
 rw [List.append_nil]
 exact ⟨y.1,by rw [fs.len,hy],rel1.cst,fs,d,ed,fun v H' s fin => q2.new rel1 s v fin⟩
theorem zbj (c : Callee X.prog X.w X.K X.mg X.base x k ps (spP X.K n true G)) (hr : zdT j X.A) (hg : Gl X x) (hx : Passes (CXe X.prog X.w) X E) (ha : PVA K X (e :: es) fa) (hl : zty fa n) (hj : k <= j := by decide) (hdb : (x == ("__debug__" : Str)) = false := by decide)
  (he : starEach (e :: es) X.env = (false,eval e X.env) :: starEach es X.env := by rfl) (hpl : (backTo pos (starEach es X.env)).any (·.1) = false := by rfl) : PVN K X (.Call (.Name x p) (e :: es) [] pos) (zal G fa) := fun hK => by
 subst hK
 refine (zeP c hr hg hx (ha rfl) hj hdb he hpl).weak fun σ H Q => ?_
 rintro ⟨ρ,rel,q⟩
 obtain ⟨y,ey,q0⟩ := q.bnd
 have hy := hl ρ y ey
 refine ⟨ρ,rel,?_⟩
 rw [ey]
 intro H1 rel1 st1 vs fs
 obtain ⟨d,ed,q2⟩ := (q0.step st1).zeq
 rw [List.append_nil]
 refine ⟨y.1,by rw [fs.len,hy],rel1.cst,fs,d,ed,fun v H' s fin => ?_⟩
 obtain ⟨a,rfl,ha,m⟩ := fin
 refine q2.new rel1 s a ?_ m
 cases e0 : H a with
 | none => rfl
 | some o =>
  by_cases mm : MA ρ σ a
  ·obtain ⟨o',e',_⟩ := rel1.zbG (st1.ma.mp mm)
   rw [ha] at e'; cases e'
  ·rw [st1.kp a o e0 mm] at ha; cases ha
def zi9 (K : PySem.W.Frag) (σ : L2.St) (H₀ H : Hp) : List Itm -> List V -> Prop
 | [],vs => vs = []
 | .vd d :: r,vs => ∃ v t,vs = v :: t /\ Fz K H d v /\ zi9 K σ H₀ H r t
 | .mi i :: r,vs => ∃ v t,vs = v :: t /\ σ[i]? = some (some v) /\ zi9 K σ H₀ H r t
 | .td d :: r,vs => ∃ a t,vs = .ref a :: t /\ zbq K H a d /\ H₀ a = none /\ zi9 K σ H₀ H r t
theorem Stp.old {ρ ρ1 : En} {σ : L2.St} {H H1 : Hp} (st : Stp ρ ρ1 σ H H1) (rel1 : Rel K ρ1 σ H1) {a : Addr} (ha : H1 a = none) : H a = none:=by
 cases e0 : H a with
 | none => rfl
 | some o =>
  by_cases mm : MA ρ σ a
  ·obtain ⟨o',e',_⟩ := rel1.zbG (st.ma.mp mm)
   rw [ha] at e'; cases e'
  ·rw [st.kp a o e0 mm] at ha; cases ha
theorem zi9.back {σ : L2.St} {H H1 H2 : Hp} (h : ∀ a,H1 a = none -> H a = none) : ∀ {l : List Itm} {vs : List V},zi9 K σ H1 H2 l vs -> zi9 K σ H H2 l vs
 | [],vs,z => z
 | .vd d :: r,vs,z => by
  obtain ⟨v,t,e,f,z⟩ := z
  exact ⟨v,t,e,f,zi9.back h z⟩
 | .mi i :: r,vs,z => by
  obtain ⟨v,t,e,f,z⟩ := z
  exact ⟨v,t,e,f,zi9.back h z⟩
 | .td d :: r,vs,z => by
  obtain ⟨v,t,e,f,g,z⟩ := z
  exact ⟨v,t,e,f,h _ g,zi9.back h z⟩
def tAr (K : PySem.W.Frag) (a : List Ar) : TA := fun σ H Q => ∃ ρ,Rel K ρ σ H /\ Good K ρ σ H (zj7 a ρ) fun l _ H' => ∀ vs,zi9 K σ H H' l vs -> Q vs H'
def zrJ (K : PySem.W.Frag) (X : Cx) (es : List Expr) (a : List Ar) : Prop := X.K = K -> PA X es (tAr K a)
theorem zbe : zrJ K X [] [] := fun _ => zjr.weak fun σ H Q => by
 rintro ⟨ρ,rel,q⟩
 exact q.now rel [] rfl
theorem zbE {f : EF} {a : List Ar} (he : PV K X e f) (hr : zrJ K X es a) (hs : starEach (e :: es) X.env = (false,eval e X.env) :: starEach es X.env := by rfl) : zrJ K X (e :: es) (.v f :: a) := fun hK => (zdr (he hK) (hr hK) hs).weak fun σ H Q => by
 rintro ⟨ρ,rel,q⟩
 refine goV rel q fun dx ρ1 x H1 rel1 st1 fx q1 => ?_
 obtain ⟨y,ey,q2⟩ := q1.bnd
 refine ⟨ρ1,rel1,?_⟩
 rw [ey]
 exact fun H2 rel2 st2 vs it => (q2.step st2).now rel2 _ ⟨x,vs,rfl,fx.mono (st2.fzn rel1),it.back fun a ha => st1.old rel1 ha⟩
theorem zcq {a : List Ar} {y : Str} {py : Pos} (i : Nat) (ha : PE X (.Name y py) (zkb i)) (hr : zrJ K X es a) (hs : starEach (.Name y py :: es) X.env = (false,eval (.Name y py) X.env) :: starEach es X.env := by rfl) : zrJ K X (.Name y py :: es) (.m i :: a) := fun hK => (zdr ha (hr hK) hs).weak fun σ H Q => by
 rintro ⟨ρ,rel,q⟩
 obtain ⟨d,ed,q1⟩ := (show Good K ρ σ H ((zaH ρ i).bind fun _ => (zj7 a ρ).bind fun y => .ok (.mi i :: y.1,y.2)) _ from q).zeq
 obtain ⟨ad,at0,_⟩ := rel.zkc ed
 obtain ⟨y,ey,q2⟩ := q1.bnd
 refine ⟨.ref ad,at0.2,ρ,rel,?_⟩
 rw [ey]
 exact fun H2 rel2 st2 vs it => (q2.step st2).now rel2 _ ⟨.ref ad,vs,rfl,at0.2,it⟩
def arM : List Ar -> List Bool
 | [] => []
 | .v _ :: r => false :: arM r
 | .m _ :: r => true :: arM r
 | .t _ :: r => true :: arM r
def arI : List Ar -> List Nat
 | [] => []
 | .v _ :: r => arI r
 | .m i :: r => i :: arI r
 | .t _ :: r => arI r
def arT : List Ar -> Nat
 | [] => 0
 | .v _ :: r => arT r
 | .m _ :: r => arT r
 | .t _ :: r => arT r + 1
def isR : Itm -> Bool
 | .vd _ => false
 | _ => true
def zrV : Itm -> Option Nat
 | .mi i => some i
 | _ => none
def isT : Itm -> Bool
 | .td _ => true
 | _ => false
theorem zdS : ∀ {a : List Ar} {ρ : En} {y : List Itm × En},zj7 a ρ = .ok y -> y.1.map isR = arM a /\ y.1.filterMap zrV = arI a /\ y.1.countP isT = arT a
 | [],ρ,y,h => by cases h; exact ⟨rfl,rfl,rfl⟩
 | .v f :: r,ρ,y,h => by
  obtain ⟨x,_,h⟩ := zaq (show (f ρ).bind _ = .ok y from h)
  obtain ⟨z,e,h⟩ := zaq h
  cases h
  obtain ⟨h1,h2,h3⟩ := zdS e
  simp only [List.map_cons,List.filterMap_cons]
  exact ⟨by rw [h1]; rfl,h2,by rw [List.countP_cons_of_neg (by simp [isT])]; exact h3⟩
 | .m i :: r,ρ,y,h => by
  obtain ⟨_,_,h⟩ := zaq (show (zaH ρ i).bind _ = .ok y from h)
  obtain ⟨z,e,h⟩ := zaq h
  cases h
  obtain ⟨h1,h2,h3⟩ := zdS e
  simp only [List.map_cons,List.filterMap_cons]
  exact ⟨by rw [h1]; rfl,by rw [h2]; rfl,by rw [List.countP_cons_of_neg (by simp [isT])]; exact h3⟩
 | .t f :: r,ρ,y,h => by
  obtain ⟨x,_,h⟩ := zaq (show (f ρ).bind _ = .ok y from h)
  obtain ⟨z,e,h⟩ := zaq h
  cases h
  obtain ⟨h1,h2,h3⟩ := zdS e
  simp only [List.map_cons,List.filterMap_cons]
  exact ⟨by rw [h1]; rfl,h2,by rw [List.countP_cons_of_pos (by simp [isT]),h3]; rfl⟩
theorem zdR {ρ : En} : ∀ {l : List Itm} {ds : List D},zia ρ l = .ok ds -> ds.length = l.length /\ ∀ (j : Nat) z,l[j]? = some z -> ∃ d,ds[j]? = some d /\ (match z with | .vd d' => d = d' | .mi i => zaH ρ i = .ok d | .td d' => d = d')
 | [],ds,h => by cases h; exact ⟨rfl,fun j z e => by simp at e⟩
 | .vd d :: r,ds,h => by
  obtain ⟨ds',e,h⟩ := zaq (show (zia ρ r).bind _ = .ok ds from h)
  cases h
  obtain ⟨h1,h2⟩ := zdR e
  refine ⟨by simp [h1],fun j z ez => ?_⟩
  cases j with
  | zero => simp at ez; subst ez; exact ⟨d,rfl,rfl⟩
  | succ j => obtain ⟨d',h3,h4⟩ := h2 j z (by simpa using ez); exact ⟨d',by simpa using h3,h4⟩
 | .td d :: r,ds,h => by
  obtain ⟨ds',e,h⟩ := zaq (show (zia ρ r).bind _ = .ok ds from h)
  cases h
  obtain ⟨h1,h2⟩ := zdR e
  refine ⟨by simp [h1],fun j z ez => ?_⟩
  cases j with
  | zero => simp at ez; subst ez; exact ⟨d,rfl,rfl⟩
  | succ j => obtain ⟨d',h3,h4⟩ := h2 j z (by simpa using ez); exact ⟨d',by simpa using h3,h4⟩
 | .mi i :: r,ds,h => by
  obtain ⟨d,e0,h⟩ := zaq (show (zaH ρ i).bind _ = .ok ds from h)
  obtain ⟨ds',e,h⟩ := zaq h
  cases h
  obtain ⟨h1,h2⟩ := zdR e
  refine ⟨by simp [h1],fun j z ez => ?_⟩
  cases j with
  | zero => simp at ez; subst ez; exact ⟨d,rfl,e0⟩
  | succ j => obtain ⟨d',h3,h4⟩ := h2 j z (by simpa using ez); exact ⟨d',by simpa using h3,h4⟩
theorem zi9.get {σ : L2.St} {H₀ H : Hp} : ∀ {l : List Itm} {vs : List V},zi9 K σ H₀ H l vs -> vs.length = l.length /\ ∀ (j : Nat) z,l[j]? = some z -> ∃ v,vs[j]? = some v /\ (match z with | .vd d => Fz K H d v | .mi i => σ[i]? = some (some v) | .td d => ∃ a,v = .ref a /\ zbq K H a d /\ H₀ a = none)
 | [],vs,h => by cases (show vs = [] from h); exact ⟨rfl,fun j z e => by simp at e⟩
 | .vd d :: r,vs,h => by
  obtain ⟨v,t,rfl,f,h⟩ := h
  obtain ⟨h1,h2⟩ := zi9.get h
  refine ⟨by simp [h1],fun j z ez => ?_⟩
  cases j with
  | zero => simp at ez; subst ez; exact ⟨v,rfl,f⟩
  | succ j => obtain ⟨d',h3,h4⟩ := h2 j z (by simpa using ez); exact ⟨d',by simpa using h3,h4⟩
 | .mi i :: r,vs,h => by
  obtain ⟨v,t,rfl,f,h⟩ := h
  obtain ⟨h1,h2⟩ := zi9.get h
  refine ⟨by simp [h1],fun j z ez => ?_⟩
  cases j with
  | zero => simp at ez; subst ez; exact ⟨v,rfl,f⟩
  | succ j => obtain ⟨d',h3,h4⟩ := h2 j z (by simpa using ez); exact ⟨d',by simpa using h3,h4⟩
 | .td d :: r,vs,h => by
  obtain ⟨v,t,rfl,f,g,h⟩ := h
  obtain ⟨h1,h2⟩ := zi9.get h
  refine ⟨by simp [h1],fun j z ez => ?_⟩
  cases j with
  | zero => simp at ez; subst ez; exact ⟨_,rfl,v,rfl,f,g⟩
  | succ j => obtain ⟨d',h3,h4⟩ := h2 j z (by simpa using ez); exact ⟨d',by simpa using h3,h4⟩
end
end FL
namespace FL
open PySem L2 PySem.Spec
open PyProof.Rows hiding St
variable [Cs]
section
variable {K : PySem.W.Frag} {ρ : En} {σ : L2.St} {H H' : Hp}
theorem zsw {m : List (Nat × Sl)} (r : Rel K ρ σ H) (hA : ∀ i c,m.lookup i = some c -> ∀ a,At ρ σ i a -> ∃ q d,c = .ow q d /\ zbq K H' a d) (hB : ∀ i a,At ρ σ i a -> m.lookup i = none -> H' a = H a) (fz : Fzn H H') :
  Rel K (bkL m 0 ρ) σ H' /\ ∀ (i : Nat) p,(∃ d,ρ[i]? = some (.ow p d)) ↔ ∃ d,(bkL m 0 ρ)[i]? = some (.ow p d):=by
 have gt : ∀ i : Nat,(bkL m 0 ρ)[i]? = (ρ[i]?).map (bk1 m i) := fun i => by rw [zkO,Nat.zero_add]
 have mdB : ∀ (i : Nat) p,(∃ d,ρ[i]? = some (.ow p d)) ↔ ∃ d,(bkL m 0 ρ)[i]? = some (.ow p d) := fun i p => by
  rw [gt]
  constructor
  ·rintro ⟨d,e⟩
   rw [e]
   simp only [Option.map_some,bk1]
   split
   ·rename_i p' d1 q' d2 h1 h2; cases h1; exact ⟨_,rfl⟩
   ·exact ⟨_,rfl⟩
  ·rintro ⟨d,e⟩
   cases er : ρ[i]? with
   | none => rw [er] at e; cases e
   | some x =>
    rw [er] at e
    simp only [Option.map_some,Option.some.injEq,bk1] at e
    split at e
    ·cases e; exact ⟨_,rfl⟩
    ·subst e; exact ⟨_,rfl⟩
 have atB : ∀ i a,At (bkL m 0 ρ) σ i a -> At ρ σ i a := fun i a ⟨⟨p,d,e1⟩,e2⟩ => ⟨⟨p,(mdB i p).mpr ⟨d,e1⟩⟩,e2⟩
 refine ⟨⟨by rw [zkN]; exact r.len,fun i x v e1 e2 => ?_,fun i j a h1 h2 => r.sep i j a (atB i a h1) (atB j a h2),r.cst.mono fz⟩,mdB⟩
 rw [gt] at e1
 cases er : ρ[i]? with
 | none => rw [er] at e1; cases e1
 | some y =>
  rw [er] at e1
  simp only [Option.map_some,Option.some.injEq] at e1
  have o := r.ok i y v er e2
  cases y with
  | no => simp only [bk1] at e1; subst e1; trivial
  | val d =>
   simp only [bk1] at e1
   subst e1
   exact o.mono fz fun a _ ⟨p,d',z⟩ => nomatch z
  | ow p d =>
   cases v with
   | none => exact o.elim
   | some v =>
    cases v with
    | ref a =>
     have ai : At ρ σ i a := ⟨⟨p,d,er⟩,e2⟩
     cases el : m.lookup i with
     | none =>
      simp only [bk1,el] at e1
      subst e1
      exact o.mono fz fun b e3 _ => by cases e3; exact hB i a ai el
     | some c =>
      obtain ⟨q,d',rfl,mm⟩ := hA i c el a ai
      simp only [bk1,el] at e1
      subst e1
      exact mm
    | _ => exact o.elim
end
theorem zp7 : ∀ {l : List Itm} {j j' i : Nat},(l.filterMap zrV).Nodup -> l[j]? = some (.mi i) -> l[j']? = some (.mi i) -> j = j'
 | [],j,j',i,_,h,_ => by simp at h
 | z :: r,j,j',i,nd,h1,h2 => by
  have rest : (r.filterMap zrV).Nodup:=by
   rw [List.filterMap_cons] at nd
   cases z with
   | mi k => exact (List.nodup_cons.mp nd).2
   | _ => exact nd
  have mem : ∀ {j : Nat},r[j]? = some (.mi i) -> i ∈ r.filterMap zrV := fun h => List.mem_filterMap.mpr ⟨.mi i,List.mem_of_getElem? h,rfl⟩
  have hd : z = .mi i -> ∀ {j : Nat},r[j]? ≠ some (.mi i) := fun e j h => by
   subst e
   rw [List.filterMap_cons] at nd
   exact (List.nodup_cons.mp nd).1 (mem h)
  cases j with
  | zero =>
   cases j' with
   | zero => rfl
   | succ j' => exact absurd (by simpa using h2) (hd (by simpa using h1) (j:=j'))
  | succ j =>
   cases j' with
   | zero => exact absurd (by simpa using h1) (hd (by simpa using h2) (j:=j))
   | succ j' =>
    have := zp7 (l:=r) rest (by simpa using h1) (by simpa using h2)
    rw [this]
theorem zpW : ∀ {l : List Itm} {j j' : Nat} {d d' : D},l.countP isT <= 1 -> l[j]? = some (.td d) -> l[j']? = some (.td d') -> j = j'
 | [],j,j',d,d',_,h,_ => by simp at h
 | z :: r,j,j',d,d',c,h1,h2 => by
  have rest : r.countP isT <= 1:=by
   rw [List.countP_cons] at c; omega
  have none : isT z = true -> ∀ {j : Nat} {d : D},r[j]? ≠ some (.td d) := fun e j d h => by
   rw [List.countP_cons,if_pos e] at c
   have : 0 < r.countP isT := List.countP_pos_iff.mpr ⟨_,List.mem_of_getElem? h,rfl⟩
   omega
  cases j with
  | zero =>
   cases j' with
   | zero => rfl
   | succ j' =>
    have e : z = .td d := by simpa using h1
    subst e
    exact absurd (by simpa using h2) (none rfl (j:=j'))
  | succ j =>
   cases j' with
   | zero =>
    have e : z = .td d' := by simpa using h2
    subst e
    exact absurd (by simpa using h1) (none rfl (j:=j))
   | succ j' =>
    have := zpW (l:=r) rest (by simpa using h1) (by simpa using h2)
    rw [this]
theorem zc6 : ∀ {l : List Itm} {os : List D} {i : Nat} {c : Sl},(zhK l os).lookup i = some c -> ∃ (j : Nat) (d : D),l[j]? = some (.mi i) /\ os[j]? = some d /\ c = .ow true d
 | [],os,i,c,h => by simp [zhK] at h
 | z :: r,[],i,c,h => by cases z <;> simp [zhK] at h
 | .vd d :: r,o :: os,i,c,h => by
  obtain ⟨j,d',h1,h2,h3⟩ := zc6 (l:=r) (os:=os) (by simpa [zhK] using h)
  exact ⟨j + 1,d',by simpa using h1,by simpa using h2,h3⟩
 | .td d :: r,o :: os,i,c,h => by
  obtain ⟨j,d',h1,h2,h3⟩ := zc6 (l:=r) (os:=os) (by simpa [zhK] using h)
  exact ⟨j + 1,d',by simpa using h1,by simpa using h2,h3⟩
 | .mi k :: r,o :: os,i,c,h => by
  simp only [zhK] at h
  rw [List.lookup_cons] at h
  by_cases e : i = k
  ·subst e
   simp only [beq_self_eq_true] at h
   cases h
   exact ⟨0,o,rfl,rfl,rfl⟩
  ·rw [beq_false_of_ne e] at h
   obtain ⟨j,d',h1,h2,h3⟩ := zc6 (l:=r) (os:=os) h
   exact ⟨j + 1,d',by simpa using h1,by simpa using h2,h3⟩
theorem zgj : ∀ {l : List Itm} {os : List D} {i j : Nat} {d : D},l[j]? = some (.mi i) -> os[j]? = some d -> ∃ c,(zhK l os).lookup i = some c
 | [],os,i,j,d,h,_ => by simp at h
 | z :: r,[],i,j,d,_,h => by simp at h
 | .vd _ :: r,o :: os,i,j,d,h1,h2 => by
  cases j with
  | zero => simp at h1
  | succ j =>
   simp only [zhK]
   exact zgj (l:=r) (by simpa using h1) (by simpa using h2)
 | .td _ :: r,o :: os,i,j,d,h1,h2 => by
  cases j with
  | zero => simp at h1
  | succ j =>
   simp only [zhK]
   exact zgj (l:=r) (by simpa using h1) (by simpa using h2)
 | .mi k :: r,o :: os,i,j,d,h1,h2 => by
  simp only [zhK]
  rw [List.lookup_cons]
  by_cases e : i = k
  ·subst e
   simp
  ·rw [beq_false_of_ne e]
   cases j with
   | zero => simp at h1; exact absurd h1.symm e
   | succ j => exact zgj (l:=r) (by simpa using h1) (by simpa using h2)
section
variable {K : PySem.W.Frag} {ρ0 ρ : En} {σ : L2.St} {H0 H H' : Hp} {l : List Itm} {ds os : List D} {vs : List V} {ms : List Bool}
theorem zfv (rel : Rel K ρ σ H) (it : zi9 K σ H0 H l vs) (hi : zia ρ l = .ok ds) (hm : l.map isR = ms) {j : Nat} {a : Addr} (hd : ds.length = ms.length) (h : At (slots ms ds) (vs.map some) j a) : (∃ i,l[j]? = some (.mi i) /\ At ρ σ i a) \/ ∃ d,l[j]? = some (.td d) /\ H0 a = none:=by
 obtain ⟨v1,v2⟩ := it.get
 obtain ⟨d1,d2⟩ := zdR hi
 obtain ⟨⟨p,d,e1⟩,e2⟩ := h
 obtain ⟨rfl,em,ed⟩ := zdL hd e1
 rw [<- hm,List.getElem?_map] at em
 cases el : l[j]? with
 | none => rw [el] at em; cases em
 | some z =>
  rw [el] at em
  obtain ⟨v,ev,es⟩ := v2 j _ el
  obtain ⟨d',ed',em'⟩ := d2 j _ el
  rw [List.getElem?_map,ev] at e2
  cases e2
  cases z with
  | vd _ => cases em
  | mi i =>
   obtain ⟨q,eq⟩ := zgH em'
   exact .inl ⟨i,rfl,⟨q,d',eq⟩,es⟩
  | td d0 =>
   obtain ⟨b,eb,_,hb⟩ := es
   cases eb
   exact .inr ⟨d0,rfl,hb⟩
theorem zpT (r0 : Rel K ρ0 σ H0) (st : Stp ρ0 ρ σ H0 H) (rel : Rel K ρ σ H) (it : zi9 K σ H0 H l vs) (hi : zia ρ l = .ok ds) (hm : l.map isR = ms) (nd : (l.filterMap zrV).Nodup) (ct : l.countP isT <= 1) : ds.length = ms.length /\ vs.length = ms.length /\ Rel K (slots ms ds) (vs.map some) H:=by
 obtain ⟨v1,v2⟩ := it.get
 obtain ⟨d1,d2⟩ := zdR hi
 have hl : ms.length = l.length := by rw [<- hm,List.length_map]
 have hd : ds.length = ms.length := by rw [d1,hl]
 have hv : vs.length = ms.length := by rw [v1,hl]
 have apart : ∀ {i : Nat} {a : Addr},At ρ σ i a -> H0 a = none -> False := fun h1 h2 => by
  obtain ⟨o',e',_⟩ := r0.zbG (st.ma.mpr ⟨_,h1⟩)
  rw [h2] at e'; cases e'
 refine ⟨hd,hv,⟨by rw [zdj hd,List.length_map,hv],fun j x v e1 e2 => ?_,fun j j' a h1 h2 => ?_,rel.cst⟩⟩
 ·rw [zbX hd] at e1
  cases em : ms[j]? with
  | none => rw [em] at e1; cases e1
  | some m =>
   cases ed : ds[j]? with
   | none => rw [em,ed] at e1; cases e1
   | some d =>
    rw [em,ed] at e1
    rw [<- hm,List.getElem?_map] at em
    cases el : l[j]? with
    | none => rw [el] at em; cases em
    | some z =>
     rw [el] at em
     obtain ⟨u,eu,es⟩ := v2 j z el
     obtain ⟨d',ed',em'⟩ := d2 j z el
     rw [ed] at ed'
     cases ed'
     rw [List.getElem?_map,eu] at e2
     cases e2
     cases z with
     | vd dz =>
      cases em
      cases e1
      cases em'
      exact es
     | mi i =>
      cases em
      cases e1
      obtain ⟨q,eq⟩ := zgH em'
      have o := rel.ok i _ _ eq es
      show zrI K H (.ow true d) (some u)
      cases u with
      | ref a => exact o
      | _ => exact o.elim
     | td dz =>
      cases em
      cases e1
      cases em'
      obtain ⟨b,rfl,mb,_⟩ := es
      exact mb
 ·rcases zfv rel it hi hm hd h1 with ⟨i,e1,a1⟩ | ⟨d,e1,a1⟩
  ·rcases zfv rel it hi hm hd h2 with ⟨i',e2,a2⟩ | ⟨d,e2,a2⟩
   ·have := rel.sep i i' a a1 a2
    subst this
    exact zp7 nd e1 e2
   ·exact (apart a1 a2).elim
  ·rcases zfv rel it hi hm hd h2 with ⟨i',e2,a2⟩ | ⟨d,e2,a2⟩
   ·exact (apart a2 a1).elim
   ·exact zpW ct e1 e2
theorem zoh (r0 : Rel K ρ0 σ H0) (st : Stp ρ0 ρ σ H0 H) (rel : Rel K ρ σ H) (it : zi9 K σ H0 H l vs) (hi : zia ρ l = .ok ds) (hm : l.map isR = ms) (hd : ds.length = ms.length) (ho : os.length = ms.length) (ra : Rel K (slots ms os) (vs.map some) H') (hC : ∀ a o,H a = some o -> ¬ MA (slots ms ds) (vs.map some) a -> H' a = some o) :
  Rel K (zi6 ρ l os) σ H' /\ Stp ρ0 (zi6 ρ l os) σ H0 H':=by
 obtain ⟨v1,v2⟩ := it.get
 obtain ⟨d1,d2⟩ := zdR hi
 have hl : ms.length = l.length := by rw [<- hm,List.length_map]
 have apart : ∀ {i : Nat} {a : Addr},At ρ σ i a -> H0 a = none -> False := fun h1 h2 => by
  obtain ⟨o',e',_⟩ := r0.zbG (st.ma.mpr ⟨_,h1⟩)
  rw [h2] at e'; cases e'
 have kp0 : ∀ a o,H0 a = some o -> ¬ MA ρ0 σ a -> H' a = some o := fun a o e n => hC a o (st.kp a o e n) fun ⟨j,h⟩ => by
  rcases zfv rel it hi hm hd h with ⟨i,_,a1⟩ | ⟨d,_,a1⟩
  ·exact n (st.ma.mpr ⟨i,a1⟩)
  ·rw [e] at a1; cases a1
 have fz : Fzn H H' := fun a o e sy => hC a o e fun ⟨j,h⟩ => by
  obtain ⟨⟨p,d,e1⟩,e2⟩ := id h
  obtain ⟨rfl,em,ed⟩ := zdL hd e1
  rcases zfv rel it hi hm hd h with ⟨i,_,a1⟩ | ⟨d,el,a1⟩
  ·obtain ⟨o',e',ow⟩ := rel.zbG ⟨i,a1⟩
   rw [e] at e'
   cases e'
   exact ow.zdc sy
  ·obtain ⟨v,ev,b,eb,mb,_⟩ := v2 j _ el
   rw [List.getElem?_map,ev] at e2
   cases e2
   cases eb
   obtain ⟨o',e',ow⟩ := mb.own
   rw [e] at e'
   cases e'
   exact ow.zdc sy
 have key := zsw (H:=H) (H' := H') (m:=zhK l os) rel (fun i c e a at0 => by
  obtain ⟨j,d,e1,e2,rfl⟩ := zc6 e
  obtain ⟨v,ev,es⟩ := v2 j _ e1
  replace es : σ[i]? = some (some v) := es
  rw [at0.2] at es
  cases es
  refine ⟨true,d,rfl,?_⟩
  have em : ms[j]? = some true := by rw [<- hm,List.getElem?_map,e1]; rfl
  exact ra.ok j (.ow true d) (some (.ref a)) (by rw [zbX ho,em,e2]; rfl) (by rw [List.getElem?_map,ev]; rfl)) (fun i a at0 e => by
  obtain ⟨u,hu,_⟩ := rel.zbG ⟨i,at0⟩
  rw [hu]
  refine hC a u hu fun ⟨j,h⟩ => ?_
  rcases zfv rel it hi hm hd h with ⟨i',el,a1⟩ | ⟨d,_,a1⟩
  ·have := rel.sep i i' a at0 a1
   subst this
   have hj : j < os.length := by rw [ho,hl]; exact (List.getElem?_eq_some_iff.mp el).1
   obtain ⟨c,ec⟩ := zgj el (List.getElem?_eq_getElem hj)
   rw [ec] at e
   cases e
  ·exact apart at0 a1) fz
 exact ⟨key.1,⟨fun i p => (st.md i p).trans (key.2 i p),kp0⟩⟩
end
section
variable {K : PySem.W.Frag} {X : Cx} {k j : Nat} {ps : List Str} {E : XK} {x : Str} {p pos : Pos} {e : Expr} {es : List Expr} {F : List D -> R (D × List D)} {a : List Ar}
def ztO (F : List D -> R (D × List D)) (n : Nat) : Prop := ∀ ds y,F ds = .ok y -> y.2.length = n
theorem zbf {ms : List Bool} {fr : Bool} {m : Nat} {b : SF} : ztO (run ms fr m b) ms.length := fun ds y h => by
 unfold run at h
 split at h
 ·rename_i hd
  obtain ⟨z,_,h⟩ := zaq h
  obtain ⟨fl,ρ⟩ := z
  cases fr with
  | false =>
   cases fl with
   | rt d => cases h; exact zeQ hd
   | nx => cases h; exact zeQ hd
   | _ => cases h
  | true =>
   cases fl with
   | rf d => cases h; exact zeQ hd
   | _ => cases h
 ·cases h
theorem zuY {fr : Bool} (ho : ztO F (arM a).length) (nd : (arI a).Nodup) (ct : arT a <= 1) (σ : L2.St) (H : Hp) (Q : VK) (ρ : En) (rel : Rel K ρ σ H)
  (q : Good K ρ σ H (zav F a ρ) fun d ρ' H' => ∀ v,(if fr = true then ∃ a,v = .ref a /\ H a = none /\ zbq K H' a d else Fz K H' d v) -> Q v H') : zqD (spF K (arM a) fr F) [] E (tAr K a) σ H Q:=by
 obtain ⟨y,ey,q0⟩ := q.bnd
 obtain ⟨h1,h2,h3⟩ := zdS ey
 refine ⟨ρ,rel,?_⟩
 rw [ey]
 intro H1 rel1 st1 vs it
 obtain ⟨ds,ed,q1⟩ := q0.zeq
 obtain ⟨z,ez,q2⟩ := q1.zeq
 obtain ⟨hd,hv,ra⟩ := zpT rel st1 rel1 it ed h1 (by rw [h2]; exact nd) (by rw [h3]; exact ct)
 rw [List.append_nil]
 refine ⟨ds,hv,hd,ra,z.1,z.2,ez,fun v H' rb kp fin => ?_⟩
 obtain ⟨r2,s2⟩ := zoh rel st1 rel1 it ed h1 hd (ho ds z ez) rb kp
 refine q2 H' r2 s2 v ?_
 cases fr with
 | false => exact fin
 | true =>
  obtain ⟨ad,rfl,ha,m⟩ := fin
  exact ⟨ad,rfl,st1.old rel1 ha,m⟩
theorem zbA (c : Callee X.prog X.w X.K X.mg X.base x k ps (spF X.K (arM a) false F)) (ho : ztO F (arM a).length) (nd : (arI a).Nodup) (ct : arT a <= 1) (hr : zdT j X.A) (hg : Gl X x) (hx : Passes (CXe X.prog X.w) X E) (ha : zrJ K X (e :: es) a) (hj : k <= j := by decide) (hdb : (x == ("__debug__" : Str)) = false := by decide)
  (he : starEach (e :: es) X.env = (false,eval e X.env) :: starEach es X.env := by rfl) (hpl : (backTo pos (starEach es X.env)).any (·.1) = false := by rfl) : PV K X (.Call (.Name x p) (e :: es) [] pos) (zav F a) := fun hK => by
 subst hK
 refine (zeP c hr hg hx (ha rfl) hj hdb he hpl).weak fun σ H Q => ?_
 rintro ⟨ρ,rel,q⟩
 exact zuY (fr:=false) ho nd ct σ H Q ρ rel q
theorem zjn (c : Callee X.prog X.w X.K X.mg X.base x k ps (spF X.K (arM a) true F)) (ho : ztO F (arM a).length) (nd : (arI a).Nodup) (ct : arT a <= 1) (hr : zdT j X.A) (hg : Gl X x) (hx : Passes (CXe X.prog X.w) X E) (ha : zrJ K X (e :: es) a) (hj : k <= j := by decide) (hdb : (x == ("__debug__" : Str)) = false := by decide)
  (he : starEach (e :: es) X.env = (false,eval e X.env) :: starEach es X.env := by rfl) (hpl : (backTo pos (starEach es X.env)).any (·.1) = false := by rfl) : PVN K X (.Call (.Name x p) (e :: es) [] pos) (zav F a) := fun hK => by
 subst hK
 refine (zeP c hr hg hx (ha rfl) hj hdb he hpl).weak fun σ H Q => ?_
 rintro ⟨ρ,rel,q⟩
 refine zuY (fr:=true) ho nd ct σ H Q ρ rel ?_
 cases e0 : zav F a ρ with
 | ok y =>
  rw [e0] at q
  exact fun H' r s v ⟨ad,hv,ha,m⟩ => by subst hv; exact q H' r s ad ha m
 | _ => rw [e0] at q; exact q.elim
end
end FL
namespace FL
open PySem L2 PySem.Spec
open PyProof.Rows hiding St
variable [Cs]
section
variable {K : PySem.W.Frag} {X : Cx} {st : Stmt} {s : SF} {e : Expr} {f h : EF} {pos : Pos}
theorem zrt {C : SC} {ρ : En} {σ : L2.St} {H : Hp} {i : Nat} {d : D} (rel : zd5 K C ρ σ H) (e : ρ[i]? = some (.ow false d)) : ∃ a u,H a = some u /\ Own u /\ ∀ o,zd5 K C (ρ.set i (.val d)) σ (upd H a (.frz o u)) /\ Fzn H (upd H a (.frz o u)):=by
 obtain ⟨a,at0,m⟩ := rel.rel.zkc (d:=d) (show zaH ρ i = .ok d by unfold zaH; rw [e])
 obtain ⟨u,e1,ow⟩ := m.own
 refine ⟨a,u,e1,ow,fun o => ?_⟩
 have hl : i < ρ.length := (List.getElem?_eq_some_iff.mp e).1
 have hfr := rel.own i a d e at0.2
 have fz : Fzn H (upd H a (.frz o u)) := fun b w e2 sy => by
  rw [zay fun z => by subst z; rw [e1] at e2; cases e2; exact ow.zdc sy]
  exact e2
 refine ⟨?_,fz⟩
 have fd : Fz K (upd H a (.frz o u)) d (.ref a):=by
  cases d with
  | list ds =>
   obtain ⟨vs,h1,h2⟩ := m
   rw [e1] at h1
   cases h1
   simp only [Fz]
   exact ⟨a,vs,rfl,.inl ⟨o,zas⟩,h2.mono fz⟩
  | dict kvs =>
   simp only [Fz]
   rcases m with ⟨kk,h1,h2⟩ | ⟨kk,h1,h2⟩
   ·rw [e1] at h1
    cases h1
    exact ⟨a,o,rfl,.inl ⟨kk,zas,h2.mono fz⟩⟩
   ·rw [e1] at h1
    cases h1
    exact ⟨a,o,rfl,.inr ⟨kk,zas,h2.mono fz⟩⟩
  | _ => exact m.elim
 have atw : ∀ j b,At (ρ.set i (.val d)) σ j b -> j ≠ i /\ At ρ σ j b := fun j b ⟨⟨q,dd,e1⟩,e2⟩ => by
  by_cases c : i = j
  ·subst c
   rw [List.getElem?_set_self hl] at e1; cases e1
  ·rw [List.getElem?_set_ne c] at e1
   exact ⟨fun z => c z.symm,⟨q,dd,e1⟩,e2⟩
 refine ⟨⟨by rw [List.length_set]; exact rel.rel.len,fun j y w e2 e3 => ?_,fun j k b h1 h2 => rel.rel.sep j k b (atw j b h1).2 (atw k b h2).2,rel.rel.cst.mono fz⟩,fun b w e2 n => ?_,fun j b c e2 e3 => ?_,fun j => ?_,fun j c e2 => ?_,rel.prm⟩
 ·by_cases c : i = j
  ·subst c
   rw [List.getElem?_set_self hl] at e2
   cases e2
   rw [at0.2] at e3
   cases e3
   exact fd
  ·rw [List.getElem?_set_ne c] at e2
   refine (rel.rel.ok j y w e2 e3).mono fz fun b e4 ⟨p,dd,e5⟩ => ?_
   subst e4; subst e5
   refine zay fun z => ?_
   subst z
   exact c (rel.rel.sep i j b at0 ⟨⟨p,dd,e2⟩,e3⟩)
 ·rw [zay fun z => by subst z; rw [hfr] at e2; cases e2]
  exact rel.keep b w e2 n
 ·by_cases c : i = j
  ·subst c
   rw [List.getElem?_set_self hl] at e2; cases e2
  ·rw [List.getElem?_set_ne c] at e2
   exact rel.own j b _ e2 e3
 ·by_cases c : i = j
  ·subst c
   rw [List.getElem?_set_self hl,<- rel.pin i,e]
   constructor
   ·rintro ⟨_,z⟩; cases z
   ·rintro ⟨_,z⟩; cases z
  ·rw [List.getElem?_set_ne c]; exact rel.pin j
 ·by_cases k : i = j
  ·subst k
   rw [List.getElem?_set_self hl] at e2; cases e2
  ·rw [List.getElem?_set_ne k] at e2
   exact rel.fix j c e2
theorem zoS (i : Nat) (hh : PSV K X st s) : PSV K X st (zoJ i s) := fun hK C => by
 have h1 : PS X st (fun Dn σ H => tS K C s { Dn with nx := fun σ H => ∃ a u,H a = some u /\ Own u /\ ∀ o,Dn.nx σ (upd H a (.frz o u)) } σ H) := fun pins sh σ H Dn I q => by
  refine thn (hh hK C pins sh σ H _ I q) fun fl s1 z => ?_
  cases fl with
  | next =>
   obtain ⟨σ',H',I',a,u,e,ow,q⟩ := z
   obtain ⟨o,ho⟩ := (I'.hok a u e).some
   exact ⟨σ',_,zuy I' e ow ho,q o⟩
  | brk => exact z
  | cont => exact z
  | ret v => exact z
 refine h1.weak fun Dn σ H => ?_
 rintro ⟨ρ,rel,g⟩
 refine ⟨ρ,rel,?_⟩
 obtain ⟨x,ex,g1⟩ := g.bnd
 rw [ex]
 obtain ⟨fl,ρ1⟩ := x
 cases fl with
 | nx =>
  replace g1 : zcm K C H (match ρ1[i]? with | some (.ow false d) => .ok (.nx,ρ1.set i (.val d)) | _ => .bad) Dn := g1
  cases e : ρ1[i]? with
  | none => rw [e] at g1; exact g1.elim
  | some y =>
   rw [e] at g1
   cases y with
   | ow p d =>
    cases p with
    | true => exact g1.elim
    | false =>
     intro σ' H' r z
     obtain ⟨a,u,e1,ow,k⟩ := zrt r e
     exact ⟨a,u,e1,ow,fun o => g1 σ' _ (k o).1 (z.trans (k o).2)⟩
   | _ => exact g1.elim
 | bk => exact g1
 | ct => exact g1
 | rt d => exact g1
 | rf d => exact g1
theorem zfd {i j : Nat} {x y : Str} {a b : Expr} {px py pt : Pos} {kt k2 pt2} (hc : X.calm = true) (hN : X.N.Nodup) (hi : X.N[i]? = some x) (hj : X.N[j]? = some y) (hij : i ≠ j)
  (hx : X.env.scope.names.lookup x = some .local) (hy : X.env.scope.names.lookup y = some .local) (ha : PV K X a f) (hb : PV K X b h)
  (hw : swappedStores [.Tuple [.Name x px,.Name y py] kt pt] (.Tuple [a,b] k2 pt2) X.env = pure (some [x,y]))
  (hs : swapsWithSole [.Tuple [.Name x px,.Name y py] kt pt] (.Tuple [a,b] k2 pt2) pos.line X.env = pure false := by rfl) (hs1 : starEach [a,b] X.env = (false,eval a X.env) :: starEach [b] X.env := by rfl) (hs2 : starEach [b] X.env = (false,eval b X.env) :: starEach [] X.env := by rfl) :
  PSV K X (.Assign [.Tuple [.Name x px,.Name y py] kt pt] (.Tuple [a,b] k2 pt2) pos) (zhs i j f h) := fun hK C => (zsh hc hN hi hj hij hx hy (zdr (ha hK) (zdr (hb hK) zjr hs2) hs1) hw hs).weak fun Dn σ H => by
 rintro ⟨ρ,rel,g⟩
 refine zmr rel g fun d ρ1 v H1 rel1 st1 fz g1 => zmr rel1 g1 fun d2 ρ2 v2 H2 rel2 st2 fz2 g2 => ?_
 obtain ⟨ρ3,e3,g3⟩ := g2.bnd
 obtain ⟨ρ4,e4,g4⟩ := g3.bnd
 obtain ⟨rfl,n1,l1⟩ := zly e3
 obtain ⟨rfl,n2,l2⟩ := zly e4
 have f1 := fz.mono (st2.fzn rel1.rel)
 have r3 := rel2.chg (rel2.rel.set (i:=i) (x:=.val d) (v:=some v) f1 fun _ _ _ z => nomatch z) (ziZ n1 l1)
 have r4 := r3.chg (r3.rel.set (i:=j) (x:=.val d2) (v:=some v2) fz2 fun _ _ _ z => nomatch z) (ziZ n2 l2)
 exact ⟨v,v2,rfl,g4 _ H2 r4 (Fzn.refl _)⟩
theorem zoT {elt tg iter : Expr} {ifs : List Expr} {scope : Scope} {it : IF} {g : GF} {t : TF} {dom : List Nat} {x0 : Str} {pos' spos : Pos} (i0 : Nat) (L : List Str) (ix : List Nat) (M : List Str) (hN : X.N.Nodup) (hii : X.N[i0]? = some x0) (hx0 : X.env.scope.names.lookup x0 = some .local)
  (hsw : swapsWith (.ListComp elt [⟨tg,iter,ifs,0⟩] scope pos) (some (.Name x0 pos')) spos.line X.env = pure true) (hc : X.calm = true) (hk : scope.kind = .function)
  (hd : zc4 X.env.scope scope X.N ix = true) (hM : M = L ++ ix.map fun i => X.N.getD i "") (nd : ix.Nodup) (hi : PVI K X tg iter it)
  (hg : ∀ C s₃ H₃ fp,PVG K (zaA X M scope C s₃ H₃ fp) dom tg g) (hgo : dom.all (fun i => decide (i < L.length)) = true)
  (ht : ∀ C s₃ H₃ fp,ztv K (zaA X M scope C s₃ H₃ fp) ifs t) (he : ∀ C s₃ H₃ fp,PV K (zaA X M scope C s₃ H₃ fp) elt f)
  (hs : ∀ x,foldedSetIterable iter X.env x = pure x := by intro _; rfl) :
  PSV K X (.Assign [.Name x0 pos'] (.ListComp elt [⟨tg,iter,ifs,0⟩] scope pos) spos) (ziq i0 (zdA L.length ix it g t f)) := fun hK C =>
 (zqU i0 L ix M hN hii hx0 hsw hc hk hd hM (hi hK) (fun C s₃ H₃ fp => hg C s₃ H₃ fp hK) (ziO hgo) (fun C s₃ H₃ fp => ht C s₃ H₃ fp hK) (fun C s₃ H₃ fp => he C s₃ H₃ fp hK) hs).weak fun Dn σ H q => zqj nd hgo σ H _ (zs0 Dn σ H q)
end
end FL
namespace FL
open PySem L2 PySem.Spec
open PyProof.Rows hiding St
variable [Cs]
structure Blt (mg : Str -> Option Value) : Prop where
 zjv : mg "abs" = none
 zaM : mg "isinstance" = none
 zl1 : mg "int" = none
 zhQ : mg "bool" = none
 zcW : mg "tuple" = none
 zgG : mg "list" = none
 zl0 : mg "str" = none
 zd1 : mg "len" = none
 zl2 : mg "all" = none
 zcw : mg "range" = none
 znd : mg "zip" = none
 zbR : mg "enumerate" = none
 znf : mg "max" = none
 zne : mg "min" = none
 zpm : mg "sum" = none
 zdO : mg "sorted" = none
 zlm : mg "dict" = none
 zpn : mg "any" = none
namespace Bt
theorem abs : bootBuiltins "abs" = some (.builtin "abs") := by decide +kernel
theorem len : bootBuiltins "len" = some (.builtin "len") := by decide +kernel
theorem all : bootBuiltins "all" = some (.builtin "all") := by decide +kernel
theorem max : bootBuiltins "max" = some (.builtin "max") := by decide +kernel
theorem min : bootBuiltins "min" = some (.builtin "min") := by decide +kernel
theorem int : bootBuiltins "int" = some (.type "int") := by decide +kernel
theorem bool : bootBuiltins "bool" = some (.type "bool") := by decide +kernel
theorem tuple : bootBuiltins "tuple" = some (.type "tuple") := by decide +kernel
theorem list : bootBuiltins "list" = some (.type "list") := by decide +kernel
theorem str : bootBuiltins "str" = some (.type "str") := by decide +kernel
end Bt
theorem zaD {K : PySem.W.Frag} {X : Cx} {st : List Stmt} {f : SF} (h : zms K X.nox st f) : zms K X st f := fun hK C => PSs.nox (h hK C)
theorem zsO {K : PySem.W.Frag} {G : List D -> R D} {H : Hp} {a : Addr} {ns : List Int} (h : G [.list (ns.map PyData.int)] = .ok (.bool true)) (hO : ∀ b xs,H b ≠ some (.lst xs)) (hC : zqv H) (hS : SqL K H a (ns.map V.int)) : spP K 1 false G [.ref a] H (fun v _ => v = .bl true) fun _ _ _ => False:=by
 refine ⟨[.list (ns.map PyData.int)],rfl,hC,?_,.bool true,h,fun v H' _ fz => by simpa [Fz] using fz⟩
 simp only [zak,Fz]
 refine ⟨.ref a,[],rfl,⟨a,ns.map V.int,rfl,?_,zak.ofInts ns⟩,rfl⟩
 rcases hS with (hS | ⟨o,hS⟩) | hS
 ·exact absurd hS (hO a _)
 ·exact .inl ⟨o,hS⟩
 ·exact .inr hS
end FL
namespace FL
open PySem L2 PySem.Spec
open PyProof.Rows hiding St
variable [Cs]
end FL
namespace FL
open PySem L2 PySem.Spec
open PyProof.Rows hiding St
variable [Cs]
theorem zm8 {α : Type} {o : Option α} {a : α} (h : R.of o = .ok a) : o = some a:=by
 cases o with
 | none => cases h
 | some b => cases h; rfl
theorem zsV (k : Key) : kOf (kD k) = some k := by cases k <;> rfl
theorem znr : ∀ ks : List Key,zou (ks.map kD) = some ks
 | [] => rfl
 | k :: r => by simp only [List.map_cons,zou,zsV,Option.bind_some,znr r,Option.map_some]
theorem zdu (q : List Key) : keyOf (zma q) = some (.inl q) := by simp only [zma,keyOf,znr,Option.map_some]
theorem zdv (q : Key) : keyOf (kD q) = some (.inr q) := by cases q <;> rfl
theorem zrl {d : D} {k : Key} (h : kOf d = some k) : d = kD k:=by
 cases d with
 | int i => cases h; rfl
 | str i => cases h; rfl
 | _ => cases h
theorem zlq : ∀ {ds : List D} {ks : List Key},zou ds = some ks -> ds = ks.map kD
 | [],ks,h => by simp only [zou,Option.some.injEq] at h; subst h; rfl
 | d :: r,ks,h => by
  simp only [zou,Option.bind_eq_some_iff,Option.map_eq_some_iff] at h
  obtain ⟨k,e,ks',e',rfl⟩ := h
  rw [zrl e,zlq e']; rfl
section
variable {K : PySem.W.Frag} {H H' : Hp}
theorem zrs {k : Key} : Fz K H (kD k) (kV k) := by cases k <;> simp [kD,kV,Fz]
theorem zut {k : Key} {v : V} (h : Fz K H (kD k) v) : v = kV k := by cases k <;> simpa [kD,kV,Fz] using h
theorem zlB : ∀ ks : List Key,zak K H (ks.map kD) (ks.map kV)
 | [] => by simp [zak]
 | k :: r => by simp only [List.map_cons,zak]; exact ⟨_,_,rfl,zrs,zlB r⟩
theorem zqd : ∀ {ks : List Key} {vs : List V},zak K H (ks.map kD) vs -> vs = ks.map kV
 | [],vs,h => by simpa [zak] using h
 | k :: r,vs,h => by
  simp only [List.map_cons,zak] at h
  obtain ⟨v,t,rfl,h1,h2⟩ := h
  rw [zut h1,zqd h2]; rfl
theorem znO {ks : List Key} {b : Addr} (h : TAt H b (ks.map kV)) : Fz K H (zma ks) (.ref b):=by
 simp only [zma,Fz]
 exact ⟨b,_,rfl,h,zlB ks⟩
theorem zhM {k : D} {v : V} {q : KQ} (f : Tp K H k v) (e : keyOf k = some q) : (∃ ks b,q = .inl ks /\ k = zma ks /\ v = .ref b /\ TAt H b (ks.map kV)) \/ ∃ k1,q = .inr k1 /\ k = kD k1 /\ v = kV k1:=by
 cases k with
 | tuple xs =>
  simp only [keyOf,Option.map_eq_some_iff] at e
  obtain ⟨ks,e1,rfl⟩ := e
  have := zlq e1
  subst this
  obtain ⟨b,vs,rfl,tb,fa⟩ := (show ∃ a vs,v = .ref a /\ TAt H a vs /\ zak K H (ks.map kD) vs by simpa [Tp,Fz] using f)
  rw [zqd fa] at tb
  exact .inl ⟨ks,b,rfl,rfl,rfl,tb⟩
 | int i => cases e; exact .inr ⟨.inl i,rfl,rfl,by simpa [Tp,Fz,kV] using f⟩
 | str i => cases e; exact .inr ⟨.inr i,rfl,rfl,by simpa [Tp,Fz,kV] using f⟩
 | _ => cases e
theorem znn : ∀ {kvs : List (D × D)} {kk : List (List Key × V)},zbK K H kvs kk -> ∀ q : List Key,(look kvs (.inl q) = none /\ zhr kk q = none) \/ ∃ d v,look kvs (.inl q) = some d /\ zhr kk q = some v /\ Fz K H d v
 | [],kk,h,q => by simp only [zbK] at h; subst h; exact .inl ⟨rfl,rfl⟩
 | (k,d) :: r,kk,h,q => by
  simp only [zbK] at h
  obtain ⟨q',v,t,rfl,rfl,f,h2⟩ := h
  by_cases c : q' = q
  ·subst c
   exact .inr ⟨d,v,by simp [look,List.find?_cons,zdu],zeH rfl,f⟩
  ·have e1 : look ((zma q',d) :: r) (.inl q) = look r (.inl q) := by simp [look,List.find?_cons,zdu,c]
   rw [e1,zeI (p:=(q',v)) c]
   exact znn h2 q
theorem zno : ∀ {kvs : List (D × D)} {kk : List (Key × V)},zbL K H kvs kk -> ∀ q : Key,(look kvs (.inr q) = none /\ zhr kk q = none) \/ ∃ d v,look kvs (.inr q) = some d /\ zhr kk q = some v /\ Fz K H d v
 | [],kk,h,q => by simp only [zbL] at h; subst h; exact .inl ⟨rfl,rfl⟩
 | (k,d) :: r,kk,h,q => by
  simp only [zbL] at h
  obtain ⟨q',v,t,rfl,rfl,f,h2⟩ := h
  by_cases c : q' = q
  ·subst c
   exact .inr ⟨d,v,by simp [look,List.find?_cons,zdv],zeH rfl,f⟩
  ·have e1 : look ((kD q',d) :: r) (.inr q) = look r (.inr q) := by simp [look,List.find?_cons,zdv,c]
   rw [e1,zeI (p:=(q',v)) c]
   exact zno h2 q
theorem znu {kvs : List (D × D)} {kk : List (List Key × V)} (h : zbK K H kvs kk) (c : keysOk false kvs = true) : kvs = [] /\ kk = []:=by
 cases kvs with
 | nil => simp only [zbK] at h; exact ⟨rfl,h⟩
 | cons p r =>
  obtain ⟨k,d⟩ := p
  simp only [zbK] at h
  obtain ⟨q',v,t,rfl,rfl,f,h2⟩ := h
  simp [keysOk,zdu,form] at c
theorem znv {kvs : List (D × D)} {kk : List (Key × V)} (h : zbL K H kvs kk) (c : keysOk true kvs = true) : kvs = [] /\ kk = []:=by
 cases kvs with
 | nil => simp only [zbL] at h; exact ⟨rfl,h⟩
 | cons p r =>
  obtain ⟨k,d⟩ := p
  simp only [zbL] at h
  obtain ⟨q',v,t,rfl,rfl,f,h2⟩ := h
  simp [keysOk,zdv,form] at c
theorem zfq {d k : D} {x : List (D × D) × KQ} (h : dictAt d k = .ok x) : d = .dict x.1 /\ keyOf k = some x.2 /\ keysOk (form x.2) x.1 = true:=by
 cases d with
 | dict kvs =>
  obtain ⟨q,e1,h⟩ := zaq (show (R.of (keyOf k)).bind _ = .ok x from h)
  obtain ⟨c,h⟩ := zbi h
  cases h
  exact ⟨rfl,zm8 e1,c⟩
 | _ => cases h
theorem zrx {d k : D} {x y : V} {o : Option D} (t : Tp K H d x) (f : Tp K H k y) (e : zeX d k = .ok o) :
  ∃ a r,x = .ref a /\ IsD H a /\ DG H a y r /\ ((o = none /\ r = none) \/ ∃ d v,o = some d /\ r = some v /\ Fz K H d v):=by
 obtain ⟨⟨kvs,q⟩,e1,e⟩ := zaq (show (dictAt d k).bind _ = .ok o from e)
 cases e
 obtain ⟨rfl,ek,c⟩ := zfq e1
 obtain ⟨a,ea,tt⟩ := (show ∃ a,x = .ref a /\ ((∃ kk,Rd H a (.dT kk) /\ zbK K H kvs kk) \/ ∃ kk,Rd H a (.dK kk) /\ zbL K H kvs kk) from t)
 subst ea
 rcases tt with ⟨kk,rd,h⟩ | ⟨kk,rd,h⟩
 ·refine ⟨a,?_⟩
  rcases zhM f ek with ⟨ks,b,rfl,rfl,rfl,tb⟩ | ⟨k1,rfl,rfl,rfl⟩
  ·refine ⟨zhr kk ks,rfl,.inr ⟨kk,rd⟩,.inl (.inr ⟨kk,ks,b,rd,rfl,tb,rfl⟩),?_⟩
   rcases znn h ks with ⟨z1,z2⟩ | ⟨d,v,z1,z2,z3⟩
   ·exact .inl ⟨z1,z2⟩
   ·exact .inr ⟨d,v,z1,z2,z3⟩
  ·obtain ⟨rfl,rfl⟩ := znu h c
   exact ⟨none,rfl,.inr ⟨[],rd⟩,.inr (.inr ⟨rfl,rd,k1,rfl⟩),.inl ⟨rfl,rfl⟩⟩
 ·refine ⟨a,?_⟩
  rcases zhM f ek with ⟨ks,b,rfl,rfl,rfl,tb⟩ | ⟨k1,rfl,rfl,rfl⟩
  ·obtain ⟨rfl,rfl⟩ := znv h c
   exact ⟨none,rfl,.inl ⟨[],rd⟩,.inr (.inl ⟨rfl,rd,b,ks,rfl,tb⟩),.inl ⟨rfl,rfl⟩⟩
  ·refine ⟨zhr kk k1,rfl,.inl ⟨kk,rd⟩,.inl (.inl ⟨kk,k1,rd,rfl,rfl⟩),?_⟩
   rcases zno h k1 with ⟨z1,z2⟩ | ⟨d,v,z1,z2,z3⟩
   ·exact .inl ⟨z1,z2⟩
   ·exact .inr ⟨d,v,z1,z2,z3⟩
theorem zts : ∀ {kvs : List (D × D)} {kk : List (List Key × V)},zbK K H kvs kk -> ∀ q : List Key,(kvs.any fun kv => decide (keyOf kv.1 = some (.inl q))) = kk.any fun kv => decide (kv.1 = q)
 | [],kk,h,q => by simp only [zbK] at h; subst h; rfl
 | (k,d) :: r,kk,h,q => by
  simp only [zbK] at h
  obtain ⟨q',v,t,rfl,rfl,f,h2⟩ := h
  simp only [List.any_cons,zts h2 q,zdu,Option.some.injEq,Sum.inl.injEq]
theorem ztt : ∀ {kvs : List (D × D)} {kk : List (Key × V)},zbL K H kvs kk -> ∀ q : Key,(kvs.any fun kv => decide (keyOf kv.1 = some (.inr q))) = kk.any fun kv => decide (kv.1 = q)
 | [],kk,h,q => by simp only [zbL] at h; subst h; rfl
 | (k,d) :: r,kk,h,q => by
  simp only [zbL] at h
  obtain ⟨q',v,t,rfl,rfl,f,h2⟩ := h
  simp only [List.any_cons,ztt h2 q,zdv,Option.some.injEq,Sum.inr.injEq]
theorem zr8 {d : D} {v : V} (f : Fz K H d v) : ∀ {kvs : List (D × D)} {kk : List (List Key × V)},zbK K H kvs kk -> ∀ q : List Key,zbK K H (kvs.map fun kv => if keyOf kv.1 = some (.inl q) then (kv.1,d) else kv) (kk.map fun kv => if kv.1 = q then (kv.1,v) else kv)
 | [],kk,h,q => by simp only [zbK] at h; subst h; simp [zbK]
 | (k,d0) :: r,kk,h,q => by
  simp only [zbK] at h
  obtain ⟨q',v0,t,rfl,rfl,f0,h2⟩ := h
  have ih := zr8 f h2 q
  by_cases c : q' = q
  ·subst c
   simp only [List.map_cons,zdu,if_true,zbK]
   exact ⟨q',v,_,rfl,rfl,f,ih⟩
  ·simp only [List.map_cons,zdu,Option.some.injEq,Sum.inl.injEq,if_neg c,zbK]
   exact ⟨q',v0,_,rfl,rfl,f0,ih⟩
theorem zr9 {d : D} {v : V} (f : Fz K H d v) : ∀ {kvs : List (D × D)} {kk : List (Key × V)},zbL K H kvs kk -> ∀ q : Key,zbL K H (kvs.map fun kv => if keyOf kv.1 = some (.inr q) then (kv.1,d) else kv) (kk.map fun kv => if kv.1 = q then (kv.1,v) else kv)
 | [],kk,h,q => by simp only [zbL] at h; subst h; simp [zbL]
 | (k,d0) :: r,kk,h,q => by
  simp only [zbL] at h
  obtain ⟨q',v0,t,rfl,rfl,f0,h2⟩ := h
  have ih := zr9 f h2 q
  by_cases c : q' = q
  ·subst c
   simp only [List.map_cons,zdv,if_true,zbL]
   exact ⟨q',v,_,rfl,rfl,f,ih⟩
  ·simp only [List.map_cons,zdv,Option.some.injEq,Sum.inr.injEq,if_neg c,zbL]
   exact ⟨q',v0,_,rfl,rfl,f0,ih⟩
theorem ztq {d : D} {v : V} (f : Fz K H d v) (q : List Key) : ∀ {kvs : List (D × D)} {kk : List (List Key × V)},zbK K H kvs kk -> zbK K H (kvs ++ [(zma q,d)]) (kk ++ [(q,v)])
 | [],kk,h => by simp only [zbK] at h; subst h; simp only [List.nil_append,zbK]; exact ⟨q,v,[],rfl,rfl,f,rfl⟩
 | (k,d0) :: r,kk,h => by
  simp only [zbK] at h
  obtain ⟨q',v0,t,rfl,rfl,f0,h2⟩ := h
  simp only [List.cons_append,zbK]
  exact ⟨q',v0,_,rfl,rfl,f0,ztq f q h2⟩
theorem ztr {d : D} {v : V} (f : Fz K H d v) (q : Key) : ∀ {kvs : List (D × D)} {kk : List (Key × V)},zbL K H kvs kk -> zbL K H (kvs ++ [(kD q,d)]) (kk ++ [(q,v)])
 | [],kk,h => by simp only [zbL] at h; subst h; simp only [List.nil_append,zbL]; exact ⟨q,v,[],rfl,rfl,f,rfl⟩
 | (k,d0) :: r,kk,h => by
  simp only [zbL] at h
  obtain ⟨q',v0,t,rfl,rfl,f0,h2⟩ := h
  simp only [List.cons_append,zbL]
  exact ⟨q',v0,_,rfl,rfl,f0,ztr f q h2⟩
theorem zt7 {d : D} {v : V} {kvs : List (D × D)} {kk : List (List Key × V)} (h : zbK K H kvs kk) (f : Fz K H d v) (q : List Key) : zbK K H (zo1 kvs (zma q) (.inl q) d) (putK kk q v):=by
 unfold zo1 putK
 rw [zts h q]
 split
 ·exact zr8 f h q
 ·exact ztq f q h
theorem zt8 {d : D} {v : V} {kvs : List (D × D)} {kk : List (Key × V)} (h : zbL K H kvs kk) (f : Fz K H d v) (q : Key) : zbL K H (zo1 kvs (kD q) (.inr q) d) (putK kk q v):=by
 unfold zo1 putK
 rw [ztt h q]
 split
 ·exact zr9 f h q
 ·exact ztr f q h
theorem zqm : ∀ {kvs : List (D × D)} {kk : List (List Key × V)},zbK K H kvs kk -> ∀ q : List Key,zbK K H (zc3 kvs (.inl q)) (zbN kk q)
 | [],kk,h,q => by simp only [zbK] at h; subst h; simp [zc3,zbN,zbK]
 | (k,d0) :: r,kk,h,q => by
  simp only [zbK] at h
  obtain ⟨q',v0,t,rfl,rfl,f0,h2⟩ := h
  have ih := zqm h2 q
  by_cases c : q' = q
  ·subst c
   have e1 : zc3 ((zma q',d0) :: r) (.inl q') = zc3 r (.inl q') := by simp [zc3,zdu]
   rw [e1,zjQ (p:=(q',v0)) rfl]
   exact ih
  ·have e1 : zc3 ((zma q',d0) :: r) (.inl q) = (zma q',d0) :: zc3 r (.inl q) := by simp [zc3,zdu,c]
   rw [e1,zjR (p:=(q',v0)) c]
   simp only [zbK]
   exact ⟨q',v0,_,rfl,rfl,f0,ih⟩
theorem zqn : ∀ {kvs : List (D × D)} {kk : List (Key × V)},zbL K H kvs kk -> ∀ q : Key,zbL K H (zc3 kvs (.inr q)) (zbN kk q)
 | [],kk,h,q => by simp only [zbL] at h; subst h; simp [zc3,zbN,zbL]
 | (k,d0) :: r,kk,h,q => by
  simp only [zbL] at h
  obtain ⟨q',v0,t,rfl,rfl,f0,h2⟩ := h
  have ih := zqn h2 q
  by_cases c : q' = q
  ·subst c
   have e1 : zc3 ((kD q',d0) :: r) (.inr q') = zc3 r (.inr q') := by simp [zc3,zdv]
   rw [e1,zjQ (p:=(q',v0)) rfl]
   exact ih
  ·have e1 : zc3 ((kD q',d0) :: r) (.inr q) = (kD q',d0) :: zc3 r (.inr q) := by simp [zc3,zdv,c]
   rw [e1,zjR (p:=(q',v0)) c]
   simp only [zbL]
   exact ⟨q',v0,_,rfl,rfl,f0,ih⟩
theorem zbK.len : ∀ {kvs : List (D × D)} {kk : List (List Key × V)},zbK K H kvs kk -> kk.length = kvs.length
 | [],kk,h => by simp only [zbK] at h; subst h; rfl
 | (k,d0) :: r,kk,h => by
  simp only [zbK] at h
  obtain ⟨q',v0,t,rfl,rfl,f0,h2⟩ := h
  simp [h2.len]
theorem zbL.len : ∀ {kvs : List (D × D)} {kk : List (Key × V)},zbL K H kvs kk -> kk.length = kvs.length
 | [],kk,h => by simp only [zbL] at h; subst h; rfl
 | (k,d0) :: r,kk,h => by
  simp only [zbL] at h
  obtain ⟨q',v0,t,rfl,rfl,f0,h2⟩ := h
  simp [h2.len]
theorem ziT {a : Addr} {u o : HO} (e : H a = some u) (ow : Own u) : Fzn H (upd H a o) := fun b w eb st => by
 rw [zay fun z => by subst z; rw [e] at eb; cases eb; exact ow.zdc st]
 exact eb
theorem ztd {c k dv d' : D} {a : Addr} {y v : V} (m : zbq K H a c) (f : Fz K H k y) (g : Fz K H dv v) (e : zkI c k dv = .ok d') : ∃ o,DP H a y v (upd H a o) /\ zbq K (upd H a o) a d':=by
 obtain ⟨⟨kvs,q⟩,e1,e⟩ := zaq (show (dictAt c k).bind _ = .ok d' from e)
 obtain ⟨l,e⟩ := zbi e
 cases e
 obtain ⟨rfl,ek,c⟩ := zfq e1
 have hl : kvs.length + 1 <= sizeLine := Nat.le_trans (zjB l) zcr
 rcases (show (∃ kk,H a = some (.dT kk) /\ zbK K H kvs kk) \/ ∃ kk,H a = some (.dK kk) /\ zbL K H kvs kk from m) with ⟨kk,rd,h⟩ | ⟨kk,rd,h⟩
 ·have fz : ∀ o,Fzn H (upd H a o) := fun o => ziT rd trivial
  rcases zhM f.tp ek with ⟨ks,b,rfl,rfl,rfl,tb⟩ | ⟨k1,rfl,rfl,rfl⟩
  ·exact ⟨.dT (putK kk ks v),.inl (.inr ⟨kk,ks,b,rd,rfl,tb,by rw [h.len]; omega,rfl⟩),.inl ⟨_,zas,(zt7 h g ks).mono (fz _)⟩⟩
  ·obtain ⟨rfl,rfl⟩ := znu h c
   exact ⟨.dK [(k1,v)],.inr (.inr ⟨k1,rd,rfl,rfl⟩),.inr ⟨_,zas,by
    simp only [zo1,List.any_nil,Bool.false_eq_true,if_false,List.nil_append,zbL]
    exact ⟨k1,v,[],rfl,rfl,g.mono (fz _),rfl⟩⟩⟩
 ·have fz : ∀ o,Fzn H (upd H a o) := fun o => ziT rd trivial
  rcases zhM f.tp ek with ⟨ks,b,rfl,rfl,rfl,tb⟩ | ⟨k1,rfl,rfl,rfl⟩
  ·obtain ⟨rfl,rfl⟩ := znv h c
   exact ⟨.dT [(ks,v)],.inr (.inl ⟨ks,b,rd,rfl,tb,rfl⟩),.inl ⟨_,zas,by
    simp only [zo1,List.any_nil,Bool.false_eq_true,if_false,List.nil_append,zbK]
    exact ⟨ks,v,[],rfl,rfl,g.mono (fz _),rfl⟩⟩⟩
  ·exact ⟨.dK (putK kk k1 v),.inl (.inl ⟨kk,k1,rd,rfl,by rw [h.len]; omega,rfl⟩),.inr ⟨_,zas,(zt8 h g k1).mono (fz _)⟩⟩
def DDl (H : Hp) (a : Addr) (y : V) (o : HO) : Prop := (∃ kvs k,H a = some (.dK kvs) /\ y = kV k /\ (zhr kvs k).isSome = true /\ o = .dK (zbN kvs k)) \/
 ∃ kvs k b,H a = some (.dT kvs) /\ y = .ref b /\ TAt H b (k.map kV) /\ (zhr kvs k).isSome = true /\ o = .dT (zbN kvs k)
theorem zte {c k d' : D} {a : Addr} {y : V} (m : zbq K H a c) (f : Fz K H k y) (e : zmn c k = .ok d') : ∃ o,DDl H a y o /\ zbq K (upd H a o) a d':=by
 obtain ⟨⟨kvs,q⟩,e1,e⟩ := zaq (show (dictAt c k).bind _ = .ok d' from e)
 obtain ⟨l,e⟩ := zbi e
 cases e
 obtain ⟨rfl,ek,c⟩ := zfq e1
 rcases (show (∃ kk,H a = some (.dT kk) /\ zbK K H kvs kk) \/ ∃ kk,H a = some (.dK kk) /\ zbL K H kvs kk from m) with ⟨kk,rd,h⟩ | ⟨kk,rd,h⟩
 ·have fz : ∀ o,Fzn H (upd H a o) := fun o => ziT rd trivial
  rcases zhM f.tp ek with ⟨ks,b,rfl,rfl,rfl,tb⟩ | ⟨k1,rfl,rfl,rfl⟩
  ·refine ⟨.dT (zbN kk ks),.inr ⟨kk,ks,b,rd,rfl,tb,?_,rfl⟩,.inl ⟨_,zas,(zqm h ks).mono (fz _)⟩⟩
   rcases znn h ks with ⟨z1,z2⟩ | ⟨d,v,z1,z2,z3⟩
   ·rw [show look kvs (.inl ks) = none from z1] at l; cases l
   ·rw [z2]; rfl
  ·obtain ⟨rfl,rfl⟩ := znu h c
   cases l
 ·have fz : ∀ o,Fzn H (upd H a o) := fun o => ziT rd trivial
  rcases zhM f.tp ek with ⟨ks,b,rfl,rfl,rfl,tb⟩ | ⟨k1,rfl,rfl,rfl⟩
  ·obtain ⟨rfl,rfl⟩ := znv h c
   cases l
  ·refine ⟨.dK (zbN kk k1),.inl ⟨kk,k1,rd,rfl,?_,rfl⟩,.inr ⟨_,zas,(zqn h k1).mono (fz _)⟩⟩
   rcases zno h k1 with ⟨z1,z2⟩ | ⟨d,v,z1,z2,z3⟩
   ·rw [show look kvs (.inr k1) = none from z1] at l; cases l
   ·rw [z2]; rfl
end
end FL
namespace FL
open PySem L2 PySem.Spec
open PyProof.Rows hiding St
variable [Cs]
section
variable {X : Cx}
theorem zsB (hu : X.A.units + 1 < cLine) : OpR X (compareOp .In) (rD X.K inD):=by
 intro pins s σ H x y v u Q I rx ry h
 obtain ⟨dx,dy,d,tx,ty,e,q⟩ := h
 obtain ⟨o,e1,e⟩ := zaq (show (zeX dy dx).bind _ = .ok d from e)
 cases e
 obtain ⟨a,r,rfl,_,g,rel⟩ := zrx ty tx e1
 cases ry
 have hb : o.isSome = r.isSome:=by
  rcases rel with ⟨rfl,rfl⟩ | ⟨_,_,rfl,rfl,_⟩ <;> rfl
 exact zuD hu I g rx fun s3 I3 => ⟨.bl r.isSome,H,I3,rfl,q _ H (zaY.refl _) (by rw [hb]; simp [Fz])⟩
theorem zfj (hu : X.A.units + 1 < cLine) : IxR X (rD X.K zfR):=by
 intro value slice pins s σ H x y v u Q I rx ry h hs
 obtain ⟨dx,dy,d,tx,ty,e,q⟩ := h
 obtain ⟨o,e1,e⟩ := zaq (show (zeX dx dy).bind _ = .ok d from e)
 have eo := zm8 e
 subst eo
 obtain ⟨a,r,rfl,_,g,rel⟩ := zrx tx ty e1
 cases rx
 rcases rel with ⟨z,_⟩ | ⟨d',w,z,rfl,fz⟩
 ·cases z
 cases z
 rcases g with g | ⟨z,_⟩ | ⟨z,_⟩
 ·have hT := zkJ I g
  have h2 : wpAny (model X.prog X.w) X.A (getItem (.ref a) u) (EP X pins σ Q) X.xe s := znX hu I g ry fun w' s3 I3 rw' => ⟨w,H,I3,rw',q w H (zaY.refl _) fz⟩
  unfold subscriptTail
  refine wpAny_bind ?_
  rw [getitemInPython_of_ne hT.not_modules]
  refine wpAny_bind (wpAny_specialOf hT PySem.F.slot_dict_getitem.lookup ?_)
  have fin : wpAny (model X.prog X.w) X.A (subscripted slice false (.ref a) u) (fun r s₃ => wpAny (model X.prog X.w) X.A (letTemporaryGo value (.ref a) r >>= fun _ => pure r) (EP X pins σ Q) X.xe s₃) X.xe s:=by
   rw [hs]
   exact wpAny_operating (wpAny_mono h2 (fun r s₃ h₃ => wpAny_bind (wpAny_letTemporaryGo (wpAny_pure h₃))) fun _ _ x => x)
  first
   | exact wpAny_pure (wpAny_bind fin)
   | exact wpAny_bind (wpAny_pure (wpAny_bind fin))
   | exact wpAny_bind fin
 ·cases z
 ·cases z
end
section
variable {K : PySem.W.Frag} {X : Cx} {o e e' : Expr} {fd fk fx f : EF} {apos cpos pos : Pos}
theorem zhR {H : Hp} {a : Addr} {d : D} {kvs : List (D × D)} (m : zbq K H a (.dict kvs)) : IsD H a:=by
 rcases (show (∃ kk,H a = some (.dT kk) /\ _) \/ ∃ kk,H a = some (.dK kk) /\ _ from m) with ⟨kk,rd,_⟩ | ⟨kk,rd,_⟩
 ·exact .inr ⟨kk,.inl rd⟩
 ·exact .inl ⟨kk,.inl rd⟩
theorem zle {y : Str} {py : Pos} (i : Nat) (hu : X.A.units + 1 < cLine) (ha : PE X (.Name y py) (zkb i)) (he : PV K X e fk) (hf : PV K X e' fx) (m : M2 X (.Name y py) "get" apos e e' cpos) : PV K X (.Call (.Attribute (.Name y py) "get" apos) [e,e'] [] cpos) (zhx i fk fx) := fun hK => by
 subst hK
 refine (zpc hu ha (he rfl) (hf rfl) m).weak fun σ H Q => ?_
 rintro ⟨ρ,rel,q⟩
 obtain ⟨d0,ed0,q0⟩ := q.zeq
 obtain ⟨ks0,ek0,q1⟩ := q0.zeq
 cases d0 with
 | dict kvs0 =>
  obtain ⟨a,at0,m0⟩ := rel.zkc ed0
  refine ⟨.ref a,at0.2,a,rfl,zhR (d:=.none) m0,goV rel q1 fun dk ρ2 y H2 rel2 st2 fz2 q2 => goV rel2 q2 fun dz ρ3 z H3 rel3 st3 fz3 q3 => ?_⟩
  obtain ⟨c,ec,q4⟩ := q3.zeq
  obtain ⟨dr,er,q5⟩ := q4.zeq
  obtain ⟨o1,e1,er⟩ := zaq (show (zeX c dk).bind _ = .ok dr from er)
  cases er
  obtain ⟨a',r,ea',_,g,rl⟩ := zrx (rel3.again ec at0).tp (fz2.mono (st3.fzn rel2)).tp e1
  cases ea'
  refine ⟨r,g,q5.now rel3 _ ?_⟩
  rcases rl with ⟨rfl,rfl⟩ | ⟨d,v,rfl,rfl,fv⟩
  ·exact fz3
  ·exact fv
 | _ => cases ek0
theorem ziu {y : Str} {py ps' : Pos} {ke : Expr} {k : EF} (i : Nat) (hu : X.A.units + 1 < cLine) (ha : PE X (.Name y py) (zkb i)) (he : PV K X e f) (hk : PV K X ke k)
  (hs : swapsWith e (some (.Subscript (.Name y py) ke ps')) pos.line X.env = pure false := by rfl) : PSV K X (.Assign [.Subscript (.Name y py) ke ps'] e pos) (zf6 i k f) := fun hK C => by
 subst hK
 refine (zqW hu ha (hk rfl) (he rfl) hs).weak fun Dn σ H => ?_
 rintro ⟨ρ,rel,g⟩
 refine zmr rel g fun dv ρ1 v H1 rel1 st1 fv g1 => ?_
 obtain ⟨d,ed,g2⟩ := g1.bnd
 obtain ⟨a,at0,m0⟩ := rel1.rel.zkc ed
 refine ⟨.ref a,at0.2,zmr rel1 g2 fun dk ρ2 kv H2 rel2 st2 fk g3 => ?_⟩
 obtain ⟨c,ec,g4⟩ := g3.bnd
 obtain ⟨d',ed',g5⟩ := g4.bnd
 obtain ⟨o,dp,mm⟩ := ztd (rel2.rel.again ec at0) fk (fv.mono (st2.fzn rel1.rel)) ed'
 obtain ⟨a2,at2,_⟩ := rel2.rel.zkc ec
 have := at0.2.symm.trans at2.2
 cases this
 exact ⟨a,_,rfl,dp,znK rel2 at2 mm g5⟩
def zt0 (td ty : TE) : TS := fun D σ H => td σ H fun x H1 => ty σ H1 fun y H2 => ∃ a o,x = .ref a /\ DDl H2 a y o /\ D.nx σ (upd H2 a o)
theorem zqY {i o : Expr} {td ty : TE} {tpos : Pos} (hu : X.A.units + 1 < cLine) (ho : PE X o td) (hi : PE X i ty) : PS X (.Delete [.Subscript o i tpos] pos) (zt0 td ty):=by
 intro pins s σ H D I h
 refine wpAny_Delete (wpAny_deleteEach_cons (wpAny_delete_Subscript (thn (ho pins s σ H _ I h) fun u s1 ⟨x,H1,I1,rx,q1⟩ => thn (hi pins s1 σ H1 _ I1 q1) fun iv s2 ⟨y,H2,I2,ry,a,o,ex,dd,q2⟩ => ?_)))
 subst ex
 obtain rfl : u = Value.ref a := rx
 rcases dd with ⟨kvs,k,e,rfl,l,rfl⟩ | ⟨kvs,k,b,e,rfl,eb,l,rfl⟩
 ·exact znZ I2 e ry l fun s3 I3 => wpAny_deleteEach_nil ⟨σ,_,I3,q2⟩
 ·obtain rfl : iv = Value.ref b := ry
  exact zth hu I2 e eb l fun s3 I3 => wpAny_deleteEach_nil ⟨σ,_,I3,q2⟩
theorem zoV {y : Str} {py tpos : Pos} {ke : Expr} {k : EF} (i : Nat) (hu : X.A.units + 1 < cLine) (ha : PE X (.Name y py) (zkb i)) (hk : PV K X ke k) : PSV K X (.Delete [.Subscript (.Name y py) ke tpos] pos) (zn1 i k) := fun hK C => by
 subst hK
 refine (zqY hu ha (hk rfl)).weak fun Dn σ H => ?_
 rintro ⟨ρ,rel,g⟩
 obtain ⟨d,ed,g2⟩ := g.bnd
 obtain ⟨a,at0,m0⟩ := rel.rel.zkc ed
 refine ⟨.ref a,at0.2,zmr rel g2 fun dk ρ2 kv H2 rel2 st2 fk g3 => ?_⟩
 obtain ⟨c,ec,g4⟩ := g3.bnd
 obtain ⟨d',ed',g5⟩ := g4.bnd
 obtain ⟨o,dd,mm⟩ := zte (rel2.rel.again ec at0) fk ed'
 obtain ⟨a2,at2,_⟩ := rel2.rel.zkc ec
 have := at0.2.symm.trans at2.2
 cases this
 exact ⟨a,o,rfl,dd,znK rel2 at2 mm g5⟩
theorem zgA : PVN K X (.Dict [] [] pos) zfO := fun hK => zpd.weak fun σ H Q => by
 rintro ⟨ρ,rel,q⟩ p hp
 exact q.new rel (zaY.upd hp) p hp (.inl ⟨[],zas,by simp [zbK]⟩)
theorem zsk {tg l : Expr} {tl : TE} (hl : PE X l tl) : PI X tg l (fun σ H R => tl σ H fun x H1 => ∃ d o,x = .ref d /\ ((∃ kvs,H1 d = some (.frz o (.dT kvs)) /\ R (zuO d o kvs) H1) \/ ∃ kvs,H1 d = some (.frz o (.dK kvs)) /\ R (Itd d o kvs) H1)):=by
 intro pins s σ H R I h
 refine thn (hl pins s σ H _ I h) fun v s1 ⟨x,H1,I1,r1,q1⟩ => ?_
 obtain ⟨d,o,e,q1⟩ := q1
 subst e
 cases r1
 rcases q1 with ⟨kvs,e,q⟩ | ⟨kvs,e,q⟩
 ·obtain ⟨e0,_,_,_,_,o',es,ep,e',_,dd,_⟩ := id (show zbu X.prog X.w H1 s1.heap d (.frz o (.dT kvs)) from I1.hok d _ e)
  rw [e0] at e'
  cases e'
  obtain ⟨xs,kt,da,he,sy⟩ := zkG (I1.hok d _ e) dd
  refine zsX sy da ?_
  refine ⟨s1.heap.objs.size,[s1.heap.objs.size],_,_,H1,rfl,I1.kept (t' := s1.toks) fun b o e => Heap.get?_push_of_some _ e,zlQ d _ dd,⟨_,Heap.get?_push_size _ rfl,rfl,rfl⟩,fun b hb => ?_,q⟩
  have e : b = s1.heap.objs.size := by simpa using hb
  subst e
  exact I1.zow (Nat.le_refl _) (I1.hok.fresh (Nat.le_refl _))
 ·obtain ⟨e0,_,_,vs0,_,o',es,ep,e',_,dd,_⟩ := id (show zbu X.prog X.w H1 s1.heap d (.frz o (.dK kvs)) from I1.hok d _ e)
  rw [e0] at e'
  cases e'
  obtain ⟨vs,kv,da,sy⟩ := znP (I1.hok d _ e) dd
  refine wpAny_pyIter_dict sy da ?_
  refine ⟨s1.heap.objs.size,[s1.heap.objs.size],_,_,H1,rfl,I1.kept (t' := s1.toks) fun b o e => Heap.get?_push_of_some _ e,zmz d _ dd,⟨_,Heap.get?_push_size _ rfl,rfl,by rw [kv.len]; rfl⟩,fun b hb => ?_,q⟩
  have e : b = s1.heap.objs.size := by simpa using hb
  subst e
  exact I1.zow (Nat.le_refl _) (I1.hok.fresh (Nat.le_refl _))
theorem zbK.at {H : Hp} : ∀ {kvs : List (D × D)} {kk : List (List Key × V)} {i : Nat} {d : D},zbK K H kvs kk -> (kvs.map (·.1))[i]? = some d -> ∃ q v,kk[i]? = some (q,v) /\ d = zma q
 | [],kk,i,d,h,e => by simp at e
 | (k,d0) :: r,kk,i,d,h,e => by
  simp only [zbK] at h
  obtain ⟨q',v0,t,rfl,rfl,f0,h2⟩ := h
  cases i with
  | zero => simp at e; exact ⟨q',v0,rfl,e.symm⟩
  | succ i =>
   obtain ⟨q,v,z1,z2⟩ := zbK.at h2 (i:=i) (by simpa using e)
   exact ⟨q,v,by simpa using z1,z2⟩
theorem zbL.at {H : Hp} : ∀ {kvs : List (D × D)} {kk : List (Key × V)} {i : Nat} {d : D},zbL K H kvs kk -> (kvs.map (·.1))[i]? = some d -> ∃ q v,kk[i]? = some (q,v) /\ d = kD q
 | [],kk,i,d,h,e => by simp at e
 | (k,d0) :: r,kk,i,d,h,e => by
  simp only [zbL] at h
  obtain ⟨q',v0,t,rfl,rfl,f0,h2⟩ := h
  cases i with
  | zero => simp at e; exact ⟨q',v0,rfl,e.symm⟩
  | succ i =>
   obtain ⟨q,v,z1,z2⟩ := zbL.at h2 (i:=i) (by simpa using e)
   exact ⟨q,v,by simpa using z1,z2⟩
theorem zqx {H : Hp} {a : Addr} {o : Obj} {kvs : List (D × D)} {kk : List (List Key × V)} (h : H a = some (.frz o (.dT kk))) (f : zbK K H kvs kk) : Walk K (zuO a o kk) (kvs.map (·.1)) H:=by
 refine ⟨fun i d H' fz e => ?_,fun i H' fz e => ⟨fz _ _ h trivial,by rw [f.len]; simpa using e⟩⟩
 obtain ⟨q,v,e1,rfl⟩ := f.at e
 refine ⟨⟨fz _ _ h trivial,(List.getElem?_eq_some_iff.mp e1).1⟩,fun x H'' y => ?_⟩
 obtain ⟨rfl,k,v',b,e2,rfl,tb⟩ := y
 rw [e1] at e2
 cases e2
 exact ⟨zaY.refl _,znO tb⟩
theorem zqy {H : Hp} {a : Addr} {o : Obj} {kvs : List (D × D)} {kk : List (Key × V)} (h : H a = some (.frz o (.dK kk))) (f : zbL K H kvs kk) : Walk K (Itd a o kk) (kvs.map (·.1)) H:=by
 refine ⟨fun i d H' fz e => ?_,fun i H' fz e => ⟨fz _ _ h trivial,by rw [f.len]; simpa using e⟩⟩
 obtain ⟨q,v,e1,rfl⟩ := f.at e
 refine ⟨⟨fz _ _ h trivial,(List.getElem?_eq_some_iff.mp e1).1⟩,fun x H'' y => ?_⟩
 obtain ⟨rfl,k,v',e2,rfl⟩ := y
 rw [e1] at e2
 cases e2
 exact ⟨zaY.refl _,zrs⟩
theorem ziv {tg : Expr} (he : PV K X e f) : PVI K X tg e (iD f) := fun hK => by
 subst hK
 refine (zsk (he rfl)).weak fun σ H R => ?_
 rintro ⟨ρ,rel,q⟩
 refine goV rel q fun dx ρ1 x H1 rel1 st1 fx q1 => ?_
 obtain ⟨items,ei,q2⟩ := q1.zeq
 cases dx with
 | dict kvs =>
  cases ei
  simp only [Fz] at fx
  obtain ⟨a,o,rfl,h⟩ := fx
  rcases h with ⟨kk,h1,h2⟩ | ⟨kk,h1,h2⟩
  ·exact ⟨a,o,rfl,.inl ⟨kk,h1,q2.now rel1 _ (zqx h1 h2)⟩⟩
  ·exact ⟨a,o,rfl,.inr ⟨kk,h1,q2.now rel1 _ (zqy h1 h2)⟩⟩
 | _ => cases ei
end
end FL
namespace FL
open PySem L2 PySem.Spec
open PyProof.Rows hiding St
variable [Cs]
theorem zjy (p q : WK) : ltW p q = L2.ltK p q:=by
 unfold ltW L2.ltK
 rw [zgb]
theorem znp : ∀ a b : List Int,HT.lexLt a b = false -> HT.lexLt b a = false -> a = b
 | [],[],_,_ => rfl
 | [],_ :: _,h,_ => by cases h
 | _ :: _,[],_,h => by cases h
 | x :: xs,y :: ys,h1,h2 => by
  simp only [HT.lexLt] at h1 h2
  by_cases c : x = y
  ·subst c
   rw [if_pos rfl] at h1 h2
   rw [znp xs ys h1 h2]
  ·rw [if_neg c] at h1
   rw [if_neg (Ne.symm c)] at h2
   have a1 := of_decide_eq_false h1
   have a2 := of_decide_eq_false h2
   omega
theorem znl (p q : WK) (h1 : L2.ltK p q = false) (h2 : L2.ltK q p = false) : p = q:=by
 unfold L2.ltK at h1 h2
 by_cases c : p.1 = q.1
 ·rw [if_pos c] at h1
  rw [if_pos c.symm] at h2
  exact Prod.ext c (znp _ _ h1 h2)
 ·rw [if_neg c] at h1
  rw [if_neg (Ne.symm c)] at h2
  have a1 := of_decide_eq_false h1
  have a2 := of_decide_eq_false h2
  omega
def LeP (x y : WK × D) : Prop := L2.ltK y.1 x.1 = false
theorem zpy {x z : WK × D} {l : List (WK × D)} (h : z ∈ znE x l) : z = x \/ z ∈ l:=by
 have := (zgR x l).mem_iff.mp h
 simpa using this
theorem zgQ (x : WK × D) : ∀ l : List (WK × D),l.Pairwise LeP -> (znE x l).Pairwise LeP
 | [],_ => by simp [znE]
 | y :: r,h => by
  unfold znE
  rw [List.pairwise_cons] at h
  split
  ·rename_i c
   rw [zjy] at c
   rw [List.pairwise_cons]
   refine ⟨fun z hz => ?_,zgQ x r h.2⟩
   rcases zpy hz with rfl | hz
   ·exact zjz _ _ c
   ·exact h.1 z hz
  ·rename_i c
   rw [zjy] at c
   have c' : L2.ltK y.1 x.1 = false := by simpa using c
   rw [List.pairwise_cons]
   refine ⟨fun z hz => ?_,List.pairwise_cons.mpr h⟩
   rcases List.mem_cons.mp hz with rfl | hz
   ·exact c'
   ·exact znk _ _ _ c' (h.1 z hz)
theorem zeT : ∀ l : List (WK × D),(zfN l).Pairwise LeP
 | [] => .nil
 | x :: r => zgQ x _ (zeT r)
theorem zjp {α : Type} {le : α -> α -> Prop} : ∀ {l1 l2 : List α},l1.Perm l2 -> l1.Pairwise le -> l2.Pairwise le -> (∀ a ∈ l1,∀ b ∈ l1,le a b -> le b a -> a = b) -> l1 = l2
 | [],l2,h,_,_,_ => (List.nil_perm.mp h).symm
 | a :: r1,[],h,_,_,_ => by have := h.length_eq; simp at this
 | a :: r1,b :: r2,h,p1,p2,an => by
  rw [List.pairwise_cons] at p1 p2
  have e : a = b:=by
   have ha : a ∈ b :: r2 := h.mem_iff.mp (List.mem_cons_self ..)
   have hb : b ∈ a :: r1 := h.mem_iff.mpr (List.mem_cons_self ..)
   rcases List.mem_cons.mp ha with e | ha'
   ·exact e
   rcases List.mem_cons.mp hb with e | hb'
   ·exact e.symm
   exact an a (List.mem_cons_self ..) b (List.mem_cons_of_mem _ hb') (p1.1 b hb') (p2.1 a ha')
  subst e
  rw [zjp ((List.perm_cons a).mp h) p1.2 p2.2 fun x hx y hy => an x (List.mem_cons_of_mem _ hx) y (List.mem_cons_of_mem _ hy)]
theorem zgk : ∀ {ws : List WK} {ks : List D} {x y : WK × D},ws.Nodup -> x ∈ ws.zip ks -> y ∈ ws.zip ks -> x.1 = y.1 -> x = y
 | [],ks,x,y,_,h,_,_ => by simp at h
 | _ :: _,[],x,y,_,h,_,_ => by simp at h
 | w :: ws,k :: ks,x,y,nd,h1,h2,e => by
  rw [List.nodup_cons] at nd
  rw [List.zip_cons_cons] at h1 h2
  rcases List.mem_cons.mp h1 with rfl | h1
  ·rcases List.mem_cons.mp h2 with rfl | h2
   ·rfl
   ·exact absurd (by rw [show w = y.1 from e]; exact (List.of_mem_zip h2).1) nd.1
  ·rcases List.mem_cons.mp h2 with rfl | h2
   ·exact absurd (by rw [show w = x.1 from e.symm]; exact (List.of_mem_zip h1).1) nd.1
   ·exact zgk nd.2 h1 h2 e
theorem zmT (ws : List WK) (ks : List D) (h : ws.length = ks.length) : (List.range ks.length).map (fun i => (ws.getD i (0,[]),ks.getD i PyData.none)) = ws.zip ks:=by
 apply List.ext_getElem
 ·simp [h]
 ·intro i h1 h2
  have hi : i < ks.length := by simpa using h1
  have hi' : i < ws.length := by omega
  simp [List.getD_eq_getElem?_getD,List.getElem?_eq_getElem hi,List.getElem?_eq_getElem hi']
theorem zmG {ws : List WK} {ks : List D} {p : Array Nat} (hl : ws.length = ks.length) (nd : ws.Nodup) (ar : Arr ks.length p) (up : Up (ltP ws) p ks.length) : p.toList.map (fun i => ks.getD i PyData.none) = (zfN (ws.zip ks)).map (·.2):=by
 have hp : (p.toList.map fun i => (ws.getD i (0,[]),ks.getD i PyData.none)).Perm (ws.zip ks):=by
  have := (Array.perm_iff_toList_perm.mp ar.pm).map fun i => (ws.getD i (0,[]),ks.getD i PyData.none)
  rw [List.toList_toArray,zmT ws ks hl] at this
  exact this
 have e : (p.toList.map fun i => (ws.getD i (0,[]),ks.getD i PyData.none)) = zfN (ws.zip ks):=by
  refine zjp (hp.trans (zgN _).symm) ?_ (zeT _) fun x hx y hy h1 h2 => ?_
  ·rw [List.pairwise_iff_getElem]
   intro i j hi hj hij
   have hi' : i < p.size := by simpa using hi
   have hj' : j < p.size := by simpa using hj
   have := up i j (Nat.le_of_lt hij) (by rw [<- ar.sz]; exact hj')
   rw [show gp p i = p[i] by simp [gp,Array.getD,hi'],show gp p j = p[j] by simp [gp,Array.getD,hj']] at this
   simpa [LeP,ltP] using this
  ·exact zgk nd (hp.mem_iff.mp hx) (hp.mem_iff.mp hy) (znl _ _ h2 h1)
 rw [<- e,List.map_map]
 rfl
section
variable {K : PySem.W.Frag} {X : Cx} {H : Hp}
theorem zqa : ∀ {kvs : List (D × D)} {kk : List (List Key × V)} {xs : List V},zbK K H kvs kk -> KTs H kk xs -> zak K H (kvs.map (·.1)) xs
 | [],kk,xs,h,t => by
  simp only [zbK] at h
  subst h
  have : xs = [] := t
  subst this
  simp [zak]
 | (k,d) :: r,kk,xs,h,t => by
  simp only [zbK] at h
  obtain ⟨q,v,t',rfl,rfl,f,h2⟩ := h
  obtain ⟨b,u,rfl,tb,t2⟩ := t
  simp only [List.map_cons,zak]
  exact ⟨_,_,rfl,znO tb,zqa h2 t2⟩
theorem zqc : ∀ {kvs : List (D × D)} {kk : List (Key × V)},zbL K H kvs kk -> zak K H (kvs.map (·.1)) (kk.map fun kv => kV kv.1)
 | [],kk,h => by simp only [zbL] at h; subst h; simp [zak]
 | (k,d) :: r,kk,h => by
  simp only [zbL] at h
  obtain ⟨q,v,t',rfl,rfl,f,h2⟩ := h
  simp only [List.map_cons,zak]
  exact ⟨_,_,rfl,zrs,zqc h2⟩
theorem ziX {kvs : List (D × D)} {d : Addr} {xs : List V} (h : Fz K H (.dict kvs) (.ref d)) (t : zot H d xs) : zak K H (kvs.map (·.1)) xs:=by
 simp only [Fz] at h
 obtain ⟨a,o,e,h⟩ := h
 cases e
 rcases h with ⟨kk,h1,h2⟩ | ⟨kk,h1,h2⟩
 ·rcases t with ⟨kk',rd,t⟩ | ⟨kk',rd,t⟩
  ·have : kk' = kk:=by
    rcases rd with z | ⟨o',z⟩
    ·rw [h1] at z; cases z
    ·rw [h1] at z; cases z; rfl
   subst this
   exact zqa h2 t
  ·rcases rd with z | ⟨o',z⟩
   ·rw [h1] at z; cases z
   ·rw [h1] at z; cases z
 ·rcases t with ⟨kk',rd,t⟩ | ⟨kk',rd,t⟩
  ·rcases rd with z | ⟨o',z⟩
   ·rw [h1] at z; cases z
   ·rw [h1] at z; cases z
  ·have : kk' = kk:=by
    rcases rd with z | ⟨o',z⟩
    ·rw [h1] at z; cases z
    ·rw [h1] at z; cases z; rfl
   subst this
   subst t
   exact zqc h2
theorem zs3 {kvs : List (D × D)} {d : Addr} (h : Fz K H (.dict kvs) (.ref d)) : IsD H d:=by
 simp only [Fz] at h
 obtain ⟨a,o,e,h⟩ := h
 cases e
 rcases h with ⟨kk,h1,h2⟩ | ⟨kk,h1,h2⟩
 ·exact .inr ⟨kk,.inr ⟨o,h1⟩⟩
 ·exact .inl ⟨kk,.inr ⟨o,h1⟩⟩
theorem zmt {kd : D} {w : WK} {v : V} (e : zoy kd = some w) (f : Fz K H kd v) : zes H w v:=by
 unfold zoy at e
 split at e
 ·rename_i n xs
  rw [Option.map_eq_some_iff] at e
  obtain ⟨w0,e0,rfl⟩ := e
  simp only [Fz,zak] at f
  obtain ⟨b,vs,rfl,tb,v1,r1,rfl,rfl,v2,r2,rfl,⟨c,ws,rfl,tc,fw⟩,rfl⟩ := f
  obtain ⟨rfl,_⟩ := zak.ints fw e0
  exact ⟨b,c,rfl,tb,tc⟩
 ·cases e
theorem zjE {p1 : Str} {k : Nat} {f : Addr} {fd : FuncData} {G : List D -> R D} {σ : L2.St} (hr : zdT k X.A) (hb : Binds X.K fd [p1] []) (F : zie X.prog X.w X.K X.mg X.base (CXe X.prog X.w) k f fd [p1] (spP X.K 1 false G)) (cst : zqv H) :
  ∀ {ds : List D} {xs : List V} {ws : List WK},zak X.K H ds xs -> zgL G ds = .ok ws -> zic X σ H f xs ws
 | [],xs,ws,h,e => by
  simp only [zak] at h
  subst h
  cases e
  rfl
 | d :: ds,xs,ws,h,e => by
  simp only [zak] at h
  obtain ⟨v,r,rfl,h1,h2⟩ := h
  obtain ⟨kd,e1,e⟩ := zaq (show (G [d]).bind _ = .ok ws from e)
  obtain ⟨w,e2,e⟩ := zaq e
  obtain ⟨ws',e3,e⟩ := zaq e
  cases e
  refine ⟨w,ws',rfl,fun u pins' H' s' ru sm I => ?_,zjE hr hb F cst h2 e3⟩
  have hl : ([u] ++ ([] : List Value)).length = [p1].length := rfl
  refine wpAny_call (codeAny_mono (F.run X.A X.stack s' H' ⟨[u],[]⟩ ([u] ++ []) [v] (fun k H'' => zaY H' H'' /\ zes H'' w k) (fun _ _ _ => False) hr I.env0 (hb s' [u] I.kIn hl) (.cons ru .nil) ?_) fun r s2 hq => ?_)
  ·refine ⟨[d],rfl,cst.mono (Fzn.of sm),?_,kd,e1,fun k H'' sm2 fz => ⟨sm2,zmt (zm8 e2) fz⟩⟩
   simp only [zak]
   exact ⟨v,[],rfl,h1.mono (Fzn.of sm),rfl⟩
  ·cases r with
   | error ev =>
    obtain ⟨_,_,_,_,_,_,_,_,_,_,_,_,_,_,_,z⟩ := (show CXe X.prog X.w X.stack H' s' (fun _ _ _ => False) ev s2 from hq)
    exact z.elim
   | ok fl =>
    cases fl with
    | ret u => exact I.after hq
    | next => exact False.elim hq
    | brk => exact False.elim hq
    | cont => exact False.elim hq
theorem zak.pick {ds : List D} {xs : List V} (h : zak K H ds xs) : ∀ (p : List Nat),(∀ i ∈ p,i < ds.length) -> zak K H (p.map fun i => ds.getD i PyData.none) (p.map fun i => xs.getD i .non)
 | [],_ => by simp [zak]
 | i :: p,hp => by
  simp only [List.map_cons,zak]
  have hi := hp i (List.mem_cons_self ..)
  obtain ⟨v,ev,fv⟩ := h.get (List.getElem?_eq_getElem hi)
  refine ⟨_,_,rfl,?_,zak.pick h p fun j hj => hp j (List.mem_cons_of_mem _ hj)⟩
  rw [List.getD_eq_getElem?_getD,List.getD_eq_getElem?_getD,ev,List.getElem?_eq_getElem hi]
  exact fv
theorem zjl {x p1 : Str} {k j : Nat} {G : List D -> R D} {e : Expr} {f : EF} {p px kp pos : Pos} (c : Callee X.prog X.w X.K X.mg X.base x k [p1] (spP X.K 1 false G)) (hr : zdT j X.A) (hc : X.calm = true) (hgs : Gl X "sorted") (hms : X.mg "sorted" = none) (hgx : Gl X x) (he : PV K X e f) (hj : k + 2 <= j := by decide)
  (hv : bootBuiltins "sorted" = some (.builtin "sorted") := by decide +kernel) (hdx : (x == ("__debug__" : Str)) = false := by decide) (hs : starEach [e] X.env = (false,eval e X.env) :: starEach [] X.env := by rfl)
  (hst : backTo pos (starEach [e] X.env) = (false,eval e X.env) :: backTo pos (starEach [] X.env) := by rfl) (hpl : (backTo pos (starEach [e] X.env)).any (·.1) = false := by rfl) :
  PVN K X (.Call (.Name "sorted" p) [e] [⟨some "key",.Name x px,kp⟩] pos) (e1 (zeJ G) f) := fun hK => by
 subst hK
 obtain ⟨fa,fd,hm,hkp,hb,F⟩ := c
 intro pins s σ H Q I h
 obtain ⟨ρ,rel,q⟩ := h
 have q0 : (tA X.K (zac f zau)) σ H fun vs H1 => ∃ dd v ρ1,vs = [v] /\ Rel X.K ρ1 σ H1 /\ Stp ρ ρ1 σ H H1 /\ Fz X.K H1 dd v /\ Good X.K ρ1 σ H1 ((zeJ G dd).bind fun d => .ok (d,ρ1)) fun d ρ' H' => ∀ a,H a = none -> zbq X.K H' a d -> Q (.ref a) H':=by
  obtain ⟨y,ey,q⟩ := q.bnd
  refine ⟨ρ,rel,?_⟩
  show Good X.K ρ σ H ((f ρ).bind fun x => (zau x.2).bind fun y => .ok (x.1 :: y.1,y.2)) _
  rw [ey]
  intro H1 rel1 st1 vs fs
  simp only [zak] at fs
  obtain ⟨v,r,rfl,fv,rfl⟩ := fs
  exact ⟨y.1,v,y.2,rfl,rel1,st1,fv,q.step st1⟩
 refine wpAny_Call_Name_kw (zhT I hgs hms hv ?_)
 refine callWith_kw (thn ((zab he zaj hs rfl) pos pins s σ H _ I q0) fun us s1 ⟨vs,H1,I1,r1,dd,v,ρ1,evs,rel1,st1,fv,q1⟩ => ?_) hst hpl rfl rfl
 subst evs
 cases r1 with
 | cons ru rn =>
  cases rn
  refine kws_cons (zku I1 hgx hm (kws_nil ?_) hdx)
  obtain ⟨dr,edr,q2⟩ := q1.zeq
  obtain ⟨ks,e1,edr⟩ := zaq (show (zgK dd).bind _ = .ok dr from edr)
  obtain ⟨cl,edr⟩ := zbi edr
  obtain ⟨ws,e2,edr⟩ := zaq edr
  obtain ⟨cn,edr⟩ := zbi edr
  cases edr
  cases dd with
  | dict kvs =>
   cases e1
   have hd : ∃ d,v = .ref d:=by
    simp only [Fz] at fv
    obtain ⟨a,_,e,_⟩ := fv
    exact ⟨a,e⟩
   obtain ⟨d,rfl⟩ := hd
   cases ru
   have hlen : (kvs.map (·.1)).length < 64 := zjB cl
   have hu := hr.un
   have hu : X.A.units + 3 < cLine := by omega
   have rr : zdT k X.in1.in1.A := ((hr.mono hj : zdT (k + 1 + 1) X.A).in1).in1
   have wlen : ∀ {ds : List D} {ws : List WK},zgL G ds = .ok ws -> ws.length = ds.length:=by
    intro ds
    induction ds with
    | nil => intro ws h; cases h; rfl
    | cons d0 r0 ih =>
     intro ws h
     obtain ⟨_,_,h⟩ := zaq (show (G [d0]).bind _ = .ok ws from h)
     obtain ⟨_,_,h⟩ := zaq h
     obtain ⟨ws',e3,h⟩ := zaq h
     cases h
     simp [ih e3]
   have wl := wlen e2
   refine zjX (f:=fa) hu hc I1 (zs3 fv) (fun xs dk => by rw [(ziX fv dk).len]; exact hlen) fun xs dk => ⟨ws,zjE (X:=X.in1.in1) rr hb F rel1.cst (ziX fv dk) e2,fun pp a H' ar up sm ha => ?_⟩
   have fx := ziX fv dk
   rw [fx.len] at ar up
   have su := zmG wl (of_decide_eq_true cn) ar up
   have sm2 : zaY H1 (upd H' a (.lst (pp.toList.map fun i => xs.getD i .non))) := zhO sm (zaY.upd ha)
   refine q2.new rel1 sm2 a ?_ ?_
   ·have h1a : H1 a = none:=by
     cases e0 : H1 a with
     | none => rfl
     | some o => rw [sm a o e0] at ha; cases ha
    exact st1.old rel1 h1a
   ·refine ⟨_,zas,?_⟩
    rw [<- su]
    refine (fx.mono (Fzn.of sm2)).pick pp.toList fun i hi => ?_
    have := (Array.perm_iff_toList_perm.mp ar.pm).mem_iff.mp hi
    simpa using this
  | _ => cases e1
end
end FL
namespace FL
open PySem L2 PySem.Spec
open PyProof.Rows hiding St
variable [Cs]
end FL
namespace FL
open PySem L2 PySem.Spec
open PyProof.Rows hiding St
def ze2 (cs : List Addr) (K : PySem.W.Frag) : PySem.W.Frag := K.filter fun p => !cs.contains p.1
theorem zdQ (cs : List Addr) : ∀ (K : PySem.W.Frag) (b : Addr),(ze2 cs K).lookup b = if cs.contains b = true then none else K.lookup b
 | [],b => by simp [ze2]
 | (c,o) :: K,b => by
  have ih := zdQ cs K b
  unfold ze2 at ih ⊢
  rw [List.filter_cons]
  by_cases hc : cs.contains c = true
  ·rw [if_neg (by simp only [hc]; decide),ih]
   by_cases hb : cs.contains b = true
   ·rw [if_pos hb,if_pos hb]
   ·have ne : b ≠ c := fun z => by rw [z] at hb; exact hb hc
    rw [if_neg hb,if_neg hb]
    simp [List.lookup_cons,show (b == c) = false from by simpa using ne]
  ·have hc' : cs.contains c = false := by simpa using hc
   rw [if_pos (by simp only [hc']; decide)]
   by_cases e : b = c
   ·subst e
    rw [if_neg hc]
    simp [List.lookup_cons]
   ·have e' : (b == c) = false := by simpa using e
    rw [List.lookup_cons,List.lookup_cons,e']
    exact ih
theorem zqq {cs : List Addr} {K : PySem.W.Frag} {h : Heap} (x : K.In h) : (ze2 cs K).In h := fun a o e => by
 rw [zdQ] at e
 split at e
 ·cases e
 ·exact x a o e
def zrO (cs : List Addr) (K : PySem.W.Frag) : Prop := ∀ c ∈ cs,∃ o its n,K.lookup c = some o /\ o.data = Data.seq its n
theorem zlH {cs : List Addr} {K : PySem.W.Frag} (s : zrO cs K) {b : Addr} {o : Obj} (e : K.lookup b = some o) (n : ∀ its m,o.data ≠ .seq its m) : (ze2 cs K).lookup b = some o:=by
 rw [zdQ,if_neg,e]
 intro c
 obtain ⟨o',its,m,e',d⟩ := s b (by simpa using c)
 rw [e] at e'
 cases e'
 exact n _ _ d
theorem zmo {cs : List Addr} {K : PySem.W.Frag} (s : zrO cs K) {cd : Value} {q : Str} (h : PySem.W.codeIn K cd q = true) : PySem.W.codeIn (ze2 cs K) cd q = true:=by
 cases cd with
 | ref c =>
  unfold PySem.W.codeIn at h ⊢
  cases e : K.lookup c with
  | none => simp only [e] at h; cases h
  | some o =>
   obtain ⟨oc,od,data,sl⟩ := o
   cases data with
   | fields vs =>
    simp only [e] at h
    simp only [zlH s e fun _ _ z => nomatch z]
    exact h
   | _ => simp only [e] at h; cases h
 | _ => cases h
theorem Fun.cut {cs : List Addr} {K : PySem.W.Frag} (s : zrO cs K) {x q : Str} {st : Stmt} {f : Addr} {fd : FuncData} (F : Fun K x q st f fd) : Fun (ze2 cs K) x q st f fd:=by
 obtain ⟨⟨oc,od,kV,doc,pm,an,cdv,ct,osl,e,l,c⟩,kp⟩ := F
 have l' := zlH s l fun _ _ z => nomatch z
 refine ⟨⟨oc,od,kV,doc,pm,an,cdv,ct,osl,e,l',zmo s c⟩,?_⟩
 unfold PySem.W.keepIn
 simp only [l']
theorem Has.cut {cs : List Addr} {K : PySem.W.Frag} {mg : Str -> Option Value} (s : zrO cs K) {x : Str} {st : Stmt} (h : Has K mg x st) : Has (ze2 cs K) mg x st:=by
 obtain ⟨f,fd,hm,F⟩ := h
 exact ⟨f,fd,hm,Fun.cut s F⟩
abbrev CL := List (Addr × Obj × List V)
def zkd (cl : CL) : Hp := fun b => (cl.lookup b).map fun p => .frz p.1 (.tup p.2)
@[reducible] def zrN (cl : CL) : Cs := ⟨zkd cl,fun a u h => by
 unfold zkd at h
 rw [Option.map_eq_some_iff] at h
 obtain ⟨p,_,rfl⟩ := h
 exact ⟨_,_,rfl⟩⟩
def zke (cl : CL) (K : PySem.W.Frag) : Prop := ∀ p ∈ cl,K.lookup p.1 = some p.2.1 /\ p.2.1.cls = .type "tuple" /\ p.2.2.length <= sizeLine /\ ∃ (its : Array Value) (n : Nat),p.2.1.data = .seq its n /\ Vals p.2.2 its.toList
theorem zke.nil {K : PySem.W.Frag} : zke [] K := fun p hp => by simp at hp
theorem zke.cons {K : PySem.W.Frag} {a : Addr} {od : Option Addr} {its : Array Value} {n : Nat} {sl : Array (Option Value)} {xs : List V} {cl : CL} (e : K.lookup a = some ⟨.type "tuple",od,.seq its n,sl⟩) (hv : Vals xs its.toList) (hl : xs.length <= 1000) (r : zke cl K) : zke ((a,⟨.type "tuple",od,.seq its n,sl⟩,xs) :: cl) K := fun p hp => by
 rcases List.mem_cons.mp hp with rfl | hp
 ·exact ⟨e,rfl,Nat.le_of_lt (zmI hl),its,n,rfl,hv⟩
 ·exact r p hp
theorem zke.seqs {cl : CL} {K : PySem.W.Frag} (h : zke cl K) : zrO (cl.map (·.1)) K := fun c hc => by
 obtain ⟨p,hp,rfl⟩ := List.mem_map.mp hc
 obtain ⟨e,_,_,its,n,d,_⟩ := h p hp
 exact ⟨_,its,n,e,d⟩
theorem mem_of_lookup {α : Type} : ∀ {l : List (Addr × α)} {a : Addr} {x : α},l.lookup a = some x -> (a,x) ∈ l
 | [],a,x,h => by simp at h
 | (b,y) :: r,a,x,h => by
  rw [List.lookup_cons] at h
  cases e : a == b with
  | true =>
   rw [e] at h
   cases h
   have := eq_of_beq e
   subst this
   exact List.mem_cons_self ..
  | false =>
   rw [e] at h
   exact List.mem_cons_of_mem _ (mem_of_lookup h)
theorem zhX {cl : CL} {K : PySem.W.Frag} (h : zke cl K) {b : Addr} {u : HO} (e : zkd cl b = some u) : (ze2 (cl.map (·.1)) K).lookup b = none /\ ∃ (o : Obj) (xs : List V) (its : Array Value) (n : Nat),u = .frz o (.tup xs) /\ K.lookup b = some o /\ o.cls = .type "tuple" /\ o.data = .seq its n /\ xs.length <= sizeLine /\ Vals xs its.toList:=by
 unfold zkd at e
 rw [Option.map_eq_some_iff] at e
 obtain ⟨⟨o,xs⟩,el,rfl⟩ := e
 have m := mem_of_lookup el
 obtain ⟨h1,h2,h3,its,n,h4,h5⟩ := h _ m
 refine ⟨?_,o,xs,its,n,rfl,h1,h2,h4,h3,h5⟩
 rw [zdQ,if_pos]
 have : b ∈ cl.map (·.1) := List.mem_map.mpr ⟨_,m,rfl⟩
 simpa using this
theorem znq {P : Program} {w : World} {K : PySem.W.Frag} {mg mb : Str -> Option Value} {CX : CXT} {k : Nat} {fa a : Addr} {fd : FuncData} {x : Str} {sp : Sp} {s₁ : Shared} {vs : List Value} {ns : List Int} {cl : CL}
  (KX : K.In s₁.heap) (hC : zke cl K) (hns : s₁.heap.Ns mainGlobals mg) (hb : s₁.heap.Ns builtinsNs mb) (hbb : ∀ x : Str,x ≠ "__name__" -> mb x = bootBuiltins x) (hlim : s₁.heap.NoLimit) (hg : s₁.gens = #[])
  (ha : s₁.heap.get? a = some { cls := .type "list",data := .seq vs.toArray }) (hi : IntsAre vs ns) (hl : ns.length <= sizeLine) (hr : zdT k callerA)
  (F : ∀ base : Heap,(ze2 (cl.map (·.1)) K).In base -> base.Ns mainGlobals mg -> zie P w (ze2 (cl.map (·.1)) K) mg base CX k fa fd [x] sp) (hbind : ∀ (s : Shared) (u : Value),BindsTo s fd ⟨[u],[]⟩ [(x,u)])
  (hsp : ∀ H : Hp,(∀ b xs,H b ≠ some (.lst xs)) -> (∀ b u,zkd cl b = some u -> H b = some u) -> SqL (ze2 (cl.map (·.1)) K) H a (ns.map V.int) -> sp [.ref a] H (fun v _ => v = .bl true) fun _ _ _ => False)
  (hCX : ∀ H e s',CX [] H s₁ (fun _ _ _ => False) e s' -> False) :
  codeAny (model P w) callerA (.call (.ref fa) ⟨[.ref a],[]⟩) (fun r s' => r = .ok (.ret (.bool true)) /\ OldK s₁.heap s'.heap /\ s'.os = s₁.os /\ AllBare s'.gens) s₁:=by
 have rv := zjb hi
 have lenV := hi.length
 have core : ∀ H : Hp,(∀ b u,H b = some u -> ∃ o v,u = .frz o v /\ ∀ es ep,o.data ≠ .dict es ep) -> (∀ b xs,H b ≠ some (.lst xs)) -> (∀ b u,zkd cl b = some u -> H b = some u) -> SqL (ze2 (cl.map (·.1)) K) H a (ns.map V.int) -> HOk P w H s₁.heap -> (∀ b,H b ≠ none -> (ze2 (cl.map (·.1)) K).lookup b = none) ->
   codeAny (model P w) callerA (.call (.ref fa) ⟨[.ref a],[]⟩) (fun r s' => r = .ok (.ret (.bool true)) /\ OldK s₁.heap s'.heap /\ s'.os = s₁.os /\ AllBare s'.gens) s₁:=by
  intro H hO hL hcc hS hok hK
  have base_of : ∀ {b : Addr} {o : Obj},s₁.heap.get? b = some o -> H b = none -> (zpA s₁.heap H).get? b = some o := fun e n => zpz e n
  have noA : ∀ {b : Addr} {o : Obj} {es : Array DictEntry} {ep : Nat},s₁.heap.get? b = some o -> o.data = .dict es ep -> H b = none := fun {b o es ep} e d => by
   cases q : H b with
   | none => rfl
   | some u =>
    obtain ⟨o',v,rfl,nd⟩ := hO b u q
    obtain ⟨e',_⟩ := hok b _ q
    rw [e] at e'
    cases e'
    exact absurd d (nd es ep)
  have nsK : ∀ {b : Addr} {m : Str -> Option Value},s₁.heap.Ns b m -> (zpA s₁.heap H).Ns b m := fun {b m} ⟨o,es,ep,e,d,r⟩ => ⟨o,es,ep,base_of e (noA e d),d,r⟩
  have hKb : (ze2 (cl.map (·.1)) K).In (zpA s₁.heap H) := fun b o e => base_of (zqq KX b o e) (by
   cases q : H b with
   | none => rfl
   | some u => rw [hK b (by rw [q]; simp)] at e; cases e)
  have hM : Mod (ze2 (cl.map (·.1)) K) mg (zpA s₁.heap H) := ⟨hKb,nsK hns,⟨mb,nsK hb,hbb⟩,let ⟨mc,h1,h2⟩ := hlim; ⟨mc,nsK h1,h2⟩⟩
  have e0 : ztQ P w (ze2 (cl.map (·.1)) K) mg (zpA s₁.heap H) callerA [] s₁ H := ⟨rfl,hM,fun b o e => zre e,Nat.le_of_eq (znG _ _),trivial,fun b hb => absurd (show b ∈ ([] : List Addr) from hb) (by simp),hok,.of_eq hg⟩
  refine codeAny_mono ((F _ hKb (nsK hns)).run callerA [] s₁ H ⟨[.ref a],[]⟩ [.ref a] [.ref a] _ _ hr e0 (hbind s₁ (.ref a)) (.cons rfl .nil) (hsp H hL hcc hS)) fun r s' h => ?_
  cases r with
  | error e => exact (hCX H e s' h).elim
  | ok fl =>
   cases fl with
   | next => exact False.elim h
   | brk => exact False.elim h
   | cont => exact False.elim h
   | ret u =>
    obtain ⟨v,H',os,bare,un,hok',r',q⟩ := h
    have q' : v = .bl true := q
    subst q'
    obtain rfl : u = Value.bool true := r'
    refine ⟨rfl,OldK.of_keep fun b o e => ?_,os,bare⟩
    cases q : H b with
    | none => exact un.keep b o e q (by intro z; exact absurd (show b ∈ ([] : List Addr) from z) (by simp)) (by simp)
    | some u =>
     obtain ⟨ob,v,rfl,_⟩ := hO b u q
     have z2 := un.frzs b ob _ q
     obtain ⟨e1,_⟩ := hok b _ q
     obtain ⟨e2,_⟩ := hok' b _ z2
     rw [e] at e1; cases e1
     exact e2
 have cok : ∀ {H : Hp} {b : Addr} {u : HO},zkd cl b = some u -> zbu P w H s₁.heap b u := fun {H b u} e => by
  obtain ⟨_,o,xs,its,n,rfl,h1,h2,h3,h4,h5⟩ := zhX hC e
  have hg := KX b o h1
  exact ⟨hg,h4,its.toList,h5,o,hg,h2,n,by simpa using h3⟩
 have cfr : ∀ {b : Addr} {u : HO},zkd cl b = some u -> ∃ o v,u = .frz o v /\ ∀ es ep,o.data ≠ .dict es ep := fun {b u} e => by
  obtain ⟨_,o,xs,its,n,rfl,h1,h2,h3,h4,h5⟩ := zhX hC e
  exact ⟨o,_,rfl,fun es ep z => by rw [h3] at z; cases z⟩
 have clst : ∀ {b : Addr} {xs : List V},zkd cl b ≠ some (.lst xs) := fun {b xs} e => by
  obtain ⟨_,o,xs,its,n,z,_⟩ := zhX hC e
  cases z
 cases hk : (ze2 (cl.map (·.1)) K).lookup a with
 | some o =>
  have e := zqq KX a o hk
  rw [ha] at e
  cases e
  exact core (zkd cl) (fun b u e => cfr e) (fun b xs e => clst e) (fun _ _ e => e) (.inr ⟨_,vs.toArray,_,hk,rfl,rfl,rfl,by rw [List.size_toArray,lenV]; exact hl,by simpa using rv⟩) (fun b u z => cok z) fun b hb => by
   cases q : zkd cl b with
   | none => exact absurd q hb
   | some u => exact (zhX hC q).1
 | none =>
  have na : ∀ u,zkd cl a ≠ some u := fun u z => by
   obtain ⟨_,o,xs,its,n,rfl,h1,h2,h3,h4,h5⟩ := zhX hC z
   have := KX a o h1
   rw [ha] at this
   cases this
   simp at h2
  refine core (fun b => if b = a then some (.frz { cls := .type "list",data := .seq vs.toArray } (.lst (ns.map V.int))) else zkd cl b) (fun b u e => ?_) (fun b xs e => ?_) (fun b u e => ?_) (.inl (.inr ⟨{ cls := .type "list",data := .seq vs.toArray },if_pos rfl⟩)) (fun b u z => ?_) fun b hb => ?_
  ·split at e
   ·cases e; exact ⟨_,_,rfl,fun es ep z => nomatch z⟩
   ·exact cfr e
  ·split at e
   ·cases e
   ·exact clst e
  ·have : b ≠ a := fun z => by subst z; exact na u e
   simp only [if_neg this]; exact e
  ·simp only at z
   split at z
   ·rename_i c
    cases z
    subst c
    exact ⟨ha,by rw [List.length_map]; exact hl,vs,_,rv,ha⟩
   ·exact cok z
  ·by_cases c : b = a
   ·subst c; exact hk
   ·simp only [if_neg c] at hb
    cases q : zkd cl b with
    | none => exact absurd q hb
    | some u => exact (zhX hC q).1
theorem zoB {l : PySem.W.OpenLaw} {k : Nat} {q : Program} {loose : List Str} {XP : (Str -> Option Value) -> Heap -> Prop} {YP : World -> Heap -> Prop} {d : DefRec} {K : Params -> PySem.W.Frag} {x : Str} {G : List D -> R D}
  (hlaw : ∀ ns : List Int,ns.length <= 63 -> G [.list (ns.map PyData.int)] = .ok (.bool true)) (hn : l.most = some 63) (hdf : d.params.defaults = []) (hr : zdT k callerA)
  (hY : ∀ (w : World) (h : Heap),YP w h -> (K w.params).In h)
  (F : ∀ (w : World) (mg : Str -> Option Value) (fa : Addr) (h : Heap),(K w.params).In h -> h.Ns mainGlobals mg -> mg d.name = some (.ref fa) ->
   ∃ (cl : CL) (fd : FuncData),zke cl (K w.params) /\ (∀ (s : Shared) (u : Value),BindsTo s fd ⟨[u],[]⟩ [(x,u)]) /\
    ∀ base : Heap,(ze2 (cl.map (·.1)) (K w.params)).In base -> base.Ns mainGlobals mg -> zie l.prog w (ze2 (cl.map (·.1)) (K w.params)) mg base (CXe l.prog w) k fa fd [x] (@spP (zrN cl) (ze2 (cl.map (·.1)) (K w.params)) 1 false G)) :
  PySem.W.WalkO q loose XP YP l.row.toRowW d [] (fun f vs => PySem.call f vs):=by
 refine Att.zkP hn hdf fun w s₀ s₁ mg mb fa o pm cd doc a vs ns GG Y ho hd hcd hmg hobj hints hlen hg => ?_
 have KX := hY w _ Y
 obtain ⟨cl,fd,hC,hb,hF⟩ := F w mg fa _ KX GG.T.g hmg
 refine znq KX hC GG.T.g GG.T.b GG.T.builtins GG.T.nolimit hg hobj hints (Nat.le_trans hlen (by decide)) hr hF hb (fun H hO hcc hS => @zsO (zrN cl) _ G H a ns (hlaw ns hlen) hO hcc hS) fun H e s' ⟨_,_,_,_,_,_,_,_,_,_,_,_,_,_,_,z⟩ => z
variable [Cs]
theorem zmW {K : PySem.W.Frag} {X : Cx} {x : Str} {a : Addr} {pos : Pos} {ds : List D} {vs : List V} (hg : Gl X x) (hm : X.mg x = some (.ref a)) (hc : ∃ o,Cs.C a = some (.frz o (.tup vs))) (hf : ∀ H,zak K H ds vs) (hd : (x == ("__debug__" : Str)) = false := by decide) :
  PV K X (.Name x pos) (eC (.tuple ds)) := fun _ => (zm5 hg hm (v:=.ref a) rfl hd).weak fun σ H Q => by
 rintro ⟨ρ,rel,g⟩
 obtain ⟨o,hc⟩ := hc
 refine g.now rel (.ref a) ?_
 simp only [Fz]
 exact ⟨a,vs,rfl,.inr ⟨o,rel.cst _ _ hc⟩,hf H⟩
end FL
namespace FL
open PySem L2 PySem.Spec
open PyProof.Rows hiding St
theorem zaL {k : Nat} {A : Around} (hr : zdT k A) : A.units + 1 < cLine := by have := hr.un; omega
theorem zaC {k : Nat} {A : Around} (hr : zdT k A) : A.units + 80 < cLine := by have := hr.un; omega
theorem zmQ {x y : V} {u : Value} (h1 : L2.RelV x u) (h2 : L2.RelV y u) : x = y:=by
 cases x <;> cases y <;> simp only [L2.RelV] at h1 h2 <;> first
  | (subst h1; cases h2; rfl; done)
  | (subst h1; obtain ⟨t',h2⟩ := h2; cases h2; done)
  | (obtain ⟨t,rfl⟩ := h1; obtain ⟨t',h2⟩ := h2; cases h2; rfl; done)
  | (obtain ⟨t,rfl⟩ := h1; obtain ⟨t',h2⟩ := h2; cases h2; done)
  | (subst h1; cases h2; done)
  | (obtain ⟨t,rfl⟩ := h1; cases h2; done)
theorem zja : ∀ {xs ys : List V} {us : List Value},Vals xs us -> Vals ys us -> xs = ys
 | _,_,_,.nil,.nil => rfl
 | _,_,_,.cons r1 t1,.cons r2 t2 => by rw [zmQ r1 r2,zja t1 t2]
theorem lookup_mem {α : Type} : ∀ {l : List (Addr × α)} {a : Addr} {x : α},(a,x) ∈ l -> ∃ y,l.lookup a = some y
 | [],a,x,h => by simp at h
 | (b,y) :: r,a,x,h => by
  rw [List.lookup_cons]
  cases e : a == b with
  | true => exact ⟨y,rfl⟩
  | false =>
   rcases List.mem_cons.mp h with z | z
   ·cases z; simp at e
   ·exact lookup_mem z
theorem zsZ {cl : CL} {K : PySem.W.Frag} (h : zke cl K) {a : Addr} {o : Obj} {xs : List V} (m : (a,o,xs) ∈ cl) : ∃ o',(zrN cl).C a = some (.frz o' (.tup xs)):=by
 obtain ⟨⟨o2,ys⟩,el⟩ := lookup_mem m
 obtain ⟨h1,_,_,its,n,h2,h3⟩ := h _ m
 obtain ⟨g1,_,_,its',n',g2,g3⟩ := h _ (mem_of_lookup el)
 simp only at h1 h2 h3 g1 g2 g3
 rw [h1] at g1
 cases g1
 rw [h2] at g2
 cases g2
 refine ⟨o,?_⟩
 show zkd cl a = _
 unfold zkd
 rw [el,zja h3 g3]
 rfl
theorem zaN {K : PySem.W.Frag} {h : Heap} {mg : Str -> Option Value} {x : Str} {st : Stmt} {f : Addr} {oc : Value} {od an : Option Addr} {osl : Array (Option Value)} {kV doc pm cdv ct : Value} (X : K.In h) (G : h.Ns mainGlobals mg) (q : PySem.W.nsIn K mainGlobals x = some (some (.ref f)))
  (l : K.lookup f = some ⟨oc,od,.func (PySem.W.fnOf x x (zep st) (zcy st) (zao st) .none kV doc pm an cdv ct),osl⟩) (c : PySem.W.codeIn K cdv x = true) (k : PySem.W.keepIn K (.ref f) = true) : Has K mg x st := ⟨f,_,PySem.W.mg_of X G q,zs4 (st:=st) l c k⟩
theorem _root_.L2.Has.cut {cs : List Addr} {K : PySem.W.Frag} {mg : Str -> Option Value} {x : Str} {st : Stmt} (h : Has K mg x st) (s : zrO cs K) : Has (ze2 cs K) mg x st := FL.Has.cut s h
end FL
namespace FL
open PySem
theorem zft {k : Nat} {ix : List Nat} {g : GF} {t : TF} {f : EF} {ρ : En} (P : D -> Bool) (h : D -> D) : ∀ (items : List D) (acc : List D),acc.length + items.length <= lim ->
  (∀ x ∈ items,∃ β,g x (blk k ix ρ) = .ok β /\ t β = .ok (P x,β) /\ (P x = true -> f β = .ok (h x,β)) /\ back ρ ix (β.drop k) = ρ) -> zg5 k ix g t f items ρ acc = .ok (acc ++ (items.filter P).map h,ρ)
 | [],acc,_,_ => by simp [zg5]
 | x :: xs,acc,hl,hx => by
  obtain ⟨β,h1,h2,h3,h4⟩ := hx x (List.mem_cons_self ..)
  have rest := fun y m => hx y (List.mem_cons_of_mem x m)
  simp only [List.length_cons] at hl
  unfold zg5
  rw [h1,zae,h2,zae]
  cases c : P x with
  | true =>
   rw [if_pos rfl,h3 c,zae,zaO (zeR (by omega)),h4,zft P h xs _ (by simp; omega) rest,List.filter_cons_of_pos c]
   simp
  | false =>
   rw [if_neg (by simp),h4,zft P h xs acc (by omega) rest,List.filter_cons_of_neg (by simp [c])]
theorem zmm {k : Nat} {ix : List Nat} {it : IF} {g : GF} {t : TF} {f : EF} {ρ : En} {items : List D} (P : D -> Bool) (h : D -> D) (hi : it ρ = .ok (items,ρ)) (hl : items.length <= lim)
  (hx : ∀ x ∈ items,∃ β,g x (blk k ix ρ) = .ok β /\ t β = .ok (P x,β) /\ (P x = true -> f β = .ok (h x,β)) /\ back ρ ix (β.drop k) = ρ) : zdA k ix it g t f ρ = .ok (.list ((items.filter P).map h),ρ):=by
 unfold zdA
 rw [hi,zae,zft P h items [] (by simpa using hl) hx]
 rfl
theorem zgX {k : Nat} {ix : List Nat} {it : IF} {g : GF} {f : EF} {ρ : En} {items : List D} (h : D -> D) (hi : it ρ = .ok (items,ρ)) (hl : items.length <= lim)
  (hx : ∀ x ∈ items,∃ β,g x (blk k ix ρ) = .ok β /\ f β = .ok (h x,β) /\ back ρ ix (β.drop k) = ρ) : zdA k ix it g zde f ρ = .ok (.list (items.map h),ρ):=by
 rw [zmm (fun _ => true) h hi hl fun x m => by
  obtain ⟨β,h1,h2,h3⟩ := hx x m
  exact ⟨β,h1,rfl,fun _ => h2,h3⟩]
 rw [List.filter_eq_self.mpr (fun _ _ => rfl)]
theorem zhW (ns : List Int) : intsOf (ns.map PyData.int) = some ns:=by
 induction ns with
 | nil => rfl
 | cons n ns ih => simp [intsOf,ih]
theorem zkM (ns : List Bool) : boolsOf (ns.map PyData.bool) = some ns:=by
 induction ns with
 | nil => rfl
 | cons n ns ih => simp [boolsOf,ih]
theorem zpU (bs : List Bool) : ztM (.list (bs.map PyData.bool)) = .ok (.bool (bs.all id)):=by
 show ((R.of (boolsOf _)).bind _) = _
 rw [zkM]; rfl
theorem ztK {α : Type} (xs : List α) (p : Nat) (h : p <= xs.length) : cut xs (some (p : Int)) none = xs.drop p:=by
 unfold cut sIx
 simp only
 rw [if_neg (by omega)]
 rw [show min (p : Int).toNat xs.length = p by omega]
 rw [List.take_of_length_le (by simp)]
theorem zti {α : Type} (xs : List α) (p : Nat) : cut xs none (some (p : Int)) = xs.take p:=by
 unfold cut sIx
 simp only
 rw [if_neg (by omega),List.drop_zero,Nat.sub_zero]
 by_cases h : p <= xs.length
 ·rw [show min (p : Int).toNat xs.length = p by omega]
 ·rw [show min (p : Int).toNat xs.length = xs.length by omega,List.take_length,List.take_of_length_le (by omega)]
theorem zkj (lo hi : Int) : rng lo hi = ((List.range (hi - lo).toNat).map fun (i : Nat) => lo + (i : Int)).map PyData.int:=by
 unfold rng
 rw [List.map_map]; rfl
def Pl (n : Nat) (d : D) : Prop := PyData.canLay0 d = true /\ d.depth <= n
theorem Pl.shaped {n : Nat} {d : D} (h : Pl n d) (hn : n <= 64 := by decide) : SeqAt.shaped d = true:=by
 unfold SeqAt.shaped
 rw [h.1,decide_eq_true (Nat.le_trans h.2 hn)]; rfl
theorem zgC (i : Int) : Pl 0 (.int i) := ⟨rfl,Nat.le_refl _⟩
theorem zm3 {n : Nat} : ∀ {ds : List D},(∀ d ∈ ds,Pl n d) -> PyData.canLayAll0 ds = true /\ PyData.depthAll ds <= n
 | [],_ => ⟨rfl,Nat.zero_le _⟩
 | d :: ds,h => by
  obtain ⟨a,b⟩ := zm3 fun x m => h x (List.mem_cons_of_mem d m)
  obtain ⟨c,e⟩ := h d (List.mem_cons_self ..)
  refine ⟨by simp only [PyData.canLayAll0]; rw [c,a]; rfl,?_⟩
  simp only [PyData.depthAll]
  omega
theorem zeO {n : Nat} {ds : List D} (h : ∀ d ∈ ds,Pl n d) : Pl (n + 1) (.tuple ds):=by
 obtain ⟨a,b⟩ := zm3 h
 exact ⟨a,by simp only [PyData.depth]; omega⟩
theorem zkl {n : Nat} {ds : List D} (h : ∀ d ∈ ds,Pl n d) : Pl (n + 1) (.list ds):=by
 obtain ⟨a,b⟩ := zm3 h
 exact ⟨a,by simp only [PyData.depth]; omega⟩
theorem zh1 {α : Type} [DecidableEq α] (f : α -> D) (h : ∀ a b,PyData.eqv (f a) (f b) = decide (a = b)) : ∀ xs ys : List α,PyData.eqvAll (xs.map f) (ys.map f) = decide (xs = ys)
 | [],[] => rfl
 | [],y :: ys => by simp [PyData.eqvAll]
 | x :: xs,[] => by simp [PyData.eqvAll]
 | x :: xs,y :: ys => by
  simp only [List.map_cons,PyData.eqvAll]
  rw [h,zh1 f h xs ys]
  by_cases e1 : x = y <;> by_cases e2 : xs = ys <;> simp [e1,e2]
theorem zkH (a b : Int) : PyData.eqv (.int a) (.int b) = decide (a = b):=by
 show (a == b) = _
 rw [Bool.beq_eq_decide_eq]
abbrev tp (w : List Int) : D := .tuple (w.map PyData.int)
theorem zo8 (w : List Int) : Pl 1 (tp w) := zeO fun d m => by
 obtain ⟨i,_,rfl⟩ := List.mem_map.mp m
 exact zgC i
theorem zs8 (a b : List Int) : PyData.eqv (tp a) (tp b) = decide (a = b):=by
 show PyData.eqvAll _ _ = _
 exact zh1 _ zkH a b
theorem zs9 {n m : Nat} {a b : D} (ha : Pl n a) (hb : Pl m b) (hn : n <= 64 := by decide) (hm : m <= 64 := by decide) : eqD a b = .ok (.bool (PyData.eqv a b)):=by
 unfold eqD
 rw [ha.shaped hn,hb.shaped hm]; rfl
theorem znc {n m : Nat} {a b : D} (ha : Pl n a) (hb : Pl m b) (hn : n <= 64 := by decide) (hm : m <= 64 := by decide) : neD a b = .ok (.bool (!PyData.eqv a b)):=by
 unfold neD
 rw [ha.shaped hn,hb.shaped hm]; rfl
theorem zsH (a b : List Int) : neD (tp a) (tp b) = .ok (.bool (!decide (a = b))) := by rw [znc (zo8 a) (zo8 b),zs8]
theorem ziV (a b : Int) : eqD (.int a) (.int b) = .ok (.bool (decide (a = b))) := by rw [zs9 (zgC a) (zgC b),zkH]
theorem zgF (a b : Int) : neD (.int a) (.int b) = .ok (.bool (!decide (a = b))) := by rw [znc (zgC a) (zgC b),zkH]
theorem ziA (i j : Int) : ltD (.int i) (.int j) = .ok (.bool (decide (i < j))) := rfl
theorem zcE {j : Int} (h : 0 <= j) (h2 : j <= 1000000) : zej [.int j] = .ok (rng 0 j):=by
 show chk _ _ = _
 refine zaO ?_
 unfold zoM lim
 simp only [Bool.and_eq_true,leB_iff]
 omega
theorem znQ {S : Type} (E : S -> En) (step : S -> D -> S) (Iv : S -> Prop) {g : GF} {b : SF} : ∀ (items : List D) (s : S),Iv s -> (∀ x ∈ items,∀ s,Iv s -> Iv (step s x) /\ ((g x (E s)).bind b = .ok (.nx,E (step s x)) \/ (g x (E s)).bind b = .ok (.ct,E (step s x)))) -> forL g b items (E s) = .ok (.nx,E (items.foldl step s)) /\ Iv (items.foldl step s)
 | [],s,h,_ => ⟨rfl,h⟩
 | x :: xs,s,h,hx => by
  obtain ⟨h1,h2⟩ := hx x (List.mem_cons_self ..) s h
  have ih := znQ E step Iv xs (step s x) h1 fun y m => hx y (List.mem_cons_of_mem x m)
  refine ⟨?_,ih.2⟩
  unfold forL
  have key : ∀ (fl : Fl),(g x (E s)).bind b = .ok (fl,E (step s x)) -> ((g x (E s)).bind fun ρ1 => (b ρ1).bind fun y => match y.1 with
    | .nx | .ct => forL g b xs y.2
    | .bk => .ok (.nx,y.2)
    | .rt d => .ok (.rt d,y.2)
    | .rf d => .ok (.rf d,y.2)) = (match fl with
    | .nx | .ct => forL g b xs (E (step s x))
    | .bk => .ok (.nx,E (step s x))
    | .rt d => .ok (.rt d,E (step s x))
    | .rf d => .ok (.rf d,E (step s x))) := fun fl e => by
   cases e1 : g x (E s) with
   | ok ρ1 =>
    rw [e1] at e
    rw [zae] at e ⊢
    rw [e]; rfl
   | bad => rw [e1] at e; cases e
   | err c fs => rw [e1] at e; cases e
  rcases h2 with h2 | h2
  ·exact (key _ h2).trans ih.1
  ·exact (key _ h2).trans ih.1
theorem zgi {m : List (Nat × Sl)} (h : ∀ i p d,m.lookup i ≠ some (.ow p d)) : ∀ (ρ : En) (n : Nat),bkL m n ρ = ρ
 | [],_ => rfl
 | x :: r,n => by
  unfold bkL
  rw [zgi h r (n + 1)]
  congr 1
  unfold bk1
  split
  ·rename_i p d q e h1 h2
   exact absurd h2 (h _ _ _)
  ·rfl
theorem zce {α : Type} {f : α -> D} {g : GF} {b : SF} (P : List α -> En -> Prop) : ∀ (xs : List α) (done : List α) (ρ : En),P done ρ ->
  (∀ pre x post ρ,done ++ xs = pre ++ x :: post -> P pre ρ -> ∃ ρ' fl,(g (f x) ρ).bind b = .ok (fl,ρ') /\ (fl = .nx \/ fl = .ct) /\ P (pre ++ [x]) ρ') -> ∃ ρ',forL g b (xs.map f) ρ = .ok (.nx,ρ') /\ P (done ++ xs) ρ'
 | [],done,ρ,h,_ => ⟨ρ,rfl,by simpa using h⟩
 | x :: xs,done,ρ,h,hx => by
  obtain ⟨ρ1,fl,e,hf,h1⟩ := hx done x xs ρ rfl h
  obtain ⟨ρ2,e2,h2⟩ := zce P xs (done ++ [x]) ρ1 h1 fun pre y post ρ e => hx pre y post ρ (by simpa using e)
  refine ⟨ρ2,?_,by simpa using h2⟩
  show ((g (f x) ρ).bind fun ρ1 => (b ρ1).bind fun y => match y.1 with
    | .nx | .ct => forL g b (xs.map f) y.2
    | .bk => .ok (.nx,y.2)
    | .rt d => .ok (.rt d,y.2)
    | .rf d => .ok (.rf d,y.2)) = _
  cases e1 : g (f x) ρ with
  | ok ρ3 =>
   rw [e1] at e
   rw [zae] at e ⊢
   rw [e,zae]
   rcases hf with rfl | rfl
   ·exact e2
   ·exact e2
  | bad => rw [e1] at e; cases e
  | err c fs => rw [e1] at e; cases e
def Np (x : Sl) : Prop := ∀ e,x ≠ .ow true e
theorem zcV : Np .no := fun _ z => nomatch z
theorem zbn (d : D) : Np (.val d) := fun _ z => nomatch z
theorem zsF (d : D) : Np (.ow false d) := fun _ z => nomatch z
theorem ziS {ρ : En} {i : Nat} {d : D} {x : Sl} (h : ρ[i]? = some x) (n : Np x) : gN i d ρ = .ok (ρ.set i (.val d)):=by
 unfold gN
 rw [h]
 cases x with
 | no => rfl
 | val c => rfl
 | ow p c => cases p with
  | true => exact absurd rfl (n c)
  | false => rfl
theorem zmN {i : Nat} {f : EF} {ρ : En} {y : D × En} {x : Sl} (hf : f ρ = .ok y) (h : y.2[i]? = some x) (n : Np x) : ziq i f ρ = .ok (.nx,y.2.set i (.ow false y.1)):=by
 unfold ziq
 rw [hf,zae,h]
 cases x with
 | no => rfl
 | val c => rfl
 | ow p c => cases p with
  | true => exact absurd rfl (n c)
  | false => rfl
theorem zcR {i : Nat} {f : EF} {ρ : En} {y : D × En} {x : Sl} (hf : f ρ = .ok y) (h : y.2[i]? = some x) (n : Np x) : zbp (gN i) f ρ = .ok (.nx,y.2.set i (.val y.1)):=by
 unfold zbp
 rw [hf,zae,ziS h n]; rfl
theorem zoc {m : List (Nat × Sl)} {i : Nat} {x : Sl} (h : m.lookup i = none) : bk1 m i x = x:=by
 unfold bk1
 rw [h]
 cases x <;> rfl
theorem zaw {s t : SF} {ρ ρ1 : En} (h : s ρ = .ok (.nx,ρ1)) : zaI s t ρ = t ρ1:=by
 unfold zaI
 rw [h]; rfl
end FL
namespace FL
open PySem
def zg9 : SF := (zaI (zbp (gN 2) (e2 zba (e2 zba (e2 zbM (e2 zba (e2 zeF (eV 0) (e2 zba (e2 zhv (eC (.int 10)) (eC (.int 18))) (eC (.int 9)))) (e2 zbM (eC (.int 7)) (eV 1))) (eC (.int 739108512309184756019283746561))) (e2 zbM (eC (.int 7919)) (eV 1))) (eC (.int 1))))
  (zaI (zbp (gN 2) (e2 zeF (e2 zbM (eV 2) (eV 2)) (e2 zba (e2 zhv (eC (.int 10)) (eC (.int 60))) (eC (.int 7)))))
  (zaW (e2 zeF (e2 zbM (e2 zba (eV 2) (eC (.int 40503))) (e2 zba (eV 2) (eC (.int 57)))) (e2 zba (e2 zhv (eC (.int 10)) (eC (.int 60))) (eC (.int 7)))))))
def zi8 : List D -> R D := zbD false 2 3 zg9
def zi5 : SF := (zaI (sIf (tB (e2 ltD (eV 1) (e1 zdf (eV 0)))) (zaW (e2 ixD (eV 0) (eV 1))) sNx)
  (zaW (e2 zba (e2 zbM (eC (.int 3)) (eV 1)) (eC (.int 1)))))
def ztP : List D -> R D := zbD false 2 2 zi5
def zer : SF := (zaI (sIf (tB (e2 geD (eV 0) (e2 zhv (eC (.int 10)) (eC (.int 18))))) (zca (zf5 (zac (e2 zf7 (eV 0) (e2 zhv (eC (.int 10)) (eC (.int 18)))) (zac (eC (.int 0)) (zac (eV 1) zau))))) sNx)
  (zca (zf5 (zac (zal zi8 (zac (eV 0) (zac (eV 1) zau))) (zac (eC (.int 0)) (zac (e2 zba (e2 zeF (eV 0) (e2 zba (e2 zhv (eC (.int 10)) (eC (.int 18))) (eC (.int 9)))) (eV 1)) zau))))))
def zi7 : List D -> R D := zbD true 2 2 zer
def zfu : SF := (zaI (sIf (tB (e2 ltD (m2 ixD 0 (eC (.int 0))) (eV 1))) (zaI (setM 0 (e2 zba (m2 ixD 0 (eC (.int 1))) (eC (.int 1))) (eC (.int 1)))
  (setM 0 (e2 zba (m2 ixD 0 (eC (.int 0))) (e2 zbM (eV 1) (zal zi8 (zac (m2 ixD 0 (eC (.int 2))) (zac (e2 zba (e2 zbM (eC (.int 11)) (m2 ixD 0 (eC (.int 1)))) (eC (.int 5))) zau))))) (eC (.int 0)))) sNx)
  (zaI (zbp (gN 2) (e2 zeF (m2 ixD 0 (eC (.int 0))) (eV 1)))
  (zaI (setM 0 (e2 zaS (m2 ixD 0 (eC (.int 0))) (eV 1)) (eC (.int 0)))
  (zaW (eV 2)))))
def zb8 : List D -> R (D × List D) := run [true,false] false 3 zfu
structure Bd (i : Int) (n : Nat) : Prop where
 h : i.natAbs < 2 ^ n
theorem Bd.mono {i : Int} {n m : Nat} (h : Bd i n) (l : n <= m) : Bd i m := ⟨Nat.lt_of_lt_of_le h.h (Nat.pow_le_pow_right (by decide) l)⟩
theorem Bd.add {i j : Int} {n m : Nat} (h : Bd i n) (k : Bd j m) : Bd (i + j) (max n m + 1):=by
 constructor
 have a := (h.mono (Nat.le_max_left n m)).h
 have b := (k.mono (Nat.le_max_right n m)).h
 have c := Int.natAbs_add_le i j
 rw [Nat.pow_succ]
 omega
theorem Bd.mul {i j : Int} {n m : Nat} (h : Bd i n) (k : Bd j m) : Bd (i * j) (n + m):=by
 constructor
 rw [Int.natAbs_mul,Nat.pow_add]
 have a := h.h
 have b := k.h
 exact Nat.mul_lt_mul'' a b
theorem Bd.mod {i j : Int} {n : Nat} (h : Bd j n) (p : 0 < j) : Bd (i.fmod j) n:=by
 constructor
 have a := h.h
 have b := Int.fmod_nonneg_of_pos i p
 have c := Int.fmod_lt_of_pos i p
 omega
theorem mulOk_of {i j : Int} {n m : Nat} (h : Bd i n) (k : Bd j m) (l : n + m <= 100000) : zng i j = true:=by
 unfold zng
 refine zeR ?_
 have lg : ∀ {i : Int} {n : Nat},Bd i n -> i.natAbs.log2 <= n:=by
  intro i n h
  by_cases z : i.natAbs = 0
  ·rw [z]; exact Nat.zero_le _
  ·exact Nat.le_of_lt ((Nat.log2_lt z).mpr h.h)
 have a := lg h
 have b := lg k
 omega
theorem zbd {i j : Int} {n m : Nat} (h : Bd i n) (k : Bd j m) (l : n + m <= 100000) : zbM (.int i) (.int j) = .ok (.int (i * j)):=by
 show chk _ _ = _
 exact zaO (mulOk_of h k l)
theorem zgJ {i j : Int} (p : 0 < j) : zeF (.int i) (.int j) = .ok (.int (i.fmod j)):=by
 show chk _ _ = _
 exact zaO (by simp; omega)
theorem zpD {i j : Int} {n : Nat} (p : 0 < j) (h : Bd j n) (l : n <= 8000) : zaS (.int i) (.int j) = .ok (.int (i.fdiv j)):=by
 show chk _ _ = _
 refine zaO ?_
 have z : j.natAbs ≠ 0 := by omega
 have a := (Nat.log2_lt z).mpr h.h
 rw [Bool.and_eq_true,leB_iff,decide_eq_true_eq]
 exact ⟨by omega,by omega⟩
def p18 : Int := 1000000000000000000
def zra : Int := 1000000000000000009
def p60 : Int := 1000000000000000000000000000000000000000000000000000000000000
def zq9 : Int := 1000000000000000000000000000000000000000000000000000000000007
def pm : Int := 739108512309184756019283746561
theorem zt4 : zhv (.int 10) (.int 18) = .ok (.int p18) := rfl
theorem zvs : zhv (.int 10) (.int 60) = .ok (.int p60) := rfl
theorem zu2 : p18 + 9 = zra := rfl
theorem zvM : p60 + 7 = zq9 := rfl
theorem zkm : 0 < zra := by decide
theorem zgE : 0 < zq9 := by decide
theorem b18 : Bd zra 60 := ⟨by decide⟩
theorem b60 : Bd zq9 200 := ⟨by decide⟩
theorem bm : Bd pm 100 := ⟨by decide⟩
theorem zaT {i : Int} (h : i.natAbs < 65536) : Bd i 16 := ⟨h⟩
def mx1 (c k : Int) : Int := (c.fmod zra + 7 * k) * pm + 7919 * k + 1
def mx2 (c k : Int) : Int := (mx1 c k * mx1 c k).fmod zq9
def zp6 (c k : Int) : Int := ((mx2 c k + 40503) * (mx2 c k + 57)).fmod zq9
theorem znh (c k : Int) : 0 <= zp6 c k := Int.fmod_nonneg_of_pos _ zgE
theorem zrf (c k : Int) : Bd (zp6 c k) 200 := b60.mod zgE
theorem zln (c k : Int) {n : Nat} (hk : Bd k n) (hn : n <= 1000) : zi8 [.int c,.int k] = .ok (.int (zp6 c k)):=by
 have a1 := zgJ (i:=c) zkm
 have a2 : Bd (c.fmod zra) 60 := b18.mod zkm
 have a3 := zbd (i:=7) (zaT (by decide)) hk (by omega)
 have a4 := (zaT (i:=7) (by decide)).mul hk
 have a5 := a2.add a4
 have a6 := zbd a5 bm (by omega)
 have a7 := zbd (i:=7919) (zaT (by decide)) hk (by omega)
 have a8 := ((a5.mul bm).add ((zaT (i:=7919) (by decide)).mul hk)).add (zaT (i:=1) (by decide))
 have a9 := zbd a8 a8 (by omega)
 have b1 := zgJ (i:=mx1 c k * mx1 c k) zgE
 have b2 : Bd (mx2 c k) 200 := b60.mod zgE
 have b3 := zbd (b2.add (zaT (i:=40503) (by decide))) (b2.add (zaT (i:=57) (by decide))) (by decide)
 have b4 := zgJ (i:=(mx2 c k + 40503) * (mx2 c k + 57)) zgE
 have hm : (PyData.int 739108512309184756019283746561) = .int pm := rfl
 have f1 : (c.fmod zra + 7 * k) * pm + 7919 * k + 1 = mx1 c k := rfl
 have f2 : (mx1 c k * mx1 c k).fmod zq9 = mx2 c k := rfl
 have f3 : ((mx2 c k + 40503) * (mx2 c k + 57)).fmod zq9 = zp6 c k := rfl
 rw [f1] at a9
 simp only [zi8,zbD,FL.run,List.length_cons,List.length_nil,Nat.reduceAdd,List.replicate,zg9,zaI,zbp,FL.e2,eV,slots,Bool.false_eq_true,if_false,Nat.reduceSub,List.cons_append,List.nil_append,List.getElem?_cons_zero,eC,zae,zt4,zba,zu2,a1,List.getElem?_cons_succ,a3,hm,a6,a7,f1,gN,List.set_cons_succ,List.set_cons_zero,zvs,zvM,zaW,a9,b1,f2,b3,b4,f3,outs,outD,if_true]
def ze1 (k : Nat) (d : D) : Prop := ∃ n c s,d = .list [.int n,.int c,.int s] /\ 0 <= n /\ 0 <= c /\ c <= k
theorem ze1.mono {k l : Nat} {d : D} (h : ze1 k d) (hl : k <= l) : ze1 l d:=by
 obtain ⟨n,c,s,e,h1,h2,h3⟩ := h
 exact ⟨n,c,s,e,h1,h2,by omega⟩
theorem zo2 (c k : Int) (hk : k.natAbs < 65536) : ∃ d,zi7 [.int c,.int k] = .ok d /\ ze1 0 d:=by
 have a1 := zgJ (i:=c) zkm
 have hx1 := zln c k (zaT hk) (by decide)
 by_cases h : p18 <= c
 ·refine ⟨_,?_,c - p18,0,k,rfl,by omega,by decide,by decide⟩
  have hg : geD (.int c) (.int p18) = .ok (.bool true) := by show R.ok (PyData.bool (decide (p18 <= c))) = _; rw [decide_eq_true h]
  simp only [zi7,zbD,FL.run,List.length_cons,List.length_nil,Nat.reduceAdd,List.replicate,zer,zaI,sIf,tB,FL.e2,eV,slots,Bool.false_eq_true,if_false,Nat.sub_self,List.cons_append,List.nil_append,List.getElem?_cons_zero,eC,zae,zt4,hg,zca,zf5,zac,zf7,zau,sNx,List.getElem?_cons_succ,if_true,zal,zba,outs,outD]
  rfl
 ·refine ⟨_,?_,zp6 c k,0,c.fmod zra + k,rfl,znh c k,by decide,by decide⟩
  have hg : geD (.int c) (.int p18) = .ok (.bool false) := by show R.ok (PyData.bool (decide (p18 <= c))) = _; rw [decide_eq_false h]
  simp only [zi7,zbD,FL.run,List.length_cons,List.length_nil,Nat.reduceAdd,List.replicate,zer,zaI,sIf,tB,FL.e2,eV,slots,Bool.false_eq_true,if_false,Nat.sub_self,List.cons_append,List.nil_append,List.getElem?_cons_zero,eC,zae,zt4,hg,zca,zf5,zac,zf7,zau,sNx,List.getElem?_cons_succ,zal,zba,zu2,hx1,a1,outs,outD,if_true]
  rfl
theorem zdi {k : Nat} {d : D} (h : ze1 k d) (hk : k <= 60000) (m : Int) (hm1 : 1 <= m) (hm2 : m.natAbs < 65536) : ∃ g d',zb8 [d,.int m] = .ok (.int g,[d',.int m]) /\ 0 <= g /\ g < m /\ ze1 (k + 1) d':=by
 obtain ⟨n,c,s,rfl,h1,h2,h3⟩ := h
 have i0 : ∀ x y z : D,atI [x,y,z] 0 = some x := fun _ _ _ => rfl
 have i1 : ∀ x y z : D,atI [x,y,z] 1 = some y := fun _ _ _ => rfl
 have i2 : ∀ x y z : D,atI [x,y,z] 2 = some z := fun _ _ _ => rfl
 have j0 : ixN 3 0 = some 0 := rfl
 have j1 : ixN 3 1 = some 1 := rfl
 have hlt : ltD (.int n) (.int m) = .ok (.bool (decide (n < m))) := rfl
 have hd : ∀ i : Int,zaS (.int i) (.int m) = .ok (.int (i.fdiv m)) := fun i => zpD (by omega) (zaT hm2) (by decide)
 have hm : ∀ i : Int,zeF (.int i) (.int m) = .ok (.int (i.fmod m)) := fun i => zgJ (by omega)
 have gd : ∀ i : Int,0 <= i -> 0 <= i.fdiv m := fun i hi => Int.fdiv_nonneg hi (by omega)
 by_cases hn : n < m
 ·rw [decide_eq_true hn] at hlt
  have hc : (c + 1).natAbs < 65536 := by omega
  have x1 := zbd (i:=11) (zaT (by decide)) (zaT hc) (by decide)
  have xb := ((zaT (i:=11) (by decide)).mul (zaT hc)).add (zaT (i:=5) (by decide))
  have x2 := zln s (11 * (c + 1) + 5) xb (by decide)
  have x3 := zbd (zaT hm2) (zrf s (11 * (c + 1) + 5)) (by decide)
  have nn : 0 <= n + m * zp6 s (11 * (c + 1) + 5) := Int.add_nonneg h1 (Int.mul_nonneg (by omega) (znh _ _))
  refine ⟨(n + m * zp6 s (11 * (c + 1) + 5)).fmod m,.list [.int ((n + m * zp6 s (11 * (c + 1) + 5)).fdiv m),.int (c + 1),.int s],?_,Int.fmod_nonneg_of_pos _ (by omega),Int.fmod_lt_of_pos _ (by omega),_,_,_,rfl,gd _ nn,by omega,by omega⟩
  simp only [zb8,FL.run,List.length_cons,List.length_nil,Nat.reduceAdd,zfu,zaI,sIf,tB,FL.e2,m2,zaH,slots,if_true,Bool.false_eq_true,if_false,Nat.reduceSub,List.replicate,List.cons_append,List.nil_append,List.getElem?_cons_zero,eC,ixD,R.of,zae,i0,eV,List.getElem?_cons_succ,hlt,setM,zba,ziB,zbs,zal,zac,zau,sNx,i1,List.set_cons_zero,j1,List.set_cons_succ,i2,x1,x2,x3,j0,zbp,gN,zaW,hm,hd,outs,outD,List.head?_cons]
 ·rw [decide_eq_false hn] at hlt
  refine ⟨n.fmod m,.list [.int (n.fdiv m),.int c,.int s],?_,Int.fmod_nonneg_of_pos _ (by omega),Int.fmod_lt_of_pos _ (by omega),_,_,_,rfl,gd _ h1,by omega,by omega⟩
  simp only [zb8,FL.run,List.length_cons,List.length_nil,Nat.reduceAdd,zfu,zaI,sIf,tB,FL.e2,m2,zaH,slots,if_true,Bool.false_eq_true,if_false,Nat.reduceSub,List.replicate,List.cons_append,List.nil_append,List.getElem?_cons_zero,eC,ixD,R.of,zae,i0,eV,List.getElem?_cons_succ,hlt,setM,zba,ziB,zbs,zal,zac,zau,sNx,i1,List.set_cons_zero,j1,List.set_cons_succ,i2,zbp,gN,zaW,hm,hd,j0,outs,outD,List.head?_cons]
theorem zuK (ns : List Int) (k : Int) (h0 : 0 <= k) (hk : k.natAbs < 65536) : ∃ a,ztP [.list (ns.map PyData.int),.int k] = .ok (.int a):=by
 have a3 := zbd (i:=3) (zaT (by decide)) (zaT hk) (by decide)
 have hl : ltD (.int k) (.int (ns.length : Int)) = .ok (.bool (decide (k < ns.length))) := rfl
 by_cases h : k < ns.length
 ·rw [decide_eq_true h] at hl
  have : ∃ a,atI (ns.map PyData.int) k = some (.int a):=by
   unfold atI ixN
   rw [List.length_map,if_pos h0,if_pos h]
   exact ⟨ns[k.toNat]'(by omega),by simp [show k.toNat < ns.length by omega]⟩
  obtain ⟨a,ea⟩ := this
  refine ⟨a,?_⟩
  simp only [ztP,zbD,FL.run,List.length_cons,List.length_nil,Nat.reduceAdd,List.replicate,zi5,zaI,sIf,tB,FL.e2,eV,slots,Bool.false_eq_true,if_false,Nat.sub_self,List.cons_append,List.nil_append,List.getElem?_cons_succ,List.getElem?_cons_zero,FL.e1,zdf,zae,List.length_map,hl,zaW,ixD,R.of,sNx,ea,if_true,eC,zba,outs,outD]
 ·rw [decide_eq_false h] at hl
  refine ⟨3 * k + 1,?_⟩
  simp only [ztP,zbD,FL.run,List.length_cons,List.length_nil,Nat.reduceAdd,List.replicate,zi5,zaI,sIf,tB,FL.e2,eV,slots,Bool.false_eq_true,if_false,Nat.sub_self,List.cons_append,List.nil_append,List.getElem?_cons_succ,List.getElem?_cons_zero,FL.e1,zdf,zae,List.length_map,hl,zaW,ixD,sNx,eC,zba,a3,outs,outD,if_true]
theorem zjV {k : Nat} {ix : List Nat} {g : GF} {t : TF} {f : EF} (P : Nat -> List D -> En -> Prop) : ∀ (items : List D) (i : Nat) (acc : List D) (ρ : En),acc.length + items.length <= lim -> acc.length = i -> P i acc ρ ->
  (∀ x ∈ items,∀ j acc ρ,j < i + items.length -> P j acc ρ -> ∃ β y β',g x (blk k ix ρ) = .ok β /\ t β = .ok (true,β) /\ f β = .ok (y,β') /\ P (j + 1) (acc ++ [y]) (back ρ ix (β'.drop k))) ->
  ∃ acc' ρ',zg5 k ix g t f items ρ acc = .ok (acc',ρ') /\ acc'.length = i + items.length /\ P (i + items.length) acc' ρ'
 | [],i,acc,ρ,_,e,h,_ => ⟨acc,ρ,rfl,e,h⟩
 | x :: xs,i,acc,ρ,hl,e,h,hx => by
  obtain ⟨β,y,β',h1,h2,h3,h4⟩ := hx x (List.mem_cons_self ..) i acc ρ (by simp) h
  have hl' : acc.length + (xs.length + 1) <= lim := hl
  obtain ⟨acc',ρ',e1',e2',e3'⟩ := zjV P xs (i + 1) (acc ++ [y]) _ (by simp; omega) (by simp; omega) h4 fun x m j acc ρ hj => hx x (List.mem_cons_of_mem _ m) j acc ρ (by rw [List.length_cons]; omega)
  refine ⟨acc',ρ',?_,by simp; omega,by rw [List.length_cons,show i + (xs.length + 1) = i + 1 + xs.length by omega]; exact e3'⟩
  unfold zg5
  rw [h1,zae,h2,zae,if_pos rfl,h3,zae,zaO (zeR (by omega)),e1']
end FL
namespace FL
open PySem
theorem zob {i : Nat} {x : Sl} : ∀ (ρ : En) (n : Nat),i < n -> bkL [(i,x)] n ρ = ρ
 | [],_,_ => rfl
 | y :: r,n,h => by
  unfold bkL
  rw [zoc (by rw [List.lookup_cons,show (n == i) = false from beq_eq_false_iff_ne.mpr (by omega)]; rfl),zob r (n + 1) (by omega)]
theorem zi3 {d d' : D} {p : Bool} : ∀ (ρ : En) (n i : Nat),ρ[i]? = some (.ow p d) -> bkL [(n + i,.ow true d')] n ρ = ρ.set i (.ow p d')
 | [],_,_,h => by simp at h
 | y :: r,n,0,h => by
  have hy : y = .ow p d := by simpa using h
  subst hy
  unfold bkL
  rw [Nat.add_zero,zob r (n + 1) (Nat.lt_succ_self n)]
  have : bk1 [(n,Sl.ow true d')] n (.ow p d) = .ow p d':=by
   unfold bk1
   rw [List.lookup_cons,beq_self_eq_true]
  rw [this]
  rfl
 | y :: r,n,i + 1,h => by
  unfold bkL
  rw [zoc (by rw [List.lookup_cons,show (n == n + (i + 1)) = false from beq_eq_false_iff_ne.mpr (by omega)]; rfl),show n + (i + 1) = n + 1 + i by omega,zi3 r (n + 1) i (by simpa using h)]
  rfl
theorem zi1 {F : List D -> R (D × List D)} {i : Nat} {f : EF} {ρ : En} {p : Bool} {d v r d' v' : D} (hi : ρ[i]? = some (.ow p d)) (hf : f ρ = .ok (v,ρ)) (hF : F [d,v] = .ok (r,[d',v'])) : zav F [.m i,.v f] ρ = .ok (r,ρ.set i (.ow p d')):=by
 have hm : zaH ρ i = .ok d := by unfold zaH; rw [hi]
 unfold zav
 simp only [zj7,hm,zae,hf,zia,hF]
 have := zi3 (d:=d) (d' := d') (p:=p) ρ 0 i hi
 rw [Nat.zero_add] at this
 show R.ok (r,bkL [(i,.ow true d')] 0 ρ) = _
 rw [this]
end FL
namespace L2
open PySem PySem.Spec PyProof.Rows
section
variable {X : Cx} {pins : List (Addr × Obj)} {σ : St} {H : Hp} {s : Shared} {a : Addr} {y v : V} {u r : Value} {A : Around} {E : Value -> Shared -> Prop}
theorem znY {H' : Hp} {Q : Unit -> Shared -> Prop} (hu : A.units + 1 < cLine) (I : Inv X pins σ H s) (g : zos H a y v H') (ry : RelV y u) (rv : RelV v r) (h : ∀ s',Inv X pins σ H' s' -> Q () s') :
  wpAny (model X.prog X.w) A (dictSet a u r) Q E s:=by
 rcases g with ⟨kvs,k,e,ey,l,eH⟩ | ⟨kvs,k,b,e,ey,eb,l,eH⟩
 ·subst ey eH
  exact zuE I e l ry rv h
 ·subst ey eH
  cases (show u = Value.ref b from ry)
  obtain ⟨z,hd,xs,rel,dd⟩ := zpE I.hok e
  have hz : xs.length <= sizeLine := by rw [<- Paired.length rel]; exact z
  have hl : (putK kvs k v).length <= sizeLine := by have := zcY kvs k v; omega
  refine wpAny_dictSet_heap (hsz:=hz) (show A.units < cLine from Nat.lt_of_succ_lt hu) (zcs I.hok eb) dd fun h' dd' hs => h _ ?_
  obtain ⟨q,es,ep,hq,h2,h3,h4,_,h5⟩ := dd'
  refine zcz I (by rw [e]; exact True.intro) hs ⟨q,hq⟩ ⟨hl,hd,_,(rel.put k eb rv).keeps fun c ys ec => ?_,q,es,ep,hq,h2,h3,h4,h5⟩
  exact ec.upd (fun _ z => zf0 z e (fun z => nomatch z)) fun _ _ z => zf0 z e (fun z => nomatch z)
theorem zrv {H' : Hp} {Q : Unit -> Shared -> Prop} (hu : A.units + 1 < cLine) (I : Inv X pins σ H s) (g : DP H a y v H') (ry : RelV y u) (rv : RelV v r) (h : ∀ s',Inv X pins σ H' s' -> Q () s') :
  wpAny (model X.prog X.w) A (dictSet a u r) Q E s:=by
 rcases g with g | ⟨k,b,e,rfl,eb,rfl⟩ | ⟨k,e,rfl,rfl⟩
 ·exact znY hu I g ry rv h
 ·have eb' : TAt (upd H a (.dT [])) b (k.map kV) := eb.upd (fun _ z => zf0 z e (fun z => nomatch z)) fun _ _ z => zf0 z e (fun z => nomatch z)
  have g := zos.t (H:=upd H a (.dT [])) (a:=a) (v:=v) zas eb' (by decide)
  rw [zgm] at g
  exact znY hu (I.kt e) g ry rv h
 ·have g := zos.k (H:=upd H a (.dK [])) (a:=a) (k:=k) (v:=v) zas (by decide)
  rw [zgm] at g
  exact znY hu (I.tk e) g ry rv h
end
def zkg (k : Nat) (ix : List Nat) (wi : TI) (g : TG) (tc : TT) (tk tv : TE) : TE := fun σ H Q => wi σ H fun J H1 => ∀ l,H1 l = none ->
 ∃ W : Nat -> Nat -> Hp -> Prop,(∃ m,W 0 m (upd H1 l (.dK []))) /\ ∀ i m H2,W i m H2 ->
  ((J.stop i H2 /\ Q (.ref l) H2) \/ (J.go i H2 /\ ∀ x H3,J.yld i H2 x H3 -> g x (zd3 k ix σ) H3 fun σ2 H4 => tc σ2 H4 fun b H5 =>
   if b = true then tk σ2 H5 fun y H6 => tv σ2 H6 fun v H7 => ∃ H8,DP H7 l y v H8 /\ ∃ m',m' < m /\ W (i + 1) m' H8 else ∃ m',m' < m /\ W (i + 1) m' H5))
section
variable {X : Cx}
theorem zm6 {kx vx tg iter : Expr} {ifs : List Expr} {scope : Scope} {pos : Pos} {L : List Str} {ix : List Nat} {wi : TI} {g : TG} {tc : TT} {tk tv : TE} (hu : X.A.units + 1 < cLine) (hc : X.calm = true) (S : zd0 X scope (zd4 X ix)) (hix : ∀ i ∈ ix,i < X.N.length) (hi : PI X tg iter wi)
  (hg : ∀ C s₃ H₃ fp,PG (zaA X (L ++ zd4 X ix) scope C s₃ H₃ fp) tg g) (hgo : zkU L.length g)
  (ht : ∀ C s₃ H₃ fp,PTs (zaA X (L ++ zd4 X ix) scope C s₃ H₃ fp) ifs tc) (hk : ∀ C s₃ H₃ fp,PE (zaA X (L ++ zd4 X ix) scope C s₃ H₃ fp) kx tk) (he : ∀ C s₃ H₃ fp,PE (zaA X (L ++ zd4 X ix) scope C s₃ H₃ fp) vx tv)
  (hs : ∀ x,foldedSetIterable iter X.env x = pure x := by intro _; rfl) :
  PE X (.DictComp kx vx [⟨tg,iter,ifs,0⟩] scope pos) (zkg L.length ix wi g tc tk tv):=by
 intro pins s σ H Q I h
 rw [arm_eval_DictComp]
 refine wpAny_comprehension_free (use:=none) rfl hs (zc5 fun y hy e => I.ok.has y.1 (.inl (S.cell y hy e))) S.kind S.loc (thn (hi pins s σ H _ I h) fun xv s1 h1 => thn h1 fun itv s2 h2 => ?_)
 obtain ⟨it,fp,tn,J,H2,rfl,I2,T,st2,f2,q⟩ := h2
 have nD : H2 s2.heap.objs.size = none := I2.hok.fresh (Nat.le_refl _)
 obtain ⟨W,⟨m0,w0⟩,turn⟩ := q _ nD
 generalize hD : s2.heap.objs.size = D at nD w0 turn
 have fD : ∀ b ∈ fp,b < D := fun b hb => by
  obtain ⟨o,e,_⟩ := T.obj _ _ st2 b hb
  rw [<- hD]
  exact Heap.lt_size e
 have I3 : Inv X pins σ (upd H2 D (.dK [])) { s2 with heap := s2.heap.push { cls := .type "dict",data := .dict #[] },toks := s2.toks }:=by
  rw [<- hD]
  exact I2.laid (t' := s2.toks) (fun b u e => Heap.get?_push_of_some _ e) (Nat.le_refl _) (zpG s2.heap I2.big)
 refine wpAny_newObj_type (zko (fun h₁ hns₁ hsb₁ hcs₁ => ?_)) (by show 0 <= sizeLine + 1; exact Nat.zero_le _)
 rw [hD]
 have st3 : tn 0 (s2.heap.push { cls := .type "dict",data := .dict #[] }) := T.keep _ _ _ st2 fun b hb o e => Heap.get?_push_of_some _ e
 generalize hp3 : s2.heap.push { cls := .type "dict",data := .dict #[] } = h3 at I3 st3 hns₁ hsb₁ hcs₁
 dsimp only at hns₁ hsb₁ hcs₁ ⊢
 have sz3 : h3.objs.size = D + 1 := by rw [<- hp3,Heap.size_push,hD]
 have old : ∀ b u,h3.get? b = some u -> h₁.get? b = some u := fun b u e => hsb₁ b u e
 have f3 : ∀ b ∈ fp,zhn X pins (upd H2 D (.dK [])) b := fun b hb => ⟨by rw [zay (Nat.ne_of_lt (fD b hb))]; exact (f2 b hb).1,(f2 b hb).2⟩
 have I4 := zgO (L:=L) (ix:=ix) (t' := s2.toks) S I3 f3 (fun b hb => by show b < h3.objs.size; rw [sz3]; exact Nat.lt_succ_of_lt (fD b hb)) hix (h' := h₁) hns₁ old hcs₁
 have st4 : tn 0 h₁ := T.keep _ _ _ st3 fun b hb o e => old b o e
 generalize hC : (zaA X (L ++ zd4 X ix) scope h3.objs.size { s2 with heap := h3,toks := s2.toks } (upd H2 D (.dK [])) fp) = Y at I4
 have eEnv : Y.env = compEnvC scope (zjs h3.objs.size scope ++ zg6 X.env.cells scope.names []) h3.objs.size X.env := by rw [<- hC]; rfl
 have hcY : Y.calm = true := by rw [<- hC]; exact hc
 have xeY : Y.xe = fun _ _ => False := by rw [<- hC]; rfl
 have eP : Y.prog = X.prog := by rw [<- hC]; rfl
 have eW : Y.w = X.w := by rw [<- hC]; rfl
 have eK : Y.K = X.K := by rw [<- hC]; rfl
 have eA : Y.A = X.A := by rw [<- hC]; rfl
 have gY : PG Y tg g := by rw [<- hC]; exact hg _ _ _ _
 have tY : PTs Y ifs tc := by rw [<- hC]; exact ht _ _ _ _
 have kY : PE Y kx tk := by rw [<- hC]; exact hk _ _ _ _
 have pY : PE Y vx tv := by rw [<- hC]; exact he _ _ _ _
 have stat : ∀ {H' : Hp},(∀ b ∈ fp,H' b = none) -> ∀ b ∈ fp,zhn Y [] H' b := fun {H'} hn b hb => by
  have z1 : b ∈ Y.ex := by rw [<- hC]; exact hb
  have zp : Y.pn = [] := by rw [<- hC]; rfl
  refine ⟨hn b hb,(I4.ok.exf b z1).1,I4.ok.exfs b z1,.inl z1,(I4.ok.exf b z1).2,fun p hp => ?_⟩
  rw [zp] at hp
  exact absurd hp (by simp)
 have fin : ∀ {H' : Hp} {s' : Shared},Inv Y [] (zd3 L.length ix σ) H' s' -> Q (.ref D) H' -> compPost (model X.prog X.w) X.A X.xe none (EP X pins σ Q) (.ref D) h3.objs.size (.ok .next) s':=by
  intro H' s' J' qe
  obtain ⟨m,hm,_⟩ := J'.loc
  rw [eEnv] at hm
  refine ⟨m,hm,fun h' sb => ⟨.ref D,H',?_,rfl,qe⟩⟩
  have hfr : H' h3.objs.size = none:=by
   have := J'.free
   rw [eEnv] at this
   exact this
  have neC : ∀ b u,H' b = some u -> b ≠ h3.objs.size := fun b u e z => by rw [z,hfr] at e; cases e
  have base : Un (frs X.stack) fp (upd H2 D (.dK [])) H' h3 s'.heap:=by
   have := J'.base
   rw [<- hC] at this
   exact this
  have to' : ∀ b o,b ≠ h3.objs.size -> s'.heap.get? b = some o -> h'.get? b = some o := fun b o hb e => sb.extBut b o hb e
  have lt3 : ∀ b o,h3.get? b = some o -> b ≠ h3.objs.size := fun b o e => Nat.ne_of_lt (Heap.lt_size e)
  have un : Un (frs X.stack) fp (upd H2 D (.dK [])) H' h3 h' :=
   ⟨fun b o e n hb hx => to' b o (lt3 b o e) (base.keep b o e n hb hx),
    fun b o e n hb hx => by
    obtain ⟨sl,z⟩ := base.slot b o e n hb hx
    exact ⟨sl,to' _ _ (lt3 b o e) z⟩,
    base.free,
    fun b o e hx => by
    obtain ⟨o',z⟩ := base.there b o e hx
    exact ⟨o',to' _ _ (lt3 b o e) z⟩,
    base.tups,base.frzs,base.tbls⟩
  have hok : HOk X.prog X.w H' h' := fun b u e => by
   have z := J'.hok b u e
   rw [eP,eW] at z
   refine z.stay (fun c v hcv qv => to' c v ?_ qv) (fun _ qq => qq) fun _ _ qq => qq
   rcases hcv with zz | zz
   ·rw [zz]; exact neC b u e
   ·exact neC c _ zz
  refine I3.call' (s' := { s' with heap := h' }) (ch:=fp) ?_ un hok J'.bare fun b hb => ?_
  ·have := J'.os
   rw [<- hC] at this
   exact this
  ·obtain ⟨_,g1,g2,g3,g4,g5⟩ := f2 b hb
   exact ⟨g3,g1,g4,g5⟩
 have key : ∀ s5 : Shared,s5 = { s2 with heap := h₁,toks := s2.toks } ->
   codeAny (model X.prog X.w) X.A (.compLoop (.DictComp kx vx [⟨tg,iter,ifs,0⟩] scope pos) 0 (.ref it) (.ref D) (compEnvC scope (zjs h3.objs.size scope ++ zg6 X.env.cells scope.names []) h3.objs.size X.env))
    (compPost (model X.prog X.w) X.A X.xe none (EP X pins σ Q) (.ref D) h3.objs.size) s5:=by
  rintro s5 rfl
  rw [<- eEnv,<- eP,<- eW,<- eA]
  refine zjT (fun n s' => ∃ i H',Inv Y [] (zd3 L.length ix σ) H' s' /\ tn i s'.heap /\ (∀ b ∈ fp,H' b = none) /\ W i n H') ?_ m0 ⟨0,_,?_,st4,fun b hb => (f3 b hb).1,w0⟩
  ·rintro n s6 ⟨i,H6,I6,st6,fr6,w6⟩
   rcases turn i n H6 w6 with ⟨stop,qe⟩ | ⟨go,step⟩
   ·have Td := T.done Y eP eW eK hcY i [] s6 _ H6 (fun _ _ => False) I6 (stat fr6) st6 stop
    rw [<- eP,<- eW] at Td
    refine wpAny_mono Td (fun r s7 hr7 => ?_) fun _ _ f => f.elim
    obtain ⟨hr,I7⟩ := hr7
    subst hr
    rw [eP,eW,eA]
    exact fin I7 qe
   ·have Ti := T.item Y eP eW eK hcY i [] s6 _ H6 (fun _ _ => False) I6 (stat fr6) st6 go
    rw [<- eP,<- eW] at Ti
    refine wpAny_mono Ti (fun r s7 hr7 => ?_) fun _ _ f => f.elim
    obtain ⟨u,hr,h7⟩ := hr7
    subst hr
    refine wpAny_mono h7 (fun _ s8 hr8 => ?_) fun _ _ f => f.elim
    obtain ⟨x,H8,I8,r8,y8,st8,fr8⟩ := hr8
    have I8' := I8.pinned (stat fr8) (T.obj _ _ st8)
    have stp := hgo _ _ _ _ (step x H8 y8)
    refine wpAny_mono (gY _ s8 _ H8 x u _ I8' r8 stp) (fun _ s9 ⟨σ9,H9,I9,⟨k1,k2⟩,q9⟩ => ?_) fun _ _ f => by rw [xeY] at f; exact f.elim
    have weak : ∀ {Hz : Hp} {sz : Shared},Inv Y ([] ++ zgD fp s8.heap) σ9 Hz sz -> Inv Y [] (zd3 L.length ix σ) Hz sz /\ tn (i + 1) sz.heap /\ ∀ b ∈ fp,Hz b = none := fun {Hz sz} Iz => by
     refine ⟨Iz.zcp.weak k1.symm fun j v e => ?_,T.keep _ _ _ st8 fun b hb o e => (Iz.pin (b,o) (List.mem_append_right _ (List.mem_append_right _ (zbF hb e)))).1,fun b hb => ?_⟩
     ·by_cases hj : L.length <= j
      ·rw [k2 j hj]; exact e
      ·unfold zd3 at e
       rw [List.getElem?_append_left (by simpa using Nat.lt_of_not_le hj),List.getElem?_replicate,if_pos (Nat.lt_of_not_le hj)] at e
       cases e
     ·obtain ⟨o,e,d⟩ := T.obj _ _ st8 b hb
      exact (Iz.pin (b,o) (List.mem_append_right _ (List.mem_append_right _ (zbF hb e)))).2.1
    refine wpAny_mono (tY _ s9 σ9 H9 _ I9 q9) (fun ok s10 ⟨H10,I10,q10⟩ => ?_) fun _ _ f => by rw [xeY] at f; exact f.elim
    cases ok with
    | false =>
     have q10' : ∃ m',m' < n /\ W (i + 1) m' H10 := q10
     obtain ⟨m',hm',w10⟩ := q10'
     obtain ⟨z1,z2,z3⟩ := weak I10
     exact ⟨m',hm',i + 1,H10,z1,z2,z3,w10⟩
    | true =>
     refine wpAny_mono (kY _ s10 σ9 H10 _ I10 q10) (fun yv s11 ⟨y,H11,I11,r11,q11⟩ => ?_) fun _ _ f => by rw [xeY] at f; exact f.elim
     refine wpAny_mono (pY _ s11 σ9 H11 _ I11 q11) (fun xv s12 ⟨v,H12,I12,r12,H8',g12,m',hm',w12⟩ => ?_) fun _ _ f => by rw [xeY] at f; exact f.elim
     refine zrv (by rw [eA]; exact hu) I12 g12 r11 r12 fun s13 I13 => ?_
     obtain ⟨z1,z2,z3⟩ := weak I13
     exact ⟨m',hm',i + 1,_,z1,z2,z3,w12⟩
  ·exact I4
 exact codeAny_compStart_dict (key _ rfl) (T.self _ 0 _ _ _ st4 (key _ rfl))
theorem zlY {kx vx tg iter : Expr} {ifs : List Expr} {scope : Scope} {pos : Pos} {wi : TI} {g : TG} {tc : TT} {tk tv : TE} (L : List Str) (ix : List Nat) (M : List Str) (hu : X.A.units + 1 < cLine) (hc : X.calm = true) (hk : scope.kind = .function)
  (hd : zc4 X.env.scope scope X.N ix = true) (hM : M = L ++ ix.map fun i => X.N.getD i "") (hi : PI X tg iter wi)
  (hg : ∀ C s₃ H₃ fp,PG (zaA X M scope C s₃ H₃ fp) tg g) (hgo : zkU L.length g)
  (ht : ∀ C s₃ H₃ fp,PTs (zaA X M scope C s₃ H₃ fp) ifs tc) (hke : ∀ C s₃ H₃ fp,PE (zaA X M scope C s₃ H₃ fp) kx tk) (he : ∀ C s₃ H₃ fp,PE (zaA X M scope C s₃ H₃ fp) vx tv)
  (hs : ∀ x,foldedSetIterable iter X.env x = pure x := by intro _; rfl) :
  PE X (.DictComp kx vx [⟨tg,iter,ifs,0⟩] scope pos) (zkg L.length ix wi g tc tk tv):=by
 unfold zc4 at hd
 simp only [Bool.and_eq_true,List.all_eq_true,bne_iff_ne,ne_eq,Bool.or_eq_true,beq_iff_eq,decide_eq_true_eq,Bool.not_eq_true',List.contains_eq_mem,decide_eq_false_iff_not] at hd
 obtain ⟨⟨d1,d2⟩,d3⟩ := hd
 have eM : M = L ++ zd4 X ix := by rw [hM]; unfold zd4; rfl
 subst eM
 refine zm6 (L:=L) (ix:=ix) hu hc ⟨hk,fun y hy e => ?_,fun y hy e => ?_,fun x hx => ?_,fun y hy e => ?_⟩ d3 hi hg hgo ht hke he hs
 ·rcases (d1 y hy).1.1 with z | z
  ·exact absurd e z
  ·exact z
 ·rcases (d1 y hy).1.2 with z | z
  ·exact absurd e z
  ·exact z
 ·unfold zd4 at hx
  exact d2 x hx
 ·rcases (d1 y hy).2 with z | z
  ·exact absurd e z
  ·exact z
end
end L2
namespace L2
open PySem PySem.Spec PyProof.Rows
end L2
namespace FL
open PySem
def enD : List D -> R (List D)
 | [.list l] => .ok (zf4 0 l)
 | _ => .bad
def ztI (a : AF) : IF := fun ρ => (a ρ).bind fun x => (enD x.1).bind fun l => .ok (l,x.2)
def zea (k : Nat) (ix : List Nat) (g : GF) (t : TF) (kf vf : EF) : List D -> En -> D -> R (D × En)
 | [],ρ,acc => .ok (acc,ρ)
 | x :: xs,ρ,acc => (g x (blk k ix ρ)).bind fun β => (t β).bind fun c =>
   if c.1 = true then (kf c.2).bind fun y => (vf y.2).bind fun z => (zkI acc y.1 z.1).bind fun d => zea k ix g t kf vf xs (back ρ ix (z.2.drop k)) d
   else zea k ix g t kf vf xs (back ρ ix (c.2.drop k)) acc
def zfP (k : Nat) (ix : List Nat) (it : IF) (g : GF) (t : TF) (kf vf : EF) : EF := fun ρ => (it ρ).bind fun x => (zea k ix g t kf vf x.1 x.2 (.dict [])).bind fun y => .ok (y.1,y.2)
def zn0 (i : Nat) (k : EF) : SF := fun ρ => (zaH ρ i).bind fun c0 => (zgK c0).bind fun _ => (k ρ).bind fun a => (zaH a.2 i).bind fun c => (zmn c a.1).bind fun d => .ok (.nx,zbs a.2 i d)
def zpY (d : D) : R D := match d with
 | .list l => chk (PyData.canLay0 (.list l) && (PyData.showable (.list l) && (leB (PyData.depth (.list l)) 60 && leB (PyData.shown (.list l)).length lim))) (.ok (.str (PyData.shown (.list l))))
 | .tuple l => chk (PyData.canLay0 (.tuple l) && (PyData.showable (.tuple l) && (leB (PyData.depth (.tuple l)) 60 && leB (PyData.shown (.tuple l)).length lim))) (.ok (.str (PyData.shown (.tuple l))))
 | _ => .bad
def zsJ (x y : D) : R D := (R.of (zoy x)).bind fun p => (R.of (zoy y)).bind fun q => .ok (.bool (ltW p q))
def ztH : D -> D -> R D
 | .str x,.str y => .ok (.bool (x != y))
 | _,_ => .bad
end FL
namespace FL
open PySem L2 PySem.Spec
open PyProof.Rows hiding St
theorem znS : ∀ (i : Nat) (l : List D),(zf4 i l).length = l.length
 | _,[] => rfl
 | i,d :: r => by rw [zf4,List.length_cons,List.length_cons,znS]
theorem znT : ∀ {i : Nat} {l : List D} {j : Nat} {x : D},(zf4 i l)[j]? = some x -> ∃ d,l[j]? = some d /\ x = .tuple [.int ((i + j : Nat) : Int),d]
 | _,[],_,_,h => by simp [zf4] at h
 | i,d :: r,0,x,h => by
  simp only [zf4,List.getElem?_cons_zero,Option.some.injEq] at h
  exact ⟨d,rfl,h.symm⟩
 | i,d :: r,j + 1,x,h => by
  simp only [zf4,List.getElem?_cons_succ] at h
  obtain ⟨d',h1,h2⟩ := znT h
  refine ⟨d',by simpa using h1,?_⟩
  rw [h2,Nat.add_assoc,Nat.add_comm 1 j]
section
variable [Cs] {K : PySem.W.Frag} {X : Cx} {e e' : Expr} {fa : AF} {pos : Pos} {es : List Expr} {k : Nat} {p0 p : Pos}
theorem zrr {H : Hp} {t : Addr} {a b : D} {u v : V} (h0 : H t = none) (fa : Fz K H a u) (fb : Fz K H b v) : Fz K (upd H t (.tup [u,v])) (.tuple [a,b]) (.ref t):=by
 have m : Fzn H (upd H t (.tup [u,v])) := Fzn.of (zaY.upd h0)
 simp only [Fz,zak]
 exact ⟨t,[u,v],rfl,.inl zas,u,[v],rfl,fa.mono m,v,[],rfl,fb.mono m,rfl⟩
theorem zmv {H : Hp} {a : Addr} {vs : List V} {items : List D} (h : FzL K H a vs) (f : zak K H items vs) : Walk K (Ite K a) (zf4 0 items) H:=by
 refine ⟨fun i d H' fz e => ?_,fun i H' fz e => ⟨vs,(fz.zqH h).sq,by rw [f.len,<- znS 0]; exact e⟩⟩
 obtain ⟨d',e',rfl⟩ := znT e
 obtain ⟨v,ev,fv⟩ := (f.mono fz).get e'
 refine ⟨⟨vs,v,(fz.zqH h).sq,ev⟩,fun x H'' y => ?_⟩
 obtain ⟨t,v',rfl,ht,rfl,hv⟩ := y
 have ex := hv vs (fz.zqH h).sq
 rw [ev] at ex
 cases ex
 refine ⟨zaY.upd ht,?_⟩
 rw [Nat.zero_add]
 exact zrr ht (zck _) fv
theorem zoY (hg : Gl X "enumerate") (hm : X.mg "enumerate" = none) (ha : PVA K X [e] fa) (hs : starEach [e] X.env = [(false,eval e X.env)] := by rfl) : PVI K X (.Tuple es k p0) (.Call (.Name "enumerate" p) [e] [] pos) (ztI fa) := fun hK => by
 subst hK
 refine (zq3 hg hm (ha rfl) hs).weak fun σ H R => ?_
 rintro ⟨ρ,rel,q⟩
 refine goA rel q fun ds ρ1 vs H1 rel1 st1 fs q1 => ?_
 obtain ⟨items,ei,q2⟩ := q1.zeq
 cases ds with
 | nil => cases ei
 | cons d r =>
  cases r with
  | cons _ _ => cases d <;> cases ei
  | nil =>
   cases d with
   | list a =>
    cases ei
    simp only [zak,Fz] at fs
    obtain ⟨_,_,rfl,⟨l,vs,rfl,sx,f⟩,rfl⟩ := fs
    exact ⟨l,rfl,⟨vs,sx.sq⟩,q2.now rel1 _ (zmv sx f)⟩
   | _ => cases ei
end
section
variable [Cs] {K : PySem.W.Frag} {X : Cx} {ke ve tg iter : Expr} {ifs : List Expr} {scope : Scope} {pos : Pos} {it : IF} {g : GF} {t : TF} {kf vf : EF} {dom : List Nat}
theorem zli {o : HO} (h : Own o) : ¬ ztu o := by cases o <;> simp [Own,ztu] at h ⊢
theorem zrp {k : Nat} {ix : List Nat} (nd : ix.Nodup) (hgo : dom.all (fun i => decide (i < k)) = true) (σ : L2.St) (H : Hp) (Q : VK) (q : tN K (zfP k ix it g t kf vf) σ H Q) : zkg k ix (tI K it) (tG K dom g) (tT K t) (tV K kf) (tV K vf) σ H Q:=by
 revert q
 rintro ⟨ρ0,rel0,q⟩
 obtain ⟨x,ex,q⟩ := q.bnd
 refine ⟨ρ0,rel0,?_⟩
 rw [ex]
 intro H1 rel1 st1 J wk l hl
 obtain ⟨items,ρs⟩ := x
 have hl0 : H l = none:=by
  cases e : H l with
  | none => rfl
  | some o =>
   by_cases m : MA ρ0 σ l
   ·obtain ⟨o',e',_⟩ := rel1.zbG (st1.ma.mp m)
    rw [hl] at e'; cases e'
   ·rw [st1.kp l o e m] at hl; cases hl
 have sl : zaY H1 (upd H1 l (.dK [])) := zaY.upd hl
 refine ⟨fun i m H2 => m = items.length - i /\ i <= items.length /\ ∃ ρ acc,zbq K H2 l acc /\ Rel K ρ σ H2 /\ ¬ MA ρ σ l /\ Fzn H1 H2 /\ Stp ρ0 ρ σ H H2 /\
  Good K ρ0 σ H ((zea k ix g t kf vf (items.drop i) ρ acc).bind fun (y : D × En) => .ok (y.1,y.2)) fun d ρ' H' => ∀ a,H a = none -> zbq K H' a d -> Q (.ref a) H',
  ⟨items.length,by simp,Nat.zero_le _,ρs,.dict [],.inr ⟨[],zas,by simp [zbL]⟩,rel1.same sl,fun z => ?_,Fzn.of sl,st1.trans (.of sl),q⟩,?_⟩
 ·obtain ⟨o',e',_⟩ := rel1.zbG z
  rw [hl] at e'; cases e'
 rintro i m H2 ⟨rfl,hi,ρ,acc,mu,rel,nma,fz,st0,gd⟩
 obtain ⟨ob,hly,own⟩ := mu.own
 by_cases c : i < items.length
 ·have ed := List.drop_eq_getElem_cons c
  rw [ed] at gd
  obtain ⟨hgo',hy⟩ := wk.1 i items[i] H2 fz (List.getElem?_eq_getElem c)
  refine .inr ⟨hgo',fun x H3 y => ?_⟩
  obtain ⟨sm,fx⟩ := hy x H3 y
  have rel3 : Rel K ρ σ H3 := rel.same sm
  obtain ⟨w,ew,gd⟩ := gd.zeq
  obtain ⟨β1,e1,ew⟩ := zaq (show (g items[i] (blk k ix ρ)).bind _ = .ok w from ew)
  obtain ⟨c1,ec,ew⟩ := zaq ew
  refine ⟨blk k ix ρ,items[i],β1,zn9 nd rel3,fx,e1,fun σ1 relβ chg => ⟨β1,relβ,?_⟩⟩
  rw [ec]
  intro H5 rel5 st5
  have hσ : ∀ j,σ1[k + j]? = (zd3 k ix σ)[k + j]? := fun j => by
   rcases chg.2 (k + j) with ⟨_,c2⟩ | ⟨m,_⟩
   ·exact c2
   ·have := of_decide_eq_true (List.all_eq_true.mp hgo _ m)
    omega
  have hβ : ∀ j,β1[k + j]? = (blk k ix ρ)[k + j]? := fun j => by
   rcases chg.2 (k + j) with ⟨c2,_⟩ | ⟨m,_⟩
   ·exact c2
   ·have := of_decide_eq_true (List.all_eq_true.mp hgo _ m)
    omega
  have hMA : ∀ a,MA β1 σ1 a -> MA (blk k ix ρ) (zd3 k ix σ) a := fun a ⟨j,⟨p,d,z1⟩,z2⟩ => by
   rcases chg.2 j with ⟨c1,c2⟩ | ⟨_,⟨d',c1⟩,_⟩
   ·exact ⟨j,⟨p,d,by rw [<- c1]; exact z1⟩,by rw [<- c2]; exact z2⟩
   ·rw [c1] at z1; cases z1
  have hMB : ∀ a,MA (blk k ix ρ) (zd3 k ix σ) a -> MA ρ σ a := fun a ⟨j,h⟩ => by
   obtain ⟨_,i,_,_,h⟩ := zh2 h
   exact ⟨i,h⟩
  have h3l : H3 l = some ob := sm l _ hly
  have n1 : ¬ MA β1 σ1 l := fun z => nma (hMB l (hMA l z))
  have h5l : H5 l = some ob := st5.kp l _ h3l n1
  obtain ⟨cb,β2⟩ := c1
  cases cb with
  | true =>
   refine zqe ⟨β2,rel5,?_⟩
   obtain ⟨y,ey,ew⟩ := zaq (show (kf β2).bind _ = .ok w from ew)
   obtain ⟨z,ez,ew⟩ := zaq ew
   obtain ⟨d',ed',ew⟩ := zaq ew
   rw [ey]
   intro H6 rel6 st6 v fv
   refine ⟨y.2,rel6,?_⟩
   rw [ez]
   intro H7 rel7 st7 v2 fv2
   have n2 : ¬ MA β2 σ1 l := fun z => n1 (st5.ma.mpr z)
   have h6l : H6 l = some ob := st6.kp l _ h5l n2
   have n3 : ¬ MA y.2 σ1 l := fun z => n2 (st6.ma.mpr z)
   have h7l : H7 l = some ob := st7.kp l _ h6l n3
   have st : Stp β1 z.2 σ1 H3 H7 := (st5.trans st6).trans st7
   obtain ⟨rb,sb⟩ := zi4 (k:=k) nd rel3 hσ rel7 (fun j p => by rw [<- hβ j]; exact (st.md (k + j) p).symm) (fun a o h n => st.kp a o h fun z => n (hMA a z))
   have nmb : ¬ MA (back ρ ix (z.2.drop k)) σ l := fun z => nma (sb.ma.mpr z)
   have fz6 : Fzn H2 H7 := (Fzn.of sm).trans (sb.fzn rel3)
   have mut7 : zbq K H7 l acc := mu.mono fz6 (by rw [h7l,hly])
   obtain ⟨o',dp,mut8⟩ := ztd mut7 (fv.mono (st7.fzn rel6)) fv2 ed'
   have fz7 : Fzn H7 (upd H7 l o') := fun b u e s => by
    rw [zay fun z => by subst z; rw [h7l] at e; cases e; exact zli own s]
    exact e
   refine ⟨_,dp,items.length - (i + 1),by omega,rfl,c,back ρ ix (z.2.drop k),d',mut8,rb.put nmb (fun u e => by rw [h7l] at e; cases e; exact zli own),nmb,(fz.trans fz6).trans fz7,⟨((st0.trans (.of sm)).trans sb).md,fun a o h n => ?_⟩,?_⟩
   ·rw [zay fun z => by subst z; rw [hl0] at h; cases h]
    exact ((st0.trans (.of sm)).trans sb).kp a o h n
   ·rw [ew]
    exact gd
  | false =>
   obtain ⟨rb,sb⟩ := zi4 (k:=k) nd rel3 hσ rel5 (fun j p => by rw [<- hβ j]; exact (st5.md (k + j) p).symm) (fun a o h n => st5.kp a o h fun z => n (hMA a z))
   have nmb : ¬ MA (back ρ ix (β2.drop k)) σ l := fun z => nma (sb.ma.mpr z)
   have fz6 : Fzn H2 H5 := (Fzn.of sm).trans (sb.fzn rel3)
   refine zqf ⟨items.length - (i + 1),by omega,rfl,c,back ρ ix (β2.drop k),acc,mu.mono fz6 (by rw [h5l,hly]),rb,nmb,fz.trans fz6,(st0.trans (.of sm)).trans sb,?_⟩
   rw [show zea k ix g t kf vf (items.drop (i + 1)) (back ρ ix (β2.drop k)) acc = .ok w from ew]
   exact gd
 ·have e : i = items.length := by omega
  subst e
  rw [List.drop_length] at gd
  exact .inl ⟨wk.2 _ H2 fz (Nat.le_refl _),gd H2 rel st0 l hl0 mu⟩
theorem zjm (L : List Str) (ix : List Nat) (M : List Str) (hu : X.A.units + 1 < cLine) (hc : X.calm = true) (hk : scope.kind = .function) (hd : zc4 X.env.scope scope X.N ix = true) (hM : M = L ++ ix.map fun i => X.N.getD i "") (nd : ix.Nodup) (hi : PVI K X tg iter it)
  (hg : ∀ C s₃ H₃ fp,PVG K (zaA X M scope C s₃ H₃ fp) dom tg g) (hgo : dom.all (fun i => decide (i < L.length)) = true)
  (ht : ∀ C s₃ H₃ fp,ztv K (zaA X M scope C s₃ H₃ fp) ifs t) (hke : ∀ C s₃ H₃ fp,PV K (zaA X M scope C s₃ H₃ fp) ke kf) (he : ∀ C s₃ H₃ fp,PV K (zaA X M scope C s₃ H₃ fp) ve vf)
  (hs : ∀ x,foldedSetIterable iter X.env x = pure x := by intro _; rfl) :
  PVN K X (.DictComp ke ve [⟨tg,iter,ifs,0⟩] scope pos) (zfP L.length ix it g t kf vf) := fun hK => by
 refine (zlY L ix M hu hc hk hd hM (hi hK) (fun C s₃ H₃ fp => hg C s₃ H₃ fp hK) (ziO hgo) (fun C s₃ H₃ fp => ht C s₃ H₃ fp hK) (fun C s₃ H₃ fp => hke C s₃ H₃ fp hK) (fun C s₃ H₃ fp => he C s₃ H₃ fp hK) hs).weak fun σ H Q q => zrp nd hgo σ H Q q
end
end FL
namespace FL
open PySem L2 PySem.Spec
open PyProof.Rows hiding St
end FL
namespace PySem
open Spec
section
variable {prog : Program} {w : World} {A : Around} {E : Value -> Shared -> Prop} {s : Shared} {K : Type} [DecidableEq K] {knd : HeapKind prog w K}
theorem zvu {d a : Addr} {xs : List (K × Addr × Value)} {k : K} {Q : Value -> Shared -> Prop} (hu : knd.room A.in1) (hkey : knd.is s.heap k a) (hm : s.heap.DictOfH knd d xs) (there : ∃ p,(k,p) ∈ xs)
  (hQ : ∀ v h',h'.DictOfH knd d (zdg xs k) -> Heap.SameBut d s.heap h' -> Q v { s with heap := h',toks := s.toks + knd.draws k }) (hsz : xs.length <= sizeLine) :
  wpAny (model prog w) A (call (.builtin "dict.pop") [.ref d,.ref a]) Q E s:=by
 refine wpAny_call_entry PySem.F.slot_dict_pop hm.typeIs PySem.F.entry_dict_pop ?_ (PySem.F.args_dict_pop_2 _ _)
 unfold Builtin.«dict.pop»; refine wpAny_bind ?_
 unfold Builtin.Dict.keyAndDefault; refine wpAny_bind (wpAny_notOrdered_dict hm.typeIs ?_)
 show wpAny _ _ (pure (d,Value.ref a,none)) _ _ s; refine wpAny_pure ?_
 obtain ⟨o,es,ep,ho,hc,hd,he,his,hn⟩ := id hm
 have ne : es.isEmpty = false:=by
  obtain ⟨p,hp⟩ := there
  cases z : es.isEmpty with
  | false => rfl
  | true =>
   rw [Array.isEmpty_iff] at z
   rw [z] at he
   have : xs = [] := by simpa using he.symm
   rw [this] at hp; cases hp
 simp only [show (keyPart (Value.ref a)).isSome = false from rfl,Bool.false_eq_true,if_false]
 refine wpAny_bind (wpAny_dictEntries ho hd (wpAny_bind (wpAny_pure ?_)))
 rw [ne]; simp only [Bool.false_eq_true,if_false]
 refine wpAny_bind (zk2 hu hkey hm there (fun e h' hm' hs' => ?_) hsz)
 simp only [Option.isNone_some,Bool.false_eq_true,if_false]; exact wpAny_bind (wpAny_letGo (wpAny_pure ⟨e.val,rfl,hQ e.val h' hm' hs'⟩))
end
end PySem
namespace FL
open PySem L2 PySem.Spec
open PyProof.Rows hiding St
section
variable {X : Cx} {pins : List (Addr × Obj)} {σ : L2.St} {H : Hp} {s : Shared} {a b : Addr} {kvs : List (List Key × V)} {k : List Key} {A : Around} {E : Value -> Shared -> Prop}
theorem ztf {Q : Value -> Shared -> Prop} (hu : A.units + 1 < cLine) (I : Inv X pins σ H s) (e : H a = some (.dT kvs)) (eb : TAt H b (k.map kV)) (l : (zhr kvs k).isSome = true) (h : ∀ v s',Inv X pins σ (upd H a (.dT (zbN kvs k))) s' -> Q v s') :
  wpAny (model X.prog X.w) A (call (.builtin "dict.pop") [.ref a,.ref b]) Q E s:=by
 obtain ⟨z,hd,xs,rel,dd⟩ := zpE I.hok e
 have hz : xs.length <= sizeLine := by rw [<- Paired.length rel]; exact z
 have there : ∃ p,(k,p) ∈ xs:=by
  have hv := rel.val k
  obtain ⟨v,ev⟩ := Option.isSome_iff_exists.mp l
  rw [ev] at hv
  obtain ⟨w',hw,_⟩ := zkR.some_of (v:=v) (o:=(atKey xs k).map (·.2)) hv
  obtain ⟨p,hp,_⟩ := Option.map_eq_some_iff.mp hw
  unfold atKey at hp
  obtain ⟨x,hx,ex⟩ := Option.map_eq_some_iff.mp hp
  have h0 := List.find?_some hx
  have h1 : x.1 = k := of_decide_eq_true h0
  exact ⟨x.2,by rw [<- h1]; exact List.mem_of_find?_eq_some hx⟩
 refine zvu (tupleKind_room_in1 hu) (zcs I.hok eb) dd there (fun v h' dd' hs => h v _ ?_) hz
 obtain ⟨q,es,ep,hq,h2,h3,h4,_,h5⟩ := dd'
 refine zcz I (by rw [e]; exact True.intro) hs ⟨q,hq⟩ ⟨Nat.le_trans (zgf kvs k) z,hd,_,(rel.drop k).keeps fun c ys ec => ?_,q,es,ep,hq,h2,h3,h4,h5⟩
 exact ec.upd (fun _ z => zf0 z e (fun z => nomatch z)) fun _ _ z => zf0 z e (fun z => nomatch z)
end
section
variable {X : Cx} {o e : Expr} {td ty : TE} {apos cpos pos : Pos}
def ztZ (td ty : TE) : TS := fun D σ H => td σ H fun x H1 => ∃ a,x = .ref a /\ IsD H1 a /\ ty σ H1 fun y H2 => ∃ o,DDl H2 a y o /\ D.nx σ (upd H2 a o)
theorem zqX (hu : X.A.units + 1 < cLine) (ho : PE X o td) (he : PE X e ty) (m : M1 X o "pop" apos e cpos) (hs : swapsWith (.Call (.Attribute o "pop" apos) [e] [] cpos) none pos.line X.env = pure false := by rfl) :
  PS X (.Expr (.Call (.Attribute o "pop" apos) [e] [] cpos) pos) (ztZ td ty):=by
 intro pins s σ H D I h
 refine wpAny_Expr_any ?_ I.quiet hs
 refine wpAny_Call_method m.base m.few m.line PySem.F.plainAttrs_dict PySem.F.slot_dict_pop PySem.F.type_dict_pop (thn (ho pins s σ H _ I h) fun u s1 ⟨x,H1,I1,rx,a,ex,d,q1⟩ => ?_)
 subst ex
 obtain rfl : u = Value.ref a := rx
 obtain ⟨t1,t2,_⟩ := zqg I1 d
 refine ⟨t1,t2,?_⟩
 rw [m.trees]; refine Calls.callWith_builtin rfl (Calls.evalArgs_plain (Calls.spliced_cons (thn (he pins s1 σ H1 _ I1 q1) fun iv s2 ⟨y,H2,I2,ry,o2,g,q2⟩ => Calls.spliced_nil ?_)))
 rcases g with ⟨kvs,k,e,rfl,l,rfl⟩ | ⟨kvs,k,b,e,rfl,eb,l,rfl⟩
 ·obtain ⟨v,ev⟩ := Option.isSome_iff_exists.mp l
  exact zuF I2 e ry ev (.inl rfl) fun w' s3 I3 _ => ⟨σ,_,I3,q2⟩
 ·cases (show iv = Value.ref b from ry)
  exact ztf hu I2 e eb l fun v s3 I3 => ⟨σ,_,I3,q2⟩
end
section
variable [Cs] {K : PySem.W.Frag} {X : Cx} {pos : Pos}
theorem zoU {y : Str} {py apos cpos : Pos} {ke : Expr} {k : EF} (i : Nat) (hu : X.A.units + 1 < cLine) (ha : PE X (.Name y py) (zkb i)) (hk : PV K X ke k) (m : M1 X (.Name y py) "pop" apos ke cpos)
  (hs : swapsWith (.Call (.Attribute (.Name y py) "pop" apos) [ke] [] cpos) none pos.line X.env = pure false := by rfl) : PSV K X (.Expr (.Call (.Attribute (.Name y py) "pop" apos) [ke] [] cpos) pos) (zn0 i k) := fun hK C => by
 subst hK
 refine (zqX hu ha (hk rfl) m hs).weak fun Dn σ H => ?_
 rintro ⟨ρ,rel,g⟩
 obtain ⟨d,ed,g1⟩ := g.bnd
 obtain ⟨ks,ek,g2⟩ := g1.bnd
 obtain ⟨a,at0,m0⟩ := rel.rel.zkc ed
 refine ⟨.ref a,at0.2,a,rfl,?_,zmr rel g2 fun dk ρ2 kv H2 rel2 st2 fk g3 => ?_⟩
 ·cases d with
  | dict kvs => exact zhR (d:=.none) m0
  | _ => cases ek
 obtain ⟨c,ec,g4⟩ := g3.bnd
 obtain ⟨d',ed',g5⟩ := g4.bnd
 obtain ⟨o,dd,mm⟩ := zte (rel2.rel.again ec at0) fk ed'
 obtain ⟨a2,at2,_⟩ := rel2.rel.zkc ec
 have := at0.2.symm.trans at2.2
 cases this
 exact ⟨o,dd,znK rel2 at2 mm g5⟩
end
end FL
namespace FL
open PySem L2 PySem.Spec
open PyProof.Rows hiding St
end FL
namespace L2
open PySem PySem.Spec PyProof.Rows
open PySem.SeqAt
open PySem.AutoSeq1 (wpAny_loadPart')
open PySem.MeetsSeq PySem.MeetsSeq2 PySem.MeetsSeq3
section
variable {X : Cx} {pins : List (Addr × Obj)} {σ : L2.St} {H : Hp} {s : Shared}
theorem zrj (hu : X.A.units + 2 < cLine) (I : Inv X pins σ H s) {k k' : WK} {v v' : V} {u u' : Value} {Q : Value -> Shared -> Prop} {E : Value -> Shared -> Prop} (h : zes H k v) (h' : zes H k' v') (r : RelV v u) (r' : RelV v' u')
  (q : Q (.bool (ltK k k')) s) : wpAny (model X.prog X.w) X.A (compareOp .Lt u u') Q E s:=by
 obtain ⟨b,o,n0,c,tk,rfl,ho,hc,hd,hw⟩ := zgM I h r
 obtain ⟨b',o',n0',c',tk',rfl,ho',hc',hd',hw'⟩ := zgM I h' r'
 refine wpAny_richCompare_same_room (op:=.Lt) (T:="tuple") (id:="tuple.__lt__") ⟨_,ho,hc⟩ ⟨_,ho',hc'⟩ PySem.F.slot_tuple_lt (wpAny_call_entry PySem.F.slot_tuple_lt ⟨_,ho,hc⟩ PySem.F.entry_tuple_lt ?_ (PySem.F.args_tuple_lt_2 _ _)) (by omega)
 obtain ⟨ocl,od,oda,osl⟩ := o
 obtain ⟨ocl',od',oda',osl'⟩ := o'
 simp only at hc hd hc' hd'
 subst hc hd hc' hd'
 obtain ⟨hp,g,d,tks,os⟩ := s
 have f2 := AutoSeq1.sub_tuple_tuple
 have i1 := zcs (ks:=k.2.map (Sum.inl (β:=Str))) I.hok (by rw [map_inl]; exact hw)
 have i2 := zcs (ks:=k'.2.map (Sum.inl (β:=Str))) I.hok (by rw [map_inl]; exact hw')
 obtain ⟨its,p1,j1⟩ := ziK I hw
 obtain ⟨its',p2,j2⟩ := ziK I hw'
 wp_walk using wpAny_loadPart' ho,wpAny_loadPart' ho',wpAny_forIn_list _ (fun rest bb s' => bb.1 = none /\ s' = ⟨hp,g,d,tks,os⟩ /\ ((rest = [(Value.int k.1 tk,Value.int k'.1 tk'),(.ref c,.ref c')]) \/ (k.1 = k'.1 /\ rest = [(Value.ref c,Value.ref c')]) \/ (k.1 = k'.1 /\ k.2 = k'.2 /\ rest = []))) _
 case turn =>
  rintro ⟨y,x⟩ rest bb s' ⟨hb',rfl,alt⟩
  rcases alt with e | ⟨e1,e⟩ | ⟨e1,e2,e⟩
  ·cases e
   refine wpAny_bind (wpAny_eqBool_int ?_)
   by_cases e1 : k.1 = k'.1
   ·rw [show (k.1 == k'.1) = true from by simpa using e1]
    wp_walk
    exact ⟨rfl,rfl,.inr (.inl ⟨e1,rfl⟩)⟩
   ·rw [show (k.1 == k'.1) = false from by simpa using e1]
    have hri := HT.zlb X.A.in1 ⟨hp,g,d,tks,os⟩ k.1 tk k'.1 tk' X.prog X.w
    wp_walk using hri
    refine ⟨_,rfl,(fun z => nomatch z),?_⟩
    unfold ltK at q
    rw [if_neg e1] at q
    exact q
  ·cases e
   refine wpAny_bind (wpAny_eqBool_tuple (by show X.A.units + 1 < cLine; omega) i1 i2 ?_)
   by_cases e2 : k.2 = k'.2
   ·rw [show decide (k.2.map (Sum.inl (β:=Str)) = k'.2.map Sum.inl) = true from by rw [e2]; simp]
    wp_walk
    exact ⟨rfl,rfl,.inr (.inr ⟨e1,e2,rfl⟩)⟩
   ·rw [show decide (k.2.map (Sum.inl (β:=Str)) = k'.2.map Sum.inl) = false from decide_eq_false fun z => e2 (by
     have := congrArg (List.map (Sum.elim id fun _ => (0 : Int))) z
     simpa [List.map_map,Function.comp_def] using this)]
    have hri : ∀ {C : Value -> Shared -> Prop} {E : Value -> Shared -> Prop},C (.bool (HT.lexLt k.2 k'.2)) ⟨hp,g,d,tks,os⟩ -> wpAny (model X.prog X.w) X.A.in1 (richCompare .Lt (.ref c) (.ref c')) C E ⟨hp,g,d,tks,os⟩ := fun {C E} hC => HT.zff p1 p2 j1 j2 (by show X.A.units + 1 < cLine; omega) hC
    wp_walk using hri
    refine ⟨_,rfl,(fun z => nomatch z),?_⟩
    unfold ltK at q
    rw [if_pos e1] at q
    exact q
  ·cases e
 case fin =>
  rintro ⟨b1,b2⟩ s' ⟨hb',rfl,alt⟩
  simp only at hb'
  subst hb'
  rcases alt with e | ⟨e1,e⟩ | ⟨e1,e2,e⟩
  ·cases e
  ·cases e
  ·wp_walk
   refine ⟨_,rfl,(fun z => nomatch z),?_⟩
   unfold ltK at q
   rw [if_pos e1,e2] at q
   have z : HT.lexLt k'.2 k'.2 = false:=by
    cases hz : HT.lexLt k'.2 k'.2 with
    | false => rfl
    | true => exact hz.symm.trans (zlo _ _ hz)
   rw [z] at q
   exact q
 case h => exact ⟨rfl,rfl,.inl rfl⟩
end
end L2
namespace FL
open PySem L2 PySem.Spec
open PyProof.Rows hiding St
theorem zu3 {α : Type} {o : Option α} {a : α} (h : R.of o = .ok a) : o = some a:=by
 cases o with
 | none => cases h
 | some x => cases h; rfl
theorem zrP [Cs] {K : PySem.W.Frag} {H : Hp} {d : D} {w : WK} {v : V} (e : zoy d = some w) (t : Tp K H d v) : Fz K H d v:=by
 cases d with
 | list _ => cases e
 | dict _ => cases e
 | _ => exact t
theorem zul [Cs] {X : Cx} (hu : X.A.units + 64 < cLine) : OpR X (compareOp .Lt) (rD X.K zsJ):=by
 intro pins s σ H x y v u Q I rx ry h
 obtain ⟨dx,dy,d,tx,ty,e,k⟩ := h
 obtain ⟨p,ep,e⟩ := zaq (show (R.of (zoy dx)).bind _ = .ok d from e)
 obtain ⟨q,eq,e⟩ := zaq e
 cases e
 have hp := zu3 ep
 have hq := zu3 eq
 refine zrj (by omega) I (zmt hp (zrP hp tx)) (zmt hq (zrP hq ty)) rx ry ⟨.bl (ltW p q),H,I,?_,k _ H (zaY.refl _) (ziU _)⟩
 show Value.bool (ltK p q) = .bool (ltW p q)
 unfold ltK ltW
 rw [zgb]
theorem ztl [Cs] {X : Cx} {j : Nat} (hr : zdT j X.A) : CallD X (.type "str") zpY:=by
 intro pins s σ H xs us Q I r h
 obtain ⟨x,dx,d,rfl,tx,e,q⟩ := h
 obtain ⟨u,rfl,ru⟩ := vals1 r
 have hu := hr.un
 have key : ∀ {D' : PyData} {a : Addr},Tp X.K H D' (.ref a) -> (PyData.canLay0 D' && (PyData.showable D' && (leB (PyData.depth D') 60 && leB (PyData.shown D').length lim))) = true -> u = .ref a -> (∀ v H',zaY H H' -> Fz X.K H' (.str D'.shown) v -> Q v H') ->
   wpAny (model X.prog X.w) X.A (call (.type "str") [u]) (EP X pins σ Q) X.xe s := fun {D' a} ht c eu q => by
  simp only [Bool.and_eq_true,leB_iff] at c
  obtain ⟨c1,c2,c3,c4⟩ := c
  subst eu
  obtain ⟨as,rd⟩ := Is.reads I _ _ (.ref a) (Tp.is c1 ht) rfl
  refine str_of_reads rd c2 (PyData.noDict_hsm (PyData.hasDict_of_canLay _ c1)) hr.gd (by omega) (fun _ _ e => e) (fun h' t tk kp => ?_) (by have := zcr; omega)
  exact ⟨.str D'.shown,H,I.kept kp,⟨t,rfl⟩,q _ H (zaY.refl _) (by simp only [Fz])⟩
 cases dx with
 | list l =>
  obtain ⟨c,e⟩ := zbi (show chk _ (.ok (.str (PyData.shown (.list l)))) = .ok d from e)
  cases e
  obtain ⟨p,vs,rfl,sx,fx⟩ := tx.lst
  exact key tx c ru q
 | tuple l =>
  obtain ⟨c,e⟩ := zbi (show chk _ (.ok (.str (PyData.shown (.tuple l)))) = .ok d from e)
  cases e
  obtain ⟨p,vs,rfl,sx,fx⟩ := tx.tup
  exact key tx c ru q
 | _ => exact nomatch (show (R.bad : R D) = .ok d from e)
theorem zuk [Cs] {X : Cx} : OpR X (compareOp .NotEq) (rD X.K ztH):=by
 intro pins s σ H x y v u Q I rx ry h
 obtain ⟨dx,dy,d,tx,ty,e,k⟩ := h
 cases dx with
 | str a =>
  cases dy with
  | str b =>
   cases e
   have ex : x = .str a := by simpa [Tp,Fz] using tx
   have ey : y = .str b := by simpa [Tp,Fz] using ty
   subst ex ey
   obtain ⟨t,rfl⟩ := rx
   obtain ⟨t',rfl⟩ := ry
   refine ne_str ⟨.bl _,H,I,rfl,?_⟩
   exact k _ H (zaY.refl _) (ziU _)
  | _ => exact nomatch (show (R.bad : R D) = .ok d from e)
 | _ => exact nomatch (show (R.bad : R D) = .ok d from e)
end FL
namespace FL
open PySem
def zkF : SF := (zaW (znV (e1 (zd2 "int") (eV 0)) (zuB (e1 (zd2 "bool") (eV 0)))))
def zcM : List D -> R D := zbD false 1 1 zkF
def zbC : SF := (zgt (zdk 3) (tB (e2 neD (eV 3) (eC (.int 0)))) (zhs 2 3 (eV 3) (e2 zeF (eV 2) (eV 3))))
def zbS : SF := (zaI (zhs 2 3 (e1 zoj (eV 0)) (e1 zoj (eV 1)))
  (zaI zbC
  (zaW (eV 2))))
def zar : List D -> R D := zbD false 2 4 zbS
def zc1 : SF := (zaW (zcH (zac (e1 zdf (eV 0)) (zac (eV 0) zau))))
def za3 : List D -> R D := zbD false 1 1 zc1
def zkC : SF := (zaI (zbp (gN 2) (zal zar (zac (e2 ixD (eV 0) (eC (.int 1))) (zac (e2 ixD (eV 1) (eC (.int 1))) zau))))
  (zaI (zhs 3 4 (e2 zaS (e2 ixD (eV 0) (eC (.int 1))) (eV 2)) (e2 zaS (e2 ixD (eV 1) (eC (.int 1))) (eV 2)))
  (zaI (zbp (gN 5) (e2 zba (e2 zbM (e2 ixD (eV 0) (eC (.int 0))) (eV 4)) (e2 zbM (e2 ixD (eV 1) (eC (.int 0))) (eV 3))))
  (zaI (zbp (gN 6) (zal zar (zac (eV 5) (zac (eV 2) zau))))
  (zaW (zcH (zac (e2 zaS (eV 5) (eV 6)) (zac (e2 zbM (eV 3) (e2 zaS (e2 ixD (eV 1) (eC (.int 1))) (eV 6))) zau))))))))
def zop : List D -> R D := zbD false 2 7 zkC
def ziR : SF := (zaI (zhs 2 3 (zal zar (zac (e2 ixD (eV 0) (eC (.int 0))) (zac (e2 ixD (eV 1) (eC (.int 1))) zau))) (zal zar (zac (e2 ixD (eV 1) (eC (.int 0))) (zac (e2 ixD (eV 0) (eC (.int 1))) zau))))
  (zaW (zcH (zac (e2 zbM (e2 zaS (e2 ixD (eV 0) (eC (.int 0))) (eV 2)) (e2 zaS (e2 ixD (eV 1) (eC (.int 0))) (eV 3))) (zac (e2 zbM (e2 zaS (e2 ixD (eV 0) (eC (.int 1))) (eV 3)) (e2 zaS (e2 ixD (eV 1) (eC (.int 1))) (eV 2))) zau)))))
def zoo : List D -> R D := zbD false 2 4 ziR
def zeo : SF := (zaI (zbp (gN 2) (zal zop (zac (zhx 0 (eV 1) (eC (.tuple [(.int 0),(.int 1)]))) (zac (eV 2) zau))))
  (sIf (tB (e2 neD (eV 2) (eC (.tuple [(.int 0),(.int 1)])))) (zf6 0 (eV 1) (eV 2)) (sIf (tB (m2r inD (eV 1) 0)) (zn1 0 (eV 1)) sNx)))
def zdX : List D -> R (D × List D) := run [true,false,false] false 3 zeo
def zcd : EF := (zdA 1 [0] (iE (e1 (zeJ za3) (eV 0))) (gN 0) zde (zcH (zac (eV 0) (zac (e2 zfR (eV 1) (eV 0)) zau))))
def za7 : SF := (zaW zcd)
def zdU : List D -> R D := zbD false 1 1 za7
end FL
namespace FL
open PySem
def num (r : Rat) : D := .tuple [.int r.num,.int (r.den : Int)]
theorem zpq {h l : Nat} (p : l ≠ 0) : zeF (.int (h : Int)) (.int (l : Int)) = .ok (.int ((h % l : Nat) : Int)):=by
 show chk (decide ((l : Int) ≠ 0)) _ = _
 rw [zaO (by simpa using p)]
 rw [Int.fmod_eq_emod_of_nonneg _ (by omega)]
 rfl
theorem ziP (x0 x1 : Sl) : ∀ (n h l : Nat),l < n -> zgl (tB (e2 neD (eV 3) (eC (.int 0)))) (zhs 2 3 (eV 3) (e2 zeF (eV 2) (eV 3))) n [x0,x1,.val (.int (h : Int)),.val (.int (l : Int))] = .ok (.nx,[x0,x1,.val (.int ((Nat.gcd h l : Nat) : Int)),.val (.int 0)])
 | 0,h,l,p => by omega
 | n + 1,h,l,p => by
  unfold zgl
  by_cases c : l = 0
  ·subst c
   have e : neD (.int ((0 : Nat) : Int)) (.int 0) = .ok (.bool false) := by rw [zgF]; rfl
   simp only [tB,FL.e2,eV,List.getElem?_cons_succ,List.getElem?_cons_zero,eC,zae,e,zhs,gN,Bool.false_eq_true,if_false,Nat.gcd_zero_right]
   rfl
  ·have e : neD (.int (l : Int)) (.int 0) = .ok (.bool true):=by
    rw [zgF,decide_eq_false (by omega)]; rfl
   simp only [tB,FL.e2,eV,List.getElem?_cons_succ,List.getElem?_cons_zero,eC,zae,e,zhs,gN,zpq c,List.set_cons_succ,List.set_cons_zero,if_true]
   have ih := ziP x0 x1 n l (h % l) (by have := Nat.mod_lt h (Nat.pos_of_ne_zero c); omega)
   rw [ih,Nat.gcd_comm l,<- Nat.gcd_rec,Nat.gcd_comm]
theorem zlM (i : Int) : zoj (.int i) = .ok (.int (i.natAbs : Int)):=by
 show R.ok (PyData.int (if i < 0 then -i else i)) = _
 congr 2
 split <;> omega
theorem zjM (a b : Int) : zar [.int a,.int b] = .ok (.int (Int.gcd a b : Int)):=by
 have e1 : zhs 2 3 (FL.e1 zoj (eV 0)) (FL.e1 zoj (eV 1)) [.val (.int a),.val (.int b),.no,.no] = .ok (.nx,[.val (.int a),.val (.int b),.val (.int (a.natAbs : Int)),.val (.int (b.natAbs : Int))]):=by
  simp only [zhs,FL.e1,eV,List.getElem?_cons_zero,zae,zlM,gN,List.getElem?_cons_succ,List.set_cons_succ,List.set_cons_zero]
 have e2 : zbC [.val (.int a),.val (.int b),.val (.int (a.natAbs : Int)),.val (.int (b.natAbs : Int))] = .ok (.nx,[.val (.int a),.val (.int b),.val (.int ((Nat.gcd a.natAbs b.natAbs : Nat) : Int)),.val (.int 0)]):=by
  unfold zbC zgt
  have : zdk 3 [.val (.int a),.val (.int b),.val (.int (a.natAbs : Int)),.val (.int (b.natAbs : Int))] = b.natAbs + 1:=by
   show ((b.natAbs : Int)).natAbs + 1 = _
   simp
  rw [this]
  exact ziP _ _ _ _ _ (by omega)
 show ((zbS [.val (.int a),.val (.int b),.no,.no]).bind _).bind _ = _
 unfold zbS
 rw [zaw e1,zaw e2]
 rfl
theorem zcx {i : Int} {j : Nat} {n : Nat} (hj : j ≠ 0) (hb : j < 2 ^ n) (hn : n <= 8999) : zaS (.int i) (.int (j : Int)) = .ok (.int (i / (j : Int))):=by
 show chk (decide ((j : Int) ≠ 0) && leB (((j : Int)).natAbs.log2 + 1) 9000) _ = _
 rw [zaO]
 ·rw [Int.fdiv_eq_ediv_of_nonneg _ (by omega)]
 ·rw [Bool.and_eq_true]
  refine ⟨by simpa using hj,zeR ?_⟩
  rw [Int.natAbs_natCast]
  have := (Nat.log2_lt hj).mpr hb
  omega
theorem zj2 {r : Rat} {n : Nat} (h : QR.Bd n r) : Bd r.num n /\ Bd (r.den : Int) n := ⟨⟨h.1⟩,⟨by simpa using h.2⟩⟩
theorem zfU {i : Int} {n : Nat} {j : Nat} (h : Bd i n) : Bd (i / (j : Int)) n := ⟨Nat.lt_of_le_of_lt (Int.natAbs_ediv_le_natAbs i (j : Int)) h.h⟩
theorem zjN {a : Int} {b : Nat} {n : Nat} (hb : b ≠ 0) (h : b < 2 ^ n) : Int.gcd a (b : Int) ≠ 0 /\ Int.gcd a (b : Int) < 2 ^ n:=by
 have h1 : 0 < Int.gcd a (b : Int) := Int.gcd_pos_of_ne_zero_right a (by omega)
 have h2 : Int.gcd a (b : Int) ∣ b:=by
  have := Int.gcd_dvd_right a (b : Int)
  exact Int.natCast_dvd_natCast.mp this
 have h3 := Nat.le_of_dvd (Nat.pos_of_ne_zero hb) h2
 omega
theorem zq1 {r s : Rat} {n : Nat} (hr : QR.Bd n r) (hs : QR.Bd n s) (hn : n <= 4000) : zop [num r,num s] = .ok (num (r + s)):=by
 have gS := zjN (a:=(r.den : Int)) s.den_nz hs.2
 generalize hg : Int.gcd (r.den : Int) (s.den : Int) = g at gS
 have k1 : zar [.int (r.den : Int),.int (s.den : Int)] = .ok (.int (g : Int)) := by rw [zjM,hg]
 have k2 : zaS (.int (r.den : Int)) (.int (g : Int)) = .ok (.int ((r.den : Int) / (g : Int))) := zcx gS.1 gS.2 (by omega)
 have k3 : zaS (.int (s.den : Int)) (.int (g : Int)) = .ok (.int ((s.den : Int) / (g : Int))) := zcx gS.1 gS.2 (by omega)
 have br := zj2 hr
 have bs := zj2 hs
 have k4 : zbM (.int r.num) (.int ((s.den : Int) / (g : Int))) = .ok (.int (r.num * ((s.den : Int) / (g : Int)))) := zbd br.1 (zfU bs.2) (by omega)
 have k5 : zbM (.int s.num) (.int ((r.den : Int) / (g : Int))) = .ok (.int (s.num * ((r.den : Int) / (g : Int)))) := zbd bs.1 (zfU br.2) (by omega)
 generalize ht : r.num * ((s.den : Int) / (g : Int)) + s.num * ((r.den : Int) / (g : Int)) = top
 have gT := zjN (a:=top) gS.1 gS.2
 generalize he : Int.gcd top (g : Int) = e at gT
 have k6 : zar [.int top,.int (g : Int)] = .ok (.int (e : Int)) := by rw [zjM,he]
 have k7 : zaS (.int top) (.int (e : Int)) = .ok (.int (top / (e : Int))) := zcx gT.1 gT.2 (by omega)
 have k8 : zaS (.int (s.den : Int)) (.int (e : Int)) = .ok (.int ((s.den : Int) / (e : Int))) := zcx gT.1 gT.2 (by omega)
 have k9 : zbM (.int ((r.den : Int) / (g : Int))) (.int ((s.den : Int) / (e : Int))) = .ok (.int (((r.den : Int) / (g : Int)) * ((s.den : Int) / (e : Int)))) := zbd (zfU br.2) (zfU bs.2) (by omega)
 have x0 : ∀ (a b : Int),ixD (.tuple [.int a,.int b]) (.int 0) = .ok (.int a) := fun a b => rfl
 have x1 : ∀ (a b : Int),ixD (.tuple [.int a,.int b]) (.int 1) = .ok (.int b) := fun a b => rfl
 have l2 : leB 2 lim = true := by decide
 have ad : ∀ (a b : Int),zba (.int a) (.int b) = .ok (.int (a + b)) := fun _ _ => rfl
 have fin : num (r + s) = .tuple [.int (top / (e : Int)),.int (((r.den : Int) / (g : Int)) * ((s.den : Int) / (e : Int)))]:=by
  have h1 := Q1.zq2 (QR.low r) (QR.low s)
  rw [QR.add] at h1
  unfold Q1.zlW at h1
  simp only [hg,ht,he] at h1
  unfold num
  rw [<- (Prod.mk.inj h1).1,<- (Prod.mk.inj h1).2]
 have s1 : zbp (gN 2) (zal zar (zac (e2 ixD (eV 0) (eC (.int 1))) (zac (e2 ixD (eV 1) (eC (.int 1))) zau))) [.val (num r),.val (num s),.no,.no,.no,.no,.no] = .ok (.nx,[.val (num r),.val (num s),.val (.int (g : Int)),.no,.no,.no,.no]):=by
  unfold num
  simp only [zbp,zal,zac,FL.e2,eV,List.getElem?_cons_zero,eC,zae,x1,zau,List.getElem?_cons_succ,k1,gN,List.set_cons_succ,List.set_cons_zero]
 have s2 : zhs 3 4 (e2 zaS (e2 ixD (eV 0) (eC (.int 1))) (eV 2)) (e2 zaS (e2 ixD (eV 1) (eC (.int 1))) (eV 2)) [.val (num r),.val (num s),.val (.int (g : Int)),.no,.no,.no,.no] = .ok (.nx,[.val (num r),.val (num s),.val (.int (g : Int)),.val (.int ((r.den : Int) / (g : Int))),.val (.int ((s.den : Int) / (g : Int))),.no,.no]):=by
  unfold num
  simp only [zhs,FL.e2,eV,List.getElem?_cons_zero,eC,zae,x1,List.getElem?_cons_succ,k2,gN,k3,List.set_cons_succ,List.set_cons_zero]
 have s3 : zbp (gN 5) (e2 zba (e2 zbM (e2 ixD (eV 0) (eC (.int 0))) (eV 4)) (e2 zbM (e2 ixD (eV 1) (eC (.int 0))) (eV 3))) [.val (num r),.val (num s),.val (.int (g : Int)),.val (.int ((r.den : Int) / (g : Int))),.val (.int ((s.den : Int) / (g : Int))),.no,.no] = .ok (.nx,[.val (num r),.val (num s),.val (.int (g : Int)),.val (.int ((r.den : Int) / (g : Int))),.val (.int ((s.den : Int) / (g : Int))),.val (.int top),.no]):=by
  unfold num
  simp only [zbp,FL.e2,eV,List.getElem?_cons_zero,eC,zae,x0,List.getElem?_cons_succ,k4,k5,ad,ht,gN,List.set_cons_succ,List.set_cons_zero]
 have s4 : zbp (gN 6) (zal zar (zac (eV 5) (zac (eV 2) zau))) [.val (num r),.val (num s),.val (.int (g : Int)),.val (.int ((r.den : Int) / (g : Int))),.val (.int ((s.den : Int) / (g : Int))),.val (.int top),.no] = .ok (.nx,[.val (num r),.val (num s),.val (.int (g : Int)),.val (.int ((r.den : Int) / (g : Int))),.val (.int ((s.den : Int) / (g : Int))),.val (.int top),.val (.int (e : Int))]):=by
  simp only [zbp,zal,zac,eV,List.getElem?_cons_succ,List.getElem?_cons_zero,zau,zae,k6,gN,List.set_cons_succ,List.set_cons_zero]
 have s5 : zaW (zcH (zac (e2 zaS (eV 5) (eV 6)) (zac (e2 zbM (eV 3) (e2 zaS (e2 ixD (eV 1) (eC (.int 1))) (eV 6))) zau))) [.val (num r),.val (num s),.val (.int (g : Int)),.val (.int ((r.den : Int) / (g : Int))),.val (.int ((s.den : Int) / (g : Int))),.val (.int top),.val (.int (e : Int))] = .ok (.rt (num (r + s)),[.val (num r),.val (num s),.val (.int (g : Int)),.val (.int ((r.den : Int) / (g : Int))),.val (.int ((s.den : Int) / (g : Int))),.val (.int top),.val (.int (e : Int))]):=by
  rw [fin]
  unfold num
  simp only [zaW,zcH,zac,FL.e2,eV,List.getElem?_cons_succ,List.getElem?_cons_zero,zae,k7,eC,zau,x1,k8,k9,List.length_cons,List.length_nil,Nat.reduceAdd,zaO l2]
 show ((zkC [.val (num r),.val (num s),.no,.no,.no,.no,.no]).bind _).bind _ = _
 unfold zkC
 rw [zaw s1,zaw s2,zaw s3,zaw s4,s5]
 rfl
theorem zoG {r s : Rat} {n : Nat} (hr : QR.Bd n r) (hs : QR.Bd n s) (hn : n <= 4000) : zoo [num r,num s] = .ok (num (r * s)):=by
 have gS := zjN (a:=r.num) s.den_nz hs.2
 generalize hg : Int.gcd r.num (s.den : Int) = g at gS
 have gT := zjN (a:=s.num) r.den_nz hr.2
 generalize he : Int.gcd s.num (r.den : Int) = e at gT
 have k1 : zar [.int r.num,.int (s.den : Int)] = .ok (.int (g : Int)) := by rw [zjM,hg]
 have k2 : zar [.int s.num,.int (r.den : Int)] = .ok (.int (e : Int)) := by rw [zjM,he]
 have k3 : zaS (.int r.num) (.int (g : Int)) = .ok (.int (r.num / (g : Int))) := zcx gS.1 gS.2 (by omega)
 have k4 : zaS (.int s.num) (.int (e : Int)) = .ok (.int (s.num / (e : Int))) := zcx gT.1 gT.2 (by omega)
 have k5 : zaS (.int (r.den : Int)) (.int (e : Int)) = .ok (.int ((r.den : Int) / (e : Int))) := zcx gT.1 gT.2 (by omega)
 have k6 : zaS (.int (s.den : Int)) (.int (g : Int)) = .ok (.int ((s.den : Int) / (g : Int))) := zcx gS.1 gS.2 (by omega)
 have br := zj2 hr
 have bs := zj2 hs
 have k7 : zbM (.int (r.num / (g : Int))) (.int (s.num / (e : Int))) = .ok (.int (r.num / (g : Int) * (s.num / (e : Int)))) := zbd (zfU br.1) (zfU bs.1) (by omega)
 have k8 : zbM (.int ((r.den : Int) / (e : Int))) (.int ((s.den : Int) / (g : Int))) = .ok (.int ((r.den : Int) / (e : Int) * ((s.den : Int) / (g : Int)))) := zbd (zfU br.2) (zfU bs.2) (by omega)
 have x0 : ∀ (a b : Int),ixD (.tuple [.int a,.int b]) (.int 0) = .ok (.int a) := fun a b => rfl
 have x1 : ∀ (a b : Int),ixD (.tuple [.int a,.int b]) (.int 1) = .ok (.int b) := fun a b => rfl
 have l2 : leB 2 lim = true := by decide
 have fin : num (r * s) = .tuple [.int (r.num / (g : Int) * (s.num / (e : Int))),.int ((r.den : Int) / (e : Int) * ((s.den : Int) / (g : Int)))]:=by
  have h1 := Q1.zil (QR.low r) (QR.low s)
  rw [QR.mul] at h1
  unfold Q1.zk1 at h1
  simp only [hg,he] at h1
  unfold num
  rw [<- (Prod.mk.inj h1).1,<- (Prod.mk.inj h1).2]
 have s1 : zhs 2 3 (zal zar (zac (e2 ixD (eV 0) (eC (.int 0))) (zac (e2 ixD (eV 1) (eC (.int 1))) zau))) (zal zar (zac (e2 ixD (eV 1) (eC (.int 0))) (zac (e2 ixD (eV 0) (eC (.int 1))) zau))) [.val (num r),.val (num s),.no,.no] = .ok (.nx,[.val (num r),.val (num s),.val (.int (g : Int)),.val (.int (e : Int))]):=by
  unfold num
  simp only [zhs,zal,zac,FL.e2,eV,List.getElem?_cons_zero,eC,zae,x0,zau,List.getElem?_cons_succ,x1,k1,gN,k2,List.set_cons_succ,List.set_cons_zero]
 have s5 : zaW (zcH (zac (e2 zbM (e2 zaS (e2 ixD (eV 0) (eC (.int 0))) (eV 2)) (e2 zaS (e2 ixD (eV 1) (eC (.int 0))) (eV 3))) (zac (e2 zbM (e2 zaS (e2 ixD (eV 0) (eC (.int 1))) (eV 3)) (e2 zaS (e2 ixD (eV 1) (eC (.int 1))) (eV 2))) zau))) [.val (num r),.val (num s),.val (.int (g : Int)),.val (.int (e : Int))] = .ok (.rt (num (r * s)),[.val (num r),.val (num s),.val (.int (g : Int)),.val (.int (e : Int))]):=by
  rw [fin]
  unfold num
  simp only [zaW,zcH,zac,FL.e2,eV,List.getElem?_cons_zero,eC,zae,x0,List.getElem?_cons_succ,k3,k4,k7,zau,x1,k5,k6,k8,List.length_cons,List.length_nil,Nat.reduceAdd,zaO l2]
 show ((ziR [.val (num r),.val (num s),.no,.no]).bind _).bind _ = _
 unfold ziR
 rw [zaw s1,s5]
 rfl
end FL
namespace FL
open PySem
abbrev Sm := List (List Int × Rat)
def ent (p : List Int × Rat) : D × D := (tp p.1,num p.2)
def dct (s : Sm) : D := .dict (s.map ent)
def kq (w : List Int) : KQ := .inl (w.map .inl)
theorem zjC : ∀ w : List Int,zou (w.map PyData.int) = some (w.map .inl)
 | [] => rfl
 | x :: r => by simp only [List.map_cons,zou,kOf,zjC r,Option.bind_some,Option.map_some]
theorem zeS (w : List Int) : keyOf (tp w) = some (kq w):=by
 show (zou (w.map PyData.int)).map Sum.inl = _
 rw [zjC]; rfl
theorem zqb {v w : List Int} (h : kq v = kq w) : v = w:=by
 have := Sum.inl.inj h
 have := congrArg (List.map (Sum.elim id fun _ => (0 : Int))) this
 simpa [List.map_map,Function.comp_def] using this
theorem zns (v w : List Int) : decide (keyOf (tp v) = some (kq w)) = decide (v = w):=by
 rw [zeS]
 by_cases c : v = w
 ·subst c; simp
 ·rw [decide_eq_false c,decide_eq_false fun z => c (zqb (Option.some.inj z))]
def zcg (s : Sm) (w : List Int) : Option Rat := (s.find? fun p => decide (p.1 = w)).map (·.2)
def zd7 (s : Sm) (w : List Int) (q : Rat) : Sm := if (s.any fun p => decide (p.1 = w)) = true then s.map fun p => if p.1 = w then (p.1,q) else p else s ++ [(w,q)]
def zgv (s : Sm) (w : List Int) : Sm := s.filter fun p => decide (p.1 ≠ w)
def zhu (s : Sm) (w : List Int) (q : Rat) : Sm := if (zcg s w).getD 0 + q ≠ 0 then zd7 s w ((zcg s w).getD 0 + q) else if (zcg s w).isSome = true then zgv s w else s
theorem ziC (w : List Int) : ∀ s : Sm,look (s.map ent) (kq w) = (zcg s w).map num
 | [] => rfl
 | p :: r => by
  have ih := ziC w r
  unfold look zcg at ih ⊢
  simp only [List.map_cons,List.find?_cons]
  have e : decide (keyOf (ent p).1 = some (kq w)) = decide (p.1 = w) := zns p.1 w
  rw [e]
  cases decide (p.1 = w) with
  | true => rfl
  | false => exact ih
theorem zhU : ∀ s : Sm,keysOk true (s.map ent) = true
 | [] => rfl
 | p :: r => by
  have ih := zhU r
  unfold keysOk at ih ⊢
  rw [List.map_cons,List.all_cons,ih,Bool.and_true]
  show (match keyOf (tp p.1) with | some q => form q == true | none => false) = true
  rw [zeS]; rfl
theorem zfr (s : Sm) (w : List Int) : dictAt (dct s) (tp w) = .ok (s.map ent,kq w):=by
 show (R.of (keyOf (tp w))).bind _ = _
 rw [zeS]
 exact zaO (zhU s)
theorem zgZ (s : Sm) (w : List Int) : zeX (dct s) (tp w) = .ok ((zcg s w).map num):=by
 unfold zeX
 rw [zfr,zae,ziC]
theorem zlw (s : Sm) (w : List Int) : znM (dct s) (tp w) (num 0) = .ok (num ((zcg s w).getD 0)):=by
 unfold znM
 rw [zgZ,zae]
 cases zcg s w <;> rfl
theorem zqh (s : Sm) (w : List Int) : inD (tp w) (dct s) = .ok (.bool (zcg s w).isSome):=by
 unfold inD
 rw [zgZ,zae]
 cases zcg s w <;> rfl
theorem zfp {s : Sm} {w : List Int} {q : Rat} (h : zcg s w = some q) : zfR (dct s) (tp w) = .ok (num q):=by
 unfold zfR
 rw [zgZ,zae,h]; rfl
theorem zoi (w : List Int) : ∀ s : Sm,((s.map ent).any fun kv => decide (keyOf kv.1 = some (kq w))) = s.any fun p => decide (p.1 = w)
 | [] => rfl
 | p :: r => by
  simp only [List.map_cons,List.any_cons,zoi w r]
  rw [show decide (keyOf (ent p).1 = some (kq w)) = decide (p.1 = w) from zns p.1 w]
theorem zqP (s : Sm) (w : List Int) (q : Rat) : zo1 (s.map ent) (tp w) (kq w) (num q) = (zd7 s w q).map ent:=by
 unfold zo1 zd7
 rw [zoi]
 split
 ·rw [List.map_map,List.map_map]
  refine List.map_congr_left fun p _ => ?_
  show (if keyOf (tp p.1) = some (kq w) then ((ent p).1,num q) else ent p) = ent (if p.1 = w then (p.1,q) else p)
  by_cases c : p.1 = w
  ·rw [if_pos c,if_pos (by rw [zeS,c])]; rfl
  ·rw [if_neg c,if_neg (fun z => c (by rw [zeS] at z; exact zqb (Option.some.inj z)))]
 ·rw [List.map_append]; rfl
theorem zeW {s : Sm} {w : List Int} {q : Rat} (h : s.length + 1 <= lim) : zkI (dct s) (tp w) (num q) = .ok (dct (zd7 s w q)):=by
 unfold zkI
 rw [zfr,zae]
 show chk (leB ((s.map ent).length + 1) lim) _ = _
 rw [zaO (by rw [List.length_map]; exact zeR h),zqP]; rfl
theorem zlE (w : List Int) : ∀ s : Sm,zc3 (s.map ent) (kq w) = (zgv s w).map ent
 | [] => rfl
 | p :: r => by
  have ih := zlE w r
  unfold zc3 zgv at ih ⊢
  rw [List.map_cons,List.filter_cons,List.filter_cons,ih]
  have e : decide (keyOf (ent p).1 ≠ some (kq w)) = decide (p.1 ≠ w):=by
   have := zns p.1 w
   rw [show (ent p).1 = tp p.1 from rfl,decide_not,decide_not,this]
  rw [e]
  split <;> rfl
theorem zlG {s : Sm} {w : List Int} (h : (zcg s w).isSome = true) : zmn (dct s) (tp w) = .ok (dct (zgv s w)):=by
 unfold zmn
 rw [zfr,zae]
 show chk (look (s.map ent) (kq w)).isSome _ = _
 rw [ziC,zaO (by rw [Option.isSome_map]; exact h),zlE]; rfl
theorem zp4 (r s : Rat) : neD (num r) (num s) = .ok (.bool (!decide (r = s))):=by
 have e : decide (([r.num,(r.den : Int)] : List Int) = [s.num,(s.den : Int)]) = decide (r = s):=by
  by_cases c : r = s
  ·subst c; simp
  ·rw [decide_eq_false c,decide_eq_false]
   intro z
   simp only [List.cons.injEq,and_true,Int.natCast_inj] at z
   exact c (Rat.ext z.1 z.2)
 rw [<- e]
 exact zsH [r.num,(r.den : Int)] [s.num,(s.den : Int)]
theorem zsE : (PyData.tuple [.int 0,.int 1] : D) = num 0 := rfl
theorem zkQ {s : Sm} {w : List Int} {q : Rat} (hl : s.length + 1 <= lim) (h1 : QR.Bd 4000 ((zcg s w).getD 0)) (h2 : QR.Bd 4000 q) : zdX [dct s,tp w,num q] = .ok (.none,[dct (zhu s w q),tp w,num q]):=by
 have kd : zgK (dct s) = .ok ((s.map ent).map (·.1)) := rfl
 have p1 := zq1 h1 h2 (Nat.le_refl _)
 generalize hm : (zcg s w).getD 0 + q = m at p1
 have s1 : zbp (gN 2) (zal zop (zac (zhx 0 (eV 1) (eC (.tuple [(.int 0),(.int 1)]))) (zac (eV 2) zau))) [.ow true (dct s),.val (tp w),.val (num q)] = .ok (.nx,[.ow true (dct s),.val (tp w),.val (num m)]):=by
  rw [zsE]
  simp only [zbp,zal,zac,zau,zhx,zaH,eV,eC,gN,zae,List.getElem?_cons_zero,List.getElem?_cons_succ,List.set_cons_zero,List.set_cons_succ,kd,zlw,p1]
 have nd : neD (num m) (num 0) = .ok (.bool (!decide (m = 0))) := zp4 m 0
 have fin : ∀ {s' : Sm},(sIf (tB (e2 neD (eV 2) (eC (.tuple [(.int 0),(.int 1)])))) (zf6 0 (eV 1) (eV 2)) (sIf (tB (m2r inD (eV 1) 0)) (zn1 0 (eV 1)) sNx)) [.ow true (dct s),.val (tp w),.val (num m)] = .ok (.nx,[.ow true (dct s'),.val (tp w),.val (num m)]) -> zdX [dct s,tp w,num q] = .ok (.none,[dct s',tp w,num q]) := fun {s'} e => by
  show (zeo [.ow true (dct s),.val (tp w),.val (num q)]).bind _ = _
  unfold zeo
  rw [zaw s1,e]
  rfl
 unfold zhu
 rw [hm]
 by_cases c : m = 0
 ·rw [if_neg (by simpa using c)]
  have nd' : neD (num m) (num 0) = .ok (.bool false) := by rw [nd,decide_eq_true c]; rfl
  by_cases c2 : (zcg s w).isSome = true
  ·rw [if_pos c2]
   refine fin ?_
   rw [zsE]
   simp only [sIf,tB,FL.e2,m2r,zn1,zaH,zbs,eV,eC,zae,List.getElem?_cons_zero,List.getElem?_cons_succ,List.set_cons_zero,List.set_cons_succ,nd',zqh,c2,zlG c2,Bool.false_eq_true,if_false,if_true]
  ·rw [if_neg c2]
   have c3 : (zcg s w).isSome = false := by simpa using c2
   refine fin ?_
   rw [zsE]
   simp only [sIf,tB,FL.e2,m2r,sNx,zaH,zbs,eV,eC,zae,List.getElem?_cons_zero,List.getElem?_cons_succ,List.set_cons_zero,List.set_cons_succ,nd',zqh,c3,Bool.false_eq_true,if_false,if_true]
 ·rw [if_pos c]
  have nd' : neD (num m) (num 0) = .ok (.bool true) := by rw [nd,decide_eq_false c]; rfl
  refine fin ?_
  rw [zsE]
  simp only [sIf,tB,FL.e2,zf6,zaH,zbs,eV,eC,zae,List.getElem?_cons_zero,List.getElem?_cons_succ,List.set_cons_zero,List.set_cons_succ,nd',zeW hl,Bool.false_eq_true,if_false,if_true]
def Nk (s : Sm) : Prop := (s.map (·.1)).Nodup
theorem zoK {s : Sm} {w : List Int} {q : Rat} (h : zcg s w = some q) : (w,q) ∈ s:=by
 unfold zcg at h
 rw [Option.map_eq_some_iff] at h
 obtain ⟨p,e,rfl⟩ := h
 have h1 := List.mem_of_find?_eq_some e
 have h2 := List.find?_some e
 have : p.1 = w := by simpa using h2
 subst this; exact h1
theorem zfb : ∀ {s : Sm} {p : List Int × Rat},Nk s -> p ∈ s -> zcg s p.1 = some p.2
 | [],p,_,h => by simp at h
 | a :: r,p,nk,h => by
  unfold Nk at nk
  rw [List.map_cons,List.nodup_cons] at nk
  unfold zcg
  rw [List.find?_cons]
  rcases List.mem_cons.mp h with rfl | h
  ·simp
  ·have : a.1 ≠ p.1 := fun z => nk.1 (by rw [z]; exact List.mem_map.mpr ⟨p,h,rfl⟩)
   rw [decide_eq_false this]
   exact zfb (s:=r) nk.2 h
theorem zjh {s : Sm} {w : List Int} (h : zcg s w = none) : ∀ p ∈ s,p.1 ≠ w := fun p hp z => by
 unfold zcg at h
 rw [Option.map_eq_none_iff,List.find?_eq_none] at h
 exact h p hp (by simpa using z)
theorem zrG (s : Sm) (w : List Int) : (s.any fun p => decide (p.1 = w)) = (zcg s w).isSome:=by
 unfold zcg
 rw [Option.isSome_map,List.isSome_find?]
theorem zjg {s : Sm} {w : List Int} {q : Rat} (nk : Nk s) : Nk (zd7 s w q):=by
 unfold zd7
 rw [zrG]
 split
 ·unfold Nk
  rw [List.map_map]
  have : (fun p : List Int × Rat => p.1) ∘ (fun p => if p.1 = w then (p.1,q) else p) = fun p => p.1:=by
   funext p
   show (if p.1 = w then (p.1,q) else p).1 = p.1
   split <;> rfl
  rw [this]; exact nk
 ·rename_i c
  have c' : zcg s w = none := by simpa using c
  unfold Nk
  rw [List.map_append,List.nodup_append]
  refine ⟨nk,by simp,fun a ha b hb => ?_⟩
  have : b = w := by simpa using hb
  subst this
  obtain ⟨p,hp,rfl⟩ := List.mem_map.mp ha
  exact zjh c' p hp
theorem zlV {s : Sm} {w : List Int} (nk : Nk s) : Nk (zgv s w) := List.Nodup.sublist (List.Sublist.map _ List.filter_sublist) nk
theorem zmP {s : Sm} {w : List Int} {q : Rat} (nk : Nk s) : Nk (zhu s w q):=by
 unfold zhu
 split
 ·exact zjg nk
 ·split
  ·exact zlV nk
  ·exact nk
theorem zio {s : Sm} {w : List Int} {q : Rat} {p : List Int × Rat} (h : p ∈ zd7 s w q) : p ∈ s \/ p = (w,q):=by
 unfold zd7 at h
 split at h
 ·obtain ⟨x,hx,rfl⟩ := List.mem_map.mp h
  by_cases c : x.1 = w
  ·rw [if_pos c]; right; rw [c]
  ·rw [if_neg c]; exact .inl hx
 ·rcases List.mem_append.mp h with h | h
  ·exact .inl h
  ·exact .inr (by simpa using h)
theorem zk6 (s : Sm) (w : List Int) (q : Rat) : (zd7 s w q).length <= s.length + 1:=by
 unfold zd7
 split
 ·rw [List.length_map]; omega
 ·rw [List.length_append]; simp
theorem zk9 (s : Sm) (w : List Int) (q : Rat) : (zhu s w q).length <= s.length + 1:=by
 unfold zhu
 split
 ·exact zk6 _ _ _
 ·split
  ·exact Nat.le_succ_of_le (List.length_filter_le ..)
  ·omega
theorem zk8 {s : Sm} {w : List Int} {q : Rat} {p : List Int × Rat} (h : p ∈ zhu s w q) : p ∈ s \/ p = (w,(zcg s w).getD 0 + q):=by
 unfold zhu at h
 split at h
 ·exact zio h
 ·split at h
  ·exact .inl (List.mem_filter.mp h).1
  ·exact .inl h
structure zox (P : Nat -> Rat -> Prop) (Q : Rat -> Prop) (N : Nat) : Prop where
 z : ∀ i,P i 0
 up : ∀ i r,P i r -> P (i + 1) r
 add : ∀ i r q,P i r -> Q q -> P (i + 1) (r + q)
 bp : ∀ i r,i <= N -> P i r -> QR.Bd 4000 r
 bq : ∀ q,Q q -> QR.Bd 4000 q
structure Fit (P : Nat -> Rat -> Prop) (i : Nat) (s : Sm) : Prop where
 nk : Nk s
 sz : ∀ p ∈ s,P i p.2
theorem Fit.get {P : Nat -> Rat -> Prop} {Q : Rat -> Prop} {N i : Nat} (g : zox P Q N) {s : Sm} (f : Fit P i s) (w : List Int) : P i ((zcg s w).getD 0):=by
 cases e : zcg s w with
 | none => exact g.z i
 | some q => exact f.sz _ (zoK e)
theorem Fit.add {P : Nat -> Rat -> Prop} {Q : Rat -> Prop} {N i : Nat} (g : zox P Q N) {s : Sm} (f : Fit P i s) (w : List Int) {q : Rat} (hq : Q q) : Fit P (i + 1) (zhu s w q):=by
 refine ⟨zmP f.nk,fun p hp => ?_⟩
 rcases zk8 hp with h | h
 ·exact g.up _ _ (f.sz p h)
 ·subst h; exact g.add _ _ _ (f.get g w) hq
theorem zj8 {P : Nat -> Rat -> Prop} {Q : Rat -> Prop} {N i : Nat} (g : zox P Q N) {s : Sm} (f : Fit P i s) (hi : i <= N) (hl : s.length + 1 <= lim) (w : List Int) {q : Rat} (hq : Q q) :
  zdX [dct s,tp w,num q] = .ok (.none,[dct (zhu s w q),tp w,num q]) := zkQ hl (g.bp _ _ hi (f.get g w)) (g.bq _ hq)
end FL
namespace FL
open PySem
theorem zkL {F : List D -> R (D × List D)} {i : Nat} {f h : EF} {ρ : En} {p : Bool} {d v u r d' v' u' : D} (hi : ρ[i]? = some (.ow p d)) (hf : f ρ = .ok (v,ρ)) (hh : h ρ = .ok (u,ρ)) (hF : F [d,v,u] = .ok (r,[d',v',u'])) : zav F [.m i,.v f,.v h] ρ = .ok (r,ρ.set i (.ow p d')):=by
 have hm : zaH ρ i = .ok d := by unfold zaH; rw [hi]
 unfold zav
 simp only [zj7,hm,zae,hf,hh,zia,hF]
 have := zi3 (d:=d) (d' := d') (p:=p) ρ 0 i hi
 rw [Nat.zero_add] at this
 show R.ok (r,bkL [(i,.ow true d')] 0 ρ) = _
 rw [this]
def inW (p1 : List Int × Rat) (t acc : Sm) : Sm := t.foldl (fun a p => zhu a (p1.1 ++ p.1) (p1.2 * p.2)) acc
theorem zgc (p1 : List Int × Rat) (t acc : Sm) (x : List Int × Rat) : inW p1 (t ++ [x]) acc = zhu (inW p1 t acc) (p1.1 ++ x.1) (p1.2 * x.2) := by simp [inW]
theorem zdP (t : Sm) : zgK (dct t) = .ok (t.map fun p => tp p.1):=by
 show R.ok ((t.map ent).map (·.1)) = _
 rw [List.map_map]; rfl
theorem zqu {v w : List Int} (h : v.length + w.length <= lim) : zba (tp v) (tp w) = .ok (tp (v ++ w)):=by
 show chk (leB ((v.map PyData.int).length + (w.map PyData.int).length) lim) _ = _
 rw [zaO (zeR (by simpa using h))]
 show R.ok (PyData.tuple (v.map PyData.int ++ w.map PyData.int)) = R.ok (PyData.tuple ((v ++ w).map PyData.int))
 rw [List.map_append]
def Ws (n : Nat) (s : Sm) : Prop := ∀ p ∈ s,p.1.length <= n
def Iv (M : Nat) (r : Rat) : Prop := r.den = 1 /\ r.num.natAbs <= M
structure Whl (l M n : Nat) (s : Sm) : Prop where
 nk : Nk s
 ln : s.length <= l
 sz : ∀ p ∈ s,Iv M p.2
 ws : Ws n s
end FL
namespace FL
open PySem
theorem zei {k n : Nat} {b : SF} {ds : List D} {ρ : En} {d : D} (hl : ds.length = k) (h : b (slots (List.replicate k false) ds ++ List.replicate (n - ds.length) .no) = .ok (.rt d,ρ)) : zbD false k n b ds = .ok d:=by
 unfold zbD FL.run
 rw [if_pos (by rw [List.length_replicate]; exact hl),h]
 rfl
theorem zgw {k n : Nat} {b : SF} {ds : List D} {ρ : En} {d : D} (hl : ds.length = k) (h : b (slots (List.replicate k false) ds ++ List.replicate (n - ds.length) .no) = .ok (.rf d,ρ)) : zbD true k n b ds = .ok d:=by
 unfold zbD FL.run
 rw [if_pos (by rw [List.length_replicate]; exact hl),h]
 rfl
inductive Tr where
 | leaf (i : Int)
 | node (a b : Tr)
deriving DecidableEq
def kyS (p : List Int × Rat) : WK := ((p.1.length : Int),p.1)
def zov (x : List Int × Rat) : Sm -> Sm
 | [] => [x]
 | y :: r => if ltW (kyS y) (kyS x) = true then y :: zov x r else x :: y :: r
def zb9 : Sm -> Sm
 | [] => []
 | x :: r => zov x (zb9 r)
def kyD (p : List Int × Rat) : WK × D := (kyS p,tp p.1)
theorem zlu (x : List Int × Rat) : ∀ l : Sm,znE (kyD x) (l.map kyD) = (zov x l).map kyD
 | [] => rfl
 | y :: r => by
  rw [List.map_cons]
  unfold znE zov
  show (if ltW (kyS y) (kyS x) = true then _ else _) = _
  split
  ·rw [zlu x r]; rfl
  ·rfl
theorem zjf : ∀ l : Sm,zfN (l.map kyD) = (zb9 l).map kyD
 | [] => rfl
 | x :: r => by
  show znE (kyD x) (zfN (r.map kyD)) = _
  rw [zjf r,zlu]
  rfl
theorem zgS (x : List Int × Rat) : ∀ l : Sm,(zov x l).Perm (x :: l)
 | [] => .refl _
 | y :: r => by
  unfold zov
  split
  ·exact ((zgS x r).cons y).trans (.swap x y r)
  ·exact .refl _
theorem zaP : ∀ l : Sm,(zb9 l).Perm l
 | [] => .refl _
 | x :: r => (zgS x _).trans ((zaP r).cons x)
theorem zlk (w : List Int) : za3 [tp w] = .ok (.tuple [.int (w.length : Int),tp w]):=by
 have l2 : leB 2 lim = true := by decide
 have e : zdf (tp w) = .ok (.int (w.length : Int)):=by
  show R.ok (PyData.int ((w.map PyData.int).length : Int)) = _
  rw [List.length_map]
 have e3 : zc1 [.val (tp w)] = .ok (.rt (.tuple [.int (w.length : Int),tp w]),[.val (tp w)]):=by
  unfold zc1
  simp only [zaW,zcH,zac,zau,FL.e1,eV,zae,List.getElem?_cons_zero,e,List.length_cons,List.length_nil,zaO l2]
 exact zei (k:=1) (n:=1) (ds:=[tp w]) rfl e3
theorem zjD : ∀ s : Sm,zgL za3 (s.map fun p => tp p.1) = .ok (s.map kyS)
 | [] => rfl
 | p :: r => by
  rw [List.map_cons]
  unfold zgL
  rw [zlk,zae]
  have : zoy (.tuple [.int (p.1.length : Int),tp p.1]) = some (kyS p):=by
   show (intsOf (p.1.map PyData.int)).map _ = _
   rw [zhW]; rfl
  rw [this]
  show (zgL za3 (r.map fun p => tp p.1)).bind _ = _
  rw [zjD r]; rfl
theorem zqF {s : Sm} (nk : Nk s) (hl : s.length < 64) : zeJ za3 (dct s) = .ok (.list ((zb9 s).map fun p => tp p.1)):=by
 unfold zeJ
 rw [zdP,zae,zaO (zeR (by rw [List.length_map]; exact hl)),zjD,zae]
 have nd : (s.map kyS).Nodup:=by
  have h : ∀ l : Sm,Nk l -> (l.map kyS).Nodup:=by
   intro l
   induction l with
   | nil => intro _; exact List.nodup_nil
   | cons p r ih =>
    intro h
    unfold Nk at h
    rw [List.map_cons,List.nodup_cons] at h
    rw [List.map_cons,List.nodup_cons]
    refine ⟨fun z => h.1 ?_,ih h.2⟩
    obtain ⟨q,hq,e⟩ := List.mem_map.mp z
    exact List.mem_map.mpr ⟨q,hq,(Prod.mk.inj e).2⟩
  exact h s nk
 rw [zaO (decide_eq_true nd)]
 have hz : (s.map kyS).zip (s.map fun p => tp p.1) = s.map kyD:=by
  rw [List.zip_map']; rfl
 rw [hz,zjf,List.map_map]
 rfl
def tln (p : List Int × Rat) : D := .tuple [tp p.1,num p.2]
def zuZ : R D -> D
 | .ok d => d
 | _ => .none
theorem zqA {s : Sm} (nk : Nk s) (hl : s.length < 64) : zdU [dct s] = .ok (.list ((zb9 s).map tln)):=by
 have so := zqF nk hl
 have hlen : (zb9 s).length = s.length := (zaP s).length_eq
 have q : zcd [.val (dct s)] = .ok (.list ((zb9 s).map tln),[.val (dct s)]):=by
  unfold zcd
  rw [zgX (items:=(zb9 s).map fun p => tp p.1) (fun x => .tuple [x,zuZ (zfR (dct s) x)])]
  ·rw [List.map_map]
   congr 2
   congr 1
   refine List.map_congr_left fun p hp => ?_
   have mp : p ∈ s := (zaP s).mem_iff.mp hp
   show PyData.tuple [tp p.1,zuZ (zfR (dct s) (tp p.1))] = _
   rw [zfp (zfb nk mp)]; rfl
  ·simp only [iE,FL.e1,eV,zae,List.getElem?_cons_zero,so,zls]
  ·rw [List.length_map,hlen]; unfold lim; omega
  ·intro x hx
   obtain ⟨p,hp,rfl⟩ := List.mem_map.mp hx
   have mp : p ∈ s := (zaP s).mem_iff.mp hp
   have d1 := zfp (zfb nk mp)
   have l2 : leB 2 lim = true := by decide
   refine ⟨[.val (tp p.1),.val (dct s)],rfl,?_,?_⟩
   ·simp only [zcH,zac,zau,FL.e2,eV,zae,List.getElem?_cons_zero,List.getElem?_cons_succ,d1,List.length_cons,List.length_nil,zaO l2]
    rfl
   ·exact zgi (fun i p d e => by
     revert e
     simp only [List.drop_succ_cons,List.drop_zero,List.zip_cons_cons,List.zip_nil_left,List.lookup_cons,List.lookup_nil]
     split <;> (intro e; cases e)) _ 0
 show ((za7 [.val (dct s)]).bind _).bind _ = _
 unfold za7 zaW
 rw [q]
 rfl
end FL
namespace FL
open PySem
def zb7 : EF := (zfP 1 [0,1] (iD (eV 0)) (gN 0) (tB (e2 eqD (e1 zdf (eV 0)) (eV 2))) (eV 0) (e2 zfR (eV 1) (eV 0)))
def zbJ : SF := (zca zb7)
def zcK : List D -> R D := zbD true 2 2 zbJ
def zdx : SF := (zgt (zdk 3) (tB (e2 neD (eV 3) (eC (.int 0)))) (zhs 2 3 (eV 3) (e2 zeF (eV 2) (eV 3))))
def zfn : SF := (zaI (zbp (gN 2) (e1 zoj (eV 0)))
  (zaI (zbp (gN 3) (eV 1))
  (zaI zdx
  (zaW (zcH (zac (e2 zaS (eV 0) (eV 2)) (zac (e2 zaS (eV 1) (eV 2)) zau)))))))
def zcl : List D -> R D := zbD false 2 4 zfn
def zkE : SF := (zaW (zcH (zac (e1 zdf (eV 0)) (zac (eV 0) zau))))
def zmq : List D -> R D := zbD false 1 1 zkE
def zdz : SF := (zaI (sIf (FL.tOr (FL.zeE (tE (e1 (zd2 "tuple") (eV 0)))) (tB (e2 neD (e1 zdf (eV 0)) (eC (.int 2))))) (zaW (eC (.bool false))) sNx)
  (zaI (zbp (gT [(gN 1),(gN 2)]) (eV 0))
  (zaI (sIf (FL.tOr (FL.zeE (tE (zal zcM (zac (eV 1) zau)))) (FL.tOr (FL.zeE (tE (zal zcM (zac (eV 2) zau)))) (tB (e2 ltD (eV 2) (eC (.int 1)))))) (zaW (eC (.bool false))) sNx)
  (zaW (e2 eqD (zal zar (zac (eV 1) (zac (eV 2) zau))) (eC (.int 1)))))))
def zhm : List D -> R D := zbD false 1 3 zdz
def zdy : EF := (zdA 1 [1] (iE (eV 0)) (gN 0) zde (znV (zal zcM (zac (eV 0) zau)) (zfQ leD ltD (eC (.int 0)) (eV 0) (eV 1))))
def zh0 : SF := (zaI (sIf (FL.tOr (FL.zeE (tE (e1 (zd2 "tuple") (eV 0)))) (tB (e2 gtD (e1 zdf (eV 0)) (eC (.int 5))))) (zaW (eC (.bool false))) sNx)
  (zaW (e1 ztM zdy)))
def zhk : List D -> R D := zbD false 2 2 zh0
def zem : SF := (zaW (zal zcl (zac (e2 zba (e2 zbM (e2 ixD (eV 0) (eC (.int 0))) (e2 ixD (eV 1) (eC (.int 1)))) (e2 zbM (e2 ixD (eV 1) (eC (.int 0))) (e2 ixD (eV 0) (eC (.int 1))))) (zac (e2 zbM (e2 ixD (eV 0) (eC (.int 1))) (e2 ixD (eV 1) (eC (.int 1)))) zau))))
def zcL : List D -> R D := zbD false 2 2 zem
def zgV : SF := (zaW (zal zcl (zac (e2 zbM (e2 ixD (eV 0) (eC (.int 0))) (e2 ixD (eV 1) (eC (.int 0)))) (zac (e2 zbM (e2 ixD (eV 0) (eC (.int 1))) (e2 ixD (eV 1) (eC (.int 1)))) zau))))
def zlN : List D -> R D := zbD false 2 2 zgV
def zfo : SF := (zaI (sIf (FL.tOr (FL.zeE (tE (e1 (zd2 "tuple") (eV 0)))) (tB (e2 neD (e1 zdf (eV 0)) (eC (.int 2))))) (zaW (eC (.bool false))) sNx)
  (zaW (znV (zal zhk (zac (e2 ixD (eV 0) (eC (.int 0))) (zac (eV 1) zau))) (znV (zal zhm (zac (e2 ixD (eV 0) (eC (.int 1))) zau)) (e2 neD (e2 ixD (eV 0) (eC (.int 1))) (eC (.tuple [(.int 0),(.int 1)])))))))
def zhl : List D -> R D := zbD false 2 2 zfo
def zbk : SF := (zaI (zbp (gN 1) (zav zb8 [.m 0,.v (eC (.int 5))]))
  (zaI (sIf (tB (e2 ltD (eV 1) (eC (.int 3)))) (zaW (e2 ixD (zf5 (zac (zcH (zac (eC (.int 0)) (zac (eC (.int 1)) zau))) (zac (zcH (zac (eC (.int 1)) (zac (eC (.int 1)) zau))) (zac (zcH (zac (e1 ztG (eC (.int 1))) (zac (eC (.int 1)) zau))) zau)))) (eV 1))) sNx)
  (zaI (sIf (tB (e2 eqD (eV 1) (eC (.int 3)))) (zaW (zcH (zac (e2 zf7 (zav zb8 [.m 0,.v (eC (.int 13))]) (eC (.int 6))) (zac (eC (.int 1)) zau)))) sNx)
  (zaW (zal zcl (zac (e2 zf7 (zav zb8 [.m 0,.v (e2 zba (e2 zbM (eC (.int 2)) (e2 zhv (eC (.int 10)) (eC (.int 3)))) (eC (.int 1)))]) (e2 zhv (eC (.int 10)) (eC (.int 3)))) (zac (e2 zba (eC (.int 1)) (zav zb8 [.m 0,.v (eC (.int 9))])) zau)))))))
def zaU : List D -> R (D × List D) := run [true] false 2 zbk
def zc0 : EF := (zdA 1 [0,1] (iR1 (zac (zav zb8 [.m 0,.v (e2 zba (eV 2) (eC (.int 1)))]) zau)) (gN 0) zde (zav zb8 [.m 1,.v (eV 2)]))
def zel : SF := (zaW (e1 zmB zc0))
def zdV : List D -> R (D × List D) := run [true,false,false] false 3 zel
def zfm : SF := (zaI (zf6 0 (eV 1) (zal zcL (zac (zhx 0 (eV 1) (zcH (zac (eC (.int 0)) (zac (eC (.int 1)) zau)))) (zac (eV 2) zau))))
  (sIf (tB (e2 eqD (e2 ixD (m2 zfR 0 (eV 1)) (eC (.int 0))) (eC (.int 0)))) (zn0 0 (eV 1)) sNx))
def zka : List D -> R (D × List D) := run [true,false,false] false 3 zfm
def zc2 : SF := (zaI (sIf (FL.zeE (tE (zal zhl (zac (eV 1) (zac (eV 2) zau))))) (zaW (eC (.bool false))) sNx)
  (zaW (eOr (e2 isD (eV 0) (eC .none)) (e2 zsJ (zal za3 (zac (e2 ixD (eV 0) (eC (.int 0))) zau)) (zal za3 (zac (e2 ixD (eV 1) (eC (.int 0))) zau))))))
def zdH : List D -> R D := zbD false 3 3 zc2
def zhY : EF := (zdA 1 [0] (iE (e1 (zeJ za3) (eV 0))) (gN 0) zde (zcH (zac (eV 0) (zac (e2 zfR (eV 1) (eV 0)) zau))))
def ziQ : SF := (zca zhY)
def zon : List D -> R D := zbD true 1 1 ziQ
def zct : SF := (zaI (zbp (gN 6) (zav zdV [.m 0,.v (eV 1),.v (eV 3)]))
  (zaI (zbp (gN 7) (zav zaU [.m 0]))
  (sIf (tB (e2 neD (e2 ixD (eV 7) (eC (.int 0))) (eC (.int 0)))) (zf6 4 (eV 6) (eV 7)) sNx)))
def zdw : SF := (zir (iR1 (zac (zav zb8 [.m 0,.v (e2 zba (eV 2) (eC (.int 1)))]) zau)) (gN 5) zct)
def zfl : SF := (zaI (ziq 4 zfO)
  (zaI zdw
  (zmM 4)))
def zj9 : List D -> R (D × List D) := run [true,false,false,false] true 8 zfl
def ziN : EF := (zdA 1 [0] (iE (e1 (zeJ zmq) (eV 0))) (gN 0) zde (zcH (zac (eV 0) (zac (e2 zfR (eV 1) (eV 0)) zau))))
def zkD : SF := (zca ziN)
def zdW : List D -> R D := zbD true 1 1 zkD
def zcc : SF := (zaI (sIf (FL.zeE (tE (zal zdH (zac (eV 2) (zac (eV 4) (zac (eV 1) zau)))))) zrL sNx)
  (zbp (gN 2) (eV 4)))
def zcZ : SF := (zir (ztI (zac (eV 0) zau)) (gT [(gN 3),(gN 4)]) zcc)
def zeV : EF := (zfP 2 [] (iE (eV 0)) (gT [(gN 0),(gN 1)]) zde (eV 0) (eV 1))
def zen : SF := (zaI (zbp (gN 2) (eC .none))
  (zaI zcZ
  (zca zeV)))
def zid : List D -> R D := zbD true 2 5 zen
end FL
namespace FL
open PySem
theorem zks (t : Int) {b n : Nat} (hb : b ≠ 0) (hl : b < 2 ^ n) (hn : n <= 8999) : zcl [.int t,.int (b : Int)] = .ok (.tuple [.int (Q1.fr t (b : Int)).1,.int (Q1.fr t (b : Int)).2]):=by
 have gS := zjN (a:=t) hb hl
 have s1 : zbp (gN 2) (FL.e1 zoj (eV 0)) [.val (.int t),.val (.int (b : Int)),.no,.no] = .ok (.nx,[.val (.int t),.val (.int (b : Int)),.val (.int (t.natAbs : Int)),.no]):=by
  simp only [zbp,FL.e1,eV,List.getElem?_cons_zero,zae,zlM,gN,List.getElem?_cons_succ,List.set_cons_succ,List.set_cons_zero]
 have s2 : zbp (gN 3) (eV 1) [.val (.int t),.val (.int (b : Int)),.val (.int (t.natAbs : Int)),.no] = .ok (.nx,[.val (.int t),.val (.int (b : Int)),.val (.int (t.natAbs : Int)),.val (.int (b : Int))]) := rfl
 have s3 : zdx [.val (.int t),.val (.int (b : Int)),.val (.int (t.natAbs : Int)),.val (.int (b : Int))] = .ok (.nx,[.val (.int t),.val (.int (b : Int)),.val (.int ((Int.gcd t (b : Int) : Nat) : Int)),.val (.int 0)]):=by
  unfold zdx zgt
  have : zdk 3 [.val (.int t),.val (.int (b : Int)),.val (.int (t.natAbs : Int)),.val (.int (b : Int))] = b + 1:=by
   show ((b : Int)).natAbs + 1 = _
   simp
  rw [this]
  exact ziP _ _ _ _ _ (by omega)
 have k1 : zaS (.int t) (.int ((Int.gcd t (b : Int) : Nat) : Int)) = .ok (.int (t / ((Int.gcd t (b : Int) : Nat) : Int))) := zcx gS.1 gS.2 hn
 have k2 : zaS (.int (b : Int)) (.int ((Int.gcd t (b : Int) : Nat) : Int)) = .ok (.int ((b : Int) / ((Int.gcd t (b : Int) : Nat) : Int))) := zcx gS.1 gS.2 hn
 have l2 : leB 2 lim = true := by decide
 show ((zfn [.val (.int t),.val (.int (b : Int)),.no,.no]).bind _).bind _ = _
 unfold zfn
 rw [zaw s1,zaw s2,zaw s3]
 simp only [zaW,zcH,zac,FL.e2,eV,List.getElem?_cons_zero,zae,List.getElem?_cons_succ,k1,zau,k2,List.length_cons,List.length_nil,Nat.reduceAdd,zaO l2,List.replicate,outs,outD]
 rw [Q1.zqk (by omega)]
theorem zsL (t : Int) {b n : Nat} (hb : b ≠ 0) (hl : b < 2 ^ n) (hn : n <= 8999) : zcl [.int t,.int (b : Int)] = .ok (num (Rat.normalize t b hb)):=by
 rw [zks t hb hl hn,QR.norm hb]
 rfl
theorem lx0 (a b : Int) : ixD (.tuple [.int a,.int b]) (.int 0) = .ok (.int a) := rfl
theorem lx1 (a b : Int) : ixD (.tuple [.int a,.int b]) (.int 1) = .ok (.int b) := rfl
theorem zpr {r s : Rat} {n : Nat} (hr : QR.Bd n r) (hs : QR.Bd n s) (hn : n <= 4000) : zcL [num r,num s] = .ok (num (r + s)):=by
 have br := zj2 hr
 have bs := zj2 hs
 have k1 : zbM (.int r.num) (.int (s.den : Int)) = .ok (.int (r.num * (s.den : Int))) := zbd br.1 bs.2 (by omega)
 have k2 : zbM (.int s.num) (.int (r.den : Int)) = .ok (.int (s.num * (r.den : Int))) := zbd bs.1 br.2 (by omega)
 have k3 : zbM (.int (r.den : Int)) (.int (s.den : Int)) = .ok (.int ((r.den : Int) * (s.den : Int))) := zbd br.2 bs.2 (by omega)
 have ad : ∀ (a b : Int),zba (.int a) (.int b) = .ok (.int (a + b)) := fun _ _ => rfl
 have nz : r.den * s.den ≠ 0 := Nat.mul_ne_zero r.den_nz s.den_nz
 have k4 : zcl [.int (r.num * (s.den : Int) + s.num * (r.den : Int)),.int ((r.den : Int) * (s.den : Int))] = .ok (num (r + s)):=by
  have := zks (r.num * (s.den : Int) + s.num * (r.den : Int)) nz (QR.zgI hr.2 hs.2) (by omega)
  rw [Int.natCast_mul] at this
  rw [this,QR.add]
  rfl
 refine zei (ρ:=[.val (num r),.val (num s)]) rfl ?_
 show zem [.val (num r),.val (num s)] = .ok (_,[.val (num r),.val (num s)])
 unfold zem num
 simp only [zaW,zal,zac,FL.e2,eV,List.getElem?_cons_zero,eC,zae,lx0,List.getElem?_cons_succ,lx1,k1,k2,ad,zau,k3,k4]
 rfl
theorem zsN {r s : Rat} {n : Nat} (hr : QR.Bd n r) (hs : QR.Bd n s) (hn : n <= 4000) : zlN [num r,num s] = .ok (num (r * s)):=by
 have br := zj2 hr
 have bs := zj2 hs
 have k1 : zbM (.int r.num) (.int s.num) = .ok (.int (r.num * s.num)) := zbd br.1 bs.1 (by omega)
 have k3 : zbM (.int (r.den : Int)) (.int (s.den : Int)) = .ok (.int ((r.den : Int) * (s.den : Int))) := zbd br.2 bs.2 (by omega)
 have nz : r.den * s.den ≠ 0 := Nat.mul_ne_zero r.den_nz s.den_nz
 have k4 : zcl [.int (r.num * s.num),.int ((r.den : Int) * (s.den : Int))] = .ok (num (r * s)):=by
  have := zks (r.num * s.num) nz (QR.zgI hr.2 hs.2) (by omega)
  rw [Int.natCast_mul] at this
  rw [this,QR.mul]
  rfl
 refine zei (ρ:=[.val (num r),.val (num s)]) rfl ?_
 show zgV [.val (num r),.val (num s)] = .ok (_,[.val (num r),.val (num s)])
 unfold zgV num
 simp only [zaW,zal,zac,FL.e2,eV,List.getElem?_cons_zero,eC,zae,lx0,List.getElem?_cons_succ,k1,zau,lx1,k3,k4]
 rfl
theorem zlU {s : Sm} {w : List Int} (h : zcg s w = none) : zgv s w = s := List.filter_eq_self.mpr fun p hp => by simpa using zjh h p hp
theorem zlC (w : List Int) (q : Rat) : ∀ s : Sm,(s.any fun p => decide (p.1 = w)) = true -> (s.map fun p => if p.1 = w then (p.1,q) else p).find? (fun p => decide (p.1 = w)) = some (w,q)
 | [],h => by simp at h
 | x :: r,h => by
  rw [List.map_cons]
  by_cases e : x.1 = w
  ·rw [if_pos e,List.find?_cons_of_pos (by simpa using e),e]
  ·rw [if_neg e,List.find?_cons_of_neg (by simpa using e)]
   refine zlC w q r ?_
   simpa only [List.any_cons,e,decide_false,Bool.false_or] using h
theorem zk7 (s : Sm) (w : List Int) (q : Rat) : zcg (zd7 s w q) w = some q:=by
 unfold zd7
 cases h : s.any fun p => decide (p.1 = w) with
 | true =>
  rw [if_pos rfl]
  unfold zcg
  rw [zlC w q s h]
  rfl
 | false =>
  rw [if_neg (by simp)]
  unfold zcg
  rw [List.find?_append]
  have : s.find? (fun p => decide (p.1 = w)) = none:=by
   rw [List.find?_eq_none]
   intro x hx
   have := List.any_eq_false.mp h x hx
   simpa using this
  simp [this]
theorem ziW (w : List Int) (q : Rat) : ∀ s : Sm,(s.map fun p => if p.1 = w then (p.1,q) else p).filter (fun p => decide (p.1 ≠ w)) = s.filter fun p => decide (p.1 ≠ w)
 | [] => rfl
 | x :: r => by
  rw [List.map_cons]
  by_cases e : x.1 = w
  ·rw [if_pos e,List.filter_cons_of_neg (by simpa using e),List.filter_cons_of_neg (by simpa using e),ziW w q r]
  ·rw [if_neg e,List.filter_cons_of_pos (by simpa using e),List.filter_cons_of_pos (by simpa using e),ziW w q r]
theorem zmO (s : Sm) (w : List Int) (q : Rat) : zgv (zd7 s w q) w = zgv s w:=by
 unfold zd7
 split
 ·exact ziW w q s
 ·unfold zgv
  simp
theorem zoL (s : Sm) (w : List Int) (q : Rat) : zhu s w q = if (zcg s w).getD 0 + q = 0 then zgv (zd7 s w ((zcg s w).getD 0 + q)) w else zd7 s w ((zcg s w).getD 0 + q):=by
 unfold zhu
 by_cases e : (zcg s w).getD 0 + q = 0
 ·rw [if_neg (by simpa using e),if_pos e,zmO]
  cases h : zcg s w with
  | none => rw [zlU h]; rfl
  | some x => rfl
 ·rw [if_pos e,if_neg e]
theorem zpl (r : Rat) : eqD (.int r.num) (.int 0) = .ok (.bool (decide (r = 0))):=by
 rw [ziV]
 congr 2
 rw [decide_eq_decide]
 exact Rat.num_eq_zero
theorem zrg {s : Sm} {w : List Int} {q : Rat} (hl : s.length + 1 <= lim) (h1 : QR.Bd 4000 ((zcg s w).getD 0)) (h2 : QR.Bd 4000 q) : zka [dct s,tp w,num q] = .ok (.none,[dct (zhu s w q),tp w,num q]):=by
 have k1 : zcL [num ((zcg s w).getD 0),num q] = .ok (num ((zcg s w).getD 0 + q)) := zpr h1 h2 (by decide)
 have t0 : (chk (leB 2 lim) (.ok (PyData.tuple [.int 0,.int 1])) : R D) = .ok (num 0) := rfl
 have s1 : zf6 0 (eV 1) (zal zcL (zac (zhx 0 (eV 1) (zcH (zac (eC (.int 0)) (zac (eC (.int 1)) zau)))) (zac (eV 2) zau))) [.ow true (dct s),.val (tp w),.val (num q)] = .ok (.nx,[.ow true (dct (zd7 s w ((zcg s w).getD 0 + q))),.val (tp w),.val (num q)]):=by
  have g2 : zhx 0 (eV 1) (zcH (zac (eC (.int 0)) (zac (eC (.int 1)) zau))) [.ow true (dct s),.val (tp w),.val (num q)] = .ok (num ((zcg s w).getD 0),[.ow true (dct s),.val (tp w),.val (num q)]):=by
   have kd : zgK (dct s) = .ok (s.map fun p => tp p.1) := zdP s
   show ((zgK (dct s)).bind fun _ => ((chk (leB 2 lim) (.ok (PyData.tuple [.int 0,.int 1])) : R D).bind fun d => .ok (d,_)).bind fun b => (znM (dct s) (tp w) b.1).bind fun d => .ok (d,b.2)) = _
   rw [kd,t0]
   show (znM (dct s) (tp w) (num 0)).bind _ = _
   rw [zlw]
   rfl
  generalize zhx 0 (eV 1) (zcH (zac (eC (.int 0)) (zac (eC (.int 1)) zau))) = M at g2
  have f1 : zal zcL (zac M (zac (eV 2) zau)) [.ow true (dct s),.val (tp w),.val (num q)] = .ok (num ((zcg s w).getD 0 + q),[.ow true (dct s),.val (tp w),.val (num q)]):=by
   unfold zal
   rw [show zac M (zac (eV 2) zau) [.ow true (dct s),.val (tp w),.val (num q)] = .ok ([num ((zcg s w).getD 0),num q],[.ow true (dct s),.val (tp w),.val (num q)]) by unfold zac; rw [g2]; rfl,zae,k1]
   rfl
  unfold zf6
  rw [f1]
  have dp := zeW (w:=w) (q:=(zcg s w).getD 0 + q) hl
  simp only [zaH,eV,zbs,zae,List.getElem?_cons_zero,List.getElem?_cons_succ,List.set_cons_zero,dp]
 have x1 : zfR (dct (zd7 s w ((zcg s w).getD 0 + q))) (tp w) = .ok (num ((zcg s w).getD 0 + q)) := zfp (zk7 _ _ _)
 generalize hz : (zcg s w).getD 0 + q = z at *
 have s2 : sIf (tB (e2 eqD (e2 ixD (m2 zfR 0 (eV 1)) (eC (.int 0))) (eC (.int 0)))) (zn0 0 (eV 1)) sNx [.ow true (dct (zd7 s w z)),.val (tp w),.val (num q)] = .ok (.nx,[.ow true (dct (zhu s w q)),.val (tp w),.val (num q)]):=by
  have ct : tB (e2 eqD (e2 ixD (m2 zfR 0 (eV 1)) (eC (.int 0))) (eC (.int 0))) [.ow true (dct (zd7 s w z)),.val (tp w),.val (num q)] = .ok (decide (z = 0),[.ow true (dct (zd7 s w z)),.val (tp w),.val (num q)]):=by
   have e1' : e2 eqD (e2 ixD (m2 zfR 0 (eV 1)) (eC (.int 0))) (eC (.int 0)) [.ow true (dct (zd7 s w z)),.val (tp w),.val (num q)] = .ok (.bool (decide (z = 0)),[.ow true (dct (zd7 s w z)),.val (tp w),.val (num q)]):=by
    show ((((zfR (dct (zd7 s w z)) (tp w)).bind fun d => .ok (d,_)).bind fun (x : D × En) => (ixD x.1 (.int 0)).bind fun d => .ok (d,x.2)).bind fun (x : D × En) => (eqD x.1 (.int 0)).bind fun d => .ok (d,x.2)) = _
    rw [x1,zae,zae,show ixD (num z) (.int 0) = .ok (.int z.num) from rfl,zae,zae,zpl]
    rfl
   unfold tB
   rw [e1']
   rfl
  unfold sIf
  rw [ct,zae,zoL,hz]
  by_cases e : z = 0
  ·rw [if_pos (by simpa using e),if_pos e]
   have pm : zmn (dct (zd7 s w z)) (tp w) = .ok (dct (zgv (zd7 s w z) w)) := zlG (by rw [zk7]; rfl)
   have kd : zgK (dct (zd7 s w z)) = .ok ((zd7 s w z).map fun p => tp p.1) := zdP _
   simp only [zn0,zaH,List.getElem?_cons_zero,zgK,eV,List.getElem?_cons_succ,zbs,zae,List.set_cons_zero,pm]
   rfl
  ·rw [if_neg (by simpa using e),if_neg e]
   rfl
 show ((zfm [.ow true (dct s),.val (tp w),.val (num q)]).bind _) = _
 unfold zfm
 rw [zaw s1,s2]
 rfl
end FL
namespace FL
open PySem
def told (s : Sm) : D := .list ((zb9 s).map tln)
theorem zk0 {s : Sm} (nk : Nk s) (hl : s.length < 64) : zon [dct s] = .ok (told s):=by
 have h := zqA nk hl
 cases e : zcd [.val (dct s)] with
 | bad =>
  have : zdU [dct s] = .bad:=by
   show ((za7 [.val (dct s)]).bind _).bind _ = _
   unfold za7 zaW; rw [e]; rfl
  rw [h] at this; cases this
 | err c f =>
  have : zdU [dct s] = .err c f:=by
   show ((za7 [.val (dct s)]).bind _).bind _ = _
   unfold za7 zaW; rw [e]; rfl
  rw [h] at this; cases this
 | ok x =>
  obtain ⟨d,ρ'⟩ := x
  have : zdU [dct s] = .ok d:=by
   show ((za7 [.val (dct s)]).bind _).bind _ = _
   unfold za7 zaW; rw [e]; rfl
  rw [h] at this
  cases this
  refine zgw (ρ:=ρ') rfl ?_
  show ziQ [.val (dct s)] = _
  unfold ziQ zca
  rw [show zhY [.val (dct s)] = .ok _ from e]
  rfl
theorem ziz {s : Sm} (nk : Nk s) (hl : s.length < 64) : zdW [dct s] = .ok (told s) := zk0 nk hl
theorem zfs {α : Type} {k : Nat} {ix : List Nat} {g : GF} {t : TF} {kf vf : EF} {ρ : En} {f : α -> D} (all : List α) (P : List α -> D -> Prop)
  (st : ∀ done x rest acc,all = done ++ x :: rest -> P done acc -> ∃ acc',P (done ++ [x]) acc' /\ ∀ tail,zea k ix g t kf vf (f x :: tail) ρ acc = zea k ix g t kf vf tail ρ acc') : ∀ (xs done : List α) (acc : D),all = done ++ xs -> P done acc ->
  ∃ acc',P all acc' /\ zea k ix g t kf vf (xs.map f) ρ acc = .ok (acc',ρ)
 | [],done,acc,ha,h => ⟨acc,by rw [ha]; simpa using h,rfl⟩
 | x :: r,done,acc,ha,h => by
  obtain ⟨a1,h1,e1'⟩ := st done x r acc ha h
  obtain ⟨a2,h2,e2'⟩ := zfs all P st r (done ++ [x]) a1 (by rw [ha]; simp) h1
  refine ⟨a2,h2,?_⟩
  rw [List.map_cons,e1',e2']
theorem zk5 {s : Sm} {w : List Int} {q : Rat} (h : ∀ p ∈ s,p.1 ≠ w) : zd7 s w q = s ++ [(w,q)]:=by
 unfold zd7
 rw [if_neg]
 simp only [List.any_eq_true,decide_eq_true_eq,not_exists,not_and]
 exact h
theorem zp5 {s t : Sm} (h : Nk (s ++ t)) : ∀ p ∈ s,∀ q ∈ t,p.1 ≠ q.1:=by
 unfold Nk at h
 rw [List.map_append,List.nodup_append] at h
 intro p hp q hq
 exact h.2.2 _ (List.mem_map_of_mem hp) _ (List.mem_map_of_mem hq)
theorem zpC (l : Nat) (done : Sm) (x : List Int × Rat) : (done ++ [x]).filter (fun p => decide (p.1.length = l)) = if x.1.length = l then done.filter (fun p => decide (p.1.length = l)) ++ [x] else done.filter fun p => decide (p.1.length = l):=by
 rw [List.filter_append]
 by_cases e : x.1.length = l
 ·rw [if_pos e,List.filter_cons_of_pos (by simpa using e)]; rfl
 ·rw [if_neg e,List.filter_cons_of_neg (by simpa using e)]; simp
theorem zoH {s : Sm} (nk : Nk s) (hl : s.length + 1 <= lim) (l : Nat) : zcK [dct s,.int (l : Int)] = .ok (dct (s.filter fun p => decide (p.1.length = l))):=by
 have bk : back [.val (dct s),.val (.int (l : Int))] [0,1] [.val (dct s),.val (.int (l : Int))] = [.val (dct s),.val (.int (l : Int))] := rfl
 obtain ⟨acc',ha,he⟩ := zfs (k:=1) (ix:=[0,1]) (g:=gN 0) (t:=tB (e2 eqD (e1 zdf (eV 0)) (eV 2))) (kf:=eV 0) (vf:=e2 zfR (eV 1) (eV 0)) (ρ:=[.val (dct s),.val (.int (l : Int))]) (f:=fun p : List Int × Rat => tp p.1) s
  (fun done acc => acc = dct (done.filter fun p => decide (p.1.length = l))) (fun done x rest acc hs hacc => by
   subst hacc
   have mx : x ∈ s := by rw [hs]; simp
   have d1 : zfR (dct s) (tp x.1) = .ok (num x.2) := zfp (zfb nk mx)
   have ct : tB (e2 eqD (e1 zdf (eV 0)) (eV 2)) [.val (tp x.1),.val (dct s),.val (.int (l : Int))] = .ok (decide (x.1.length = l),[.val (tp x.1),.val (dct s),.val (.int (l : Int))]):=by
    have : eqD (.int ((x.1.map PyData.int).length : Int)) (.int (l : Int)) = .ok (.bool (decide (x.1.length = l))):=by
     rw [ziV,List.length_map]
     congr 2
     rw [decide_eq_decide]; omega
    show ((eqD (.int ((x.1.map PyData.int).length : Int)) (.int (l : Int))).bind fun d => .ok (d,_)).bind _ = _
    rw [this]
    rfl
   refine ⟨_,rfl,fun tail => ?_⟩
   rw [zea]
   rw [show gN 0 (tp x.1) (blk 1 [0,1] [.val (dct s),.val (.int (l : Int))]) = .ok [.val (tp x.1),.val (dct s),.val (.int (l : Int))] from rfl,zae,ct,zae,zpC]
   by_cases e : x.1.length = l
   ·rw [if_pos (by simpa using e),if_pos e]
    have dp : zkI (dct (done.filter fun p => decide (p.1.length = l))) (tp x.1) (num x.2) = .ok (dct (done.filter (fun p => decide (p.1.length = l)) ++ [x])):=by
     rw [zeW (by have := List.length_filter_le (fun p : List Int × Rat => decide (p.1.length = l)) done; rw [hs] at hl; simp at hl; omega),zk5]
     intro p hp
     exact zp5 (s:=done) (t:=x :: rest) (by rw [<- hs]; exact nk) p (List.mem_filter.mp hp).1 x (List.mem_cons_self ..)
    have v1 : e2 zfR (eV 1) (eV 0) [.val (tp x.1),.val (dct s),.val (.int (l : Int))] = .ok (num x.2,[.val (tp x.1),.val (dct s),.val (.int (l : Int))]):=by
     simp only [FL.e2,eV,zae,List.getElem?_cons_zero,List.getElem?_cons_succ,d1]
    simp only [show eV 0 [.val (tp x.1),.val (dct s),.val (.int (l : Int))] = .ok (tp x.1,[.val (tp x.1),.val (dct s),.val (.int (l : Int))]) from rfl,zae,v1,dp]
    rfl
   ·rw [if_neg (by simpa using e),if_neg e]
    rfl) s [] (.dict []) rfl rfl
 subst ha
 refine zgw (ρ:=[.val (dct s),.val (.int (l : Int))]) rfl ?_
 show zbJ [.val (dct s),.val (.int (l : Int))] = _
 unfold zbJ zca zb7 zfP
 have hi : iD (eV 0) [.val (dct s),.val (.int (l : Int))] = .ok (s.map fun p => tp p.1,[.val (dct s),.val (.int (l : Int))]):=by
  simp only [iD,eV,zae,List.getElem?_cons_zero,zdP]
 rw [hi,zae,he]
 rfl
theorem leD_int (i j : Int) : leD (.int i) (.int j) = .ok (.bool (decide (i <= j))) := rfl
theorem zqL (w : List Int) {c : Int} (hw : w.length <= 5) (h : ∀ x ∈ w,0 <= x /\ x < c) : zdy [Sl.val (tp w),Sl.val (.int c)] = .ok (.list ((w.map fun _ => true).map PyData.bool),[Sl.val (tp w),Sl.val (.int c)]):=by
 have wh : ∀ i : Int,zcM [.int i] = .ok (.bool true) := fun _ => rfl
 unfold zdy
 rw [zgX (items:=w.map PyData.int) (fun x => .bool true)]
 ·rw [List.map_map,List.map_map]; rfl
 ·simp only [iE,eV,List.getElem?_cons_zero,zls,zae]
 ·rw [List.length_map]; unfold lim; omega
 ·intro x hx
  obtain ⟨i,hi,rfl⟩ := List.mem_map.mp hx
  obtain ⟨h0,h4⟩ := h i hi
  refine ⟨[.val (.int i),.val (.int c)],?_,?_,?_⟩
  ·simp only [gN,blk,List.replicate,List.map_cons,List.getElem?_cons_succ,List.getElem?_cons_zero,Option.getD_some,List.map_nil,List.cons_append,List.nil_append,List.set_cons_zero]
  ·simp only [znV,zal,zac,eV,List.getElem?_cons_zero,zau,zae,wh,zfQ,eC,leD_int,decide_eq_true h0,List.getElem?_cons_succ,ziA,decide_eq_true h4]
  ·simp only [back,bkL,bk1]
theorem gtD_int (i j : Int) : gtD (.int i) (.int j) = .ok (.bool (decide (j < i))) := rfl
theorem zpw (w : List Int) {c : Int} (hw : w.length <= 5) (h : ∀ x ∈ w,0 <= x /\ x < c) : zhk [tp w,.int c] = .ok (.bool true):=by
 have k1 : zd2 "tuple" (tp w) = .ok (.bool true) := rfl
 have k2 : decide ((5 : Int) < w.length) = false := decide_eq_false (by omega)
 simp only [zhk,zbD,FL.run,List.length_cons,List.length_nil,Nat.reduceAdd,List.replicate,zh0,zaI,sIf,FL.tOr,FL.zeE,tE,FL.e1,eV,slots,Bool.false_eq_true,if_false,Nat.sub_self,List.cons_append,List.nil_append,List.getElem?_cons_zero,zae,k1,zkZ,Bool.not_true,tB,FL.e2,zdf,eC,List.length_map,gtD_int,k2,zaW,sNx,zqL w hw h,zpU,List.all_map,outs,outD,if_true]
 simp
theorem zrn (r : Rat) : zhm [num r] = .ok (.bool true):=by
 have k1 : zd2 "tuple" (num r) = .ok (.bool true) := rfl
 have wh : ∀ i : Int,zcM [.int i] = .ok (.bool true) := fun _ => rfl
 have k3 : ltD (.int (r.den : Int)) (.int 1) = .ok (.bool false):=by
  rw [ziA]; congr 2
  have := r.den_nz
  exact decide_eq_false (by omega)
 have k4 : zar [.int r.num,.int (r.den : Int)] = .ok (.int 1):=by
  rw [zjM]; congr 2
  have := (QR.low r).cop
  omega
 have k5 : neD (.int 2) (.int 2) = .ok (.bool false) := by rw [zgF]; rfl
 have k6 : eqD (.int 1) (.int 1) = .ok (.bool true) := by rw [ziV]; rfl
 have k7 : gT [gN 1,gN 2] (num r) [.val (num r),.no,.no] = .ok [.val (num r),.val (.int r.num),.val (.int (r.den : Int))] := rfl
 refine zei (ρ:=[.val (num r),.val (.int r.num),.val (.int (r.den : Int))]) rfl ?_
 show zdz [.val (num r),.no,.no] = _
 unfold zdz
 have s1 : sIf (FL.tOr (FL.zeE (tE (FL.e1 (zd2 "tuple") (eV 0)))) (tB (FL.e2 neD (FL.e1 zdf (eV 0)) (eC (.int 2))))) (zaW (eC (.bool false))) sNx [.val (num r),.no,.no] = .ok (.nx,[.val (num r),.no,.no]):=by
  have l2 : zdf (num r) = .ok (.int 2) := rfl
  simp only [sIf,FL.tOr,FL.zeE,tE,tB,FL.e1,FL.e2,eV,eC,sNx,zae,List.getElem?_cons_zero,k1,l2,k5,zkZ,Bool.not_true,Bool.false_eq_true,if_false,if_true]
 have s2 : zbp (gT [gN 1,gN 2]) (eV 0) [.val (num r),.no,.no] = .ok (.nx,[.val (num r),.val (.int r.num),.val (.int (r.den : Int))]) := rfl
 rw [zaw s1,zaw s2]
 simp only [zaI,sIf,FL.tOr,FL.zeE,tE,zal,zac,eV,List.getElem?_cons_succ,List.getElem?_cons_zero,zau,zae,wh,zkZ,Bool.not_true,tB,FL.e2,eC,Bool.false_eq_true,k3,if_false,zaW,sNx,k4,k6]
end FL
namespace FL
open PySem
structure Wok (c : Int) (p : List Int × Rat) : Prop where
 ln : p.1.length <= 5
 lt : ∀ x ∈ p.1,0 <= x /\ x < c
 nz : p.2 ≠ 0
theorem zpx {c : Int} {p : List Int × Rat} (h : Wok c p) : zhl [tln p,.int c] = .ok (.bool true):=by
 have k1 : zd2 "tuple" (tln p) = .ok (.bool true) := rfl
 have k2 : zdf (tln p) = .ok (.int 2) := rfl
 have k3 : neD (.int 2) (.int 2) = .ok (.bool false) := by rw [zgF]; rfl
 have k4 : ixD (tln p) (.int 0) = .ok (tp p.1) := rfl
 have k5 : ixD (tln p) (.int 1) = .ok (num p.2) := rfl
 have k6 : neD (num p.2) (.tuple [.int 0,.int 1]) = .ok (.bool true):=by
  rw [zsE,zp4,decide_eq_false h.nz]; rfl
 have s1 : sIf (FL.tOr (FL.zeE (tE (FL.e1 (zd2 "tuple") (eV 0)))) (tB (FL.e2 neD (FL.e1 zdf (eV 0)) (eC (.int 2))))) (zaW (eC (.bool false))) sNx [.val (tln p),.val (.int c)] = .ok (.nx,[.val (tln p),.val (.int c)]):=by
  simp only [sIf,FL.tOr,FL.zeE,tE,tB,FL.e1,FL.e2,eV,eC,sNx,zae,List.getElem?_cons_zero,k1,k2,k3,zkZ,Bool.not_true,Bool.false_eq_true,if_false,if_true]
 refine zei (ρ:=[.val (tln p),.val (.int c)]) rfl ?_
 show zfo [.val (tln p),.val (.int c)] = _
 unfold zfo
 rw [zaw s1]
 simp only [zaW,znV,zal,zac,zau,FL.e2,eV,eC,zae,List.getElem?_cons_zero,List.getElem?_cons_succ,k4,k5,zpw p.1 h.ln h.lt,zrn,k6,zkZ,if_true]
theorem zkV (w : List Int) (q : Rat) : zoy (.tuple [.int (w.length : Int),tp w]) = some (kyS (w,q)):=by
 show (intsOf (w.map PyData.int)).map _ = _
 rw [zhW]; rfl
inductive zpV (p : List Int × Rat) : D -> Prop where
 | none : zpV p .none
 | some (p' : List Int × Rat) : ltW (kyS p') (kyS p) = true -> zpV p (tln p')
theorem zkr {c : Int} {p : List Int × Rat} {a : D} (h : Wok c p) (ha : zpV p a) : zdH [a,tln p,.int c] = .ok (.bool true):=by
 have s1 : sIf (FL.zeE (tE (zal zhl (zac (eV 1) (zac (eV 2) zau))))) (zaW (eC (.bool false))) sNx [.val a,.val (tln p),.val (.int c)] = .ok (.nx,[.val a,.val (tln p),.val (.int c)]):=by
  simp only [sIf,FL.zeE,tE,zal,zac,zau,eV,eC,sNx,zae,List.getElem?_cons_zero,List.getElem?_cons_succ,zpx h,zkZ,Bool.not_true,Bool.false_eq_true,if_false]
 refine zei (ρ:=[.val a,.val (tln p),.val (.int c)]) rfl ?_
 show zc2 [.val a,.val (tln p),.val (.int c)] = _
 unfold zc2
 rw [zaw s1]
 have k4 : ∀ p,ixD (tln p) (.int 0) = .ok (tp p.1) := fun _ => rfl
 cases ha with
 | none =>
  have i1 : isD (.none : D) .none = .ok (.bool true) := rfl
  simp only [zaW,eOr,FL.e2,eV,eC,zae,List.getElem?_cons_zero,i1,zkZ,if_true]
 | some p' hlt =>
  have i1 : isD (tln p') .none = .ok (.bool false) := rfl
  have lw : zsJ (.tuple [.int (p'.1.length : Int),tp p'.1]) (.tuple [.int (p.1.length : Int),tp p.1]) = .ok (.bool true):=by
   unfold zsJ
   rw [zkV p'.1 p'.2,zkV p.1 p.2]
   show R.ok (PyData.bool (ltW (kyS p') (kyS p))) = _
   rw [hlt]
  simp only [zaW,eOr,FL.e2,eV,eC,zal,zac,zau,zae,List.getElem?_cons_zero,List.getElem?_cons_succ,i1,zkZ,Bool.false_eq_true,if_false,k4,zlk,lw]
def cs0 : Cs := ⟨fun _ => none,by simp⟩
def Asc (s : Sm) : Prop := s.Pairwise fun p q => ltW (kyS p) (kyS q) = true
theorem zrh {p q : List Int × Rat} (h : kyS p = kyS q) : p.1 = q.1 := (Prod.mk.inj h).2
theorem zjx {p q : List Int × Rat} (h : p.1 ≠ q.1) (h2 : ltW (kyS q) (kyS p) = false) : ltW (kyS p) (kyS q) = true:=by
 cases e : ltW (kyS p) (kyS q) with
 | true => rfl
 | false =>
  rw [@zjy cs0] at e h2
  exact absurd (zrh (@znl cs0 _ _ e h2)) h
theorem znj {p q r : List Int × Rat} (h : p.1 ≠ r.1) (h1 : ltW (kyS p) (kyS q) = true) (h2 : ltW (kyS q) (kyS r) = true) : ltW (kyS p) (kyS r) = true:=by
 refine zjx h ?_
 rw [@zjy cs0] at h1 h2 ⊢
 exact L2.znk _ _ _ (L2.zjz _ _ h1) (L2.zjz _ _ h2)
theorem zlv (x : List Int × Rat) : ∀ l : Sm,Asc l -> (∀ p ∈ l,p.1 ≠ x.1) -> Asc (zov x l)
 | [],_,_ => by simp [zov,Asc]
 | y :: r,h,hn => by
  unfold Asc at h
  rw [List.pairwise_cons] at h
  unfold zov
  by_cases c : ltW (kyS y) (kyS x) = true
  ·rw [if_pos c]
   unfold Asc
   rw [List.pairwise_cons]
   refine ⟨fun z hz => ?_,zlv x r h.2 fun p hp => hn p (List.mem_cons_of_mem _ hp)⟩
   rcases List.mem_cons.mp ((zgS x r).mem_iff.mp hz) with e | e
   ·subst e; exact c
   ·exact h.1 z e
  ·rw [if_neg c]
   have yx := zjx (fun e => hn y (List.mem_cons_self ..) e.symm) (by simpa using c)
   unfold Asc
   rw [List.pairwise_cons,List.pairwise_cons]
   refine ⟨fun z hz => ?_,h.1,h.2⟩
   rcases List.mem_cons.mp hz with e | e
   ·subst e; exact yx
   ·exact znj (fun z' => hn z (List.mem_cons_of_mem _ e) z'.symm) yx (h.1 z e)
theorem zgu : ∀ {s : Sm},Nk s -> Asc (zb9 s)
 | [],_ => by simp [zb9,Asc]
 | x :: r,h => by
  unfold Nk at h
  rw [List.map_cons,List.nodup_cons] at h
  show Asc (zov x (zb9 r))
  refine zlv x _ (zgu h.2) fun p hp e => h.1 ?_
  rw [<- e]
  exact List.mem_map_of_mem ((zaP r).mem_iff.mp hp)
theorem zlL : ∀ {s : Sm},Asc s -> Nk s
 | [],_ => List.nodup_nil
 | x :: r,h => by
  unfold Asc at h
  rw [List.pairwise_cons] at h
  unfold Nk
  rw [List.map_cons,List.nodup_cons]
  refine ⟨fun z => ?_,zlL h.2⟩
  obtain ⟨q,hq,e⟩ := List.mem_map.mp z
  have h1 := h.1 q hq
  have : kyS x = kyS q := by unfold kyS; rw [e]
  rw [this,@zjy cs0] at h1
  exact absurd (L2.zjz _ _ h1) (by rw [h1]; simp)
theorem zjL {c : Int} (L : D) : ∀ (t : Sm) (i : Nat) (a : D) (x3 x4 : Sl),Asc t -> (∀ p ∈ t,Wok c p) -> (∀ p,t.head? = some p -> zpV p a) -> (x3 = .no \/ ∃ d,x3 = .val d) -> (x4 = .no \/ ∃ d,x4 = .val d) ->
  ∃ a' x3' x4',forL (gT [gN 3,gN 4]) zcc (zf4 i (t.map tln)) [.val L,.val (.int c),.val a,x3,x4] = .ok (.nx,[.val L,.val (.int c),.val a',x3',x4'])
 | [],i,a,x3,x4,_,_,_,_,_ => ⟨a,x3,x4,rfl⟩
 | p :: r,i,a,x3,x4,ha,hw,hh,h3,h4 => by
  have hp := hw p (List.mem_cons_self ..)
  unfold Asc at ha
  rw [List.pairwise_cons] at ha
  obtain ⟨a',x3',x4',ih⟩ := zjL L r (i + 1) (tln p) (.val (.int i)) (.val (tln p)) ha.2 (fun q hq => hw q (List.mem_cons_of_mem _ hq)) (fun q hq => .some p (ha.1 q (by
   cases r with
   | nil => cases hq
   | cons y z => cases hq; exact List.mem_cons_self ..))) (.inr ⟨_,rfl⟩) (.inr ⟨_,rfl⟩)
  refine ⟨a',x3',x4',?_⟩
  have g1 : gT [gN 3,gN 4] (.tuple [.int (i : Int),tln p]) [.val L,.val (.int c),.val a,x3,x4] = .ok [.val L,.val (.int c),.val a,.val (.int (i : Int)),.val (tln p)]:=by
   rcases h3 with rfl | ⟨d3,rfl⟩ <;> rcases h4 with rfl | ⟨d4,rfl⟩ <;> rfl
  have b1 : zcc [.val L,.val (.int c),.val a,.val (.int (i : Int)),.val (tln p)] = .ok (.nx,[.val L,.val (.int c),.val (tln p),.val (.int (i : Int)),.val (tln p)]):=by
   unfold zcc
   have s1 : sIf (FL.zeE (tE (zal zdH (zac (eV 2) (zac (eV 4) (zac (eV 1) zau)))))) zrL sNx [.val L,.val (.int c),.val a,.val (.int (i : Int)),.val (tln p)] = .ok (.nx,[.val L,.val (.int c),.val a,.val (.int (i : Int)),.val (tln p)]):=by
    simp only [sIf,FL.zeE,tE,zal,zac,zau,eV,sNx,zae,List.getElem?_cons_zero,List.getElem?_cons_succ,zkr hp (hh p rfl),zkZ,Bool.not_true,Bool.false_eq_true,if_false]
   rw [zaw s1]
   rfl
  show forL _ _ (.tuple [.int (i : Int),tln p] :: zf4 (i + 1) (r.map tln)) _ = _
  rw [forL,g1,zae,b1,zae]
  exact ih
theorem znH {c : Int} {t : Sm} (ha : Asc t) (hw : ∀ p ∈ t,Wok c p) (hl : t.length + 1 <= lim) : zid [.list (t.map tln),.int c] = .ok (dct t):=by
 have nk := zlL ha
 obtain ⟨a',x3',x4',lp⟩ := zjL (c:=c) (.list (t.map tln)) t 0 .none .no .no ha hw (fun p _ => .none) (.inl rfl) (.inl rfl)
 have s2 : zcZ [.val (.list (t.map tln)),.val (.int c),.val .none,.no,.no] = .ok (.nx,[.val (.list (t.map tln)),.val (.int c),.val a',x3',x4']):=by
  unfold zcZ zir
  rw [show ztI (zac (eV 0) zau) [.val (.list (t.map tln)),.val (.int c),.val .none,.no,.no] = .ok (zf4 0 (t.map tln),[.val (.list (t.map tln)),.val (.int c),.val .none,.no,.no]) from rfl,zae]
  exact lp
 have bk : ∀ (ρ cs : En),back ρ [] cs = ρ := fun ρ cs => by
  unfold back
  rw [List.zip_nil_left]
  exact zgi (fun i p d z => by simp at z) ρ 0
 obtain ⟨acc',hacc,he⟩ := zfs (k:=2) (ix:=[]) (g:=gT [gN 0,gN 1]) (t:=zde) (kf:=eV 0) (vf:=eV 1) (ρ:=[.val (.list (t.map tln)),.val (.int c),.val a',x3',x4']) (f:=tln) t
  (fun done acc => acc = dct done) (fun done x rest acc hs hacc => by
   subst hacc
   refine ⟨_,rfl,fun tail => ?_⟩
   have dp : zkI (dct done) (tp x.1) (num x.2) = .ok (dct (done ++ [x])):=by
    rw [zeW (by rw [hs] at hl; simp at hl; omega),zk5]
    intro p hp
    exact zp5 (s:=done) (t:=x :: rest) (by rw [<- hs]; exact nk) p hp x (List.mem_cons_self ..)
   rw [zea,show gT [gN 0,gN 1] (tln x) (blk 2 [] [.val (.list (t.map tln)),.val (.int c),.val a',x3',x4']) = .ok [.val (tp x.1),.val (num x.2)] from rfl,zae,show zde [.val (tp x.1),.val (num x.2)] = .ok (true,[.val (tp x.1),.val (num x.2)]) from rfl,zae,if_pos rfl]
   simp only [show eV 0 [.val (tp x.1),.val (num x.2)] = .ok (tp x.1,[.val (tp x.1),.val (num x.2)]) from rfl,show eV 1 [.val (tp x.1),.val (num x.2)] = .ok (num x.2,[.val (tp x.1),.val (num x.2)]) from rfl,zae,dp,bk]) t [] (.dict []) rfl rfl
 subst hacc
 refine zgw (ρ:=[.val (.list (t.map tln)),.val (.int c),.val a',x3',x4']) rfl ?_
 show zen [.val (.list (t.map tln)),.val (.int c),.no,.no,.no] = _
 unfold zen
 rw [zaw (show zbp (gN 2) (eC .none) [.val (.list (t.map tln)),.val (.int c),.no,.no,.no] = .ok (.nx,[.val (.list (t.map tln)),.val (.int c),.val .none,.no,.no]) from rfl),zaw s2]
 unfold zca zeV zfP
 rw [show iE (eV 0) [.val (.list (t.map tln)),.val (.int c),.val a',x3',x4'] = .ok (t.map tln,[.val (.list (t.map tln)),.val (.int c),.val a',x3',x4']) from rfl,zae,he]
 rfl
end FL
namespace FL
open PySem
theorem zqJ (i : Int) {n : Nat} (h : i.natAbs < 2 ^ n) (hn : 0 < n) : num (i : Rat) = .tuple [.int i,.int 1] /\ QR.Bd n (i : Rat):=by
 refine ⟨rfl,?_,?_⟩
 ·simpa using h
 ·show 1 < 2 ^ n
  exact Nat.one_lt_two_pow (by omega)
theorem zna {k : Nat} {d : D} (h : ze1 k d) (hk : k <= 50000) : ∃ (r : Rat) (d' : D),zaU [d] = .ok (num r,[d']) /\ QR.Bd 14 r /\ ze1 (k + 3) d':=by
 obtain ⟨w,d1,t1,w0,w5,p1⟩ := zdi h (by omega) 5 (by decide) (by decide)
 have lt3 : ltD (.int w) (.int 3) = .ok (.bool (decide (w < 3))) := ziA _ _
 have eq3 : eqD (.int w) (.int 3) = .ok (.bool (decide (w = 3))) := ziV _ _
 by_cases c1 : w < 3
 ·have l3 : leB 3 lim = true := by decide
  have l2 : leB 2 lim = true := by decide
  have ng : ztG (.int 1) = .ok (.int (-1)) := rfl
  have c : w = 0 \/ w = 1 \/ w = 2 := by omega
  rw [decide_eq_true c1] at lt3
  rcases c with rfl | rfl | rfl
  ·refine ⟨0,d1,?_,⟨by decide,by decide⟩,p1.mono (by omega)⟩
   simp only [zaU,FL.run,List.length_cons,List.length_nil,Nat.reduceAdd,zbk,zaI,zbp,zav,zj7,zaH,slots,if_true,Nat.reduceSub,List.replicate,List.cons_append,List.nil_append,List.getElem?_cons_zero,eC,zae,zi6,zia,bkL,bk1,t1,zhK,List.lookup_cons,List.lookup_nil,gN,List.getElem?_cons_succ,List.set_cons_succ,List.set_cons_zero,sIf,tB,FL.e2,eV,zaW,zf5,zac,zcH,zau,zaO l2,FL.e1,ng,zaO l3,sNx,zf7,zal,lt3,outs,outD]
   rfl
  ·refine ⟨1,d1,?_,⟨by decide,by decide⟩,p1.mono (by omega)⟩
   simp only [zaU,FL.run,List.length_cons,List.length_nil,Nat.reduceAdd,zbk,zaI,zbp,zav,zj7,zaH,slots,if_true,Nat.reduceSub,List.replicate,List.cons_append,List.nil_append,List.getElem?_cons_zero,eC,zae,zi6,zia,bkL,bk1,t1,zhK,List.lookup_cons,List.lookup_nil,gN,List.getElem?_cons_succ,List.set_cons_succ,List.set_cons_zero,sIf,tB,FL.e2,eV,zaW,zf5,zac,zcH,zau,zaO l2,FL.e1,ng,zaO l3,sNx,zf7,zal,lt3,outs,outD]
   rfl
  ·refine ⟨-1,d1,?_,⟨by decide,by decide⟩,p1.mono (by omega)⟩
   simp only [zaU,FL.run,List.length_cons,List.length_nil,Nat.reduceAdd,zbk,zaI,zbp,zav,zj7,zaH,slots,if_true,Nat.reduceSub,List.replicate,List.cons_append,List.nil_append,List.getElem?_cons_zero,eC,zae,zi6,zia,bkL,bk1,t1,zhK,List.lookup_cons,List.lookup_nil,gN,List.getElem?_cons_succ,List.set_cons_succ,List.set_cons_zero,sIf,tB,FL.e2,eV,zaW,zf5,zac,zcH,zau,zaO l2,FL.e1,ng,zaO l3,sNx,zf7,zal,lt3,outs,outD]
   rfl
 ·rw [decide_eq_false c1] at lt3
  by_cases c2 : w = 3
  ·rw [decide_eq_true c2] at eq3
   obtain ⟨v,d2,t2,v0,v1,p2⟩ := zdi p1 (by omega) 13 (by decide) (by decide)
   obtain ⟨rn,rb⟩ := zqJ (v - 6) (n:=14) (by omega) (by decide)
   refine ⟨((v - 6 : Int) : Rat),d2,?_,rb,p2.mono (by omega)⟩
   rw [rn]
   have l2 : leB 2 lim = true := by decide
   have sb : zf7 (.int v) (.int 6) = .ok (.int (v - 6)) := rfl
   simp only [zaU,FL.run,List.length_cons,List.length_nil,Nat.reduceAdd,zbk,zaI,zbp,zav,zj7,zaH,slots,if_true,Nat.reduceSub,List.replicate,List.cons_append,List.nil_append,List.getElem?_cons_zero,eC,zae,zi6,zia,bkL,bk1,t1,zhK,List.lookup_cons,beq_self_eq_true,gN,List.getElem?_cons_succ,List.set_cons_succ,List.set_cons_zero,sIf,tB,FL.e2,eV,zaW,zf5,zac,zcH,zau,zaO l2,FL.e1,sNx,zf7,zal,lt3,Bool.false_eq_true,if_false,eq3,t2,outs,outD,List.head?_cons]
  ·rw [decide_eq_false c2] at eq3
   obtain ⟨v,d2,t2,v0,v1,p2⟩ := zdi p1 (by omega) 2001 (by decide) (by decide)
   obtain ⟨u,d3,t3,u0,u1,p3⟩ := zdi p2 (by omega) 9 (by decide) (by decide)
   have hb : (1 + u).toNat ≠ 0 := by omega
   have hl := zsL (v - 1000) (b:=(1 + u).toNat) (n:=14) hb (by omega) (by decide)
   rw [show (((1 + u).toNat : Nat) : Int) = 1 + u by omega] at hl
   refine ⟨Rat.normalize (v - 1000) (1 + u).toNat hb,d3,?_,?_,p3⟩
   ·have pw : zhv (.int 10) (.int 3) = .ok (.int 1000) := rfl
    have ml : zbM (.int 2) (.int 1000) = .ok (.int 2000) := rfl
    have ad : zba (.int 2000) (.int 1) = .ok (.int 2001) := rfl
    have ad2 : zba (.int 1) (.int u) = .ok (.int (1 + u)) := rfl
    have sb : zf7 (.int v) (.int 1000) = .ok (.int (v - 1000)) := rfl
    simp only [zaU,FL.run,List.length_cons,List.length_nil,Nat.reduceAdd,zbk,zaI,zbp,zav,zj7,zaH,slots,if_true,Nat.reduceSub,List.replicate,List.cons_append,List.nil_append,List.getElem?_cons_zero,eC,zae,zi6,zia,bkL,bk1,t1,zhK,List.lookup_cons,beq_self_eq_true,gN,List.getElem?_cons_succ,List.set_cons_succ,List.set_cons_zero,sIf,tB,FL.e2,eV,zaW,zf5,zac,zcH,zau,FL.e1,sNx,zf7,zal,pw,ml,ad,lt3,Bool.false_eq_true,if_false,eq3,t2,t3,ad2,hl,outs,outD,List.head?_cons]
   ·have h1 := QR.norm (t:=v - 1000) hb
    have h2 := QR.zru (v - 1000) ((1 + u).toNat : Int)
    rw [h1] at h2
    exact ⟨by have := h2.1; omega,by have := h2.2; omega⟩
theorem zrC {F : List D -> R (D × List D)} {i : Nat} {ρ : En} {p : Bool} {d r d' : D} (hi : ρ[i]? = some (.ow p d)) (hF : F [d] = .ok (r,[d'])) : zav F [.m i] ρ = .ok (r,ρ.set i (.ow p d')):=by
 have h := zi1 (F:=fun l => match l with | [a,b] => (F [a]).bind fun y => .ok (y.1,y.2 ++ [b]) | _ => .bad) (f:=eC .none) (v:=.none) (v' := .none) (r:=r) (d' := d') hi rfl (by show (F [d]).bind _ = _; rw [hF]; rfl)
 have hm : zaH ρ i = .ok d := by unfold zaH; rw [hi]
 unfold zav at h ⊢
 simp only [zj7,hm,zae,eC,zia,hF] at h ⊢
 exact h
theorem zqw {k : Nat} {d : D} (hd : ze1 k d) (hk : k <= 50000) {c m : Int} (c1 : 1 <= c) (c4 : c <= 4) (m0 : 0 <= m) (m5 : m <= 5) :
  ∃ (w : List Int) (d' : D),zdV [d,.int c,.int m] = .ok (tp w,[d',.int c,.int m]) /\ (w.length : Int) <= m /\ (∀ x ∈ w,0 <= x /\ x < c) /\ ze1 (k + 6) d':=by
 obtain ⟨n,d0,t0,n0,n1,hp0⟩ := zdi hd (by omega) (m + 1) (by omega) (by omega)
 have hr : zej [.int n] = .ok (rng 0 n) := zcE (by omega) (by omega)
 have hlen : (rng 0 n).length = n.toNat := by rw [zkj]; simp
 have CI := zjV (k:=1) (ix:=[0,1]) (g:=gN 0) (t:=zde) (f:=zav zb8 [.m 1,.v (eV 2)])
  (fun i acc ρ => ∃ (w : List Int) (d' : D),acc = w.map PyData.int /\ (∀ x ∈ w,0 <= x /\ x < c) /\ ze1 (k + 1 + i) d' /\ ρ = [.ow true d',.val (.int c),.val (.int m)])
 obtain ⟨acc,ρ',ec,el,hp⟩ := CI (rng 0 n) 0 [] [.ow true d0,.val (.int c),.val (.int m)] (by rw [hlen]; unfold lim; simp; omega) rfl
  ⟨[],d0,rfl,by simp,hp0,rfl⟩ (by
   intro x hx i acc ρ hi hP
   rw [hlen] at hi
   obtain ⟨w,d1,rfl,hw,hp,rfl⟩ := hP
   obtain ⟨g,d2,et,g0,g1,hp2⟩ := zdi hp (by omega) c c1 (by omega)
   refine ⟨[.val x,.ow true d1,.val (.int c)],.int g,[.val x,.ow true d2,.val (.int c)],?_,?_,?_,?_⟩
   ·simp only [gN,blk,List.replicate,List.map_cons,List.getElem?_cons_zero,Option.getD_some,List.getElem?_cons_succ,List.map_nil,List.cons_append,List.nil_append,List.set_cons_zero]
   ·simp only [zde]
   ·simp only [zav,zj7,zaH,List.getElem?_cons_succ,List.getElem?_cons_zero,eV,zae,zi6,zia,bkL,bk1,Nat.zero_add,et,zhK,List.lookup_cons,beq_self_eq_true]
   ·refine ⟨w ++ [g],d2,by simp,?_,hp2,?_⟩
    ·intro z hz
     rcases List.mem_append.mp hz with hz | hz
     ·exact hw z hz
     ·have : z = g := by simpa using hz
      subst this; exact ⟨g0,g1⟩
    ·have l2 : ([(0,Sl.ow true d2),(1,Sl.val (.int c))] : List (Nat × Sl)).lookup 2 = none := rfl
     show [bk1 _ 0 _,bk1 _ 1 _,bk1 [(0,Sl.ow true d2),(1,Sl.val (.int c))] 2 (Sl.val (.int m))] = _
     rw [zoc l2]
     rfl)
 obtain ⟨w,d',rfl,hw,hp',rfl⟩ := hp
 rw [Nat.zero_add,hlen] at el
 have el' : w.length = n.toNat := by simpa using el
 refine ⟨w,d',?_,by omega,hw,hp'.mono (by rw [hlen]; omega)⟩
 have hq : zc0 [.ow true d,.val (.int c),.val (.int m)] = .ok (.list (w.map PyData.int),[.ow true d',.val (.int c),.val (.int m)]):=by
  unfold zc0 zdA
  have hi : (iR1 (zac (zav zb8 [.m 0,.v (e2 zba (eV 2) (eC (.int 1)))]) zau)) [.ow true d,.val (.int c),.val (.int m)] = .ok (rng 0 n,[.ow true d0,.val (.int c),.val (.int m)]):=by
   have cm : (zav zb8 [.m 0,.v (e2 zba (eV 2) (eC (.int 1)))]) [.ow true d,.val (.int c),.val (.int m)] = .ok (.int n,[.ow true d0,.val (.int c),.val (.int m)]) := zi1 (p:=true) (d:=d) rfl rfl t0
   simp only [iR1,zac,zau,zae,cm,hr]
  rw [hi,zae]
  show (zg5 _ _ _ _ _ (rng 0 n) [.ow true d0,.val (.int c),.val (.int m)] []).bind _ = _
  rw [ec]
  rfl
 show ((zel [.ow true d,.val (.int c),.val (.int m)]).bind _) = _
 unfold zel zaW FL.e1
 rw [hq]
 rfl
structure Dr (c : Int) (n : Nat) (s : Sm) : Prop where
 nk : Nk s
 wk : ∀ p ∈ s,Wok c p
 bd : ∀ p ∈ s,QR.Bd 14 p.2
 ln : s.length <= n
theorem zpX {k : Nat} {d : D} (hd : ze1 k d) (hk : k <= 1000) {c m : Int} (c1 : 1 <= c) (c4 : c <= 4) (m0 : 0 <= m) (m5 : m <= 5) :
  ∃ (s : Sm) (d' : D),zj9 [d,.int c,.int 4,.int m] = .ok (dct s,[d',.int c,.int 4,.int m]) /\ Dr c 4 s /\ ze1 (k + 37) d':=by
 obtain ⟨n,d0,t0,n0,n1,hp0⟩ := zdi hd (by omega) 5 (by decide) (by decide)
 have hr : zej [.int n] = .ok (rng 0 n) := zcE (by omega) (by omega)
 have hlen : (rng 0 n).length = n.toNat := by rw [zkj]; simp
 have hm : (rng 0 n) = (rng 0 n).map id := by simp
 have L := zce (f:=fun x : D => x) (g:=gN 5) (b:=zct)
  (fun done ρ => ∃ (s : Sm) (d' : D) (y5 y6 y7 : Sl),Np y5 /\ Np y6 /\ Np y7 /\ ρ = [.ow true d',.val (.int c),.val (.int 4),.val (.int m),.ow false (dct s),y5,y6,y7] /\ Dr c done.length s /\ ze1 (k + 1 + 9 * done.length) d')
  (rng 0 n) [] [.ow true d0,.val (.int c),.val (.int 4),.val (.int m),.ow false (dct []),.no,.no,.no] ⟨[],d0,.no,.no,.no,zcV,zcV,zcV,rfl,⟨List.nodup_nil,fun _ h => by simp at h,fun _ h => by simp at h,Nat.zero_le _⟩,hp0⟩ (by
   intro pre x post ρ e hP
   obtain ⟨s,d1,y5,y6,y7,h5,h6,h7,rfl,dr,pp⟩ := hP
   rw [List.nil_append] at e
   have hpl : pre.length + 1 <= n.toNat := by rw [<- hlen,e]; simp
   have gx : gN 5 x [.ow true d1,.val (.int c),.val (.int 4),.val (.int m),.ow false (dct s),y5,y6,y7] = .ok [.ow true d1,.val (.int c),.val (.int 4),.val (.int m),.ow false (dct s),.val x,y6,y7] := ziS rfl h5
   obtain ⟨w,d2,tw,wl,wx,pw⟩ := zqw pp (by omega) c1 c4 m0 m5
   obtain ⟨r,d3,tn,rb,pn⟩ := zna pw (by omega)
   have cw : zav zdV [.m 0,.v (eV 1),.v (eV 3)] [.ow true d1,.val (.int c),.val (.int 4),.val (.int m),.ow false (dct s),.val x,y6,y7] = .ok (tp w,[.ow true d2,.val (.int c),.val (.int 4),.val (.int m),.ow false (dct s),.val x,y6,y7]) := zkL (p:=true) (d:=d1) rfl rfl rfl tw
   have s1 : zbp (gN 6) (zav zdV [.m 0,.v (eV 1),.v (eV 3)]) [.ow true d1,.val (.int c),.val (.int 4),.val (.int m),.ow false (dct s),.val x,y6,y7] = .ok (.nx,[.ow true d2,.val (.int c),.val (.int 4),.val (.int m),.ow false (dct s),.val x,.val (tp w),y7]) := zcR (y:=(tp w,[.ow true d2,.val (.int c),.val (.int 4),.val (.int m),.ow false (dct s),.val x,y6,y7])) cw rfl h6
   have cn : zav zaU [.m 0] [.ow true d2,.val (.int c),.val (.int 4),.val (.int m),.ow false (dct s),.val x,.val (tp w),y7] = .ok (num r,[.ow true d3,.val (.int c),.val (.int 4),.val (.int m),.ow false (dct s),.val x,.val (tp w),y7]):=by
    exact zrC (p:=true) (d:=d2) rfl tn
   have s2 : zbp (gN 7) (zav zaU [.m 0]) [.ow true d2,.val (.int c),.val (.int 4),.val (.int m),.ow false (dct s),.val x,.val (tp w),y7] = .ok (.nx,[.ow true d3,.val (.int c),.val (.int 4),.val (.int m),.ow false (dct s),.val x,.val (tp w),.val (num r)]) := zcR (y:=(num r,[.ow true d3,.val (.int c),.val (.int 4),.val (.int m),.ow false (dct s),.val x,.val (tp w),y7])) cn rfl h7
   have tt : tB (e2 neD (e2 ixD (eV 7) (eC (.int 0))) (eC (.int 0))) [.ow true d3,.val (.int c),.val (.int 4),.val (.int m),.ow false (dct s),.val x,.val (tp w),.val (num r)] = .ok (!decide (r = 0),[.ow true d3,.val (.int c),.val (.int 4),.val (.int m),.ow false (dct s),.val x,.val (tp w),.val (num r)]):=by
    have i0 : ixD (num r) (.int 0) = .ok (.int r.num) := rfl
    have n0 : neD (.int r.num) (.int 0) = .ok (.bool (!decide (r = 0))):=by
     rw [zgF]; congr 3; rw [decide_eq_decide]; exact Rat.num_eq_zero
    simp only [tB,FL.e2,eV,eC,zae,List.getElem?_cons_zero,List.getElem?_cons_succ,i0,n0]
   by_cases cz : r = 0
   ·refine ⟨[.ow true d3,.val (.int c),.val (.int 4),.val (.int m),.ow false (dct s),.val x,.val (tp w),.val (num r)],.nx,?_,.inl rfl,s,d3,_,_,_,zbn _,zbn _,zbn _,rfl,⟨dr.nk,dr.wk,dr.bd,by rw [List.length_append]; have := dr.ln; simp; omega⟩,pn.mono (by simp; omega)⟩
    rw [gx,zae]
    unfold zct
    rw [zaw s1,zaw s2]
    unfold sIf
    rw [tt,zae,if_neg (by simpa using cz)]
    rfl
   ·have wk : Wok c (w,r) := ⟨by show w.length <= 5; omega,wx,cz⟩
    refine ⟨[.ow true d3,.val (.int c),.val (.int 4),.val (.int m),.ow false (dct (zd7 s w r)),.val x,.val (tp w),.val (num r)],.nx,?_,.inl rfl,zd7 s w r,d3,_,_,_,zbn _,zbn _,zbn _,rfl,⟨zjg dr.nk,fun p hp => ?_,fun p hp => ?_,?_⟩,pn.mono (by simp; omega)⟩
    ·rw [gx,zae]
     unfold zct
     rw [zaw s1,zaw s2]
     unfold sIf
     rw [tt,zae,if_pos (by simpa using cz)]
     have dp := zeW (s:=s) (w:=w) (q:=r) (by have := dr.ln; unfold lim; omega)
     simp only [zf6,eV,zaH,zae,List.getElem?_cons_zero,List.getElem?_cons_succ,dp]
     rfl
    ·rcases zio hp with h | h
     ·exact dr.wk p h
     ·subst h; exact wk
    ·rcases zio hp with h | h
     ·exact dr.bd p h
     ·subst h; exact rb
    ·rw [List.length_append,List.length_singleton]
     have := zk6 s w r
     have := dr.ln
     omega)
 obtain ⟨ρ',e,s,d',y5,y6,y7,h5,h6,h7,rfl,dr,pp⟩ := L
 simp only [List.nil_append,hlen,List.map_id'] at e dr pp
 refine ⟨s,d',?_,⟨dr.nk,dr.wk,dr.bd,by have := dr.ln; omega⟩,pp.mono (by omega)⟩
 have hi : (iR1 (zac (zav zb8 [.m 0,.v (e2 zba (eV 2) (eC (.int 1)))]) zau)) [.ow true d,.val (.int c),.val (.int 4),.val (.int m),.ow false (dct []),.no,.no,.no] = .ok (rng 0 n,[.ow true d0,.val (.int c),.val (.int 4),.val (.int m),.ow false (dct []),.no,.no,.no]):=by
  have cm : (zav zb8 [.m 0,.v (e2 zba (eV 2) (eC (.int 1)))]) [.ow true d,.val (.int c),.val (.int 4),.val (.int m),.ow false (dct []),.no,.no,.no] = .ok (.int n,[.ow true d0,.val (.int c),.val (.int 4),.val (.int m),.ow false (dct []),.no,.no,.no]) := zi1 (p:=true) (d:=d) rfl rfl t0
  simp only [iR1,zac,zau,zae,cm,hr]
 have s1 : ziq 4 zfO [.ow true d,.val (.int c),.val (.int 4),.val (.int m),.no,.no,.no,.no] = .ok (.nx,[.ow true d,.val (.int c),.val (.int 4),.val (.int m),.ow false (dct []),.no,.no,.no]) := rfl
 have s2 : zdw [.ow true d,.val (.int c),.val (.int 4),.val (.int m),.ow false (dct []),.no,.no,.no] = .ok (.nx,[.ow true d',.val (.int c),.val (.int 4),.val (.int m),.ow false (dct s),y5,y6,y7]):=by
  unfold zdw zir
  rw [hi,zae]
  exact e
 show ((zfl [.ow true d,.val (.int c),.val (.int 4),.val (.int m),.no,.no,.no,.no]).bind _) = _
 unfold zfl
 rw [zaw s1,zaw s2]
 rfl
end FL
namespace K57
open PySem FL
def zh4 : SF := (zaW (znV (e1 (zd2 "int") (eV 0)) (zuB (e1 (zd2 "bool") (eV 0)))))
def zbl : List D -> R D := zbD false 1 1 zh4
def zco : SF := (zgt (zdk 3) (tB (e2 neD (eV 3) (eC (.int 0)))) (zhs 2 3 (eV 3) (e2 zeF (eV 2) (eV 3))))
def zdd : SF := (zaI (zhs 2 3 (e1 zoj (eV 0)) (e1 zoj (eV 1)))
  (zaI zco
  (zaW (eV 2))))
def zaE : List D -> R D := zbD false 2 4 zdd
def zfV : SF := (zaW (zcH (zac (e1 zdf (eV 0)) (zac (eV 0) zau))))
def zbH : List D -> R D := zbD false 1 1 zfV
def zcj : EF := (zfP 1 [0,1] (iD (eV 0)) (gN 0) (tB (e2 eqD (e1 zdf (eV 0)) (eV 2))) (eV 0) (e2 zfR (eV 1) (eV 0)))
def zcJ : SF := (zca zcj)
def za2 : List D -> R D := zbD true 2 2 zcJ
def zfY : SF := (zaI (zbp (gN 2) (e2 zba (e2 zba (e2 zbM (e2 zba (e2 zeF (eV 0) (e2 zba (e2 zhv (eC (.int 10)) (eC (.int 18))) (eC (.int 9)))) (e2 zbM (eC (.int 7)) (eV 1))) (eC (.int 739108512309184756019283746561))) (e2 zbM (eC (.int 7919)) (eV 1))) (eC (.int 1))))
  (zaI (zbp (gN 2) (e2 zeF (e2 zbM (eV 2) (eV 2)) (e2 zba (e2 zhv (eC (.int 10)) (eC (.int 60))) (eC (.int 7)))))
  (zaW (e2 zeF (e2 zbM (e2 zba (eV 2) (eC (.int 40503))) (e2 zba (eV 2) (eC (.int 57)))) (e2 zba (e2 zhv (eC (.int 10)) (eC (.int 60))) (eC (.int 7)))))))
def zb0 : List D -> R D := zbD false 2 3 zfY
def zj6 : SF := (zaI (sIf (tB (e2 ltD (eV 1) (e1 zdf (eV 0)))) (zaW (e2 ixD (eV 0) (eV 1))) sNx)
  (zaW (e2 zba (e2 zbM (eC (.int 3)) (eV 1)) (eC (.int 1)))))
def zdK : List D -> R D := zbD false 2 2 zj6
def zfG : SF := (zgt (zdk 3) (tB (e2 neD (eV 3) (eC (.int 0)))) (zhs 2 3 (eV 3) (e2 zeF (eV 2) (eV 3))))
def zh9 : SF := (zaI (zbp (gN 2) (e1 zoj (eV 0)))
  (zaI (zbp (gN 3) (eV 1))
  (zaI zfG
  (zaW (zcH (zac (e2 zaS (eV 0) (eV 2)) (zac (e2 zaS (eV 1) (eV 2)) zau)))))))
def zbU : List D -> R D := zbD false 2 4 zh9
def zhe : SF := (zaW (zcH (zac (e1 zdf (eV 0)) (zac (eV 0) zau))))
def zeC : List D -> R D := zbD false 1 1 zhe
def zha : SF := (zaI (sIf (FL.tOr (FL.zeE (tE (e1 (zd2 "tuple") (eV 0)))) (tB (e2 neD (e1 zdf (eV 0)) (eC (.int 2))))) (zaW (eC (.bool false))) sNx)
  (zaI (zbp (gT [(gN 1),(gN 2)]) (eV 0))
  (zaI (sIf (FL.tOr (FL.zeE (tE (zal zbl (zac (eV 1) zau)))) (FL.tOr (FL.zeE (tE (zal zbl (zac (eV 2) zau)))) (tB (e2 ltD (eV 2) (eC (.int 1)))))) (zaW (eC (.bool false))) sNx)
  (zaW (e2 eqD (zal zaE (zac (eV 1) (zac (eV 2) zau))) (eC (.int 1)))))))
def zeA : List D -> R D := zbD false 1 3 zha
def zqt : SF := (zaI (zbp (gN 2) (zal zaE (zac (e2 ixD (eV 0) (eC (.int 1))) (zac (e2 ixD (eV 1) (eC (.int 1))) zau))))
  (zaI (zhs 3 4 (e2 zaS (e2 ixD (eV 0) (eC (.int 1))) (eV 2)) (e2 zaS (e2 ixD (eV 1) (eC (.int 1))) (eV 2)))
  (zaI (zbp (gN 5) (e2 zba (e2 zbM (e2 ixD (eV 0) (eC (.int 0))) (eV 4)) (e2 zbM (e2 ixD (eV 1) (eC (.int 0))) (eV 3))))
  (zaI (zbp (gN 6) (zal zaE (zac (eV 5) (zac (eV 2) zau))))
  (zaW (zcH (zac (e2 zaS (eV 5) (eV 6)) (zac (e2 zbM (eV 3) (e2 zaS (e2 ixD (eV 1) (eC (.int 1))) (eV 6))) zau))))))))
def zoq : List D -> R D := zbD false 2 7 zqt
def zoe : SF := (zaI (zhs 2 3 (zal zaE (zac (e2 ixD (eV 0) (eC (.int 0))) (zac (e2 ixD (eV 1) (eC (.int 1))) zau))) (zal zaE (zac (e2 ixD (eV 1) (eC (.int 0))) (zac (e2 ixD (eV 0) (eC (.int 1))) zau))))
  (zaW (zcH (zac (e2 zbM (e2 zaS (e2 ixD (eV 0) (eC (.int 0))) (eV 2)) (e2 zaS (e2 ixD (eV 1) (eC (.int 0))) (eV 3))) (zac (e2 zbM (e2 zaS (e2 ixD (eV 0) (eC (.int 1))) (eV 3)) (e2 zaS (e2 ixD (eV 1) (eC (.int 1))) (eV 2))) zau)))))
def zho : List D -> R D := zbD false 2 4 zoe
def zgx : EF := (zdA 1 [1] (iE (eV 0)) (gN 0) zde (znV (zal zbl (zac (eV 0) zau)) (zfQ leD ltD (eC (.int 0)) (eV 0) (eV 1))))
def zj3 : SF := (zaI (sIf (FL.tOr (FL.zeE (tE (e1 (zd2 "tuple") (eV 0)))) (tB (e2 gtD (e1 zdf (eV 0)) (eC (.int 5))))) (zaW (eC (.bool false))) sNx)
  (zaW (e1 ztM zgx)))
def zhp : List D -> R D := zbD false 2 2 zj3
def zb4 : SF := (sIf (FL.tOr (FL.zeE (tE (zal zbl (zac (eV 0) zau)))) (FL.zeE (tB (zfQ leD leD (eC (.int 1)) (eV 0) (eC (.int 4)))))) zrL sNx)
def za9 : List D -> R D := zbD false 1 1 zb4
def zfX : SF := (zaI (sIf (tB (e2 geD (eV 0) (e2 zhv (eC (.int 10)) (eC (.int 18))))) (zca (zf5 (zac (e2 zf7 (eV 0) (e2 zhv (eC (.int 10)) (eC (.int 18)))) (zac (eC (.int 0)) (zac (eV 1) zau))))) sNx)
  (zca (zf5 (zac (zal zb0 (zac (eV 0) (zac (eV 1) zau))) (zac (eC (.int 0)) (zac (e2 zba (e2 zeF (eV 0) (e2 zba (e2 zhv (eC (.int 10)) (eC (.int 18))) (eC (.int 9)))) (eV 1)) zau))))))
def zbZ : List D -> R D := zbD true 2 2 zfX
def zhd : SF := (zaI (sIf (tB (e2 ltD (m2 ixD 0 (eC (.int 0))) (eV 1))) (zaI (setM 0 (e2 zba (m2 ixD 0 (eC (.int 1))) (eC (.int 1))) (eC (.int 1)))
  (setM 0 (e2 zba (m2 ixD 0 (eC (.int 0))) (e2 zbM (eV 1) (zal zb0 (zac (m2 ixD 0 (eC (.int 2))) (zac (e2 zba (e2 zbM (eC (.int 11)) (m2 ixD 0 (eC (.int 1)))) (eC (.int 5))) zau))))) (eC (.int 0)))) sNx)
  (zaI (zbp (gN 2) (e2 zeF (m2 ixD 0 (eC (.int 0))) (eV 1)))
  (zaI (setM 0 (e2 zaS (m2 ixD 0 (eC (.int 0))) (eV 1)) (eC (.int 0)))
  (zaW (eV 2)))))
def zaB : List D -> R (D × List D) := run [true,false] false 3 zhd
def zhf : SF := (zaW (zal zbU (zac (e2 zba (e2 zbM (e2 ixD (eV 0) (eC (.int 0))) (e2 ixD (eV 1) (eC (.int 1)))) (e2 zbM (e2 ixD (eV 1) (eC (.int 0))) (e2 ixD (eV 0) (eC (.int 1))))) (zac (e2 zbM (e2 ixD (eV 0) (eC (.int 1))) (e2 ixD (eV 1) (eC (.int 1)))) zau))))
def zeD : List D -> R D := zbD false 2 2 zhf
def zj5 : SF := (zaW (zal zbU (zac (e2 zbM (e2 ixD (eV 0) (eC (.int 0))) (e2 ixD (eV 1) (eC (.int 0)))) (zac (e2 zbM (e2 ixD (eV 0) (eC (.int 1))) (e2 ixD (eV 1) (eC (.int 1)))) zau))))
def zdJ : List D -> R D := zbD false 2 2 zj5
def zj4 : SF := (zaI (sIf (FL.tOr (FL.zeE (tE (e1 (zd2 "tuple") (eV 0)))) (tB (e2 neD (e1 zdf (eV 0)) (eC (.int 2))))) (zaW (eC (.bool false))) sNx)
  (zaW (znV (zal zhp (zac (e2 ixD (eV 0) (eC (.int 0))) (zac (eV 1) zau))) (znV (zal zeA (zac (e2 ixD (eV 0) (eC (.int 1))) zau)) (e2 neD (e2 ixD (eV 0) (eC (.int 1))) (eC (.tuple [(.int 0),(.int 1)])))))))
def zhq : List D -> R D := zbD false 2 2 zj4
def zh6 : SF := (zaI (zbp (gN 2) (zal zoq (zac (zhx 0 (eV 1) (eC (.tuple [(.int 0),(.int 1)]))) (zac (eV 2) zau))))
  (sIf (tB (e2 neD (eV 2) (eC (.tuple [(.int 0),(.int 1)])))) (zf6 0 (eV 1) (eV 2)) (sIf (tB (m2r inD (eV 1) 0)) (zn1 0 (eV 1)) sNx)))
def zdY : List D -> R (D × List D) := run [true,false,false] false 3 zh6
def ze0 : SF := (zaI (zbp (gN 1) (zav zaB [.m 0,.v (eC (.int 5))]))
  (zaI (sIf (tB (e2 ltD (eV 1) (eC (.int 3)))) (zaW (e2 ixD (zf5 (zac (zcH (zac (eC (.int 0)) (zac (eC (.int 1)) zau))) (zac (zcH (zac (eC (.int 1)) (zac (eC (.int 1)) zau))) (zac (zcH (zac (e1 ztG (eC (.int 1))) (zac (eC (.int 1)) zau))) zau)))) (eV 1))) sNx)
  (zaI (sIf (tB (e2 eqD (eV 1) (eC (.int 3)))) (zaW (zcH (zac (e2 zf7 (zav zaB [.m 0,.v (eC (.int 13))]) (eC (.int 6))) (zac (eC (.int 1)) zau)))) sNx)
  (zaW (zal zbU (zac (e2 zf7 (zav zaB [.m 0,.v (e2 zba (e2 zbM (eC (.int 2)) (e2 zhv (eC (.int 10)) (eC (.int 3)))) (eC (.int 1)))]) (e2 zhv (eC (.int 10)) (eC (.int 3)))) (zac (e2 zba (eC (.int 1)) (zav zaB [.m 0,.v (eC (.int 9))])) zau)))))))
def zc9 : List D -> R (D × List D) := run [true] false 2 ze0
def zeK : EF := (zdA 1 [0,1] (iR1 (zac (zav zaB [.m 0,.v (e2 zba (eV 2) (eC (.int 1)))]) zau)) (gN 0) zde (zav zaB [.m 1,.v (eV 2)]))
def zhb : SF := (zaW (e1 zmB zeK))
def zeB : List D -> R (D × List D) := run [true,false,false] false 3 zhb
def zh8 : SF := (zaI (zf6 0 (eV 1) (zal zeD (zac (zhx 0 (eV 1) (zcH (zac (eC (.int 0)) (zac (eC (.int 1)) zau)))) (zac (eV 2) zau))))
  (sIf (tB (e2 eqD (e2 ixD (m2 zfR 0 (eV 1)) (eC (.int 0))) (eC (.int 0)))) (zn0 0 (eV 1)) sNx))
def zdZ : List D -> R (D × List D) := run [true,false,false] false 3 zh8
def zfW : SF := (zaI (sIf (FL.zeE (tE (zal zhq (zac (eV 1) (zac (eV 2) zau))))) (zaW (eC (.bool false))) sNx)
  (zaW (eOr (e2 isD (eV 0) (eC .none)) (e2 zsJ (zal zbH (zac (e2 ixD (eV 0) (eC (.int 0))) zau)) (zal zbH (zac (e2 ixD (eV 1) (eC (.int 0))) zau))))))
def zdI : List D -> R D := zbD false 3 3 zfW
def zfK : EF := (zdA 1 [0] (iE (e1 (zeJ zbH) (eV 0))) (gN 0) zde (zcH (zac (eV 0) (zac (e2 zfR (eV 1) (eV 0)) zau))))
def zh3 : SF := (zca zfK)
def zcN : List D -> R D := zbD true 1 1 zh3
def za8 : EF := (zdA 1 [1] (iR1 (zac (e2 zba (eC (.int 5)) (eC (.int 1))) zau)) (gN 0) zde (zal za2 (zac (eV 1) (zac (eV 0) zau))))
def zbz : SF := (sE (zav zdY [.m 3,.v (e2 zba (eV 4) (eV 6)),.v (zal zho (zac (e2 zfR (eV 0) (eV 4)) (zac (e2 zfR (eV 5) (eV 6)) zau)))]))
def zbw : SF := (zir (iD (eV 5)) (gN 6) zbz)
def zby : SF := zbw
def zb1 : SF := (zir (iE (eSl (eV 2) zpk (zpj (e2 zf7 (e2 zba (eC (.int 5)) (eC (.int 1))) (e1 zdf (eV 4)))))) (gN 5) zby)
def zbx : SF := zb1
def zbv : SF := (zir (iD (eV 0)) (gN 4) zbx)
def zbV : SF := (zaI (zoJ 2 (ziq 2 za8))
  (zaI (ziq 3 zfO)
  (zaI zbv
  (zmM 3))))
def zbW : List D -> R D := zbD true 2 7 zbV
def zfJ : SF := (zaI (zbp (gN 6) (zav zeB [.m 0,.v (eV 1),.v (eV 3)]))
  (zaI (zbp (gN 7) (zav zc9 [.m 0]))
  (sIf (tB (e2 neD (e2 ixD (eV 7) (eC (.int 0))) (eC (.int 0)))) (zf6 4 (eV 6) (eV 7)) sNx)))
def zfF : SF := (zir (iR1 (zac (zav zaB [.m 0,.v (e2 zba (eV 2) (eC (.int 1)))]) zau)) (gN 5) zfJ)
def zh7 : SF := (zaI (ziq 4 zfO)
  (zaI zfF
  (zmM 4)))
def zbm : List D -> R (D × List D) := run [true,false,false,false] true 8 zh7
def zeL : EF := (zdA 1 [0] (iE (e1 (zeJ zeC) (eV 0))) (gN 0) zde (zcH (zac (eV 0) (zac (e2 zfR (eV 1) (eV 0)) zau))))
def zhc : SF := (zca zeL)
def zaZ : List D -> R D := zbD true 1 1 zhc
def zfI : SF := (zaI (sIf (FL.zeE (tE (zal zdI (zac (eV 2) (zac (eV 4) (zac (eV 1) zau)))))) zrL sNx)
  (zbp (gN 2) (eV 4)))
def zfE : SF := (zir (ztI (zac (eV 0) zau)) (gT [(gN 3),(gN 4)]) zfI)
def zfL : EF := (zfP 2 [] (iE (eV 0)) (gT [(gN 0),(gN 1)]) zde (eV 0) (eV 1))
def zh5 : SF := (zaI (zbp (gN 2) (eC .none))
  (zaI zfE
  (zca zfL)))
def zcO : List D -> R D := zbD true 2 5 zh5
def za1 : SF := (sIf (tB (e2 ltD (e2 zba (e1 zdf (eV 3)) (e1 zdf (eV 5))) (eC (.int 6)))) (sE (zav zdZ [.m 2,.v (e2 zba (eV 3) (eV 5)),.v (zal zdJ (zac (eV 4) (zac (eV 6) zau)))])) sNx)
def zdh : SF := (zir (iE (eV 1)) (gT [(gN 5),(gN 6)]) za1)
def zci : SF := zdh
def zch : SF := (zir (iE (eV 0)) (gT [(gN 3),(gN 4)]) zci)
def zcf : SF := (zaI (ziq 2 zfO)
  (zaI zch
  (ztB 2 (zca (zal zaZ (zac (eV 2) zau))))))
def zaV : List D -> R D := zbD true 2 7 zcf
def zcA : SF := (zaI (sE (zal za9 (zac (eV 0) zau)))
  (zca (zal zcO (zac (eV 1) (zac (eV 0) zau)))))
def zbb : List D -> R D := zbD true 2 2 zcA
def zdB : SF := (zaI (zhs 3 4 (zal zbb (zac (eV 0) (zac (eV 1) zau))) (zal zbb (zac (eV 0) (zac (eV 2) zau))))
  (zca (zal zcN (zac (zal zbW (zac (eV 3) (zac (eV 4) zau))) zau))))
def za4 : List D -> R D := zbD true 3 5 zdB
def ze3 : SF := (zaI (zbp (gN 8) (e2 ixD (zf5 (zac (zal zaV (zac (eV 4) (zac (eV 5) zau))) (zac (zal zaV (zac (eV 5) (zac (eV 4) zau))) zau))) (e2 zeF (eV 7) (eC (.int 2)))))
  (zaI (ziq 9 (zal za4 (zac (eV 3) (zac (e2 ixD (eV 6) (e2 zeF (eV 7) (eC (.int 2)))) (zac (e2 ixD (eV 6) (e2 zf7 (eC (.int 1)) (e2 zeF (eV 7) (eC (.int 2))))) zau)))))
  (zaI (sIf (FL.tOr (tB (e2 ztH (m1 zpY 9) (e1 zpY (eV 8)))) (tB (e2 neD (eV 6) (zf5 (zac (eV 4) (zac (eV 5) zau)))))) (zaW (eC (.bool false))) sNx)
  (zrR 9 zu1))))
def zig : SF := (zir (iR1 (zac (eC (.int 3)) zau)) (gN 7) ze3)
def zgn : SF := (zaI (ziq 2 (zal zbZ (zac (zal zdK (zac (eV 0) (zac (eV 1) zau))) (zac (eV 1) zau))))
  (zaI (zbp (gN 3) (e2 zba (eC (.int 1)) (zav zaB [.m 2,.v (eC (.int 4))])))
  (zaI (zbp (gN 4) (zal zaZ (zac (zav zbm [.m 2,.v (eV 3),.v (eC (.int 4)),.v (eC (.int 5))]) zau)))
  (zaI (zbp (gN 5) (zal zaZ (zac (zav zbm [.m 2,.v (eV 3),.v (eC (.int 4)),.v (eC (.int 3))]) zau)))
  (zaI (zbp (gN 6) (zf5 (zac (e1 zkt (eV 4)) (zac (e1 zkt (eV 5)) zau))))
  zig)))))
def zif : SF := (zir (iR1 (zac (zal (two zni) (zac (eC (.int 1)) (zac (zal (two zl3) (zac (e1 zdf (eV 0)) (zac (eC (.int 3)) zau))) zau))) zau)) (gN 1) zgn)
def zpS : SF := (zaI zif
  (zaW (eC (.bool true))))
def zor : List D -> R D := zbD false 1 10 zpS
end K57
namespace K57
open PySem L2 PySem.Spec FL
open PyProof.Rows hiding St
def top (i : Nat) : Stmt := PySem.Challenge.pw_swaprest_k57_letters_joined_and_cut.main.body.getD i (.Pass ⟨0,0,0,0⟩)
variable [Cs]
structure Cst (mg : Str -> Option Value) (zaa : Tok) (zaf : Tok) (zai : Addr) : Prop where
  zbt : mg "MOST_LETTERS" = some (.int 4 zaa)
  zbB : mg "MOST_LONG" = some (.int 5 zaf)
  zcX : mg "NOUGHT" = some (.ref zai)
  v_NOUGHT : ∃ o,Cs.C zai = some (.frz o (.tup [.int 0,.int 1]))
section
variable {P : Program} {w : World} {K : PySem.W.Frag} {mg : Str -> Option Value} {base : Heap}
abbrev ze5 : Stmt := top 6
theorem zmc {zaa : Tok} {zaf : Tok} {zai : Addr} (h : Has K mg "is_whole" ze5) (B : Blt mg) (C : Cst mg zaa zaf zai) : Callee P w K mg base "is_whole" 1 ["one"] (spP K 1 false zbl):=by
  have S : zaz ["one"] ["one"] (zao ze5) := ⟨rfl,rfl,rfl,by decide +kernel,rfl,by decide +kernel,by decide +kernel⟩
  refine Callee.pure (zaQ (List.replicate 1 false) false h S rfl (by decide) (fun _ _ _ _ _ _ us hl => match us,hl with | [_],_ => rfl) fun f cdv A outer s H E hr => ?_)
  have hu := hr.units
  have hu1 := zaL hr
  have hu80 := zaC hr
  have PO : ∀ {M : Model} {A : Around} {env : Env},PassesOwn M A env (fun _ _ => False) := PassesOwn.never
  refine zaD ?_
  unfold zh4
  exact (zan (zaF (zlg (zjo zri rfl B.zaM rfl B.zl1 Bt.int (zad 0)) (zld (zsd (zjo zpv rfl B.zaM rfl B.zhQ Bt.bool (zad 0)))))))
abbrev zb3 : Stmt := top 7
theorem zf3 {zaa : Tok} {zaf : Tok} {zai : Addr} (h : Has K mg "common_divisor" zb3) (B : Blt mg) (C : Cst mg zaa zaf zai) : Callee P w K mg base "common_divisor" 1 ["one","other"] (spP K 2 false zaE):=by
  have S : zaz ["one","other","high","low"] ["one","other"] (zao zb3) := ⟨rfl,rfl,rfl,by decide +kernel,rfl,by decide +kernel,by decide +kernel⟩
  refine Callee.pure (zaQ (List.replicate 2 false) false h S rfl (by decide) (fun _ _ _ _ _ _ us hl => match us,hl with | [_,_],_ => rfl) fun f cdv A outer s H E hr => ?_)
  have hu := hr.units
  have hu1 := zaL hr
  have hu80 := zaC hr
  have PO : ∀ {M : Model} {A : Around} {env : Env},PassesOwn M A env (fun _ _ => False) := PassesOwn.never
  refine zaD ?_
  unfold zdd zco
  exact (zam (zfd (i:=2) (j:=3) rfl S.nd rfl rfl (by decide) rfl rfl (za6 (zaR (CallD.ds zrE) rfl B.zjv Bt.abs (zab (zad 0) zaj))) (za6 (zaR (CallD.ds zrE) rfl B.zjv Bt.abs (zab (zad 1) zaj))) rfl)
      (zam (zjj (zdk 3) PO (zbc (zp3 hu) (zad 3) zah (zbo _)) (zan (zfd (i:=2) (j:=3) rfl S.nd rfl rfl (by decide) rfl rfl (zad 3) (zax zhw (zad 2) (zad 3)) rfl)))
      (zan (zaF (zad 2)))))
abbrev zdl : Stmt := top 15
theorem zjF {zaa : Tok} {zaf : Tok} {zai : Addr} (h : Has K mg "word_order" zdl) (B : Blt mg) (C : Cst mg zaa zaf zai) : Callee P w K mg base "word_order" 1 ["word"] (spP K 1 false zbH):=by
  have S : zaz ["word"] ["word"] (zao zdl) := ⟨rfl,rfl,rfl,by decide +kernel,rfl,by decide +kernel,by decide +kernel⟩
  refine Callee.pure (zaQ (List.replicate 1 false) false h S rfl (by decide) (fun _ _ _ _ _ _ us hl => match us,hl with | [_],_ => rfl) fun f cdv A outer s H E hr => ?_)
  have hu := hr.units
  have hu1 := zaL hr
  have hu80 := zaC hr
  have PO : ∀ {M : Model} {A : Around} {env : Env},PassesOwn M A env (fun _ _ => False) := PassesOwn.never
  refine zaD ?_
  unfold zfV
  exact (zan (zaF (zdb (zab (za6 (zaR (CallD.ds zg8) rfl B.zd1 Bt.len (zab (zad 0) zaj))) (zab (zad 0) zaj)))))
abbrev zbP : Stmt := top 20
theorem zfi {zaa : Tok} {zaf : Tok} {zai : Addr} (h : Has K mg "terms_of_length" zbP) (B : Blt mg) (C : Cst mg zaa zaf zai) : Callee P w K mg base "terms_of_length" 1 ["held","length"] (spP K 2 true za2):=by
  have S : zaz ["held","length"] ["held","length"] (zao zbP) := ⟨rfl,rfl,rfl,by decide +kernel,rfl,by decide +kernel,by decide +kernel⟩
  refine Callee.pure (zaQ (List.replicate 2 false) true h S rfl (by decide) (fun _ _ _ _ _ _ us hl => match us,hl with | [_,_],_ => rfl) fun f cdv A outer s H E hr => ?_)
  have hu := hr.units
  have hu1 := zaL hr
  have hu80 := zaC hr
  have PO : ∀ {M : Model} {A : Around} {env : Env},PassesOwn M A env (fun _ _ => False) := PassesOwn.never
  refine zaD ?_
  unfold zcJ zcj
  exact (zan (zcb (zjm ["word"] [0,1] ["word","held","length"] hu1 rfl rfl (by kernel_rfl) rfl (by decide) (ziv (zad 0)) (fun _ _ _ _ => (zaG (i:=0) (nd (M:=["word","held","length"]) (by decide +kernel)) rfl (Or.inl rfl))) (by decide) (fun _ _ _ _ => (zoR (zbc (ztF hu) (za6 (zaR (CallD.ds zg8) rfl B.zd1 Bt.len (zab (zad 0) zaj))) (zad 2) (zbo _)))) (fun _ _ _ _ => (zad 0)) (fun _ _ _ _ => (za0 (zfj hu1) (zad 1) (zad 0))))))
abbrev zdp : Stmt := top 29
theorem zjJ {zaa : Tok} {zaf : Tok} {zai : Addr} (h : Has K mg "_law_mixed" zdp) (B : Blt mg) (C : Cst mg zaa zaf zai) : Callee P w K mg base "_law_mixed" 1 ["_law_cell","_law_k"] (spP K 2 false zb0):=by
  have S : zaz ["_law_cell","_law_k","_law_number_here"] ["_law_cell","_law_k"] (zao zdp) := ⟨rfl,rfl,rfl,by decide +kernel,rfl,by decide +kernel,by decide +kernel⟩
  refine Callee.pure (zaQ (List.replicate 2 false) false h S rfl (by decide) (fun _ _ _ _ _ _ us hl => match us,hl with | [_,_],_ => rfl) fun f cdv A outer s H E hr => ?_)
  have hu := hr.units
  have hu1 := zaL hr
  have hu80 := zaC hr
  have PO : ∀ {M : Model} {A : Around} {env : Env},PassesOwn M A env (fun _ _ => False) := PassesOwn.never
  refine zaD ?_
  unfold zfY
  exact (zam (za5 (i:=2) S.nd rfl (Or.inl rfl) (zax zbY (zax zbY (zax zcU (zax zbY (zax zhw (zad 0) (zax zbY (zax zjt zah zah) zah)) (zax zcU zah (zad 1))) zah) (zax zcU zah (zad 1))) zah))
      (zam (za5 (i:=2) S.nd rfl (Or.inl rfl) (zax zhw (zax zcU (zad 2) (zad 2)) (zax zbY (zax zjt zah zah) zah)))
      (zan (zaF (zax zhw (zax zcU (zax zbY (zad 2) zah) (zax zbY (zad 2) zah)) (zax zbY (zax zjt zah zah) zah))))))
abbrev zgs : Stmt := top 32
theorem znB {zaa : Tok} {zaf : Tok} {zai : Addr} (h : Has K mg "_law_at" zgs) (B : Blt mg) (C : Cst mg zaa zaf zai) : Callee P w K mg base "_law_at" 1 ["_law_script","_law_k"] (spP K 2 false zdK):=by
  have S : zaz ["_law_script","_law_k"] ["_law_script","_law_k"] (zao zgs) := ⟨rfl,rfl,rfl,by decide +kernel,rfl,by decide +kernel,by decide +kernel⟩
  refine Callee.pure (zaQ (List.replicate 2 false) false h S rfl (by decide) (fun _ _ _ _ _ _ us hl => match us,hl with | [_,_],_ => rfl) fun f cdv A outer s H E hr => ?_)
  have hu := hr.units
  have hu1 := zaL hr
  have hu80 := zaC hr
  have PO : ∀ {M : Model} {A : Around} {env : Env},PassesOwn M A env (fun _ _ => False) := PassesOwn.never
  refine zaD ?_
  unfold zj6
  exact (zam (zbO (zbc (zrM hu) (zad 1) (za6 (zaR (CallD.ds zg8) rfl B.zd1 Bt.len (zab (zad 0) zaj))) (zbo _)) (zan (zaF (za0 zcn (zad 0) (zad 1)))) zbh)
      (zan (zaF (zax zbY (zax zcU zah (zad 1)) zah))))
abbrev zfa : Stmt := top 33
theorem zmh {zaa : Tok} {zaf : Tok} {zai : Addr} (h : Has K mg "_law_low" zfa) (B : Blt mg) (C : Cst mg zaa zaf zai) : Callee P w K mg base "_law_low" 1 ["_law_top","_law_bottom"] (spP K 2 false zbU):=by
  have S : zaz ["_law_top","_law_bottom","_law_one","_law_other"] ["_law_top","_law_bottom"] (zao zfa) := ⟨rfl,rfl,rfl,by decide +kernel,rfl,by decide +kernel,by decide +kernel⟩
  refine Callee.pure (zaQ (List.replicate 2 false) false h S rfl (by decide) (fun _ _ _ _ _ _ us hl => match us,hl with | [_,_],_ => rfl) fun f cdv A outer s H E hr => ?_)
  have hu := hr.units
  have hu1 := zaL hr
  have hu80 := zaC hr
  have PO : ∀ {M : Model} {A : Around} {env : Env},PassesOwn M A env (fun _ _ => False) := PassesOwn.never
  refine zaD ?_
  unfold zh9 zfG
  exact (zam (za5 (i:=2) S.nd rfl (Or.inl rfl) (za6 (zaR (CallD.ds zrE) rfl B.zjv Bt.abs (zab (zad 0) zaj))))
      (zam (za5 (i:=3) S.nd rfl (Or.inl rfl) (zad 1))
      (zam (zjj (zdk 3) PO (zbc (zp3 hu) (zad 3) zah (zbo _)) (zan (zfd (i:=2) (j:=3) rfl S.nd rfl rfl (by decide) rfl rfl (zad 3) (zax zhw (zad 2) (zad 3)) rfl)))
      (zan (zaF (zdb (zab (zax zds (zad 0) (zad 2)) (zab (zax zds (zad 1) (zad 2)) zaj))))))))
abbrev zeg : Stmt := top 39
theorem zkA {zaa : Tok} {zaf : Tok} {zai : Addr} (h : Has K mg "_law_rank" zeg) (B : Blt mg) (C : Cst mg zaa zaf zai) : Callee P w K mg base "_law_rank" 1 ["_law_word_here"] (spP K 1 false zeC):=by
  have S : zaz ["_law_word_here"] ["_law_word_here"] (zao zeg) := ⟨rfl,rfl,rfl,by decide +kernel,rfl,by decide +kernel,by decide +kernel⟩
  refine Callee.pure (zaQ (List.replicate 1 false) false h S rfl (by decide) (fun _ _ _ _ _ _ us hl => match us,hl with | [_],_ => rfl) fun f cdv A outer s H E hr => ?_)
  have hu := hr.units
  have hu1 := zaL hr
  have hu80 := zaC hr
  have PO : ∀ {M : Model} {A : Around} {env : Env},PassesOwn M A env (fun _ _ => False) := PassesOwn.never
  refine zaD ?_
  unfold zhe
  exact (zan (zaF (zdb (zab (za6 (zaR (CallD.ds zg8) rfl B.zd1 Bt.len (zab (zad 0) zaj))) (zab (zad 0) zaj)))))
abbrev zec : Stmt := top 8
theorem zkw {zaa : Tok} {zaf : Tok} {zai : Addr} (h : Has K mg "is_number" zec) (B : Blt mg) (C : Cst mg zaa zaf zai) (c_common_divisor : Callee P w K mg base "common_divisor" 1 ["one","other"] (spP K 2 false zaE)) (c_is_whole : Callee P w K mg base "is_whole" 1 ["one"] (spP K 1 false zbl)) : Callee P w K mg base "is_number" 2 ["one"] (spP K 1 false zeA):=by
  have S : zaz ["one","top","bottom"] ["one"] (zao zec) := ⟨rfl,rfl,rfl,by decide +kernel,rfl,by decide +kernel,by decide +kernel⟩
  refine Callee.pure (zaQ (List.replicate 1 false) false h S rfl (by decide) (fun _ _ _ _ _ _ us hl => match us,hl with | [_],_ => rfl) fun f cdv A outer s H E hr => ?_)
  have hu := hr.units
  have hu1 := zaL hr
  have hu80 := zaC hr
  have PO : ∀ {M : Model} {A : Around} {env : Env},PassesOwn M A env (fun _ _ => False) := PassesOwn.never
  refine zaD ?_
  unfold zha
  exact (zam (zbO (PVW.pvt (zgy (zcS (zdq zjc (zjo kit_tuple rfl B.zaM rfl B.zcW Bt.tuple (zad 0)))) (zfc (zbc (zp3 hu) (za6 (zaR (CallD.ds zg8) rfl B.zd1 Bt.len (zab (zad 0) zaj))) zah (zbo _))))) (zan (zaF zkk)) zbh)
      (zam (zqO (zad 0) (zgB rfl (zbr (zaG (i:=1) S.nd rfl (Or.inl rfl)) (zbr (zaG (i:=2) S.nd rfl (Or.inl rfl)) zeM))))
      (zam (zbO (PVW.pvt (zgy (zcS (zdq zjc (zaJ c_is_whole hr rfl zap (zab (zad 1) zaj) (zag zat)))) (zgy (zcS (zdq zjc (zaJ c_is_whole hr rfl zap (zab (zad 2) zaj) (zag zat)))) (zfc (zbc (zrM hu) (zad 2) zah (zbo _)))))) (zan (zaF zkk)) zbh)
      (zan (zaF (zlf (ztF hu) (zaJ c_common_divisor hr rfl zap (zab (zad 1) (zab (zad 2) zaj)) (zag (zag zat))) zah (zbo _)))))))
abbrev zmL : Stmt := top 9
theorem zsU {zaa : Tok} {zaf : Tok} {zai : Addr} (h : Has K mg "plus" zmL) (B : Blt mg) (C : Cst mg zaa zaf zai) (c_common_divisor : Callee P w K mg base "common_divisor" 1 ["one","other"] (spP K 2 false zaE)) : Callee P w K mg base "plus" 2 ["one","other"] (spP K 2 false zoq):=by
  have S : zaz ["one","other","shared","mine","its","top","again"] ["one","other"] (zao zmL) := ⟨rfl,rfl,rfl,by decide +kernel,rfl,by decide +kernel,by decide +kernel⟩
  refine Callee.pure (zaQ (List.replicate 2 false) false h S rfl (by decide) (fun _ _ _ _ _ _ us hl => match us,hl with | [_,_],_ => rfl) fun f cdv A outer s H E hr => ?_)
  have hu := hr.units
  have hu1 := zaL hr
  have hu80 := zaC hr
  have PO : ∀ {M : Model} {A : Around} {env : Env},PassesOwn M A env (fun _ _ => False) := PassesOwn.never
  refine zaD ?_
  unfold zqt
  exact (zam (za5 (i:=2) S.nd rfl (Or.inl rfl) (zaJ c_common_divisor hr rfl zap (zab (za0 zcn (zad 0) zah) (zab (za0 zcn (zad 1) zah) zaj)) (zag (zag zat))))
      (zam (zfd (i:=3) (j:=4) rfl S.nd rfl rfl (by decide) rfl rfl (zax zds (za0 zcn (zad 0) zah) (zad 2)) (zax zds (za0 zcn (zad 1) zah) (zad 2)) rfl)
      (zam (za5 (i:=5) S.nd rfl (Or.inl rfl) (zax zbY (zax zcU (za0 zcn (zad 0) zah) (zad 4)) (zax zcU (za0 zcn (zad 1) zah) (zad 3))))
      (zam (za5 (i:=6) S.nd rfl (Or.inl rfl) (zaJ c_common_divisor hr rfl zap (zab (zad 5) (zab (zad 2) zaj)) (zag (zag zat))))
      (zan (zaF (zdb (zab (zax zds (zad 5) (zad 6)) (zab (zax zcU (zad 3) (zax zds (za0 zcn (zad 1) zah) (zad 6))) zaj)))))))))
abbrev zki : Stmt := top 10
theorem zrk {zaa : Tok} {zaf : Tok} {zai : Addr} (h : Has K mg "times" zki) (B : Blt mg) (C : Cst mg zaa zaf zai) (c_common_divisor : Callee P w K mg base "common_divisor" 1 ["one","other"] (spP K 2 false zaE)) : Callee P w K mg base "times" 2 ["one","other"] (spP K 2 false zho):=by
  have S : zaz ["one","other","mine","its"] ["one","other"] (zao zki) := ⟨rfl,rfl,rfl,by decide +kernel,rfl,by decide +kernel,by decide +kernel⟩
  refine Callee.pure (zaQ (List.replicate 2 false) false h S rfl (by decide) (fun _ _ _ _ _ _ us hl => match us,hl with | [_,_],_ => rfl) fun f cdv A outer s H E hr => ?_)
  have hu := hr.units
  have hu1 := zaL hr
  have hu80 := zaC hr
  have PO : ∀ {M : Model} {A : Around} {env : Env},PassesOwn M A env (fun _ _ => False) := PassesOwn.never
  refine zaD ?_
  unfold zoe
  exact (zam (zfd (i:=2) (j:=3) rfl S.nd rfl rfl (by decide) rfl rfl (zaJ c_common_divisor hr rfl zap (zab (za0 zcn (zad 0) zah) (zab (za0 zcn (zad 1) zah) zaj)) (zag (zag zat))) (zaJ c_common_divisor hr rfl zap (zab (za0 zcn (zad 1) zah) (zab (za0 zcn (zad 0) zah) zaj)) (zag (zag zat))) rfl)
      (zan (zaF (zdb (zab (zax zcU (zax zds (za0 zcn (zad 0) zah) (zad 2)) (zax zds (za0 zcn (zad 1) zah) (zad 3))) (zab (zax zcU (zax zds (za0 zcn (zad 0) zah) (zad 3)) (zax zds (za0 zcn (zad 1) zah) (zad 2))) zaj))))))
abbrev zgp : Stmt := top 13
theorem zny {zaa : Tok} {zaf : Tok} {zai : Addr} (h : Has K mg "is_word" zgp) (B : Blt mg) (C : Cst mg zaa zaf zai) (c_is_whole : Callee P w K mg base "is_whole" 1 ["one"] (spP K 1 false zbl)) : Callee P w K mg base "is_word" 2 ["word","count"] (spP K 2 false zhp):=by
  have S : zaz ["word","count"] ["word","count"] (zao zgp) := ⟨rfl,rfl,rfl,by decide +kernel,rfl,by decide +kernel,by decide +kernel⟩
  refine Callee.pure (zaQ (List.replicate 2 false) false h S rfl (by decide) (fun _ _ _ _ _ _ us hl => match us,hl with | [_,_],_ => rfl) fun f cdv A outer s H E hr => ?_)
  have hu := hr.units
  have hu1 := zaL hr
  have hu80 := zaC hr
  have PO : ∀ {M : Model} {A : Around} {env : Env},PassesOwn M A env (fun _ _ => False) := PassesOwn.never
  refine zaD ?_
  unfold zj3 zgx
  exact (zam (zbO (PVW.pvt (zgy (zcS (zdq zjc (zjo kit_tuple rfl B.zaM rfl B.zcW Bt.tuple (zad 0)))) (zfc (zbc (zvv hu) (za6 (zaR (CallD.ds zg8) rfl B.zd1 Bt.len (zab (zad 0) zaj))) (ziw (v:=(.int 5)) rfl C.zbB ⟨_,rfl⟩ (fun _ => zck _)) (zbo _))))) (zan (zaF zkk)) zbh)
      (zan (zaF (za6 (zaR (CallD.ds (zuH rfl)) rfl B.zl2 Bt.all (zab (PVN.pv (zf9 ["one"] [1] ["one","count"] rfl rfl (by kernel_rfl) rfl (by decide) (zek (zad 0)) (fun _ _ _ _ => (zaG (i:=0) (nd (M:=["one","count"]) (by decide +kernel)) rfl (Or.inl rfl))) (by decide) (fun _ _ _ _ => zdM) (fun _ _ _ _ => (zlg (zaJ c_is_whole hr rfl zap (zab (zad 0) zaj) (zag zat)) (zld (zo0 (zum hu) (zrM hu) zah (zad 0) (zad 1))))))) zaj))))))
abbrev zb2 : Stmt := top 23
theorem zf2 {zaa : Tok} {zaf : Tok} {zai : Addr} (h : Has K mg "refuse_letters" zb2) (B : Blt mg) (C : Cst mg zaa zaf zai) (c_is_whole : Callee P w K mg base "is_whole" 1 ["one"] (spP K 1 false zbl)) : Callee P w K mg base "refuse_letters" 2 ["count"] (spP K 1 false za9):=by
  have S : zaz ["count"] ["count"] (zao zb2) := ⟨rfl,rfl,rfl,by decide +kernel,rfl,by decide +kernel,by decide +kernel⟩
  refine Callee.pure (zaQ (List.replicate 1 false) false h S rfl (by decide) (fun _ _ _ _ _ _ us hl => match us,hl with | [_],_ => rfl) fun f cdv A outer s H E hr => ?_)
  have hu := hr.units
  have hu1 := zaL hr
  have hu80 := zaC hr
  have PO : ∀ {M : Model} {A : Around} {env : Env},PassesOwn M A env (fun _ _ => False) := PassesOwn.never
  refine zaD ?_
  unfold zb4
  exact (zan (zbO (PVW.pvt (zgy (zcS (zdq zjc (zaJ c_is_whole hr rfl zap (zab (zad 0) zaj) (zag zat)))) (zfc (zcS (zmU (zum hu) (zum hu) zah (zad 0) (ziw (v:=(.int 4)) rfl C.zbt ⟨_,rfl⟩ (fun _ => zck _))))))) (zan zjk) zbh))
abbrev zdo : Stmt := top 30
theorem zjI {zaa : Tok} {zaf : Tok} {zai : Addr} (h : Has K mg "_law_purse" zdo) (B : Blt mg) (C : Cst mg zaa zaf zai) (c__law_mixed : Callee P w K mg base "_law_mixed" 1 ["_law_cell","_law_k"] (spP K 2 false zb0)) : Callee P w K mg base "_law_purse" 2 ["_law_cell","_law_k"] (spP K 2 true zbZ):=by
  have S : zaz ["_law_cell","_law_k"] ["_law_cell","_law_k"] (zao zdo) := ⟨rfl,rfl,rfl,by decide +kernel,rfl,by decide +kernel,by decide +kernel⟩
  refine Callee.pure (zaQ (List.replicate 2 false) true h S rfl (by decide) (fun _ _ _ _ _ _ us hl => match us,hl with | [_,_],_ => rfl) fun f cdv A outer s H E hr => ?_)
  have hu := hr.units
  have hu1 := zaL hr
  have hu80 := zaC hr
  have PO : ∀ {M : Model} {A : Around} {env : Env},PassesOwn M A env (fun _ _ => False) := PassesOwn.never
  refine zaD ?_
  unfold zfX
  exact (zam (zbO (zbc (zvw hu) (zad 0) (zax zjt zah zah) (zbo _)) (zan (zcb (zfe (zab (zax zm9 (zad 0) (zax zjt zah zah)) (zab zah (zab (zad 1) zaj)))))) zbh)
      (zan (zcb (zfe (zab (zaJ c__law_mixed hr rfl zap (zab (zad 0) (zab (zad 1) zaj)) (zag (zag zat))) (zab zah (zab (zax zbY (zax zhw (zad 0) (zax zbY (zax zjt zah zah) zah)) (zad 1)) zaj)))))))
abbrev zef : Stmt := top 31
theorem zkz {zaa : Tok} {zaf : Tok} {zai : Addr} (h : Has K mg "_law_take" zef) (B : Blt mg) (C : Cst mg zaa zaf zai) (c__law_mixed : Callee P w K mg base "_law_mixed" 1 ["_law_cell","_law_k"] (spP K 2 false zb0)) : Callee P w K mg base "_law_take" 2 ["_law_purse_here","_law_many"] (spF K [true,false] false zaB):=by
  have S : zaz ["_law_purse_here","_law_many","_law_got"] ["_law_purse_here","_law_many"] (zao zef) := ⟨rfl,rfl,rfl,by decide +kernel,rfl,by decide +kernel,by decide +kernel⟩
  refine (zaQ [true,false] false h S rfl (by decide) (fun _ _ _ _ _ _ us hl => match us,hl with | [_,_],_ => rfl) fun f cdv A outer s H E hr => ?_)
  have hu := hr.units
  have hu1 := zaL hr
  have hu80 := zaC hr
  have PO : ∀ {M : Model} {A : Around} {env : Env},PassesOwn M A env (fun _ _ => False) := PassesOwn.never
  refine zaD ?_
  unfold zhd
  exact (zam (zbO (zbc (zrM hu) (zfM 0 zcn (pv 0) zah) (zad 1) (zbo _)) (zam (zis 0 (pv 0) (zax zbY (zfM 0 zcn (pv 0) zah) zah) zah)
      (zan (zis 0 (pv 0) (zax zbY (zfM 0 zcn (pv 0) zah) (zax zcU (zad 1) (zaJ c__law_mixed hr rfl zap (zab (zfM 0 zcn (pv 0) zah) (zab (zax zbY (zax zcU zah (zfM 0 zcn (pv 0) zah)) zah) zaj)) (zag (zag zat))))) zah))) zbh)
      (zam (za5 (i:=2) S.nd rfl (Or.inl rfl) (zax zhw (zfM 0 zcn (pv 0) zah) (zad 1)))
      (zam (zis 0 (pv 0) (zax zds (zfM 0 zcn (pv 0) zah) (zad 1)) zah)
      (zan (zaF (zad 2))))))
abbrev zeh : Stmt := top 34
theorem zkB {zaa : Tok} {zaf : Tok} {zai : Addr} (h : Has K mg "_law_plus" zeh) (B : Blt mg) (C : Cst mg zaa zaf zai) (c__law_low : Callee P w K mg base "_law_low" 1 ["_law_top","_law_bottom"] (spP K 2 false zbU)) : Callee P w K mg base "_law_plus" 2 ["_law_one","_law_other"] (spP K 2 false zeD):=by
  have S : zaz ["_law_one","_law_other"] ["_law_one","_law_other"] (zao zeh) := ⟨rfl,rfl,rfl,by decide +kernel,rfl,by decide +kernel,by decide +kernel⟩
  refine Callee.pure (zaQ (List.replicate 2 false) false h S rfl (by decide) (fun _ _ _ _ _ _ us hl => match us,hl with | [_,_],_ => rfl) fun f cdv A outer s H E hr => ?_)
  have hu := hr.units
  have hu1 := zaL hr
  have hu80 := zaC hr
  have PO : ∀ {M : Model} {A : Around} {env : Env},PassesOwn M A env (fun _ _ => False) := PassesOwn.never
  refine zaD ?_
  unfold zhf
  exact (zan (zaF (zaJ c__law_low hr rfl zap (zab (zax zbY (zax zcU (za0 zcn (zad 0) zah) (za0 zcn (zad 1) zah)) (zax zcU (za0 zcn (zad 1) zah) (za0 zcn (zad 0) zah))) (zab (zax zcU (za0 zcn (zad 0) zah) (za0 zcn (zad 1) zah)) zaj)) (zag (zag zat)))))
abbrev zgr : Stmt := top 35
theorem znA {zaa : Tok} {zaf : Tok} {zai : Addr} (h : Has K mg "_law_by" zgr) (B : Blt mg) (C : Cst mg zaa zaf zai) (c__law_low : Callee P w K mg base "_law_low" 1 ["_law_top","_law_bottom"] (spP K 2 false zbU)) : Callee P w K mg base "_law_by" 2 ["_law_one","_law_other"] (spP K 2 false zdJ):=by
  have S : zaz ["_law_one","_law_other"] ["_law_one","_law_other"] (zao zgr) := ⟨rfl,rfl,rfl,by decide +kernel,rfl,by decide +kernel,by decide +kernel⟩
  refine Callee.pure (zaQ (List.replicate 2 false) false h S rfl (by decide) (fun _ _ _ _ _ _ us hl => match us,hl with | [_,_],_ => rfl) fun f cdv A outer s H E hr => ?_)
  have hu := hr.units
  have hu1 := zaL hr
  have hu80 := zaC hr
  have PO : ∀ {M : Model} {A : Around} {env : Env},PassesOwn M A env (fun _ _ => False) := PassesOwn.never
  refine zaD ?_
  unfold zj5
  exact (zan (zaF (zaJ c__law_low hr rfl zap (zab (zax zcU (za0 zcn (zad 0) zah) (za0 zcn (zad 1) zah)) (zab (zax zcU (za0 zcn (zad 0) zah) (za0 zcn (zad 1) zah)) zaj)) (zag (zag zat)))))
abbrev zgq : Stmt := top 14
theorem znz {zaa : Tok} {zaf : Tok} {zai : Addr} (h : Has K mg "is_term" zgq) (B : Blt mg) (C : Cst mg zaa zaf zai) (c_is_word : Callee P w K mg base "is_word" 2 ["word","count"] (spP K 2 false zhp)) (c_is_number : Callee P w K mg base "is_number" 2 ["one"] (spP K 1 false zeA)) : Callee P w K mg base "is_term" 3 ["term","count"] (spP K 2 false zhq):=by
  have S : zaz ["term","count"] ["term","count"] (zao zgq) := ⟨rfl,rfl,rfl,by decide +kernel,rfl,by decide +kernel,by decide +kernel⟩
  refine Callee.pure (zaQ (List.replicate 2 false) false h S rfl (by decide) (fun _ _ _ _ _ _ us hl => match us,hl with | [_,_],_ => rfl) fun f cdv A outer s H E hr => ?_)
  have hu := hr.units
  have hu1 := zaL hr
  have hu80 := zaC hr
  have PO : ∀ {M : Model} {A : Around} {env : Env},PassesOwn M A env (fun _ _ => False) := PassesOwn.never
  refine zaD ?_
  unfold zj4
  exact (zam (zbO (PVW.pvt (zgy (zcS (zdq zjc (zjo kit_tuple rfl B.zaM rfl B.zcW Bt.tuple (zad 0)))) (zfc (zbc (zp3 hu) (za6 (zaR (CallD.ds zg8) rfl B.zd1 Bt.len (zab (zad 0) zaj))) zah (zbo _))))) (zan (zaF zkk)) zbh)
      (zan (zaF (zlg (zaJ c_is_word hr rfl zap (zab (za0 zcn (zad 0) zah) (zab (zad 1) zaj)) (zag (zag zat))) (zlg (zaJ c_is_number hr rfl zap (zab (za0 zcn (zad 0) zah) zaj) (zag zat)) (zld (zlf (zp3 hu) (za0 zcn (zad 0) zah) (zmW rfl C.zcX C.v_NOUGHT (fun _ => by simp [zak,Fz])) (zbo _))))))))
abbrev ze7 : Stmt := top 19
theorem zme {zaa : Tok} {zaf : Tok} {zai : Addr} (h : Has K mg "add_term" ze7) (B : Blt mg) (C : Cst mg zaa zaf zai) (c_plus : Callee P w K mg base "plus" 2 ["one","other"] (spP K 2 false zoq)) : Callee P w K mg base "add_term" 3 ["held","word","number"] (spF K [true,false,false] false zdY):=by
  have S : zaz ["held","word","number"] ["held","word","number"] (zao ze7) := ⟨rfl,rfl,rfl,by decide +kernel,rfl,by decide +kernel,by decide +kernel⟩
  refine (zaQ [true,false,false] false h S rfl (by decide) (fun _ _ _ _ _ _ us hl => match us,hl with | [_,_,_],_ => rfl) fun f cdv A outer s H E hr => ?_)
  have hu := hr.units
  have hu1 := zaL hr
  have hu80 := zaC hr
  have PO : ∀ {M : Model} {A : Around} {env : Env},PassesOwn M A env (fun _ _ => False) := PassesOwn.never
  refine zaD ?_
  unfold zh6
  exact (zam (za5 (i:=2) S.nd rfl (Or.inl rfl) (zaJ c_plus hr rfl zap (zab (zle 0 hu1 (pv 0) (zad 1) (zmW rfl C.zcX C.v_NOUGHT (fun _ => by simp [zak,Fz])) ⟨rfl,rfl,rfl,rfl⟩) (zab (zad 2) zaj)) (zag (zag zat))))
      (zan (zbO (zbc (zp3 hu) (zad 2) (zmW rfl C.zcX C.v_NOUGHT (fun _ => by simp [zak,Fz])) (zbo _)) (zan (ziu 0 hu1 (pv 0) (zad 2) (zad 1))) (zan (zbO (zqM 0 (zsB hu1) (zad 1) (pv 0) rfl) (zan (zoV 0 hu1 (pv 0) (zad 1))) zbh)))))
abbrev zcP : Stmt := top 36
theorem ziL {zaa : Tok} {zaf : Tok} {zai : Addr} (h : Has K mg "_law_number" zcP) (B : Blt mg) (C : Cst mg zaa zaf zai) (c__law_take : Callee P w K mg base "_law_take" 2 ["_law_purse_here","_law_many"] (spF K [true,false] false zaB)) (c__law_low : Callee P w K mg base "_law_low" 1 ["_law_top","_law_bottom"] (spP K 2 false zbU)) : Callee P w K mg base "_law_number" 3 ["_law_purse_here"] (spF K [true] false zc9):=by
  have S : zaz ["_law_purse_here","_law_way"] ["_law_purse_here"] (zao zcP) := ⟨rfl,rfl,rfl,by decide +kernel,rfl,by decide +kernel,by decide +kernel⟩
  refine (zaQ [true] false h S rfl (by decide) (fun _ _ _ _ _ _ us hl => match us,hl with | [_],_ => rfl) fun f cdv A outer s H E hr => ?_)
  have hu := hr.units
  have hu1 := zaL hr
  have hu80 := zaC hr
  have PO : ∀ {M : Model} {A : Around} {env : Env},PassesOwn M A env (fun _ _ => False) := PassesOwn.never
  refine zaD ?_
  unfold ze0
  exact (zam (za5 (i:=1) S.nd rfl (Or.inl rfl) (zbA (a:=[.m 0,.v (eC (.int 5))]) c__law_take zbf (by decide) (by decide) hr rfl zap (zcq 0 (pv 0) (zbE zah zbe))))
      (zam (zbO (zbc (zrM hu) (zad 1) zah (zbo _)) (zan (zaF (za0 zcn (PVN.pv (zfe (zab (zdb (zab zah (zab zah zaj))) (zab (zdb (zab zah (zab zah zaj))) (zab (zdb (zab (zt5 ztR zah) (zab zah zaj))) zaj))))) (zad 1)))) zbh)
      (zam (zbO (zbc (ztF hu) (zad 1) zah (zbo _)) (zan (zaF (zdb (zab (zax zm9 (zbA (a:=[.m 0,.v (eC (.int 13))]) c__law_take zbf (by decide) (by decide) hr rfl zap (zcq 0 (pv 0) (zbE zah zbe))) zah) (zab zah zaj))))) zbh)
      (zan (zaF (zaJ c__law_low hr rfl zap (zab (zax zm9 (zbA (a:=[.m 0,.v (e2 zba (e2 zbM (eC (.int 2)) (e2 zhv (eC (.int 10)) (eC (.int 3)))) (eC (.int 1)))]) c__law_take zbf (by decide) (by decide) hr rfl zap (zcq 0 (pv 0) (zbE (zax zbY (zax zcU zah (zax zjt zah zah)) zah) zbe))) (zax zjt zah zah)) (zab (zax zbY zah (zbA (a:=[.m 0,.v (eC (.int 9))]) c__law_take zbf (by decide) (by decide) hr rfl zap (zcq 0 (pv 0) (zbE zah zbe)))) zaj)) (zag (zag zat))))))))
abbrev zed : Stmt := top 37
theorem zkx {zaa : Tok} {zaf : Tok} {zai : Addr} (h : Has K mg "_law_word" zed) (B : Blt mg) (C : Cst mg zaa zaf zai) (c__law_take : Callee P w K mg base "_law_take" 2 ["_law_purse_here","_law_many"] (spF K [true,false] false zaB)) : Callee P w K mg base "_law_word" 3 ["_law_purse_here","_law_count","_law_most"] (spF K [true,false,false] false zeB):=by
  have S : zaz ["_law_purse_here","_law_count","_law_most"] ["_law_purse_here","_law_count","_law_most"] (zao zed) := ⟨rfl,rfl,rfl,by decide +kernel,rfl,by decide +kernel,by decide +kernel⟩
  refine (zaQ [true,false,false] false h S rfl (by decide) (fun _ _ _ _ _ _ us hl => match us,hl with | [_,_,_],_ => rfl) fun f cdv A outer s H E hr => ?_)
  have hu := hr.units
  have hu1 := zaL hr
  have hu80 := zaC hr
  have PO : ∀ {M : Model} {A : Around} {env : Env},PassesOwn M A env (fun _ _ => False) := PassesOwn.never
  refine zaD ?_
  unfold zhb zeK
  exact (zan (zaF (za6 (zeN (CallD.ds zrD) rfl B.zcW Bt.tuple (zab (PVN.pv (zf9 ["_law_place"] [0,1] ["_law_place","_law_purse_here","_law_count"] rfl rfl (by kernel_rfl) rfl (by decide) (zcF rfl B.zcw (zab (zbA (a:=[.m 0,.v (e2 zba (eV 2) (eC (.int 1)))]) c__law_take zbf (by decide) (by decide) hr rfl zap (zcq 0 (pv 0) (zbE (zax zbY (zad 2) zah) zbe))) zaj)) (fun _ _ _ _ => (zaG (i:=0) (nd (M:=["_law_place","_law_purse_here","_law_count"]) (by decide +kernel)) rfl (Or.inl rfl))) (by decide) (fun _ _ _ _ => zdM) (fun _ _ _ _ => (zbA (a:=[.m 1,.v (eV 2)]) c__law_take zbf (by decide) (by decide) hr rfl zap (zcq 1 (pv 1) (zbE (zad 2) zbe)))))) zaj)))))
abbrev ze9 : Stmt := top 41
theorem zmg {zaa : Tok} {zaf : Tok} {zai : Addr} (h : Has K mg "_law_put" ze9) (B : Blt mg) (C : Cst mg zaa zaf zai) (c__law_plus : Callee P w K mg base "_law_plus" 2 ["_law_one","_law_other"] (spP K 2 false zeD)) : Callee P w K mg base "_law_put" 3 ["_law_found","_law_word_here","_law_number_here"] (spF K [true,false,false] false zdZ):=by
  have S : zaz ["_law_found","_law_word_here","_law_number_here"] ["_law_found","_law_word_here","_law_number_here"] (zao ze9) := ⟨rfl,rfl,rfl,by decide +kernel,rfl,by decide +kernel,by decide +kernel⟩
  refine (zaQ [true,false,false] false h S rfl (by decide) (fun _ _ _ _ _ _ us hl => match us,hl with | [_,_,_],_ => rfl) fun f cdv A outer s H E hr => ?_)
  have hu := hr.units
  have hu1 := zaL hr
  have hu80 := zaC hr
  have PO : ∀ {M : Model} {A : Around} {env : Env},PassesOwn M A env (fun _ _ => False) := PassesOwn.never
  refine zaD ?_
  unfold zh8
  exact (zam (ziu 0 hu1 (pv 0) (zaJ c__law_plus hr rfl zap (zab (zle 0 hu1 (pv 0) (zad 1) (zdb (zab zah (zab zah zaj))) ⟨rfl,rfl,rfl,rfl⟩) (zab (zad 2) zaj)) (zag (zag zat))) (zad 1))
      (zan (zbO (zbc (ztF hu) (za0 zcn (zfM 0 (zfj hu1) (pv 0) (zad 1)) zah) zah (zbo _)) (zan (zoU 0 hu1 (pv 0) (zad 1) ⟨rfl,rfl,rfl,rfl⟩)) zbh)))
abbrev zdm : Stmt := top 16
theorem zjG {zaa : Tok} {zaf : Tok} {zai : Addr} (h : Has K mg "may_follow" zdm) (B : Blt mg) (C : Cst mg zaa zaf zai) (c_is_term : Callee P w K mg base "is_term" 3 ["term","count"] (spP K 2 false zhq)) (c_word_order : Callee P w K mg base "word_order" 1 ["word"] (spP K 1 false zbH)) : Callee P w K mg base "may_follow" 4 ["ahead","term","count"] (spP K 3 false zdI):=by
  have S : zaz ["ahead","term","count"] ["ahead","term","count"] (zao zdm) := ⟨rfl,rfl,rfl,by decide +kernel,rfl,by decide +kernel,by decide +kernel⟩
  refine Callee.pure (zaQ (List.replicate 3 false) false h S rfl (by decide) (fun _ _ _ _ _ _ us hl => match us,hl with | [_,_,_],_ => rfl) fun f cdv A outer s H E hr => ?_)
  have hu := hr.units
  have hu1 := zaL hr
  have hu80 := zaC hr
  have PO : ∀ {M : Model} {A : Around} {env : Env},PassesOwn M A env (fun _ _ => False) := PassesOwn.never
  refine zaD ?_
  unfold zfW
  exact (zam (zbO (zcS (zdq zjc (zaJ c_is_term hr rfl zap (zab (zad 1) (zab (zad 2) zaj)) (zag (zag zat))))) (zan (zaF zkk)) zbh)
      (zan (zaF (zt6 (zlf zun (zad 0) zpZ (zbo _)) (zld (zlf (zul hu) (zaJ c_word_order hr rfl zap (zab (za0 zcn (zad 0) zah) zaj) (zag zat)) (zaJ c_word_order hr rfl zap (zab (za0 zcn (zad 1) zah) zaj) (zag zat)) (zbo _)))))))
abbrev ze4 : Stmt := top 18
theorem zmb {zaa : Tok} {zaf : Tok} {zai : Addr} (h : Has K mg "told_sum" ze4) (B : Blt mg) (C : Cst mg zaa zaf zai) (c_word_order : Callee P w K mg base "word_order" 1 ["word"] (spP K 1 false zbH)) : Callee P w K mg base "told_sum" 4 ["held"] (spP K 1 true zcN):=by
  have S : zaz ["held"] ["held"] (zao ze4) := ⟨rfl,rfl,rfl,by decide +kernel,rfl,by decide +kernel,by decide +kernel⟩
  refine Callee.pure (zaQ (List.replicate 1 false) true h S rfl (by decide) (fun _ _ _ _ _ _ us hl => match us,hl with | [_],_ => rfl) fun f cdv A outer s H E hr => ?_)
  have hu := hr.units
  have hu1 := zaL hr
  have hu80 := zaC hr
  have PO : ∀ {M : Model} {A : Around} {env : Env},PassesOwn M A env (fun _ _ => False) := PassesOwn.never
  refine zaD ?_
  unfold zh3 zfK
  exact (zan (zcb (zf9 ["word"] [0] ["word","held"] rfl rfl (by kernel_rfl) rfl (by decide) (zek (PVN.pv (zjl c_word_order hr rfl rfl B.zdO rfl (zad 0)))) (fun _ _ _ _ => (zaG (i:=0) (nd (M:=["word","held"]) (by decide +kernel)) rfl (Or.inl rfl))) (by decide) (fun _ _ _ _ => zdM) (fun _ _ _ _ => (zdb (zab (zad 0) (zab (za0 (zfj hu1) (zad 1) (zad 0)) zaj)))))))
abbrev zcv : Stmt := top 26
theorem zhH {zaa : Tok} {zaf : Tok} {zai : Addr} (h : Has K mg "cut_together" zcv) (B : Blt mg) (C : Cst mg zaa zaf zai) (c_terms_of_length : Callee P w K mg base "terms_of_length" 1 ["held","length"] (spP K 2 true za2)) (c_add_term : Callee P w K mg base "add_term" 3 ["held","word","number"] (spF K [true,false,false] false zdY)) (c_times : Callee P w K mg base "times" 2 ["one","other"] (spP K 2 false zho)) : Callee P w K mg base "cut_together" 4 ["one","other"] (spP K 2 true zbW):=by
  have S : zaz ["one","other","by_length","held","first","terms","second"] ["one","other"] (zao zcv) := ⟨rfl,rfl,rfl,by decide +kernel,rfl,by decide +kernel,by decide +kernel⟩
  refine Callee.pure (zaQ (List.replicate 2 false) true h S rfl (by decide) (fun _ _ _ _ _ _ us hl => match us,hl with | [_,_],_ => rfl) fun f cdv A outer s H E hr => ?_)
  have hu := hr.units
  have hu1 := zaL hr
  have hu80 := zaC hr
  have PO : ∀ {M : Model} {A : Around} {env : Env},PassesOwn M A env (fun _ _ => False) := PassesOwn.never
  refine zaD ?_
  unfold zbV zbv zbx zb1 zby zbw zbz za8
  exact (zam (zoS 2 (zoT 2 ["length"] [1] ["length","other"] S.nd rfl rfl rfl rfl rfl (by kernel_rfl) rfl (by decide) (zcF rfl B.zcw (zab (zax zbY (ziw (v:=(.int 5)) rfl C.zbB ⟨_,rfl⟩ (fun _ => zck _)) zah) zaj)) (fun _ _ _ _ => (zaG (i:=0) (nd (M:=["length","other"]) (by decide +kernel)) rfl (Or.inl rfl))) (by decide) (fun _ _ _ _ => zdM) (fun _ _ _ _ => (PVN.pv (zbj c_terms_of_length hr rfl zap (zab (zad 1) (zab (zad 0) zaj)) (zag (zag zat)))))))
      (zam (zgz (i:=3) S.nd rfl (Or.inl rfl) zgA)
      (zam (zcT PO rfl (ziv (zad 0)) (zaG (i:=4) S.nd rfl (Or.inl rfl)) (zan (zcT PO rfl (zek (zoZ ztX (zad 2) zoX (zoW (zax zm9 (zax zbY (ziw (v:=(.int 5)) rfl C.zbB ⟨_,rfl⟩ (fun _ => zck _)) zah) (za6 (zaR (CallD.ds zg8) rfl B.zd1 Bt.len (zab (zad 4) zaj))))))) (zaG (i:=5) S.nd rfl (Or.inl rfl)) (zan (zcT PO rfl (ziv (zad 5)) (zaG (i:=6) S.nd rfl (Or.inl rfl)) (zan (zit (zbA (a:=[.m 3,.v (e2 zba (eV 4) (eV 6)),.v (zal zho (zac (e2 zfR (eV 0) (eV 4)) (zac (e2 zfR (eV 5) (eV 6)) zau)))]) c_add_term zbf (by decide) (by decide) hr rfl zap (zcq 3 (pv 3) (zbE (zax zbY (zad 4) (zad 6)) (zbE (zaJ c_times hr rfl zap (zab (za0 (zfj hu1) (zad 0) (zad 4)) (zab (za0 (zfj hu1) (zad 5) (zad 6)) zaj)) (zag (zag zat))) zbe)))))))))))
      (zan (zlc 3 (pv 3))))))
abbrev ze8 : Stmt := top 38
theorem zmf {zaa : Tok} {zaf : Tok} {zai : Addr} (h : Has K mg "_law_sum" ze8) (B : Blt mg) (C : Cst mg zaa zaf zai) (c__law_take : Callee P w K mg base "_law_take" 2 ["_law_purse_here","_law_many"] (spF K [true,false] false zaB)) (c__law_word : Callee P w K mg base "_law_word" 3 ["_law_purse_here","_law_count","_law_most"] (spF K [true,false,false] false zeB)) (c__law_number : Callee P w K mg base "_law_number" 3 ["_law_purse_here"] (spF K [true] false zc9)) : Callee P w K mg base "_law_sum" 4 ["_law_purse_here","_law_count","_law_many","_law_most"] (spF K [true,false,false,false] true zbm):=by
  have S : zaz ["_law_purse_here","_law_count","_law_many","_law_most","_law_found","_law_term","_law_word_here","_law_number_here"] ["_law_purse_here","_law_count","_law_many","_law_most"] (zao ze8) := ⟨rfl,rfl,rfl,by decide +kernel,rfl,by decide +kernel,by decide +kernel⟩
  refine (zaQ [true,false,false,false] true h S rfl (by decide) (fun _ _ _ _ _ _ us hl => match us,hl with | [_,_,_,_],_ => rfl) fun f cdv A outer s H E hr => ?_)
  have hu := hr.units
  have hu1 := zaL hr
  have hu80 := zaC hr
  have PO : ∀ {M : Model} {A : Around} {env : Env},PassesOwn M A env (fun _ _ => False) := PassesOwn.never
  refine zaD ?_
  unfold zh7 zfF zfJ
  exact (zam (zgz (i:=4) S.nd rfl (Or.inl rfl) zgA)
      (zam (zcT PO rfl (zcF rfl B.zcw (zab (zbA (a:=[.m 0,.v (e2 zba (eV 2) (eC (.int 1)))]) c__law_take zbf (by decide) (by decide) hr rfl zap (zcq 0 (pv 0) (zbE (zax zbY (zad 2) zah) zbe))) zaj)) (zaG (i:=5) S.nd rfl (Or.inl rfl)) (zam (za5 (i:=6) S.nd rfl (Or.inl rfl) (zbA (a:=[.m 0,.v (eV 1),.v (eV 3)]) c__law_word zbf (by decide) (by decide) hr rfl zap (zcq 0 (pv 0) (zbE (zad 1) (zbE (zad 3) zbe)))))
      (zam (za5 (i:=7) S.nd rfl (Or.inl rfl) (zbA (a:=[.m 0]) c__law_number zbf (by decide) (by decide) hr rfl zap (zcq 0 (pv 0) zbe)))
      (zan (zbO (zbc (zp3 hu) (za0 zcn (zad 7) zah) zah (zbo _)) (zan (ziu 4 hu1 (pv 4) (zad 7) (zad 6))) zbh)))))
      (zan (zlc 4 (pv 4)))))
abbrev zee : Stmt := top 40
theorem zky {zaa : Tok} {zaf : Tok} {zai : Addr} (h : Has K mg "_law_told" zee) (B : Blt mg) (C : Cst mg zaa zaf zai) (c__law_rank : Callee P w K mg base "_law_rank" 1 ["_law_word_here"] (spP K 1 false zeC)) : Callee P w K mg base "_law_told" 4 ["_law_found"] (spP K 1 true zaZ):=by
  have S : zaz ["_law_found"] ["_law_found"] (zao zee) := ⟨rfl,rfl,rfl,by decide +kernel,rfl,by decide +kernel,by decide +kernel⟩
  refine Callee.pure (zaQ (List.replicate 1 false) true h S rfl (by decide) (fun _ _ _ _ _ _ us hl => match us,hl with | [_],_ => rfl) fun f cdv A outer s H E hr => ?_)
  have hu := hr.units
  have hu1 := zaL hr
  have hu80 := zaC hr
  have PO : ∀ {M : Model} {A : Around} {env : Env},PassesOwn M A env (fun _ _ => False) := PassesOwn.never
  refine zaD ?_
  unfold zhc zeL
  exact (zan (zcb (zf9 ["_law_word_here"] [0] ["_law_word_here","_law_found"] rfl rfl (by kernel_rfl) rfl (by decide) (zek (PVN.pv (zjl c__law_rank hr rfl rfl B.zdO rfl (zad 0)))) (fun _ _ _ _ => (zaG (i:=0) (nd (M:=["_law_word_here","_law_found"]) (by decide +kernel)) rfl (Or.inl rfl))) (by decide) (fun _ _ _ _ => zdM) (fun _ _ _ _ => (zdb (zab (zad 0) (zab (za0 (zfj hu1) (zad 1) (zad 0)) zaj)))))))
abbrev ze6 : Stmt := top 17
theorem zmd {zaa : Tok} {zaf : Tok} {zai : Addr} (h : Has K mg "held_sum" ze6) (B : Blt mg) (C : Cst mg zaa zaf zai) (c_may_follow : Callee P w K mg base "may_follow" 4 ["ahead","term","count"] (spP K 3 false zdI)) : Callee P w K mg base "held_sum" 5 ["total","count"] (spP K 2 true zcO):=by
  have S : zaz ["total","count","ahead","place","term"] ["total","count"] (zao ze6) := ⟨rfl,rfl,rfl,by decide +kernel,rfl,by decide +kernel,by decide +kernel⟩
  refine Callee.pure (zaQ (List.replicate 2 false) true h S rfl (by decide) (fun _ _ _ _ _ _ us hl => match us,hl with | [_,_],_ => rfl) fun f cdv A outer s H E hr => ?_)
  have hu := hr.units
  have hu1 := zaL hr
  have hu80 := zaC hr
  have PO : ∀ {M : Model} {A : Around} {env : Env},PassesOwn M A env (fun _ _ => False) := PassesOwn.never
  refine zaD ?_
  unfold zh5 zfL zfE zfI
  exact (zam (za5 (i:=2) S.nd rfl (Or.inl rfl) zpZ)
      (zam (zcT PO rfl (zoY rfl B.zbR (zab (zad 0) zaj)) (zgB rfl (zbr (zaG (i:=3) S.nd rfl (Or.inl rfl)) (zbr (zaG (i:=4) S.nd rfl (Or.inl rfl)) zeM))) (zam (zbO (zcS (zdq zjc (zaJ c_may_follow hr rfl zap (zab (zad 2) (zab (zad 4) (zab (zad 1) zaj))) (zag (zag (zag zat)))))) (zan zjk) zbh)
      (zan (za5 (i:=2) S.nd rfl (Or.inl rfl) (zad 4)))))
      (zan (zcb (zjm ["word","number"] [] ["word","number"] hu1 rfl rfl (by kernel_rfl) rfl (by decide) (zek (zad 0)) (fun _ _ _ _ => (zgB rfl (zbr (zaG (i:=0) (nd (M:=["word","number"]) (by decide +kernel)) rfl (Or.inl rfl)) (zbr (zaG (i:=1) (nd (M:=["word","number"]) (by decide +kernel)) rfl (Or.inl rfl)) zeM)))) (by decide) (fun _ _ _ _ => zdM) (fun _ _ _ _ => (zad 0)) (fun _ _ _ _ => (zad 1)))))))
abbrev zcQ : Stmt := top 42
theorem ziM {zaa : Tok} {zaf : Tok} {zai : Addr} (h : Has K mg "_law_joined" zcQ) (B : Blt mg) (C : Cst mg zaa zaf zai) (c__law_told : Callee P w K mg base "_law_told" 4 ["_law_found"] (spP K 1 true zaZ)) (c__law_put : Callee P w K mg base "_law_put" 3 ["_law_found","_law_word_here","_law_number_here"] (spF K [true,false,false] false zdZ)) (c__law_by : Callee P w K mg base "_law_by" 2 ["_law_one","_law_other"] (spP K 2 false zdJ)) : Callee P w K mg base "_law_joined" 5 ["_law_one","_law_other"] (spP K 2 true zaV):=by
  have S : zaz ["_law_one","_law_other","_law_found","_law_word_here","_law_number_here","_law_more","_law_much"] ["_law_one","_law_other"] (zao zcQ) := ⟨rfl,rfl,rfl,by decide +kernel,rfl,by decide +kernel,by decide +kernel⟩
  refine Callee.pure (zaQ (List.replicate 2 false) true h S rfl (by decide) (fun _ _ _ _ _ _ us hl => match us,hl with | [_,_],_ => rfl) fun f cdv A outer s H E hr => ?_)
  have hu := hr.units
  have hu1 := zaL hr
  have hu80 := zaC hr
  have PO : ∀ {M : Model} {A : Around} {env : Env},PassesOwn M A env (fun _ _ => False) := PassesOwn.never
  refine zaD ?_
  unfold zcf zch zci zdh za1
  exact (zam (zgz (i:=2) S.nd rfl (Or.inl rfl) zgA)
      (zam (zcT PO rfl (zek (zad 0)) (zgB rfl (zbr (zaG (i:=3) S.nd rfl (Or.inl rfl)) (zbr (zaG (i:=4) S.nd rfl (Or.inl rfl)) zeM))) (zan (zcT PO rfl (zek (zad 1)) (zgB rfl (zbr (zaG (i:=5) S.nd rfl (Or.inl rfl)) (zbr (zaG (i:=6) S.nd rfl (Or.inl rfl)) zeM))) (zan (zbO (zbc (zrM hu) (zax zbY (za6 (zaR (CallD.ds zg8) rfl B.zd1 Bt.len (zab (zad 3) zaj))) (za6 (zaR (CallD.ds zg8) rfl B.zd1 Bt.len (zab (zad 5) zaj)))) zah (zbo _)) (zan (zit (zbA (a:=[.m 2,.v (e2 zba (eV 3) (eV 5)),.v (zal zdJ (zac (eV 4) (zac (eV 6) zau)))]) c__law_put zbf (by decide) (by decide) hr rfl zap (zcq 2 (pv 2) (zbE (zax zbY (zad 3) (zad 5)) (zbE (zaJ c__law_by hr rfl zap (zab (zad 4) (zab (zad 6) zaj)) (zag (zag zat))) zbe)))))) zbh)))))
      (zan (zqN 2 (zcb (zbj c__law_told hr rfl zap (zab (zad 2) zaj) (zag zat)))))))
abbrev zcu : Stmt := top 24
theorem zhG {zaa : Tok} {zaf : Tok} {zai : Addr} (h : Has K mg "held_letters" zcu) (B : Blt mg) (C : Cst mg zaa zaf zai) (c_refuse_letters : Callee P w K mg base "refuse_letters" 2 ["count"] (spP K 1 false za9)) (c_held_sum : Callee P w K mg base "held_sum" 5 ["total","count"] (spP K 2 true zcO)) : Callee P w K mg base "held_letters" 6 ["count","total"] (spP K 2 true zbb):=by
  have S : zaz ["count","total"] ["count","total"] (zao zcu) := ⟨rfl,rfl,rfl,by decide +kernel,rfl,by decide +kernel,by decide +kernel⟩
  refine Callee.pure (zaQ (List.replicate 2 false) true h S rfl (by decide) (fun _ _ _ _ _ _ us hl => match us,hl with | [_,_],_ => rfl) fun f cdv A outer s H E hr => ?_)
  have hu := hr.units
  have hu1 := zaL hr
  have hu80 := zaC hr
  have PO : ∀ {M : Model} {A : Around} {env : Env},PassesOwn M A env (fun _ _ => False) := PassesOwn.never
  refine zaD ?_
  unfold zcA
  exact (zam (zit (zaJ c_refuse_letters hr rfl zap (zab (zad 0) zaj) (zag zat)))
      (zan (zcb (zbj c_held_sum hr rfl zap (zab (zad 1) (zab (zad 0) zaj)) (zag (zag zat))))))
abbrev zdn : Stmt := top 27
theorem zjH {zaa : Tok} {zaf : Tok} {zai : Addr} (h : Has K mg "cut_joined" zdn) (B : Blt mg) (C : Cst mg zaa zaf zai) (c_told_sum : Callee P w K mg base "told_sum" 4 ["held"] (spP K 1 true zcN)) (c_held_letters : Callee P w K mg base "held_letters" 6 ["count","total"] (spP K 2 true zbb)) (c_cut_together : Callee P w K mg base "cut_together" 4 ["one","other"] (spP K 2 true zbW)) : Callee P w K mg base "cut_joined" 7 ["count","one","other"] (spP K 3 true za4):=by
  have S : zaz ["count","one","other","first","second"] ["count","one","other"] (zao zdn) := ⟨rfl,rfl,rfl,by decide +kernel,rfl,by decide +kernel,by decide +kernel⟩
  refine Callee.pure (zaQ (List.replicate 3 false) true h S rfl (by decide) (fun _ _ _ _ _ _ us hl => match us,hl with | [_,_,_],_ => rfl) fun f cdv A outer s H E hr => ?_)
  have hu := hr.units
  have hu1 := zaL hr
  have hu80 := zaC hr
  have PO : ∀ {M : Model} {A : Around} {env : Env},PassesOwn M A env (fun _ _ => False) := PassesOwn.never
  refine zaD ?_
  unfold zdB
  exact (zam (zfd (i:=3) (j:=4) rfl S.nd rfl rfl (by decide) rfl rfl (PVN.pv (zbj c_held_letters hr rfl zap (zab (zad 0) (zab (zad 1) zaj)) (zag (zag zat)))) (PVN.pv (zbj c_held_letters hr rfl zap (zab (zad 0) (zab (zad 2) zaj)) (zag (zag zat)))) rfl)
      (zan (zcb (zbj c_told_sum hr rfl zap (zab (PVN.pv (zbj c_cut_together hr rfl zap (zab (zad 3) (zab (zad 4) zaj)) (zag (zag zat)))) zaj) (zag zat)))))
abbrev zlT : Stmt := top 43
set_option maxHeartbeats 0 in
theorem zus {fa : Addr} {fd : FuncData} {zaa : Tok} {zaf : Tok} {zai : Addr} (h : Fun K "law" "law" zlT fa fd) (B : Blt mg) (C : Cst mg zaa zaf zai) (c__law_purse : Callee P w K mg base "_law_purse" 2 ["_law_cell","_law_k"] (spP K 2 true zbZ)) (c__law_told : Callee P w K mg base "_law_told" 4 ["_law_found"] (spP K 1 true zaZ)) (c__law_at : Callee P w K mg base "_law_at" 1 ["_law_script","_law_k"] (spP K 2 false zdK)) (c__law_take : Callee P w K mg base "_law_take" 2 ["_law_purse_here","_law_many"] (spF K [true,false] false zaB)) (c__law_sum : Callee P w K mg base "_law_sum" 4 ["_law_purse_here","_law_count","_law_many","_law_most"] (spF K [true,false,false,false] true zbm)) (c_cut_joined : Callee P w K mg base "cut_joined" 7 ["count","one","other"] (spP K 3 true za4)) (c__law_joined : Callee P w K mg base "_law_joined" 5 ["_law_one","_law_other"] (spP K 2 true zaV)) : zie P w K mg base (CXe P w) 8 fa fd ["_law_script"] (spP K 1 false zor):=by
  have S : zaz ["_law_script","_law_k","_law_purse_here","_law_count","_law_one","_law_other","_law_handed","_law_turn","_law_due","_law_found"] ["_law_script"] (zao zlT) := ⟨rfl,rfl,rfl,by decide +kernel,rfl,by decide +kernel,by decide +kernel⟩
  refine zie.pure (znR (List.replicate 1 false) false h S rfl (by decide) fun cdv A outer s H E hr => ?_)
  have hu := hr.units
  have hu1 := zaL hr
  have hu80 := zaC hr
  have PO : ∀ {M : Model} {A : Around} {env : Env},PassesOwn M A env (fun _ _ => False) := PassesOwn.never
  refine zaD ?_
  unfold zpS zif zgn zig ze3
  exact (zam (zcT PO rfl (zcF rfl B.zcw (zab (zaR (ztn rfl) rfl B.znf Bt.max (zab zah (zab (zaR (ztm rfl) rfl B.zne Bt.min (zab (za6 (zaR (CallD.ds zg8) rfl B.zd1 Bt.len (zab (zad 0) zaj))) (zab zah zaj))) zaj))) zaj)) (zaG (i:=1) S.nd rfl (Or.inl rfl)) (zam (zgz (i:=2) S.nd rfl (Or.inl rfl) (zbj c__law_purse hr rfl zap (zab (zaJ c__law_at hr rfl zap (zab (zad 0) (zab (zad 1) zaj)) (zag (zag zat))) (zab (zad 1) zaj)) (zag (zag zat))))
      (zam (za5 (i:=3) S.nd rfl (Or.inl rfl) (zax zbY zah (zbA (a:=[.m 2,.v (eC (.int 4))]) c__law_take zbf (by decide) (by decide) hr rfl zap (zcq 2 (pv 2) (zbE zah zbe)))))
      (zam (za5 (i:=4) S.nd rfl (Or.inl rfl) (PVN.pv (zbj c__law_told hr rfl zap (zab (PVN.pv (zjn (a:=[.m 2,.v (eV 3),.v (eC (.int 4)),.v (eC (.int 5))]) c__law_sum zbf (by decide) (by decide) hr rfl zap (zcq 2 (pv 2) (zbE (zad 3) (zbE zah (zbE zah zbe)))))) zaj) (zag zat))))
      (zam (za5 (i:=5) S.nd rfl (Or.inl rfl) (PVN.pv (zbj c__law_told hr rfl zap (zab (PVN.pv (zjn (a:=[.m 2,.v (eV 3),.v (eC (.int 4)),.v (eC (.int 3))]) c__law_sum zbf (by decide) (by decide) hr rfl zap (zcq 2 (pv 2) (zbE (zad 3) (zbE zah (zbE zah zbe)))))) zaj) (zag zat))))
      (zam (za5 (i:=6) S.nd rfl (Or.inl rfl) (PVN.pv (zfe (zab (za6 (zeN (CallD.ds zqr) rfl B.zgG Bt.list (zab (zad 4) zaj))) (zab (za6 (zeN (CallD.ds zqr) rfl B.zgG Bt.list (zab (zad 5) zaj))) zaj)))))
      (zan (zcT PO rfl (zcF rfl B.zcw (zab zah zaj)) (zaG (i:=7) S.nd rfl (Or.inl rfl)) (zam (za5 (i:=8) S.nd rfl (Or.inl rfl) (za0 zcn (PVN.pv (zfe (zab (PVN.pv (zbj c__law_joined hr rfl zap (zab (zad 4) (zab (zad 5) zaj)) (zag (zag zat)))) (zab (PVN.pv (zbj c__law_joined hr rfl zap (zab (zad 5) (zab (zad 4) zaj)) (zag (zag zat)))) zaj)))) (zax zhw (zad 7) zah)))
      (zam (zgz (i:=9) S.nd rfl (Or.inl rfl) (zbj c_cut_joined hr rfl zap (zab (zad 3) (zab (za0 zcn (zad 6) (zax zhw (zad 7) zah)) (zab (za0 zcn (zad 6) (zax zm9 zah (zax zhw (zad 7) zah))) zaj))) (zag (zag (zag zat)))))
      (zam (zbO (PVW.pvt (zgy (zbc zuk (zse 9 (ztl hr) rfl B.zl0 Bt.str (pv 9)) (za6 (zeN (CallD.ds (ztl hr)) rfl B.zl0 Bt.str (zab (zad 8) zaj))) (zbo _)) (zfc (zbc (zp3 hu) (zad 6) (PVN.pv (zfe (zab (zad 4) (zab (zad 5) zaj)))) (zbo _))))) (zan (zaF zkk)) zbh)
      (zan (zmV 9 rfl (pv 9))))))))))))))
      (zan (zaF zkk)))
end
end K57
namespace K57
open PySem L2 PySem.Spec FL
open PyProof.Rows hiding St
theorem all_mk {l : PySem.W.OpenLaw} {w : World} {K : PySem.W.Frag} {h : Heap} {mg : Str -> Option Value} {fa : Addr} (X : K.In h) (G : h.Ns mainGlobals mg) (hfa : mg "law" = some (.ref fa))
  {zaa : Tok} {zaf : Tok} {zai : Addr}
  {ou_NOUGHT : Option Addr} {nn_NOUGHT : Nat} {su_NOUGHT : Array (Option Value)} {k0_NOUGHT k1_NOUGHT : Tok}
  (zfy : Has K mg "is_whole" ze5)
  (zb6 : Has K mg "common_divisor" zb3)
  (zdC : Has K mg "word_order" zdl)
  (zbT : Has K mg "terms_of_length" zbP)
  (zdG : Has K mg "_law_mixed" zdp)
  (zhj : Has K mg "_law_at" zgs)
  (zfD : Has K mg "_law_low" zfa)
  (zey : Has K mg "_law_rank" zeg)
  (zet : Has K mg "is_number" zec)
  (zom : Has K mg "plus" zmL)
  (zkT : Has K mg "times" zki)
  (zhg : Has K mg "is_word" zgp)
  (zb5 : Has K mg "refuse_letters" zb2)
  (zdF : Has K mg "_law_purse" zdo)
  (zex : Has K mg "_law_take" zef)
  (zez : Has K mg "_law_plus" zeh)
  (zhi : Has K mg "_law_by" zgr)
  (zhh : Has K mg "is_term" zgq)
  (zfA : Has K mg "add_term" ze7)
  (zc7 : Has K mg "_law_number" zcP)
  (zeu : Has K mg "_law_word" zed)
  (zfC : Has K mg "_law_put" ze9)
  (zdD : Has K mg "may_follow" zdm)
  (zfx : Has K mg "told_sum" ze4)
  (zcC : Has K mg "cut_together" zcv)
  (zfB : Has K mg "_law_sum" ze8)
  (zew : Has K mg "_law_told" zee)
  (zfz : Has K mg "held_sum" ze6)
  (zc8 : Has K mg "_law_joined" zcQ)
  (zcB : Has K mg "held_letters" zcu)
  (zdE : Has K mg "cut_joined" zdn)
  (zrK : Has K mg "law" zlT)
  (zbt : PySem.W.nsIn K mainGlobals "MOST_LETTERS" = some (some (.int 4 zaa)))
  (zbB : PySem.W.nsIn K mainGlobals "MOST_LONG" = some (some (.int 5 zaf)))
  (zcX : PySem.W.nsIn K mainGlobals "NOUGHT" = some (some (.ref zai)))
  (ziJ : K.lookup zai = some ⟨.type "tuple",ou_NOUGHT,.seq #[.int 0 k0_NOUGHT,.int 1 k1_NOUGHT] nn_NOUGHT,su_NOUGHT⟩)
  (zjv : PySem.W.nsIn K mainGlobals "abs" = some none)
  (zaM : PySem.W.nsIn K mainGlobals "isinstance" = some none)
  (zl1 : PySem.W.nsIn K mainGlobals "int" = some none)
  (zhQ : PySem.W.nsIn K mainGlobals "bool" = some none)
  (zcW : PySem.W.nsIn K mainGlobals "tuple" = some none)
  (zgG : PySem.W.nsIn K mainGlobals "list" = some none)
  (zl0 : PySem.W.nsIn K mainGlobals "str" = some none)
  (zd1 : PySem.W.nsIn K mainGlobals "len" = some none)
  (zl2 : PySem.W.nsIn K mainGlobals "all" = some none)
  (zcw : PySem.W.nsIn K mainGlobals "range" = some none)
  (znd : PySem.W.nsIn K mainGlobals "zip" = some none)
  (zbR : PySem.W.nsIn K mainGlobals "enumerate" = some none)
  (znf : PySem.W.nsIn K mainGlobals "max" = some none)
  (zne : PySem.W.nsIn K mainGlobals "min" = some none)
  (zpm : PySem.W.nsIn K mainGlobals "sum" = some none)
  (zdO : PySem.W.nsIn K mainGlobals "sorted" = some none)
  (zlm : PySem.W.nsIn K mainGlobals "dict" = some none)
  (zpn : PySem.W.nsIn K mainGlobals "any" = some none) :
  ∃ (cl : CL) (fd : FuncData),zke cl K /\ (∀ (s : Shared) (v : Value),BindsTo s fd ⟨[v],[]⟩ [("_law_script",v)]) /\ ∀ base : Heap,(ze2 (cl.map (·.1)) K).In base -> base.Ns mainGlobals mg -> zie l.prog w (ze2 (cl.map (·.1)) K) mg base (CXe l.prog w) 8 fa fd ["_law_script"] (@spP (zrN cl) (ze2 (cl.map (·.1)) K) 1 false zor):=by
 obtain ⟨f,fd,hm,Fl⟩ := id zrK
 have e := hfa.symm.trans hm
 cases e
 obtain ⟨oc,od,kV,dc,pm,an,cd,ct,sl,rfl,lk,hcd⟩ := id Fl.ex
 have hC : zke [(zai,⟨.type "tuple",ou_NOUGHT,.seq #[.int 0 k0_NOUGHT,.int 1 k1_NOUGHT] nn_NOUGHT,su_NOUGHT⟩,[.int 0,.int 1])] K := (zke.cons ziJ (.cons ⟨_,rfl⟩ (.cons ⟨_,rfl⟩ (.nil))) (by decide) zke.nil)
 refine ⟨_,PySem.W.fnOf "law" "law" (zep zlT) (zcy zlT) (zao zlT) .none kV dc pm an cd ct,hC,fun s v => .of_eq rfl,fun base _ _ => ?_⟩
 have B : Blt mg := ⟨PySem.W.mg_none_of X G zjv,PySem.W.mg_none_of X G zaM,PySem.W.mg_none_of X G zl1,PySem.W.mg_none_of X G zhQ,PySem.W.mg_none_of X G zcW,PySem.W.mg_none_of X G zgG,PySem.W.mg_none_of X G zl0,PySem.W.mg_none_of X G zd1,PySem.W.mg_none_of X G zl2,PySem.W.mg_none_of X G zcw,PySem.W.mg_none_of X G znd,PySem.W.mg_none_of X G zbR,PySem.W.mg_none_of X G znf,PySem.W.mg_none_of X G zne,PySem.W.mg_none_of X G zpm,PySem.W.mg_none_of X G zdO,PySem.W.mg_none_of X G zlm,PySem.W.mg_none_of X G zpn⟩
 letI : Cs := zrN [(zai,⟨.type "tuple",ou_NOUGHT,.seq #[.int 0 k0_NOUGHT,.int 1 k1_NOUGHT] nn_NOUGHT,su_NOUGHT⟩,[.int 0,.int 1])]
 have C : Cst mg zaa zaf zai := ⟨PySem.W.mg_of X G zbt,PySem.W.mg_of X G zbB,PySem.W.mg_of X G zcX,zsZ hC (List.Mem.head _)⟩
 have d_is_whole := zmc (P:=l.prog) (w:=w) (base:=base) (zfy.cut hC.seqs) B C
 have d_common_divisor := zf3 (P:=l.prog) (w:=w) (base:=base) (zb6.cut hC.seqs) B C
 have d_word_order := zjF (P:=l.prog) (w:=w) (base:=base) (zdC.cut hC.seqs) B C
 have d_terms_of_length := zfi (P:=l.prog) (w:=w) (base:=base) (zbT.cut hC.seqs) B C
 have d__law_mixed := zjJ (P:=l.prog) (w:=w) (base:=base) (zdG.cut hC.seqs) B C
 have d__law_at := znB (P:=l.prog) (w:=w) (base:=base) (zhj.cut hC.seqs) B C
 have d__law_low := zmh (P:=l.prog) (w:=w) (base:=base) (zfD.cut hC.seqs) B C
 have d__law_rank := zkA (P:=l.prog) (w:=w) (base:=base) (zey.cut hC.seqs) B C
 have d_is_number := zkw (P:=l.prog) (w:=w) (base:=base) (zet.cut hC.seqs) B C d_common_divisor d_is_whole
 have d_plus := zsU (P:=l.prog) (w:=w) (base:=base) (zom.cut hC.seqs) B C d_common_divisor
 have d_times := zrk (P:=l.prog) (w:=w) (base:=base) (zkT.cut hC.seqs) B C d_common_divisor
 have d_is_word := zny (P:=l.prog) (w:=w) (base:=base) (zhg.cut hC.seqs) B C d_is_whole
 have d_refuse_letters := zf2 (P:=l.prog) (w:=w) (base:=base) (zb5.cut hC.seqs) B C d_is_whole
 have d__law_purse := zjI (P:=l.prog) (w:=w) (base:=base) (zdF.cut hC.seqs) B C d__law_mixed
 have d__law_take := zkz (P:=l.prog) (w:=w) (base:=base) (zex.cut hC.seqs) B C d__law_mixed
 have d__law_plus := zkB (P:=l.prog) (w:=w) (base:=base) (zez.cut hC.seqs) B C d__law_low
 have d__law_by := znA (P:=l.prog) (w:=w) (base:=base) (zhi.cut hC.seqs) B C d__law_low
 have d_is_term := znz (P:=l.prog) (w:=w) (base:=base) (zhh.cut hC.seqs) B C d_is_word d_is_number
 have d_add_term := zme (P:=l.prog) (w:=w) (base:=base) (zfA.cut hC.seqs) B C d_plus
 have d__law_number := ziL (P:=l.prog) (w:=w) (base:=base) (zc7.cut hC.seqs) B C d__law_take d__law_low
 have d__law_word := zkx (P:=l.prog) (w:=w) (base:=base) (zeu.cut hC.seqs) B C d__law_take
 have d__law_put := zmg (P:=l.prog) (w:=w) (base:=base) (zfC.cut hC.seqs) B C d__law_plus
 have d_may_follow := zjG (P:=l.prog) (w:=w) (base:=base) (zdD.cut hC.seqs) B C d_is_term d_word_order
 have d_told_sum := zmb (P:=l.prog) (w:=w) (base:=base) (zfx.cut hC.seqs) B C d_word_order
 have d_cut_together := zhH (P:=l.prog) (w:=w) (base:=base) (zcC.cut hC.seqs) B C d_terms_of_length d_add_term d_times
 have d__law_sum := zmf (P:=l.prog) (w:=w) (base:=base) (zfB.cut hC.seqs) B C d__law_take d__law_word d__law_number
 have d__law_told := zky (P:=l.prog) (w:=w) (base:=base) (zew.cut hC.seqs) B C d__law_rank
 have d_held_sum := zmd (P:=l.prog) (w:=w) (base:=base) (zfz.cut hC.seqs) B C d_may_follow
 have d__law_joined := ziM (P:=l.prog) (w:=w) (base:=base) (zc8.cut hC.seqs) B C d__law_told d__law_put d__law_by
 have d_held_letters := zhG (P:=l.prog) (w:=w) (base:=base) (zcB.cut hC.seqs) B C d_refuse_letters d_held_sum
 have d_cut_joined := zjH (P:=l.prog) (w:=w) (base:=base) (zdE.cut hC.seqs) B C d_told_sum d_held_letters d_cut_together
 have d_law := zus (P:=l.prog) (w:=w) (base:=base) (Fun.cut hC.seqs Fl) B C d__law_purse d__law_told d__law_at d__law_take d__law_sum d_cut_joined d__law_joined
 exact d_law
theorem walk {l : PySem.W.OpenLaw} {q : Program} {loose : List Str} {XP : (Str -> Option Value) -> Heap -> Prop} {YP : World -> Heap -> Prop} {d : DefRec} {K : Params -> PySem.W.Frag} (hlaw : ∀ ns : List Int,ns.length <= 63 -> zor [.list (ns.map PyData.int)] = .ok (.bool true)) (hn : l.most = some 63) (hdf : d.params.defaults = [])
  (hY : ∀ (w : World) (h : Heap),YP w h -> (K w.params).In h)
  (F : ∀ (w : World) (mg : Str -> Option Value) (fa : Addr) (h : Heap),(K w.params).In h -> h.Ns mainGlobals mg -> mg d.name = some (.ref fa) ->
   ∃ (cl : CL) (fd : FuncData),zke cl (K w.params) /\ (∀ (s : Shared) (u : Value),BindsTo s fd ⟨[u],[]⟩ [("_law_script",u)]) /\ ∀ base : Heap,(ze2 (cl.map (·.1)) (K w.params)).In base -> base.Ns mainGlobals mg -> zie l.prog w (ze2 (cl.map (·.1)) (K w.params)) mg base (CXe l.prog w) 8 fa fd ["_law_script"] (@spP (zrN cl) (ze2 (cl.map (·.1)) (K w.params)) 1 false zor)) :
  PySem.W.WalkO q loose XP YP l.row.toRowW d [] (fun f vs => PySem.call f vs) :=
 zoB (k:=8) (x:="_law_script") hlaw hn hdf ⟨rfl,by decide,by decide,rfl⟩ hY F
end K57
namespace K57
open PySem FL
theorem zsf : zdZ = zka := rfl
theorem zuI : zdJ = zlN := rfl
theorem zmC : zaZ = zdW := rfl
theorem zoF : zcN = zon := rfl
theorem held_eq : zcO = zid := rfl
theorem zoI : za2 = zcK := rfl
theorem add_eq : zdY = zdX := rfl
theorem zil : zho = zoo := rfl
def zht (n : Nat) (t : Sm) : Sm := t.filter fun q => decide (n + q.1.length < 6)
def zcD (s t : Sm) : Sm := s.foldl (fun a p => inW p (zht p.1.length t) a) []
theorem zjU (n : Nat) (t : Sm) (x : List Int × Rat) : zht n (t ++ [x]) = if n + x.1.length < 6 then zht n t ++ [x] else zht n t := by
  unfold zht
  rw [List.filter_append]
  by_cases e : n + x.1.length < 6
  · rw [if_pos e, List.filter_cons_of_pos (by simpa using e)]; rfl
  · rw [if_neg e, List.filter_cons_of_neg (by simpa using e)]; simp
theorem zs1 {ρ : En} {i j : Nat} {a b : D} {x y : Sl} (hx : ρ[i]? = some x) (hy : ρ[j]? = some y) (hij : i ≠ j) (nx : Np x) (ny : Np y) : gT [gN i, gN j] (.tuple [a, b]) ρ = .ok ((ρ.set i (.val a)).set j (.val b)) := by
  show ((gN i a ρ).bind fun ρ1 => (gN j b ρ1).bind fun ρ2 => .ok ρ2) = _
  rw [ziS hx nx, zae, ziS (x := y) (by rw [List.getElem?_set_ne hij]; exact hy) ny]
  rfl
section
variable {P : Nat -> Rat -> Prop} {Q : Rat -> Prop} {N : Nat}
theorem zpt (g : zox P Q N) {i : Nat} {S T : D} {p : List Int × Rat} {t acc : Sm} (hp : p.1.length <= 5) (ht : ∀ q ∈ t, q.1.length <= 5) (hQ : ∀ q ∈ t, Q (p.2 * q.2)) (bp : QR.Bd 4000 p.2) (bt : ∀ q ∈ t, QR.Bd 4000 q.2) (f : Fit P i acc) (hi : i + t.length <= N) (hl : acc.length + t.length + 1 <= lim)
    {x5 x6 : Sl} (n5 : Np x5) (n6 : Np x6) : ∃ y5 y6, Np y5 /\ Np y6 /\ forL (gT [gN 5, gN 6]) za1 (t.map tln) [.val S, .val T, .ow false (dct acc), .val (tp p.1), .val (num p.2), x5, x6] = .ok (.nx, [.val S, .val T, .ow false (dct (inW p (zht p.1.length t) acc)), .val (tp p.1), .val (num p.2), y5, y6]) /\
      Fit P (i + t.length) (inW p (zht p.1.length t) acc) /\ (inW p (zht p.1.length t) acc).length <= acc.length + t.length := by
  have L := zce (f := tln) (g := gT [gN 5, gN 6]) (b := za1)
    (fun done ρ => ∃ y5 y6, Np y5 /\ Np y6 /\ ρ = [.val S, .val T, .ow false (dct (inW p (zht p.1.length done) acc)), .val (tp p.1), .val (num p.2), y5, y6] /\ Fit P (i + done.length) (inW p (zht p.1.length done) acc) /\ (inW p (zht p.1.length done) acc).length <= acc.length + done.length)
    t [] [.val S, .val T, .ow false (dct acc), .val (tp p.1), .val (num p.2), x5, x6] ⟨x5, x6, n5, n6, rfl, f, Nat.le_refl _⟩ (by
      intro pre x post ρ e hP
      obtain ⟨y5, y6, h5, h6, rfl, fp, hlp⟩ := hP
      rw [List.nil_append] at e
      have mx : x ∈ t := by rw [e]; simp
      have hlen : pre.length + 1 <= t.length := by rw [e]; simp
      generalize hA : inW p (zht p.1.length pre) acc = A at fp hlp
      have gx : gT [gN 5, gN 6] (tln x) [.val S, .val T, .ow false (dct A), .val (tp p.1), .val (num p.2), y5, y6] = .ok [.val S, .val T, .ow false (dct A), .val (tp p.1), .val (num p.2), .val (tp x.1), .val (num x.2)] := zs1 rfl rfl (by decide) h5 h6
      have k1 : zba (.int (p.1.length : Int)) (.int (x.1.length : Int)) = .ok (.int ((p.1.length : Int) + (x.1.length : Int))) := rfl
      have k2 : ltD (.int ((p.1.length : Int) + (x.1.length : Int))) (.int 6) = .ok (.bool (decide (p.1.length + x.1.length < 6))) := by
        rw [ziA]; congr 2; rw [decide_eq_decide]; omega
      have ln : ∀ w : List Int, zdf (tp w) = .ok (.int (w.length : Int)) := fun w => by
        show R.ok (PyData.int ((w.map PyData.int).length : Int)) = _
        rw [List.length_map]
      have ct : tB (e2 ltD (e2 zba (FL.e1 zdf (eV 3)) (FL.e1 zdf (eV 5))) (eC (.int 6))) [.val S, .val T, .ow false (dct A), .val (tp p.1), .val (num p.2), .val (tp x.1), .val (num x.2)] = .ok (decide (p.1.length + x.1.length < 6), [.val S, .val T, .ow false (dct A), .val (tp p.1), .val (num p.2), .val (tp x.1), .val (num x.2)]) := by
        simp only [tB, FL.e1, FL.e2, eV, eC, zae, List.getElem?_cons_zero, List.getElem?_cons_succ, ln, k1, k2]
      by_cases c : p.1.length + x.1.length < 6
      · have ein : inW p (zht p.1.length (pre ++ [x])) acc = zhu A (p.1 ++ x.1) (p.2 * x.2) := by
          rw [zjU, if_pos c, zgc, hA]
        refine ⟨[.val S, .val T, .ow false (dct (zhu A (p.1 ++ x.1) (p.2 * x.2))), .val (tp p.1), .val (num p.2), .val (tp x.1), .val (num x.2)], .nx, ?_, .inl rfl, .val (tp x.1), .val (num x.2), zbn _, zbn _, by rw [ein], ?_, ?_⟩
        · rw [gx, zae]
          unfold za1 sIf
          rw [ct, zae, if_pos (by simpa using c)]
          unfold sE
          rw [zkL (p := false) (d := dct A) (v := tp (p.1 ++ x.1)) (u := num (p.2 * x.2)) (r := .none) (d' := dct (zhu A (p.1 ++ x.1) (p.2 * x.2))) (v' := tp (p.1 ++ x.1)) (u' := num (p.2 * x.2)) rfl ?_ ?_ ?_]
          · rfl
          · simp only [FL.e2, eV, zae, List.getElem?_cons_zero, List.getElem?_cons_succ]
            rw [zqu (by have := ht x mx; unfold lim; omega)]; rfl
          · simp only [zal, zac, zau, eV, zae, List.getElem?_cons_zero, List.getElem?_cons_succ]
            rw [zuI, zsN bp (bt x mx) (by decide)]; rfl
          · rw [zsf]
            exact zrg (by omega) (g.bp _ _ (by omega) (fp.get g _)) (g.bq _ (hQ x mx))
        · rw [ein, List.length_append, List.length_singleton]
          exact fp.add g _ (hQ x mx)
        · rw [ein, List.length_append, List.length_singleton]
          have := zk9 A (p.1 ++ x.1) (p.2 * x.2)
          omega
      · have ein : inW p (zht p.1.length (pre ++ [x])) acc = A := by
          rw [zjU, if_neg c, hA]
        refine ⟨[.val S, .val T, .ow false (dct A), .val (tp p.1), .val (num p.2), .val (tp x.1), .val (num x.2)], .nx, ?_, .inl rfl, .val (tp x.1), .val (num x.2), zbn _, zbn _, by rw [ein], ?_, ?_⟩
        · rw [gx, zae]
          unfold za1 sIf
          rw [ct, zae, if_neg (by simpa using c)]
          rfl
        · rw [ein, List.length_append, List.length_singleton]
          exact ⟨fp.nk, fun p' h' => g.up _ _ (fp.sz p' h')⟩
        · rw [ein, List.length_append, List.length_singleton]
          omega)
  obtain ⟨ρ', e, y5, y6, h5, h6, rfl, fp, hlp⟩ := L
  exact ⟨y5, y6, h5, h6, e, fp, hlp⟩
theorem zcI (s t : Sm) (x : List Int × Rat) : zcD (s ++ [x]) t = inW x (zht x.1.length t) (zcD s t) := by simp [zcD]
theorem zsM (g : zox P Q N) {s t : Sm} (hs : ∀ p ∈ s, p.1.length <= 5) (ht : ∀ q ∈ t, q.1.length <= 5) (hQ : ∀ p ∈ s, ∀ q ∈ t, Q (p.2 * q.2)) (bs : ∀ p ∈ s, QR.Bd 4000 p.2) (bt : ∀ q ∈ t, QR.Bd 4000 q.2) (hN : s.length * t.length <= N) (h64 : s.length * t.length < 64) :
    zaV [.list (s.map tln), .list (t.map tln)] = .ok (told (zcD s t)) /\ Fit P (s.length * t.length) (zcD s t) /\ (zcD s t).length <= s.length * t.length := by
  have L := zce (f := tln) (g := gT [gN 3, gN 4]) (b := zci)
    (fun done ρ => ∃ y3 y4 y5 y6, Np y3 /\ Np y4 /\ Np y5 /\ Np y6 /\ ρ = [.val (.list (s.map tln)), .val (.list (t.map tln)), .ow false (dct (zcD done t)), y3, y4, y5, y6] /\ Fit P (done.length * t.length) (zcD done t) /\ (zcD done t).length <= done.length * t.length)
    s [] [.val (.list (s.map tln)), .val (.list (t.map tln)), .ow false (dct []), .no, .no, .no, .no] ⟨.no, .no, .no, .no, zcV, zcV, zcV, zcV, rfl, ⟨List.nodup_nil, fun p hp => by simp [zcD] at hp⟩, by simp [zcD]⟩ (by
      intro pre x post ρ e hP
      obtain ⟨y3, y4, y5, y6, h3, h4, h5, h6, rfl, fp, hlp⟩ := hP
      rw [List.nil_append] at e
      have mx : x ∈ s := by rw [e]; simp
      have hlen : (pre.length + 1) * t.length <= s.length * t.length := Nat.mul_le_mul_right _ (by rw [e]; simp)
      rw [Nat.add_mul, Nat.one_mul] at hlen
      have gx : gT [gN 3, gN 4] (tln x) [.val (.list (s.map tln)), .val (.list (t.map tln)), .ow false (dct (zcD pre t)), y3, y4, y5, y6] = .ok [.val (.list (s.map tln)), .val (.list (t.map tln)), .ow false (dct (zcD pre t)), .val (tp x.1), .val (num x.2), y5, y6] := zs1 rfl rfl (by decide) h3 h4
      obtain ⟨z5, z6, m5, m6, ei, fi, li⟩ := zpt g (S := .list (s.map tln)) (T := .list (t.map tln)) (hs x mx) ht (hQ x mx) (bs x mx) bt fp (by omega) (by unfold lim; omega) h5 h6
      refine ⟨[.val (.list (s.map tln)), .val (.list (t.map tln)), .ow false (dct (zcD (pre ++ [x]) t)), .val (tp x.1), .val (num x.2), z5, z6], .nx, ?_, .inl rfl, _, _, z5, z6, zbn _, zbn _, m5, m6, rfl, ?_, ?_⟩
      · rw [gx, zae, zcI]
        exact ei
      · rw [zcI, List.length_append, List.length_singleton, Nat.add_mul, Nat.one_mul]
        exact fi
      · rw [zcI, List.length_append, List.length_singleton, Nat.add_mul, Nat.one_mul]
        exact Nat.le_trans li (by omega))
  obtain ⟨ρ', e, y3, y4, y5, y6, h3, h4, h5, h6, rfl, fp, hlp⟩ := L
  simp only [List.nil_append] at e fp hlp
  refine ⟨?_, fp, hlp⟩
  have s1 : ziq 2 zfO [.val (.list (s.map tln)), .val (.list (t.map tln)), .no, .no, .no, .no, .no] = .ok (.nx, [.val (.list (s.map tln)), .val (.list (t.map tln)), .ow false (dct []), .no, .no, .no, .no]) := rfl
  have s2 : zch [.val (.list (s.map tln)), .val (.list (t.map tln)), .ow false (dct []), .no, .no, .no, .no] = .ok (.nx, [.val (.list (s.map tln)), .val (.list (t.map tln)), .ow false (dct (zcD s t)), y3, y4, y5, y6]) := e
  have tl : zaZ [dct (zcD s t)] = .ok (told (zcD s t)) := by rw [zmC]; exact ziz fp.nk (by omega)
  refine zgw (ρ := [.val (.list (s.map tln)), .val (.list (t.map tln)), .val (dct (zcD s t)), y3, y4, y5, y6]) rfl ?_
  show zcf [.val (.list (s.map tln)), .val (.list (t.map tln)), .no, .no, .no, .no, .no] = _
  unfold zcf
  rw [zaw s1, zaw s2]
  simp only [ztB, zca, zal, zac, zau, eV, zae, List.getElem?_cons_zero, List.getElem?_cons_succ, List.set_cons_zero, List.set_cons_succ, tl]
theorem len_cat : ∀ (t : Sm) (m : Nat), t.Pairwise (fun p q => p.1.length <= q.1.length) -> (t.filter fun q => decide (q.1.length < m)) ++ (t.filter fun q => decide (q.1.length = m)) = t.filter fun q => decide (q.1.length < m + 1)
  | [], _, _ => rfl
  | x :: r, m, h => by
    rw [List.pairwise_cons] at h
    have ih := len_cat r m h.2
    by_cases c1 : x.1.length < m
    · rw [List.filter_cons_of_pos (by simpa using c1), List.filter_cons_of_neg (by simp; omega), List.filter_cons_of_pos (by simp; omega), List.cons_append, ih]
    · have hr : r.filter (fun q => decide (q.1.length < m)) = [] := List.filter_eq_nil_iff.mpr fun q hq => by have := h.1 q hq; simp; omega
      rw [List.filter_cons_of_neg (by simpa using c1), hr, List.nil_append]
      rw [hr, List.nil_append] at ih
      by_cases c2 : x.1.length = m
      · rw [List.filter_cons_of_pos (by simpa using c2), List.filter_cons_of_pos (by simp; omega), ih]
      · rw [List.filter_cons_of_neg (by simpa using c2), List.filter_cons_of_neg (by simp; omega), ih]
theorem zro (p : List Int × Rat) (a b acc : Sm) : inW p (a ++ b) acc = inW p b (inW p a acc) := by simp [inW]
theorem zrF : ∀ {t : Sm}, Asc t -> t.Pairwise (fun p q => p.1.length <= q.1.length) := fun {t} h => h.imp fun {p q} hpq => by
  unfold ltW kyS at hpq
  simp only at hpq
  split at hpq
  · rename_i e; have : (p.1.length : Int) = q.1.length := e; omega
  · have := of_decide_eq_true hpq; omega
def fil (t : Sm) (l : Nat) : Sm := t.filter fun q => decide (q.1.length = l)
theorem zpJ (g : zox P Q N) {i : Nat} {s t : Sm} {B T : D} {p : List Int × Rat} {acc : Sm} (ns : Nk s) (nt : Nk t) (ms : p ∈ s) (hp : p.1.length <= 5) (ht : ∀ q ∈ t, q.1.length <= 5) (hQ : ∀ q ∈ t, Q (p.2 * q.2)) (bp : QR.Bd 4000 p.2) (bt : ∀ q ∈ t, QR.Bd 4000 q.2) (f : Fit P i acc) (hi : i + t.length <= N) (hl : acc.length + t.length + 1 <= lim)
    {x6 : Sl} (n6 : Np x6) : ∃ y6, Np y6 /\ zbw [.val (dct s), .val T, .val B, .ow false (dct acc), .val (tp p.1), .val (dct t), x6] = .ok (.nx, [.val (dct s), .val T, .val B, .ow false (dct (inW p t acc)), .val (tp p.1), .val (dct t), y6]) /\ Fit P (i + t.length) (inW p t acc) /\ (inW p t acc).length <= acc.length + t.length := by
  have L := zce (f := fun p : List Int × Rat => tp p.1) (g := gN 6) (b := zbz)
    (fun done ρ => ∃ y6, Np y6 /\ ρ = [.val (dct s), .val T, .val B, .ow false (dct (inW p done acc)), .val (tp p.1), .val (dct t), y6] /\ Fit P (i + done.length) (inW p done acc) /\ (inW p done acc).length <= acc.length + done.length)
    t [] [.val (dct s), .val T, .val B, .ow false (dct acc), .val (tp p.1), .val (dct t), x6] ⟨x6, n6, rfl, f, Nat.le_refl _⟩ (by
      intro pre x post ρ e hP
      obtain ⟨y6, h6, rfl, fp, hlp⟩ := hP
      rw [List.nil_append] at e
      have mx : x ∈ t := by rw [e]; simp
      have hlen : pre.length + 1 <= t.length := by rw [e]; simp
      have gx : gN 6 (tp x.1) [.val (dct s), .val T, .val B, .ow false (dct (inW p pre acc)), .val (tp p.1), .val (dct t), y6] = .ok [.val (dct s), .val T, .val B, .ow false (dct (inW p pre acc)), .val (tp p.1), .val (dct t), .val (tp x.1)] := ziS rfl h6
      have fx := zj8 g fp (by omega) (by omega) (p.1 ++ x.1) (hQ x mx)
      rw [<- add_eq] at fx
      refine ⟨[.val (dct s), .val T, .val B, .ow false (dct (inW p (pre ++ [x]) acc)), .val (tp p.1), .val (dct t), .val (tp x.1)], .nx, ?_, .inl rfl, .val (tp x.1), zbn _, rfl, ?_, ?_⟩
      · rw [gx, zae]
        unfold zbz sE
        rw [zkL (p := false) (d := dct (inW p pre acc)) (v := tp (p.1 ++ x.1)) (u := num (p.2 * x.2)) (r := .none) (d' := dct (zhu (inW p pre acc) (p.1 ++ x.1) (p.2 * x.2))) (v' := tp (p.1 ++ x.1)) (u' := num (p.2 * x.2)) rfl ?_ ?_ fx, zgc]
        · rfl
        · simp only [FL.e2, eV, zae, List.getElem?_cons_zero, List.getElem?_cons_succ]
          rw [zqu (by have := ht x mx; unfold lim; omega)]; rfl
        · have d1 := zfp (zfb ns ms)
          have d2 := zfp (zfb nt mx)
          have tm := zoG bp (bt x mx) (Nat.le_refl _)
          simp only [zil, zal, zac, zau, FL.e2, eV, zae, List.getElem?_cons_zero, List.getElem?_cons_succ, d1, d2, tm]
      · rw [zgc, List.length_append, List.length_singleton, <- Nat.add_assoc]
        exact fp.add g _ (hQ x mx)
      · rw [zgc, List.length_append, List.length_singleton]
        exact Nat.le_trans (zk9 _ _ _) (by omega))
  obtain ⟨ρ', e, y6, h6, rfl, fp, hlp⟩ := L
  refine ⟨y6, h6, ?_, fp, hlp⟩
  unfold zbw zir
  have hi : (iD (eV 5)) [.val (dct s), .val T, .val B, .ow false (dct acc), .val (tp p.1), .val (dct t), x6] = .ok (t.map fun p => tp p.1, [.val (dct s), .val T, .val B, .ow false (dct acc), .val (tp p.1), .val (dct t), x6]) := by
    simp only [iD, eV, zae, List.getElem?_cons_zero, List.getElem?_cons_succ, zdP]
  rw [hi, zae]
  exact e
def blD (t : Sm) (m : Nat) : List D := (List.range m).map fun l => dct (fil t l)
theorem zoQ {m : Nat} {pre post : List Nat} {x : Nat} (e : List.range m = pre ++ x :: post) : x = pre.length /\ x < m := by
  have h1 : (List.range m)[pre.length]? = some x := by rw [e]; simp
  have h2 : pre.length < m := by
    have := congrArg List.length e
    simp at this
    omega
  rw [List.getElem?_range h2] at h1
  cases h1
  exact ⟨rfl, h2⟩
theorem ztj (g : zox P Q N) {i : Nat} {s t : Sm} {B T : D} {p : List Int × Rat} {acc : Sm} (ns : Nk s) (nt : Nk t) (al : t.Pairwise fun p q => p.1.length <= q.1.length) (ms : p ∈ s) (hp : p.1.length <= 5) (ht : ∀ q ∈ t, q.1.length <= 5) (hQ : ∀ q ∈ t, Q (p.2 * q.2)) (bp : QR.Bd 4000 p.2) (bt : ∀ q ∈ t, QR.Bd 4000 q.2) (f : Fit P i acc) (hi : i + t.length <= N) (hl : acc.length + t.length + 1 <= lim)
    {x5 x6 : Sl} (n5 : Np x5) (n6 : Np x6) (m : Nat) : ∃ y5 y6, Np y5 /\ Np y6 /\ forL (gN 5) zby (blD t m) [.val (dct s), .val T, .val B, .ow false (dct acc), .val (tp p.1), x5, x6] = .ok (.nx, [.val (dct s), .val T, .val B, .ow false (dct (inW p (t.filter fun q => decide (q.1.length < m)) acc)), .val (tp p.1), y5, y6]) /\
      Fit P (i + (t.filter fun q => decide (q.1.length < m)).length) (inW p (t.filter fun q => decide (q.1.length < m)) acc) /\ (inW p (t.filter fun q => decide (q.1.length < m)) acc).length <= acc.length + (t.filter fun q => decide (q.1.length < m)).length := by
  have z0 : t.filter (fun q => decide (q.1.length < 0)) = [] := List.filter_eq_nil_iff.mpr fun q hq => by simp
  have L := zce (f := fun l : Nat => dct (fil t l)) (g := gN 5) (b := zby)
    (fun done ρ => ∃ y5 y6, Np y5 /\ Np y6 /\ ρ = [.val (dct s), .val T, .val B, .ow false (dct (inW p (t.filter fun q => decide (q.1.length < done.length)) acc)), .val (tp p.1), y5, y6] /\ Fit P (i + (t.filter fun q => decide (q.1.length < done.length)).length) (inW p (t.filter fun q => decide (q.1.length < done.length)) acc) /\ (inW p (t.filter fun q => decide (q.1.length < done.length)) acc).length <= acc.length + (t.filter fun q => decide (q.1.length < done.length)).length)
    (List.range m) [] [.val (dct s), .val T, .val B, .ow false (dct acc), .val (tp p.1), x5, x6] ⟨x5, x6, n5, n6, by rw [List.length_nil, z0]; rfl, by rw [List.length_nil, z0]; exact f, by rw [List.length_nil, z0]; exact Nat.le_refl _⟩ (by
      intro pre x post ρ e hP
      obtain ⟨y5, y6, h5, h6, rfl, fp, hlp⟩ := hP
      rw [List.nil_append] at e
      obtain ⟨ex, _⟩ := zoQ e
      have cat := len_cat t pre.length al
      have cl := congrArg List.length cat
      rw [List.length_append] at cl
      have hle := List.length_filter_le (fun q : List Int × Rat => decide (q.1.length < pre.length + 1)) t
      have hf : fil t x = t.filter fun q => decide (q.1.length = pre.length) := by rw [ex]; rfl
      have gx : gN 5 (dct (fil t x)) [.val (dct s), .val T, .val B, .ow false (dct (inW p (t.filter fun q => decide (q.1.length < pre.length)) acc)), .val (tp p.1), y5, y6] = .ok [.val (dct s), .val T, .val B, .ow false (dct (inW p (t.filter fun q => decide (q.1.length < pre.length)) acc)), .val (tp p.1), .val (dct (fil t x)), y6] := ziS rfl h5
      have sub : ∀ q ∈ fil t x, q ∈ t := fun q hq => (List.mem_filter.mp hq).1
      obtain ⟨z6, m6, ei, fi, li⟩ := zpJ g (B := B) (T := T) (t := fil t x) ns (List.Nodup.sublist (List.Sublist.map _ List.filter_sublist) nt) ms hp (fun q hq => ht q (sub q hq)) (fun q hq => hQ q (sub q hq)) bp (fun q hq => bt q (sub q hq)) fp (by rw [hf]; omega) (by rw [hf]; omega) h6
      have key : inW p (t.filter fun q => decide (q.1.length < (pre ++ [x]).length)) acc = inW p (fil t x) (inW p (t.filter fun q => decide (q.1.length < pre.length)) acc) := by
        rw [List.length_append, List.length_singleton, <- cat, zro, hf]
      have kl : (t.filter fun q => decide (q.1.length < (pre ++ [x]).length)).length = (t.filter fun q => decide (q.1.length < pre.length)).length + (fil t x).length := by
        rw [List.length_append, List.length_singleton, <- cat, List.length_append, hf]
      refine ⟨[.val (dct s), .val T, .val B, .ow false (dct (inW p (t.filter fun q => decide (q.1.length < (pre ++ [x]).length)) acc)), .val (tp p.1), .val (dct (fil t x)), z6], .nx, ?_, .inl rfl, _, z6, zbn _, m6, rfl, ?_, ?_⟩
      · rw [gx, zae, key]
        exact ei
      · rw [key, kl, <- Nat.add_assoc]; exact fi
      · rw [key, kl]; omega)
  obtain ⟨ρ', e, y5, y6, h5, h6, rfl, fp, hlp⟩ := L
  simp only [List.nil_append, List.length_range] at e fp hlp
  exact ⟨y5, y6, h5, h6, e, fp, hlp⟩
theorem zuR : rng 0 6 = (List.range 6).map fun (l : Nat) => PyData.int (l : Int) := rfl
theorem zvr {s t : Sm} (nt : Nk t) (hl : t.length + 1 <= lim) (r : En) : za8 (.val (dct s) :: .val (dct t) :: r) = .ok (.list (blD t 6), .val (dct s) :: .val (dct t) :: r) := by
  unfold za8
  rw [zgX (items := rng 0 6) (fun x => match x with | .int i => dct (fil t i.toNat) | _ => .none)]
  · rw [zuR, List.map_map]; rfl
  · have : zej [.int (5 + 1)] = .ok (rng 0 6) := zcE (by decide) (by decide)
    simp only [iR1, zac, zau, FL.e2, eC, zba, zae, this]
  · decide
  · intro x hx
    rw [zuR] at hx
    obtain ⟨l, hl', rfl⟩ := List.mem_map.mp hx
    refine ⟨[.val (.int (l : Int)), .val (dct t)], rfl, ?_, ?_⟩
    · have tk : za2 [dct t, .int (l : Int)] = .ok (dct (fil t l)) := by rw [zoI]; exact zoH nt hl l
      simp only [zal, zac, zau, eV, zae, List.getElem?_cons_zero, List.getElem?_cons_succ, tk]
      simp
    · refine zgi (fun i p d e => ?_) _ 0
      revert e
      simp only [List.drop_succ_cons, List.drop_zero, List.zip_cons_cons, List.zip_nil_left, List.lookup_cons, List.lookup_nil]
      split <;> (intro e; cases e)
theorem zuG (g : zox P Q N) {s t : Sm} (ns : Nk s) (nt : Nk t) (al : t.Pairwise fun p q => p.1.length <= q.1.length) (hs : ∀ p ∈ s, p.1.length <= 5) (ht : ∀ q ∈ t, q.1.length <= 5) (hQ : ∀ p ∈ s, ∀ q ∈ t, Q (p.2 * q.2)) (bs : ∀ p ∈ s, QR.Bd 4000 p.2) (bt : ∀ q ∈ t, QR.Bd 4000 q.2) (hN : s.length * t.length <= N) (h64 : s.length * t.length < 64) (ht64 : t.length < 64) :
    zbW [dct s, dct t] = .ok (dct (zcD s t)) := by
  have cutE : ∀ p ∈ s, zht p.1.length t = t.filter fun q => decide (q.1.length < 6 - p.1.length) := fun p hp => by
    unfold zht
    refine List.filter_congr fun q hq => ?_
    rw [decide_eq_decide]
    have := hs p hp
    omega
  have L := zce (f := fun p : List Int × Rat => tp p.1) (g := gN 4) (b := zbx)
    (fun done ρ => ∃ y4 y5 y6, Np y4 /\ Np y5 /\ Np y6 /\ ρ = [.val (dct s), .val (dct t), .val (.list (blD t 6)), .ow false (dct (zcD done t)), y4, y5, y6] /\ Fit P (done.length * t.length) (zcD done t) /\ (zcD done t).length <= done.length * t.length)
    s [] [.val (dct s), .val (dct t), .val (.list (blD t 6)), .ow false (dct []), .no, .no, .no] ⟨.no, .no, .no, zcV, zcV, zcV, rfl, ⟨List.nodup_nil, fun p hp => by simp [zcD] at hp⟩, by simp [zcD]⟩ (by
      intro pre x post ρ e hP
      obtain ⟨y4, y5, y6, h4, h5, h6, rfl, fp, hlp⟩ := hP
      rw [List.nil_append] at e
      have mx : x ∈ s := by rw [e]; simp
      have hlen : (pre.length + 1) * t.length <= s.length * t.length := Nat.mul_le_mul_right _ (by rw [e]; simp)
      rw [Nat.add_mul, Nat.one_mul] at hlen
      have gx : gN 4 (tp x.1) [.val (dct s), .val (dct t), .val (.list (blD t 6)), .ow false (dct (zcD pre t)), y4, y5, y6] = .ok [.val (dct s), .val (dct t), .val (.list (blD t 6)), .ow false (dct (zcD pre t)), .val (tp x.1), y5, y6] := ziS rfl h4
      obtain ⟨z5, z6, m5, m6, ei, fi, li⟩ := ztj g (B := .list (blD t 6)) (T := dct t) ns nt al mx (hs x mx) ht (hQ x mx) (bs x mx) bt fp (by omega) (by unfold lim; omega) h5 h6 (6 - x.1.length)
      rw [<- cutE x mx] at ei fi li
      have cle : (zht x.1.length t).length <= t.length := List.length_filter_le _ _
      have hx5 := hs x mx
      have it : (iE (eSl (eV 2) zpk (zpj (e2 zf7 (e2 zba (eC (.int 5)) (eC (.int 1))) (FL.e1 zdf (eV 4)))))) [.val (dct s), .val (dct t), .val (.list (blD t 6)), .ow false (dct (zcD pre t)), .val (tp x.1), y5, y6] = .ok (blD t (6 - x.1.length), [.val (dct s), .val (dct t), .val (.list (blD t 6)), .ow false (dct (zcD pre t)), .val (tp x.1), y5, y6]) := by
        have ln : zdf (tp x.1) = .ok (.int (x.1.length : Int)) := by
          show R.ok (PyData.int ((x.1.map PyData.int).length : Int)) = _
          rw [List.length_map]
        have sl : zmJ (.list (blD t 6)) none (some ((6 : Int) - (x.1.length : Int))) = .ok (.list (blD t (6 - x.1.length))) := by
          show R.ok (PyData.list (cut (blD t 6) none (some ((6 : Int) - (x.1.length : Int))))) = _
          rw [show ((6 : Int) - (x.1.length : Int)) = ((6 - x.1.length : Nat) : Int) by omega, zti]
          unfold blD
          rw [<- List.map_take, List.take_range, Nat.min_eq_left (by omega)]
        simp only [iE, eSl, zpk, zpj, FL.e1, FL.e2, eV, eC, zba, zf7, zae, List.getElem?_cons_zero, List.getElem?_cons_succ, ln, show (5 : Int) + 1 = 6 from rfl, sl, zls]
      refine ⟨[.val (dct s), .val (dct t), .val (.list (blD t 6)), .ow false (dct (zcD (pre ++ [x]) t)), .val (tp x.1), z5, z6], .nx, ?_, .inl rfl, _, z5, z6, zbn _, m5, m6, rfl, ?_, ?_⟩
      · rw [gx, zae, zcI]
        unfold zbx zb1 zir
        rw [it, zae]
        exact ei
      · rw [zcI, List.length_append, List.length_singleton, Nat.add_mul, Nat.one_mul]
        refine ⟨fi.nk, fun p' h' => ?_⟩
        have up : ∀ (n : Nat) {i : Nat} {r : Rat}, P i r -> P (i + n) r := fun n => by
          induction n with
          | zero => intro i r h; exact h
          | succ n ih => intro i r h; exact g.up _ _ (ih h)
        have := up (t.length - (zht x.1.length t).length) (fi.sz p' h')
        rwa [show pre.length * t.length + (zht x.1.length t).length + (t.length - (zht x.1.length t).length) = pre.length * t.length + t.length by omega] at this
      · rw [zcI, List.length_append, List.length_singleton, Nat.add_mul, Nat.one_mul]
        omega)
  obtain ⟨ρ', e, y4, y5, y6, h4, h5, h6, rfl, fp, hlp⟩ := L
  simp only [List.nil_append] at e fp hlp
  refine zgw (ρ := [.val (dct s), .val (dct t), .val (.list (blD t 6)), .ow false (dct (zcD s t)), y4, y5, y6]) rfl ?_
  show zbV [.val (dct s), .val (dct t), .no, .no, .no, .no, .no] = _
  unfold zbV
  have s1 : zoJ 2 (ziq 2 za8) [.val (dct s), .val (dct t), .no, .no, .no, .no, .no] = .ok (.nx, [.val (dct s), .val (dct t), .val (.list (blD t 6)), .no, .no, .no, .no]) := by
    simp only [zoJ, ziq, zvr nt (show t.length + 1 <= lim by unfold lim; omega), zae]
    rfl
  have s2 : ziq 3 zfO [.val (dct s), .val (dct t), .val (.list (blD t 6)), .no, .no, .no, .no] = .ok (.nx, [.val (dct s), .val (dct t), .val (.list (blD t 6)), .ow false (dct []), .no, .no, .no]) := rfl
  have hi : (iD (eV 0)) [.val (dct s), .val (dct t), .val (.list (blD t 6)), .ow false (dct []), .no, .no, .no] = .ok (s.map fun p => tp p.1, [.val (dct s), .val (dct t), .val (.list (blD t 6)), .ow false (dct []), .no, .no, .no]) := by
    simp only [iD, eV, zae, List.getElem?_cons_zero, List.getElem?_cons_succ, zdP]
  have s3 : zbv [.val (dct s), .val (dct t), .val (.list (blD t 6)), .ow false (dct []), .no, .no, .no] = .ok (.nx, [.val (dct s), .val (dct t), .val (.list (blD t 6)), .ow false (dct (zcD s t)), y4, y5, y6]) := by
    unfold zbv zir
    rw [hi, zae]
    exact e
  rw [zaw s1, zaw s2, zaw s3]
  rfl
theorem zlp {c : Int} {t : Sm} (h1 : 1 <= c) (h4 : c <= 4) (ha : Asc t) (hw : ∀ p ∈ t, Wok c p) (hl : t.length + 1 <= lim) : zbb [.int c, .list (t.map tln)] = .ok (dct t) := by
  have wh : zbl [.int c] = .ok (.bool true) := rfl
  have rf : za9 [.int c] = .ok .none := by
    simp only [za9, zbD, FL.run, List.length_cons, List.length_nil, Nat.reduceAdd, List.replicate, zb4, sIf, FL.tOr, FL.zeE, tE, zal, zac, eV, slots, Bool.false_eq_true, if_false, Nat.sub_self, List.cons_append, List.nil_append, List.getElem?_cons_zero, zau, zae, wh, zkZ, Bool.not_true, tB, zfQ, eC, leD_int, decide_eq_true h1, decide_eq_true h4, zrL, sNx, outs, outD, if_true]
  have hs : zcO [.list (t.map tln), .int c] = .ok (dct t) := by rw [held_eq]; exact znH ha hw hl
  simp only [zbb, zbD, FL.run, List.length_cons, List.length_nil, Nat.reduceAdd, List.replicate, zcA, zaI, sE, zal, zac, eV, slots, Bool.false_eq_true, if_false, Nat.sub_self, List.cons_append, List.nil_append, List.getElem?_cons_zero, zau, zae, rf, zca, List.getElem?_cons_succ, hs, outs, outD, if_true]
theorem zkK (g : zox P Q N) {c : Int} (h1 : 1 <= c) (h4 : c <= 4) {s t : Sm} (as : Asc s) (at' : Asc t) (ws : ∀ p ∈ s, Wok c p) (wt : ∀ p ∈ t, Wok c p) (hQ : ∀ p ∈ s, ∀ q ∈ t, Q (p.2 * q.2)) (bs : ∀ p ∈ s, QR.Bd 4000 p.2) (bt : ∀ q ∈ t, QR.Bd 4000 q.2) (hN : s.length * t.length <= N) (h64 : s.length * t.length < 64) (hs64 : s.length < 64) (ht64 : t.length < 64) :
    za4 [.int c, .list (s.map tln), .list (t.map tln)] = .ok (told (zcD s t)) := by
  have k1 := zlp h1 h4 as ws (show s.length + 1 <= lim by unfold lim; omega)
  have k2 := zlp h1 h4 at' wt (show t.length + 1 <= lim by unfold lim; omega)
  have k3 := zuG g (zlL as) (zlL at') (zrF at') (fun p hp => (ws p hp).ln) (fun p hp => (wt p hp).ln) hQ bs bt hN h64 ht64
  obtain ⟨_, fp, hl⟩ := zsM g (s := s) (t := t) (fun p hp => (ws p hp).ln) (fun p hp => (wt p hp).ln) hQ bs bt hN h64
  have k4 : zcN [dct (zcD s t)] = .ok (told (zcD s t)) := by rw [zoF]; exact zk0 fp.nk (by omega)
  generalize PyData.list (s.map tln) = S at k1 ⊢
  generalize PyData.list (t.map tln) = T at k2 ⊢
  generalize told (zcD s t) = R' at k4 ⊢
  simp only [za4, zbD, FL.run, List.length_cons, List.length_nil, Nat.reduceAdd, List.replicate, zdB, zaI, zhs, zal, zac, eV, slots, Bool.false_eq_true, if_false, Nat.reduceSub, List.cons_append, List.nil_append, List.getElem?_cons_zero, zau, zae, List.getElem?_cons_succ, k1, gN, k2, List.set_cons_succ, List.set_cons_zero, zca, k3, k4, outs, outD, if_true]
end
end K57
namespace K57
open PySem FL
theorem zqB : zaB = zb8 := rfl
theorem zo3 : zbZ = zi7 := rfl
theorem zuL : zdK = ztP := rfl
theorem zr3 : zbm = zj9 := rfl
theorem znF {p : List Int × Rat} : ∀ {t acc : Sm} {e : List Int × Rat}, e ∈ inW p t acc -> (∃ e' ∈ acc, e'.1 = e.1) \/ ∃ q ∈ t, e.1 = p.1 ++ q.1
  | [], acc, e, h => .inl ⟨e, h, rfl⟩
  | x :: r, acc, e, h => by
    have h' : e ∈ inW p r (zhu acc (p.1 ++ x.1) (p.2 * x.2)) := h
    rcases znF h' with ⟨e', h1, h2⟩ | ⟨q, h1, h2⟩
    · rcases zk8 h1 with h3 | h3
      · exact .inl ⟨e', h3, h2⟩
      · subst h3; exact .inr ⟨x, List.mem_cons_self .., h2.symm⟩
    · exact .inr ⟨q, List.mem_cons_of_mem _ h1, h2⟩
theorem zpQ {s t : Sm} {e : List Int × Rat} (h : e ∈ zcD s t) : ∃ p ∈ s, ∃ q ∈ t, e.1 = p.1 ++ q.1 := by
  have key : ∀ (s' : Sm) (acc : Sm) (e : List Int × Rat), (∀ e ∈ acc, ∃ p ∈ s, ∃ q ∈ t, e.1 = p.1 ++ q.1) -> (∀ p ∈ s', p ∈ s) -> e ∈ s'.foldl (fun a p => inW p (zht p.1.length t) a) acc -> ∃ p ∈ s, ∃ q ∈ t, e.1 = p.1 ++ q.1 := by
    intro s'
    induction s' with
    | nil => intro acc e ha _ he; exact ha e he
    | cons x r ih =>
      intro acc e ha hs he
      refine ih _ e (fun e' he' => ?_) (fun p hp => hs p (List.mem_cons_of_mem _ hp)) he
      rcases znF he' with ⟨e'', h1, h2⟩ | ⟨q, h1, h2⟩
      · rw [<- h2]; exact ha e'' h1
      · exact ⟨x, hs x (List.mem_cons_self ..), q, (List.mem_filter.mp h1).1, h2⟩
  exact key s [] e (fun _ h => by simp at h) (fun _ h => h) h
theorem ziH {i : Int} {k B : Nat} (h : i.natAbs.log2 < k) (hk : 0 < k) (hB : k + 1 <= B) : PyData.leavesShort B (.int i) = true := by
  have hs : (PyData.shown (.int i)).length <= B := by
    simp only [PyData.shown]
    have := int_text_length_le hk h
    rw [ofString_length]
    omega
  unfold PyData.leavesShort
  exact decide_eq_true hs
theorem ziI {α : Type} {B : Nat} (f : α -> D) : ∀ (l : List α), (∀ a ∈ l, PyData.leavesShort B (f a) = true) -> PyData.leavesShortAll B (l.map f) = true
  | [], _ => by simp [PyData.leavesShortAll]
  | x :: r, h => by
    simp only [List.map_cons, PyData.leavesShortAll, Bool.and_eq_true]
    exact ⟨h x (List.mem_cons_self ..), ziI f r fun a m => h a (List.mem_cons_of_mem _ m)⟩
theorem zin {α : Type} (f : α -> D) : ∀ (l : List α), (∀ a ∈ l, PyData.showable (f a) = true) -> PyData.showableAll (l.map f) = true
  | [], _ => by simp [PyData.showableAll]
  | x :: r, h => by
    simp only [List.map_cons, PyData.showableAll, Bool.and_eq_true]
    exact ⟨h x (List.mem_cons_self ..), zin f r fun a m => h a (List.mem_cons_of_mem _ m)⟩
theorem zi2 {α : Type} (f : α -> D) (n : Nat) : ∀ (l : List α), (∀ a ∈ l, PyData.bulk (f a) <= n) -> PyData.bulkAll (l.map f) <= (n + 1) * l.length
  | [], _ => by simp [PyData.bulkAll]
  | x :: r, h => by
    have h1 := h x (List.mem_cons_self ..)
    have h2 := zi2 f n r fun a m => h a (List.mem_cons_of_mem _ m)
    simp only [List.map_cons, PyData.bulkAll, List.length_cons, Nat.mul_add, Nat.mul_one]
    omega
structure Tx (p : List Int × Rat) : Prop where
  ln : p.1.length <= 10
  lt : ∀ x ∈ p.1, x.natAbs.log2 < 600
  n1 : p.2.num.natAbs.log2 < 600
  n2 : p.2.den.log2 < 600
theorem zr4 {z : Sm} (h : ∀ p ∈ z, Tx p) (hl : z.length <= 16) : zpY (.list (z.map tln)) = .ok (.str (PyData.shown (.list (z.map tln)))) := by
  have pl : Pl 3 (.list (z.map tln)) := zkl fun d hd => by
    obtain ⟨p, _, rfl⟩ := List.mem_map.mp hd
    refine zeO fun d' hd' => ?_
    simp only [List.mem_cons, List.not_mem_nil, or_false] at hd'
    rcases hd' with rfl | rfl
    · exact zo8 p.1
    · exact zeO fun d'' h'' => by
        simp only [List.mem_cons, List.not_mem_nil, or_false] at h''
        rcases h'' with rfl | rfl <;> exact zgC _
  have sh : PyData.showable (.list (z.map tln)) = true := by
    simp only [PyData.showable]
    refine zin tln z fun p hp => ?_
    have := h p hp
    simp only [tln, tp, num, PyData.showable, PyData.showableAll, Bool.and_true, Bool.and_eq_true, decide_eq_true_eq]
    refine ⟨zin PyData.int p.1 fun x hx => ?_, ?_, ?_⟩
    · simp only [PyData.showable, decide_eq_true_eq]; have := this.lt x hx; omega
    · have := this.n1; omega
    · have := this.n2; simp only [Int.natAbs_natCast]; omega
  have lf : PyData.leavesShort 601 (.list (z.map tln)) = true := by
    simp only [PyData.leavesShort]
    refine ziI tln z fun p hp => ?_
    have := h p hp
    simp only [tln, tp, num, PyData.leavesShort, PyData.leavesShortAll, Bool.and_true, Bool.and_eq_true]
    refine ⟨ziI PyData.int p.1 fun x hx => ziH (k := 600) (this.lt x hx) (by decide) (by decide), ?_, ?_⟩
    · have := ziH (k := 600) (B := 601) this.n1 (by decide) (by decide); simpa only [PyData.leavesShort] using this
    · have := ziH (i := (p.2.den : Int)) (k := 600) (B := 601) (by simpa using this.n2) (by decide) (by decide); simpa only [PyData.leavesShort] using this
  have bk : PyData.bulk (.list (z.map tln)) <= 15 * z.length := by
    simp only [PyData.bulk]
    refine zi2 tln 14 z fun p hp => ?_
    have := (h p hp).ln
    have b2 := zi2 PyData.int 0 p.1 fun x _ => by simp [PyData.bulk]
    simp only [tln, tp, num, PyData.bulk, PyData.bulkAll]
    omega
  have ln := PyData.shown_le_bulk 601 (by decide) _ lf
  show chk _ _ = _
  rw [zaO]
  simp only [Bool.and_eq_true]
  exact ⟨pl.1, sh, zeR (Nat.le_trans pl.2 (by decide)), zeR (by unfold lim; omega)⟩
def PB (i : Nat) (r : Rat) : Prop := QR.Bd (29 * (i + 1)) r
theorem zqi : zox PB (QR.Bd 28) 16 where
  z := fun i => (QR.Bd.zero (29 * (i + 1) - 1)).mono (by omega)
  up := fun i r h => QR.Bd.mono h (by omega)
  add := fun i r q h1 h2 => QR.Bd.mono (QR.Bd.add h1 h2) (by omega)
  bp := fun i r hi h => QR.Bd.mono h (by omega)
  bq := fun q h => QR.Bd.mono h (by decide)
theorem zod {n m : Nat} (h : n < 2 ^ m) (hm : 0 < m) : n.log2 < m := by
  by_cases e : n = 0
  · subst e; simpa using hm
  · exact (Nat.log2_lt e).mpr h
structure Two (c : Int) (s t : Sm) : Prop where
  c1 : 1 <= c
  c4 : c <= 4
  as : Asc s
  at_ : Asc t
  ws : ∀ p ∈ s, Wok c p
  wt : ∀ p ∈ t, Wok c p
  bs : ∀ p ∈ s, QR.Bd 14 p.2
  bt : ∀ p ∈ t, QR.Bd 14 p.2
  ls : s.length <= 4
  lt : t.length <= 4
theorem Two.swap {c : Int} {s t : Sm} (h : Two c s t) : Two c t s := ⟨h.c1, h.c4, h.at_, h.as, h.wt, h.ws, h.bt, h.bs, h.lt, h.ls⟩
theorem Two.all {c : Int} {s t : Sm} (h : Two c s t) : zaV [.list (s.map tln), .list (t.map tln)] = .ok (told (zcD s t)) /\ za4 [.int c, .list (s.map tln), .list (t.map tln)] = .ok (told (zcD s t)) /\ zpY (told (zcD s t)) = .ok (.str (PyData.shown (told (zcD s t)))) := by
  have h16 : s.length * t.length <= 16 := Nat.le_trans (Nat.mul_le_mul h.ls h.lt) (by decide)
  have hQ : ∀ p ∈ s, ∀ q ∈ t, QR.Bd 28 (p.2 * q.2) := fun p hp q hq => QR.Bd.mul (h.bs p hp) (h.bt q hq)
  have bs := fun p hp => (h.bs p hp).mono (show 14 <= 4000 by decide)
  have bt := fun p hp => (h.bt p hp).mono (show 14 <= 4000 by decide)
  obtain ⟨e1', fp, hl⟩ := zsM zqi (fun p hp => (h.ws p hp).ln) (fun p hp => (h.wt p hp).ln) hQ bs bt h16 (by omega)
  refine ⟨e1', zkK zqi h.c1 h.c4 h.as h.at_ h.ws h.wt hQ bs bt h16 (by omega) (by have := h.ls; omega) (by have := h.lt; omega), ?_⟩
  refine zr4 (fun p hp => ?_) (by rw [(zaP _).length_eq]; omega)
  have mp := (zaP _).mem_iff.mp hp
  obtain ⟨a, ha, b, hb, e⟩ := zpQ mp
  have sz := fp.sz p mp
  have szb : QR.Bd 500 p.2 := QR.Bd.mono sz (by omega)
  have a1 := h.ws a ha
  have b1 := h.wt b hb
  have sm : ∀ x : Int, 0 <= x -> x < c -> x.natAbs.log2 < 600 := fun x h0 h1 => zod (m := 600) (Nat.lt_of_lt_of_le (show x.natAbs < 2 ^ 3 by have := h.c4; omega) (Nat.pow_le_pow_right (by decide) (by decide))) (by decide)
  refine ⟨by rw [e, List.length_append]; have := a1.ln; have := b1.ln; omega, fun x hx => ?_, Nat.lt_trans (zod szb.1 (by decide)) (by decide), Nat.lt_trans (zod szb.2 (by decide)) (by decide)⟩
  rw [e] at hx
  rcases List.mem_append.mp hx with hx | hx
  · exact sm x (a1.lt x hx).1 (a1.lt x hx).2
  · exact sm x (b1.lt x hx).1 (b1.lt x hx).2
theorem zm2 (z : Sm) : Pl 3 (.list (z.map tln)) := zkl fun d hd => by
  obtain ⟨p, _, rfl⟩ := List.mem_map.mp hd
  refine zeO fun d' hd' => ?_
  simp only [List.mem_cons, List.not_mem_nil, or_false] at hd'
  rcases hd' with rfl | rfl
  · exact zo8 p.1
  · exact zeO fun d'' h'' => by
      simp only [List.mem_cons, List.not_mem_nil, or_false] at h''
      rcases h'' with rfl | rfl <;> exact zgC _
theorem ne_self {n : Nat} {a : D} (h : Pl n a) (hn : n <= 64 := by decide) : neD a a = .ok (.bool false) := by
  rw [znc h h hn hn, SeqAt.eqv_refl a h.1]; rfl
theorem zqz {c : Int} {s t : Sm} (h : Two c s t) (S K P : Sl) (i : Int) (hi : i = 0 \/ i = 1 \/ i = 2) {x8 x9 : Sl} (n8 : Np x8) (n9 : Np x9) :
    ∃ y8 y9, Np y8 /\ Np y9 /\ ze3 [S, K, P, .val (.int c), .val (.list (s.map tln)), .val (.list (t.map tln)), .val (.list [.list (s.map tln), .list (t.map tln)]), .val (.int i), x8, x9] = .ok (.nx, [S, K, P, .val (.int c), .val (.list (s.map tln)), .val (.list (t.map tln)), .val (.list [.list (s.map tln), .list (t.map tln)]), .val (.int i), y8, y9]) := by
  obtain ⟨j1, k1, t1⟩ := h.all
  obtain ⟨j2, k2, t2⟩ := h.swap.all
  have l2 : leB 2 lim = true := by decide
  have nw : neD (.list [.list (s.map tln), .list (t.map tln)]) (.list [.list (s.map tln), .list (t.map tln)]) = .ok (.bool false) := ne_self (n := 4) (zkl fun d hd => by
    simp only [List.mem_cons, List.not_mem_nil, or_false] at hd
    rcases hd with rfl | rfl
    · exact zm2 s
    · exact zm2 t)
  have nS : ∀ x : Str, ztH (.str x) (.str x) = .ok (.bool false) := fun x => by
    show R.ok (PyData.bool (x != x)) = _
    simp
  unfold told at j1 k1 t1 j2 k2 t2
  generalize hl1 : (zb9 (zcD s t)).map tln = l1 at j1 k1 t1
  generalize hl2 : (zb9 (zcD t s)).map tln = l2' at j2 k2 t2
  generalize hx1 : PyData.shown (.list l1) = x1 at t1
  generalize hx2 : PyData.shown (.list l2') = x2 at t2
  generalize PyData.list (s.map tln) = A at *
  generalize PyData.list (t.map tln) = B at *
  have m0 : zeF (.int 0) (.int 2) = .ok (.int 0) := rfl
  have m1' : zeF (.int 1) (.int 2) = .ok (.int 1) := rfl
  have m2' : zeF (.int 2) (.int 2) = .ok (.int 0) := rfl
  have ix0 : ∀ X Y : D, ixD (.list [X, Y]) (.int 0) = .ok X := fun _ _ => rfl
  have ix1 : ∀ X Y : D, ixD (.list [X, Y]) (.int 1) = .ok Y := fun _ _ => rfl
  have sb0 : zf7 (.int 1) (.int 0) = .ok (.int 1) := rfl
  have sb1 : zf7 (.int 1) (.int 1) = .ok (.int 0) := rfl
  have fin : ∀ {i : Int} {l : List D} {x : Str}, zpY (.list l) = .ok (.str x) ->
      zbp (gN 8) (e2 ixD (zf5 (zac (zal zaV (zac (eV 4) (zac (eV 5) zau))) (zac (zal zaV (zac (eV 5) (zac (eV 4) zau))) zau))) (e2 zeF (eV 7) (eC (.int 2)))) [S, K, P, .val (.int c), .val A, .val B, .val (.list [A, B]), .val (.int i), x8, x9] = .ok (.nx, [S, K, P, .val (.int c), .val A, .val B, .val (.list [A, B]), .val (.int i), .val (.list l), x9]) ->
      zal za4 (zac (eV 3) (zac (e2 ixD (eV 6) (e2 zeF (eV 7) (eC (.int 2)))) (zac (e2 ixD (eV 6) (e2 zf7 (eC (.int 1)) (e2 zeF (eV 7) (eC (.int 2))))) zau))) [S, K, P, .val (.int c), .val A, .val B, .val (.list [A, B]), .val (.int i), .val (.list l), x9] = .ok (.list l, [S, K, P, .val (.int c), .val A, .val B, .val (.list [A, B]), .val (.int i), .val (.list l), x9]) ->
      ∃ y8 y9, Np y8 /\ Np y9 /\ ze3 [S, K, P, .val (.int c), .val A, .val B, .val (.list [A, B]), .val (.int i), x8, x9] = .ok (.nx, [S, K, P, .val (.int c), .val A, .val B, .val (.list [A, B]), .val (.int i), y8, y9]) := by
    intro i l x hx s1 e2'
    refine ⟨.val (.list l), .ow false (.list []), zbn _, zsF _, ?_⟩
    have s2 : ziq 9 (zal za4 (zac (eV 3) (zac (e2 ixD (eV 6) (e2 zeF (eV 7) (eC (.int 2)))) (zac (e2 ixD (eV 6) (e2 zf7 (eC (.int 1)) (e2 zeF (eV 7) (eC (.int 2))))) zau)))) [S, K, P, .val (.int c), .val A, .val B, .val (.list [A, B]), .val (.int i), .val (.list l), x9] = .ok (.nx, [S, K, P, .val (.int c), .val A, .val B, .val (.list [A, B]), .val (.int i), .val (.list l), .ow false (.list l)]) := zmN e2' rfl n9
    have s3 : sIf (FL.tOr (tB (e2 ztH (m1 zpY 9) (FL.e1 zpY (eV 8)))) (tB (e2 neD (eV 6) (zf5 (zac (eV 4) (zac (eV 5) zau)))))) (zaW (eC (.bool false))) sNx [S, K, P, .val (.int c), .val A, .val B, .val (.list [A, B]), .val (.int i), .val (.list l), .ow false (.list l)] = .ok (.nx, [S, K, P, .val (.int c), .val A, .val B, .val (.list [A, B]), .val (.int i), .val (.list l), .ow false (.list l)]) := by
      simp only [sIf, FL.tOr, tB, FL.e1, FL.e2, m1, zaH, zf5, zac, zau, eV, zae, List.getElem?_cons_zero, List.getElem?_cons_succ, hx, nS, List.length_cons, List.length_nil, Nat.reduceAdd, zaO l2, nw, Bool.false_eq_true, if_false, sNx]
    unfold ze3
    rw [zaw s1, zaw s2, zaw s3]
    rfl
  rcases hi with rfl | rfl | rfl
  · refine fin t1 (zcR (y := (.list l1, [S, K, P, .val (.int c), .val A, .val B, .val (.list [A, B]), .val (.int 0), x8, x9])) ?_ rfl n8) ?_
    · simp only [FL.e2, zf5, zal, zac, zau, eV, eC, zae, List.getElem?_cons_zero, List.getElem?_cons_succ, j1, j2, List.length_cons, List.length_nil, Nat.reduceAdd, zaO l2, m0, ix0]
    · simp only [FL.e2, zal, zac, zau, eV, eC, zae, List.getElem?_cons_zero, List.getElem?_cons_succ, m0, ix0, ix1, sb0, k1]
  · refine fin t2 (zcR (y := (.list l2', [S, K, P, .val (.int c), .val A, .val B, .val (.list [A, B]), .val (.int 1), x8, x9])) ?_ rfl n8) ?_
    · simp only [FL.e2, zf5, zal, zac, zau, eV, eC, zae, List.getElem?_cons_zero, List.getElem?_cons_succ, j1, j2, List.length_cons, List.length_nil, Nat.reduceAdd, zaO l2, m1', ix1]
    · simp only [FL.e2, zal, zac, zau, eV, eC, zae, List.getElem?_cons_zero, List.getElem?_cons_succ, m1', ix0, ix1, sb1, k2]
  · refine fin t1 (zcR (y := (.list l1, [S, K, P, .val (.int c), .val A, .val B, .val (.list [A, B]), .val (.int 2), x8, x9])) ?_ rfl n8) ?_
    · simp only [FL.e2, zf5, zal, zac, zau, eV, eC, zae, List.getElem?_cons_zero, List.getElem?_cons_succ, j1, j2, List.length_cons, List.length_nil, Nat.reduceAdd, zaO l2, m2', ix0]
    · simp only [FL.e2, zal, zac, zau, eV, eC, zae, List.getElem?_cons_zero, List.getElem?_cons_succ, m2', ix0, ix1, sb0, k1]
theorem zn8 {F : List D -> R (D × List D)} {i : Nat} {f h j : EF} {ρ : En} {p : Bool} {d v u z r d' v' u' z' : D} (hi : ρ[i]? = some (.ow p d)) (hf : f ρ = .ok (v, ρ)) (hh : h ρ = .ok (u, ρ)) (hj : j ρ = .ok (z, ρ)) (hF : F [d, v, u, z] = .ok (r, [d', v', u', z'])) : zav F [.m i, .v f, .v h, .v j] ρ = .ok (r, ρ.set i (.ow p d')) := by
  have hm : zaH ρ i = .ok d := by unfold zaH; rw [hi]
  unfold zav
  simp only [zj7, hm, zae, hf, hh, hj, zia, hF]
  have := zi3 (d := d) (d' := d') (p := p) ρ 0 i hi
  rw [Nat.zero_add] at this
  show R.ok (r, bkL [(i, .ow true d')] 0 ρ) = _
  rw [this]
theorem ztb {c : Int} {a b : Sm} (c1 : 1 <= c) (c4 : c <= 4) (ha : Dr c 4 a) (hb : Dr c 4 b) : Two c (zb9 a) (zb9 b) where
  c1 := c1
  c4 := c4
  as := zgu ha.nk
  at_ := zgu hb.nk
  ws := fun p hp => ha.wk p ((zaP a).mem_iff.mp hp)
  wt := fun p hp => hb.wk p ((zaP b).mem_iff.mp hp)
  bs := fun p hp => ha.bd p ((zaP a).mem_iff.mp hp)
  bt := fun p hp => hb.bd p ((zaP b).mem_iff.mp hp)
  ls := by rw [(zaP a).length_eq]; exact ha.ln
  lt := by rw [(zaP b).length_eq]; exact hb.ln
theorem zoE {c : Int} {s t : Sm} (h : Two c s t) (S K P : Sl) {x7 x8 x9 : Sl} (n7 : Np x7) (n8 : Np x8) (n9 : Np x9) :
    ∃ y7 y8 y9, Np y7 /\ Np y8 /\ Np y9 /\ zig [S, K, P, .val (.int c), .val (.list (s.map tln)), .val (.list (t.map tln)), .val (.list [.list (s.map tln), .list (t.map tln)]), x7, x8, x9] = .ok (.nx, [S, K, P, .val (.int c), .val (.list (s.map tln)), .val (.list (t.map tln)), .val (.list [.list (s.map tln), .list (t.map tln)]), y7, y8, y9]) := by
  have L := zce (f := fun i : Int => PyData.int i) (g := gN 7) (b := ze3)
    (fun done ρ => ∃ y7 y8 y9, Np y7 /\ Np y8 /\ Np y9 /\ ρ = [S, K, P, .val (.int c), .val (.list (s.map tln)), .val (.list (t.map tln)), .val (.list [.list (s.map tln), .list (t.map tln)]), y7, y8, y9])
    [0, 1, 2] [] [S, K, P, .val (.int c), .val (.list (s.map tln)), .val (.list (t.map tln)), .val (.list [.list (s.map tln), .list (t.map tln)]), x7, x8, x9] ⟨x7, x8, x9, n7, n8, n9, rfl⟩ (by
      intro pre i post ρ e hP
      obtain ⟨y7, y8, y9, h7, h8, h9, rfl⟩ := hP
      have mi : i ∈ ([0, 1, 2] : List Int) := by
        rw [List.nil_append] at e; rw [e]; simp
      have hi : i = 0 \/ i = 1 \/ i = 2 := by simpa using mi
      have gx : gN 7 (.int i) [S, K, P, .val (.int c), .val (.list (s.map tln)), .val (.list (t.map tln)), .val (.list [.list (s.map tln), .list (t.map tln)]), y7, y8, y9] = .ok [S, K, P, .val (.int c), .val (.list (s.map tln)), .val (.list (t.map tln)), .val (.list [.list (s.map tln), .list (t.map tln)]), .val (.int i), y8, y9] := ziS rfl h7
      obtain ⟨z8, z9, m8, m9, et⟩ := zqz h S K P i hi h8 h9
      refine ⟨_, .nx, by rw [gx, zae]; exact et, .inl rfl, _, z8, z9, zbn _, m8, m9, rfl⟩)
  obtain ⟨ρ', e, y7, y8, y9, h7, h8, h9, rfl⟩ := L
  refine ⟨y7, y8, y9, h7, h8, h9, ?_⟩
  unfold zig zir
  have hr : zej [.int 3] = .ok (rng 0 3) := zcE (by decide) (by decide)
  have hi : iR1 (zac (eC (.int 3)) zau) [S, K, P, .val (.int c), .val (.list (s.map tln)), .val (.list (t.map tln)), .val (.list [.list (s.map tln), .list (t.map tln)]), x7, x8, x9] = .ok (([0, 1, 2] : List Int).map PyData.int, [S, K, P, .val (.int c), .val (.list (s.map tln)), .val (.list (t.map tln)), .val (.list [.list (s.map tln), .list (t.map tln)]), x7, x8, x9]) := by
    simp only [iR1, zac, zau, eC, zae, hr]; rfl
  rw [hi, zae]
  exact e
theorem zrA (ns : List Int) (k : Int) (k0 : 0 <= k) (k3 : k < 3) {x2 x3 x4 x5 x6 x7 x8 x9 : Sl} (n2 : Np x2) (n3 : Np x3) (n4 : Np x4) (n5 : Np x5) (n6 : Np x6) (n7 : Np x7) (n8 : Np x8) (n9 : Np x9) :
    ∃ y2 y3 y4 y5 y6 y7 y8 y9, Np y2 /\ Np y3 /\ Np y4 /\ Np y5 /\ Np y6 /\ Np y7 /\ Np y8 /\ Np y9 /\ zgn [.val (.list (ns.map PyData.int)), .val (.int k), x2, x3, x4, x5, x6, x7, x8, x9] = .ok (.nx, [.val (.list (ns.map PyData.int)), .val (.int k), y2, y3, y4, y5, y6, y7, y8, y9]) := by
  obtain ⟨a, ea⟩ := zuK ns k k0 (by omega)
  obtain ⟨d, ed, pd⟩ := zo2 a k (by omega)
  obtain ⟨n, d1, t1, n0, n1, p1⟩ := zdi pd (by decide) 4 (by decide) (by decide)
  obtain ⟨sa, d2, es1, dr1, p2⟩ := zpX p1 (by omega) (c := 1 + n) (m := 5) (by omega) (by omega) (by decide) (by decide)
  obtain ⟨sb, d3, es2, dr2, p3⟩ := zpX p2 (by omega) (c := 1 + n) (m := 3) (by omega) (by omega) (by decide) (by decide)
  have tw := ztb (by omega) (by omega) dr1 dr2
  have ld1 : zdW [dct sa] = .ok (.list ((zb9 sa).map tln)) := ziz dr1.nk (by have := dr1.ln; omega)
  have ld2 : zdW [dct sb] = .ok (.list ((zb9 sb).map tln)) := ziz dr2.nk (by have := dr2.ln; omega)
  have l2 : leB 2 lim = true := by decide
  generalize PyData.list (ns.map PyData.int) = S at ea ⊢
  rw [<- zuL] at ea
  rw [<- zo3] at ed
  rw [<- zqB] at t1
  rw [<- zr3] at es1 es2
  rw [<- zmC] at ld1 ld2
  obtain ⟨y7, y8, y9, m7, m8, m9, ew⟩ := zoE tw (.val S) (.val (.int k)) (.ow false d3) n7 n8 n9
  have li1 : zkt (.list ((zb9 sa).map tln)) = .ok (.list ((zb9 sa).map tln)) := rfl
  have li2 : zkt (.list ((zb9 sb).map tln)) = .ok (.list ((zb9 sb).map tln)) := rfl
  generalize PyData.list ((zb9 sa).map tln) = A at ld1 ew li1
  generalize PyData.list ((zb9 sb).map tln) = B at ld2 ew li2
  refine ⟨.ow false d3, .val (.int (1 + n)), .val A, .val B, .val (.list [A, B]), y7, y8, y9, zsF _, zbn _, zbn _, zbn _, zbn _, m7, m8, m9, ?_⟩
  have s1 : ziq 2 (zal zbZ (zac (zal zdK (zac (eV 0) (zac (eV 1) zau))) (zac (eV 1) zau))) [.val S, .val (.int k), x2, x3, x4, x5, x6, x7, x8, x9] = .ok (.nx, [.val S, .val (.int k), .ow false d, x3, x4, x5, x6, x7, x8, x9]) :=
    zmN (y := (d, [.val S, .val (.int k), x2, x3, x4, x5, x6, x7, x8, x9])) (by simp only [zal, zac, zau, eV, zae, List.getElem?_cons_zero, List.getElem?_cons_succ, ea, ed]) rfl n2
  have s2 : zbp (gN 3) (e2 zba (eC (.int 1)) (zav zaB [.m 2, .v (eC (.int 4))])) [.val S, .val (.int k), .ow false d, x3, x4, x5, x6, x7, x8, x9] = .ok (.nx, [.val S, .val (.int k), .ow false d1, .val (.int (1 + n)), x4, x5, x6, x7, x8, x9]) := by
    have cm : zav zaB [.m 2, .v (eC (.int 4))] [.val S, .val (.int k), .ow false d, x3, x4, x5, x6, x7, x8, x9] = .ok (.int n, [.val S, .val (.int k), .ow false d1, x3, x4, x5, x6, x7, x8, x9]) := zi1 (p := false) (d := d) rfl rfl t1
    have ad : zba (.int 1) (.int n) = .ok (.int (1 + n)) := rfl
    exact zcR (y := (.int (1 + n), [.val S, .val (.int k), .ow false d1, x3, x4, x5, x6, x7, x8, x9])) (by simp only [FL.e2, show eC (.int 1) [.val S, .val (.int k), .ow false d, x3, x4, x5, x6, x7, x8, x9] = .ok (.int 1, [.val S, .val (.int k), .ow false d, x3, x4, x5, x6, x7, x8, x9]) from rfl, zae, cm, ad]) rfl n3
  have s3 : zbp (gN 4) (zal zaZ (zac (zav zbm [.m 2, .v (eV 3), .v (eC (.int 4)), .v (eC (.int 5))]) zau)) [.val S, .val (.int k), .ow false d1, .val (.int (1 + n)), x4, x5, x6, x7, x8, x9] = .ok (.nx, [.val S, .val (.int k), .ow false d2, .val (.int (1 + n)), .val A, x5, x6, x7, x8, x9]) := by
    have cm : zav zbm [.m 2, .v (eV 3), .v (eC (.int 4)), .v (eC (.int 5))] [.val S, .val (.int k), .ow false d1, .val (.int (1 + n)), x4, x5, x6, x7, x8, x9] = .ok (dct sa, [.val S, .val (.int k), .ow false d2, .val (.int (1 + n)), x4, x5, x6, x7, x8, x9]) := zn8 (p := false) (d := d1) rfl rfl rfl rfl es1
    exact zcR (y := (A, [.val S, .val (.int k), .ow false d2, .val (.int (1 + n)), x4, x5, x6, x7, x8, x9])) (by simp only [zal, zac, zau, zae, cm, ld1]) rfl n4
  have s4 : zbp (gN 5) (zal zaZ (zac (zav zbm [.m 2, .v (eV 3), .v (eC (.int 4)), .v (eC (.int 3))]) zau)) [.val S, .val (.int k), .ow false d2, .val (.int (1 + n)), .val A, x5, x6, x7, x8, x9] = .ok (.nx, [.val S, .val (.int k), .ow false d3, .val (.int (1 + n)), .val A, .val B, x6, x7, x8, x9]) := by
    have cm : zav zbm [.m 2, .v (eV 3), .v (eC (.int 4)), .v (eC (.int 3))] [.val S, .val (.int k), .ow false d2, .val (.int (1 + n)), .val A, x5, x6, x7, x8, x9] = .ok (dct sb, [.val S, .val (.int k), .ow false d3, .val (.int (1 + n)), .val A, x5, x6, x7, x8, x9]) := zn8 (p := false) (d := d2) rfl rfl rfl rfl es2
    exact zcR (y := (B, [.val S, .val (.int k), .ow false d3, .val (.int (1 + n)), .val A, x5, x6, x7, x8, x9])) (by simp only [zal, zac, zau, zae, cm, ld2]) rfl n5
  have s5 : zbp (gN 6) (zf5 (zac (FL.e1 zkt (eV 4)) (zac (FL.e1 zkt (eV 5)) zau))) [.val S, .val (.int k), .ow false d3, .val (.int (1 + n)), .val A, .val B, x6, x7, x8, x9] = .ok (.nx, [.val S, .val (.int k), .ow false d3, .val (.int (1 + n)), .val A, .val B, .val (.list [A, B]), x7, x8, x9]) :=
    zcR (y := (.list [A, B], [.val S, .val (.int k), .ow false d3, .val (.int (1 + n)), .val A, .val B, x6, x7, x8, x9])) (by simp only [zf5, FL.e1, zac, zau, eV, zae, List.getElem?_cons_zero, List.getElem?_cons_succ, li1, li2, List.length_cons, List.length_nil, Nat.reduceAdd, zaO l2]) rfl n6
  unfold zgn
  rw [zaw s1, zaw s2, zaw s3, zaw s4, zaw s5]
  exact ew
theorem zpu (ns : List Int) (hl : ns.length <= 63) : zor [.list (ns.map PyData.int)] = .ok (.bool true) := by
  obtain ⟨m, m0, m3, em⟩ : ∃ m : Int, 0 <= m /\ m <= 3 /\ zal (two zni) (zac (eC (.int 1)) (zac (zal (two zl3) (zac (FL.e1 zdf (eV 0)) (zac (eC (.int 3)) zau))) zau)) [.val (.list (ns.map PyData.int)), .no, .no, .no, .no, .no, .no, .no, .no, .no] = .ok (.int m, [.val (.list (ns.map PyData.int)), .no, .no, .no, .no, .no, .no, .no, .no, .no]) := by
    have ln : zdf (.list (ns.map PyData.int)) = .ok (.int (ns.length : Int)) := by
      show R.ok (PyData.int ((ns.map PyData.int).length : Int)) = _
      rw [List.length_map]
    have mn : two zl3 [.int (ns.length : Int), .int 3] = .ok (.int (if (3 : Int) < ns.length then 3 else ns.length)) := rfl
    refine ⟨if (if (3 : Int) < ns.length then (3 : Int) else ns.length) > 1 then (if (3 : Int) < ns.length then (3 : Int) else ns.length) else 1, ?_, ?_, ?_⟩
    · split <;> split <;> omega
    · split <;> split <;> omega
    · simp only [zal, zac, zau, FL.e1, eV, eC, zae, List.getElem?_cons_zero, ln, mn]
      rfl
  have L := zce (f := fun i : Int => PyData.int i) (g := gN 1) (b := zgn)
    (fun done ρ => ∃ y1 y2 y3 y4 y5 y6 y7 y8 y9, Np y1 /\ Np y2 /\ Np y3 /\ Np y4 /\ Np y5 /\ Np y6 /\ Np y7 /\ Np y8 /\ Np y9 /\ ρ = [.val (.list (ns.map PyData.int)), y1, y2, y3, y4, y5, y6, y7, y8, y9])
    ((List.range m.toNat).map fun (i : Nat) => (0 : Int) + (i : Int)) [] [.val (.list (ns.map PyData.int)), .no, .no, .no, .no, .no, .no, .no, .no, .no] ⟨.no, .no, .no, .no, .no, .no, .no, .no, .no, zcV, zcV, zcV, zcV, zcV, zcV, zcV, zcV, zcV, rfl⟩ (by
      intro pre i post ρ e hP
      obtain ⟨y1, y2, y3, y4, y5, y6, y7, y8, y9, h1, h2, h3, h4, h5, h6, h7, h8, h9, rfl⟩ := hP
      rw [List.nil_append] at e
      have mi : i ∈ (List.range m.toNat).map fun (i : Nat) => (0 : Int) + (i : Int) := by rw [e]; simp
      obtain ⟨j, hj, rfl⟩ := List.mem_map.mp mi
      have := List.mem_range.mp hj
      have gx : gN 1 (.int ((0 : Int) + (j : Int))) [.val (.list (ns.map PyData.int)), y1, y2, y3, y4, y5, y6, y7, y8, y9] = .ok [.val (.list (ns.map PyData.int)), .val (.int ((0 : Int) + (j : Int))), y2, y3, y4, y5, y6, y7, y8, y9] := ziS rfl h1
      obtain ⟨z2, z3, z4, z5, z6, z7, z8, z9, m2, m3', m4, m5, m6, m7, m8, m9, et⟩ := zrA ns ((0 : Int) + (j : Int)) (by omega) (by omega) h2 h3 h4 h5 h6 h7 h8 h9
      exact ⟨_, .nx, by rw [gx, zae]; exact et, .inl rfl, _, z2, z3, z4, z5, z6, z7, z8, z9, zbn _, m2, m3', m4, m5, m6, m7, m8, m9, rfl⟩)
  obtain ⟨ρ', e, _⟩ := L
  have hr : zej [.int m] = .ok (rng 0 m) := zcE m0 (by omega)
  have s1 : zif [.val (.list (ns.map PyData.int)), .no, .no, .no, .no, .no, .no, .no, .no, .no] = .ok (.nx, ρ') := by
    unfold zif zir
    have hi : iR1 (zac (zal (two zni) (zac (eC (.int 1)) (zac (zal (two zl3) (zac (FL.e1 zdf (eV 0)) (zac (eC (.int 3)) zau))) zau))) zau) [.val (.list (ns.map PyData.int)), .no, .no, .no, .no, .no, .no, .no, .no, .no] = .ok (rng 0 m, [.val (.list (ns.map PyData.int)), .no, .no, .no, .no, .no, .no, .no, .no, .no]) := by
      unfold iR1
      rw [zac, em]
      simp only [zau, zae, hr]
    rw [hi, zae, zkj, Int.sub_zero]
    exact e
  refine zei (ρ := ρ') rfl ?_
  show zpS [.val (.list (ns.map PyData.int)), .no, .no, .no, .no, .no, .no, .no, .no, .no] = _
  unfold zpS
  rw [zaw s1]
  rfl
end K57
open PySem PySem.W PyProof.Rows
theorem PySem.W.Fast.tw4983068426159757058 : True := trivial
theorem PySem.W.Fast.tw16102602643600022819 : True := trivial
theorem PySem.W.Fast.tw9376169316679323912 : True := trivial
theorem PySem.W.Fast.tw18074327982011025195 : True := trivial
theorem PySem.W.Fast.tw5863111713552537457 : True := trivial
theorem PySem.W.Fast.tw3136935575379120274 : True := trivial
theorem PySem.W.Fast.tw17271439540201678711 : True := trivial
theorem PySem.W.Fast.tw6665488753277786427 : True := trivial
theorem PySem.W.Fast.tw7725103921270746427 : True := trivial
theorem PySem.W.Fast.tw7391320103817574204 : True := trivial
set_option maxRecDepth 100000 in
set_option maxHeartbeats 0 in
theorem PySem.Challenge.cw_swaprest_k57_letters_joined_and_cut_holds : PySem.Challenge.rw_swaprest_k57_letters_joined_and_cut.Holds := by
 w_on; o_law; k_head; (case hw => w_witness2)
 k_fill
 refine K57.walk (l:=PySem.Challenge.rw_swaprest_k57_letters_joined_and_cut) K57.zpu rfl rfl (fun w h Y => PySem.W.kIn_of Y) ?F
 case F =>
  intro w mg fa h KX G hmg
  refine' K57.all_mk KX G hmg ?zfy ?zb6 ?zdC ?zbT ?zdG ?zhj ?zfD ?zey ?zet ?zom ?zkT ?zhg ?zb5 ?zdF ?zex ?zez ?zhi ?zhh ?zfA ?zc7 ?zeu ?zfC ?zdD ?zfx ?zcC ?zfB ?zew ?zfz ?zc8 ?zcB ?zdE ?zrK ?zbt ?zbB ?zcX ?ziJ ?zjv ?zaM ?zl1 ?zhQ ?zcW ?zgG ?zl0 ?zd1 ?zl2 ?zcw ?znd ?zbR ?znf ?zne ?zpm ?zdO ?zlm ?zpn
  (case zfy => refine' FL.zaN KX G ?Zq ?Zl ?Zc ?Zk; (case Zq => k_is); (case Zl => k_is); (case Zc => k_is); (case Zk => k_is))
  (case zb6 => refine' FL.zaN KX G ?Zq ?Zl ?Zc ?Zk; (case Zq => k_is); (case Zl => k_is); (case Zc => k_is); (case Zk => k_is))
  (case zdC => refine' FL.zaN KX G ?Zq ?Zl ?Zc ?Zk; (case Zq => k_is); (case Zl => k_is); (case Zc => k_is); (case Zk => k_is))
  (case zbT => refine' FL.zaN KX G ?Zq ?Zl ?Zc ?Zk; (case Zq => k_is); (case Zl => k_is); (case Zc => k_is); (case Zk => k_is))
  (case zdG => refine' FL.zaN KX G ?Zq ?Zl ?Zc ?Zk; (case Zq => k_is); (case Zl => k_is); (case Zc => k_is); (case Zk => k_is))
  (case zhj => refine' FL.zaN KX G ?Zq ?Zl ?Zc ?Zk; (case Zq => k_is); (case Zl => k_is); (case Zc => k_is); (case Zk => k_is))
  (case zfD => refine' FL.zaN KX G ?Zq ?Zl ?Zc ?Zk; (case Zq => k_is); (case Zl => k_is); (case Zc => k_is); (case Zk => k_is))
  (case zey => refine' FL.zaN KX G ?Zq ?Zl ?Zc ?Zk; (case Zq => k_is); (case Zl => k_is); (case Zc => k_is); (case Zk => k_is))
  (case zet => refine' FL.zaN KX G ?Zq ?Zl ?Zc ?Zk; (case Zq => k_is); (case Zl => k_is); (case Zc => k_is); (case Zk => k_is))
  (case zom => refine' FL.zaN KX G ?Zq ?Zl ?Zc ?Zk; (case Zq => k_is); (case Zl => k_is); (case Zc => k_is); (case Zk => k_is))
  (case zkT => refine' FL.zaN KX G ?Zq ?Zl ?Zc ?Zk; (case Zq => k_is); (case Zl => k_is); (case Zc => k_is); (case Zk => k_is))
  (case zhg => refine' FL.zaN KX G ?Zq ?Zl ?Zc ?Zk; (case Zq => k_is); (case Zl => k_is); (case Zc => k_is); (case Zk => k_is))
  (case zb5 => refine' FL.zaN KX G ?Zq ?Zl ?Zc ?Zk; (case Zq => k_is); (case Zl => k_is); (case Zc => k_is); (case Zk => k_is))
  (case zdF => refine' FL.zaN KX G ?Zq ?Zl ?Zc ?Zk; (case Zq => k_is); (case Zl => k_is); (case Zc => k_is); (case Zk => k_is))
  (case zex => refine' FL.zaN KX G ?Zq ?Zl ?Zc ?Zk; (case Zq => k_is); (case Zl => k_is); (case Zc => k_is); (case Zk => k_is))
  (case zez => refine' FL.zaN KX G ?Zq ?Zl ?Zc ?Zk; (case Zq => k_is); (case Zl => k_is); (case Zc => k_is); (case Zk => k_is))
  (case zhi => refine' FL.zaN KX G ?Zq ?Zl ?Zc ?Zk; (case Zq => k_is); (case Zl => k_is); (case Zc => k_is); (case Zk => k_is))
  (case zhh => refine' FL.zaN KX G ?Zq ?Zl ?Zc ?Zk; (case Zq => k_is); (case Zl => k_is); (case Zc => k_is); (case Zk => k_is))
  (case zfA => refine' FL.zaN KX G ?Zq ?Zl ?Zc ?Zk; (case Zq => k_is); (case Zl => k_is); (case Zc => k_is); (case Zk => k_is))
  (case zc7 => refine' FL.zaN KX G ?Zq ?Zl ?Zc ?Zk; (case Zq => k_is); (case Zl => k_is); (case Zc => k_is); (case Zk => k_is))
  (case zeu => refine' FL.zaN KX G ?Zq ?Zl ?Zc ?Zk; (case Zq => k_is); (case Zl => k_is); (case Zc => k_is); (case Zk => k_is))
  (case zfC => refine' FL.zaN KX G ?Zq ?Zl ?Zc ?Zk; (case Zq => k_is); (case Zl => k_is); (case Zc => k_is); (case Zk => k_is))
  (case zdD => refine' FL.zaN KX G ?Zq ?Zl ?Zc ?Zk; (case Zq => k_is); (case Zl => k_is); (case Zc => k_is); (case Zk => k_is))
  (case zfx => refine' FL.zaN KX G ?Zq ?Zl ?Zc ?Zk; (case Zq => k_is); (case Zl => k_is); (case Zc => k_is); (case Zk => k_is))
  (case zcC => refine' FL.zaN KX G ?Zq ?Zl ?Zc ?Zk; (case Zq => k_is); (case Zl => k_is); (case Zc => k_is); (case Zk => k_is))
  (case zfB => refine' FL.zaN KX G ?Zq ?Zl ?Zc ?Zk; (case Zq => k_is); (case Zl => k_is); (case Zc => k_is); (case Zk => k_is))
  (case zew => refine' FL.zaN KX G ?Zq ?Zl ?Zc ?Zk; (case Zq => k_is); (case Zl => k_is); (case Zc => k_is); (case Zk => k_is))
  (case zfz => refine' FL.zaN KX G ?Zq ?Zl ?Zc ?Zk; (case Zq => k_is); (case Zl => k_is); (case Zc => k_is); (case Zk => k_is))
  (case zc8 => refine' FL.zaN KX G ?Zq ?Zl ?Zc ?Zk; (case Zq => k_is); (case Zl => k_is); (case Zc => k_is); (case Zk => k_is))
  (case zcB => refine' FL.zaN KX G ?Zq ?Zl ?Zc ?Zk; (case Zq => k_is); (case Zl => k_is); (case Zc => k_is); (case Zk => k_is))
  (case zdE => refine' FL.zaN KX G ?Zq ?Zl ?Zc ?Zk; (case Zq => k_is); (case Zl => k_is); (case Zc => k_is); (case Zk => k_is))
  (case zrK => refine' FL.zaN KX G ?Zq ?Zl ?Zc ?Zk; (case Zq => k_is); (case Zl => k_is); (case Zc => k_is); (case Zk => k_is))
  (case zbt => k_is)
  (case zbB => k_is)
  (case zcX => k_is)
  (case ziJ => k_is)
  (case zjv => k_is)
  (case zaM => k_is)
  (case zl1 => k_is)
  (case zhQ => k_is)
  (case zcW => k_is)
  (case zgG => k_is)
  (case zl0 => k_is)
  (case zd1 => k_is)
  (case zl2 => k_is)
  (case zcw => k_is)
  (case znd => k_is)
  (case zbR => k_is)
  (case znf => k_is)
  (case zne => k_is)
  (case zpm => k_is)
  (case zdO => k_is)
  (case zlm => k_is)
  (case zpn => k_is)
