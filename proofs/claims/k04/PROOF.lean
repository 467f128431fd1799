import PyProof.Rows.All
import Wide.All
import OpenK.AllK
import Wide.FinOn
import Lean
import PyProof.EqAt
import PyProof.EqKinds
import PyProof.TupleCall
import PyProof.EqLayable
import PyProof.StationsW
import PyProof.NsDelKeeps
import PyProof.ExcArgsOwn
import PyProof.ExcAttrAll.ValueError
import PyProof.ZipIter
import PyProof.EnumFor
import PyProof.EnumStmt
import PyProof.EnumMake
import PyProof.ConsumeWalk
import PyProof.Cells
import PyProof.CompUse
import PyProof.DictIter
import PyProof.DictWalks
import PyProof.CollectWalk
import PyProof.WalksS
import PyProof.DictRoadsH
import KE.KSortTup
import PyProof.P3In
import KE.KRevSl
import PyProof.P3Statements
import KE.KMinKey
import PyProof.ReprReads
import PyProof.ReprRoads
import PyProof.AutoListH
import PyProof.Conv_int_bool
import PySem.Challenge.RW_swaprest_k04_noughts_and_common
set_option Elab.async false
set_option linter.all false
set_option maxRecDepth 100000
set_option maxHeartbeats 4000000
namespace L2
open PySem PySem.Spec PyProof.Rows
abbrev Key:=Sum Int Str
def zmm:Key->Value->Bool
 | .inl k,v=>Value.isInt k v
 | .inr x,v=>Value.isStrOf x v
def zy1 (w:World):Key->Int
 | .inl k=>hashInt k
 | .inr x=>hashStr w x
theorem zaT:∀ {k:Key} {v:Value},zmm k v=true->(∃ i t,k=Sum.inl i/\v=Value.int i t)\/(∃ x t,k=Sum.inr x/\v=Value.str x t)
 | .inl i,v,h=>by
  obtain ⟨t,e⟩:=Value.isInt_shape (k:=i) (v:=v) h
  exact .inl ⟨i,t,rfl,e⟩
 | .inr x,v,h=>by
  obtain ⟨t,e⟩:=Value.isStrOf_shape (x:=x) (v:=v) h
  exact .inr ⟨x,t,rfl,e⟩
theorem zpT (i:Int) (t:Tok):zmm (.inl i) (.int i t)=true:=by simp [zmm,Value.isInt]
theorem zpS (x:Str) (t:Tok):zmm (.inr x) (.str x t)=true:=by simp [zmm,Value.isStrOf]
theorem zwu (a b:Int):decide ((Sum.inl a:Key)=Sum.inl b)=(a == b):=by
 by_cases e:a=b
 ·subst e;simp
 ·have h:¬ (Sum.inl a:Key)=Sum.inl b:=fun q=>e (Sum.inl.inj q)
  rw [decide_eq_false h]
  exact (beq_eq_false_iff_ne.mpr e).symm
theorem zwr (a b:Str):decide ((Sum.inr a:Key)=Sum.inr b)=decide (a=b):=by
 by_cases e:a=b
 ·subst e;simp
 ·have h:¬ (Sum.inr a:Key)=Sum.inr b:=fun q=>e (Sum.inr.inj q)
  rw [decide_eq_false h,decide_eq_false e]
theorem zwt (a:Int) (b:Str):decide ((Sum.inl a:Key)=Sum.inr b)=false:=decide_eq_false (fun q=>nomatch q)
theorem zws (a:Str) (b:Int):decide ((Sum.inr a:Key)=Sum.inl b)=false:=decide_eq_false (fun q=>nomatch q)
def za7 (prog:Program) (w:World):PySem.KeyKind prog w Key where
 is:=zmm
 hash:=zy1 w
 inj:=fun v a b ha hb=>by
  rcases zaT ha with ⟨i,t,rfl,rfl⟩ | ⟨x,t,rfl,rfl⟩
  ·rcases zaT hb with ⟨j,u,rfl,e⟩ | ⟨y,u,rfl,e⟩
   ·injection e with e1 _;rw [e1]
   ·exact nomatch e
  ·rcases zaT hb with ⟨j,u,rfl,e⟩ | ⟨y,u,rfl,e⟩
   ·exact nomatch e
   ·injection e with e1 _;rw [e1]
 byValue:=fun k v h=>by
  rcases zaT h with ⟨i,t,rfl,rfl⟩ | ⟨x,t,rfl,rfl⟩ <;> rfl
 pyHash:=fun hv h=>by
  rcases zaT hv with ⟨i,t,rfl,rfl⟩ | ⟨x,t,rfl,rfl⟩
  ·exact wpAny_pyHash_int h
  ·exact wpAny_pyHash_str h
 eqBool:=fun hu hv h=>by
  rcases zaT hu with ⟨i,t,rfl,rfl⟩ | ⟨x,t,rfl,rfl⟩
  ·rcases zaT hv with ⟨j,u,rfl,rfl⟩ | ⟨y,u,rfl,rfl⟩
   ·rw [zwu] at h;exact wpAny_eqBool_int h
   ·rw [zwt] at h;exact SeqAt.EqAt.int_str i t y u _ _ _ _ h
  ·rcases zaT hv with ⟨j,u,rfl,rfl⟩ | ⟨y,u,rfl,rfl⟩
   ·rw [zws] at h;exact SeqAt.EqAt.str_int x t j u _ _ _ _ h
   ·rw [zwr] at h;exact wpAny_eqBool_str h
 «strs»:=fun k x t v h=>by
  rcases zaT h with ⟨i,u,rfl,e⟩ | ⟨y,u,rfl,e⟩
  ·exact nomatch e
  ·injection e with e1 _
   subst e1
   cases v <;> rfl
theorem zmi (prog:Program) (w:World) (i:Int) (t:Tok):(za7 prog w).is (.inl i) (.int i t)=true:=zpT i t
theorem zmh (prog:Program) (w:World) (x:Str) (t:Tok):(za7 prog w).is (.inr x) (.str x t)=true:=zpS x t
end L2
namespace L2
open PySem PySem.Spec PyProof.Rows
inductive V where
 | non | bl (b:Bool) | int (i:Int) | str (x:Str) | byt (b:Array UInt8) | flt (b:UInt64) | ref (a:Addr) | ty (n:String)
 deriving DecidableEq
def RelV:V->Value->Prop
 | .non,u=>u=Value.none
 | .bl b,u=>u=Value.bool b
 | .int i,u=>∃ t,u=Value.int i t
 | .str x,u=>∃ t,u=Value.str x t
 | .byt b,u=>∃ t,u=Value.bytes b t
 | .flt b,u=>∃ t,u=Value.float b t
 | .ref a,u=>u=Value.ref a
 | .ty n,u=>u=Value.type n
abbrev Vals:List V->List Value->Prop:=Paired RelV
theorem Vals.length {xs:List V} {us:List Value} (r:Vals xs us):xs.length=us.length:=Paired.length r
theorem Vals.get:∀ {xs:List V} {us:List Value} {i:Nat} {x:V},Vals xs us->xs[i]?=some x->∃ u,us[i]?=some u/\RelV x u
 | _,_,_,_,.nil,e=>by simp at e
 | _,_,0,_,.cons r _,e=>by simp at e;subst e;exact ⟨_,rfl,r⟩
 | _,_,i + 1,x,.cons _ t,e=>by
  obtain ⟨u,h1,h2⟩:=Vals.get (i:=i) (x:=x) t (by simpa using e)
  exact ⟨u,by simpa using h1,h2⟩
theorem Vals.set {x:V} {u:Value} (r:RelV x u):∀ {xs:List V} {us:List Value} (i:Nat),Vals xs us->Vals (xs.set i x) (us.set i u)
 | _,_,_,.nil=>.nil
 | _,_,0,.cons _ t=>.cons r t
 | _,_,i + 1,.cons q t=>.cons q (Vals.set r i t)
theorem Vals.append:∀ {xs ys:List V} {us ws:List Value},Vals xs us->Vals ys ws->Vals (xs ++ ys) (us ++ ws)
 | _,_,_,_,.nil,s=>s
 | _,_,_,_,.cons r t,s=>.cons r (Vals.append t s)
theorem Vals.take:∀ {xs:List V} {us:List Value} (n:Nat),Vals xs us->Vals (xs.take n) (us.take n)
 | _,_,0,_=>.nil
 | _,_,_ + 1,.nil=>.nil
 | _,_,n + 1,.cons r t=>.cons r (Vals.take n t)
theorem Vals.drop:∀ {xs:List V} {us:List Value} (n:Nat),Vals xs us->Vals (xs.drop n) (us.drop n)
 | _,_,0,r=>r
 | _,_,_ + 1,.nil=>.nil
 | _,_,n + 1,.cons _ t=>Vals.drop n t
def zq8:Option V->Option Value->Prop
 | some v,some u=>RelV v u
 | none,none=>True
 | _,_=>False
def KV {κ:Type}:List (κ × V)->List (κ × Value)->Prop:=Paired fun (p:κ × V) (q:κ × Value)=>p.1=q.1/\RelV p.2 q.2
def kV:Key->V
 | .inl i=>.int i
 | .inr x=>.str x
inductive HO where
 /-- a list -/
 | lst (xs:List V)
 /-- a tuple (never changes) -/
 | tup (xs:List V)
 /-- a dict whose keys are ints and texts;one whose keys are tuples of ints and texts (the empty one is both) -/
 | dK (kvs:List (Key × V)) | dT (kvs:List (List Key × V))
 /-- a set of ints: its members,its size -/
 | set (S:Int->Bool) (n:Nat)
 /-- an instance of the class at C,its dict at dx,its attributes -/
 | ins (C dx:Addr) (fs:List (Str × V))
 /-- the dict of the instance at x -/
 | own (x:Addr)
 /-- the dict of an exception -/
 | xd (fs:List (Str × V))
 /-- a bound method,f of x -/
 | met (f x:Addr)
 /-- a range object lo,lo + 1,.. below hi -/
 | rng (lo hi:Int)
 /-- a thing that is known to the object (the script;a dict while a loop walks it): read,never written while it is so -/
 | frz (o:Obj) (u:HO)
 /-- a code object's table -/
 | tbl (ps:Array Value)
 /-- any other thing,by what is true of its one object (a def of one's own: SetO a S n:=HO.ext fun h=>..) -/
 | ext (φ:Heap->Prop)
abbrev Hp:=Addr->Option HO
def upd (H:Hp) (a:Addr) (o:HO):Hp:=fun b=>if b=a then some o else H b
theorem zan {H:Hp} {a:Addr} {o:HO}:upd H a o a=some o:=by unfold upd;rw [if_pos rfl]
theorem zax {H:Hp} {a b:Addr} {o:HO} (h:b ≠ a):upd H a o b=H b:=by unfold upd;rw [if_neg h]
theorem zhy {H:Hp} {a:Addr} {o u:HO}:upd (upd H a o) a u=upd H a u:=by
 funext b;unfold upd;split <;> rfl
theorem zkZ {H:Hp} {a b:Addr} {o u:HO} (h:H a=some o) (h':H b=some u) (d:o ≠ u):a ≠ b:=by
 intro e;subst e;rw [h] at h';exact d (Option.some.inj h')
theorem zb6 {H:Hp} {a b:Addr} {o:HO} (h:H a=some o) (h':H b=none):a ≠ b:=by
 intro e;subst e;rw [h] at h';cases h'
def TAt (H:Hp) (b:Addr) (xs:List V):Prop:=H b=some (.tup xs)\/∃ o,H b=some (.frz o (.tup xs))
theorem TAt.upd {H:Hp} {a b:Addr} {u:HO} {xs:List V} (q:TAt H b xs) (n1:∀ ys,H b=some (.tup ys)->b ≠ a) (n2:∀ o ys,H b=some (.frz o (.tup ys))->b ≠ a):TAt (upd H a u) b xs:=by
 rcases q with q | ⟨o,q⟩
 ·left;rw [zax (n1 _ q)];exact q
 ·right;exact ⟨o,by rw [zax (n2 _ _ q)];exact q⟩
section
variable (P:Program) (w:World)
def zbN (H:Hp) (h:Heap) (a:Addr):HO->Prop
 | .lst xs=>xs.length<=sizeLine/\∃ (its:List Value) (n:Nat),Vals xs its/\h.get? a=some { cls:=.type "list",data:=.seq its.toArray n }
 | .tup xs=>xs.length<=sizeLine/\∃ its:List Value,Vals xs its/\IsTup h a its.toArray
 | .dK kvs=>kvs.length<=sizeLine/\(a == sysModules)=false/\∃ vs,KV kvs vs/\h.DictOf (za7 P w) a vs
 | .dT kvs=>kvs.length<=sizeLine/\(a == sysModules)=false/\∃ xs:List (List Key × Addr × Value),
   Paired (fun (p:List Key × V) (q:List Key × Addr × Value)=>p.1=q.1/\TAt H q.2.1 (p.1.map kV)/\RelV p.2 q.2.2) kvs xs /\
   ∃ o es ep,h.get? a=some o/\o.ExactDict/\o.data=.dict es ep/\es.toList=xs.map (entryOfKey (tupleKind (za7 P w)))/\(xs.map (·.1)).Nodup
 | .set S n=>h.SetOf (intKind P w) a S n
 | .ins C dx fs=>H dx=some (.own a)/\fs.length<=1000/\dx ≠ a/\h.get? a=some (PySem.W.instObj C dx) /\
   ∃ mA,h.Ns1 dx mA/\(∀ f,zq8 (fs.lookup f) (mA f))/\PySem.Within mA (fs.map (·.1))
 | .own _=>∃ o,h.get? a=some o
 | .xd fs=>∃ mA,h.Ns1 a mA/\∀ f,zq8 (fs.lookup f) (mA f)
 | .rng lo hi=>∃ t u v,h.get? a=some { cls:=.type "range",data:=.fields #[.int lo t,.int hi u,.int 1 v] }
 | .frz o u=>h.get? a=some o/\zbN H h a u
 | .tbl ps=>h.get? a=some { cls:=.none,data:=.fields ps }
 | .met f x=>h.get? a=some (PySem.W.methodObj (.ref f) (.ref x))
 | .ext φ=>φ h/\(∃ o,h.get? a=some o)/\∀ h1 h2:Heap,φ h1->(∀ o,h1.get? a=some o->h2.get? a=some o)->φ h2
def HOk (H:Hp) (h:Heap):Prop:=∀ a o,H a=some o->zbN P w H h a o
end
section
variable {P:Program} {w:World} {H H':Hp} {h h':Heap} {a:Addr} {o:HO}
theorem zbN.lt (x:zbN P w H h a o):a < h.objs.size:=by
 cases o with
 | lst xs=>obtain ⟨_,_,_,_,e⟩:=x;exact Heap.lt_size e
 | tup xs=>obtain ⟨_,_,_,p⟩:=x;exact p.lt
 | dK kvs=>obtain ⟨_,_,_,_,o,_,_,e,_⟩:=x;exact Heap.lt_size e
 | dT kvs=>obtain ⟨_,_,_,_,o,_,_,e,_⟩:=x;exact Heap.lt_size e
 | set S n=>obtain ⟨o,_,_,_,e,_⟩:=x;exact Heap.lt_size e
 | ins C dx fs=>obtain ⟨_,_,_,e,_⟩:=x;exact Heap.lt_size e
 | own y=>obtain ⟨_,e⟩:=x;exact Heap.lt_size e
 | xd fs=>obtain ⟨_,⟨_,_,_,e,_⟩,_⟩:=x;exact Heap.lt_size e
 | rng lo hi=>obtain ⟨_,_,_,e⟩:=x;exact Heap.lt_size e
 | frz ob u=>obtain ⟨e,_⟩:=x;exact Heap.lt_size e
 | tbl ps=>exact Heap.lt_size (show h.get? a=some _ from x)
 | met f y=>exact Heap.lt_size (show h.get? a=some _ from x)
 | ext φ=>obtain ⟨_,⟨_,e⟩,_⟩:=x;exact Heap.lt_size e
theorem Paired.zxJ {α β:Type} {F G:α->β->Prop}:∀ {l₁:List α} {l₂:List β},Paired F l₁ l₂->(∀ a b,F a b->G a b)->Paired G l₁ l₂
 | _,_,.nil,_=>.nil
 | _,_,.cons r t,f=>.cons (f _ _ r) (Paired.zxJ t f)
theorem zbN.stay (x:zbN P w H h a o) (k:∀ b u,(b=a\/H b=some (.own a))->h.get? b=some u->h'.get? b=some u)
  (ho:∀ b,H b=some (.own a)->H' b=some (.own a)) (ht:∀ b xs,TAt H b xs->TAt H' b xs):zbN P w H' h' a o:=by
 induction o with
 | lst xs=>obtain ⟨z,its,n,r,e⟩:=x;exact ⟨z,its,n,r,k _ _ (.inl rfl) e⟩
 | tup xs=>obtain ⟨z,its,r,ob,e,c⟩:=x;exact ⟨z,its,r,ob,k _ _ (.inl rfl) e,c⟩
 | dK kvs=>obtain ⟨z,y,vs,r,ob,es,ep,e,c⟩:=x;exact ⟨z,y,vs,r,ob,es,ep,k _ _ (.inl rfl) e,c⟩
 | dT kvs =>
  obtain ⟨z,y,xs,r,ob,es,ep,e,c⟩:=x
  exact ⟨z,y,xs,Paired.zxJ r fun p q z=>⟨z.1,ht _ _ z.2.1,z.2.2⟩,ob,es,ep,k _ _ (.inl rfl) e,c⟩
 | set S n=>obtain ⟨ob,es,ep,t,e,c⟩:=x;exact ⟨ob,es,ep,t,k _ _ (.inl rfl) e,c⟩
 | ins C dx fs =>
  obtain ⟨d,z,ne,e,mA,⟨od,es,ep,e2,c⟩,r⟩:=x
  exact ⟨ho _ d,z,ne,k _ _ (.inl rfl) e,mA,⟨od,es,ep,k _ _ (.inr d) e2,c⟩,r⟩
 | own y=>obtain ⟨ob,e⟩:=x;exact ⟨ob,k _ _ (.inl rfl) e⟩
 | xd fs=>obtain ⟨mA,⟨od,es,ep,e,c⟩,r⟩:=x;exact ⟨mA,⟨od,es,ep,k _ _ (.inl rfl) e,c⟩,r⟩
 | rng lo hi=>obtain ⟨t,u,v,e⟩:=x;exact ⟨t,u,v,k _ _ (.inl rfl) e⟩
 | frz ob u ih=>obtain ⟨e,q⟩:=x;exact ⟨k _ _ (.inl rfl) e,ih q⟩
 | tbl ps =>
  have e:h.get? a=some { cls:=.none,data:=.fields ps }:=x
  show h'.get? a=some { cls:=.none,data:=.fields ps }
  exact k a _ (.inl rfl) e
 | met f y =>
  have e:h.get? a=some (PySem.W.methodObj (.ref f) (.ref y)):=x
  show h'.get? a=some (PySem.W.methodObj (.ref f) (.ref y))
  exact k a _ (.inl rfl) e
 | ext φ=>obtain ⟨p,⟨o,e⟩,st⟩:=x;exact ⟨st _ _ p fun o q=>k _ _ (.inl rfl) q,⟨o,k _ _ (.inl rfl) e⟩,st⟩
theorem HOk.lt (x:HOk P w H h) (e:H a=some o):a < h.objs.size:=(x a o e).lt
theorem HOk.fresh (x:HOk P w H h) (e:h.objs.size<=a):H a=none:=by
 cases q:H a with
 | none=>rfl
 | some u=>exact absurd (Nat.lt_of_lt_of_le (x.lt q) e) (Nat.lt_irrefl _)
theorem HOk.kept (x:HOk P w H h) (k:∀ b u,h.get? b=some u->h'.get? b=some u):HOk P w H h':=fun a o e =>
 (x a o e).stay (fun b u _ q=>k b u q) (fun _ q=>q) fun _ _ q=>q
theorem HOk.laid (x:HOk P w H h) (k:∀ b u,h.get? b=some u->h'.get? b=some u) (hp:h.objs.size<=a) (new:zbN P w (upd H a o) h' a o):HOk P w (upd H a o) h':=fun b u e=>by
 have hn:=x.fresh hp
 by_cases hb:b=a
 ·subst hb;rw [zan] at e;cases e;exact new
 ·rw [zax hb] at e
  exact (x b u e).stay (fun c v _ q=>k c v q) (fun c q=>by rw [zax (zb6 q hn)];exact q) fun c xs q=>q.upd (fun _ r=>zb6 r hn) fun _ _ r=>zb6 r hn
end
def Rd (H:Hp) (a:Addr) (u:HO):Prop:=H a=some u\/∃ o,H a=some (.frz o u)
theorem Rd.ok {P:Program} {w:World} {H:Hp} {h:Heap} {a:Addr} {u:HO} (r:Rd H a u) (x:HOk P w H h):zbN P w H h a u:=by
 rcases r with r | ⟨o,r⟩
 ·exact x a u r
 ·obtain ⟨_,q⟩:=x a _ r
  exact q
def Mut:Option HO->Prop
 | some (.lst _)=>True
 | some (.dK _)=>True
 | some (.dT _)=>True
 | some (.set _ _)=>True
 | some (.ins _ _ _)=>True
 | some (.ext _)=>True
 | _=>False
section
variable {P:Program} {w:World} {H:Hp} {h h':Heap} {x e:Addr} {o':HO}
theorem HOk.write (ok:HOk P w H h) (mu:Mut (H x)) (he:e=x\/H e=some (.own x)) (k:∀ b u,b ≠ e->h.get? b=some u->h'.get? b=some u) (heo:∃ u,h'.get? e=some u)
  (new:zbN P w (upd H x o') h' x o'):HOk P w (upd H x o') h':=fun b u q=>by
 have nown:∀ c y,H c=some (.own y)->c ≠ x:=fun c y r z=>by subst z;rw [r] at mu;exact mu
 have ntup:∀ c xs,H c=some (.tup xs)->c ≠ x:=fun c xs r z=>by subst z;rw [r] at mu;exact mu
 by_cases hb:b=x
 ·subst hb;rw [zan] at q;cases q;exact new
 ·rw [zax hb] at q
  by_cases hbe:b=e
  ·have q':H b=some (.own x):=by
    rcases he with z | z
    ·exact absurd (hbe.trans z) hb
    ·rw [hbe];exact z
   rw [q] at q';cases q'
   obtain ⟨v,hv⟩:=heo
   exact ⟨v,by rw [hbe];exact hv⟩
  ·refine (ok b u q).stay (fun c v hc r=>k c v ?_ r) (fun c r=>by rw [zax (nown c b r)];exact r) fun c xs r=>r.upd (fun ys z=>ntup c ys z) fun o ys z e=>by subst e;rw [z] at mu;exact mu
   rcases hc with rfl | hc
   ·exact hbe
   ·rintro rfl
    rcases he with z | z
    ·exact nown c b hc z
    ·rw [hc] at z;cases z;exact hb rfl
end
structure Un (fs ex:List Addr) (H H':Hp) (h h':Heap):Prop where
 keep:∀ b o,h.get? b=some o->H b=none->b ∉ fs->b ∉ ex->h'.get? b=some o
 slot:∀ b o,h.get? b=some o->H b=none->b ∈ fs->b ∉ ex->∃ sl,h'.get? b=some { o with slots:=sl }
 free:∀ b o,h.get? b=some o->H b=none->b ∉ ex->H' b=none
 there:∀ b o,h.get? b=some o->b ∉ ex->∃ o',h'.get? b=some o'
 tups:∀ b xs,H b=some (.tup xs)->H' b=some (.tup xs)
 frzs:∀ b o u,H b=some (.frz o u)->H' b=some (.frz o u)
 tbls:∀ b ps,H b=some (.tbl ps)->∃ more,H' b=some (.tbl (ps ++ more))
section
variable {fs fs' ex ex':List Addr} {H H1 H2:Hp} {h h1 h2 h':Heap} {a x e:Addr} {o:HO}
theorem Un.any (u:Un fs ex H H1 h h1) {b:Addr} {ob:Obj} (q:h.get? b=some ob) (n:H b=none) (hx:b ∉ ex):∃ sl,h1.get? b=some { ob with slots:=sl }:=by
 by_cases hb:b ∈ fs
 ·exact u.slot b ob q n hb hx
 ·exact ⟨ob.slots,u.keep b ob q n hb hx⟩
theorem Un.kept (k:∀ b u,h.get? b=some u->h'.get? b=some u):Un fs ex H H h h' :=
 ⟨fun b ob q _ _ _=>k b ob q,fun b ob q _ _ _=>⟨ob.slots,k b ob q⟩,fun _ _ _ n _=>n,fun b ob q _=>⟨ob,k b ob q⟩,fun _ _ q=>q,fun _ _ _ q=>q,fun _ ps q=>⟨#[],by rw [q];simp⟩⟩
theorem Un.refl:Un fs ex H H h h:=Un.kept fun _ _ q=>q
theorem Un.laid (k:∀ b u,h.get? b=some u->h'.get? b=some u) (hp:h.objs.size<=a) (hn:H a=none):Un fs ex H (upd H a o) h h' where
 keep:=fun b u q _ _ _=>k b u q
 slot:=fun b u q _ _ _=>⟨u.slots,k b u q⟩
 free:=fun b u q n _=>by rw [zax (Nat.ne_of_lt (Nat.lt_of_lt_of_le (Heap.lt_size q) hp))];exact n
 there:=fun b u q _=>⟨u,k b u q⟩
 tups:=fun b xs q=>by rw [zax (zb6 q hn)];exact q
 frzs:=fun b u xs q=>by rw [zax (zb6 q hn)];exact q
 tbls:=fun b ps q=>⟨#[],by rw [zax (zb6 q hn),q];simp⟩
theorem Un.write (mu:Mut (H x)) (he:e=x\/H e=some (.own x)) (k:∀ b u,b ≠ e->h.get? b=some u->h'.get? b=some u) (heo:∃ u,h'.get? e=some u):Un fs ex H (upd H x o) h h':=by
 have hx:∀ b,H b=none->b ≠ x:=fun b n z=>by subst z;rw [n] at mu;exact mu
 have hb:∀ b,H b=none->b ≠ e:=fun b n z=>by
  subst z
  rcases he with r | r
  ·exact hx b n r
  ·rw [n] at r;cases r
 have hm:∀ b u,H b=some u->¬ Mut (some u)->b ≠ x:=fun b u q nm z=>by subst z;rw [q] at mu;exact nm mu
 refine ⟨fun b u q n _ _=>k b u (hb b n) q,fun b u q n _ _=>⟨u.slots,k b u (hb b n) q⟩,fun b u q n _=>by rw [zax (hx b n)];exact n,fun b u q _=>?_,
  fun b xs q=>by rw [zax (hm b _ q fun z=>z)];exact q,fun b u xs q=>by rw [zax (hm b _ q fun z=>z)];exact q,fun b ps q=>⟨#[],by rw [zax (hm b _ q fun z=>z),q];simp⟩⟩
 by_cases hbe:b=e
 ·subst hbe;exact heo
 ·exact ⟨u,k b u hbe q⟩
end
def trk (h:Heap) (H:Hp):List Addr:=(List.range h.objs.size).filter fun a=>(H a).isSome
def zr9 (h:Heap) (H:Hp):Heap:=PySem.W.hideAll h (trk h H)
theorem zqb (h:Heap) (H:Hp):(zr9 h H).objs.size=h.objs.size:=PySem.W.hideAll_size _ _
theorem zr8 {h:Heap} {H:Hp} {b:Addr} {o:Obj} (e:h.get? b=some o) (n:H b=none):(zr9 h H).get? b=some o :=
 PySem.W.hideAll_get _ e fun hm=>by
  have q:(H b).isSome=true:=(List.mem_filter.mp hm).2
  rw [n] at q;simp at q
theorem zui {h:Heap} {H:Hp} {b:Addr} {o:Obj} (e:(zr9 h H).get? b=some o):h.get? b=some o/\H b=none:=by
 have e':h.get? b=some o:=PySem.W.of_hideAll (trk h H) e
 refine ⟨e',?_⟩
 cases q:H b with
 | none=>rfl
 | some x =>
  have hm:b ∈ trk h H:=List.mem_filter.mpr ⟨List.mem_range.mpr (Heap.lt_size e'),by simp [q]⟩
  have z:(zr9 h H).get? b=none:=PySem.W.hideAll_none (trk h H) hm
  rw [z] at e;cases e
def zu0 (g h:Heap) (L:Addr):List (Addr × Obj):=(List.range h.objs.size).filterMap fun a=>if a=L\/(g.get? a).isSome=true then none else (h.get? a).map fun o=>(a,o)
def rest (g h:Heap) (L d:Addr):List (Addr × Obj):=(zu0 g h L).filter fun p=>decide (p.1 ≠ d)
end L2
namespace L2
open PySem PySem.Spec PyProof.Rows
structure Mod (K:PySem.W.Frag) (mg:Str->Option Value) (base:Heap):Prop where
 kin:K.In base
 glob:base.Ns mainGlobals mg
 blt:∃ mb,base.Ns builtinsNs mb/\∀ x:Str,x ≠ "__name__"->mb x=bootBuiltins x
 nolimit:base.NoLimit
 seer:base.NoSeer
def zzb (l:List Env):Prop:=∃ env r,l=env :: r/\env.scope.isGenerator=false/\env.scope.isCoroutine=false/\env.builtins=builtinsNs/\env.globals=mainGlobals
structure Cx where
 prog:Program
 w:World
 K:PySem.W.Frag
 mg:Str->Option Value
 base:Heap
 A:Around
 N:List Str
 s₀:Shared
 H₀:Hp
 env:Env
 outer:List Env
 stack:List Env
 ex:List Addr
 fn:Str->Bool
 calm:Bool
 pn:List (Addr × Obj)
 xe:Value->Shared->Prop
def frs (l:List Env):List Addr:=l.filterMap (·.frame)
abbrev Cx.fs (X:Cx):List Addr:=frs X.outer
def Vis (sc:Scope) (x:Str):Prop:=sc.names.lookup x=some .local\/sc.names.lookup x=some .cell\/sc.names.lookup x=some .free
def Loc (sc:Scope) (x:Str):Prop:=sc.names.lookup x=some .local\/sc.names.lookup x=some .cell
def Look (env:Env) (h:Heap) (m:Str->Option Value) (x:Str) (u:Value):Prop :=
 (env.kindOf x=some .local/\m x=some u)\/((env.kindOf x=some .cell\/env.kindOf x=some .free)/\∃ c,env.cells.lookup x=some c/\h.IsCell c (some u))
structure Cx.Ok (X:Cx):Prop where
 mod:Mod X.K X.mg X.base
 kind:X.env.scope.kind=.function
 glob:X.env.globals=mainGlobals
 blt:X.env.builtins=builtinsNs
 above:X.s₀.heap.objs.size<=X.env.locals
 inj:∀ x y c,X.env.cells.lookup x=some c->X.env.cells.lookup y=some c->x=y
 has:∀ x,(X.env.kindOf x=some .cell\/X.env.kindOf x=some .free)->∃ c,X.env.cells.lookup x=some c
 cab:∀ x c,X.fn x=true->X.env.cells.lookup x=some c->X.s₀.heap.objs.size<=c
 hd:X.calm=true->X.A.handled=none
 frames:X.A.frames=some X.stack
 stk:X.stack=X.outer\/(X.stack=X.env :: X.outer/\X.env.frame=some X.env.locals)
 exf:∀ b ∈ X.ex,b ≠ X.env.locals/\∀ x c,X.env.cells.lookup x=some c->c ≠ b
 bs:∀ b o,X.base.get? b=some o->X.s₀.heap.get? b=some o/\X.H₀ b=none
 bsz:X.base.objs.size<=X.s₀.heap.objs.size
 noex:∀ b o,X.base.get? b=some o->b ∉ X.ex
 exfs:∀ b ∈ X.ex,b ∉ X.fs
 zqk:X.s₀.heap.FunFrames X.base X.outer
 frf:∀ b ∈ X.fs,X.H₀ b=none
 tree:X.prog.given.tree=none
 sk:zzb X.stack
structure Inv (X:Cx) (pins:List (Addr × Obj)) (σ:List (Option V)) (H:Hp) (s:Shared):Prop where
 ok:X.Ok
 os:s.os=X.s₀.os
 bare:AllBare s.gens
 base:Un X.fs X.ex X.H₀ H X.s₀.heap s.heap
 loc:∃ m,s.heap.Ns X.env.locals m/\∀ (i:Nat) (x:Str) (v:V),X.N[i]?=some x->σ[i]?=some (some v)->Vis X.env.scope x->∃ u,RelV v u/\Look X.env s.heap m x u
 cell:∀ x c,X.env.cells.lookup x=some c->∃ v,s.heap.IsCell c v
 free:H X.env.locals=none
 freeC:∀ x c,X.env.cells.lookup x=some c->H c=none
 pin:∀ p ∈ X.pn ++ pins,s.heap.get? p.1=some p.2/\H p.1=none/\p.1 ≠ X.env.locals/\p.1 ∉ X.fs/\∀ v,p.2.data ≠ .cell v
 hok:HOk X.prog X.w H s.heap
 len:σ.length=X.N.length
section
variable {X:Cx} {pins:List (Addr × Obj)} {σ:List (Option V)} {H H':Hp} {s:Shared} {h':Heap}
theorem Cx.Ok.zyY (ok:X.Ok) {b:Addr} {o:Obj} (e:X.base.get? b=some o):b ∉ X.fs:=fun hb=>by
 have:=(ok.zqk.mem hb).1
 rw [e] at this;cases this
theorem Inv.bs (I:Inv X pins σ H s):∀ b o,X.base.get? b=some o->s.heap.get? b=some o/\H b=none:=fun b o e =>
 ⟨I.base.keep b o (I.ok.bs b o e).1 (I.ok.bs b o e).2 (I.ok.zyY e) (I.ok.noex b o e),I.base.free b o (I.ok.bs b o e).1 (I.ok.bs b o e).2 (I.ok.noex b o e)⟩
theorem Inv.bk (I:Inv X pins σ H s):∀ b o,X.base.get? b=some o->s.heap.get? b=some o:=fun b o e=>(I.bs b o e).1
theorem Inv.mod (I:Inv X pins σ H s):Mod X.K X.mg X.base:=I.ok.mod
theorem Inv.kIn (I:Inv X pins σ H s):X.K.In s.heap:=I.ok.mod.kin.keeps I.bk
theorem Inv.nolimit (I:Inv X pins σ H s):s.heap.NoLimit:=I.ok.mod.nolimit.keeps I.bk
theorem Inv.lt (I:Inv X pins σ H s):X.env.locals < s.heap.objs.size:=let ⟨_,hn,_⟩:=I.loc;hn.lt
theorem Inv.sz (I:Inv X pins σ H s):X.s₀.heap.objs.size<=s.heap.objs.size:=Nat.le_trans I.ok.above (Nat.le_of_lt I.lt)
theorem Inv.zyX (I:Inv X pins σ H s) {a:Addr} (h:s.heap.objs.size<=a):a ∉ X.fs:=fun hb=>by
 obtain ⟨_,o,ho,_⟩:=I.ok.zqk.mem hb
 exact absurd (Nat.lt_of_lt_of_le (Heap.lt_size ho) (Nat.le_trans I.sz h)) (Nat.lt_irrefl _)
theorem Inv.cne (I:Inv X pins σ H s):∀ x c,X.env.cells.lookup x=some c->c ≠ X.env.locals:=fun x c e z=>by
 obtain ⟨v,o,ho,hd⟩:=I.cell x c e
 obtain ⟨m,⟨o',es,ep,ho',hd',_⟩,_⟩:=I.loc
 rw [z,ho'] at ho;cases ho;rw [hd'] at hd;cases hd
theorem Inv.zqk (I:Inv X pins σ H s):s.heap.FunFrames X.base X.outer:=by
 have all:∀ (l:List Env),(∀ b ∈ frs l,b ∈ X.fs)->X.s₀.heap.FunFrames X.base l->s.heap.FunFrames X.base l:=by
  intro l
  induction l with
  | nil=>intro _ _;trivial
  | cons env r ih =>
   intro hs hl
   obtain ⟨hk,⟨L,o,hf,hn,ho,hd⟩,hr⟩:=hl
   have hL:L ∈ X.fs:=hs L (by unfold frs;rw [List.filterMap_cons,hf];exact List.mem_cons_self)
   obtain ⟨sl,e⟩:=I.base.slot L o ho (I.ok.frf L hL) hL fun z=>I.ok.exfs L z hL
   exact ⟨hk,⟨L,_,hf,hn,e,hd⟩,ih (fun b hb=>hs b (by unfold frs;rw [List.filterMap_cons,hf];exact List.mem_cons_of_mem _ hb)) hr⟩
 exact all X.outer (fun _ hb=>hb) I.ok.zqk
theorem Inv.stack (I:Inv X pins σ H s):s.heap.FunFrames X.base X.stack:=by
 rcases I.ok.stk with e | ⟨e,hf⟩
 ·rw [e];exact I.zqk
 ·rw [e]
  obtain ⟨m,hn,_⟩:=I.loc
  refine .cons (by rw [I.ok.kind];decide) hf hn ?_ I.zqk
  exact Heap.get?_none_of_le (Nat.le_trans I.ok.bsz I.ok.above)
theorem Inv.zoZ (I:Inv X pins σ H s):∀ b ∈ frs X.stack,b ∈ X.env.locals :: X.fs:=fun b hb=>by
 rcases I.ok.stk with e | ⟨e,hf⟩
 ·rw [e] at hb;exact List.mem_cons_of_mem _ hb
 ·rw [e] at hb
  unfold frs at hb
  rw [List.filterMap_cons,hf] at hb
  exact hb
theorem Inv.zo0 (I:Inv X pins σ H s):∀ b ∈ frs X.stack,H b=none:=fun b hb=>by
 rcases List.mem_cons.mp (I.zoZ b hb) with e | hb
 ·rw [e];exact I.free
 ·obtain ⟨_,o,ho,_⟩:=I.ok.zqk.mem hb
  exact I.base.free b o ho (I.ok.frf b hb) fun z=>I.ok.exfs b z hb
theorem Inv.step {g':Array GenState} {t':Nat} {d':Drawn} {ch:List Addr} (I:Inv X pins σ H s)
  (hch:∀ b ∈ ch,(b ∈ X.ex\/X.s₀.heap.objs.size<=b)/\b ≠ X.env.locals/\(∀ x c,X.env.cells.lookup x=some c->c ≠ b)/\∀ p ∈ X.pn ++ pins,p.1 ≠ b)
  (keep:∀ b o,b ≠ X.env.locals->b ∉ X.fs->b ∉ ch->s.heap.get? b=some o->H b=none->h'.get? b=some o)
  (slot:∀ b o,b ≠ X.env.locals->b ∈ X.fs->b ∉ ch->s.heap.get? b=some o->H b=none->∃ sl,h'.get? b=some { o with slots:=sl }) (free:∀ b o,b ∉ ch->s.heap.get? b=some o->H b=none->H' b=none)
  (there:∀ b o,b ∉ ch->s.heap.get? b=some o->∃ o',h'.get? b=some o')
  (tups:∀ b xs,H b=some (.tup xs)->H' b=some (.tup xs)) (frzs:∀ b o u,H b=some (.frz o u)->H' b=some (.frz o u)) (tbls:∀ b ps,H b=some (.tbl ps)->∃ more,H' b=some (.tbl (ps ++ more)))
  (ns:∀ m,s.heap.Ns X.env.locals m->h'.Ns X.env.locals m) (hok:HOk X.prog X.w H' h') (hg:AllBare g') :
  Inv X pins σ H' { s with heap:=h',gens:=g',drawn:=d',toks:=t' }:=by
 have neL:∀ b o,X.s₀.heap.get? b=some o->b ≠ X.env.locals:=fun b o e=>Nat.ne_of_lt (Nat.lt_of_lt_of_le (Heap.lt_size e) I.ok.above)
 have neC:∀ b o,X.s₀.heap.get? b=some o->b ∉ X.ex->b ∉ ch:=fun b o e hx hb=>by
  rcases (hch b hb).1 with z | z
  ·exact hx z
  ·exact absurd (Nat.lt_of_lt_of_le (Heap.lt_size e) z) (Nat.lt_irrefl _)
 have cellK:∀ x c,X.env.cells.lookup x=some c->∀ v,s.heap.IsCell c v->h'.IsCell c v:=fun x c e v ⟨o,ho,hd⟩=>by
  have nch:c ∉ ch:=fun z=>(hch c z).2.2.1 x c e rfl
  by_cases hc:c ∈ X.fs
  ·obtain ⟨sl,q⟩:=slot c o (I.cne x c e) hc nch ho (I.freeC x c e)
   exact ⟨_,q,hd⟩
  ·exact ⟨o,keep c o (I.cne x c e) hc nch ho (I.freeC x c e),hd⟩
 refine ⟨I.ok,I.os,hg,⟨fun b o e n hb hx=>?_,fun b o e n hb hx=>?_,fun b o e n hx=>?_,fun b o e hx=>?_,fun b xs e=>tups b xs (I.base.tups b xs e),fun b o xs e=>frzs b o xs (I.base.frzs b o xs e),fun b ps e=>?_⟩,?_,fun x c e=>?_,?_,fun x c e=>?_,fun p hp=>?_,hok,I.len⟩
 ·exact keep b o (neL b o e) hb (neC b o e hx) (I.base.keep b o e n hb hx) (I.base.free b o e n hx)
 ·obtain ⟨sl,e1⟩:=I.base.slot b o e n hb hx
  obtain ⟨sl',e2⟩:=slot b _ (neL b o e) hb (neC b o e hx) e1 (I.base.free b o e n hx)
  exact ⟨sl',e2⟩
 ·obtain ⟨o',e1⟩:=I.base.there b o e hx
  exact free b o' (neC b o e hx) e1 (I.base.free b o e n hx)
 ·obtain ⟨o',e1⟩:=I.base.there b o e hx
  exact there b o' (neC b o e hx) e1
 ·obtain ⟨m1,e1⟩:=I.base.tbls b ps e
  obtain ⟨m2,e2⟩:=tbls b _ e1
  exact ⟨m1 ++ m2,by rw [e2,Array.append_assoc]⟩
 ·obtain ⟨m,hn,hl⟩:=I.loc
  refine ⟨m,ns m hn,fun i x v e1 e2 e3=>?_⟩
  obtain ⟨u,r,l⟩:=hl i x v e1 e2 e3
  refine ⟨u,r,?_⟩
  rcases l with l | ⟨k,c,e,z⟩
  ·exact .inl l
  ·exact .inr ⟨k,c,e,cellK x c e _ z⟩
 ·obtain ⟨v,z⟩:=I.cell x c e
  exact ⟨v,cellK x c e v z⟩
 ·obtain ⟨m,⟨o,_,_,ho,_⟩,_⟩:=I.loc
  exact free _ o (fun z=>(hch _ z).2.1 rfl) ho I.free
 ·obtain ⟨v,o,ho,hd⟩:=I.cell x c e
  exact free c o (fun z=>(hch c z).2.2.1 x c e rfl) ho (I.freeC x c e)
 ·obtain ⟨e,n,ne,nf,d⟩:=I.pin p hp
  have nch:p.1 ∉ ch:=fun z=>(hch p.1 z).2.2.2 p hp rfl
  exact ⟨keep p.1 p.2 ne nf nch e n,free p.1 p.2 nch e n,ne,nf,d⟩
theorem Inv.un {t':Nat} (I:Inv X pins σ H s) (u:Un X.fs [] H H' s.heap h') (hok:HOk X.prog X.w H' h'):Inv X pins σ H' { s with heap:=h',toks:=t' }:=by
 obtain ⟨m,⟨o,es,ep,ho,r⟩,_⟩:=id I.loc
 obtain ⟨sl,hL⟩:=u.any ho I.free (by simp)
 exact I.step (g':=s.gens) (d':=s.drawn) (ch:=[]) (fun _ z=>nomatch z) (fun b o _ hb _ e n=>u.keep b o e n hb (by simp)) (fun b o _ hb _ e n=>u.slot b o e n hb (by simp)) (fun b o _ e n=>u.free b o e n (by simp)) (fun b o _ e=>u.there b o e (by simp)) u.tups u.frzs u.tbls (fun m' hm=>by
  obtain ⟨o',es',ep',ho',r'⟩:=hm
  rw [ho] at ho';cases ho'
  exact ⟨_,es',ep',hL,r'⟩) hok I.bare
theorem Inv.call {g':Array GenState} {t':Nat} {d':Drawn} {ch:List Addr} (I:Inv X pins σ H s) (u:Un (frs X.stack) ch H H' s.heap h') (hok:HOk X.prog X.w H' h') (hg:AllBare g')
  (hch:∀ b ∈ ch,(b ∈ X.ex\/X.s₀.heap.objs.size<=b)/\b ≠ X.env.locals/\(∀ x c,X.env.cells.lookup x=some c->c ≠ b)/\∀ p ∈ X.pn ++ pins,p.1 ≠ b) :
  Inv X pins σ H' { s with heap:=h',gens:=g',drawn:=d',toks:=t' }:=by
 obtain ⟨m,⟨o,es,ep,ho,r⟩,_⟩:=id I.loc
 obtain ⟨sl,hL⟩:=u.any ho I.free fun z=>(hch _ z).2.1 rfl
 exact I.step (ch:=ch) hch (fun b o hL hb hc e n=>u.keep b o e n (fun z=>(List.mem_cons.mp (I.zoZ b z)).elim hL hb) hc) (fun b o _ _ hc e n=>u.any e n hc) (fun b o hc e n=>u.free b o e n hc) (fun b o hc e=>u.there b o e hc) u.tups u.frzs u.tbls (fun m' hm=>by
  obtain ⟨o',es',ep',ho',r'⟩:=hm
  rw [ho] at ho';cases ho'
  exact ⟨_,es',ep',hL,r'⟩) hok hg
theorem Inv.turned {t':Nat} {it:Addr} (I:Inv X pins σ H s) (k:∀ b o,b ≠ it->s.heap.get? b=some o->h'.get? b=some o) (hn:H it=none) (hL:it ≠ X.env.locals)
  (h1:it ∈ X.ex\/X.s₀.heap.objs.size<=it) (h2:∀ x c,X.env.cells.lookup x=some c->c ≠ it) (h3:∀ p ∈ X.pn ++ pins,p.1 ≠ it):Inv X pins σ H { s with heap:=h',toks:=t' }:=by
 have nit:∀ b u,H b=some u->b ≠ it:=fun b u e z=>by rw [z,hn] at e;cases e
 refine I.step (g':=s.gens) (d':=s.drawn) (ch:=[it]) (fun b hb=>?_) (fun b o _ _ hc e _=>k b o (fun z=>hc (by simp [z])) e) (fun b o _ _ hc e _=>⟨o.slots,k b o (fun z=>hc (by simp [z])) e⟩) (fun _ _ _ _ n=>n)
  (fun b o hc e=>⟨o,k b o (fun z=>hc (by simp [z])) e⟩) (fun _ _ e=>e) (fun _ _ _ e=>e) (fun b ps e=>⟨#[],by rw [e];simp⟩) (fun m hm=>?_) (fun b u e=>?_) I.bare
 ·have e:b=it:=by simpa using hb
  subst e
  exact ⟨h1,hL,h2,h3⟩
 ·obtain ⟨o,es,ep,ho,r⟩:=hm
  exact ⟨o,es,ep,k _ o (Ne.symm hL) ho,r⟩
 ·refine (I.hok b u e).stay (fun c v hc q=>k c v ?_ q) (fun _ q=>q) fun _ _ q=>q
  rcases hc with z | z
  ·rw [z];exact nit b u e
  ·exact nit c _ z
theorem Inv.tok (I:Inv X pins σ H s) (t:Nat):Inv X pins σ H { s with toks:=t }:=I.un (h':=s.heap) (t':=t) Un.refl I.hok
theorem Inv.kept {t':Nat} (I:Inv X pins σ H s) (k:∀ b u,s.heap.get? b=some u->h'.get? b=some u):Inv X pins σ H { s with heap:=h',toks:=t' }:=I.un (Un.kept k) (I.hok.kept k)
theorem Inv.laid {a:Addr} {o:HO} {t':Nat} (I:Inv X pins σ H s) (k:∀ b u,s.heap.get? b=some u->h'.get? b=some u) (hp:s.heap.objs.size<=a) (new:zbN X.prog X.w (upd H a o) h' a o) :
  Inv X pins σ (upd H a o) { s with heap:=h',toks:=t' }:=I.un (Un.laid k hp (I.hok.fresh hp)) (I.hok.laid k hp new)
theorem Inv.write {x e:Addr} {o:HO} {t':Nat} (I:Inv X pins σ H s) (mu:Mut (H x)) (he:e=x\/H e=some (.own x)) (k:∀ b u,b ≠ e->s.heap.get? b=some u->h'.get? b=some u) (heo:∃ u,h'.get? e=some u)
  (new:zbN X.prog X.w (upd H x o) h' x o):Inv X pins σ (upd H x o) { s with heap:=h',toks:=t' }:=I.un (Un.write mu he k heo) (I.hok.write mu he k heo new)
theorem Inv.weak {σ':List (Option V)} (I:Inv X pins σ H s) (hl:σ'.length=σ.length) (w:∀ (i:Nat) v,σ'[i]?=some (some v)->σ[i]?=some (some v)):Inv X pins σ' H s :=
 ⟨I.ok,I.os,I.bare,I.base,let ⟨m,hn,hl'⟩:=I.loc;⟨m,hn,fun i x v e1 e2 e3=>hl' i x v e1 (w i v e2) e3⟩,I.cell,I.free,I.freeC,I.pin,I.hok,hl.trans I.len⟩
theorem Inv.zpr {pins':List (Addr × Obj)} (I:Inv X pins σ H s) (h:∀ p ∈ pins',s.heap.get? p.1=some p.2/\H p.1=none/\p.1 ≠ X.env.locals/\p.1 ∉ X.fs/\∀ v,p.2.data ≠ .cell v):Inv X pins' σ H s :=
 ⟨I.ok,I.os,I.bare,I.base,I.loc,I.cell,I.free,I.freeC,fun p hp=>(List.mem_append.mp hp).elim (fun z=>I.pin p (List.mem_append_left _ z)) (h p),I.hok,I.len⟩
theorem zna {N:List Str} (hN:N.Nodup) {i j:Nat} {x:Str} (a:N[i]?=some x) (b:N[j]?=some x):i=j:=by
 obtain ⟨h1,e1⟩:=List.getElem?_eq_some_iff.mp a
 obtain ⟨h2,e2⟩:=List.getElem?_eq_some_iff.mp b
 exact (List.getElem_inj hN).mp (e1.trans e2.symm)
theorem zkK {M:Model} {A:Around} {E:Value->Shared->Prop} {i:Nat} {x:Str} {v:V} {u:Value} {Q:Unit->Shared->Prop} (I:Inv X pins σ H s) (hN:X.N.Nodup) (hi:X.N[i]?=some x) (hx:Loc X.env.scope x) (r:RelV v u)
  (h:∀ s',Inv X pins (σ.set i (some v)) H s'->(∃ a,Heap.SameBut a s.heap s'.heap/\(a=X.env.locals\/X.env.cells.lookup x=some a))->Q () s') (hf:X.fn x=true\/X.env.scope.names.lookup x=some .local:=by first | exact .inl rfl | exact .inr rfl | assumption):wpAny M A (storeName X.env x u) Q E s:=by
 obtain ⟨m,hn,hl⟩:=id I.loc
 have hcls:(X.env.scope.kind == .class || (X.env.scope.kind == .module && X.env.locals != X.env.globals))=false:=by rw [I.ok.kind];rfl
 have hiσ:i < σ.length:=by rw [I.len];exact (List.getElem?_eq_some_iff.mp hi).1
 have cne:=I.cne
 have tracked:∀ {a:Addr} {h':Heap},(∃ o,s.heap.get? a=some o/\H a=none)->Heap.SameBut a s.heap h'->HOk X.prog X.w H h':=fun {a h'} ha hs b ob e=>by
  obtain ⟨_,_,hfree⟩:=ha
  refine (I.hok b ob e).stay (fun c w' hc q=>(hs.2 c ?_).trans q) (fun _ q=>q) fun _ _ q=>q
  rintro rfl
  rcases hc with rfl | hc
  ·rw [hfree] at e;cases e
  ·rw [hfree] at hc;cases hc
 rcases hx with hk | hk
 ·refine wpAny_storeName_local hk hn (fun h' hn' hs=>?_) hcls
  obtain ⟨oL,_,_,hoL,_⟩:=id hn
  refine h _ ⟨I.ok,I.os,I.bare,⟨fun b o e n hb hx=>?_,fun b o e n hb hx=>?_,I.base.free,fun b o e hx=>?_,I.base.tups,I.base.frzs,I.base.tbls⟩,⟨_,hn',fun j y v' e1 e2 e3=>?_⟩,fun y c e=>?_,I.free,I.freeC,fun p hp=>?_,tracked ⟨oL,hoL,I.free⟩ hs,by simpa using I.len⟩ ⟨_,hs,.inl rfl⟩
  ·exact (hs.2 b (Nat.ne_of_lt (Nat.lt_of_lt_of_le (Heap.lt_size e) I.ok.above))).trans (I.base.keep b o e n hb hx)
  ·obtain ⟨sl,e1⟩:=I.base.slot b o e n hb hx
   exact ⟨sl,(hs.2 b (Nat.ne_of_lt (Nat.lt_of_lt_of_le (Heap.lt_size e) I.ok.above))).trans e1⟩
  ·obtain ⟨o',e1⟩:=I.base.there b o e hx
   exact ⟨o',(hs.2 b (Nat.ne_of_lt (Nat.lt_of_lt_of_le (Heap.lt_size e) I.ok.above))).trans e1⟩
  ·by_cases hj:j=i
   ·subst hj
    rw [hi] at e1;cases e1
    rw [List.getElem?_set_self hiσ] at e2
    cases e2
    exact ⟨u,r,.inl ⟨hk,by simp⟩⟩
   ·rw [List.getElem?_set_ne (Ne.symm hj)] at e2
    obtain ⟨u',r',q⟩:=hl j y v' e1 e2 e3
    refine ⟨u',r',?_⟩
    rcases q with ⟨k,e⟩ | ⟨k,c,e,z⟩
    ·refine .inl ⟨k,?_⟩
     have:y ≠ x:=fun e=>hj (zna hN e1 (e ▸ hi))
     simp [this,e]
    ·exact .inr ⟨k,c,e,z.sameBut hs (cne y c e)⟩
  ·obtain ⟨w',z⟩:=I.cell y c e
   exact ⟨w',z.sameBut hs (cne y c e)⟩
  ·obtain ⟨e,n,ne,nf,d⟩:=I.pin p hp
   exact ⟨(hs.2 p.1 ne).trans e,n,ne,nf,d⟩
 ·have hfn:X.fn x=true:=by
   rcases hf with z | z
   ·exact z
   ·rw [z] at hk;cases hk
  obtain ⟨c,hc⟩:=I.ok.has x (.inl hk)
  obtain ⟨w',z⟩:=I.cell x c hc
  refine wpAny_storeName_cell I.ok.kind hk hc z (fun h' hc' hs=>?_)
  obtain ⟨oc,hoc,hocd⟩:=id z
  refine h { s with heap:=h' } ⟨I.ok,I.os,I.bare,⟨fun b o e n hb hx=>?_,fun b o e n hb hx=>?_,I.base.free,fun b o e hx=>?_,I.base.tups,I.base.frzs,I.base.tbls⟩,⟨m,hn.sameBut hs (Ne.symm (cne x c hc)),fun j y v' e1 e2 e3=>?_⟩,fun y c' e=>?_,I.free,I.freeC,fun p hp=>?_,tracked ⟨oc,hoc,I.freeC x c hc⟩ hs,by simpa using I.len⟩ ⟨c,hs,.inr hc⟩
  ·exact (hs.2 b (Nat.ne_of_lt (Nat.lt_of_lt_of_le (Heap.lt_size e) (I.ok.cab x c hfn hc)))).trans (I.base.keep b o e n hb hx)
  ·obtain ⟨sl,e1⟩:=I.base.slot b o e n hb hx
   exact ⟨sl,(hs.2 b (Nat.ne_of_lt (Nat.lt_of_lt_of_le (Heap.lt_size e) (I.ok.cab x c hfn hc)))).trans e1⟩
  ·obtain ⟨o',e1⟩:=I.base.there b o e hx
   exact ⟨o',(hs.2 b (Nat.ne_of_lt (Nat.lt_of_lt_of_le (Heap.lt_size e) (I.ok.cab x c hfn hc)))).trans e1⟩
  ·by_cases hj:j=i
   ·subst hj
    rw [hi] at e1;cases e1
    rw [List.getElem?_set_self hiσ] at e2
    cases e2
    exact ⟨u,r,.inr ⟨.inl hk,c,hc,hc'⟩⟩
   ·rw [List.getElem?_set_ne (Ne.symm hj)] at e2
    obtain ⟨u',r',q⟩:=hl j y v' e1 e2 e3
    refine ⟨u',r',?_⟩
    rcases q with q | ⟨k,c',e,z'⟩
    ·exact .inl q
    ·refine .inr ⟨k,c',e,z'.sameBut hs ?_⟩
     rintro rfl
     exact hj (zna hN e1 (I.ok.inj _ _ _ e hc ▸ hi))
  ·by_cases hcc:c'=c
   ·subst hcc;exact ⟨_,hc'⟩
   ·obtain ⟨w2,z2⟩:=I.cell y c' e
    exact ⟨w2,z2.sameBut hs hcc⟩
  ·obtain ⟨e,n,ne,nf,d⟩:=I.pin p hp
   refine ⟨(hs.2 p.1 ?_).trans e,n,ne,nf,d⟩
   intro q
   rw [q,hoc] at e
   have q':oc=p.2:=Option.some.inj e
   exact d w' (by rw [<- q'];exact hocd)
theorem zhd {M:Model} {A:Around} {E:Value->Shared->Prop} {i:Nat} {x:Str} {v:V} {u:Value} {Q:Unit->Shared->Prop} (I:Inv X pins σ H s) (hN:X.N.Nodup) (hi:X.N[i]?=some x) (hx:Loc X.env.scope x) (r:RelV v u)
  (h:∀ s',Inv X pins (σ.set i (some v)) H s'->Q () s') (hf:X.fn x=true\/X.env.scope.names.lookup x=some .local:=by first | exact .inl rfl | exact .inr rfl | assumption):wpAny M A (storeName X.env x u) Q E s :=
 zkK I hN hi hx r (fun s' I' _=>h s' I') hf
theorem Inv.call' {s':Shared} {ch:List Addr} (I:Inv X pins σ H s) (ho:s'.os=s.os) (u:Un (frs X.stack) ch H H' s.heap s'.heap) (hok:HOk X.prog X.w H' s'.heap) (hg:AllBare s'.gens)
  (hch:∀ b ∈ ch,(b ∈ X.ex\/X.s₀.heap.objs.size<=b)/\b ≠ X.env.locals/\(∀ x c,X.env.cells.lookup x=some c->c ≠ b)/\∀ p ∈ X.pn ++ pins,p.1 ≠ b):Inv X pins σ H' s':=by
 obtain ⟨h',g',d',t',o'⟩:=s'
 have e:o'=s.os:=ho
 subst e
 exact I.call (g':=g') (t':=t') (d':=d') u hok hg hch
end
abbrev XK:=Value->Option Addr->Hp->Prop
abbrev St:=List (Option V)
abbrev VK:=V->Hp->Prop
abbrev TE:=St->Hp->VK->Prop
abbrev TT:=St->Hp->(Bool->Hp->Prop)->Prop
abbrev TA:=St->Hp->(List V->Hp->Prop)->Prop
structure Ends where
 nx:St->Hp->Prop
 rt:VK
 bk:St->Hp->Prop:=fun _ _=>False
 ct:St->Hp->Prop:=fun _ _=>False
abbrev TS:=Ends->St->Hp->Prop
def EP (X:Cx) (pins:List (Addr × Obj)) (σ:St) (Q:VK) (u:Value) (s':Shared):Prop:=∃ v H',Inv X pins σ H' s'/\RelV v u/\Q v H'
def TP (X:Cx) (pins:List (Addr × Obj)) (σ:St) (Q:Bool->Hp->Prop) (b:Bool) (s':Shared):Prop:=∃ H',Inv X pins σ H' s'/\Q b H'
def AP (X:Cx) (pins:List (Addr × Obj)) (σ:St) (Q:List V->Hp->Prop) (us:List Value) (s':Shared):Prop:=∃ vs H',Inv X pins σ H' s'/\Vals vs us/\Q vs H'
def SP (X:Cx) (pins:List (Addr × Obj)) (D:Ends) (f:Flow) (s':Shared):Prop :=
 match f with
 | .next=>∃ σ' H',Inv X pins σ' H' s'/\D.nx σ' H'
 | .brk=>∃ σ' H',Inv X pins σ' H' s'/\D.bk σ' H'
 | .cont=>∃ σ' H',Inv X pins σ' H' s'/\D.ct σ' H'
 | .ret u=>∃ v σ' H',Inv X pins σ' H' s'/\RelV v u/\D.rt v H'
def PE (X:Cx) (e:Expr) (t:TE):Prop :=
 ∀ (pins:List (Addr × Obj)) (s:Shared) (σ:St) (H:Hp) (Q:VK),Inv X pins σ H s->t σ H Q->wpAny (model X.prog X.w) X.A (eval e X.env) (EP X pins σ Q) X.xe s
def PT (X:Cx) (e:Expr) (t:TT):Prop :=
 ∀ (pins:List (Addr × Obj)) (s:Shared) (σ:St) (H:Hp) (Q:Bool->Hp->Prop),Inv X pins σ H s->t σ H Q->wpAny (model X.prog X.w) X.A (isTrue e X.env (eval e X.env)) (TP X pins σ Q) X.xe s
def PW (X:Cx) (e:Expr) (t:TT):Prop :=
 ∀ (whole:Sem Value) (pins:List (Addr × Obj)) (s:Shared) (σ:St) (H:Hp) (Q:Bool->Hp->Prop),Inv X pins σ H s->t σ H Q->wpAny (model X.prog X.w) X.A (isTrue e X.env whole) (TP X pins σ Q) X.xe s
theorem PW.pt {X:Cx} {e:Expr} {t:TT} (h:PW X e t):PT X e t:=h _
def PA (X:Cx) (es:List Expr) (t:TA):Prop :=
 ∀ (pos:Pos) (pins:List (Addr × Obj)) (s:Shared) (σ:St) (H:Hp) (Q:List V->Hp->Prop),Inv X pins σ H s->t σ H Q->wpAny (model X.prog X.w) X.A (spliced (backTo pos (starEach es X.env))) (AP X pins σ Q) X.xe s
def PS (X:Cx) (st:Stmt) (t:TS):Prop :=
 ∀ (pins:List (Addr × Obj)) (s:Shared) (σ:St) (H:Hp) (D:Ends),Inv X pins σ H s->t D σ H->wpAny (model X.prog X.w) X.A (exec st X.env) (SP X pins D) X.xe s
def PSs (X:Cx) (st:List Stmt) (t:TS):Prop :=
 ∀ (pins:List (Addr × Obj)) (s:Shared) (σ:St) (H:Hp) (D:Ends),Inv X pins σ H s->t D σ H->wpAny (model X.prog X.w) X.A (execs st X.env) (SP X pins D) X.xe s
theorem thn {α:Type} {t:Sem α} {Q Q':α->Shared->Prop} {M:Model} {A:Around} {E:Value->Shared->Prop} {s:Shared} (h:wpAny M A t Q E s) (hQ:∀ a s,Q a s->Q' a s):wpAny M A t Q' E s:=wpAny_mono h hQ fun _ _ x=>x
end L2
namespace L2
open PySem PySem.Spec PyProof.Rows
section
variable {X:Cx}
def zkJ (i:Nat):TE:=fun σ H Q=>∃ v,σ[i]?=some (some v)/\Q v H
def tC (v:V):TE:=fun _ H Q=>Q v H
theorem zsX {i:Nat} {x:Str} {pos:Pos} (hN:X.N[i]?=some x) (hv:Vis X.env.scope x) (hd:(x == ("__debug__":Str))=false:=by decide) (hcd:(x == ("__classdict__":Str))=false:=by decide):PE X (.Name x pos) (zkJ i):=by
 intro pins s σ H Q I h
 obtain ⟨v,e,h⟩:=h
 obtain ⟨m,hn,hl⟩:=I.loc
 obtain ⟨u,r,l⟩:=hl i x v hN e hv
 have fin:EP X pins σ Q u s:=⟨v,H,I,r,h⟩
 rcases l with ⟨hk,hm⟩ | ⟨hk,c,hc,hcell⟩
 ·exact wpAny_Name (wpAny_loadName_local I.ok.kind hk hn hm fin) hd
 ·rcases hk with hk | hk
  ·exact wpAny_Name (wpAny_loadName_cell I.ok.kind hk hc hcell fin) hd
  ·exact wpAny_Name (wpAny_loadName_free I.ok.kind hk hc hcell fin hcd) hd
theorem zvX {i j pos}:PE X (.Constant (.int i) j pos) (tC (.int i)):=fun _ _ _ H _ I h=>wpAny_Constant_int ⟨.int i,H,I.tok _,⟨_,rfl⟩,h⟩
theorem zxB {b j pos}:PE X (.Constant (.bool b) j pos) (tC (.bl b)):=fun _ _ _ H _ I h=>Constant_bool ⟨.bl b,H,I,rfl,h⟩
theorem zvV {j pos}:PE X (.Constant .none j pos) (tC .non):=fun _ _ _ H _ I h=>Constant_none ⟨.non,H,I,rfl,h⟩
def Gl (X:Cx) (x:Str):Prop:=X.env.kindOf x=some .globalImplicit
theorem zpN {E:Value->Shared->Prop} {pins:List (Addr × Obj)} {s:Shared} {σ:St} {H:Hp} {x:Str} {u:Value} {pos:Pos} {Q:Value->Shared->Prop} (I:Inv X pins σ H s) (hg:Gl X x) (hm:X.mg x=some u) (h:Q u s)
  (hd:(x == ("__debug__":Str))=false:=by decide):wpAny (model X.prog X.w) X.A (eval (.Name x pos) X.env) Q E s :=
 Calls.Name_function_global I.ok.kind hg (Calls.loadGlobal_global (by rw [I.ok.glob];exact I.mod.glob.keeps I.bk) hm h) hd
theorem zjk {E:Value->Shared->Prop} {pins:List (Addr × Obj)} {s:Shared} {σ:St} {H:Hp} {x:Str} {u:Value} {pos:Pos} {Q:Value->Shared->Prop} (I:Inv X pins σ H s) (hg:Gl X x) (hm:X.mg x=none) (hv:bootBuiltins x=some u) (h:Q u s)
  (hn:x ≠ "__name__":=by decide) (hd:(x == ("__debug__":Str))=false:=by decide):wpAny (model X.prog X.w) X.A (eval (.Name x pos) X.env) Q E s:=by
 obtain ⟨mb,h1,h2⟩:=I.mod.blt
 exact Calls.Name_function_global I.ok.kind hg (Calls.loadGlobal_builtin (by rw [I.ok.glob];exact I.mod.glob.keeps I.bk) hm (by rw [I.ok.blt];exact h1.keeps I.bk) ((h2 x hn).trans hv) h) hd
theorem zt7 {x:Str} {v:V} {u:Value} {pos:Pos} (hg:Gl X x) (hm:X.mg x=some u) (r:RelV v u) (hd:(x == ("__debug__":Str))=false:=by decide):PE X (.Name x pos) (tC v) :=
 fun _ _ _ H _ I h=>zpN I hg hm ⟨v,H,I,r,h⟩ hd
theorem zua {x:Str} {v:V} {u:Value} {pos:Pos} (hg:Gl X x) (hm:X.mg x=none) (hv:bootBuiltins x=some u) (r:RelV v u) (hn:x ≠ "__name__":=by decide) (hd:(x == ("__debug__":Str))=false:=by decide):PE X (.Name x pos) (tC v) :=
 fun _ _ _ H _ I h=>zjk I hg hm hv ⟨v,H,I,r,h⟩ hn hd
variable {a b:Expr} {ta tb:TE} {pos:Pos}
def tB (t:TE):TT:=fun σ H Q=>t σ H fun x H1=>∃ c,x=.bl c/\Q c H1
variable {tA tB':TT} {rest:List Expr}
def zfi (t u:TT):TT:=fun σ H Q=>t σ H fun c H1=>if c=true then u σ H1 Q else Q false H1
def tOr (t u:TT):TT:=fun σ H Q=>t σ H fun c H1=>if c=true then Q true H1 else u σ H1 Q
def zcx (t:TT):TT:=fun σ H Q=>t σ H fun c H1=>Q (!c) H1
theorem ztH (ha:PT X a tA):PW X (.BoolOp .And [a] pos) tA:=by
 intro wh pins s σ H Q I h
 refine isTrue_and (thn (ha pins s σ H Q I h) fun c s1 e=>?_)
 cases c with
 | true=>exact isTrue_and_nil e
 | false=>exact e
theorem zvz (ha:PT X a tA):PW X (.BoolOp .Or [a] pos) tA:=by
 intro wh pins s σ H Q I h
 refine isTrue_or (thn (ha pins s σ H Q I h) fun c s1 e=>?_)
 cases c with
 | false=>exact isTrue_or_nil e
 | true=>exact e
theorem zvA (ha:PT X a tA) (hb:PW X (.BoolOp .And (b :: rest) pos) tB'):PW X (.BoolOp .And (a :: b :: rest) pos) (zfi tA tB'):=by
 intro wh pins s σ H Q I h
 refine isTrue_and (thn (ha pins s σ H _ I h) fun c s1 ⟨H1,I1,q1⟩=>?_)
 cases c with
 | true=>exact hb wh pins s1 σ H1 Q I1 q1
 | false=>exact ⟨H1,I1,q1⟩
theorem zxr (ha:PT X a tA) (hb:PW X (.BoolOp .Or (b :: rest) pos) tB'):PW X (.BoolOp .Or (a :: b :: rest) pos) (tOr tA tB'):=by
 intro wh pins s σ H Q I h
 refine isTrue_or (thn (ha pins s σ H _ I h) fun c s1 ⟨H1,I1,q1⟩=>?_)
 cases c with
 | true=>exact ⟨H1,I1,q1⟩
 | false=>exact hb wh pins s1 σ H1 Q I1 q1
theorem zvI (ha:PT X a tA):PT X (.UnaryOp .Not a pos) (zcx tA):=by
 intro pins s σ H Q I h
 exact isTrue_not (ha pins s σ H (fun c H1=>Q (!c) H1) I h)
def zxm (ta tb:TE):TE:=fun σ H Q=>ta σ H fun x H1=>∃ c,x=.bl c/\if c=true then tb σ H1 Q else Q (.bl false) H1
def zxj (ta:TE):TE:=fun σ H Q=>ta σ H fun x H1=>∃ c,x=.bl c/\Q (.bl (!c)) H1
theorem zvT {op} {t:TE} (h:PE X a t):PE X (.BoolOp op [a] pos) t:=fun pins s σ H Q I hw=>BoolOp_one (h pins s σ H Q I hw)
theorem zvZ (ha:PE X a ta) (hb:PE X (.BoolOp .And (b :: rest) pos) tb):PE X (.BoolOp .And (a :: b :: rest) pos) (zxm ta tb):=by
 intro pins s σ H Q I h
 refine BoolOp_and (thn (ha pins s σ H _ I h) fun v s1 ⟨x,H1,I1,r1,q1⟩=>?_)
 obtain ⟨c,rfl,q1⟩:=q1
 cases r1
 refine wpAny_truthy_bool ?_
 cases c with
 | true=>exact hb pins s1 σ H1 Q I1 q1
 | false=>exact ⟨.bl false,H1,I1,rfl,q1⟩
theorem zvU (ha:PE X a ta):PE X (.UnaryOp .Not a pos) (zxj ta):=by
 intro pins s σ H Q I h
 refine UnaryOp_ (thn (ha pins s σ H _ I h) fun v s1 ⟨x,H1,I1,r1,q1⟩=>?_)
 obtain ⟨c,rfl,q1⟩:=q1
 cases r1
 exact not_of (wpAny_truthy_bool ⟨.bl (!c),H1,I1,rfl,q1⟩)
end
end L2
namespace L2
open PySem PySem.Spec PyProof.Rows
def SqL (K:PySem.W.Frag) (H:Hp) (a:Addr) (xs:List V):Prop :=
 Rd H a (.lst xs) \/
  ∃ (o:Obj) (its:Array Value) (n:Nat),K.lookup a=some o/\o.cls=.type "list"/\o.dict=none/\o.data=.seq its n/\its.size<=sizeLine/\Vals xs its.toList
def SqT (K:PySem.W.Frag) (H:Hp) (a:Addr) (xs:List V):Prop :=
 Rd H a (.tup xs) \/
  ∃ (o:Obj) (its:Array Value) (n:Nat),K.lookup a=some o/\o.cls=.type "tuple"/\o.data=.seq its n/\its.size<=sizeLine/\Vals xs its.toList
def zy9:Value->Option V
 | .none=>some .non
 | .bool b=>some (.bl b)
 | .int i _=>some (.int i)
 | .str x _=>some (.str x)
 | .bytes b _=>some (.byt b)
 | .float b _=>some (.flt b)
 | .ref a=>some (.ref a)
 | .type n=>some (.ty n)
 | _=>none
theorem RelV.abs {x:V} {u:Value} (r:RelV x u):zy9 u=some x:=by
 cases x with
 | non=>cases r;rfl
 | bl _=>cases r;rfl
 | int _=>obtain ⟨t,rfl⟩:=r;rfl
 | str _=>obtain ⟨t,rfl⟩:=r;rfl
 | byt _=>obtain ⟨t,rfl⟩:=r;rfl
 | flt _=>obtain ⟨t,rfl⟩:=r;rfl
 | ref _=>cases r;rfl
 | ty _=>cases r;rfl
theorem RelV.inj {x y:V} {u:Value} (r:RelV x u) (q:RelV y u):x=y:=Option.some.inj (r.abs.symm.trans q.abs)
theorem Vals.inj:∀ {xs ys:List V} {us:List Value},Vals xs us->Vals ys us->xs=ys
 | _,_,_,.nil,.nil=>rfl
 | _,_,_,.cons r t,.cons r' t'=>by rw [r.inj r',Vals.inj t t']
section
variable {X:Cx} {pins:List (Addr × Obj)} {σ:St} {H:Hp} {s:Shared} {a:Addr} {xs ys:List V}
theorem SqL.of {K:PySem.W.Frag} (h:H a=some (.lst xs)):SqL K H a xs:=.inl (.inl h)
theorem Inv.list (I:Inv X pins σ H s) (h:SqL X.K H a xs):∃ its:List Value,Vals xs its/\PlainL s.heap a its.toArray/\xs.length<=sizeLine:=by
 rcases h with h | ⟨o,its,n,hk,hc,hd,hs,hz,r⟩
 ·obtain ⟨z,its,n,r,e⟩:=h.ok I.hok
  exact ⟨its,r,⟨_,n,e,rfl,rfl,rfl⟩,z⟩
 ·refine ⟨its.toList,r,⟨o,n,I.kIn a o hk,hc,hd,by simpa using hs⟩,?_⟩
  have e:=r.length
  simp only [Array.length_toList] at e
  omega
theorem Inv.tuple (I:Inv X pins σ H s) (h:SqT X.K H a xs):∃ its:List Value,Vals xs its/\IsTup s.heap a its.toArray/\xs.length<=sizeLine:=by
 rcases h with h | ⟨o,its,n,hk,hc,hs,hz,r⟩
 ·obtain ⟨z,its,r,p⟩:=h.ok I.hok
  exact ⟨its,r,p,z⟩
 ·refine ⟨its.toList,r,⟨o,I.kIn a o hk,hc,n,by simpa using hs⟩,?_⟩
  have e:=r.length
  simp only [Array.length_toList] at e
  omega
theorem Inv.zhh (I:Inv X pins σ H s) (h:SqL X.K H a xs) (h':SqL X.K H a ys):xs=ys:=by
 obtain ⟨its,r,⟨o,n,e,_,_,d⟩,_⟩:=I.list h
 obtain ⟨its',r',⟨o',n',e',_,_,d'⟩,_⟩:=I.list h'
 rw [e] at e';cases e'
 rw [d] at d'
 injection d' with d1 _
 have:its=its':=by simpa using congrArg Array.toList d1
 subst this
 exact r.inj r'
theorem Inv.zoV (I:Inv X pins σ H s) (h:SqT X.K H a xs) (h':SqT X.K H a ys):xs=ys:=by
 obtain ⟨its,r,⟨o,e,_,n,d⟩,_⟩:=I.tuple h
 obtain ⟨its',r',⟨o',e',_,n',d'⟩,_⟩:=I.tuple h'
 rw [e] at e';cases e'
 rw [d] at d'
 injection d' with d1 _
 have:its=its':=by simpa using congrArg Array.toList d1
 subst this
 exact r.inj r'
end
abbrev Cx.wish (X:Cx) (E:Value->Shared->Prop):Cx:={ X with xe:=E }
abbrev Cx.nox (X:Cx):Cx:=X.wish fun _ _=>False
theorem Cx.Ok.wish {X:Cx} (ok:X.Ok) (E:Value->Shared->Prop):(X.wish E).Ok :=
 ⟨ok.mod,ok.kind,ok.glob,ok.blt,ok.above,ok.inj,ok.has,ok.cab,ok.hd,ok.frames,ok.stk,ok.exf,ok.bs,ok.bsz,ok.noex,ok.exfs,ok.zqk,ok.frf,ok.tree,ok.sk⟩
theorem Cx.Ok.zgI {X:Cx} {E:Value->Shared->Prop} (ok:(X.wish E).Ok):X.Ok :=
 ⟨ok.mod,ok.kind,ok.glob,ok.blt,ok.above,ok.inj,ok.has,ok.cab,ok.hd,ok.frames,ok.stk,ok.exf,ok.bs,ok.bsz,ok.noex,ok.exfs,ok.zqk,ok.frf,ok.tree,ok.sk⟩
section
variable {X:Cx} {pins:List (Addr × Obj)} {σ:St} {H:Hp} {s:Shared} {E:Value->Shared->Prop}
theorem Inv.wish (I:Inv X pins σ H s) (E:Value->Shared->Prop):Inv (X.wish E) pins σ H s:=⟨I.ok.wish E,I.os,I.bare,I.base,I.loc,I.cell,I.free,I.freeC,I.pin,I.hok,I.len⟩
theorem Inv.zgI (I:Inv (X.wish E) pins σ H s):Inv X pins σ H s:=⟨I.ok.zgI,I.os,I.bare,I.base,I.loc,I.cell,I.free,I.freeC,I.pin,I.hok,I.len⟩
theorem SP.zgI {D:Ends} {f:Flow} {s':Shared} (h:SP (X.wish E) pins D f s'):SP X pins D f s':=by
 cases f with
 | next=>obtain ⟨σ',H',I,q⟩:=h;exact ⟨σ',H',I.zgI,q⟩
 | brk=>obtain ⟨σ',H',I,q⟩:=h;exact ⟨σ',H',I.zgI,q⟩
 | cont=>obtain ⟨σ',H',I,q⟩:=h;exact ⟨σ',H',I.zgI,q⟩
 | ret u=>obtain ⟨v,σ',H',I,r,q⟩:=h;exact ⟨v,σ',H',I.zgI,r,q⟩
theorem PSs.nox {st:List Stmt} {t:TS} (h:PSs X.nox st t):PSs X st t:=fun pins s σ H D I hw =>
 wpAny_mono (h pins s σ H D (I.wish _) hw) (fun _ _ q=>q.zgI) fun _ _ z=>False.elim z
end
section
variable {X:Cx} {st:Stmt} {rest:List Stmt} {t u:TS} {e:Expr} {te:TE} {pos:Pos}
def zxk:TS:=fun D σ H=>D.nx σ H
def zyy (t u:TS):TS:=fun D σ H=>t { D with nx:=u D } σ H
theorem ztV:PSs X [] zxk:=fun _ _ σ H _ I h=>wpAny_execs_nil ⟨σ,H,I,h⟩
theorem zrz (h1:PS X st t) (h2:PSs X rest u):PSs X (st :: rest) (zyy t u):=by
 intro pins s σ H D I h
 refine wpAny_execs_cons (thn (h1 pins s σ H { D with nx:=u D } I h) fun f s1 q=>?_)
 cases f with
 | next =>
  obtain ⟨σ',H',I',q⟩:=q
  exact h2 pins s1 σ' H' D I' q
 | ret v=>exact q
 | brk=>exact q
 | cont=>exact q
theorem ztU (h1:PS X st t):PSs X [st] t:=by
 intro pins s σ H D I h
 refine wpAny_execs_cons (thn (h1 pins s σ H D I h) fun f s1 q=>?_)
 cases f with
 | next=>exact wpAny_execs_nil q
 | ret v=>exact q
 | brk=>exact q
 | cont=>exact q
def zvm:TS:=fun D σ H=>D.bk σ H
theorem zrC:PS X (.Break pos) zvm:=fun _ _ σ H _ I h=>wpAny_Break ⟨σ,H,I,h⟩
theorem Inv.quiet {pins:List (Addr × Obj)} {σ:St} {H:Hp} {s:Shared} (I:Inv X pins σ H s):interactive X.env=false:=by simp [interactive,I.ok.kind]
def zxl (te:TE):TS:=fun D σ H=>te σ H fun _ H1=>D.nx σ H1
theorem zl9 (he:PE X e te) (hs:swapsWith e none pos.line X.env=pure false:=by rfl):PS X (.Expr e pos) (zxl te):=by
 intro pins s σ H D I h
 exact wpAny_Expr_any (thn (he pins s σ H _ I h) fun v s1 ⟨x,H1,I1,r1,q1⟩=>⟨σ,H1,I1,q1⟩) I.quiet hs
def zyz (te:TE):TS:=fun D σ H=>te σ H D.rt
theorem zpn (he:PE X e te):PS X (.Return (some e) pos) (zyz te):=by
 intro pins s σ H D I h
 exact wpAny_Return_some (thn (he pins s σ H _ I h) fun v s1 ⟨x,H1,I1,r1,q1⟩=>⟨x,σ,H1,I1,r1,q1⟩)
def zyC (c:TT) (t u:TS):TS:=fun D σ H=>c σ H fun b H1=>if b=true then t D σ H1 else u D σ H1
theorem zxx {c:Expr} {a b:List Stmt} {tc:TT} (hc:PT X c tc) (ha:PSs X a t) (hb:PSs X b u):PS X (.If c a b pos) (zyC tc t u):=by
 intro pins s σ H D I h
 refine wpAny_If (thn (hc pins s σ H _ I h) fun d s1 ⟨H1,I1,q1⟩=>?_)
 cases d with
 | true=>exact ha pins s1 σ H1 D I1 q1
 | false=>exact hb pins s1 σ H1 D I1 q1
def zvj:TS:=fun _ _ _=>False
theorem zrB:PS X st zvj:=fun _ _ _ _ _ _ h=>h.elim
end
abbrev TG:=V->St->Hp->(St->Hp->Prop)->Prop
abbrev TGs:=List V->St->Hp->(St->Hp->Prop)->Prop
def PG (X:Cx) (target:Expr) (t:TG):Prop :=
 ∀ (pins:List (Addr × Obj)) (s:Shared) (σ:St) (H:Hp) (v:V) (u:Value) (Q:St->Hp->Prop),Inv X pins σ H s->RelV v u->t v σ H Q ->
  wpAny (model X.prog X.w) X.A (assign target X.env u) (fun _ s'=>∃ σ' H',Inv X pins σ' H' s'/\Q σ' H') X.xe s
def PGs (X:Cx) (ts:List Expr) (t:TGs):Prop :=
 ∀ (pins:List (Addr × Obj)) (s:Shared) (σ:St) (H:Hp) (vs:List V) (us:List Value) (Q:St->Hp->Prop),Inv X pins σ H s->Vals vs us->t vs σ H Q ->
  wpAny (model X.prog X.w) X.A (assignInOrder ((assignEach ts X.env).map (·.2)) us) (fun _ s'=>∃ σ' H',Inv X pins σ' H' s'/\Q σ' H') X.xe s
abbrev zx8:=V->V->V->Hp->(Hp->Prop)->Prop
def zys (X:Cx) (t:zx8):Prop :=
 ∀ (pins:List (Addr × Obj)) (s:Shared) (σ:St) (H:Hp) (o i v:V) (ov iv u:Value) (Q:Hp->Prop),Inv X pins σ H s->RelV o ov->RelV i iv->RelV v u->t o i v H Q ->
  wpAny (model X.prog X.w) X.A (setItem ov iv u) (fun _ s'=>∃ H',Inv X pins σ H' s'/\Q H') X.xe s
section
variable {X:Cx} {pos:Pos}
def zqe (i:Nat):TG:=fun v σ H Q=>Q (σ.set i (some v)) H
theorem zt5 {i:Nat} {x:Str} (hN:X.N.Nodup) (hi:X.N[i]?=some x) (hx:Loc X.env.scope x) (hf:X.fn x=true\/X.env.scope.names.lookup x=some .local:=by first | exact .inl rfl | exact .inr rfl | assumption):PG X (.Name x pos) (zqe i):=by
 intro pins s σ H v u Q I r h
 exact wpAny_assign_Name (zhd I hN hi hx r (fun s' I'=>⟨_,H,I',h⟩) hf)
def zy7:TGs:=fun vs σ H Q=>vs=[]/\Q σ H
def zxT (t:TG) (u:TGs):TGs:=fun vs σ H Q=>∃ v r,vs=v :: r/\t v σ H fun σ' H'=>u r σ' H' Q
theorem zt4:PGs X [] zy7:=by
 intro pins s σ H vs us Q I r h
 obtain ⟨e,h⟩:=h
 subst e
 cases r
 exact assignInOrder_nil ⟨σ,H,I,h⟩
theorem zrE {e:Expr} {es:List Expr} {t:TG} {u:TGs} (h1:PG X e t) (h2:PGs X es u)
  (hs:(assignEach (e :: es) X.env).map (·.2)=assign e X.env :: (assignEach es X.env).map (·.2):=by rfl):PGs X (e :: es) (zxT t u):=by
 intro pins s σ H vs us Q I r h
 obtain ⟨v,vr,e1,h⟩:=h
 subst e1
 cases r with
 | cons r rr =>
  rw [hs]
  refine assignInOrder_cons (thn (h1 pins s σ H _ _ _ I r h) fun _ s1 ⟨σ1,H1,I1,q1⟩=>?_)
  exact h2 pins s1 σ1 H1 _ _ Q I1 rr q1
def zy5 (K:PySem.W.Frag) (n:Nat) (t:TGs):TG:=fun v σ H Q=>∃ a xs,v=.ref a/\SqT K H a xs/\xs.length=n/\t xs σ H Q
theorem zvQ {es:List Expr} {k:Nat} {t:TGs} {n:Nat} (hc:X.calm=true) (h:PGs X es t)
  (hn:(assignEach es X.env).length=n:=by rfl) (hst:(assignEach es X.env).findIdx? (·.1)=none:=by rfl):PG X (.Tuple es k pos) (zy5 X.K n t):=by
 intro pins s σ H v u Q I r hw
 obtain ⟨a,xs,e1,hq,hl,hw⟩:=hw
 subst e1
 cases r
 obtain ⟨its,rv,ht,hz⟩:=I.tuple hq
 refine assign_Tuple_tuple (I.ok.hd hc) ht (by simp [hn,<- hl,rv.length]) hst fun h' hx=>?_
 have I1:Inv X pins σ H { s with heap:=h' }:=I.kept (t':=s.toks) fun b o e=>hx b o (Nat.ne_of_lt (Heap.lt_size e)) e
 exact h pins _ σ H xs _ Q I1 (by simpa using rv) hw
def zy6 (to ti:TE) (t:zx8):TG:=fun v σ H Q=>to σ H fun o H1=>ti σ H1 fun i H2=>t o i v H2 fun H3=>Q σ H3
theorem zvR {o i:Expr} {to ti:TE} {t:zx8} (ho:PE X o to) (hi:PE X i ti) (hs:zys X t)
  (ha:∀ v,assign (.Subscript o i pos) X.env v=(do
   let ov <- holding [v] (eval o X.env)
   let iv <- holding [v,ov] (eval i X.env)
   standAt pos
   holding [v,ov,iv] (setItem ov iv v)
   release [v,ov,iv] []):=by intro _;rfl):PG X (.Subscript o i pos) (zy6 to ti t):=by
 intro pins s σ H v u Q I r h
 rw [ha]
 refine wpAny_bind (wpAny_holding (thn (ho pins s σ H _ I h) fun ov s1 ⟨x,H1,I1,r1,q1⟩=>?_))
 refine wpAny_bind (wpAny_holding (thn (hi pins s1 σ H1 _ I1 q1) fun iv s2 ⟨y,H2,I2,r2,q2⟩=>?_))
 refine wpAny_bind (wpAny_standAt (wpAny_bind (wpAny_holding (thn (hs pins s2 σ H2 x y v ov iv u _ I2 r1 r2 r q2) fun _ s3 ⟨H3,I3,q3⟩=>?_))))
 exact wpAny_release ⟨σ,H3,I3,q3⟩
def zvn (te:TE) (g:TG):TS:=fun D σ H=>te σ H fun x H1=>g x σ H1 D.nx
theorem zsW {tg e:Expr} {te:TE} {g:TG} (he:PE X e te) (hg:PG X tg g) (hs:swapsWithSole [tg] e pos.line X.env=pure false:=by rfl) (hw:swappedStores [tg] e X.env=pure none:=by rfl)
  (h1:(assignEach [tg] X.env).map (·.2)=[assign tg X.env]:=by rfl):PS X (.Assign [tg] e pos) (zvn te g):=by
 intro pins s σ H D I h
 refine wpAny_Assign_stores (thn (he pins s σ H _ I h) fun v s1 ⟨x,H1,I1,r1,q1⟩=>?_) hs hw
 rw [h1]
 exact thn (hg pins s1 σ H1 x v _ I1 r1 q1) fun _ s2 q=>q
theorem zsV {i:Nat} {x:Str} {e:Expr} {te:TE} {pos':Pos} (hN:X.N.Nodup) (hi:X.N[i]?=some x) (hx:Loc X.env.scope x) (he:PE X e te) (hs:swapsWith e (some (.Name x pos')) pos.line X.env=pure false:=by rfl) (hf:X.fn x=true\/X.env.scope.names.lookup x=some .local:=by first | exact .inl rfl | exact .inr rfl | assumption) :
  PS X (.Assign [.Name x pos'] e pos) (zvn te (zqe i)):=by
 intro pins s σ H D I h
 refine wpAny_Assign_Name (thn (he pins s σ H _ I h) fun v s1 ⟨y,H1,I1,r1,q1⟩=>?_) hs
 exact zhd I1 hN hi hx r1 (fun s2 I2=>⟨_,H1,I2,q1⟩) hf
def zyA (i j:Nat) (ta:TA):TS:=fun D σ H=>ta σ H fun vs H1=>∃ v w,vs=[v,w]/\D.nx ((σ.set i (some v)).set j (some w)) H1
theorem zvJ {i j:Nat} {x y:Str} {a b:Expr} {ta:TA} {px py pt:Pos} {kt k2 pt2} (hc:X.calm=true) (hN:X.N.Nodup) (hi:X.N[i]?=some x) (hj:X.N[j]?=some y) (hij:i ≠ j)
  (hx:X.env.scope.names.lookup x=some .local) (hy:X.env.scope.names.lookup y=some .local) (ha:PA X [a,b] ta)
  (hw:swappedStores [.Tuple [.Name x px,.Name y py] kt pt] (.Tuple [a,b] k2 pt2) X.env=pure (some [x,y]))
  (hs:swapsWithSole [.Tuple [.Name x px,.Name y py] kt pt] (.Tuple [a,b] k2 pt2) pos.line X.env=pure false:=by rfl) :
  PS X (.Assign [.Tuple [.Name x px,.Name y py] kt pt] (.Tuple [a,b] k2 pt2) pos) (zyA i j ta):=by
 intro pins s σ H D I h
 rw [exec_Assign_arm]
 refine wpAny_bind (wpAny_standAt ?_)
 rw [hs]
 refine wpAny_bind (wpAny_pure ?_)
 rw [if_neg (by decide)]
 refine wpAny_bind (Tuple_ (thn (ha _ pins s σ H _ I h) fun us s1 ⟨vs,H1,I1,r1,q1⟩=>?_))
 obtain ⟨v,w,e1,q1⟩:=q1
 subst e1
 obtain ⟨u1,u2,rfl,rv,rw'⟩:∃ u1 u2,us=[u1,u2]/\RelV v u1/\RelV w u2:=by
  cases r1 with
  | cons p q =>
   cases q with
   | cons p' q' =>
    cases q'
    exact ⟨_,_,rfl,p,p'⟩
 refine wpAny_newObj_type ?_ (by show 2<=sizeLine;decide)
 have I2:Inv X pins σ H1 { s1 with heap:=s1.heap.push { cls:=.type "tuple",data:=.seq [u1,u2].toArray } }:=I1.kept (t':=s1.toks) fun b o e=>Heap.get?_push_of_some _ e
 rw [hw]
 refine wpAny_bind (wpAny_pure ?_)
 show wpAny (model X.prog X.w) X.A (do rule "assign.swapped-stores";let items <- unpackItems (.ref s1.heap.objs.size) 2 none;assignInOrder [fun v=>bindName X.env y v,fun v=>bindName X.env x v] items.reverse;pure Flow.next) _ _ _
 refine wpAny_bind (wpAny_rule (wpAny_bind (unpackItems_tuple (items:=#[u1,u2]) (I.ok.hd hc) (IsTup.new s1.heap _) fun h' hx'=>?_)))
 have I3:=I2.kept (h':=h') (t':=s1.toks) fun b o e=>hx' b o (Nat.ne_of_lt (Heap.lt_size e)) e
 show wpAny _ _ (assignInOrder [fun v=>bindName X.env y v,fun v=>bindName X.env x v] [u2,u1] >>= fun _=>pure Flow.next) _ _ _
 refine wpAny_bind (assignInOrder_cons (wpAny_bindName (zhd I3 hN hj (.inl hy) rw' (fun s2 I4=>?_) (.inr hy))))
 refine assignInOrder_cons (wpAny_bindName (zhd I4 hN hi (.inl hx) rv (fun s3 I5=>assignInOrder_nil (wpAny_pure ?_)) (.inr hx)))
 rw [List.set_comm _ _ (Ne.symm hij)] at I5
 exact ⟨_,H1,I5,q1⟩
end
section
variable {X:Cx} {pos:Pos}
def zvi (c:TT) (tb:TS):TS:=fun D σ H=>∃ W:Nat->St->Hp->Prop,(∃ m,W m σ H)/\∀ m σ H,W m σ H ->
 c σ H fun b H1=>if b=true then ∃ N:St->Hp->Prop,(∀ σ' H',N σ' H'->∃ m',m' < m/\W m' σ' H')/\tb { D with nx:=N,ct:=N,bk:=D.nx } σ H1 else D.nx σ H1
theorem zrA {c:Expr} {body:List Stmt} {tc:TT} {tb:TS} (hp:PassesOwn (model X.prog X.w) X.A X.env X.xe) (hc:PT X c tc) (hb:PSs X body tb):PS X (.While c body [] pos) (zvi tc tb):=by
 intro pins s σ H D I h
 obtain ⟨W,⟨m0,w0⟩,turn⟩:=h
 refine wpAny_While (codeAny_whileLoop (fun n s'=>∃ σ' H',Inv X pins σ' H' s'/\W n σ' H') ?_ m0 ⟨σ,H,I,w0⟩)
 rintro n s1 ⟨σ1,H1,I1,w1⟩
 refine wpAny_passesOwn hp (thn (hc pins s1 σ1 H1 _ I1 (turn n σ1 H1 w1)) fun b s2 ⟨H2,I2,q2⟩=>?_)
 cases b with
 | true =>
  obtain ⟨N,hN,q2⟩:=q2
  rw [if_pos rfl]
  refine wpAny_passesOwn hp (thn (hb pins s2 σ1 H2 _ I2 q2) fun f s3 q3=>?_)
  cases f with
  | next =>
   obtain ⟨σ3,H3,I3,n3⟩:=q3
   obtain ⟨m',hm,w3⟩:=hN σ3 H3 n3
   exact ⟨m',hm,σ3,H3,I3,w3⟩
  | cont =>
   obtain ⟨σ3,H3,I3,n3⟩:=q3
   obtain ⟨m',hm,w3⟩:=hN σ3 H3 n3
   exact ⟨m',hm,σ3,H3,I3,w3⟩
  | brk=>exact q3
  | ret v=>exact q3
 | false =>
  rw [if_neg Bool.false_ne_true]
  exact wpAny_execs_nil ⟨σ1,H2,I2,q2⟩
end
structure It where
 go:Nat->Hp->Prop
 yld:Nat->Hp->V->Hp->Prop
 stop:Nat->Hp->Prop
def zmS (X:Cx) (pins:List (Addr × Obj)) (H:Hp) (b:Addr):Prop :=
 H b=none/\b ≠ X.env.locals/\b ∉ X.fs/\(b ∈ X.ex\/X.s₀.heap.objs.size<=b)/\(∀ x c,X.env.cells.lookup x=some c->c ≠ b)/\∀ p ∈ X.pn ++ pins,p.1 ≠ b
theorem Inv.zse {X:Cx} {pins:List (Addr × Obj)} {σ:St} {H H':Hp} {s:Shared} {b:Addr} (I:Inv X pins σ H s) (hb:s.heap.objs.size<=b) (hn:H' b=none):zmS X pins H' b:=by
 refine ⟨hn,Nat.ne_of_gt (Nat.lt_of_lt_of_le I.lt hb),I.zyX hb,.inr (Nat.le_trans I.sz hb),fun x c e z=>?_,fun p hp z=>?_⟩
 ·obtain ⟨v,q⟩:=I.cell x c e
  exact absurd (Nat.lt_of_lt_of_le q.lt (by rw [z];exact hb)) (Nat.lt_irrefl _)
 ·exact absurd (Nat.lt_of_lt_of_le (Heap.lt_size (I.pin p hp).1) (by rw [z];exact hb)) (Nat.lt_irrefl _)
structure Turn (P:Program) (w:World) (K:PySem.W.Frag) (tg:Expr) (J:It) (fp:List Addr) (it:Addr) (tn:Nat->Heap->Prop):Prop where
 mem:it ∈ fp
 obj:∀ i h,tn i h->∀ b ∈ fp,∃ o,h.get? b=some o/\∀ v,o.data ≠ .cell v
 keep:∀ i h h',tn i h->(∀ b ∈ fp,∀ o,h.get? b=some o->h'.get? b=some o)->tn i h'
 item:∀ (X:Cx),X.prog=P->X.w=w->X.K=K->X.calm=true->∀ (i:Nat) (pins:List (Addr × Obj)) (s:Shared) (σ:St) (H:Hp) (E:Value->Shared->Prop),Inv X pins σ H s->(∀ b ∈ fp,zmS X pins H b)->tn i s.heap->J.go i H ->
  wpAny (model P w) X.A (pyNext (.ref it)) (fun r s1=>∃ u,r=some u /\
   wpAny (model P w) X.A (letOwnedTupleGo tg (.ref it) u) (fun _ s2=>∃ x H',Inv X pins σ H' s2/\RelV x u/\J.yld i H x H'/\tn (i + 1) s2.heap/\∀ b ∈ fp,H' b=none) E s1) E s
 done:∀ (X:Cx),X.prog=P->X.w=w->X.K=K->X.calm=true->∀ (i:Nat) (pins:List (Addr × Obj)) (s:Shared) (σ:St) (H:Hp) (E:Value->Shared->Prop),Inv X pins σ H s->(∀ b ∈ fp,zmS X pins H b)->tn i s.heap->J.stop i H ->
  wpAny (model P w) X.A (pyNext (.ref it)) (fun r s1=>r=none/\Inv X pins σ H s1) E s
 self:∀ (A:Around) (i:Nat) (s:Shared) (Q:Value->Shared->Prop) (E:Value->Shared->Prop),tn i s.heap->Q (.ref it) s->wpAny (model P w) A (pyIter (.ref it)) Q E s
abbrev TI:=St->Hp->(It->Hp->Prop)->Prop
def PIE (X:Cx) (pins:List (Addr × Obj)) (σ:St) (tg:Expr) (R:It->Hp->Prop) (itv:Value) (s2:Shared):Prop :=
 ∃ (it:Addr) (fp:List Addr) (tn:Nat->Heap->Prop) (J:It) (H':Hp),itv=.ref it/\Inv X pins σ H' s2/\Turn X.prog X.w X.K tg J fp it tn/\tn 0 s2.heap/\(∀ b ∈ fp,zmS X pins H' b)/\R J H'
def PI (X:Cx) (tg iter:Expr) (wi:TI):Prop :=
 ∀ (pins:List (Addr × Obj)) (s:Shared) (σ:St) (H:Hp) (R:It->Hp->Prop),Inv X pins σ H s->wi σ H R ->
  wpAny (model X.prog X.w) X.A (eval iter X.env) (fun v s1=>wpAny (model X.prog X.w) X.A (pyIter v) (PIE X pins σ tg R) X.xe s1) X.xe s
theorem zqd {M:Model} {A:Around} {E:Value->Shared->Prop} {s:Shared} {tg:Expr} {it:Addr} {u:Value} {o:Obj} {n:String} {vs:Array Value} {Q:Unit->Shared->Prop} (ho:s.heap.get? it=some o) (hc:o.cls=.type n) (hd:o.data=.fields vs)
    (hn:["enumerate", "zip", "dict_itemiterator", "dict_reverseitemiterator", "odict_iterator", "itertools.zip_longest", "itertools.pairwise"].contains n=false) (hQ:Q () s):wpAny M A (letOwnedTupleGo tg (.ref it) u) Q E s:=by
  unfold letOwnedTupleGo
  cases tg <;> first
    | exact wpAny_pure hQ
    | (cases u <;> first
        | exact wpAny_pure hQ
        | (refine wpAny_bind (wpAny_load ho ?_)
           rw [hc, hd]
           show wpAny M A (if (["enumerate", "zip", "dict_itemiterator", "dict_reverseitemiterator", "odict_iterator", "itertools.zip_longest", "itertools.pairwise"].contains n && vs[0]? == some (rawInt _))=true then _ else _) Q E s
           rw [if_neg (by intro h;rw [hn, Bool.false_and] at h;cases h)]
           exact wpAny_pure hQ))
def Itl (K:PySem.W.Frag) (a:Addr):It :=
 ⟨fun i H=>∃ xs x,SqL K H a xs/\xs[i]?=some x,fun i H x H'=>H'=H/\∀ xs,SqL K H a xs->xs[i]?=some x,fun i H=>∃ xs,SqL K H a xs/\xs.length<=i⟩
def Itt (K:PySem.W.Frag) (a:Addr):It :=
 ⟨fun i H=>∃ xs x,SqT K H a xs/\xs[i]?=some x,fun i H x H'=>H'=H/\∀ xs,SqT K H a xs->xs[i]?=some x,fun i H=>∃ xs,SqT K H a xs/\xs.length<=i⟩
def Itr (lo:Int) (n:Nat):It:=⟨fun i _=>i < n,fun i H x H'=>H'=H/\x=.int (lo + i),fun i _=>n<=i⟩
theorem zoS {P:Program} {w:World} {K:PySem.W.Frag} {tg:Expr} (a it:Addr):Turn P w K tg (Itl K a) [it] it (fun i h=>h.IsListIter it a i) where
 mem:=by simp
 obj:=fun i h st b hb=>by
  have e:b=it:=by simpa using hb
  subst e
  obtain ⟨o,e,c,d⟩:=st
  exact ⟨o,e,fun v z=>by rw [d] at z;cases z⟩
 keep:=fun i h h' st k=>st.at fun o e=>k it (by simp) o e
 item:=by
  intro X hP hw hK hc i pins s σ H E I hf st hg
  subst hP hw hK
  obtain ⟨xs,x,hq,hx⟩:=hg
  obtain ⟨its,rv,p,hz⟩:=I.list hq
  obtain ⟨u,hu,ru⟩:=rv.get hx
  obtain ⟨f0,f1,f2,f3,f4,f5⟩:=hf it (by simp)
  refine wpAny_pyNext_list_item st p.isList (x:=u) (by simpa using hu) fun h' st' sb=>?_
  have I1:Inv X pins σ H { s with heap:=h' }:=I.turned (t':=s.toks) (fun b o hb e=>(sb.2 b hb).trans e) f0 f1 f3 f4 f5
  obtain ⟨o,e,c,d⟩:=id st'
  exact ⟨u,rfl,zqd (s:={ s with heap:=h' }) e c d (by decide) ⟨x,H,I1,ru,⟨rfl,fun ys hy=>by rw [I.zhh hy hq];exact hx⟩,st',fun b hb=>(hf b hb).1⟩⟩
 done:=by
  intro X hP hw hK hc i pins s σ H E I hf st hg
  subst hP hw hK
  obtain ⟨xs,hq,hx⟩:=hg
  obtain ⟨its,rv,p,hz⟩:=I.list hq
  obtain ⟨f0,f1,f2,f3,f4,f5⟩:=hf it (by simp)
  have hl:=rv.length
  exact wpAny_pyNext_list_end (I.ok.hd hc) st p.isList (by simp;omega) fun h' eb=>⟨rfl,I.turned (t':=s.toks) (fun b o hb e=>eb b o hb e) f0 f1 f3 f4 f5⟩
 self:=fun _ _ _ _ _ st h=>wpAny_pyIter_listiter st h
theorem znS {P:Program} {w:World} {K:PySem.W.Frag} {tg:Expr} (a it:Addr):Turn P w K tg (Itt K a) [it] it (fun i h=>h.IsTupleIter it a i) where
 mem:=by simp
 obj:=fun i h st b hb=>by
  have e:b=it:=by simpa using hb
  subst e
  obtain ⟨o,e,c,d⟩:=st
  exact ⟨o,e,fun v z=>by rw [d] at z;cases z⟩
 keep:=fun i h h' st k=>st.at fun o e=>k it (by simp) o e
 item:=by
  intro X hP hw hK hc i pins s σ H E I hf st hg
  subst hP hw hK
  obtain ⟨xs,x,hq,hx⟩:=hg
  obtain ⟨its,rv,p,hz⟩:=I.tuple hq
  obtain ⟨u,hu,ru⟩:=rv.get hx
  obtain ⟨f0,f1,f2,f3,f4,f5⟩:=hf it (by simp)
  refine wpAny_pyNext_tuple_item st (show s.heap.IsTuple a its.toArray from p) (x:=u) (by simpa using hu) fun h' st' sb=>?_
  have I1:Inv X pins σ H { s with heap:=h' }:=I.turned (t':=s.toks) (fun b o hb e=>(sb.2 b hb).trans e) f0 f1 f3 f4 f5
  obtain ⟨o,e,c,d⟩:=id st'
  exact ⟨u,rfl,zqd (s:={ s with heap:=h' }) e c d (by decide) ⟨x,H,I1,ru,⟨rfl,fun ys hy=>by rw [I.zoV hy hq];exact hx⟩,st',fun b hb=>(hf b hb).1⟩⟩
 done:=by
  intro X hP hw hK hc i pins s σ H E I hf st hg
  subst hP hw hK
  obtain ⟨xs,hq,hx⟩:=hg
  obtain ⟨its,rv,p,hz⟩:=I.tuple hq
  obtain ⟨f0,f1,f2,f3,f4,f5⟩:=hf it (by simp)
  have hl:=rv.length
  exact wpAny_pyNext_tuple_end (I.ok.hd hc) st (show s.heap.IsTuple a its.toArray from p) (by simp;omega) fun h' eb=>⟨rfl,I.turned (t':=s.toks) (fun b o hb e=>eb b o hb e) f0 f1 f3 f4 f5⟩
 self:=fun _ _ _ _ _ st h=>wpAny_pyIter_tupleiter st h
theorem znT {P:Program} {w:World} {K:PySem.W.Frag} {tg:Expr} (it:Addr) (lo:Int) (n:Nat):Turn P w K tg (Itr lo n) [it] it (fun i h=>IsRangeIter h it (lo + (i:Nat) * 1) ((n:Int) - (i:Nat)) 1) where
 mem:=by simp
 obj:=fun i h st b hb=>by
  have e:b=it:=by simpa using hb
  subst e
  exact ⟨_,st,fun v z=>by
   have z':Data.fields _=Data.cell v:=z
   cases z'⟩
 keep:=fun i h h' st k=>k it (by simp) _ st
 item:=by
  intro X hP hw hK hc i pins s σ H E I hf st hg
  subst hP hw hK
  obtain ⟨f0,f1,f2,f3,f4,f5⟩:=hf it (by simp)
  have W:=Walks.range (prog:=X.prog) (w:=X.w) (I.ok.hd hc) it lo 1 n
  refine W.item i s _ _ hg st fun v h' tk hv st' kk=>?_
  obtain ⟨t,rfl⟩:=hv
  have I1:Inv X pins σ H { s with heap:=h',toks:=tk }:=I.turned (fun b o hb e=>kk b o (by simpa using hb) e) f0 f1 f3 f4 f5
  refine ⟨_,rfl,zqd (s:={ s with heap:=h',toks:=tk }) (n:="range_iterator") st' rfl rfl (by decide) ⟨.int (lo + i),H,I1,⟨t,?_⟩,⟨rfl,rfl⟩,st',fun b hb=>(hf b hb).1⟩⟩
  rw [Int.mul_one]
 done:=by
  intro X hP hw hK hc i pins s σ H E I hf st hg
  subst hP hw hK
  obtain ⟨f0,f1,f2,f3,f4,f5⟩:=hf it (by simp)
  exact wpAny_pyNext_range_end (I.ok.hd hc) st (by have:n<=i:=hg;omega) fun h' eb=>⟨rfl,I.turned (t':=s.toks) (fun b o hb e=>eb b o hb e) f0 f1 f3 f4 f5⟩
 self:=fun _ _ _ _ _ st h=>wpAny_pyIter_rangeiter st h
end L2
namespace L2
open PySem PySem.Spec PyProof.Rows
section
variable {X:Cx} {tg:Expr}
theorem zrl {pins:List (Addr × Obj)} {σ:St} {H:Hp} {s:Shared} {R:It->Hp->Prop} {E:Value->Shared->Prop} {lo hi:Int} {t u v:Tok} {tk:Nat} (I:Inv X pins σ H s) (h1:-(2 ^ 62)<=lo) (h2:lo < 2 ^ 62) (h3:-(2 ^ 62)<=hi) (h4:hi < 2 ^ 62)
  (q:R (Itr lo (hi - lo).toNat) H):wpAny (model X.prog X.w) X.A (pyIter (.ref s.heap.objs.size)) (PIE X pins σ tg R) E { s with heap:=s.heap.push { cls:=.type "range",data:=.fields #[.int lo t,.int hi u,.int 1 v] },toks:=tk }:=by
 refine wpAny_pyIter_range (IsRange.new ..) (small_one h1 h2 h3 h4) ?_
 have I1:Inv X pins σ H { s with heap:=s.heap.push { cls:=.type "range",data:=.fields #[.int lo t,.int hi u,.int 1 v] },toks:=tk }:=I.kept fun b o e=>Heap.get?_push_of_some _ e
 refine ⟨(s.heap.push { cls:=.type "range",data:=.fields #[.int lo t,.int hi u,.int 1 v] }).objs.size,[(s.heap.push { cls:=.type "range",data:=.fields #[.int lo t,.int hi u,.int 1 v] }).objs.size],_,_,H,rfl,
  I1.kept (t':=tk) fun b o e=>Heap.get?_push_of_some _ e,znT _ lo (hi - lo).toNat,?_,fun b hb=>?_,q⟩
 ·have e1:lo + ((0:Nat):Int) * 1=lo:=by simp
  have e2:(((hi - lo).toNat:Nat):Int) - ((0:Nat):Int)=Builtin.Range.rangeSize lo hi 1:=by rw [rangeSize_one];split <;> omega
  show IsRangeIter _ _ (lo + ((0:Nat):Int) * 1) ((((hi - lo).toNat:Nat):Int) - ((0:Nat):Int)) 1
  rw [e1,e2]
  exact Heap.get?_push_size _ rfl
 ·have e:b=(s.heap.push { cls:=.type "range",data:=.fields #[.int lo t,.int hi u,.int 1 v] }).objs.size:=by simpa using hb
  subst e
  exact I1.zse (Nat.le_refl _) (I1.hok.fresh (Nat.le_refl _))
def zxQ (ta:TA):TI:=fun σ H R=>ta σ H fun vs H1=>∃ j:Int,vs=[.int j]/\-(2 ^ 62)<=j/\j < 2 ^ 62/\R (Itr 0 j.toNat) H1
theorem zps {a:Expr} {ta:TA} {p pos:Pos} (hg:Gl X "range") (hm:X.mg "range"=none) (ha:PA X [a] ta) (hs:starEach [a] X.env=[(false,eval a X.env)]:=by rfl):PI X tg (.Call (.Name "range" p) [a] [] pos) (zxQ ta):=by
 intro pins s σ H R I h
 refine Call_ (zjk I hg hm boot_range (PyProof.Rows.callWith_type1 (thn (ha pos pins s σ H _ I h) fun us s1 ⟨vs,H1,I1,r1,q1⟩=>?_) hs rfl))
 obtain ⟨j,e,q1,q2,q⟩:=q1
 subst e
 cases r1 with
 | cons r rr =>
  cases rr
  obtain ⟨t,rfl⟩:=r
  exact call_range_1 (zrl I1 (by omega) (by omega) q1 q2 (by simpa using q))
def zyD (wi:TI) (g:TG) (tb:TS):TS:=fun D σ H=>wi σ H fun J H1=>∃ W:Nat->Nat->St->Hp->Prop,(∃ m,W 0 m σ H1)/\∀ i m σ H,W i m σ H ->
 (J.stop i H/\D.nx σ H)\/(J.go i H/\∃ N:St->Hp->Prop,(∀ σ' H',N σ' H'->∃ m',m' < m/\W (i + 1) m' σ' H')/\∀ x H',J.yld i H x H'->g x σ H' fun σ2 H2=>tb { D with nx:=N,ct:=N,bk:=D.nx } σ2 H2)
def zhN (fp:List Addr) (h:Heap):List (Addr × Obj):=fp.filterMap fun b=>(h.get? b).map fun o=>(b,o)
theorem zbH {fp:List Addr} {h:Heap} {b:Addr} {o:Obj} (hb:b ∈ fp) (e:h.get? b=some o):(b,o) ∈ zhN fp h:=List.mem_filterMap.mpr ⟨b,hb,by rw [e];rfl⟩
theorem zpx {fp:List Addr} {h:Heap} {p:Addr × Obj} (hp:p ∈ zhN fp h):p.1 ∈ fp/\h.get? p.1=some p.2:=by
 obtain ⟨b,hb,e⟩:=List.mem_filterMap.mp hp
 cases q:h.get? b with
 | none=>rw [q] at e;cases e
 | some o =>
  rw [q] at e
  have e':(b,o)=p:=Option.some.inj e
  subst e'
  exact ⟨hb,q⟩
theorem Inv.pinned {pins:List (Addr × Obj)} {σ:St} {H:Hp} {s:Shared} {fp:List Addr} (I:Inv X pins σ H s) (hf:∀ b ∈ fp,zmS X pins H b) (ho:∀ b ∈ fp,∃ o,s.heap.get? b=some o/\∀ v,o.data ≠ .cell v):Inv X (pins ++ zhN fp s.heap) σ H s :=
 I.zpr fun p hp=>(List.mem_append.mp hp).elim (fun z=>I.pin p (List.mem_append_right _ z)) fun z=>by
  obtain ⟨hb,e⟩:=zpx z
  obtain ⟨f0,f1,f2,_⟩:=hf p.1 hb
  obtain ⟨o,e',d⟩:=ho p.1 hb
  rw [e] at e';cases e'
  exact ⟨e,f0,f1,f2,d⟩
theorem Inv.zeB {pins pl:List (Addr × Obj)} {σ:St} {H:Hp} {s:Shared} (I:Inv X (pins ++ pl) σ H s):Inv X pins σ H s:=I.zpr fun p hp=>I.pin p (List.mem_append_right _ (List.mem_append_left _ hp))
theorem zvK {iter:Expr} {body:List Stmt} {wi:TI} {g:TG} {tb:TS} {pos:Pos} (hp:PassesOwn (model X.prog X.w) X.A X.env X.xe) (hc:X.calm=true) (hi:PI X tg iter wi) (hg:PG X tg g) (hb:PSs X body tb)
  (hs:∀ x,foldedSetIterable iter X.env x=pure x:=by intro _;rfl):PS X (.For tg iter body [] pos) (zyD wi g tb):=by
 intro pins s σ H D I h
 refine wpAny_For (thn (hi pins s σ H _ I h) fun v s1 h1=>thn h1 fun itv s2 h2=>?_) hs
 obtain ⟨it,fp,tn,J,H2,e,I2,T,st2,f2,W,⟨m0,w0⟩,turn⟩:=h2
 subst e
 have stat:∀ {H':Hp},(∀ b ∈ fp,H' b=none)->∀ b ∈ fp,zmS X pins H' b:=fun hn b hb=>⟨hn b hb,(f2 b hb).2⟩
 refine codeAny_forLoop_any (fun n s'=>∃ i σ' H',Inv X pins σ' H' s'/\tn i s'.heap/\(∀ b ∈ fp,H' b=none)/\W i n σ' H') ?_ m0 ⟨0,σ,H2,I2,st2,fun b hb=>(f2 b hb).1,w0⟩
 rintro n s3 ⟨i,σ3,H3,I3,st3,fr3,w3⟩
 rcases turn i n σ3 H3 w3 with ⟨stop,qn⟩ | ⟨go,N,hN,step⟩
 ·refine wpAny_passesOwn hp (thn (T.done X rfl rfl rfl hc i pins s3 σ3 H3 X.xe I3 (stat fr3) st3 stop) fun r s4 ⟨hr,I4⟩=>?_)
  subst hr
  exact wpAny_execs_nil ⟨σ3,H3,I4,qn⟩
 ·refine wpAny_passesOwn hp (thn (T.item X rfl rfl rfl hc i pins s3 σ3 H3 X.xe I3 (stat fr3) st3 go) fun r s4 ⟨u,hr,h4⟩=>?_)
  subst hr
  refine wpAny_passesOwn hp (thn h4 fun _ s5 ⟨x,H5,I5,r5,y5,st5,fr5⟩=>?_)
  have I5':=I5.pinned (stat fr5) (T.obj _ _ st5)
  refine wpAny_passesOwn hp (thn (hg _ s5 σ3 H5 x u _ I5' r5 (step x H5 y5)) fun _ s6 ⟨σ6,H6,I6,q6⟩=>?_)
  refine wpAny_passesOwn hp (thn (hb _ s6 σ6 H6 _ I6 q6) fun f s7 q7=>?_)
  have again:∀ {σ7:St} {H7:Hp},Inv X (pins ++ zhN fp s5.heap) σ7 H7 s7->N σ7 H7->∃ m,m < n/\∃ i σ' H',Inv X pins σ' H' s7/\tn i s7.heap/\(∀ b ∈ fp,H' b=none)/\W i m σ' H':=fun {σ7 H7} I7 n7=>by
   obtain ⟨m',hm,w7⟩:=hN σ7 H7 n7
   refine ⟨m',hm,i + 1,σ7,H7,I7.zeB,T.keep _ _ _ st5 fun b hb o e=>(I7.pin (b,o) (List.mem_append_right _ (List.mem_append_right _ (zbH hb e)))).1,fun b hb=>?_,w7⟩
   obtain ⟨o,e,d⟩:=T.obj _ _ st5 b hb
   exact (I7.pin (b,o) (List.mem_append_right _ (List.mem_append_right _ (zbH hb e)))).2.1
  cases f with
  | next=>obtain ⟨σ7,H7,I7,n7⟩:=q7;exact again I7 n7
  | cont=>obtain ⟨σ7,H7,I7,n7⟩:=q7;exact again I7 n7
  | brk=>obtain ⟨σ7,H7,I7,q7⟩:=q7;exact ⟨σ7,H7,I7.zeB,q7⟩
  | ret v=>obtain ⟨x7,σ7,H7,I7,r7,q7⟩:=q7;exact ⟨x7,σ7,H7,I7.zeB,r7,q7⟩
end
end L2
namespace L2
open PySem PySem.Spec PyProof.Rows
abbrev R2:=V->V->Hp->VK->Prop
def OpR (X:Cx) (f:Value->Value->Sem Value) (r:R2):Prop :=
 ∀ (pins:List (Addr × Obj)) (s:Shared) (σ:St) (H:Hp) (x y:V) (v u:Value) (Q:VK),Inv X pins σ H s->RelV x v->RelV y u->r x y H Q ->
  wpAny (model X.prog X.w) X.A (f v u) (EP X pins σ Q) X.xe s
def UnR (X:Cx) (f:Value->Sem Value) (r:V->Hp->VK->Prop):Prop :=
 ∀ (pins:List (Addr × Obj)) (s:Shared) (σ:St) (H:Hp) (x:V) (v:Value) (Q:VK),Inv X pins σ H s->RelV x v->r x H Q ->
  wpAny (model X.prog X.w) X.A (f v) (EP X pins σ Q) X.xe s
def zgG (X:Cx) (f:Value) (r:List V->Hp->VK->Prop):Prop :=
 ∀ (pins:List (Addr × Obj)) (s:Shared) (σ:St) (H:Hp) (xs:List V) (us:List Value) (Q:VK),Inv X pins σ H s->Vals xs us->r xs H Q ->
  wpAny (model X.prog X.w) X.A (call f us) (EP X pins σ Q) X.xe s
def zx7 (X:Cx) (r:V->Hp->(Bool->Hp->Prop)->Prop):Prop :=
 ∀ (pins:List (Addr × Obj)) (s:Shared) (σ:St) (H:Hp) (x:V) (v:Value) (Q:Bool->Hp->Prop),Inv X pins σ H s->RelV x v->r x H Q ->
  wpAny (model X.prog X.w) X.A (truthy v) (TP X pins σ Q) X.xe s
def tOp (r:R2) (ta tb:TE):TE:=fun σ H Q=>ta σ H fun x H1=>tb σ H1 fun y H2=>r x y H2 Q
def tUn (r:V->Hp->VK->Prop) (ta:TE):TE:=fun σ H Q=>ta σ H fun x H1=>r x H1 Q
def rI (C:Int->Int->Prop) (g:Int->Int->V):R2:=fun x y H Q=>∃ i j,x=.int i/\y=.int j/\C i j/\Q (g i j) H
def rI0 (g:Int->Int->V):R2:=fun x y H Q=>∃ i j,x=.int i/\y=.int j/\Q (g i j) H
def rU (g:Int->V):V->Hp->VK->Prop:=fun x H Q=>∃ i,x=.int i/\Q (g i) H
section
variable {X:Cx} {a b c:Expr} {ta tb tc:TE} {pos:Pos}
theorem zx3 (ha:PE X a ta) (hb:PE X b tb) {pins:List (Addr × Obj)} {s:Shared} {σ:St} {H:Hp} {R:V->V->Hp->Prop} (I:Inv X pins σ H s)
  (h:ta σ H fun x H1=>tb σ H1 fun y H2=>R x y H2) {Q:Value->Shared->Prop} {f:Value->Value->Sem Value}
  (hf:∀ v u s2 x y H2,Inv X pins σ H2 s2->RelV x v->RelV y u->R x y H2->wpAny (model X.prog X.w) X.A (f v u) Q X.xe s2) :
  wpAny (model X.prog X.w) X.A (eval a X.env) (fun v s₁=>wpAny (model X.prog X.w) X.A (eval b X.env) (fun u s₂=>wpAny (model X.prog X.w) X.A (f v u) Q X.xe s₂) X.xe s₁) X.xe s:=by
 refine thn (ha pins s σ H _ I h) fun v s1 ⟨x,H1,I1,r1,q1⟩=>?_
 refine thn (hb pins s1 σ H1 _ I1 q1) fun u s2 ⟨y,H2,I2,r2,q2⟩=>?_
 exact hf v u s2 x y H2 I2 r1 r2 q2
theorem zt6 {op:Operator} {r:R2} (ho:OpR X (binaryOp op) r) (ha:PE X a ta) (hb:PE X b tb):PE X (.BinOp a op b pos) (tOp r ta tb):=by
 intro pins s σ H Q I h
 exact wpAny_BinOp (zx3 ha hb I h fun v u s2 x y H2 I2 rx ry q=>ho pins s2 σ H2 x y v u Q I2 rx ry q)
theorem zxy {op:UnaryOp} {r:V->Hp->VK->Prop} (ho:UnR X (unaryOp op) r) (ha:PE X a ta):PE X (.UnaryOp op a pos) (tUn r ta):=by
 intro pins s σ H Q I h
 exact UnaryOp_ (thn (ha pins s σ H _ I h) fun v s1 ⟨x,H1,I1,r1,q1⟩=>ho pins s1 σ H1 x v Q I1 r1 q1)
theorem opI {f:Value->Value->Sem Value} {C:Int->Int->Prop} {g:Int->Int->Int}
  (rule:∀ (i j:Int) (t u:Tok) (s:Shared) (Q:Value->Shared->Prop) (E:Value->Shared->Prop),C i j->Q (.int (g i j) s.toks) { s with toks:=s.toks + 1 }->wpAny (model X.prog X.w) X.A (f (.int i t) (.int j u)) Q E s) :
  OpR X f (rI C fun i j=>.int (g i j)):=by
 intro pins s σ H x y v u Q I rx ry h
 obtain ⟨i,j,rfl,rfl,hc,q⟩:=h
 obtain ⟨t,rfl⟩:=rx
 obtain ⟨t',rfl⟩:=ry
 exact rule i j t t' s _ _ hc ⟨.int (g i j),H,I.tok _,⟨_,rfl⟩,q⟩
theorem zyg {f:Value->Value->Sem Value} {g:Int->Int->Int}
  (rule:∀ (i j:Int) (t u:Tok) (s:Shared) (Q:Value->Shared->Prop) (E:Value->Shared->Prop),Q (.int (g i j) s.toks) { s with toks:=s.toks + 1 }->wpAny (model X.prog X.w) X.A (f (.int i t) (.int j u)) Q E s) :
  OpR X f (rI0 fun i j=>.int (g i j)):=by
 intro pins s σ H x y v u Q I rx ry h
 obtain ⟨i,j,rfl,rfl,q⟩:=h
 obtain ⟨t,rfl⟩:=rx
 obtain ⟨t',rfl⟩:=ry
 exact rule i j t t' s _ _ ⟨.int (g i j),H,I.tok _,⟨_,rfl⟩,q⟩
theorem zw6 {f:Value->Value->Sem Value} {g:Int->Int->Bool}
  (rule:∀ (i j:Int) (t u:Tok) (s:Shared) (Q:Value->Shared->Prop) (E:Value->Shared->Prop),Q (.bool (g i j)) s->wpAny (model X.prog X.w) X.A (f (.int i t) (.int j u)) Q E s) :
  OpR X f (rI0 fun i j=>.bl (g i j)):=by
 intro pins s σ H x y v u Q I rx ry h
 obtain ⟨i,j,rfl,rfl,q⟩:=h
 obtain ⟨t,rfl⟩:=rx
 obtain ⟨t',rfl⟩:=ry
 exact rule i j t t' s _ _ ⟨.bl (g i j),H,I,rfl,q⟩
def zyv (i j:Int):Prop:=0<=j/\j<=1000000/\i.natAbs < 2 ^ 64
theorem zv6:OpR X (binaryOp .Add) (rI0 fun i j=>.int (i + j)):=zyg fun _ _ _ _ _ _ _ q=>add_int q
theorem zv1:OpR X (binaryOp .Sub) (rI0 fun i j=>.int (i - j)):=zyg fun _ _ _ _ _ _ _ q=>sub_int q
theorem zug:OpR X (binaryOp .Mod) (rI (fun _ j=>j ≠ 0) fun i j=>.int (i.fmod j)):=opI fun _ _ _ _ _ _ _ hc q=>mod_int' hc q
theorem zv3:OpR X (binaryOp .Pow) (rI zyv fun i j=>.int (i ^ j.toNat)):=opI fun _ _ _ _ _ _ _ hc q=>pow_int_small hc.1 hc.2.1 hc.2.2 q
theorem unI {f:Value->Sem Value} {g:Int->Int}
  (rule:∀ (i:Int) (t:Tok) (s:Shared) (Q:Value->Shared->Prop) (E:Value->Shared->Prop),Q (.int (g i) s.toks) { s with toks:=s.toks + 1 }->wpAny (model X.prog X.w) X.A (f (.int i t)) Q E s) :
  UnR X f (rU fun i=>.int (g i)):=by
 intro pins s σ H x v Q I rx h
 obtain ⟨i,rfl,q⟩:=h
 obtain ⟨t,rfl⟩:=rx
 exact rule i t s _ _ ⟨.int (g i),H,I.tok _,⟨_,rfl⟩,q⟩
theorem zve:UnR X (unaryOp .USub) (rU fun i=>.int (-i)):=unI fun _ _ _ _ _ q=>neg_int q
end
section
variable {X:Cx} {a b c:Expr} {ta tb tc:TE} {pos:Pos}
theorem zwI {pins:List (Addr × Obj)} {σ:St} {H:Hp} {s:Shared} {Q:VK} {k k':Bool} (I:Inv X pins σ H s) (q:Q (.bl k) H) (e:k=k'):EP X pins σ Q (.bool k') s:=by
 subst e
 exact ⟨.bl k,H,I,rfl,q⟩
theorem zxD:OpR X (compareOp .Lt) (rI0 fun i j=>.bl (decide (i < j))):=zw6 fun _ _ _ _ _ _ _ q=>lt_int q
theorem zxE:OpR X (compareOp .LtE) (rI0 fun i j=>.bl (decide (i<=j))):=zw6 fun _ _ _ _ _ _ _ q=>le_int q
theorem zxF:OpR X (compareOp .Gt) (rI0 fun i j=>.bl (decide (j < i))):=zw6 fun _ _ _ _ _ _ _ q=>gt_int q
theorem zxG:OpR X (compareOp .GtE) (rI0 fun i j=>.bl (decide (j<=i))):=zw6 fun _ _ _ _ _ _ _ q=>ge_int q
theorem zud:OpR X (compareOp .IsNot) (fun x y H Q=>y=.non/\Q (.bl (!decide (x=.non))) H):=by
 intro pins s σ H x y v u Q I rx ry h
 obtain ⟨rfl,q⟩:=h
 cases ry
 refine isnot_none_gen (zwI I q ?_)
 cases x <;> first
  | (cases rx;rfl)
  | (obtain ⟨t,rfl⟩:=rx;rfl)
theorem zs0 (b:Expr) {op:CmpOp} (h:op ≠ .In:=by decide) (h2:op ≠ .NotIn:=by decide):behindInMarks op b=false:=by
 have e1:(op == CmpOp.In)=false:=by cases op <;> first | rfl | exact absurd rfl h
 have e2:(op == CmpOp.NotIn)=false:=by cases op <;> first | rfl | exact absurd rfl h2
 cases b <;> simp [behindInMarks,e1,e2]
theorem zt8 {op:CmpOp} {r:R2} (ho:OpR X (compareOp op) r) (ha:PE X a ta) (hb:PE X b tb) (hm:behindInMarks op b=false):PE X (.Compare a [op] [b] pos) (tOp r ta tb):=by
 intro pins s σ H Q I h
 exact wpAny_Compare1 (zx3 ha hb I h fun v u s2 x y H2 I2 rx ry q=>ho pins s2 σ H2 x y v u Q I2 rx ry q) hm
def zxh (t:TE):TT:=fun σ H Q=>t σ H fun x H'=>∃ k,x=.bl k/\Q k H'
theorem ztT {op:CmpOp} {r:R2} (ho:OpR X (compareOp op) r) (ha:PE X a ta) (hb:PE X b tb) (hm:behindInMarks op b=false):PT X (.Compare a [op] [b] pos) (zxh (tOp r ta tb)):=by
 intro pins s σ H Q I h
 refine wpAny_isTrue_Compare1 (thn (ha pins s σ H _ I h) fun v s1 ⟨x,H1,I1,r1,q1⟩=>thn (hb pins s1 σ H1 _ I1 q1) fun u s2 ⟨y,H2,I2,r2,q2⟩ =>
  thn (ho pins s2 σ H2 x y v u _ I2 r1 r2 q2) fun c s3 ⟨z,H3,I3,r3,k,e,q3⟩=>?_) hm
 subst e
 cases r3
 exact wpAny_truthy_bool ⟨H3,I3,q3⟩
def zza (K:PySem.W.Frag) (x:V) (H:Hp) (k:Bool):Prop :=
 match x with
 | .non=>k=false
 | .bl b=>k=b
 | .int i=>k=(i != 0)
 | .str y=>y.length<=sizeLine/\k=((y.length:Int) != 0)
 | .byt y=>y.size<=sizeLine/\k=((y.size:Int) != 0)
 | .ref p=>(∃ xs,SqL K H p xs/\k=!xs.isEmpty)\/(∃ xs,SqT K H p xs/\k=!xs.isEmpty)\/∃ kvs,H p=some (.dK kvs)/\k=!kvs.isEmpty
 | _=>False
theorem zop {κ:Type} {kvs:List (κ × V)} {vs:List (κ × Value)} (r:KV kvs vs):(!vs.isEmpty)=!kvs.isEmpty:=by
 cases r <;> rfl
theorem zjn {xs:List V} {its:List Value} (r:Vals xs its):(!its.toArray.isEmpty)=!xs.isEmpty:=by
 cases r <;> simp
theorem zk3:(sizeLine:Nat) < 2 ^ 63:=by rw [sizeLine_eq];decide
theorem zvg:zx7 X (fun x H Q=>∃ k,zza X.K x H k/\Q k H):=by
 intro pins s σ H x v Q I rx h
 obtain ⟨k,e,q⟩:=h
 have hl:=zk3
 have hs:sizeLine=16777216:=sizeLine_eq
 cases x with
 | non =>
  cases rx
  have e':k=false:=e
  subst e'
  exact truthy_none ⟨H,I,q⟩
 | bl b =>
  cases rx
  have e':k=b:=e
  subst e'
  exact wpAny_truthy_bool ⟨H,I,q⟩
 | int i =>
  obtain ⟨t,rfl⟩:=rx
  have e':k=(i != 0):=e
  subst e'
  exact PySem.P.truthy_int ⟨H,I,q⟩
 | str y =>
  obtain ⟨t,rfl⟩:=rx
  obtain ⟨hy,e'⟩:y.length<=sizeLine/\k=((y.length:Int) != 0):=e
  subst e'
  exact PySem.P.truthy_str (by omega) ⟨H,I.tok _,q⟩
 | byt y =>
  obtain ⟨t,rfl⟩:=rx
  obtain ⟨hy,e'⟩:y.size<=sizeLine/\k=((y.size:Int) != 0):=e
  subst e'
  exact PySem.W.truthy_bytes (by omega) ⟨H,I.tok _,q⟩
 | ref p =>
  cases rx
  have e':(∃ xs,SqL X.K H p xs/\k=!xs.isEmpty)\/(∃ xs,SqT X.K H p xs/\k=!xs.isEmpty)\/∃ kvs,H p=some (.dK kvs)/\k=!kvs.isEmpty:=e
  rcases e' with ⟨xs,hx,e'⟩ | ⟨xs,hx,e'⟩ | ⟨kvs,hx,e'⟩
  ·subst e'
   obtain ⟨its,r,pl,hz⟩:=I.list hx
   have hlen:=r.length
   exact wpAny_truthy_list pl.isList (by simp only [List.size_toArray];omega) ⟨H,I.tok _,by rw [zjn r];exact q⟩
  ·subst e'
   obtain ⟨its,r,pl,hz⟩:=I.tuple hx
   have hlen:=r.length
   exact truthy_tuple pl (by simp only [List.size_toArray];omega) ⟨H,I.tok _,by rw [zjn r];exact q⟩
  ·subst e'
   obtain ⟨hz,hS,vs,r,m⟩:kvs.length<=sizeLine/\(p == sysModules)=false/\∃ vs,KV kvs vs/\s.heap.DictOf (za7 X.prog X.w) p vs:=I.hok p _ hx
   have hlen:kvs.length=vs.length:=Paired.length r
   exact wpAny_truthy_dict hS m (by omega) ⟨H,I.tok _,by rw [zop r];exact q⟩
 | _=>exact (show False from e).elim
theorem vals1 {x:V} {us:List Value} (r:Vals [x] us):∃ u,us=[u]/\RelV x u:=by
 cases r with
 | cons r1 r2=>cases r2;exact ⟨_,rfl,r1⟩
theorem vals2 {x y:V} {us:List Value} (r:Vals [x,y] us):∃ u w',us=[u,w']/\RelV x u/\RelV y w':=by
 cases r with
 | cons r1 r2 =>
  cases r2 with
  | cons r3 r4=>cases r4;exact ⟨_,_,rfl,r1,r3⟩
theorem zsx:zgG X (.builtin "abs") (fun xs H Q=>∃ i,xs=[.int i]/\Q (.int (if i < 0 then -i else i)) H):=by
 intro pins s σ H xs us Q I r h
 obtain ⟨i,rfl,q⟩:=h
 obtain ⟨u,rfl,t,rfl⟩:=vals1 r
 exact call_abs_int fun u tk=>⟨.int (if i < 0 then -i else i),H,I.tok _,⟨_,rfl⟩,q⟩
end
end L2
namespace L2
open PySem PySem.Spec PyProof.Rows
structure zze (h:Heap) (x dx C:Addr) (mA:Str->Option Value):Prop where
 obj:h.get? x=some (PySem.W.instObj C dx)
 ns:h.Ns1 dx mA
 ne:dx ≠ x
theorem zq8.some_of {v:V} {o:Option Value} (r:zq8 (some v) o):∃ u,o=some u/\RelV v u:=by
 cases o with
 | none=>exact (show False from r).elim
 | some u=>exact ⟨u,rfl,r⟩
structure Cls (K:PySem.W.Frag) (C:Addr):Prop where
 pg:PySem.W.plainGet K C Str.empty=true
 hd:PySem.W.hasDictIn K C=true
 po:PySem.W.plainOver K C=true
 sa:PySem.W.findIn K (.ref C) "__setattr__"=some (some (.builtin "object.__setattr__"))
structure Con (K:PySem.W.Frag) (C:Addr) (f:Str) (v:V) (u:Value):Prop where
 at_:PySem.W.findIn K (.ref C) f=some (some u)
 rel:RelV v u
 get:PySem.W.specialIn K u "__get__"=some none
 cp:PySem.W.copiedNames.contains f=false
structure Meth (K:PySem.W.Frag) (C:Addr) (m:Str) (f:Addr):Prop where
 at_:PySem.W.findIn K (.ref C) m=some (some (.ref f))
 fn:PySem.W.isFn K (.ref f)=true
 kp:PySem.W.keepIn K (.ref f)=true
section
variable {X:Cx} {pins:List (Addr × Obj)} {σ:St} {H:Hp} {s:Shared} {A:Around} {E:Value->Shared->Prop} {Q:Value->Shared->Prop} {c:Value} {b:Bool}
inductive zqS (K:PySem.W.Frag) (H:Hp):V->Value->Prop where
 | non:zqS K H .non (.type "NoneType")
 | bl (x:Bool):zqS K H (.bl x) (.type "bool")
 | int (i:Int):zqS K H (.int i) (.type "int")
 | str (x:Str):zqS K H (.str x) (.type "str")
 | flt (x:UInt64):zqS K H (.flt x) (.type "float")
 | lst {a:Addr} {xs:List V} (e:H a=some (.lst xs)):zqS K H (.ref a) (.type "list")
 | frz {a:Addr} {o:Obj} {xs:List V} (e:H a=some (.frz o (.lst xs))):zqS K H (.ref a) (.type "list")
 | tup {a:Addr} {xs:List V} (e:H a=some (.tup xs)):zqS K H (.ref a) (.type "tuple")
 | dK {a:Addr} {kvs:List (Key × V)} (e:H a=some (.dK kvs)):zqS K H (.ref a) (.type "dict")
 | dT {a:Addr} {kvs:List (List Key × V)} (e:H a=some (.dT kvs)):zqS K H (.ref a) (.type "dict")
 | ins {a C dx:Addr} {fs:List (Str × V)} (e:H a=some (.ins C dx fs)) (cl:Cls K C) (ha:PySem.W.findIn K (.ref C) "__class__"=some (some (.builtin "object.__class__")))
   (hn:PySem.W.specialIn K (.builtin "object.__class__") "__get__"=some (some (.builtin "getset_descriptor.__get__"))) (htk:PySem.W.takesIn K (.builtin "object.__class__")=some true)
   (hm:PySem.W.mroIn K C (.type "object")=some true):zqS K H (.ref a) (.ref C)
end
end L2
namespace L2
open PySem PySem.Spec PyProof.Rows
structure zc7 (k:Nat) (A:Around):Prop where
 hd:A.handled=none
 dp:A.depth + 3 * k + 110 < recursionLimit
 un:A.units + 16 * k + 200 < cLine
 gd:A.guards=some []
theorem zc7.mono {j k:Nat} {A:Around} (r:zc7 k A) (h:j<=k):zc7 j A:=⟨r.hd,by have:=r.dp;omega,by have:=r.un;omega,r.gd⟩
theorem zc7.deeper {k:Nat} {A:Around} (r:zc7 (k + 1) A) (env:Env):zc7 k (A.deeper env) :=
 ⟨r.hd,by have:=r.dp;show A.depth + 1 + 3 * k + 110 < _;omega,by have:=r.un;show A.units + 3 + 16 * k + 200 < _;omega,r.gd⟩
theorem zc7.depth {k:Nat} {A:Around} (r:zc7 k A):A.depth < recursionLimit:=by have:=r.dp;omega
theorem zc7.units {k:Nat} {A:Around} (r:zc7 k A):A.units + 64 < cLine:=by have:=r.un;omega
def zyc:TA:=fun _ H Q=>Q [] H
def zvl (ta:TE) (tr:TA):TA:=fun σ H Q=>ta σ H fun x H1=>tr σ H1 fun xs H2=>Q (x :: xs) H2
section
variable {X:Cx} {e:Expr} {es:List Expr} {te:TE} {t:TA} {pos:Pos}
theorem zgJ:PA X [] zyc:=fun _ _ _ _ H Q I h=>Calls.spliced_nil ⟨[],H,I,.nil,h⟩
theorem zcn (ha:PE X e te) (hr:PA X es t) (hs:starEach (e :: es) X.env=(false,eval e X.env) :: starEach es X.env:=by rfl):PA X (e :: es) (zvl te t):=by
 intro pos pins s σ H Q I h
 rw [hs]
 show wpAny _ _ (spliced ((false,eval e X.env) :: backTo pos (starEach es X.env))) _ _ s
 refine Calls.spliced_cons (thn (ha pins s σ H _ I h) fun u s1 ⟨x,H1,I1,r1,q1⟩=>?_)
 exact thn (hr pos pins s1 σ H1 _ I1 q1) fun us s2 ⟨xs,H2,I2,r2,q2⟩=>⟨x :: xs,H2,I2,.cons r1 r2,q2⟩
def zyx (t:TA):TE:=fun σ H Q=>t σ H fun xs H1=>xs.length<=sizeLine/\∀ p,H1 p=none->Q (.ref p) (upd H1 p (.tup xs))
def zyB (t:TA):TE:=fun σ H Q=>t σ H fun xs H1=>xs.length<=sizeLine/\∀ p,H1 p=none->Q (.ref p) (upd H1 p (.lst xs))
theorem zvS {x1} (h:PA X es t):PE X (.Tuple es x1 pos) (zyx t):=by
 intro pins s σ H Q I hq
 refine wpAny_Tuple_spliced (thn (h pos pins s σ H _ I hq) fun us s1 ⟨xs,H1,I1,r,z,q⟩=>⟨by rw [<- r.length];exact z,?_⟩)
 have hf:H1 s1.heap.objs.size=none:=I1.hok.fresh (Nat.le_refl _)
 refine ⟨.ref s1.heap.objs.size,upd H1 s1.heap.objs.size (.tup xs),I1.laid (t':=s1.toks) (fun b u e=>Heap.get?_push_of_some _ e) (Nat.le_refl _) ?_,rfl,q _ hf⟩
 exact ⟨z,us,r,⟨_,Heap.get?_push_size _ rfl,rfl,_,rfl⟩⟩
theorem zsY (h:PA X es t):PE X (.List es pos) (zyB t):=by
 intro pins s σ H Q I hq
 refine wpAny_List_spliced (thn (h pos pins s σ H _ I hq) fun us s1 ⟨xs,H1,I1,r,z,q⟩=>⟨by rw [<- r.length];exact z,?_⟩)
 have hf:H1 s1.heap.objs.size=none:=I1.hok.fresh (Nat.le_refl _)
 refine ⟨.ref s1.heap.objs.size,upd H1 s1.heap.objs.size (.lst xs),I1.laid (t':=s1.toks) (fun b u e=>Heap.get?_push_of_some _ e) (Nat.le_refl _) ?_,rfl,q _ hf⟩
 exact ⟨z,us,0,r,Heap.get?_push_size _ rfl⟩
end
abbrev Sp:=List V->Hp->VK->XK->Prop
abbrev CXT:=List Env->Hp->Shared->XK->Value->Shared->Prop
structure zxd (P:Program) (w:World) (K:PySem.W.Frag) (mg:Str->Option Value) (base:Heap) (A:Around) (outer:List Env) (s:Shared) (H:Hp):Prop where
 frames:A.frames=some outer
 mod:Mod K mg base
 bs:∀ b o,base.get? b=some o->s.heap.get? b=some o/\H b=none
 bsz:base.objs.size<=s.heap.objs.size
 zqk:s.heap.FunFrames base outer
 frf:∀ b ∈ frs outer,H b=none
 hok:HOk P w H s.heap
 bare:AllBare s.gens
 tree:P.given.tree=none
theorem Inv.pyl {X:Cx} {pins:List (Addr × Obj)} {σ:List (Option V)} {H:Hp} {s:Shared} (I:Inv X pins σ H s) (hd:X.A.depth + 100 < recursionLimit):PySem.PylongRoom (model X.prog X.w) X.A s:=by
 obtain ⟨env,r,e,h1,h2,h3,h4⟩:=I.ok.sk
 exact PySem.PylongRoom.of I.nolimit hd (PySem.SeerAt.of (I.ok.mod.seer.keeps I.bk) I.ok.tree (I.ok.frames.trans (congrArg some e)) h1 h2 h3 h4)
def CE (outer:List Env) (P:Program) (w:World) (H:Hp) (s:Shared) (Q:VK) (u:Value) (s':Shared):Prop :=
 ∃ v H',s'.os=s.os/\AllBare s'.gens/\Un (frs outer) [] H H' s.heap s'.heap/\HOk P w H' s'.heap/\RelV v u/\Q v H'
def CR (CX:CXT) (outer:List Env) (P:Program) (w:World) (H:Hp) (s:Shared) (Q:VK) (E:XK) (r:Result) (s':Shared):Prop :=
 match r with
 | .ok (.ret u)=>CE outer P w H s Q u s'
 | .ok _=>False
 | .error e=>CX outer H s E e s'
structure zkB (P:Program) (w:World) (K:PySem.W.Frag) (mg:Str->Option Value) (base:Heap) (CX:CXT) (k:Nat) (f:Addr) (fd:FuncData) (ps:List Str) (sp:Sp):Prop where
 len:∀ vs H Q E,sp vs H Q E->vs.length=ps.length
 run:∀ (A:Around) (outer:List Env) (s:Shared) (H:Hp) (args:Args) (us:List Value) (vs:List V) (Q:VK) (E:XK),zc7 k A->zxd P w K mg base A outer s H->BindsTo s fd args (ps.zip us)->Vals vs us->sp vs H Q E ->
  codeAny (model P w) A (.call (.ref f) args) (CR CX outer P w H s Q E) s
theorem zkB.imp {P:Program} {w:World} {K:PySem.W.Frag} {mg:Str->Option Value} {base:Heap} {CX:CXT} {k:Nat} {f:Addr} {fd:FuncData} {ps:List Str} {sp sp':Sp} (F:zkB P w K mg base CX k f fd ps sp)
  (h:∀ vs H Q E,sp' vs H Q E->sp vs H Q E):zkB P w K mg base CX k f fd ps sp' :=
 ⟨fun vs H Q E q=>F.len vs H Q E (h _ _ _ _ q),fun A outer s H args us vs Q E hr he hb hv hs=>F.run A outer s H args us vs Q E hr he hb hv (h _ _ _ _ hs)⟩
section
variable {X:Cx} {pins:List (Addr × Obj)} {σ:St} {H:Hp} {s s':Shared}
theorem Inv.env0 (I:Inv X pins σ H s):zxd X.prog X.w X.K X.mg X.base X.A X.stack s H :=
 ⟨I.ok.frames,I.ok.mod,I.bs,Nat.le_trans I.ok.bsz I.sz,I.stack,I.zo0,I.hok,I.bare,I.ok.tree⟩
theorem Inv.after {Q:VK} {u:Value} (I:Inv X pins σ H s) (h:CE X.stack X.prog X.w H s Q u s'):EP X pins σ Q u s':=by
 obtain ⟨v,H',os,bare,un,hok,r,q⟩:=h
 obtain ⟨hh,g,d,t,os'⟩:=s'
 obtain rfl:os'=s.os:=os
 exact ⟨v,H',I.call (h':=hh) (g':=g) (d':=d) (t':=t) (ch:=[]) un hok bare (fun b z=>absurd z (by simp)),r,q⟩
end
def ztA (sp:Sp) (dvs:List V) (E:XK) (t:TA):TE:=fun σ H Q=>t σ H fun vs H1=>sp (vs ++ dvs) H1 Q E
def Binds (K:PySem.W.Frag) (fd:FuncData) (ps:List Str) (ds:List Value):Prop :=
 ∀ (s:Shared) (us:List Value),K.In s.heap->(us ++ ds).length=ps.length->BindsTo s fd ⟨us,[]⟩ (ps.zip (us ++ ds))
theorem Binds.all {K:PySem.W.Frag} {fd:FuncData} {ps:List Str} (h:∀ us:List Value,us.length=ps.length->bindArgs fd ⟨us,[]⟩=pure (ps.zip us)):Binds K fd ps []:=fun s us _ hl=>by
 rw [List.append_nil] at hl ⊢
 exact .of_eq (h us hl)
def Passes (CX:CXT) (X:Cx) (E:XK):Prop:=∀ (pins:List (Addr × Obj)) (σ:St) (H:Hp) (s:Shared) (e:Value) (s':Shared),Inv X pins σ H s->CX X.stack H s E e s'->X.xe e s'
section
variable {X:Cx} {CX:CXT} {k:Nat} {f C:Addr} {fd:FuncData} {ps:List Str} {sp:Sp} {dvs:List V} {ds:List Value} {E:XK} {x m:Str} {p pos apos:Pos} {e o:Expr} {es:List Expr} {ta:TE} {t:TA}
theorem zvs {pins:List (Addr × Obj)} {σ:St} {H:Hp} {s:Shared} {Q:VK} {us:List Value} {vs:List V} (F:zkB X.prog X.w X.K X.mg X.base CX k f fd ps sp) (hr:zc7 k X.A) (hb:Binds X.K fd ps ds) (hd:Vals dvs ds) (hx:Passes CX X E)
  (I:Inv X pins σ H s) (r:Vals vs us) (h:sp (vs ++ dvs) H Q E):wpAny (model X.prog X.w) X.A (call (.ref f) us) (EP X pins σ Q) X.xe s:=by
 have r2:Vals (vs ++ dvs) (us ++ ds):=r.append hd
 have hl:(us ++ ds).length=ps.length:=by rw [<- r2.length];exact F.len _ _ _ _ h
 refine wpAny_call (codeAny_mono (F.run X.A X.stack s H ⟨us,[]⟩ (us ++ ds) (vs ++ dvs) Q E hr I.env0 (hb s us I.kIn hl) r2 h) fun r s' hq=>?_)
 cases r with
 | error e=>exact hx pins σ H s e s' I hq
 | ok fl =>
  cases fl with
  | ret u=>exact I.after hq
  | next=>exact False.elim hq
  | brk=>exact False.elim hq
  | cont=>exact False.elim hq
theorem zt9 (F:zkB X.prog X.w X.K X.mg X.base CX k f fd ps sp) (hr:zc7 k X.A) (hg:Gl X x) (hm:X.mg x=some (.ref f)) (hk:PySem.W.keepIn X.K (.ref f)=true) (hb:Binds X.K fd ps ds) (hd:Vals dvs ds) (hx:Passes CX X E)
  (ha:PA X (e :: es) t) (hdb:(x == ("__debug__":Str))=false:=by decide) (he:starEach (e :: es) X.env=(false,eval e X.env) :: starEach es X.env:=by rfl) (hpl:(backTo pos (starEach es X.env)).any (·.1)=false:=by rfl) :
  PE X (.Call (.Name x p) (e :: es) [] pos) (ztA sp dvs E t):=by
 intro pins s σ H Q I h
 refine wpAny_Call_Name_kw (zpN I hg hm ?_ hdb)
 refine PySem.W.callWith_K (h₀:=X.base) I.ok.mod.kin hk (thn (ha pos pins s σ H _ I h) fun us s1 ⟨vs,H1,I1,r,q⟩=>⟨I1.kIn,?_⟩) he hpl
 exact zvs F hr hb hd hx I1 r q
structure Mk (K:PySem.W.Frag) (C f:Addr):Prop where
 makes:PySem.W.makesIn K C=true
 init:PySem.W.findIn K (.ref C) "__init__"=some (some (.ref f))
 fn:PySem.W.isFn K (.ref f)=true
 kp:PySem.W.keepIn K (.ref C)=true
end
section
variable {X:Cx} {CX:CXT} {k:Nat} {f C:Addr} {fd:FuncData} {ps ks:List Str} {sp:Sp} {E:XK} {x m:Str} {p pos apos kpos:Pos} {e o:Expr} {es:List Expr} {kws:List Keyword} {te ta:TE} {t tk:TA} {nm:Option Str}
structure zyt (K:PySem.W.Frag) (fd:FuncData) (ps ks:List Str) (g:List Value->List Value->List Value) (gV:List V->List V->List V):Prop where
 to:∀ (s:Shared) (us ws:List Value),K.In s.heap->(g us ws).length=ps.length->BindsTo s fd ⟨us,ks.zip ws⟩ (ps.zip (g us ws))
 rel:∀ {vs:List V} {us:List Value} {zs:List V} {ws:List Value},Vals vs us->Vals zs ws->Vals (gV vs zs) (g us ws)
variable {g:List Value->List Value->List Value} {gV:List V->List V->List V}
end
structure zey (N P:List Str) (sc:Scope):Prop where
 kind:sc.kind=.function
 co:sc.isCoroutine=false
 gen:sc.isGenerator=false
 nd:N.Nodup
 pre:N.take P.length=P
 par:∀ x ∈ P,sc.names.lookup x=some .local\/sc.names.lookup x=some .cell
 nofree:∀ y ∈ sc.names,y.2 ≠ .free
theorem zlv {kindOf:Str->Option NameKind} {x:Str}:∀ {binds:List (Str × Value)} {m:Str->Option Value},(∀ v,(x,v) ∉ binds)->bindL kindOf binds m x=m x
 | [],_,_=>rfl
 | (n,v) :: r,m,h=>by
  unfold bindL
  rw [zlv fun w hw=>h w (List.mem_cons_of_mem _ hw)]
  split
  ·have:x ≠ n:=by rintro rfl;exact h v List.mem_cons_self
   simp [this]
  ·rfl
theorem zlx {kindOf:Str->Option NameKind} {x:Str}:∀ {binds:List (Str × Value)} {m:Str->Option Value},(∀ v,(x,v) ∉ binds)->bindC kindOf binds m x=m x
 | [],_,_=>rfl
 | (n,v) :: r,m,h=>by
  unfold bindC
  rw [zlx fun w hw=>h w (List.mem_cons_of_mem _ hw)]
  split
  ·rfl
  ·have:x ≠ n:=by rintro rfl;exact h v List.mem_cons_self
   simp [this]
theorem zlw {kindOf:Str->Option NameKind} {x:Str} {v:Value}:∀ {P:List Str} {vs:List Value} {i:Nat} {m:Str->Option Value},P.Nodup->P[i]?=some x->vs[i]?=some v->kindOf x=some .local ->
  bindL kindOf (P.zip vs) m x=some v
 | [],_,_,_,_,h,_,_=>by simp at h
 | _ :: _,[],_,_,_,_,h,_=>by simp at h
 | p :: P,w :: vs,0,m,nd,h1,h2,hk=>by
  simp at h1 h2;subst h1;subst h2
  show bindL kindOf ((p,w) :: P.zip vs) m p=_
  unfold bindL
  rw [zlv fun v hv=>(List.nodup_cons.mp nd).1 (List.of_mem_zip hv).1,if_pos hk]
  simp
 | p :: P,w :: vs,i + 1,m,nd,h1,h2,hk=>by
  show bindL kindOf ((p,w) :: P.zip vs) m x=_
  unfold bindL
  exact zlw (i:=i) (List.nodup_cons.mp nd).2 (by simpa using h1) (by simpa using h2) hk
theorem zly {kindOf:Str->Option NameKind} {x:Str} {v:Value}:∀ {P:List Str} {vs:List Value} {i:Nat} {m:Str->Option Value},P.Nodup->P[i]?=some x->vs[i]?=some v->kindOf x ≠ some .local ->
  bindC kindOf (P.zip vs) m x=some v
 | [],_,_,_,_,h,_,_=>by simp at h
 | _ :: _,[],_,_,_,_,h,_=>by simp at h
 | p :: P,w :: vs,0,m,nd,h1,h2,hk=>by
  simp at h1 h2;subst h1;subst h2
  show bindC kindOf ((p,w) :: P.zip vs) m p=_
  unfold bindC
  rw [zlx fun v hv=>(List.nodup_cons.mp nd).1 (List.of_mem_zip hv).1,if_neg hk]
  simp
 | p :: P,w :: vs,i + 1,m,nd,h1,h2,hk=>by
  show bindC kindOf ((p,w) :: P.zip vs) m x=_
  unfold bindC
  exact zly (i:=i) (List.nodup_cons.mp nd).2 (by simpa using h1) (by simpa using h2) hk
def start (N:List Str) (vs:List V):St:=vs.map some ++ List.replicate (N.length - vs.length) none
def zq7 (CX:CXT) (P:Program) (w:World) (K:PySem.W.Frag) (mg:Str->Option Value) (base:Heap) (N:List Str) (qual:Str) (scope:Scope) (f:Addr) (cd:Value) (A:Around) (outer:List Env) (s:Shared) (H:Hp) (E:XK):Cx where
 prog:=P
 w:=w
 K:=K
 mg:=mg
 base:=base
 A:=A.deeper (envOfC qual scope s.heap.objs.size f cd)
 N:=N
 s₀:=s
 H₀:=H
 env:=envOfC qual scope s.heap.objs.size f cd
 outer:=outer
 stack:=envOfC qual scope s.heap.objs.size f cd :: outer
 ex:=[]
 calm:=true
 fn:=fun _=>true
 pn:=[]
 xe:=fun e s'=>wpAny (model P w) (A.deeper (envOfC qual scope s.heap.objs.size f cd)) (leaving (envOfC qual scope s.heap.objs.size f cd) e) (fun _ s''=>CX outer H s E e s'') (fun e' s''=>CX outer H s E e' s'') s'
theorem znB {sc:Scope} {n:Nat} {x:Str} (h:sc.names.lookup x=some .cell):∃ c,(cellsFrom n sc.names []).lookup x=some c:=by
 have q:=PySem.W.cellsFrom_some sc.names n [] (.inl h)
 exact Option.isSome_iff_exists.mp q
theorem zqa {CX:CXT} {P:Program} {w:World} {K:PySem.W.Frag} {mg:Str->Option Value} {base:Heap} {N ps:List Str} {qual:Str} {scope:Scope} {f:Addr} {cd:Value} {A:Around} {outer:List Env} {s s1:Shared} {H:Hp} {E:XK} {us:List Value} {vs:List V}
  (S:zey N ps scope) (hd:A.handled=none) (e0:zxd P w K mg base A outer s H) (hl:vs.length=ps.length) (r:Vals vs us)
  (x:InCallC s s.heap.objs.size (bindL (envOfC qual scope s.heap.objs.size f cd).kindOf (ps.zip us) fun _=>none) (cellsFrom (s.heap.objs.size + 1) scope.names []) (bindC (envOfC qual scope s.heap.objs.size f cd).kindOf (ps.zip us) fun _=>none) s1) :
  Inv (zq7 CX P w K mg base N qual scope f cd A outer s H E) [] (start N vs) H s1:=by
 have hpl:ps.length<=N.length:=by have:=congrArg List.length S.pre;rw [List.length_take] at this;omega
 obtain ⟨h1,tk,rfl,hk⟩:=x.done
 have noA:∀ b:Addr,b ∉ (zq7 CX P w K mg base N qual scope f cd A outer s H E).ex:=fun b z=>absurd (show b ∈ ([]:List Addr) from z) (by simp)
 refine ⟨⟨e0.mod,S.kind,rfl,rfl,Nat.le_refl _,fun y z c h1 h2=>?_,fun y hy=>?_,fun y c _ h=>?_,fun _=>hd,Around.frames_deeper e0.frames,.inr ⟨rfl,rfl⟩,fun b z=>absurd z (noA b),e0.bs,e0.bsz,fun b _ _=>noA b,fun b z=>absurd z (noA b),e0.zqk,e0.frf,e0.tree,⟨_,_,rfl,S.gen,S.co,rfl,rfl⟩⟩,
  rfl,e0.bare,Un.kept hk,⟨_,x.toInCall.ns,fun i y v h1 h2 h3=>?_⟩,fun y c h=>⟨_,x.cell y c h⟩,e0.hok.fresh (Nat.le_refl _),fun y c h=>?_,fun p hp=>absurd (show p ∈ ([]:List (Addr × Obj)) from hp) (by simp),e0.hok.kept hk,?_⟩
 ·exact name_of_addr x.apart (PySem.mem_of_lookup h1) (PySem.mem_of_lookup h2)
 ·have hy:scope.names.lookup y=some .cell\/scope.names.lookup y=some .free:=hy
  rcases hy with hy | hy
  ·exact znB hy
  ·exact absurd rfl (S.nofree _ (PySem.mem_of_lookup hy))
 ·exact Nat.le_of_lt (x.above y c (PySem.mem_of_lookup h))
 ·have hi:i < vs.length:=by
   unfold start at h2
   by_cases hi:i < vs.length
   ·exact hi
   ·rw [List.getElem?_append_right (by simpa using hi)] at h2
    rw [List.getElem?_replicate] at h2
    split at h2 <;> cases h2
  have ha:vs[i]?=some v:=by
   unfold start at h2
   rw [List.getElem?_append_left (by simpa using hi),List.getElem?_map] at h2
   cases e:vs[i]? with
   | none=>rw [e] at h2;cases h2
   | some a=>rw [e] at h2;cases h2;rfl
  obtain ⟨u,hu,rv⟩:=r.get ha
  have hp:ps[i]?=some y:=by
   rw [<- S.pre,List.getElem?_take_of_lt (by omega)];exact h1
  have ndP:ps.Nodup:=by rw [<- S.pre];exact S.nd.sublist (List.take_sublist _ _)
  refine ⟨u,rv,?_⟩
  rcases S.par y (List.mem_of_getElem? hp) with k | k
  ·exact .inl ⟨k,zlw ndP hp hu k⟩
  ·obtain ⟨c,e⟩:=znB (n:=s.heap.objs.size + 1) k
   refine .inr ⟨.inl k,c,e,?_⟩
   have q:=x.cell y c e
   rw [zly ndP hp hu (by show scope.names.lookup y ≠ _;rw [k];decide)] at q
   exact q
 ·exact e0.hok.fresh (Nat.le_of_lt (x.above y c (PySem.mem_of_lookup h)))
 ·unfold start
  show _=N.length
  rw [List.length_append,List.length_map,List.length_replicate]
  omega
theorem zxX {CX:CXT} {P:Program} {w:World} {K:PySem.W.Frag} {mg:Str->Option Value} {base:Heap} {k:Nat} {f:Addr} {name qual:Str} {params:Arguments} {body:List Stmt} {scope:Scope} {dV kV doc pm cdv ct oc:Value} {an od:Option Addr}
  {osl:Array (Option Value)} {N ps:List Str} {sp:Sp} (lk:K.lookup f=some ⟨oc,od,.func (PySem.W.fnOf name qual params body scope dV kV doc pm an cdv ct),osl⟩) (hcd:PySem.W.codeIn K cdv qual=true) (S:zey N ps scope)
  (len:∀ vs H Q E,sp vs H Q E->vs.length=ps.length)
  (hbody:∀ (A:Around) (outer:List Env) (s:Shared) (H:Hp) (vs:List V) (Q:VK) (E:XK),zc7 k (A.deeper (envOfC qual scope s.heap.objs.size f cdv))->sp vs H Q E ->
   ∃ t,PSs (zq7 CX P w K mg base N qual scope f cdv A outer s H E) body t/\t { nx:=fun _ H'=>Q .non H',rt:=Q } (start N vs) H) :
  zkB P w K mg base CX (k + 1) f (PySem.W.fnOf name qual params body scope dV kV doc pm an cdv ct) ps sp:=by
 refine ⟨len,fun A outer s H args us vs Q E hr e0 hb r hsp=>?_⟩
 have hl:=len _ _ _ _ hsp
 have KX:K.In s.heap:=e0.mod.kin.keeps fun b o e=>(e0.bs b o e).1
 have lim:s.heap.NoLimit:=e0.mod.nolimit.keeps fun b o e=>(e0.bs b o e).1
 have hkind:∀ y ∈ ps.zip us,scope.names.lookup y.1=some .local\/(scope.names.lookup y.1=some .cell/\((cellsFrom (s.heap.objs.size + 1) scope.names []).lookup y.1).isSome=true):=fun ⟨n,v⟩ hy=>by
  rcases S.par n (List.of_mem_zip hy).1 with q | q
  ·exact .inl q
  ·exact .inr ⟨q,PySem.W.cellsFrom_some _ _ _ (.inl q)⟩
 refine codeAny_call_function hr.depth (KX _ _ lk) rfl S.co S.gen rfl (PySem.W.codeRec_of KX hcd) (hb _ _ _ _ ?_)
 refine wpAny_newFunctionEnv_cells S.kind hkind fun env he s1 x=>?_
 subst he
 refine ⟨lim.keeps x.toInCall.keep,codeAny_func ?_⟩
 obtain ⟨t,ht,hq⟩:=hbody A outer s H vs Q E (hr.deeper _) hsp
 have I:Inv (zq7 CX P w K mg base N qual scope f cdv A outer s H E) [] (start N vs) H s1:=zqa S hr.hd e0 hl r x
 refine wpAny_mono (ht [] s1 (start N vs) H _ I hq) (fun fl s' hs=>?_) fun e s' hs=>hs
 have fin:∀ {σ':St} {H':Hp} {v:V} {u:Value},Inv (zq7 CX P w K mg base N qual scope f cdv A outer s H E) [] σ' H' s'->RelV v u->Q v H'->CE outer P w H s Q u s' :=
  fun {σ' H' v u} J rv q=>⟨v,H',J.os,J.bare,J.base,J.hok,rv,q⟩
 cases fl with
 | ret u =>
  obtain ⟨v,σ',H',J,rv,q⟩:=hs
  exact fin J rv q
 | next =>
  obtain ⟨σ',H',J,q⟩:=hs
  exact fin (v:=V.non) (u:=Value.none) J rfl q
 | brk =>
  obtain ⟨_,_,_,q⟩:=hs
  exact False.elim q
 | cont =>
  obtain ⟨_,_,_,q⟩:=hs
  exact False.elim q
end L2
namespace L2
open PySem PySem.Spec PyProof.Rows
section
variable {X:Cx} {x:Str} {p pos:Pos} {e:Expr} {es:List Expr} {t:TA} {id T:String} {r:List V->Hp->VK->Prop}
def tCB (r:List V->Hp->VK->Prop) (t:TA):TE:=fun σ H Q=>t σ H fun vs H1=>r vs H1 Q
theorem zjV (hc:zgG X (.builtin id) r) (hg:Gl X x) (hm:X.mg x=none) (hv:bootBuiltins x=some (.builtin id)) (ha:PA X (e :: es) t) (hn:x ≠ "__name__":=by decide) (hdb:(x == ("__debug__":Str))=false:=by decide)
  (he:starEach (e :: es) X.env=(false,eval e X.env) :: starEach es X.env:=by rfl) (hpl:(backTo pos (starEach es X.env)).any (·.1)=false:=by rfl):PE X (.Call (.Name x p) (e :: es) [] pos) (tCB r t):=by
 intro pins s σ H Q I h
 refine wpAny_Call_Name_kw (zjk I hg hm hv ?_ hn hdb)
 exact PyProof.Rows.callWith_builtin1 (thn (ha pos pins s σ H _ I h) fun us s1 ⟨vs,H1,I1,r1,q1⟩=>hc pins s1 σ H1 vs us Q I1 r1 q1) he hpl
theorem zpu (hc:zgG X (.type T) r) (hg:Gl X x) (hm:X.mg x=none) (hv:bootBuiltins x=some (.type T)) (ha:PA X (e :: es) t) (hn:x ≠ "__name__":=by decide) (hdb:(x == ("__debug__":Str))=false:=by decide)
  (he:starEach (e :: es) X.env=(false,eval e X.env) :: starEach es X.env:=by rfl) (hpl:(backTo pos (starEach es X.env)).any (·.1)=false:=by rfl):PE X (.Call (.Name x p) (e :: es) [] pos) (tCB r t):=by
 intro pins s σ H Q I h
 refine wpAny_Call_Name_kw (zjk I hg hm hv ?_ hn hdb)
 exact PyProof.Rows.callWith_type1 (thn (ha pos pins s σ H _ I h) fun us s1 ⟨vs,H1,I1,r1,q1⟩=>hc pins s1 σ H1 vs us Q I1 r1 q1) he hpl
end
end L2
namespace HT
open PySem PyProof.Rows
def lexLt:List Int->List Int->Bool
 | [],[]=>false
 | [],_ :: _=>true
 | _ :: _,[]=>false
 | x :: xs,y :: ys=>if x=y then lexLt xs ys else decide (x < y)
theorem zod (x y:Int) (xs ys:List Int):lexLt (x :: xs) (y :: ys)=if x=y then lexLt xs ys else decide (x < y):=rfl
theorem zj4:lexLt [] []=false:=rfl
theorem ziM (y:Int) (ys:List Int):lexLt [] (y :: ys)=true:=rfl
theorem ziN (x:Int) (xs:List Int):lexLt (x :: xs) []=false:=rfl
theorem zhl (A:Around) (s:Shared) (a:Int) (t:Tok) (c:Int) (u:Tok):∃ e,SeqAt.EqAt A s (.int a t) (.int c u) e/\(e=true ↔ a=c) :=
 ⟨(a == c),SeqAt.EqAt.int_int a t c u,by simp⟩
theorem zrj (A:Around) (s:Shared) (a:Int) (t:Tok) (c:Int) (u:Tok) (prog:Program) (w:World) (E:Value->Shared->Prop) (Q:Value->Shared->Prop) (h:Q (.bool (decide (a < c))) s) :
  wpAny (model prog w) A (richCompare .Lt (.int a t) (.int c u)) Q E s :=
 (PyProof.Rows.lt_int h:wpAny (model prog w) A (compareOp .Lt (.int a t) (.int c u)) Q E s)
section
open PySem.SeqAt
open PySem.AutoSeq1 (wpAny_loadPart')
open PySem.MeetsSeq PySem.MeetsSeq2 PySem.MeetsSeq3
theorem zjF (l b:Addr) (items items2:Array Value) (n n2:Nat) (dd dd2:Option Addr) (sl sl2:Array (Option Value)) (ns ms:List Int) (hi:IntsAre items.toList ns) (hj:IntsAre items2.toList ms) :
  Meets (Builtin.«tuple.__lt__» ⟨[.ref l,.ref b],[]⟩)
   (fun _ R s=>s.heap.get? l=some { cls:=.type "tuple",dict:=dd,data:=.seq items n,slots:=sl }/\s.heap.get? b=some { cls:=.type "tuple",dict:=dd2,data:=.seq items2 n2,slots:=sl2 } /\
    R (.ok (.ret (.bool (lexLt ns ms)))) s) :=
 .of_wp fun prog w A R s h=>by
  obtain ⟨hp,g,d,tk,os⟩:=s;obtain ⟨hl,hb,h⟩:=h
  have f2:=AutoSeq1.sub_tuple_tuple
  have z1:items.size=ns.length:=by rw [<- hi.length];simp
  have z2:items2.size=ms.length:=by rw [<- hj.length];simp
  wp_walk using wpAny_loadPart' hl,wpAny_loadPart' hb,wpAny_forIn_list _ (fun rest b s'=>b.1=none/\s'=⟨hp,g,d,tk,os⟩/\∃ (vs ws:List Value) (ns' ms':List Int),rest=vs.zip ws /\
   IntsAre vs ns'/\IntsAre ws ms'/\ns'.length + items2.size=ms'.length + items.size/\R (.ok (.ret (.bool (lexLt ns' ms')))) ⟨hp,g,d,tk,os⟩) _
  case turn =>
   rintro ⟨y,x⟩ rest b s' ⟨hb',rfl,vs,ws,ns',ms',hz,hvi,hwi,hlen,hR⟩
   cases hvi with
   | nil=>rw [List.zip_nil_left] at hz;cases hz
   | cons a t hvi' =>
    cases hwi with
    | nil=>rw [List.zip_nil_right] at hz;cases hz
    | cons c u hwi' =>
     rw [List.zip_cons_cons] at hz
     injection hz with hyx hrest
     injection hyx with hy hx
     subst hy hx
     rw [zod] at hR
     simp only [List.length_cons] at hlen
     obtain ⟨e,he,hiff⟩:=zhl A.in1 ⟨hp,g,d,tk,os⟩ a t c u
     refine wpAny_bind (he prog w _ _ ?_)
     cases e with
     | true =>
      rw [if_pos (hiff.mp rfl)] at hR
      wp_walk
      exact ⟨rfl,rfl,_,_,_,_,hrest,hvi',hwi',by omega,hR⟩
     | false =>
      rw [if_neg (fun q=>absurd (hiff.mpr q) Bool.false_ne_true)] at hR
      have hri:=zrj A.in1 ⟨hp,g,d,tk,os⟩ a t c u prog w
      wp_walk using hri
      exact ⟨_,rfl,by simpa using hR⟩
  case fin =>
   rintro ⟨b1,b2⟩ s' ⟨hb',rfl,vs,ws,ns',ms',hz,hvi,hwi,hlen,hR⟩
   simp only at hb'
   subst hb'
   have hv:lexLt ns' ms'=decide (items.size < items2.size):=by
    cases hvi with
    | nil =>
     cases hwi with
     | nil =>
      simp only [List.length_nil] at hlen
      rw [zj4]
      exact (decide_eq_false (by omega)).symm
     | cons c u hw =>
      simp only [List.length_nil,List.length_cons] at hlen
      rw [ziM]
      exact (decide_eq_true (by omega)).symm
    | cons a t hv =>
     cases hwi with
     | nil =>
      simp only [List.length_nil,List.length_cons] at hlen
      rw [ziN]
      exact (decide_eq_false (by omega)).symm
     | cons c u hw =>
      rw [List.zip_cons_cons] at hz
      cases hz
   rw [hv] at hR
   wp_walk
   exact ⟨_,rfl,by simpa [Builtin.Tuple.tupleCompareSizes] using hR⟩
  case h =>
   exact ⟨rfl,rfl,items.toList,items2.toList,ns,ms,rfl,hi,hj,by omega,h⟩
end
section
variable {prog:Program} {w:World} {A:Around} {E:Value->Shared->Prop} {s:Shared}
theorem zob {l b:Addr} {items items2:Array Value} {ns ms:List Int} {Q:Value->Shared->Prop} (hl:IsTup s.heap l items) (hb:IsTup s.heap b items2) (hi:IntsAre items.toList ns) (hj:IntsAre items2.toList ms)
  (hu:A.units < cLine) (h:Q (.bool (lexLt ns ms)) s):wpAny (model prog w) A (compareOp .Lt (.ref l) (.ref b)) Q E s:=by
 obtain ⟨⟨cls,dd,data,sl⟩,ho,hc,n,hd⟩:=id hl
 obtain ⟨⟨cls2,dd2,data2,sl2⟩,ho2,hc2,n2,hd2⟩:=id hb
 simp only at hc hd hc2 hd2
 subst hc hd hc2 hd2
 exact richCompare_meets_room (op:=.Lt) ⟨_,ho,rfl⟩ ⟨_,ho2,rfl⟩ PySem.F.slot_tuple_lt PySem.F.entry_tuple_lt (PySem.F.args_tuple_lt_2 _ _) (zjF l b items items2 n n2 dd dd2 sl sl2 ns ms hi hj)
  ⟨ho,ho2,show Value.bool (lexLt ns ms) ≠ Value.notImplemented/\Q (.bool (lexLt ns ms)) s from ⟨(fun x=>nomatch x),h⟩⟩ hu
theorem zuX {t b:Addr} {vs ws:List Value} {Q:Value->Shared->Prop} (ht:IsTup s.heap t vs.toArray) (hb:IsTup s.heap b ws.toArray) (hv:vs ≠ [])
  (h1:ws=[]->Q (.ref t) s) (h2:ws ≠ []->Q (.ref s.heap.objs.size) { s with heap:=s.heap.push { cls:=.type "tuple",data:=.seq (vs ++ ws).toArray } })
  (hsz:vs.length + ws.length<=sizeLine):wpAny (model prog w) A (binaryOp .Add (.ref t) (.ref b)) Q E s:=by
 obtain ⟨⟨cls,dd,data,sl⟩,ho,hc,n,hd⟩:=id ht
 obtain ⟨⟨cls2,dd2,data2,sl2⟩,ho2,hc2,n2,hd2⟩:=id hb
 simp only at hc hd hc2 hd2
 subst hc hd hc2 hd2
 have e:vs.toArray ++ ws.toArray=(vs ++ ws).toArray:=by simp
 by_cases hw:ws=[]
 ·exact concat_meets ⟨_,ho,rfl⟩ ⟨_,ho2,rfl⟩ noFill_tuple_add seq_tuple_add PySem.F.slot_tuple_add PySem.F.entry_tuple_add (PySem.F.args_tuple_add_2 _ _)
   (tuple_addW1 t b vs.toArray ws.toArray n n2 dd dd2 sl sl2 (by simpa using hv) (by simp [hw])) ⟨ho,ho2,h1 hw⟩
 ·refine concat_meets ⟨_,ho,rfl⟩ ⟨_,ho2,rfl⟩ noFill_tuple_add seq_tuple_add PySem.F.slot_tuple_add PySem.F.entry_tuple_add (PySem.F.args_tuple_add_2 _ _)
   (tuple_addW2 t b vs.toArray ws.toArray n n2 dd dd2 sl sl2 (by simpa using hv) (by simpa using hw) (by rw [List.size_toArray,List.size_toArray];exact hsz)) ⟨ho,ho2,?_⟩
  rw [e]
  exact h2 hw
def sIx (n d:Nat):Option Int->Nat
 | none=>d
 | some v=>if v < 0 then (v + (n:Int)).toNat else min v.toNat n
theorem zvq (n d:Nat) (hd:d<=n) (o:Option Int):sIx n d o<=n:=by
 cases o with
 | none=>exact hd
 | some v =>
  show (if v < 0 then (v + (n:Int)).toNat else min v.toNat n)<=n
  by_cases hv:v < 0
  ·rw [if_pos hv];omega
  ·rw [if_neg hv];exact Nat.min_le_right _ _
theorem zqF (v:Int) (n d:Nat):(if v < 0 then max (v + (n:Int)) 0 else min v (n:Int))=((sIx n d (some v):Nat):Int):=by
 show (if v < 0 then max (v + (n:Int)) 0 else min v (n:Int))=(((if v < 0 then (v + (n:Int)).toNat else min v.toNat n):Nat):Int)
 by_cases hv:v < 0
 ·simp only [if_pos hv];omega
 ·simp only [if_neg hv];omega
theorem zoB (lo hi:Option Int) (n:Nat):Builtin.Slice.sliceAdjust lo hi 1 (n:Int)=(((sIx n 0 lo:Nat):Int),((sIx n n hi:Nat):Int)):=by
 have h1:¬ ((1:Int) < 0):=by omega
 unfold Builtin.Slice.sliceAdjust
 simp only [h1,if_false]
 refine Prod.ext ?_ ?_
 ·cases lo with
  | none=>rfl
  | some v=>exact zqF v n 0
 ·cases hi with
  | none=>rfl
  | some v=>exact zqF v n n
theorem zn3 (i j:Nat):Builtin.Slice.slicePlaces (i:Int) (j:Int) 1=j - i:=by
 unfold Builtin.Slice.slicePlaces
 have h1:(1:Int) > 0:=by omega
 simp only [h1,if_true,Int.ediv_one]
 split <;> omega
theorem zja {v:Value} {o:Option Int} {Q:Option Int->Shared->Prop} (p:IsPart v o) (h:Q o s):wpAny (model prog w) A (Builtin.Slice.slicePartIndex v) Q E s:=by
 cases p with
 | none=>exact slicePart_none h
 | int i t=>exact slicePart_int h
theorem zdM {sl:Addr} {vl vu:Value} {lo hi:Option Int} {n:Nat} {Q:Int × Int × Nat->Shared->Prop} (hs:s.heap.IsSliceOf sl vl vu .none) (pl:IsPart vl lo) (pu:IsPart vu hi)
  (h:Q (((sIx n 0 lo:Nat):Int),1,sIx n n hi - sIx n 0 lo) s):wpAny (model prog w) A (Builtin.Slice.sliceApplied (.ref sl) (pure (n:Int))) Q E s:=by
 obtain ⟨os,hos,hcs,hds⟩:=id hs
 unfold Builtin.Slice.sliceApplied Builtin.Slice.sliceFields
 refine wpAny_bind (wpAny_bind (wpAny_field hos hds (x:=vl) rfl (wpAny_bind (wpAny_field hos hds (x:=vu) rfl (wpAny_bind (wpAny_field hos hds (x:=.none) rfl (wpAny_pure ?_)))))))
 refine wpAny_bind (slicePart_none ?_)
 show wpAny _ _ (if ((1:Int) == 0)=true then _ else _) _ _ s
 rw [if_neg (by decide)]
 refine wpAny_bind (zja pl (wpAny_bind (zja pu (wpAny_bind (wpAny_pure ?_)))))
 show wpAny _ _ (match Builtin.Slice.sliceAdjust lo hi 1 (n:Int) with | (lo,hi)=>pure (lo,(1:Int),Builtin.Slice.slicePlaces lo hi 1)) _ _ s
 rw [zoB lo hi n]
 show wpAny _ _ (pure (((sIx n 0 lo:Nat):Int),(1:Int),Builtin.Slice.slicePlaces ((sIx n 0 lo:Nat):Int) ((sIx n n hi:Nat):Int) 1)) _ _ s
 rw [zn3]
 exact wpAny_pure h
theorem zrD (xs:Array Value) (i k:Nat):((List.range k).filterMap fun (m:Nat)=>xs[((i:Int) + (m:Int) * 1).toNat]?).toArray=((xs.toList.drop i).take k).toArray:=by
 have e:(fun (m:Nat)=>xs[((i:Int) + (m:Int) * 1).toNat]?)=fun m=>xs[i + m]?:=by
  funext m
  have:((i:Int) + (m:Int) * 1).toNat=i + m:=by omega
  rw [this]
 rw [e]
 have:=pick_run xs i k
 rw [List.filterMap_map] at this
 have e2:((fun x=>xs[x]?) ∘ fun x=>i + x)=fun m=>xs[i + m]?:=rfl
 rw [e2] at this
 rw [this]
theorem zgp {t sl:Addr} {items:Array Value} {vl vu:Value} {lo hi:Option Int} {Q:Value->Shared->Prop} (ht:IsTup s.heap t items) (hs:s.heap.IsSliceOf sl vl vu .none) (pl:IsPart vl lo) (pu:IsPart vu hi)
  (hw:¬ (sIx items.size 0 lo=0/\sIx items.size items.size hi=items.size))
  (h:Q (.ref s.heap.objs.size) { s with heap:=s.heap.push { cls:=.type "tuple",data:=.seq ((items.toList.drop (sIx items.size 0 lo)).take (sIx items.size items.size hi - sIx items.size 0 lo)).toArray } })
  (hsz:items.size<=sizeLine):wpAny (model prog w) A (getItem (.ref t) (.ref sl)) Q E s:=by
 have htake:sizeOk (.seq ((items.toList.drop (sIx items.size 0 lo)).take (sIx items.size items.size hi - sIx items.size 0 lo)).toArray):=by
  show ((items.toList.drop (sIx items.size 0 lo)).take (sIx items.size items.size hi - sIx items.size 0 lo)).toArray.size<=sizeLine
  rw [List.size_toArray,List.length_take,List.length_drop,Array.length_toList]
  omega
 have hj:sIx items.size items.size hi<=items.size:=zvq _ _ (Nat.le_refl _) hi
 obtain ⟨os,hos,hcs,hds⟩:=id hs
 have hTs:s.TypeIs (.ref sl) "slice":=⟨os,hos,hcs⟩
 unfold getItem
 try with_reducible refine wpAny_holding ?_
 first | refine wpAny_bind (wpAny_pure ?_) | skip
 refine wpAny_bind (wpAny_sequenceKey ht.typeIs (by decide) ?_)
 refine wpAny_bind (wpAny_callSpecial?_slot (name:=Str.ofString "__getitem__") ht.typeIs PyProof.Rows.slot_tuple_getitem
  (wpAny_call_entry PyProof.Rows.slot_tuple_getitem ht.typeIs entry_tuple_getitem ?_ (args_tuple_getitem _ _)))
 show wpAny _ _ (Builtin.Tuple.tupleItemsOf (.ref t) >>= _) _ _ s
 refine wpAny_bind (tupleItemsOf_ ht ?_)
 refine wpAny_bind (wpAny_typeOf hTs ?_)
 rw [if_pos (by decide)]
 refine wpAny_bind (zdM hs pl pu ?_)
 have hno:¬ ((((sIx items.size 0 lo:Nat):Int) == 0 && (1:Int) == 1 && (sIx items.size items.size hi - sIx items.size 0 lo) == items.size)=true):=by
  intro q
  rw [Bool.and_eq_true,Bool.and_eq_true] at q
  have q1:((sIx items.size 0 lo:Nat):Int)=0:=eq_of_beq q.1.1
  have q2:sIx items.size items.size hi - sIx items.size 0 lo=items.size:=eq_of_beq q.2
  exact hw ⟨by omega,by omega⟩
 show wpAny _ _ (if (((sIx items.size 0 lo:Nat):Int) == 0 && (1:Int) == 1 && (sIx items.size items.size hi - sIx items.size 0 lo) == items.size)=true then _ else _) _ _ s
 rw [if_neg hno,zrD]
 first
  | exact wpAny_bind (m:=Builtin.Tuple.tupleExact _) (wpAny_newObj_type (wpAny_pure ⟨_,rfl,wpAny_pure h⟩) htake)
  | exact wpAny_bind (m:=Builtin.Tuple.tupleExact _) (wpAny_newObj_type (wpAny_bind (wpAny_pure (wpAny_pure ⟨_,rfl,wpAny_pure h⟩))) htake)
  | exact wpAny_bind (wpAny_bind (m:=Builtin.Tuple.tupleExact _) (wpAny_newObj_type (wpAny_pure (wpAny_pure ⟨_,rfl,wpAny_pure h⟩)) htake))
  | exact wpAny_bind (wpAny_bind (m:=Builtin.Tuple.tupleExact _) (wpAny_newObj_type (wpAny_pure ⟨_,rfl,wpAny_pure h⟩) htake))
end
end HT
namespace L2
open PySem PySem.Spec PyProof.Rows
abbrev TO:=St->Hp->(Option Int->Hp->Prop)->Prop
def PO (X:Cx) (e:Option Expr) (t:TO):Prop :=
 ∀ (pins:List (Addr × Obj)) (s:Shared) (σ:St) (H:Hp) (Q:Option Int->Hp->Prop),Inv X pins σ H s->t σ H Q ->
  wpAny (model X.prog X.w) X.A (evalPart e X.env) (fun u s'=>∃ o H',Inv X pins σ H' s'/\IsPart u o/\Q o H') X.xe s
def ztz:TO:=fun _ H Q=>Q none H
def zxi (t:TE):TO:=fun σ H Q=>t σ H fun x H1=>∃ i,x=.int i/\Q (some i) H1
theorem intsAre_of {ns:List Int}:∀ {us:List Value},Vals (ns.map V.int) us->IntsAre us ns:=by
 induction ns with
 | nil=>intro us r;rw [List.map_nil] at r;cases r;exact .nil
 | cons n ns ih =>
  intro us r
  rw [List.map_cons] at r
  cases r with
  | cons r1 r2 =>
   obtain ⟨t,e⟩:=r1
   subst e
   exact .cons n t (ih r2)
section
variable {X:Cx} {e:Expr} {te:TE} {lo hi:Option Expr} {tl th:TO} {pos p2:Pos}
theorem zt1:PO X none ztz:=by
 intro pins s σ H Q I h
 rw [evalPart_none]
 exact wpAny_pure ⟨none,H,I,.none,h⟩
theorem zt0 (h:PE X e te):PO X (some e) (zxi te):=by
 intro pins s σ H Q I hw
 rw [evalPart_some]
 refine thn (h pins s σ H _ I hw) fun u s1 ⟨x,H1,I1,r1,q1⟩=>?_
 obtain ⟨i,rfl,q⟩:=q1
 obtain ⟨t,rfl⟩:=r1
 exact ⟨some i,H1,I1,.int i t,q⟩
def SlR (X:Cx) (r:V->Option Int->Option Int->Hp->VK->Prop):Prop :=
 ∀ (pins:List (Addr × Obj)) (s:Shared) (σ:St) (H:Hp) (x:V) (v vl vu:Value) (lo hi:Option Int) (sl:Addr) (Q:VK),Inv X pins σ H s->RelV x v->s.heap.IsSliceOf sl vl vu .none->IsPart vl lo->IsPart vu hi->r x lo hi H Q ->
  ∃ T id,typeLookup (.type T) "__getitem__"=pure (some (.builtin id))/\s.TypeIs v T/\wpAny (model X.prog X.w) X.A (getItem v (.ref sl)) (EP X pins σ Q) X.xe s
def tSl (r:V->Option Int->Option Int->Hp->VK->Prop) (te:TE) (tl th:TO):TE:=fun σ H Q=>te σ H fun x H1=>tl σ H1 fun l H2=>th σ H2 fun u H3=>r x l u H3 Q
theorem zrF {r:V->Option Int->Option Int->Hp->VK->Prop} (hr:SlR X r) (he:PE X e te) (hl:PO X lo tl) (hu:PO X hi th):PE X (.Subscript e (.Slice lo hi none p2) pos) (tSl r te tl th):=by
 intro pins s σ H Q I h
 refine Subscript_ (thn (he pins s σ H _ I h) fun v s1 ⟨x,H1,I1,r1,q1⟩=>?_)
 refine wpAny_Slice (thn (hl pins s1 σ H1 _ I1 q1) fun vl s2 ⟨l,H2,I2,pl,q2⟩=>thn (hu pins s2 σ H2 _ I2 q2) fun vu s3 ⟨u,H3,I3,pu,q3⟩=>?_)
 rw [evalPart_none]
 refine wpAny_pure ?_
 have I4:Inv X pins σ H3 { s3 with heap:=s3.heap.push { cls:=.type "slice",data:=.fields #[vl,vu,.none] } }:=I3.kept (t':=s3.toks) fun b ob q=>Heap.get?_push_of_some _ q
 obtain ⟨T,id,hT,ht,hg⟩:=hr pins { s3 with heap:=s3.heap.push { cls:=.type "slice",data:=.fields #[vl,vu,.none] } } σ H3 x v vl vu l u s3.heap.objs.size Q I4 r1 (Heap.IsSliceOf.new ..) pl pu q3
 show wpAny (model X.prog X.w) X.A (subscriptTail e (.Slice lo hi none p2) v (.ref s3.heap.objs.size)) (EP X pins σ Q) X.xe { s3 with heap:=s3.heap.push { cls:=.type "slice",data:=.fields #[vl,vu,.none] } }
 exact tail_any (ops:=[.ref s3.heap.objs.size,v]) ht hT hg (by with_unfolding_all rfl)
def zsq (xs:List V) (lo hi:Option Int):List V:=(xs.drop (HT.sIx xs.length 0 lo)).take (HT.sIx xs.length xs.length hi - HT.sIx xs.length 0 lo)
theorem zic (xs:List V) (lo hi:Option Int):(zsq xs lo hi).length<=xs.length:=by
 unfold zsq
 rw [List.length_take,List.length_drop]
 omega
def zyG (K:PySem.W.Frag):V->Option Int->Option Int->Hp->VK->Prop:=fun x lo hi H Q=>∃ a xs,x=.ref a/\SqT K H a xs /\
 ¬ (HT.sIx xs.length 0 lo=0/\HT.sIx xs.length xs.length hi=xs.length)/\∀ p,H p=none->Q (.ref p) (upd H p (.tup (zsq xs lo hi)))
theorem zvo:SlR X (zyG X.K):=by
 intro pins s σ H x v vl vu lo hi sl Q I rx hs pl pu h
 obtain ⟨a,xs,rfl,hx,hw,q⟩:=h
 cases rx
 obtain ⟨its,r,ht,hz⟩:=I.tuple hx
 have hlen:its.toArray.size=xs.length:=by rw [List.size_toArray];exact r.length.symm
 refine ⟨"tuple",_,PyProof.Rows.slot_tuple_getitem.lookup,ht.typeIs,?_⟩
 refine HT.zgp ht hs pl pu (by rw [hlen];exact hw) ?_ (by rw [hlen];exact hz)
 rw [hlen]
 refine ⟨.ref s.heap.objs.size,_,I.laid (t':=s.toks) (o:=.tup (zsq xs lo hi)) (fun b ob q=>Heap.get?_push_of_some _ q) (Nat.le_refl _) ?_,rfl,q _ (I.hok.fresh (Nat.le_refl _))⟩
 exact ⟨Nat.le_trans (zic xs lo hi) hz,_,(r.drop (HT.sIx xs.length 0 lo)).take (HT.sIx xs.length xs.length hi - HT.sIx xs.length 0 lo),IsTup.new _ _⟩
def zxq (K:PySem.W.Frag):R2:=fun x y H Q=>∃ a b xs ys,x=.ref a/\y=.ref b/\SqT K H a xs/\SqT K H b ys/\xs ≠ []/\xs.length + ys.length<=sizeLine /\
 (ys=[]->Q (.ref a) H)/\(ys ≠ []->∀ p,H p=none->Q (.ref p) (upd H p (.tup (xs ++ ys))))
theorem Vals.zmf {xs:List V} {us:List Value} (r:Vals xs us):us=[] ↔ xs=[]:=by
 cases r with
 | nil=>simp
 | cons _ _=>simp
theorem zuh:OpR X (binaryOp .Add) (zxq X.K):=by
 intro pins s σ H x y v u Q I rx ry h
 obtain ⟨a,b,xs,ys,rfl,rfl,ha,hb,hx,hz,q1,q2⟩:=h
 cases rx
 cases ry
 obtain ⟨its,r1,p1,_⟩:=I.tuple ha
 obtain ⟨its2,r2,p2,_⟩:=I.tuple hb
 refine HT.zuX p1 p2 (fun z=>hx (r1.zmf.mp z)) (fun z=>⟨.ref a,H,I,rfl,q1 (r2.zmf.mp z)⟩) (fun z=>?_) (by rw [<- r1.length,<- r2.length];exact hz)
 refine ⟨.ref s.heap.objs.size,_,I.laid (t':=s.toks) (o:=.tup (xs ++ ys)) (fun b ob q=>Heap.get?_push_of_some _ q) (Nat.le_refl _) ?_,rfl,q2 (fun w=>z (r2.zmf.mpr w)) _ (I.hok.fresh (Nat.le_refl _))⟩
 exact ⟨by rw [List.length_append];exact hz,_,r1.append r2,IsTup.new _ _⟩
end
end L2
namespace L2
open PySem PySem.Spec PyProof.Rows
def ixN (n:Nat) (i:Int):Option Nat:=if 0<=i then (if i < n then some i.toNat else none) else if -(n:Int)<=i then some (i + n).toNat else none
def atI {α:Type} (xs:List α) (i:Int):Option α:=(ixN xs.length i).bind fun j=>xs[j]?
theorem zp4 {n:Nat} {i:Int} {j:Nat} (h:ixN n i=some j):seqIndex? i n=some j/\j < n/\-(n:Int)<=i/\i < n:=by
 unfold ixN at h
 by_cases h0:0<=i
 ·rw [if_pos h0] at h
  by_cases h1:i < n
  ·rw [if_pos h1] at h
   have e:i.toNat=j:=Option.some.inj h
   exact ⟨by rw [seqIndex_of h0 h1,e],by omega,by omega,h1⟩
  ·rw [if_neg h1] at h;cases h
 ·rw [if_neg h0] at h
  by_cases h1:-(n:Int)<=i
  ·rw [if_pos h1] at h
   have e:(i + n).toNat=j:=Option.some.inj h
   exact ⟨by rw [seqIndex_neg (by omega) h1,e],by omega,h1,by omega⟩
  ·rw [if_neg h1] at h;cases h
theorem zqO {α:Type} {xs:List α} {i:Int} {v:α} (h:atI xs i=some v):∃ j,seqIndex? i xs.length=some j/\xs[j]?=some v/\j < xs.length/\-(xs.length:Int)<=i/\i < xs.length:=by
 unfold atI at h
 cases e:ixN xs.length i with
 | none=>rw [e] at h;cases h
 | some j =>
  rw [e] at h
  obtain ⟨h1,h2,h3,h4⟩:=zp4 e
  exact ⟨j,h1,h,h2,h3,h4⟩
def zkt (b:Expr):Prop:=∀ o i,subscripted b false o i=operate [o,i] (getItem o i)
def IxR (X:Cx) (r:R2):Prop :=
 ∀ (value slice:Expr) (pins:List (Addr × Obj)) (s:Shared) (σ:St) (H:Hp) (x y:V) (v u:Value) (Q:VK),Inv X pins σ H s->RelV x v->RelV y u->r x y H Q ->
  subscripted slice false v u=operate [v,u] (getItem v u)->wpAny (model X.prog X.w) X.A (subscriptTail value slice v u) (EP X pins σ Q) X.xe s
def MtR (X:Cx) (id:String) (r:V->List V->Hp->VK->Prop):Prop :=
 ∀ (pins:List (Addr × Obj)) (s:Shared) (σ:St) (H:Hp) (x:V) (xs:List V) (v:Value) (us:List Value) (Q:VK),Inv X pins σ H s->RelV x v->Vals xs us->r x xs H Q ->
  wpAny (model X.prog X.w) X.A (call (.builtin id) (v :: us)) (EP X pins σ Q) X.xe s
section
variable {X:Cx} {a b:Expr} {ta tb:TE} {pos:Pos}
theorem zvW {r:R2} (hr:IxR X r) (ha:PE X a ta) (hb:PE X b tb) (hs:zkt b):PE X (.Subscript a b pos) (tOp r ta tb):=by
 intro pins s σ H Q I h
 exact Subscript_ (zx3 ha hb I h fun v u s2 x y H2 I2 rx ry q=>hr a b pins s2 σ H2 x y v u Q I2 rx ry q (hs _ _))
def zyL (K:PySem.W.Frag):R2:=fun x y H Q=>∃ p xs i v,x=.ref p/\y=.int i/\SqL K H p xs/\atI xs i=some v/\Q v H
def zyK (K:PySem.W.Frag):R2:=fun x y H Q=>∃ p xs i v,x=.ref p/\y=.int i/\SqT K H p xs/\atI xs i=some v/\Q v H
theorem zgn:IxR X (zyL X.K):=by
 intro value slice pins s σ H x y v u Q I rx ry h hs
 obtain ⟨p,xs,i,z,rfl,rfl,hq,he,q⟩:=h
 cases rx
 obtain ⟨t,rfl⟩:=ry
 obtain ⟨its,r,pl,hz⟩:=I.list hq
 obtain ⟨j,h1,h2,h3,h4,h5⟩:=zqO he
 obtain ⟨w,ew,rw'⟩:=r.get h2
 have hl:=r.length
 have hn:=zk3
 have fin:EP X pins σ Q w s:=⟨z,H,I,rw',q⟩
 by_cases h0:0<=i
 ·have hj:i.toNat=j:=by
   rw [seqIndex_of h0 h5] at h1
   exact Option.some.inj h1
  exact item_listR pl.isList h0 (by omega) (by rw [hj];simpa using ew) fin hs
 ·have hj:(i + (its.toArray.size:Int)).toNat=j:=by
   rw [seqIndex_neg (by omega) h4] at h1
   rw [List.size_toArray,<- hl]
   exact Option.some.inj h1
  exact subscriptTail_builtinR (x:=w) pl.isList.typeIs slot_list_getitem.lookup
   (wpAny_getItem_list_neg (Q:=fun r s'=>r=w/\EP X pins σ Q r s') pl.isList (by omega) (by rw [List.size_toArray] <;> omega) (by omega) (by rw [hj];simpa using ew) ⟨rfl,fin⟩) hs
theorem zwx:IxR X (zyK X.K):=by
 intro value slice pins s σ H x y v u Q I rx ry h hs
 obtain ⟨p,xs,i,z,rfl,rfl,hq,he,q⟩:=h
 cases rx
 obtain ⟨t,rfl⟩:=ry
 obtain ⟨its,r,pl,hz⟩:=I.tuple hq
 obtain ⟨j,h1,h2,h3,h4,h5⟩:=zqO he
 obtain ⟨w,ew,rw'⟩:=r.get h2
 have hl:=r.length
 have hn:=zk3
 have fin:EP X pins σ Q w s:=⟨z,H,I,rw',q⟩
 exact subscriptTail_builtinR (x:=w) pl.typeIs slot_tuple_getitem.lookup
  (getItem_tuple (j:=j) (Q:=fun r s'=>r=w/\EP X pins σ Q r s') pl (by omega) (by omega) (by rw [List.size_toArray,<- hl];exact h1) (by simpa using ew) ⟨rfl,fin⟩) hs
theorem zoa (its:List Value) (n j:Nat) (u:Value):Obj.mapSeq (·.setIfInBounds j u) { cls:=.type "list",data:=.seq its.toArray n }={ cls:=.type "list",data:=.seq (its.set j u).toArray n }:=by
 simp [Obj.mapSeq]
theorem Inv.lst {pins:List (Addr × Obj)} {σ:St} {H:Hp} {s:Shared} {p:Addr} {xs:List V} (I:Inv X pins σ H s) (h:H p=some (.lst xs)) :
  ∃ (its:List Value) (n:Nat),Vals xs its/\s.heap.get? p=some { cls:=.type "list",data:=.seq its.toArray n }/\xs.length<=sizeLine:=by
 obtain ⟨z,its,n,r,e⟩:=I.hok p _ h
 exact ⟨its,n,r,e,z⟩
theorem Inv.zwl {pins:List (Addr × Obj)} {σ:St} {H:Hp} {s:Shared} {p:Addr} {xs ys:List V} {its its':List Value} {n n':Nat} {f:Obj->Obj} (I:Inv X pins σ H s) (h:H p=some (.lst xs))
  (ho:s.heap.get? p=some { cls:=.type "list",data:=.seq its.toArray n }) (hf:f { cls:=.type "list",data:=.seq its.toArray n }={ cls:=.type "list",data:=.seq its'.toArray n' }) (r:Vals ys its') (hz:ys.length<=sizeLine) (t:Nat) :
  Inv X pins σ (upd H p (.lst ys)) { s with heap:=s.heap.update p f,toks:=t }:=by
 have e:(s.heap.update p f).get? p=some { cls:=.type "list",data:=.seq its'.toArray n' }:=by
  rw [Heap.get?_update_self f ho (by rw [hf] <;> rfl),hf]
 refine I.write (x:=p) (e:=p) (by rw [h];trivial) (.inl rfl) (fun b u hb q=>(Heap.get?_update_other _ _ (Ne.symm hb)).trans q) ⟨_,e⟩ ?_
 exact ⟨hz,its',n',r,e⟩
def zxp:V->V->V->Hp->(Hp->Prop)->Prop:=fun o i v H Q=>∃ p xs k j,o=.ref p/\i=.int k/\H p=some (.lst xs)/\ixN xs.length k=some j/\Q (upd H p (.lst (xs.set j v)))
theorem set_list:zys X zxp:=by
 intro pins s σ H o i v ov iv u Q I ro ri rv h
 obtain ⟨p,xs,k,j,rfl,rfl,hp,hj,q⟩:=h
 cases ro
 obtain ⟨t,rfl⟩:=ri
 obtain ⟨its,n,r,ho,hz⟩:=I.lst hp
 obtain ⟨h1,h2,h3,h4⟩:=zp4 hj
 have hl:=r.length
 have hn:=zk3
 have I':Inv X pins σ (upd H p (.lst (xs.set j v))) { s with heap:=s.heap.update p (Obj.mapSeq (·.setIfInBounds j u)) } :=
  I.zwl hp ho (zoa its n j u) (r.set rv j) (by rw [List.length_set];exact hz) s.toks
 by_cases h0:0<=k
 ·have hk:k.toNat=j:=by
   rw [seqIndex_of h0 h4] at h1
   exact Option.some.inj h1
  exact PySem.W.ki_setAt ho h0 (by omega) (by rw [List.size_toArray,<- hl];exact h4) (by rw [hk];exact ⟨_,I',q⟩)
 ·have hk:(k + (its.toArray.size:Int)).toNat=j:=by
   rw [seqIndex_neg (by omega) h3] at h1
   rw [List.size_toArray,<- hl]
   exact Option.some.inj h1
  exact PySem.W.ki_setBack ho (by omega) (by rw [List.size_toArray,<- hl];exact h3) (by omega) (by rw [hk];exact ⟨_,I',q⟩)
theorem zkL (lo hi:Option Int) (n:Nat):(sliceBounds lo hi none n).1=((HT.sIx n 0 lo:Nat):Int)/\(sliceBounds lo hi none n).2.1=((HT.sIx n n hi:Nat):Int)/\(sliceBounds lo hi none n).2.2=1:=by
 refine ⟨?_,?_,rfl⟩
 ·cases lo with
  | none=>simp [sliceBounds,HT.sIx]
  | some i =>
   simp only [sliceBounds,HT.sIx,Option.getD_none,show (1:Int) > 0 by decide,if_true]
   by_cases h:i < 0
   ·simp only [h,if_true] <;> omega
   ·simp only [h,if_false] <;> omega
 ·cases hi with
  | none=>simp [sliceBounds,HT.sIx]
  | some i =>
   simp only [sliceBounds,HT.sIx,Option.getD_none,show (1:Int) > 0 by decide,if_true]
   by_cases h:i < 0
   ·simp only [h,if_true] <;> omega
   ·simp only [h,if_false] <;> omega
theorem zjN (its:List Value) (lo hi:Option Int):slicePick its.toArray lo hi none=((its.drop (HT.sIx its.length 0 lo)).take (HT.sIx its.length its.length hi - HT.sIx its.length 0 lo)).toArray:=by
 obtain ⟨h1,h2,h3⟩:=zkL lo hi its.toArray.size
 unfold slicePick
 rw [h1,h2,h3]
 simp only [sliceRange_one,pick_run,List.size_toArray] <;> rfl
def zyH (K:PySem.W.Frag):V->Option Int->Option Int->Hp->VK->Prop:=fun x lo hi H Q=>∃ a xs,x=.ref a/\SqL K H a xs/\∀ p,H p=none->Q (.ref p) (upd H p (.lst (zsq xs lo hi)))
theorem ztB:SlR X (zyH X.K):=by
 intro pins s σ H x v vl vu lo hi sl Q I rx hs pl pu h
 obtain ⟨a,xs,rfl,hx,q⟩:=h
 cases rx
 obtain ⟨its,r,ht,hz⟩:=I.list hx
 have hlen:=r.length
 refine ⟨"list",_,slot_list_getitem.lookup,ht.isList.typeIs,?_⟩
 refine wpAny_getItem_list_slice ht.isList hs pl pu .none (by simp) ?_ (by rw [List.size_toArray] <;> omega)
 rw [zjN,<- hlen]
 refine ⟨.ref s.heap.objs.size,_,I.laid (t':=s.toks) (o:=.lst (zsq xs lo hi)) (fun b ob q=>Heap.get?_push_of_some _ q) (Nat.le_refl _) ?_,rfl,q _ (I.hok.fresh (Nat.le_refl _))⟩
 exact ⟨Nat.le_trans (zic xs lo hi) hz,_,0,(r.drop (HT.sIx xs.length 0 lo)).take (HT.sIx xs.length xs.length hi - HT.sIx xs.length 0 lo),Heap.get?_push_size _ rfl⟩
theorem zgR:zgG X (.builtin "len") (fun xs H Q=>∃ p ys,xs=[.ref p]/\(SqL X.K H p ys\/SqT X.K H p ys)/\Q (.int ys.length) H):=by
 intro pins s σ H xs us Q I r h
 obtain ⟨p,ys,rfl,hq,q⟩:=h
 obtain ⟨u,rfl,rx⟩:=vals1 r
 cases rx
 have hn:=zk3
 rcases hq with hq | hq
 ·obtain ⟨its,r',pl,hz⟩:=I.list hq
  have hlen:=r'.length
  exact Calls.call_len_list pl.isList (by simp only [List.size_toArray] <;> omega) ⟨.int ys.length,H,I.tok _,⟨s.toks + 1,by rw [List.size_toArray,hlen]⟩,q⟩
 ·obtain ⟨its,r',pl,hz⟩:=I.tuple hq
  have hlen:=r'.length
  exact len_tuple pl (by simp only [List.size_toArray] <;> omega) ⟨.int ys.length,H,I.tok _,⟨s.toks + 1,by rw [List.size_toArray,hlen]⟩,q⟩
theorem zgQ:zgG X (.type "list") (fun xs H Q=>∃ p ys,xs=[.ref p]/\(SqL X.K H p ys\/SqT X.K H p ys)/\∀ l,H l=none->Q (.ref l) (upd H l (.lst ys))):=by
 intro pins s σ H xs us Q I r h
 obtain ⟨p,ys,rfl,hq,q⟩:=h
 obtain ⟨u,rfl,rx⟩:=vals1 r
 cases rx
 have fin:∀ (its:List Value),Vals ys its->ys.length<=sizeLine->∀ (h':Heap) (c':Nat),(∀ b o',s.heap.get? b=some o'->h'.get? b=some o') ->
   h'.get? s.heap.objs.size=some { cls:=.type "list",dict:=none,data:=.seq its.toArray c',slots:=#[] }->EP X pins σ Q (.ref s.heap.objs.size) { s with heap:=h' }:=fun its r' hz h' c' kp e =>
  ⟨.ref s.heap.objs.size,_,I.laid (t':=s.toks) kp (Nat.le_refl _) (show zbN X.prog X.w _ h' _ (.lst ys) from ⟨hz,its,c',r',e⟩),rfl,q _ (I.hok.fresh (Nat.le_refl _))⟩
 rcases hq with hq | hq
 ·obtain ⟨its,r',pl,hz⟩:=I.list hq
  have hlen:=r'.length
  obtain ⟨o,ho,hc,n,hd⟩:=pl.isList
  exact call_list_seq p (.inl rfl) ho hc hd (fun h' c' kp e=>fin its r' hz h' c' kp e) (by simp only [List.size_toArray] <;> omega)
 ·obtain ⟨its,r',pl,hz⟩:=I.tuple hq
  have hlen:=r'.length
  obtain ⟨o,ho,hc,n,hd⟩:=pl
  exact call_list_seq p (.inr rfl) ho hc hd (fun h' c' kp e=>fin its r' hz h' c' kp e) (by simp only [List.size_toArray] <;> omega)
def tyV (K:PySem.W.Frag) (T:String) (x:V) (H:Hp):Prop:=match x with
 | .str _=>T="str"
 | .int _=>T="int"
 | .ref p=>(T="list"/\∃ xs,SqL K H p xs)\/(T="tuple"/\∃ o,K.lookup p=some o/\o.cls=.type "tuple"/\o.dict=none) \/
   (T="dict"/\((∃ kvs,H p=some (.dK kvs))\/∃ kvs,H p=some (.dT kvs)))\/(T="set"/\∃ S n,H p=some (.set S n))
 | _=>False
theorem zvf {pins:List (Addr × Obj)} {σ:St} {H:Hp} {s:Shared} {T:String} {x:V} {v:Value} (I:Inv X pins σ H s) (r:RelV x v) (ty:tyV X.K T x H) :
  s.TypeIs v T/\∀ a,v=.ref a->∃ ob,s.heap.get? a=some ob/\ob.dict=none:=by
 cases x with
 | str z =>
  obtain ⟨t,rfl⟩:=r
  cases (show T="str" from ty)
  exact ⟨typeIs_str s z t,fun _ e=>nomatch e⟩
 | int i =>
  obtain ⟨t,rfl⟩:=r
  cases (show T="int" from ty)
  exact ⟨typeIs_int s i t,fun _ e=>nomatch e⟩
 | ref p =>
  cases r
  rcases ty with ⟨rfl,xs,hq⟩ | ⟨rfl,o,hk,hc,hd⟩ | ⟨rfl,hk⟩ | ⟨rfl,S,n,hk⟩
  ·obtain ⟨its,_,pl,_⟩:=I.list hq
   refine ⟨pl.isList.typeIs,fun a e=>?_⟩
   cases e
   obtain ⟨o,n,e,c,hd,_⟩:=pl
   exact ⟨o,e,hd⟩
  ·refine ⟨⟨o,I.kIn p o hk,hc⟩,fun a e=>?_⟩
   cases e
   exact ⟨o,I.kIn _ o hk,hd⟩
  ·have z:∃ o,s.heap.get? p=some o/\o.ExactDict:=by
    rcases hk with ⟨kvs,hk⟩ | ⟨kvs,hk⟩
    ·obtain ⟨_,_,_,_,o,_,_,e,ex,_⟩:=I.hok p _ hk
     exact ⟨o,e,ex⟩
    ·obtain ⟨_,_,_,_,o,_,_,e,ex,_⟩:=I.hok p _ hk
     exact ⟨o,e,ex⟩
   obtain ⟨o,e,ex⟩:=z
   refine ⟨⟨o,e,ex.1⟩,fun a e2=>?_⟩
   cases e2
   exact ⟨o,e,ex.2.1⟩
  ·obtain ⟨o,_,_,_,e,ex,_⟩:=I.hok p _ hk
   refine ⟨⟨o,e,ex.1⟩,fun a e2=>?_⟩
   cases e2
   exact ⟨o,e,ex.2.1⟩
 | _=>exact False.elim ty
def tBM (K:PySem.W.Frag) (T:String) (r:V->List V->Hp->VK->Prop) (to:TE) (t:TA):TE:=fun σ H Q=>to σ H fun x H1=>tyV K T x H1/\t σ H1 fun xs H2=>r x xs H2 Q
variable {o e:Expr} {es:List Expr} {to:TE} {t:TA} {name:Str} {apos cpos:Pos} {T id:String} {r:V->List V->Hp->VK->Prop}
theorem zvY (pa:PlainAttrs T) (slot:Slot T name id) (hty:typeOf (.builtin id)=pure (.type "method_descriptor")) (hm:MtR X id r) (ho:PE X o to) (ha:PA X (e :: es) t)
  (hbase:attributeBase o name X.env (eval o X.env)=eval o X.env:=by rfl)
  (hfew:((backTo cpos (starEach (e :: es) X.env)).all (fun x=>!x.1) && (backToKw cpos (keywordEach [] X.env)).all (fun x=>x.1.isSome)
   && decide ((e :: es).length + ([]:List Keyword).length + (if ([]:List Keyword).isEmpty then 0 else 1) < 30))=true:=by rfl)
  (hline:(apos.endLine == cpos.line)=true:=by rfl) (hs:starEach (e :: es) X.env=(false,eval e X.env) :: starEach es X.env:=by rfl) (hplain:(backTo cpos (starEach es X.env)).any (·.1)=false:=by rfl) :
  PE X (.Call (.Attribute o name apos) (e :: es) [] cpos) (tBM X.K T r to t):=by
 intro pins s σ H Q I h
 refine wpAny_Call_method_late hbase hfew hline rfl (thn (ho pins s σ H _ I h) fun v s1 ⟨x,H1,I1,r1,ty,q1⟩=>?_)
 obtain ⟨h1,h2⟩:=zvf I1 r1 ty
 refine ⟨T,id,pa,slot,hty,h1,h2,?_⟩
 have hA:=ha cpos pins s1 σ H1 _ I1 q1
 rw [hs] at hA ⊢
 refine Calls.callWith_builtin (by show (false || (backTo cpos (starEach es X.env)).any (·.1))=false;rw [hplain] <;> rfl) (Calls.evalArgs_plain ?_)
 exact thn hA fun us s2 ⟨vs,H2,I2,r2,q2⟩=>hm pins s2 σ H2 x vs v us Q I2 r1 r2 q2
end
end L2
namespace L2
open PySem PySem.Spec PyProof.Rows
def MtM (X:Cx) (id:String) (r:V->List V->Hp->VK->Prop):Prop :=
 ∀ (pins:List (Addr × Obj)) (s:Shared) (σ:St) (H:Hp) (x:V) (xs:List V) (v:Value) (us:List Value) (Q:VK),Inv X pins σ H s->RelV x v->Vals xs us->r x xs H Q ->
  wpAny (model X.prog X.w) X.A (call (.builtin id) (v :: us)) (EP X pins σ Q) X.xe s
theorem Vals.one:∀ {x:V} {us:List Value},Vals [x] us->∃ u,us=[u]/\RelV x u
 | _,_,.cons r .nil=>⟨_,rfl,r⟩
theorem Vals.dropLast {xs:List V} {us:List Value} (h:Vals xs us):Vals xs.dropLast us.dropLast:=by
 induction h with
 | nil=>exact .nil
 | cons r t ih =>
  cases t with
  | nil=>exact .nil
  | cons q t'=>exact .cons r ih
theorem Vals.rep {xs:List V} {us:List Value} (h:Vals xs us):∀ k:Nat,Vals (List.replicate k xs).flatten (List.replicate k us).flatten
 | 0=>.nil
 | k + 1=>by
  rw [List.replicate_succ,List.replicate_succ,List.flatten_cons,List.flatten_cons]
  exact Vals.append h (Vals.rep h k)
theorem zu9 {α:Type} (l:List α):l.eraseIdx (l.length - 1)=l.dropLast:=by
 induction l with
 | nil=>rfl
 | cons a r ih =>
  cases r with
  | nil=>rfl
  | cons b r =>
   have e:(a :: b :: r).length - 1=((b :: r).length - 1) + 1:=by
    have h1:(a :: b :: r).length=r.length + 2:=rfl
    have h2:(b :: r).length=r.length + 1:=rfl
    omega
   rw [e,List.eraseIdx_cons_succ,ih]
   all_goals rfl
theorem foldl_rep (its:List Value):∀ (k:Nat) (acc:List Value),
  List.foldl (fun x1 x2=>x1 ++ x2) acc.toArray (List.replicate k its.toArray)=(acc ++ (List.replicate k its).flatten).toArray
 | 0,acc=>by simp
 | k + 1,acc=>by
  have e:acc.toArray ++ its.toArray=(acc ++ its).toArray:=by simp
  have e2:(acc ++ its) ++ (List.replicate k its).flatten=acc ++ (List.replicate (k + 1) its).flatten:=by
   rw [List.replicate_succ,List.flatten_cons,List.append_assoc]
  rw [<- e2,<- foldl_rep its k (acc ++ its),<- e,List.replicate_succ,List.foldl_cons]
section
variable {X:Cx} {pins:List (Addr × Obj)} {σ:St} {H:Hp} {s:Shared} {l b:Addr} {xs ys zs:List V}
theorem Inv.zyh {its its':List Value} {n:Nat} {f:Array Value->Array Value} {t':Nat} (I:Inv X pins σ H s) (hH:H l=some (.lst xs))
  (e:s.heap.get? l=some { cls:=.type "list",data:=.seq its.toArray n }) (hf:f its.toArray=its'.toArray) (hv:Vals ys its') (hz:ys.length<=sizeLine) :
  Inv X pins σ (upd H l (.lst ys)) { s with heap:=s.heap.update l (Obj.mapSeq f),toks:=t' }:=by
 have q:=PySem.IsL.update e f
 rw [hf] at q
 refine I.write (x:=l) (e:=l) (by rw [hH];exact trivial) (.inl rfl) (fun b' u hb hu=>(Heap.get?_update_other s.heap (Obj.mapSeq f) (Ne.symm hb)).trans hu) ⟨_,q⟩ ?_
 exact ⟨hz,its',_,hv,q⟩
theorem Inv.zyi {its:List Value} {t':Nat} (I:Inv X pins σ H s) (hv:Vals ys its) (hz:ys.length<=sizeLine) :
  Inv X pins σ (upd H s.heap.objs.size (.lst ys)) { s with heap:=s.heap.push { cls:=.type "list",data:=.seq its.toArray },toks:=t' } :=
 I.laid (fun _ _ q=>Heap.get?_push_of_some _ q) (Nat.le_refl _) ⟨hz,its,0,hv,Heap.get?_push_size _ rfl⟩
theorem Inv.fresh (I:Inv X pins σ H s):H s.heap.objs.size=none:=I.hok.fresh (Nat.le_refl _)
theorem Inv.zxK (I:Inv X pins σ H s) (hH:H l=some (.lst xs)):xs.length<=sizeLine/\∃ (its:List Value) (n:Nat),Vals xs its/\xs.length=its.length/\s.heap.get? l=some { cls:=.type "list",data:=.seq its.toArray n }:=by
 obtain ⟨z,its,n,r,e⟩:=I.hok l _ hH
 exact ⟨z,its,n,r,r.length,e⟩
theorem zrQ {n:Nat} (h:n<=sizeLine):Builtin.List.listTooLong n=false:=by
 unfold Builtin.List.listTooLong
 exact decide_eq_false (by omega)
end
section
variable {X:Cx}
def ztG:V->List V->Hp->VK->Prop:=fun x vs H Q=>∃ l xs y,x=.ref l/\vs=[y]/\H l=some (.lst xs)/\xs.length < sizeLine/\Q .non (upd H l (.lst (xs ++ [y])))
theorem zhS:MtM X "list.append" ztG:=by
 intro pins s σ H x vs v us Q I rx rv h
 obtain ⟨l,xs,y,rfl,rfl,hH,hz,q⟩:=h
 cases rx
 obtain ⟨u,rfl,ru⟩:=rv.one
 obtain ⟨z,its,n,r,hl,e⟩:=I.zxK hH
 refine call_meets F.slot_list_append ⟨_,e,rfl⟩ F.entry_list_append (F.args_list_append_2 _ _) (PySem.list_append l its.toArray n u (by rw [List.size_toArray];omega)) ⟨e,?_⟩
 refine ⟨.non,_,I.zyh (its':=its ++ [u]) hH e (by simp) (r.append (.cons ru .nil)) ?_,rfl,q⟩
 rw [List.length_append,List.length_singleton]
 omega
def zyI:R2:=fun x y H Q=>∃ l k xs,x=.ref l/\y=.int k/\H l=some (.lst xs)/\-(2 ^ 63)<=k/\k < 2 ^ 63/\xs.length * k.toNat<=sizeLine /\
 ∀ p,H p=none->Q (.ref p) (upd H p (.lst (List.replicate k.toNat xs).flatten))
theorem len_rep {α:Type} (xs:List α) (k:Nat):(List.replicate k xs).flatten.length=k * xs.length:=by
 induction k with
 | zero=>simp
 | succ k ih=>rw [List.replicate_succ,List.flatten_cons,List.length_append,ih,Nat.succ_mul,Nat.add_comm]
theorem zv2:OpR X (binaryOp .Mult) zyI:=by
 intro pins s σ H x y v u Q I rx ry h
 obtain ⟨l,k,xs,rfl,rfl,hH,h1,h2,hz,q⟩:=h
 cases rx
 obtain ⟨t,rfl⟩:=ry
 obtain ⟨z,its,n,r,hl,e⟩:=I.zxK hH
 have hlen:its.toArray.size * k.toNat<=sizeLine:=by rw [List.size_toArray,<- hl];exact hz
 have hcap:¬ its.toArray.size * k.toNat > (2 ^ 63 - 1) / 8:=by
  have:(sizeLine:Nat)<=(2 ^ 63 - 1) / 8:=by decide
  omega
 have hfit:¬ (!Builtin.List.listFitsIndex k)=true:=by
  rw [fitsIndex_both h1 h2]
  exact Bool.false_ne_true
 have hlong:¬ Builtin.List.listTooLong (its.toArray.size * k.toNat)=true:=by
  rw [zrQ hlen]
  exact Bool.false_ne_true
 have hnew:List.foldl (fun x1 x2=>x1 ++ x2) #[] (List.replicate (if its.toArray.isEmpty=true then 0 else k.toNat) its.toArray)=(List.replicate k.toNat its).flatten.toArray:=by
  have f0:∀ m:Nat,List.foldl (fun x1 x2=>x1 ++ x2) #[] (List.replicate m its.toArray)=(List.replicate m its).flatten.toArray:=fun m=>by
   have:=foldl_rep its m []
   rw [List.nil_append] at this
   exact this
  rw [f0]
  cases its with
  | nil=>simp
  | cons a r'=>rw [if_neg (by simp)]
 refine wpAny_binaryOp_repeat_ref (T:="list") (U:="int") (by decide) ⟨_,e,rfl⟩ (fun s'=>typeIs_int s' k t) noFill_list_mul F.fills_int_mul F.slot_int_rmul repeat_list F.slot_int_index.lookup
  (call_meets F.slot_int_rmul (typeIs_int s k t) F.entry_int_rmul (F.args_int_rmul_2 _ _) (int___rmul___int_list k t l its.toArray n)
   ⟨e,rfl,⟨_,e,rfl⟩,call_meets F.slot_list_mul ⟨_,e,rfl⟩ F.entry_list_mul (F.args_list_mul_2 _ _) (AutoListH.list___mul___list_int_3 l its.toArray n k t hfit hcap hlong) ⟨e,?_⟩⟩)
 rw [hnew]
 exact ⟨.ref _,_,I.zyi (t':=s.toks) (r.rep k.toNat) (by rw [len_rep,Nat.mul_comm];exact hz),rfl,q _ I.fresh⟩
end
end L2
namespace Att
open PySem PySem.W PySem.Calls PyProof.Rows
theorem zh2 {P:Params} {h:Heap}:∀ (ns:List Int) (vs:List Value),WellAll P h vs (ns.map WData.int)->IntsAre vs ns:=by
 intro ns
 induction ns with
 | nil =>
  intro vs w
  rw [List.map_nil] at w
  cases w
  exact .nil
 | cons n ns ih =>
  intro vs w
  rw [List.map_cons] at w
  cases w with
  | cons a b =>
   cases a
   exact .cons _ _ (ih _ b)
theorem zo8 {l:OpenLaw} {n:Nat} (hn:l.most=some n) {P:Params} {h:Heap} {args:List WData} {vals:List Value}
  (hpre:l.row.toRowW.claim.pre args=true) (hwl:WellAll P h vals args) :
  ∃ a vs ns,vals=[Value.ref a]/\args=[WData.list (ns.map WData.int)]/\h.get? a=some { cls:=.type "list",data:=.seq vs.toArray }/\IntsAre vs ns/\ns.length<=n:=by
 have hsh:WShape.hasAll [] args [.list .int]=true:=(pre_splitW hpre).1
 have hc:l.pre.holds [] { args:=args }=true:=(pre_splitW hpre).2
 obtain ⟨d,r,rfl,h1,h2⟩:=hasAllW_cons hsh
 obtain rfl:=hasAllW_nil h2
 obtain ⟨xs,rfl,h3⟩:=hasW_list h1
 obtain ⟨ns,rfl⟩:=items_int h3
 have hlen:ns.length<=n:=by
  unfold OpenLaw.pre at hc
  have h4:(WTm.not (.lt (.lit (.int (n:Int))) (.len (.arg 0)))).holds [] { args:=[.list (ns.map .int)] }=true:=by
   have h4:=(holds_andW hc).1
   rw [hn] at h4
   exact h4
  have h5:=condW_of h4 (w_not (w_lt w_lit (w_len_list (w_arg rfl))))
  rw [List.length_map] at h5
  refine Nat.le_of_not_lt fun q=>?_
  have q':(n:Int) < ((ns.length:Nat):Int):=by omega
  first
   | (rw [decide_eq_true q'] at h5;exact absurd h5 (by decide))
   | (simp at h5;omega)
 cases hwl with
 | cons w1 w2 =>
  cases w2
  cases w1 with
  | list ho hall=>exact ⟨_,_,ns,rfl,rfl,ho,zh2 ns _ hall,hlen⟩
theorem zpo (l:OpenLaw) (args:List WData):l.row.toRowW.claim.post args (.bool true) args=true :=
 postW_of (r:=l.row.toRowW) (X:=(true == true))
  (show WShape.has [] (.bool true) .bool=true by first | rfl | decide | simp [WShape.has,WShape.arms,WShape.armsAll])
  (show (WTm.eq .res (.lit (.bool true))).value [] { args:=args,res:=some (.bool true),after:=args }=some (.bool (true == true)) from w_eq_bool (w_res rfl) w_lit) rfl
theorem zmH {l:OpenLaw} {n:Nat} {q:Program} {loose:List Str} {XP:(Str->Option Value)->Heap->Prop} {YP:World->Heap->Prop} {d:DefRec}
  (hn:l.most=some n) (hdf:d.params.defaults=[])
  (call:∀ (w:World) (s₀ s₁:Shared) (mg mb:Str->Option Value) (fa:Addr) (o:Obj) (pm cd doc:Value) (a:Addr) (vs:List Value) (ns:List Int),
   Ground q loose [] XP w s₀ mg mb s₁.heap->YP w s₁.heap ->
   s₁.heap.get? fa=some o->o.data=.func (docDef d.name d.params d.body d.scope pm cd doc)->s₁.heap.CodeRec cd d.name->mg d.name=some (.ref fa) ->
   s₁.heap.get? a=some { cls:=.type "list",data:=.seq vs.toArray }->IntsAre vs ns->ns.length<=n->s₁.gens=#[] ->
   codeAny (model l.prog w) callerA (.call (.ref fa) ⟨[.ref a],[]⟩) (fun r s'=>r=.ok (.ret (.bool true))/\OldK s₁.heap s'.heap/\s'.os=s₁.os/\AllBare s'.gens) s₁) :
  WalkO q loose XP YP l.row.toRowW d [] (fun f vs=>PySem.call f vs):=by
 intro w s₀ s₁ mg mb G Y fa o pm cd doc dV kV ho hd hcd hD hmg hg args vals as hpre hlay hrd hwl hlo
 obtain rfl:dV=.none:=Dflts.none hD hdf
 obtain rfl:kV=.none:=Dflts.noKw hD
 obtain ⟨a,vs,ns,rfl,rfl,hobj,hints,hlen⟩:=zo8 hn hpre hwl
 refine enter_call (codeAny_mono (call w s₀ s₁ mg mb fa o pm cd doc a vs ns G Y ho (fd_plain hd) hcd hmg hobj hints hlen hg) fun r s' hq=>?_)
 obtain ⟨rfl,h2,h3,h4⟩:=hq
 exact ⟨.inl ⟨.bool true,.bool true,[],rfl,fun _=>rfl,.bool true,zpo l _,fun _=>⟨List.Pairwise.nil,fun _ hm=>(nomatch hm)⟩⟩,h2,h3,h4⟩
end Att
namespace L2
open PySem PySem.Spec PyProof.Rows
theorem zkG:∀ {vs:List Value} {ns:List Int},IntsAre vs ns->Vals (ns.map V.int) vs
 | _,_,.nil=>.nil
 | _,_,.cons n t h=>.cons ⟨t,rfl⟩ (zkG h)
end L2
namespace L2
open PySem PySem.Spec PyProof.Rows
abbrev KOf {K:PySem.W.Frag} {h:Heap} (_:K.In h):PySem.W.Frag:=K
end L2
namespace L2
open PySem PySem.Spec PyProof.Rows
def zdy (s:Stmt):Arguments:=match s with
 | .FunctionDef _ a _ _ _ _ _ _ _ _=>a
 | _=>{ posonlyargs:=[],args:=[],vararg:=none,kwonlyargs:=[],kw_defaults:=[],kwarg:=none,defaults:=[] }
def zb1 (s:Stmt):List Stmt:=match s with
 | .FunctionDef _ _ b _ _ _ _ _ _ _=>b
 | _=>[]
def zaz (s:Stmt):Scope:=match s with
 | .FunctionDef _ _ _ _ _ _ sc _ _ _=>sc
 | _=>{ kind:=.function,names:=[],isGenerator:=false,isCoroutine:=false }
abbrev E0:XK:=fun _ _ _=>False
structure Fun (K:PySem.W.Frag) (x qual:Str) (st:Stmt) (f:Addr) (fd:FuncData):Prop where
 ex:∃ (oc:Value) (od:Option Addr) (kV doc pm:Value) (an:Option Addr) (cdv ct:Value) (osl:Array (Option Value)),
  fd=PySem.W.fnOf x qual (zdy st) (zb1 st) (zaz st) .none kV doc pm an cdv ct/\K.lookup f=some ⟨oc,od,.func fd,osl⟩/\PySem.W.codeIn K cdv qual=true
 kp:PySem.W.keepIn K (.ref f)=true
section
variable {P:Program} {w:World} {K:PySem.W.Frag} {mg:Str->Option Value} {base:Heap}
theorem Fun.binds {x qual:Str} {st:Stmt} {f:Addr} {fd:FuncData} {ps:List Str} (F:Fun K x qual st f fd)
  (h:∀ (kV doc pm:Value) (an:Option Addr) (cdv ct:Value) (us:List Value),us.length=ps.length->bindArgs (PySem.W.fnOf x qual (zdy st) (zb1 st) (zaz st) .none kV doc pm an cdv ct) ⟨us,[]⟩=pure (ps.zip us)):Binds K fd ps []:=by
 obtain ⟨oc,od,kV,doc,pm,an,cdv,ct,osl,rfl,lk,hcd⟩:=F.ex
 exact .all (h kV doc pm an cdv ct)
theorem zwE {x qual:Str} {st:Stmt} {f:Addr} {oc:Value} {od an:Option Addr} {osl:Array (Option Value)} {kV doc pm cdv ct:Value} (l:K.lookup f=some ⟨oc,od,.func (PySem.W.fnOf x qual (zdy st) (zb1 st) (zaz st) .none kV doc pm an cdv ct),osl⟩)
  (c:PySem.W.codeIn K cdv qual=true) (k:PySem.W.keepIn K (.ref f)=true):Fun K x qual st f (PySem.W.fnOf x qual (zdy st) (zb1 st) (zaz st) .none kV doc pm an cdv ct):=⟨⟨oc,od,kV,doc,pm,an,cdv,ct,osl,rfl,l,c⟩,k⟩
end
theorem zo6 {n:Nat} (h:n<=1000):n < sizeLine:=Nat.lt_of_le_of_lt h (by decide)
section
variable {X:Cx}
theorem pv (i:Nat) {x:Str} {pos:Pos} (hN:X.N[i]?=some x:=by rfl) (hv:Vis X.env.scope x:=by first | exact Or.inl rfl | exact Or.inr (Or.inl rfl) | exact Or.inr (Or.inr rfl)) (hd:(x == ("__debug__":Str))=false:=by decide)
  (hcd:(x == ("__classdict__":Str))=false:=by decide):PE X (.Name x pos) (zkJ i):=zsX hN hv hd hcd
end
theorem zuy {A B:Prop} (h:B):if false=true then A else B:=by
 rw [if_neg Bool.false_ne_true]
 exact h
theorem zux {A B:Prop} (h:A):if true=true then A else B:=by
 rw [if_pos rfl]
 exact h
def zbs (H H':Hp):Prop:=∀ b o,H b=some o->H' b=some o
theorem zbs.refl (H:Hp):zbs H H:=fun _ _ h=>h
end L2
namespace L2
open PySem PySem.Spec PyProof.Rows
theorem bits_le {k:Int} {a:Nat} (h:k.natAbs < 2 ^ a):Builtin.Int.intBits k<=a:=by
 unfold Builtin.Int.intBits
 split
 ·exact Nat.zero_le _
 ·rename_i h0
  have hp:k.natAbs ≠ 0:=by
   intro z
   apply h0
   have:k=0:=by omega
   subst this
   rfl
  have:=(Nat.log2_lt hp).mpr h
  omega
theorem mulOk_of {i j:Int} {a b:Nat} (hi:i.natAbs < 2 ^ a) (hj:j.natAbs < 2 ^ b) (h:a + b<=134217728):IntMulOk i j:=by
 have h1:=bits_le hi
 have h2:=bits_le hj
 have h3:Builtin.Int.intTooBig ((Builtin.Int.intBits i:Int) + (Builtin.Int.intBits j:Int))=false:=by
  unfold Builtin.Int.intTooBig
  rw [bitsLine_eq]
  simp
  omega
 unfold IntMulOk
 rw [h3]
 simp
section
variable {X:Cx}
theorem zuf:OpR X (binaryOp .Mult) (rI IntMulOk fun i j=>.int (i * j)):=opI fun _ _ _ _ _ _ _ hc q=>mul_int q hc
end
mutual
/-- the value v is the thing d in the abstract heap -/
def Is (K:PySem.W.Frag) (H:Hp):PyData->V->Prop
 | .none,v=>v=.non
 | .bool b,v=>v=.bl b
 | .int i,v=>v=.int i
 | .str x,v=>v=.str x
 | .list xs,v=>∃ a vs,v=.ref a/\SqL K H a vs/\zgC K H xs vs
 | .tuple xs,v=>∃ a vs,v=.ref a/\SqT K H a vs/\zgC K H xs vs
 | .dict _,_=>False
def zgC (K:PySem.W.Frag) (H:Hp):List PyData->List V->Prop
 | [],vs=>vs=[]
 | d :: ds,vs=>∃ v r,vs=v :: r/\Is K H d v/\zgC K H ds r
end
section
variable {X:Cx} {pins:List (Addr × Obj)} {σ:St} {H:Hp} {s:Shared}
mutual
theorem Is.reads (I:Inv X pins σ H s):∀ (d:PyData) (v:V) (u:Value),Is X.K H d v->RelV v u->∃ as,Reads s.heap u d as
 | .none,v,u,h,r=>by
  simp only [Is] at h;subst h
  cases (show u=Value.none from r)
  exact ⟨_,.none⟩
 | .bool b,v,u,h,r=>by
  simp only [Is] at h;subst h
  cases (show u=Value.bool b from r)
  exact ⟨_,.bool b⟩
 | .int i,v,u,h,r=>by
  simp only [Is] at h;subst h
  obtain ⟨t,rfl⟩:=(show ∃ t,u=Value.int i t from r)
  exact ⟨_,.int i t⟩
 | .str x,v,u,h,r=>by
  simp only [Is] at h;subst h
  obtain ⟨t,rfl⟩:=(show ∃ t,u=Value.str x t from r)
  exact ⟨_,.str x t⟩
 | .list xs,v,u,h,r=>by
  simp only [Is] at h
  obtain ⟨a,vs,rfl,h1,h2⟩:=h
  cases (show u=Value.ref a from r)
  obtain ⟨its,rv,⟨o,n,ho,hc,_,hd⟩,_⟩:=I.list h1
  obtain ⟨as,ra⟩:=zgC.reads I xs vs its h2 rv
  exact ⟨_,.list ho hc hd (by simpa using ra)⟩
 | .tuple xs,v,u,h,r=>by
  simp only [Is] at h
  obtain ⟨a,vs,rfl,h1,h2⟩:=h
  cases (show u=Value.ref a from r)
  obtain ⟨its,rv,⟨o,ho,hc,n,hd⟩,_⟩:=I.tuple h1
  obtain ⟨as,ra⟩:=zgC.reads I xs vs its h2 rv
  exact ⟨_,.tuple ho hc hd (by simpa using ra)⟩
 | .dict _,v,u,h,r=>by simp only [Is] at h
theorem zgC.reads (I:Inv X pins σ H s):∀ (ds:List PyData) (vs:List V) (us:List Value),zgC X.K H ds vs->Vals vs us->∃ as,ReadsAll s.heap us ds as
 | [],vs,us,h,r=>by
  simp only [zgC] at h;subst h
  cases r
  exact ⟨_,.nil⟩
 | d :: ds,vs,us,h,r=>by
  simp only [zgC] at h
  obtain ⟨v,rr,rfl,h1,h2⟩:=h
  cases r with
  | cons r1 r2 =>
   obtain ⟨as,q1⟩:=Is.reads I d v _ h1 r1
   obtain ⟨bs,q2⟩:=zgC.reads I ds rr _ h2 r2
   exact ⟨_,.cons q1 q2⟩
end
end
section
variable {X:Cx}
def zyN (K:PySem.W.Frag):R2:=fun x y H Q=>∃ d e,Is K H d x/\Is K H e y/\SeqAt.shaped d=true/\SeqAt.shaped e=true/\Q (.bl (PyData.eqv d e)) H
def zyJ (K:PySem.W.Frag):R2:=fun x y H Q=>∃ d e,Is K H d x/\Is K H e y/\SeqAt.shaped d=true/\SeqAt.shaped e=true/\Q (.bl (!PyData.eqv d e)) H
theorem zv5 (hu:X.A.units + 64 < cLine):OpR X (compareOp .Eq) (zyN X.K):=by
 intro pins s σ H x y v u Q I rx ry h
 obtain ⟨d,e,h1,h2,c1,c2,q⟩:=h
 obtain ⟨as,ra⟩:=Is.reads I d x v h1 rx
 obtain ⟨bs,rb⟩:=Is.reads I e y u h2 ry
 exact SeqAt.compareEq_shaped ra rb c1 c2 hu ⟨.bl _,H,I,rfl,q⟩
theorem zv4 (hu:X.A.units + 64 < cLine):OpR X (compareOp .NotEq) (zyJ X.K):=by
 intro pins s σ H x y v u Q I rx ry h
 obtain ⟨d,e,h1,h2,c1,c2,q⟩:=h
 obtain ⟨as,ra⟩:=Is.reads I d x v h1 rx
 obtain ⟨bs,rb⟩:=Is.reads I e y u h2 ry
 exact SeqAt.compareNe_shaped ra rb c1 c2 hu ⟨.bl _,H,I,rfl,q⟩
end
end L2
namespace L2
open PySem PySem.Spec PyProof.Rows
inductive Ty (K:PySem.W.Frag) (H:Hp):V->Value->Prop where
 | non:Ty K H .non (.type "NoneType")
 | bl (x:Bool):Ty K H (.bl x) (.type "bool")
 | int (i:Int):Ty K H (.int i) (.type "int")
 | str (x:Str):Ty K H (.str x) (.type "str")
 | lst {a:Addr} {xs:List V} (e:SqL K H a xs):Ty K H (.ref a) (.type "list")
 | tup {a:Addr} {xs:List V} (e:SqT K H a xs):Ty K H (.ref a) (.type "tuple")
def zxa:V->Value
 | .ty n=>.type n
 | .ref a=>.ref a
 | _=>.none
theorem zuV {y:V} {u:Value} (r:RelV y u) (h:zxa y ≠ .none):u=zxa y:=by
 cases y with
 | ty n=>exact r
 | ref a=>exact r
 | _=>exact absurd rfl h
section
variable {X:Cx}
theorem zwz {pins:List (Addr × Obj)} {σ:St} {H:Hp} {s:Shared} {A:Around} {E:Value->Shared->Prop} {Q:Value->Shared->Prop} {c:Value} {b:Bool} {x:V} {u t:Value} (I:Inv X pins σ H s) (rx:RelV x u) (ty:Ty X.K H x t) (e:PySem.W.kitOne X.K t c=some b) (h:∀ tk,Q (.bool b) { s with toks:=tk }) :
  wpAny (model X.prog X.w) A (call (.builtin "isinstance") [u,c]) Q E s:=by
 cases ty with
 | non=>cases (show u=Value.none from rx);exact PySem.W.kia_one PySem.W.kitx_none I.kIn True.intro e (fun z=>nomatch z) h
 | bl y=>cases (show u=Value.bool y from rx);exact PySem.W.kia_one PySem.W.kitx_bool I.kIn True.intro e (fun z=>nomatch z) h
 | int i=>obtain ⟨t,q⟩:=(show ∃ t,u=Value.int i t from rx);cases q;exact PySem.W.kia_one PySem.W.kitx_int I.kIn True.intro e (fun z=>nomatch z) h
 | str y=>obtain ⟨t,q⟩:=(show ∃ t,u=Value.str y t from rx);cases q;exact PySem.W.kia_one PySem.W.kitx_str I.kIn True.intro e (fun z=>nomatch z) h
 | @lst a xs ea =>
  cases (show u=Value.ref a from rx)
  obtain ⟨its,_,⟨o,n,ho,hc,_⟩,_⟩:=I.list ea
  exact PySem.W.kia_one PySem.W.kitx_list I.kIn ⟨o,ho,hc⟩ e (fun z=>nomatch z) h
 | @tup a xs ea =>
  cases (show u=Value.ref a from rx)
  obtain ⟨its,_,⟨o,ho,hc,_⟩,_⟩:=I.tuple ea
  exact PySem.W.kia_one PySem.W.kitx_tuple I.kIn ⟨o,ho,hc⟩ e (fun z=>nomatch z) h
def zyM (K:PySem.W.Frag):List V->Hp->VK->Prop:=fun xs H Q=>∃ x y t b,xs=[x,y]/\zxa y ≠ .none/\Ty K H x t/\PySem.W.kitOne K t (zxa y)=some b/\Q (.bl b) H
theorem zsv:zgG X (.builtin "isinstance") (zyM X.K):=by
 intro pins s σ H xs us Q I r h
 obtain ⟨x,y,t,b,rfl,hy,ty,e,q⟩:=h
 obtain ⟨u,v,rfl,ru,rv⟩:=vals2 r
 cases zuV rv hy
 exact zwz I ru ty e fun tk=>⟨.bl b,H,I.tok tk,rfl,q⟩
theorem zxz {x:Str} {n:String} {pos:Pos} (hg:Gl X x) (hm:X.mg x=none) (hv:bootBuiltins x=some (.type n)) (hn:x ≠ "__name__":=by decide) (hd:(x == ("__debug__":Str))=false:=by decide):PE X (.Name x pos) (tC (.ty n)):=zua hg hm hv rfl hn hd
end
end L2
namespace L2
open PySem PySem.Spec PyProof.Rows
def zig (cells:List (Str × Addr)):List (Str × NameKind)->List (Str × Addr)->List (Str × Addr)
 | [],acc=>acc
 | (n,k) :: r,acc=>if k=.free then (match cells.lookup n with | some a=>zig cells r ((n,a) :: acc) | none=>zig cells r acc) else zig cells r acc
theorem zho {cells:List (Str × Addr)}:∀ {names:List (Str × NameKind)} {acc:List (Str × Addr)},(∀ p ∈ acc,cells.lookup p.1=some p.2)->∀ p ∈ zig cells names acc,cells.lookup p.1=some p.2
 | [],acc,h,p,hp=>h p hp
 | (n,k) :: r,acc,h,p,hp=>by
  unfold zig at hp
  split at hp
  ·split at hp
   ·rename_i a e
    exact zho (names:=r) (acc:=(n,a) :: acc) (fun q hq=>by
     rcases List.mem_cons.mp hq with rfl | hq
     ·exact e
     ·exact h q hq) p hp
   ·exact zho h p hp
  ·exact zho h p hp
theorem zhp {cells:List (Str × Addr)}:∀ {names:List (Str × NameKind)} {acc:List (Str × Addr)},∀ p ∈ acc,p ∈ zig cells names acc
 | [],acc,p,hp=>hp
 | (n,k) :: r,acc,p,hp=>by
  unfold zig
  split
  ·split
   ·exact zhp p (List.mem_cons_of_mem _ hp)
   ·exact zhp p hp
  ·exact zhp p hp
theorem zfY {cells:List (Str × Addr)} {x:Str} {a:Addr} (e:cells.lookup x=some a):∀ {names:List (Str × NameKind)} {acc:List (Str × Addr)},(x,NameKind.free) ∈ names->(x,a) ∈ zig cells names acc
 | (n,k) :: r,acc,h=>by
  unfold zig
  rcases List.mem_cons.mp h with h | h
  ·cases h
   rw [if_pos rfl,e]
   exact zhp _ (List.mem_cons_self ..)
  ·split
   ·split
    ·exact zfY e h
    ·exact zfY e h
   ·exact zfY e h
theorem zbV {α:Type} {x:Str} {a:α}:∀ {l:List (Str × α)},(x,a) ∈ l->∃ b,l.lookup x=some b
 | (y,b) :: r,h=>by
  by_cases e:(x == y)=true
  ·exact ⟨b,by simp [List.lookup_cons,e]⟩
  ·rcases List.mem_cons.mp h with h | h
   ·cases h
    exact absurd (beq_self_eq_true _) e
   ·obtain ⟨c,hc⟩:=zbV h
    refine ⟨c,?_⟩
    have e':(x == y)=false:=by simpa using e
    simp only [List.lookup_cons,e']
    exact hc
theorem zdz {scope:Scope} {env:Env} (h:∀ y ∈ scope.names,y.2=.free->∃ a,env.cells.lookup y.1=some a):closureFor scope env=pure (zig env.cells scope.names []):=by
 have key:∀ (names:List (Str × NameKind)) (acc:List (Str × Addr)),(∀ y ∈ names,y.2=.free->∃ a,env.cells.lookup y.1=some a) ->
   (forIn names acc (fun x r=>match x with
    | (name,kind)=>if (kind == NameKind.free)=true then do let a <- cellOf env name;pure (ForInStep.yield ((name,a) :: r)) else pure (ForInStep.yield r)):Sem (List (Str × Addr)))=pure (zig env.cells names acc):=by
  intro names
  induction names with
  | nil=>intro acc _;rfl
  | cons p r ih =>
   intro acc hh
   obtain ⟨n,k⟩:=p
   rw [List.forIn_cons]
   by_cases hk:k=.free
   ·subst hk
    obtain ⟨a,ea⟩:=hh (n,.free) (List.mem_cons_self ..) rfl
    have e1:cellOf env n=pure a:=by unfold cellOf;rw [ea]
    simp only [beq_self_eq_true,if_true,e1,pure_bind,zig,ea]
    exact ih _ fun y hy=>hh y (List.mem_cons_of_mem _ hy)
   ·have hk':(k == NameKind.free)=false:=by simpa using hk
    simp only [hk',Bool.false_eq_true,if_false,pure_bind,zig,hk]
    exact ih _ fun y hy=>hh y (List.mem_cons_of_mem _ hy)
 unfold closureFor
 exact (bind_pure _).trans (key scope.names [] h)
theorem zbe {scope:Scope} {env:Env} {x:Str} {k:NameKind}:∀ {names:List (Str × NameKind)},
  (names.map fun (n,k)=>if (k == NameKind.free && env.scope.kind == .function && env.kindOf n == some .cell) then (n,NameKind.cell) else (n,k)).lookup x=some k ->
  ∃ k0,names.lookup x=some k0/\(x,k0) ∈ names/\(k0=k\/(k0=.free/\k=.cell))
 | [],h=>by simp at h
 | (n,k0) :: r,h=>by
  by_cases e:(x == n)=true
  ·have en:x=n:=by simpa using e
   subst en
   refine ⟨k0,by simp [List.lookup_cons],List.mem_cons_self ..,?_⟩
   rw [List.map_cons] at h
   by_cases hc:(k0 == NameKind.free && env.scope.kind == .function && env.kindOf x == some .cell)=true
   ·simp only [hc,if_true,List.lookup_cons,beq_self_eq_true] at h
    simp only [Bool.and_eq_true,beq_iff_eq] at hc
    exact .inr ⟨hc.1.1,(Option.some.inj h).symm⟩
   ·simp only [hc,Bool.false_eq_true,if_false,List.lookup_cons,beq_self_eq_true] at h
    exact .inl (Option.some.inj h)
  ·have e':(x == n)=false:=by simpa using e
   rw [List.map_cons] at h
   have h':(r.map fun (n,k)=>if (k == NameKind.free && env.scope.kind == .function && env.kindOf n == some .cell) then (n,NameKind.cell) else (n,k)).lookup x=some k:=by
    by_cases hc:(k0 == NameKind.free && env.scope.kind == .function && env.kindOf n == some .cell)=true
    ·simp only [hc,if_true,List.lookup_cons,e'] at h
     exact h
    ·simp only [hc,Bool.false_eq_true,if_false,List.lookup_cons,e'] at h
     exact h
   obtain ⟨k1,h1,h2,h3⟩:=zbe (scope:=scope) h'
   exact ⟨k1,by simp only [List.lookup_cons,e'];exact h1,List.mem_cons_of_mem _ h2,h3⟩
structure zw3 (X:Cx) (scope:Scope) (cap:List Str):Prop where
 kind:scope.kind=.function
 nocell:∀ y ∈ scope.names,y.2 ≠ .cell
 cell:∀ y ∈ scope.names,y.2=.free->X.env.kindOf y.1=some .cell
 loc:∀ y ∈ scope.names,y.2=.local->scope.names.lookup y.1=some .local
 cap:∀ x ∈ cap,scope.names.lookup x ≠ some .local
def zeX (X:Cx) (ix:List Nat):List Str:=ix.map fun i=>X.N.getD i ""
def zeW (k:Nat) (ix:List Nat) (σ:St):St:=List.replicate k none ++ ix.map fun i=>(σ[i]?).getD none
end L2
namespace L2
open PySem PySem.Spec PyProof.Rows
section
variable {prog:Program} {w:World} {A:Around} {R:Result->Shared->Prop} {s:Shared}
theorem zid {elt target iter:Expr} {ifs:List Expr} {scope:Scope} {pos:Pos} {it acc:Value} {env:Env} (I:Nat->Shared->Prop)
  (turn:∀ n s,I n s->wpAny (model prog w) A (pyNext it) (fun r s₁=>match r with
   | none=>R (.ok .next) s₁
   | some v=>wpAny (model prog w) A (letOwnedTupleGo target it v) (fun _ s₀=>wpAny (model prog w) A (assign target env v) (fun _ s₂ =>
     wpAny (model prog w) A (forIn ifs true fun c r=>if r=true then do let ok <- isTrue c env (eval c env);pure (ForInStep.yield ok) else pure (ForInStep.yield r)) (fun ok s₃ =>
      if ok=true then wpAny (model prog w) A (eval elt env) (fun x s₄ =>
       wpAny (model prog w) A (call (.builtin "list.append") [acc,x]) (fun _ s₅=>∃ m,m < n/\I m s₅) (notedBy (model prog w) A env fun e s'=>R (.error e) s') s₄) (notedBy (model prog w) A env fun e s'=>R (.error e) s') s₃
      else ∃ m,m < n/\I m s₃) (notedBy (model prog w) A env fun e s'=>R (.error e) s') s₂) (notedBy (model prog w) A env fun e s'=>R (.error e) s') s₀) (notedBy (model prog w) A env fun e s'=>R (.error e) s') s₁) (notedBy (model prog w) A env fun e s'=>R (.error e) s') s)
  (n:Nat) (h:I n s) :
  codeAny (model prog w) A (.compLoop (.ListComp elt [⟨target,iter,ifs,0⟩] scope pos) 0 it acc env) R s:=by
 refine codeAny_loop rfl I (fun n s hI=>?_) n h
 show wpAny _ A ((compTurn (.ListComp elt [⟨target,iter,ifs,0⟩] scope pos) 0 it acc env).onRaise (fun x=>do noteFrame x env;theTreesLotGoes x)) _ _ s
 refine wpAny_noted ?_
 rw [compTurn_list]
 refine wpAny_bind (wpAny_standAt (wpAny_bind (wpAny_mono (turn n s hI) (fun r s₁ h₁=>?_) fun _ _ h'=>h')))
 cases r with
 | none=>exact wpAny_pure h₁
 | some v =>
  refine wpAny_bind (wpAny_mono h₁ (fun _ s₀ h₀=>?_) fun _ _ h'=>h')
  refine wpAny_bind (wpAny_mono h₀ (fun _ s₂ h₂=>wpAny_bind (wpAny_mono h₂ (fun ok s₃ h₃=>?_) fun _ _ h'=>h')) fun _ _ h'=>h')
  cases ok with
  | false=>exact wpAny_pure ⟨rfl,h₃⟩
  | true =>
   exact wpAny_bind (wpAny_bind (wpAny_mono h₃ (fun x s₄ h₄=>wpAny_bind (wpAny_mono h₄ (fun _ s₅ h₅=>wpAny_pure (wpAny_pure ⟨rfl,h₅⟩)) fun _ _ h'=>h')) fun _ _ h'=>h'))
end
def PTs (X:Cx) (ifs:List Expr) (t:TT):Prop :=
 ∀ (pins:List (Addr × Obj)) (s:Shared) (σ:St) (H:Hp) (Q:Bool->Hp->Prop),Inv X pins σ H s->t σ H Q ->
  wpAny (model X.prog X.w) X.A (forIn ifs true fun c r=>if r=true then do let ok <- isTrue c X.env (eval c X.env);pure (ForInStep.yield ok) else pure (ForInStep.yield r)) (TP X pins σ Q) X.xe s
def zyE:TT:=fun _ H Q=>Q true H
theorem ztS {X:Cx}:PTs X [] zyE:=fun _ _ _ H _ I h=>wpAny_tests_nil ⟨H,I,h⟩
theorem ztR {X:Cx} {c:Expr} {t:TT} (hc:PT X c t):PTs X [c] t:=fun pins s σ H Q I h=>wpAny_tests_one (hc pins s σ H Q I h)
def zmR (k:Nat) (g:TG):Prop:=∀ x σ H Q,g x σ H Q->g x σ H fun σ2 H2=>(σ2.length=σ.length/\∀ i:Nat,k<=i->σ2[i]?=σ[i]?)/\Q σ2 H2
def znW (k:Nat) (ix:List Nat) (wi:TI) (g:TG) (tc:TT) (te:TE):TE:=fun σ H Q=>wi σ H fun J H1=>∀ l,H1 l=none ->
 ∃ W:Nat->Nat->List V->Hp->Prop,(∃ m,W 0 m [] (upd H1 l (.lst [])))/\∀ i m ys H2,W i m ys H2->H2 l=some (.lst ys) /\
  ((J.stop i H2/\Q (.ref l) H2)\/(J.go i H2/\∀ x H3,J.yld i H2 x H3->g x (zeW k ix σ) H3 fun σ2 H4=>tc σ2 H4 fun b H5 =>
   if b=true then te σ2 H5 fun v H6=>H6 l=some (.lst ys)/\ys.length < sizeLine/\∃ m',m' < m/\W (i + 1) m' (ys ++ [v]) (upd H6 l (.lst (ys ++ [v]))) else ∃ m',m' < m/\W (i + 1) m' ys H5))
end L2
namespace L2
open PySem PySem.Spec PyProof.Rows
def Fl (h:Heap) (e:Addr) (cls:Value) (dd:Option Addr) (T:Addr) (fl:Value):Prop :=
 ∃ oe vs oT ts,h.get? e=some oe/\oe.cls=cls/\oe.dict=dd/\oe.data=.fields vs/\vs[1]?=some (.ref T)/\T ≠ e/\h.get? T=some oT/\oT.data=.fields ts/\ts[3]?=some fl
end L2
namespace L2
open PySem PySem.Spec PyProof.Rows
theorem zbN.some {P:Program} {w:World} {H:Hp} {h:Heap} {a:Addr} {o:HO} (x:zbN P w H h a o):∃ ob,h.get? a=some ob:=by
 cases o with
 | lst xs=>obtain ⟨_,_,_,_,e⟩:=x;exact ⟨_,e⟩
 | tup xs=>obtain ⟨_,_,_,ob,e,_⟩:=x;exact ⟨_,e⟩
 | dK kvs=>obtain ⟨_,_,_,_,ob,_,_,e,_⟩:=x;exact ⟨_,e⟩
 | dT kvs=>obtain ⟨_,_,_,_,ob,_,_,e,_⟩:=x;exact ⟨_,e⟩
 | set S n=>obtain ⟨ob,_,_,_,e,_⟩:=x;exact ⟨_,e⟩
 | ins C dx fs=>obtain ⟨_,_,_,e,_⟩:=x;exact ⟨_,e⟩
 | own y=>exact x
 | xd fs=>obtain ⟨_,⟨od,_,_,e,_⟩,_⟩:=x;exact ⟨_,e⟩
 | met f y=>exact ⟨_,x⟩
 | rng lo hi=>obtain ⟨_,_,_,e⟩:=x;exact ⟨_,e⟩
 | frz ob u=>exact ⟨_,x.1⟩
 | tbl ps=>exact ⟨_,x⟩
 | ext φ=>exact x.2.1
def CXe (P:Program) (w:World):CXT:=fun outer H s E ev s'=>∃ (e:Addr) (cls:Value) (dd:Option Addr) (T:Addr) (H':Hp),ev=.ref e/\s'.os=s.os/\AllBare s'.gens/\Un (frs outer) [] H H' s.heap s'.heap/\HOk P w H' s'.heap /\
 Fl s'.heap e cls dd T .none/\H' e=none/\H' T=none/\s.heap.get? e=none/\s.heap.get? T=none/\E cls dd H'
theorem zjW {P:Program} {w:World} {X:Cx}:Passes (CXe P w) X E0:=fun _ _ _ _ _ _ _ ⟨_,_,_,_,_,_,_,_,_,_,_,_,_,_,_,q⟩=>q.elim
section
variable {P:Program} {w:World} {K:PySem.W.Frag} {mg:Str->Option Value} {base:Heap} {N:List Str} {qual:Str} {scope:Scope} {f:Addr} {cd:Value} {A:Around} {outer:List Env} {s:Shared} {H:Hp} {E:XK}
theorem Fun.okE {x:Str} {st:Stmt} {fd:FuncData} {ps:List Str} {k:Nat} {sp:Sp} (F:Fun K x qual st f fd) (S:zey N ps (zaz st)) (len:∀ vs H Q E,sp vs H Q E->vs.length=ps.length)
  (hbody:∀ (cdv:Value) (A:Around) (outer:List Env) (s:Shared) (H:Hp) (vs:List V) (Q:VK) (E:XK),zc7 k (A.deeper (envOfC qual (zaz st) s.heap.objs.size f cdv))->sp vs H Q E ->
   ∃ t,PSs (zq7 (CXe P w) P w K mg base N qual (zaz st) f cdv A outer s H E) (zb1 st) t/\t { nx:=fun _ H'=>Q .non H',rt:=Q } (start N vs) H):zkB P w K mg base (CXe P w) (k + 1) f fd ps sp:=by
 obtain ⟨oc,od,kV,doc,pm,an,cdv,ct,osl,rfl,lk,hcd⟩:=F.ex
 exact zxX lk hcd S len fun A outer s H vs Q E hr hsp=>hbody cdv A outer s H vs Q E hr hsp
end
end L2
namespace L2
open PySem PySem.Spec PyProof.Rows
def Nw (X:Cx) (pins:List (Addr × Obj)) (b:Addr):Prop :=
 X.s₀.heap.get? b=none/\b ≠ X.env.locals/\b ∉ X.fs/\(∀ x c,X.env.cells.lookup x=some c->c ≠ b)/\∀ p ∈ X.pn ++ pins,p.1 ≠ b
def XP (X:Cx) (pins:List (Addr × Obj)) (σ:St) (E:XK) (ev:Value) (s':Shared):Prop :=
 ∃ (e:Addr) (cls:Value) (dd:Option Addr) (T:Addr) (H':Hp),ev=.ref e/\Inv X pins σ H' s'/\Fl s'.heap e cls dd T .none/\H' e=none/\H' T=none/\Nw X pins e/\Nw X pins T/\E cls dd H'
abbrev TSX:=Ends->(St->XK)->St->Hp->Prop
structure zyu (K:PySem.W.Frag) (C:Addr):Prop where
 ty:PySem.W.typeIn K (.ref C)=some (.type "type")
 cl:(PySem.W.clsIn K C).isSome=true
 be:PySem.W.subIn K (.ref C) (.type "BaseException")=some true
end L2
namespace L2
open PySem PySem.Spec PyProof.Rows
end L2
namespace L2
open PySem PySem.Spec PyProof.Rows
structure zzg (K:PySem.W.Frag) (D:Addr):Prop where
 ga:PySem.W.findIn K (.ref D) "__getattribute__"=some (some (.builtin "BaseException.__getattribute__"))
 gn:PySem.W.findIn K (.ref D) "__getattr__"=some none
 cl:PySem.W.findIn K (.ref D) "__class__"=some (some (.builtin "object.__class__"))
 be:PySem.W.subIn K (.ref D) (.type "BaseException")=some true
 ob:PySem.W.mroIn K D (.type "object")=some true
 is:(PySem.W.clsIn K D).isSome=true
end L2
namespace L2
open PySem PySem.Spec PyProof.Rows
def Has (K:PySem.W.Frag) (mg:Str->Option Value) (x:Str) (st:Stmt):Prop:=∃ (f:Addr) (fd:FuncData),mg x=some (.ref f)/\Fun K x x st f fd
def Callee (P:Program) (w:World) (K:PySem.W.Frag) (mg:Str->Option Value) (base:Heap) (x:Str) (k:Nat) (ps:List Str) (sp:Sp):Prop :=
 ∃ (f:Addr) (fd:FuncData),mg x=some (.ref f)/\PySem.W.keepIn K (.ref f)=true/\Binds K fd ps []/\zkB P w K mg base (CXe P w) k f fd ps sp
section
variable {X:Cx} {k j:Nat} {ps:List Str} {sp:Sp} {E:XK} {x:Str} {p pos:Pos} {e:Expr} {es:List Expr} {t:TA}
theorem zfN (c:Callee X.prog X.w X.K X.mg X.base x k ps sp) (hr:zc7 j X.A) (hg:Gl X x) (hx:Passes (CXe X.prog X.w) X E) (ha:PA X (e :: es) t) (hj:k<=j:=by decide) (hdb:(x == ("__debug__":Str))=false:=by decide)
  (he:starEach (e :: es) X.env=(false,eval e X.env) :: starEach es X.env:=by rfl) (hpl:(backTo pos (starEach es X.env)).any (·.1)=false:=by rfl):PE X (.Call (.Name x p) (e :: es) [] pos) (ztA sp [] E t):=by
 obtain ⟨f,fd,hm,hk,hb,F⟩:=c
 exact zt9 F (hr.mono hj) hg hm hk hb .nil hx ha hdb he hpl
end
end L2
namespace L2
open PySem PySem.Spec PyProof.Rows
end L2
namespace L2
open PySem PySem.Spec PyProof.Rows
end L2
namespace L2
open PySem PySem.Spec PyProof.Rows
theorem zbs.upd {H:Hp} {l:Addr} {o:HO} (h:H l=none):zbs H (upd H l o):=fun b u e=>by rw [zax (zb6 e h)];exact e
end L2
namespace L2
open PySem PySem.Spec PyProof.Rows
end L2
namespace L2
open PySem PySem.Spec PyProof.Rows
end L2
namespace L2
open PySem PySem.Spec PyProof.Rows
section
variable {X:Cx} {pins:List (Addr × Obj)} {σ:List (Option V)} {H H':Hp} {s:Shared} {h':Heap}
theorem Inv.zhF {t':Nat} {fp:List Addr} (I:Inv X pins σ H s) (k:∀ b o,b ∉ fp->s.heap.get? b=some o->h'.get? b=some o) (hf:∀ b ∈ fp,zmS X pins H b):Inv X pins σ H { s with heap:=h',toks:=t' }:=by
 have nit:∀ b u,H b=some u->b ∉ fp:=fun b u e z=>by
  have:=(hf b z).1
  rw [e] at this
  cases this
 have hL:X.env.locals ∉ fp:=fun z=>(hf _ z).2.1 rfl
 refine I.step (g':=s.gens) (d':=s.drawn) (ch:=fp) (fun b hb=>?_) (fun b o _ _ hc e _=>k b o hc e) (fun b o _ _ hc e _=>⟨o.slots,k b o hc e⟩) (fun _ _ _ _ n=>n)
  (fun b o hc e=>⟨o,k b o hc e⟩) (fun _ _ e=>e) (fun _ _ _ e=>e) (fun b ps e=>⟨#[],by rw [e];simp⟩) (fun m hm=>?_) (fun b u e=>?_) I.bare
 ·obtain ⟨_,h1,_,h3,h4,h5⟩:=hf b hb
  exact ⟨h3,h1,h4,h5⟩
 ·obtain ⟨o,es,ep,ho,r⟩:=hm
  exact ⟨o,es,ep,k _ o hL ho,r⟩
 ·refine (I.hok b u e).stay (fun c v hc q=>k c v ?_ q) (fun _ q=>q) fun _ _ q=>q
  rcases hc with z | z
  ·rw [z];exact nit b u e
  ·exact nit c _ z
theorem Inv.zoR {t':Nat} {fp:List Addr} {xs:List V} {us:List Value} {n:Nat} (I:Inv X pins σ H s) (k:∀ b o,b ∉ fp->s.heap.get? b=some o->h'.get? b=some o) (hf:∀ b ∈ fp,zmS X pins H b) (hfp:∀ b ∈ fp,b < s.heap.objs.size)
  (ht:h'.get? s.heap.objs.size=some { cls:=.type "tuple",data:=.seq us.toArray n }) (r:Vals xs us) (hz:xs.length<=sizeLine) :
  Inv X pins σ (upd H s.heap.objs.size (.tup xs)) { s with heap:=h',toks:=t' }:=by
 have I1:Inv X pins σ (upd H s.heap.objs.size (.tup xs)) { s with heap:=s.heap.push { cls:=.type "tuple",data:=.seq us.toArray n },toks:=s.toks } :=
  I.laid (t':=s.toks) (fun b u e=>Heap.get?_push_of_some _ e) (Nat.le_refl _) ⟨hz,us,r,⟨_,Heap.get?_push_size _ rfl,rfl,_,rfl⟩⟩
 refine Inv.zhF (s:={ s with heap:=s.heap.push { cls:=.type "tuple",data:=.seq us.toArray n },toks:=s.toks }) (t':=t') (fp:=fp) I1 (fun b o hb e=>?_) fun b hb=>⟨by rw [zax (Nat.ne_of_lt (hfp b hb))];exact (hf b hb).1,(hf b hb).2⟩
 by_cases hbs:b=s.heap.objs.size
 ·subst hbs
  have e':(s.heap.push { cls:=.type "tuple",data:=.seq us.toArray n }).get? s.heap.objs.size=some o:=e
  rw [Heap.get?_push_size _ rfl] at e'
  cases e'
  exact ht
 ·refine k b o hb ?_
  have e':(s.heap.push { cls:=.type "tuple",data:=.seq us.toArray n }).get? b=some o:=e
  have lt:b < (s.heap.push { cls:=.type "tuple",data:=.seq us.toArray n }).objs.size:=Heap.lt_size e'
  rw [Heap.size_push] at lt
  have lt':b < s.heap.objs.size:=Nat.lt_of_le_of_ne (Nat.le_of_lt_succ lt) hbs
  unfold Heap.get? at e' ⊢
  unfold Heap.push at e'
  simp only at e'
  rw [Array.getElem?_push_lt lt'] at e'
  rw [Array.getElem?_eq_getElem lt']
  exact e'
end
def Itz (K:PySem.W.Frag) (a b:Addr):It :=
 ⟨fun i H=>∃ xs ys x y,SqL K H a xs/\SqL K H b ys/\xs[i]?=some x/\ys[i]?=some y,
  fun i H x H'=>∃ t u v,x=.ref t/\H t=none/\H'=upd H t (.tup [u,v])/\(∀ xs,SqL K H a xs->xs[i]?=some u)/\∀ ys,SqL K H b ys->ys[i]?=some v,
  fun i H=>∃ xs ys,SqL K H a xs/\SqL K H b ys/\(xs.length<=i\/ys.length<=i)⟩
def tnZ (z TI TO i1 i2 a b:Addr) (i:Nat) (h:Heap):Prop:=IsZip h z TI TO .none/\IsPair h TI (.ref i1) (.ref i2)/\(∃ u v,IsPair h TO u v)/\h.IsListIter i1 a i/\h.IsListIter i2 b i
theorem zrg {P:Program} {w:World} {K:PySem.W.Frag} {es:List Expr} {k:Nat} {pos:Pos} (z TI TO i1 i2 a b:Addr) (D:ZipApart z TI TO i1 i2 a b):Turn P w K (.Tuple es k pos) (Itz K a b) [z,TI,TO,i1,i2] z (tnZ z TI TO i1 i2 a b) where
 mem:=by simp
 obj:=fun i h st c hc=>by
  obtain ⟨h1,h2,⟨u,v,h3⟩,⟨o4,h4,_,d4⟩,⟨o5,h5,_,d5⟩⟩:=st
  simp only [List.mem_cons,List.not_mem_nil,or_false] at hc
  rcases hc with rfl | rfl | rfl | rfl | rfl
  ·exact ⟨_,h1,fun v z=>by cases z⟩
  ·exact ⟨_,h2,fun v z=>by cases z⟩
  ·exact ⟨_,h3,fun v z=>by cases z⟩
  ·exact ⟨_,h4,fun v z=>by rw [d4] at z;cases z⟩
  ·exact ⟨_,h5,fun v z=>by rw [d5] at z;cases z⟩
 keep:=fun i h h' st k=>by
  obtain ⟨h1,h2,⟨u,v,h3⟩,h4,h5⟩:=st
  exact ⟨k _ (by simp) _ h1,k _ (by simp) _ h2,⟨u,v,k _ (by simp) _ h3⟩,h4.at fun o e=>k _ (by simp) o e,h5.at fun o e=>k _ (by simp) o e⟩
 item:=by
  intro X hP hw hK hc i pins s σ H E I hf st hg
  subst hP hw hK
  obtain ⟨xs,ys,x,y,hqx,hqy,hx,hy⟩:=hg
  obtain ⟨itx,rvx,px,_⟩:=I.list hqx
  obtain ⟨ity,rvy,py,_⟩:=I.list hqy
  obtain ⟨ux,hux,rux⟩:=rvx.get hx
  obtain ⟨uy,huy,ruy⟩:=rvy.get hy
  obtain ⟨h1,h2,⟨u,v,h3⟩,h4,h5⟩:=id st
  have lts:∀ c ∈ [z,TI,TO,i1,i2],c < s.heap.objs.size:=fun c hc=>by
   obtain ⟨o4,e4,_⟩:=id h4
   obtain ⟨o5,e5,_⟩:=id h5
   simp only [List.mem_cons,List.not_mem_nil,or_false] at hc
   rcases hc with rfl | rfl | rfl | rfl | rfl
   ·exact Heap.lt_size h1
   ·exact Heap.lt_size h2
   ·exact Heap.lt_size h3
   ·exact Heap.lt_size e4
   ·exact Heap.lt_size e5
  refine wpAny_pyNext_zip_item D h1 h2 h3 h4 h5 px.isList py.isList (by simpa using hux) (by simpa using huy) fun h' a1 a2 a3 a4 a5 a6 hk=>?_
  refine ⟨_,rfl,wpAny_letOwnedTupleGo_zip a1 fun h'' b1 sb=>?_⟩
  have zlt:=lts z (by simp)
  have k2:∀ c o,c ∉ [z,TI,TO,i1,i2]->s.heap.get? c=some o->h''.get? c=some o:=fun c o hc e=>by
   simp only [List.mem_cons,List.not_mem_nil,or_false,not_or] at hc
   exact sb.extBut c o hc.1 (hk c o hc.1 hc.2.2.1 hc.2.2.2.1 hc.2.2.2.2 e)
  have ht:h''.get? s.heap.objs.size=some { cls:=.type "tuple",data:=.seq #[ux,uy] }:=sb.extBut _ _ (Nat.ne_of_gt zlt) a5
  refine ⟨.ref s.heap.objs.size,_,Inv.zoR (s:=s) (h':=h'') (t':=s.toks) (fp:=[z,TI,TO,i1,i2]) I (xs:=[x,y]) (us:=[ux,uy]) k2 hf lts ht (.cons rux (.cons ruy .nil)) (by rw [sizeLine_eq];show 2<=16777216;decide),rfl,
   ⟨_,x,y,rfl,I.hok.fresh (Nat.le_refl _),rfl,fun zs hz=>by rw [I.zhh hz hqx];exact hx,fun zs hz=>by rw [I.zhh hz hqy];exact hy⟩,?_,fun c hc=>?_⟩
  ·exact ⟨b1,sb.extBut _ _ D.TIz (hk _ _ D.TIz D.TITO D.TIi1 D.TIi2 h2),⟨_,_,sb.extBut _ _ D.TOz a2⟩,a3.extBut sb.extBut D.i1z,a4.extBut sb.extBut D.i2z⟩
  ·rw [zax (Nat.ne_of_lt (lts c hc))]
   exact (hf c hc).1
 done:=by
  intro X hP hw hK hc i pins s σ H E I hf st hg
  subst hP hw hK
  obtain ⟨xs,ys,hqx,hqy,hend⟩:=hg
  obtain ⟨itx,rvx,px,_⟩:=I.list hqx
  obtain ⟨ity,rvy,py,_⟩:=I.list hqy
  obtain ⟨h1,h2,⟨u,v,h3⟩,h4,h5⟩:=id st
  have lx:=rvx.length
  have ly:=rvy.length
  refine wpAny_pyNext_zip_end (I.ok.hd hc) D h1 h2 h3 h4 h5 px.isList py.isList ?_ fun h' hk=>⟨rfl,I.zhF (t':=s.toks) (fun c o hc e=>?_) hf⟩
  ·rcases hend with h | h
   ·exact .inl (by simp;omega)
   ·exact .inr (by simp;omega)
  ·simp only [List.mem_cons,List.not_mem_nil,or_false,not_or] at hc
   exact hk c o hc.1 hc.2.2.1 hc.2.2.2.1 hc.2.2.2.2 e
 self:=fun _ _ _ _ _ st h=>wpAny_pyIter_zip st.1 h
section
variable {X:Cx}
def zy2 (K:PySem.W.Frag) (ta:TA):TI:=fun σ H R=>ta σ H fun vs H1=>∃ a b,vs=[.ref a,.ref b]/\(∃ xs,SqL K H1 a xs)/\(∃ ys,SqL K H1 b ys)/\R (Itz K a b) H1
theorem zvN {es:List Expr} {k:Nat} {p0:Pos} {a b:Expr} {ta:TA} {p pos:Pos} (hg:Gl X "zip") (hm:X.mg "zip"=none) (ha:PA X [a,b] ta) (hs:starEach [a,b] X.env=[(false,eval a X.env),(false,eval b X.env)]:=by rfl) (hs2:starEach [b] X.env=[(false,eval b X.env)]:=by rfl) :
  PI X (.Tuple es k p0) (.Call (.Name "zip" p) [a,b] [] pos) (zy2 X.K ta):=by
 intro pins s σ H R I h
 refine Call_ (zjk I hg hm (by decide +kernel:bootBuiltins "zip"=some (.type "zip")) (PyProof.Rows.callWith_type1 (thn (ha pos pins s σ H _ I h) fun us s1 ⟨vs,H1,I1,r1,q1⟩=>?_) (by rw [hs,hs2]) (by rw [hs2];rfl)))
 obtain ⟨l1,l2,e,⟨xs,hx⟩,⟨ys,hy⟩,q⟩:=q1
 subst e
 cases r1 with
 | cons r rr =>
  cases rr with
  | cons r' rr =>
   cases rr
   cases r
   cases r'
   obtain ⟨itx,rvx,px,_⟩:=I1.list hx
   obtain ⟨ity,rvy,py,_⟩:=I1.list hy
   have hl1:Nat.lt l1 s1.heap.objs.size:=by obtain ⟨o,e,_⟩:=px.isList;exact Heap.lt_size e
   have hl2:Nat.lt l2 s1.heap.objs.size:=by obtain ⟨o,e,_⟩:=py.isList;exact Heap.lt_size e
   refine call_zip_2 px.isList py.isList fun h' g1 g2 g3 g4 g5 g6 hk=>?_
   refine wpAny_pyIter_zip g1 ⟨_,[s1.heap.objs.size + 4,s1.heap.objs.size + 2,s1.heap.objs.size + 3,s1.heap.objs.size,s1.heap.objs.size + 1],_,_,H1,rfl,I1.kept (t':=s1.toks) hk,zrg _ _ _ _ _ l1 l2 ?_,⟨g1,g2,⟨_,_,g3⟩,g4,g5⟩,fun c hc=>?_,q⟩
   ·have q1:∀ n:Nat,l1 ≠ s1.heap.objs.size + n:=fun n=>Nat.ne_of_lt (Nat.lt_of_lt_of_le hl1 (Nat.le_add_right _ _))
    have q2:∀ n:Nat,l2 ≠ s1.heap.objs.size + n:=fun n=>Nat.ne_of_lt (Nat.lt_of_lt_of_le hl2 (Nat.le_add_right _ _))
    constructor <;> first | exact q1 _ | exact q2 _ | exact q1 0 | exact q2 0 | exact Nat.ne_of_lt (by omega) | exact Nat.ne_of_gt (by omega)
   ·have hc':s1.heap.objs.size<=c:=by
     simp only [List.mem_cons,List.not_mem_nil,or_false] at hc
     rcases hc with rfl | rfl | rfl | rfl | rfl <;> first | exact Nat.le_add_right _ _ | exact Nat.le_refl _
    exact I1.zse hc' (I1.hok.fresh hc')
end
def Ite (K:PySem.W.Frag) (a:Addr):It :=
 ⟨fun i H=>∃ xs x,SqL K H a xs/\xs[i]?=some x,fun i H x H'=>∃ t v,x=.ref t/\H t=none/\H'=upd H t (.tup [.int i,v])/\∀ xs,SqL K H a xs->xs[i]?=some v,fun i H=>∃ xs,SqL K H a xs/\xs.length<=i⟩
theorem zoT {P:Program} {w:World} {K:PySem.W.Frag} {es:List Expr} {k:Nat} {pos:Pos} (e it a:Addr) (hne:e ≠ it):Turn P w K (.Tuple es k pos) (Ite K a) [e,it] e (fun i h=>(∃ old,IsEnum h e it i old)/\h.IsListIter it a i) where
 mem:=by simp
 obj:=fun i h st c hc=>by
  obtain ⟨⟨old,h1⟩,⟨o4,h4,_,d4⟩⟩:=st
  simp only [List.mem_cons,List.not_mem_nil,or_false] at hc
  rcases hc with rfl | rfl
  ·exact ⟨_,h1,fun v z=>by cases z⟩
  ·exact ⟨_,h4,fun v z=>by rw [d4] at z;cases z⟩
 keep:=fun i h h' st k=>by
  obtain ⟨⟨old,h1⟩,h4⟩:=st
  exact ⟨⟨old,k _ (by simp) _ h1⟩,h4.at fun o e=>k _ (by simp) o e⟩
 item:=by
  intro X hP hw hK hc i pins s σ H E I hf st hg
  subst hP hw hK
  obtain ⟨xs,x,hqx,hx⟩:=hg
  obtain ⟨itx,rvx,px,_⟩:=I.list hqx
  obtain ⟨ux,hux,rux⟩:=rvx.get hx
  obtain ⟨⟨old,h1⟩,h4⟩:=id st
  have lts:∀ c ∈ [e,it],c < s.heap.objs.size:=fun c hc=>by
   obtain ⟨o4,e4,_⟩:=id h4
   simp only [List.mem_cons,List.not_mem_nil,or_false] at hc
   rcases hc with rfl | rfl
   ·exact Heap.lt_size h1
   ·exact Heap.lt_size e4
  refine wpAny_pyNext_enum_item h1 h4 px.isList (by simpa using hux) hne fun h' a1 a3 a5 a6 hk=>?_
  refine ⟨_,rfl,wpAny_letOwnedTupleGo_enum a1 fun h'' b1 sb=>?_⟩
  have zlt:=lts e (by simp)
  have k2:∀ c o,c ∉ [e,it]->s.heap.get? c=some o->h''.get? c=some o:=fun c o hc g=>by
   simp only [List.mem_cons,List.not_mem_nil,or_false,not_or] at hc
   exact sb.extBut c o hc.1 (hk c o hc.1 hc.2 g)
  have ht:h''.get? s.heap.objs.size=some { cls:=.type "tuple",data:=.seq #[.int i s.toks,ux] }:=sb.extBut _ _ (Nat.ne_of_gt zlt) a5
  refine ⟨.ref s.heap.objs.size,_,Inv.zoR (s:=s) (h':=h'') (t':=s.toks + 1) (fp:=[e,it]) I (xs:=[.int i,x]) (us:=[.int i s.toks,ux]) k2 hf lts ht (.cons ⟨_,rfl⟩ (.cons rux .nil)) (by rw [sizeLine_eq];show 2<=16777216;decide),rfl,
   ⟨_,x,rfl,I.hok.fresh (Nat.le_refl _),rfl,fun zs hz=>by rw [I.zhh hz hqx];exact hx⟩,?_,fun c hc=>?_⟩
  ·exact ⟨⟨_,b1⟩,a3.extBut sb.extBut (Ne.symm hne)⟩
  ·rw [zax (Nat.ne_of_lt (lts c hc))]
   exact (hf c hc).1
 done:=by
  intro X hP hw hK hc i pins s σ H E I hf st hg
  subst hP hw hK
  obtain ⟨xs,hqx,hend⟩:=hg
  obtain ⟨itx,rvx,px,_⟩:=I.list hqx
  obtain ⟨⟨old,h1⟩,h4⟩:=id st
  have lx:=rvx.length
  refine wpAny_pyNext_enum_end (I.ok.hd hc) h1 h4 px.isList (by simp;omega) fun h' hk=>⟨rfl,I.zhF (t':=s.toks) (fun c o hc g=>?_) hf⟩
  simp only [List.mem_cons,List.not_mem_nil,or_false,not_or] at hc
  exact hk c o hc.2 g
 self:=fun _ _ _ _ _ st h=>by
  obtain ⟨⟨old,h1⟩,_⟩:=st
  exact wpAny_pyIter_enum h1 h
section
variable {X:Cx}
def zxR (K:PySem.W.Frag) (ta:TA):TI:=fun σ H R=>ta σ H fun vs H1=>∃ a,vs=[.ref a]/\(∃ xs,SqL K H1 a xs)/\R (Ite K a) H1
theorem zt3 {es:List Expr} {k:Nat} {p0:Pos} {a:Expr} {ta:TA} {p pos:Pos} (hg:Gl X "enumerate") (hm:X.mg "enumerate"=none) (ha:PA X [a] ta) (hs:starEach [a] X.env=[(false,eval a X.env)]:=by rfl) :
  PI X (.Tuple es k p0) (.Call (.Name "enumerate" p) [a] [] pos) (zxR X.K ta):=by
 intro pins s σ H R I h
 refine Call_ (zjk I hg hm (by decide +kernel:bootBuiltins "enumerate"=some (.type "enumerate")) (PyProof.Rows.callWith_type1 (thn (ha pos pins s σ H _ I h) fun us s1 ⟨vs,H1,I1,r1,q1⟩=>?_) hs rfl))
 obtain ⟨l1,e,⟨xs,hx⟩,q⟩:=q1
 subst e
 cases r1 with
 | cons r rr =>
  cases rr
  cases r
  obtain ⟨itx,rvx,px,_⟩:=I1.list hx
  refine call_enumerate_list px.isList fun h' g1 g4 g6 hk=>?_
  refine wpAny_pyIter_enum g1 ⟨_,[s1.heap.objs.size + 1,s1.heap.objs.size],_,_,H1,rfl,I1.kept (t':=s1.toks) hk,zoT _ _ l1 (Nat.succ_ne_self _),⟨⟨_,g1⟩,g4⟩,fun c hc=>?_,q⟩
  have hc':s1.heap.objs.size<=c:=by
   simp only [List.mem_cons,List.not_mem_nil,or_false] at hc
   rcases hc with rfl | rfl <;> first | exact Nat.le_add_right _ _ | exact Nat.le_refl _
  exact I1.zse hc' (I1.hok.fresh hc')
theorem zsy {bs:List Bool}:∀ {us:List Value},Vals (bs.map V.bl) us->us=bs.map Value.bool:=by
 induction bs with
 | nil=>intro us h;cases h;rfl
 | cons b r ih =>
  intro us h
  cases h with
  | cons h1 h2 =>
   have:=ih h2
   cases h1
   rw [this]
   rfl
theorem zsw (hc:X.calm=true):zgG X (.builtin "all") (fun xs H Q=>∃ (a:Addr) (bs:List Bool),xs=[.ref a]/\SqL X.K H a (bs.map V.bl)/\Q (.bl (bs.all id)) H):=by
 intro pins s σ H xs us Q I r h
 obtain ⟨a,bs,rfl,hq,q⟩:=h
 obtain ⟨u,rfl,rx⟩:=vals1 r
 cases rx
 obtain ⟨its,rv,p,hz⟩:=I.list hq
 have e:=zsy rv
 subst e
 have hne:a ≠ s.heap.objs.size:=by
  obtain ⟨o,eo,_⟩:=p.isList
  exact Nat.ne_of_lt (Heap.lt_size eo)
 have W:=Walks.list (prog:=X.prog) (w:=X.w) (A:=X.A.in1) (show X.A.in1.handled=none from I.ok.hd hc) s.heap.objs.size a hne (bs.map Value.bool).toArray
 refine call_all_walk (wpAny_pyIter_list p.isList ⟨_,_,_,_,_,_,fun i=>bs.getD i true,rfl,W,⟨⟨_,Heap.get?_push_size _ rfl,rfl,rfl⟩,p.isList.push _⟩,?_,fun h' tk hk=>⟨.bl (bs.all id),H,?_,?_,q⟩⟩)
 ·intro i v s' Q' E' hP hQ
  have hP':(bs.map Value.bool)[i]?=some v:=by simpa using hP
  rw [List.getElem?_map] at hP'
  cases e:bs[i]? with
  | none=>rw [e] at hP';cases hP'
  | some b =>
   rw [e] at hP'
   cases hP'
   have:bs.getD i true=b:=by simp [List.getD,e]
   have hQ2:Q' (bs.getD i true) s':=hQ
   rw [this] at hQ2
   exact wpAny_pure hQ2
 ·refine Inv.zhF (s:={ s with heap:=s.heap.push { cls:=.type "list_iterator",data:=.fields #[.ref a,.int 0 0] },toks:=s.toks }) (t':=tk) (fp:=[s.heap.objs.size]) (I.kept (t':=s.toks) fun b o e=>Heap.get?_push_of_some _ e) (fun b o hb e=>hk b o hb e) fun b hb=>?_
  have e:b=s.heap.objs.size:=by simpa using hb
  subst e
  exact I.zse (Nat.le_refl _) (I.hok.fresh (Nat.le_refl _))
 ·show Value.bool _=Value.bool _
  congr 1
  simp only [List.size_toArray,List.length_map]
  rw [Bool.eq_iff_iff,List.all_eq_true,List.all_eq_true]
  constructor
  ·intro h b hb
   obtain ⟨i,hi,e⟩:=List.getElem_of_mem hb
   have:=h i (List.mem_range.mpr hi)
   simpa [List.getD,hi,e] using this
  ·intro h i hi
   have hi':=List.mem_range.mp hi
   have:=h bs[i] (List.getElem_mem hi')
   simpa [List.getD,hi'] using this
end
end L2
namespace L2
open PySem PySem.Spec PyProof.Rows
theorem zih:∀ (names:List (Str × NameKind)) (n:Nat) (acc:List (Str × Addr)),cellsFrom n names acc=cellsFrom n names [] ++ acc
 | [],n,acc=>rfl
 | (x,k) :: r,n,acc=>by
  unfold cellsFrom
  split
  ·rw [zih r (n + 1) ((x,n) :: acc),zih r (n + 1) [(x,n)]]
   simp
  ·exact zih r n acc
theorem zkl:∀ (names:List (Str × NameKind)) (n:Nat) (p:Str × Addr),p ∈ cellsFrom n names []->(p.1,NameKind.cell) ∈ names
 | [],n,p,h=>nomatch h
 | (x,k) :: r,n,p,h=>by
  unfold cellsFrom at h
  split at h
  ·rename_i hk
   rw [zih] at h
   rcases List.mem_append.mp h with h | h
   ·exact List.mem_cons_of_mem _ (zkl r _ p h)
   ·have e:p=(x,n):=by simpa using h
    have hk':k=.cell:=by simpa using hk
    subst e hk'
    exact List.mem_cons_self ..
  ·exact List.mem_cons_of_mem _ (zkl r _ p h)
theorem zqG {x:Str}:∀ (names:List (Str × NameKind)) (n:Nat),(x,NameKind.cell) ∈ names->∃ c,(x,c) ∈ cellsFrom n names []
 | (y,k) :: r,n,h=>by
  unfold cellsFrom
  rcases List.mem_cons.mp h with e | h
  ·cases e
   rw [if_pos (by rfl),zih]
   exact ⟨n,List.mem_append_right _ (List.mem_singleton.mpr rfl)⟩
  ·split
   ·obtain ⟨c,hc⟩:=zqG r (n + 1) h
    exact ⟨c,by rw [zih];exact List.mem_append_left _ hc⟩
   ·exact zqG r n h
theorem zjj {α:Type} {x:Str} {c:α}:∀ {l m:List (Str × α)},(l ++ m).lookup x=some c->l.lookup x=some c\/(l.lookup x=none/\m.lookup x=some c)
 | [],m,h=>.inr ⟨rfl,h⟩
 | (y,b) :: r,m,h=>by
  rw [List.cons_append,List.lookup_cons] at h
  rw [List.lookup_cons]
  split at h
  ·exact .inl h
  ·exact zjj h
theorem zfa {α:Type} {x:Str} {c:α}:∀ {l m:List (Str × α)},m.lookup x=some c->∃ d,(l ++ m).lookup x=some d
 | [],m,h=>⟨c,h⟩
 | (y,b) :: r,m,h=>by
  rw [List.cons_append,List.lookup_cons]
  split
  ·exact ⟨_,rfl⟩
  ·exact zfa h
theorem zd8 {α:Type} {x:Str}:∀ {l m:List (Str × α)},l.lookup x=none->(l ++ m).lookup x=m.lookup x
 | [],m,h=>rfl
 | (y,b) :: r,m,h=>by
  rw [List.lookup_cons] at h
  rw [List.cons_append,List.lookup_cons]
  split at h
  ·cases h
  ·exact zd8 h
theorem ze9 {α:Type} {x:Str}:∀ {l:List (Str × α)},(∀ p ∈ l,p.1 ≠ x)->l.lookup x=none
 | [],_=>rfl
 | (y,b) :: r,h=>by
  rw [List.lookup_cons]
  have:(x == y)=false:=by
   have:=h (y,b) (List.mem_cons_self ..)
   simpa using fun e=>this e.symm
  rw [this]
  exact ze9 fun p hp=>h p (List.mem_cons_of_mem _ hp)
def zkU (C:Addr) (scope:Scope):List (Str × Addr):=cellsFrom (C + 1) scope.names []
def zap (X:Cx) (M:List Str) (scope:Scope) (C:Addr) (s₃:Shared) (H₃:Hp) (fp:List Addr):Cx :=
 { X with N:=M,s₀:=s₃,H₀:=H₃,env:=compEnvC scope (zkU C scope ++ zig X.env.cells scope.names []) C X.env,outer:=X.stack,stack:=X.stack,ex:=fp,fn:=fun x=>scope.names.contains (x,NameKind.cell),pn:=[],xe:=fun _ _=>False }
structure zeS (X:Cx) (scope:Scope) (cap:List Str):Prop where
 kind:scope.kind=.function
 cell:∀ y ∈ scope.names,y.2=.free->X.env.kindOf y.1=some .cell
 loc:∀ y ∈ scope.names,y.2=.local->scope.names.lookup y.1=some .local
 cap:∀ x ∈ cap,scope.names.lookup x ≠ some .local/\(x,NameKind.cell) ∉ scope.names
 dis:∀ y ∈ scope.names,y.2=.free->(y.1,NameKind.cell) ∉ scope.names
theorem zkW {C:Addr} {m:Str->Option Value}:∀ (names:List (Str × NameKind)) {h:Heap},h.Ns C m->(pushCells h names).Ns C m:=fun names h hn=>by
 obtain ⟨o,es,ep,ho,r⟩:=hn
 exact ⟨o,es,ep,pushCells_keeps names h C o ho,r⟩
section
variable {X:Cx} {pins:List (Addr × Obj)} {σ:St} {H:Hp} {s:Shared}
theorem zh1 {scope:Scope} {L:List Str} {ix:List Nat} {h':Heap} {fp:List Addr} {t':Nat} (S:zeS X scope (zeX X ix)) (I:Inv X pins σ H s) (hf:∀ b ∈ fp,zmS X pins H b) (hfp:∀ b ∈ fp,b < s.heap.objs.size)
  (hix:∀ i ∈ ix,i < X.N.length) (hn:h'.Ns s.heap.objs.size fun _=>none) (hk:∀ b u,s.heap.get? b=some u->h'.get? b=some u) (hcs:CellsOk h' (s.heap.objs.size + 1) (zkU s.heap.objs.size scope)) :
  Inv (zap X (L ++ zeX X ix) scope s.heap.objs.size s H fp) [] (zeW L.length ix σ) H { s with heap:=h',toks:=t' }:=by
 have cl:∀ x c,(zig X.env.cells scope.names []).lookup x=some c->X.env.cells.lookup x=some c:=fun x c e =>
  zho (acc:=[]) (fun p hp=>nomatch hp) (x,c) (PySem.mem_of_lookup e)
 have old:∀ x c,X.env.cells.lookup x=some c->c < s.heap.objs.size:=fun x c e=>by
  obtain ⟨v,q⟩:=I.cell x c e
  exact q.lt
 have own:∀ x c,(zkU s.heap.objs.size scope).lookup x=some c->h'.IsCell c none/\s.heap.objs.size + 1<=c/\(x,NameKind.cell) ∈ scope.names:=fun x c e=>by
  have m:=PySem.mem_of_lookup e
  exact ⟨(hcs.empty x c m).1,(hcs.empty x c m).2,zkl _ _ _ m⟩
 have al:∀ x c,(zkU s.heap.objs.size scope ++ zig X.env.cells scope.names []).lookup x=some c->(zkU s.heap.objs.size scope).lookup x=some c\/((zkU s.heap.objs.size scope).lookup x=none/\X.env.cells.lookup x=some c):=fun x c e=>by
  rcases zjj e with h | ⟨h1,h2⟩
  ·exact .inl h
  ·exact .inr ⟨h1,cl x c h2⟩
 have ownHas:∀ x,(x,NameKind.cell) ∈ scope.names->∃ c,(zkU s.heap.objs.size scope).lookup x=some c:=fun x hx=>by
  obtain ⟨c,hc⟩:=zqG scope.names (s.heap.objs.size + 1) hx
  exact zbV hc
 refine ⟨⟨I.ok.mod,S.kind,I.ok.glob,I.ok.blt,Nat.le_refl _,fun x y c e1 e2=>?_,fun x hx=>?_,fun x c e1 e2=>?_,I.ok.hd,I.ok.frames,.inl rfl,fun b hb=>⟨Nat.ne_of_lt (hfp b hb),fun x c e=>?_⟩,
  fun b o e=>I.bs b o e,Nat.le_trans I.ok.bsz I.sz,fun b o e hb=>?_,fun b hb hz=>?_,I.stack,I.zo0,I.ok.tree,I.ok.sk⟩,
  rfl,I.bare,Un.kept hk,⟨_,hn,fun i x v h1 h2 h3=>?_⟩,fun x c e=>?_,I.hok.fresh (Nat.le_refl _),fun x c e=>?_,fun p hp=>absurd (show p ∈ ([]:List (Addr × Obj)) from hp) (by simp),I.hok.kept hk,?_⟩
 ·rcases al x c e1 with a1 | ⟨_,a1⟩ <;> rcases al y c e2 with a2 | ⟨_,a2⟩
  ·exact name_of_addr hcs.apart (PySem.mem_of_lookup a1) (PySem.mem_of_lookup a2)
  ·exact absurd (old y c a2) (Nat.not_lt.mpr (Nat.le_of_succ_le (own x c a1).2.1))
  ·exact absurd (old x c a1) (Nat.not_lt.mpr (Nat.le_of_succ_le (own y c a2).2.1))
  ·exact I.ok.inj x y c a1 a2
 ·have hx':(relabel scope X.env).names.lookup x=some .cell\/(relabel scope X.env).names.lookup x=some .free:=hx
  have fr:(x,NameKind.cell) ∈ scope.names\/(x,NameKind.free) ∈ scope.names:=by
   rcases hx' with q | q
   ·obtain ⟨k0,_,h2,h3⟩:=zbe (scope:=scope) q
    rcases h3 with rfl | ⟨rfl,_⟩
    ·exact .inl h2
    ·exact .inr h2
   ·obtain ⟨k0,_,h2,h3⟩:=zbe (scope:=scope) q
    rcases h3 with rfl | ⟨_,z⟩
    ·exact .inr h2
    ·cases z
  rcases fr with fr | fr
  ·obtain ⟨c,hc⟩:=ownHas x fr
   show ∃ c,(zkU s.heap.objs.size scope ++ zig X.env.cells scope.names []).lookup x=some c
   exact zbV (List.mem_append_left _ (PySem.mem_of_lookup hc))
  ·obtain ⟨c,hc⟩:=I.ok.has x (.inl (S.cell _ fr rfl))
   obtain ⟨d,hd⟩:=zbV (zfY (names:=scope.names) (acc:=[]) hc fr)
   exact zfa hd
 ·have hx:(x,NameKind.cell) ∈ scope.names:=by
   have e1':scope.names.contains (x,NameKind.cell)=true:=e1
   simpa using e1'
  rcases al x c e2 with a1 | ⟨a1,_⟩
  ·exact Nat.le_of_succ_le (own x c a1).2.1
  ·obtain ⟨d,hd⟩:=ownHas x hx
   rw [a1] at hd
   cases hd
 ·rcases al x c e with a1 | ⟨_,a1⟩
  ·exact Nat.ne_of_gt (Nat.lt_of_lt_of_le (hfp b hb) (Nat.le_of_succ_le (own x c a1).2.1))
  ·exact (hf b hb).2.2.2.2.1 x c a1
 ·rcases (hf b hb).2.2.2.1 with z | z
  ·exact I.ok.noex b o e z
  ·exact absurd (Heap.lt_size (I.ok.bs b o e).1) (Nat.not_lt.mpr z)
 ·rcases List.mem_cons.mp (I.zoZ b hz) with z | z
  ·exact (hf b hb).2.1 z
  ·exact (hf b hb).2.2.1 z
 ·-- a name that is drawn in
  have hi:L.length<=i:=by
   by_cases hi:i < L.length
   ·unfold zeW at h2
    rw [List.getElem?_append_left (by simpa using hi),List.getElem?_replicate,if_pos hi] at h2
    cases h2
   ·omega
  unfold zeW at h2
  rw [List.getElem?_append_right (by simpa using hi),List.length_replicate,List.getElem?_map] at h2
  have h1':(L ++ zeX X ix)[i]?=some x:=h1
  rw [List.getElem?_append_right hi] at h1'
  unfold zeX at h1'
  rw [List.getElem?_map] at h1'
  cases ej:ix[i - L.length]? with
  | none=>rw [ej] at h1';cases h1'
  | some j =>
   rw [ej] at h1' h2
   have hj:j < X.N.length:=hix j (List.mem_of_getElem? ej)
   have e1:X.N[j]?=some x:=by
    have:X.N.getD j ""=x:=Option.some.inj h1'
    rw [<- this]
    simp [List.getD,hj]
   have e2:σ[j]?=some (some v):=by
    have z:(σ[j]?).getD none=some v:=Option.some.inj h2
    cases q:σ[j]? with
    | none=>rw [q] at z;cases z
    | some o=>rw [q] at z;exact congrArg some z
   have hx:x ∈ zeX X ix:=by
    unfold zeX
    refine List.mem_map.mpr ⟨j,List.mem_of_getElem? ej,?_⟩
    exact Option.some.inj h1'
   have h3':(relabel scope X.env).names.lookup x=some .local\/(relabel scope X.env).names.lookup x=some .cell\/(relabel scope X.env).names.lookup x=some .free:=h3
   have fr:(x,NameKind.free) ∈ scope.names:=by
    rcases h3' with q | q | q
    ·obtain ⟨k0,g1,g2,g3⟩:=zbe (scope:=scope) q
     rcases g3 with rfl | ⟨_,z⟩
     ·exact absurd g1 (S.cap x hx).1
     ·cases z
    ·obtain ⟨k0,_,g2,g3⟩:=zbe (scope:=scope) q
     rcases g3 with rfl | ⟨rfl,_⟩
     ·exact absurd g2 (S.cap x hx).2
     ·exact g2
    ·obtain ⟨k0,_,g2,g3⟩:=zbe (scope:=scope) q
     rcases g3 with rfl | ⟨_,z⟩
     ·exact g2
     ·cases z
   have hc:X.env.kindOf x=some .cell:=S.cell _ fr rfl
   obtain ⟨m,_,hl⟩:=I.loc
   obtain ⟨u,ru,lk⟩:=hl j x v e1 e2 (.inr (.inl hc))
   refine ⟨u,ru,?_⟩
   rcases lk with ⟨z,_⟩ | ⟨_,c,ec,ic⟩
   ·rw [hc] at z;cases z
   ·have k3:(relabel scope X.env).names.lookup x=some .cell\/(relabel scope X.env).names.lookup x=some .free:=by
     rcases h3' with q | q | q
     ·obtain ⟨k0,g1,g2,g3⟩:=zbe (scope:=scope) q
      rcases g3 with rfl | ⟨_,z⟩
      ·exact absurd g1 (S.cap x hx).1
      ·cases z
     ·exact .inl q
     ·exact .inr q
    obtain ⟨c',ec'⟩:=zbV (zfY (names:=scope.names) (acc:=[]) ec fr)
    have e3:=cl x c' ec'
    rw [ec] at e3
    cases e3
    obtain ⟨oc,g1,g2⟩:=ic
    have no:(zkU s.heap.objs.size scope).lookup x=none:=ze9 fun p hp z=>(S.cap x hx).2 (by rw [<- z];exact zkl _ _ _ hp)
    exact .inr ⟨k3,c,(zd8 no).trans ec',oc,hk _ _ g1,g2⟩
 ·rcases al x c e with a1 | ⟨_,a1⟩
  ·exact ⟨none,(own x c a1).1⟩
  ·obtain ⟨v,oc,g1,g2⟩:=I.cell x c a1
   exact ⟨v,oc,hk _ _ g1,g2⟩
 ·rcases al x c e with a1 | ⟨_,a1⟩
  ·exact I.hok.fresh (Nat.le_of_succ_le (own x c a1).2.1)
  ·exact I.freeC x c a1
 ·show (zeW L.length ix σ).length=(L ++ zeX X ix).length
  unfold zeW zeX
  simp
end
theorem zmg {M:Model} {A:Around} {E:Value->Shared->Prop} {s:Shared} {scope:Scope} {globals:Addr} {cl:List (Str × Addr)} {qual:Str} {outer:Env} {Q:Env->Shared->Prop}
  (hQ:∀ h',h'.Ns s.heap.objs.size (fun _=>none)->(∀ b u,s.heap.get? b=some u->h'.get? b=some u)->CellsOk h' (s.heap.objs.size + 1) (zkU s.heap.objs.size scope) ->
   Q { scope:=scope,locals:=s.heap.objs.size,globals:=globals,cells:=zkU s.heap.objs.size scope ++ cl,qual:=qual,func:=none,code:=outer.code,frame:=outer.frame,builtins:=outer.builtins } { s with heap:=h' }) :
  wpAny M A (newFunctionEnv scope globals cl [] qual none .none (some outer)) Q E s:=by
 simp only [newFunctionEnv,Option.isSome_some,if_true]
 refine wpAny_bind (wpAny_alloc ?_)
 refine wpAny_bind (wpAny_layCells _ (fun name kind cells=>by cases hkc:kind == NameKind.cell <;> simp [hkc]) _ _ _ _ ?_)
 have ok:=cellsFrom_ok scope.names (s.heap.push { cls:=.type "dict",data:=.dict #[] }) (s.heap.objs.size + 1) [] ⟨fun _ _ hm=>(nomatch hm),List.Pairwise.nil⟩ (by rw [Heap.size_push];exact Nat.le_refl _)
 rw [Heap.size_push] at ok
 rw [show ({ s with heap:=s.heap.push { cls:=.type "dict",data:=.dict #[] } }:Shared).heap.objs.size=s.heap.objs.size + 1 from Heap.size_push ..,zih]
 refine wpAny_bind ?_
 rw [List.forIn_nil]
 refine wpAny_pure (wpAny_pure ?_)
 exact hQ _ (zkW _ (Heap.Ns.new ..)) (fun b u e=>pushCells_keeps _ _ _ _ (Heap.get?_push_of_some _ e)) ok
section
variable {X:Cx}
theorem zrI {elt tg iter:Expr} {ifs:List Expr} {scope:Scope} {pos:Pos} {L:List Str} {ix:List Nat} {wi:TI} {g:TG} {tc:TT} {te:TE} (hc:X.calm=true) (S:zeS X scope (zeX X ix)) (hix:∀ i ∈ ix,i < X.N.length) (hi:PI X tg iter wi)
  (hg:∀ C s₃ H₃ fp,PG (zap X (L ++ zeX X ix) scope C s₃ H₃ fp) tg g) (hgo:zmR L.length g)
  (ht:∀ C s₃ H₃ fp,PTs (zap X (L ++ zeX X ix) scope C s₃ H₃ fp) ifs tc) (he:∀ C s₃ H₃ fp,PE (zap X (L ++ zeX X ix) scope C s₃ H₃ fp) elt te)
  (hs:∀ x,foldedSetIterable iter X.env x=pure x:=by intro _;rfl) :
  PE X (.ListComp elt [⟨tg,iter,ifs,0⟩] scope pos) (znW L.length ix wi g tc te):=by
 intro pins s σ H Q I h
 rw [eval_ListComp]
 refine wpAny_comprehension_free (use:=none) rfl hs (zdz fun y hy e=>I.ok.has y.1 (.inl (S.cell y hy e))) S.kind S.loc (thn (hi pins s σ H _ I h) fun xv s1 h1=>thn h1 fun itv s2 h2=>?_)
 obtain ⟨it,fp,tn,J,H2,rfl,I2,T,st2,f2,q⟩:=h2
 have nD:H2 s2.heap.objs.size=none:=I2.hok.fresh (Nat.le_refl _)
 obtain ⟨W,⟨m0,w0⟩,turn⟩:=q _ nD
 generalize hD:s2.heap.objs.size=D at nD w0 turn
 have fD:∀ b ∈ fp,b < D:=fun b hb=>by
  obtain ⟨o,e,_⟩:=T.obj _ _ st2 b hb
  rw [<- hD]
  exact Heap.lt_size e
 have I3:Inv X pins σ (upd H2 D (.lst [])) { s2 with heap:=s2.heap.push { cls:=.type "list",data:=.seq ([]:List Value).toArray },toks:=s2.toks }:=by
  rw [<- hD]
  exact I2.laid (t':=s2.toks) (fun b u e=>Heap.get?_push_of_some _ e) (Nat.le_refl _) ⟨by simp,[],0,.nil,Heap.get?_push_size _ rfl⟩
 refine wpAny_newObj_type (zmg (fun h₁ hns₁ hsb₁ hcs₁=>?_)) (by show 0<=sizeLine;exact Nat.zero_le _)
 rw [hD]
 have st3:tn 0 (s2.heap.push { cls:=.type "list",data:=.seq ([]:List Value).toArray }):=T.keep _ _ _ st2 fun b hb o e=>Heap.get?_push_of_some _ e
 generalize hp3:s2.heap.push { cls:=.type "list",data:=.seq ([]:List Value).toArray }=h3 at I3 st3 hns₁ hsb₁ hcs₁
 dsimp only at hns₁ hsb₁ hcs₁ ⊢
 have sz3:h3.objs.size=D + 1:=by rw [<- hp3,Heap.size_push,hD]
 have old:∀ b u,h3.get? b=some u->h₁.get? b=some u:=fun b u e=>hsb₁ b u e
 have f3:∀ b ∈ fp,zmS X pins (upd H2 D (.lst [])) b:=fun b hb=>⟨by rw [zax (Nat.ne_of_lt (fD b hb))];exact (f2 b hb).1,(f2 b hb).2⟩
 have I4:=zh1 (L:=L) (ix:=ix) (t':=s2.toks) S I3 f3 (fun b hb=>by show b < h3.objs.size;rw [sz3];exact Nat.lt_succ_of_lt (fD b hb)) hix (h':=h₁) hns₁ old hcs₁
 have st4:tn 0 h₁:=T.keep _ _ _ st3 fun b hb o e=>old b o e
 generalize hC:(zap X (L ++ zeX X ix) scope h3.objs.size { s2 with heap:=h3,toks:=s2.toks } (upd H2 D (.lst [])) fp)=Y at I4
 have eEnv:Y.env=compEnvC scope (zkU h3.objs.size scope ++ zig X.env.cells scope.names []) h3.objs.size X.env:=by rw [<- hC];rfl
 have hcY:Y.calm=true:=by rw [<- hC];exact hc
 have xeY:Y.xe=fun _ _=>False:=by rw [<- hC];rfl
 have eP:Y.prog=X.prog:=by rw [<- hC];rfl
 have eW:Y.w=X.w:=by rw [<- hC];rfl
 have eK:Y.K=X.K:=by rw [<- hC];rfl
 have eA:Y.A=X.A:=by rw [<- hC];rfl
 have gY:PG Y tg g:=by rw [<- hC];exact hg _ _ _ _
 have tY:PTs Y ifs tc:=by rw [<- hC];exact ht _ _ _ _
 have pY:PE Y elt te:=by rw [<- hC];exact he _ _ _ _
 have stat:∀ {H':Hp},(∀ b ∈ fp,H' b=none)->∀ b ∈ fp,zmS Y [] H' b:=fun {H'} hn b hb=>by
  have z1:b ∈ Y.ex:=by rw [<- hC];exact hb
  have zp:Y.pn=[]:=by rw [<- hC];rfl
  refine ⟨hn b hb,(I4.ok.exf b z1).1,I4.ok.exfs b z1,.inl z1,(I4.ok.exf b z1).2,fun p hp=>?_⟩
  rw [zp] at hp
  exact absurd hp (by simp)
 have fin:∀ {H':Hp} {s':Shared},Inv Y [] (zeW L.length ix σ) H' s'->Q (.ref D) H'->compPost (model X.prog X.w) X.A X.xe none (EP X pins σ Q) (.ref D) h3.objs.size (.ok .next) s':=by
  intro H' s' J' qe
  obtain ⟨m,hm,_⟩:=J'.loc
  rw [eEnv] at hm
  refine ⟨m,hm,fun h' sb=>⟨.ref D,H',?_,rfl,qe⟩⟩
  have hfr:H' h3.objs.size=none:=by
   have:=J'.free
   rw [eEnv] at this
   exact this
  have neC:∀ b u,H' b=some u->b ≠ h3.objs.size:=fun b u e z=>by rw [z,hfr] at e;cases e
  have base:Un (frs X.stack) fp (upd H2 D (.lst [])) H' h3 s'.heap:=by
   have:=J'.base
   rw [<- hC] at this
   exact this
  have to':∀ b o,b ≠ h3.objs.size->s'.heap.get? b=some o->h'.get? b=some o:=fun b o hb e=>sb.extBut b o hb e
  have lt3:∀ b o,h3.get? b=some o->b ≠ h3.objs.size:=fun b o e=>Nat.ne_of_lt (Heap.lt_size e)
  have un:Un (frs X.stack) fp (upd H2 D (.lst [])) H' h3 h' :=
   ⟨fun b o e n hb hx=>to' b o (lt3 b o e) (base.keep b o e n hb hx),
    fun b o e n hb hx=>by
    obtain ⟨sl,z⟩:=base.slot b o e n hb hx
    exact ⟨sl,to' _ _ (lt3 b o e) z⟩,
    base.free,
    fun b o e hx=>by
    obtain ⟨o',z⟩:=base.there b o e hx
    exact ⟨o',to' _ _ (lt3 b o e) z⟩,
    base.tups,base.frzs,base.tbls⟩
  have hok:HOk X.prog X.w H' h':=fun b u e=>by
   have z:=J'.hok b u e
   rw [eP,eW] at z
   refine z.stay (fun c v hcv qv=>to' c v ?_ qv) (fun _ qq=>qq) fun _ _ qq=>qq
   rcases hcv with zz | zz
   ·rw [zz];exact neC b u e
   ·exact neC c _ zz
  refine I3.call' (s':={ s' with heap:=h' }) (ch:=fp) ?_ un hok J'.bare fun b hb=>?_
  ·have:=J'.os
   rw [<- hC] at this
   exact this
  ·obtain ⟨_,g1,g2,g3,g4,g5⟩:=f2 b hb
   exact ⟨g3,g1,g4,g5⟩
 have key:∀ s5:Shared,s5={ s2 with heap:=h₁,toks:=s2.toks } ->
   codeAny (model X.prog X.w) X.A (.compLoop (.ListComp elt [⟨tg,iter,ifs,0⟩] scope pos) 0 (.ref it) (.ref D) (compEnvC scope (zkU h3.objs.size scope ++ zig X.env.cells scope.names []) h3.objs.size X.env))
    (compPost (model X.prog X.w) X.A X.xe none (EP X pins σ Q) (.ref D) h3.objs.size) s5:=by
  rintro s5 rfl
  rw [<- eEnv,<- eP,<- eW,<- eA]
  refine zid (fun n s'=>∃ i ys H',Inv Y [] (zeW L.length ix σ) H' s'/\tn i s'.heap/\(∀ b ∈ fp,H' b=none)/\W i n ys H') ?_ m0 ⟨0,[],_,?_,st4,fun b hb=>(f3 b hb).1,w0⟩
  ·rintro n s6 ⟨i,ys,H6,I6,st6,fr6,w6⟩
   obtain ⟨hl6,alt⟩:=turn i n ys H6 w6
   rcases alt with ⟨stop,qe⟩ | ⟨go,step⟩
   ·have Td:=T.done Y eP eW eK hcY i [] s6 _ H6 (fun _ _=>False) I6 (stat fr6) st6 stop
    rw [<- eP,<- eW] at Td
    refine wpAny_mono Td (fun r s7 hr7=>?_) fun _ _ f=>f.elim
    obtain ⟨hr,I7⟩:=hr7
    subst hr
    rw [eP,eW,eA]
    exact fin I7 qe
   ·have Ti:=T.item Y eP eW eK hcY i [] s6 _ H6 (fun _ _=>False) I6 (stat fr6) st6 go
    rw [<- eP,<- eW] at Ti
    refine wpAny_mono Ti (fun r s7 hr7=>?_) fun _ _ f=>f.elim
    obtain ⟨u,hr,h7⟩:=hr7
    subst hr
    refine wpAny_mono h7 (fun _ s8 hr8=>?_) fun _ _ f=>f.elim
    obtain ⟨x,H8,I8,r8,y8,st8,fr8⟩:=hr8
    have I8':=I8.pinned (stat fr8) (T.obj _ _ st8)
    have stp:=hgo _ _ _ _ (step x H8 y8)
    refine wpAny_mono (gY _ s8 _ H8 x u _ I8' r8 stp) (fun _ s9 ⟨σ9,H9,I9,⟨k1,k2⟩,q9⟩=>?_) fun _ _ f=>by rw [xeY] at f;exact f.elim
    have weak:∀ {Hz:Hp} {sz:Shared},Inv Y ([] ++ zhN fp s8.heap) σ9 Hz sz->Inv Y [] (zeW L.length ix σ) Hz sz/\tn (i + 1) sz.heap/\∀ b ∈ fp,Hz b=none:=fun {Hz sz} Iz=>by
     refine ⟨Iz.zeB.weak k1.symm fun j v e=>?_,T.keep _ _ _ st8 fun b hb o e=>(Iz.pin (b,o) (List.mem_append_right _ (List.mem_append_right _ (zbH hb e)))).1,fun b hb=>?_⟩
     ·by_cases hj:L.length<=j
      ·rw [k2 j hj];exact e
      ·unfold zeW at e
       rw [List.getElem?_append_left (by simpa using Nat.lt_of_not_le hj),List.getElem?_replicate,if_pos (Nat.lt_of_not_le hj)] at e
       cases e
     ·obtain ⟨o,e,d⟩:=T.obj _ _ st8 b hb
      exact (Iz.pin (b,o) (List.mem_append_right _ (List.mem_append_right _ (zbH hb e)))).2.1
    refine wpAny_mono (tY _ s9 σ9 H9 _ I9 q9) (fun ok s10 ⟨H10,I10,q10⟩=>?_) fun _ _ f=>by rw [xeY] at f;exact f.elim
    cases ok with
    | false =>
     have q10':∃ m',m' < n/\W (i + 1) m' ys H10:=q10
     obtain ⟨m',hm',w10⟩:=q10'
     obtain ⟨z1,z2,z3⟩:=weak I10
     exact ⟨m',hm',i + 1,ys,H10,z1,z2,z3,w10⟩
    | true =>
     refine wpAny_mono (pY _ s10 σ9 H10 _ I10 q10) (fun xv s11 ⟨v,H11,I11,r11,hl11,hz11,m',hm',w11⟩=>?_) fun _ _ f=>by rw [xeY] at f;exact f.elim
     refine wpAny_mono (zhS (X:=Y) _ s11 σ9 H11 (.ref D) [v] (.ref D) [xv] (fun _ Hq=>Hq=upd H11 D (.lst (ys ++ [v]))) I11 rfl (.cons r11 .nil) ⟨D,ys,v,rfl,rfl,hl11,hz11,rfl⟩) (fun _ s12 ⟨_,H12,I12,_,e12⟩=>?_) fun _ _ f=>by rw [xeY] at f;exact f.elim
     subst e12
     obtain ⟨z1,z2,z3⟩:=weak I12
     exact ⟨m',hm',i + 1,ys ++ [v],_,z1,z2,z3,w11⟩
  ·exact I4
 exact codeAny_compStart_list (key _ rfl) (T.self _ 0 _ _ _ st4 (key _ rfl))
end
end L2
namespace L2
open PySem PySem.Spec PyProof.Rows
def zct (sc scope:Scope) (N:List Str) (ix:List Nat):Bool :=
 (scope.names.all fun y=>(y.2 != .free || sc.names.lookup y.1 == some .cell) && (y.2 != .local || scope.names.lookup y.1 == some .local) && (y.2 != .free || !(scope.names.contains (y.1,NameKind.cell)))) &&
 ((ix.map fun i=>N.getD i "").all fun x=>scope.names.lookup x != some .local && !(scope.names.contains (x,NameKind.cell))) && ix.all (fun i=>decide (i < N.length))
section
variable {X:Cx}
theorem zrH {elt tg iter:Expr} {ifs:List Expr} {scope:Scope} {pos:Pos} {wi:TI} {g:TG} {tc:TT} {te:TE} (L:List Str) (ix:List Nat) (M:List Str) (hc:X.calm=true) (hk:scope.kind=.function)
  (hd:zct X.env.scope scope X.N ix=true) (hM:M=L ++ ix.map fun i=>X.N.getD i "") (hi:PI X tg iter wi)
  (hg:∀ C s₃ H₃ fp,PG (zap X M scope C s₃ H₃ fp) tg g) (hgo:zmR L.length g)
  (ht:∀ C s₃ H₃ fp,PTs (zap X M scope C s₃ H₃ fp) ifs tc) (he:∀ C s₃ H₃ fp,PE (zap X M scope C s₃ H₃ fp) elt te)
  (hs:∀ x,foldedSetIterable iter X.env x=pure x:=by intro _;rfl) :
  PE X (.ListComp elt [⟨tg,iter,ifs,0⟩] scope pos) (znW L.length ix wi g tc te):=by
 unfold zct at hd
 simp only [Bool.and_eq_true,List.all_eq_true,bne_iff_ne,ne_eq,Bool.or_eq_true,beq_iff_eq,decide_eq_true_eq,Bool.not_eq_true',List.contains_eq_mem,decide_eq_false_iff_not] at hd
 obtain ⟨⟨d1,d2⟩,d3⟩:=hd
 have eM:M=L ++ zeX X ix:=by rw [hM];unfold zeX;rfl
 subst eM
 refine zrI (L:=L) (ix:=ix) hc ⟨hk,fun y hy e=>?_,fun y hy e=>?_,fun x hx=>?_,fun y hy e=>?_⟩ d3 hi hg hgo ht he hs
 ·rcases (d1 y hy).1.1 with z | z
  ·exact absurd e z
  ·exact z
 ·rcases (d1 y hy).1.2 with z | z
  ·exact absurd e z
  ·exact z
 ·unfold zeX at hx
  exact d2 x hx
 ·rcases (d1 y hy).2 with z | z
  ·exact absurd e z
  ·exact z
end
end L2
namespace L2
open PySem PySem.Spec PyProof.Rows
end L2
namespace L2
open PySem PySem.Spec PyProof.Rows
section
variable {X:Cx}
theorem ztX {elt tg iter:Expr} {ifs:List Expr} {scope:Scope} {pos:Pos} {L:List Str} {ix:List Nat} {wi:TI} {g:TG} {tc:TT} {te:TE} {i0:Nat} {x0:Str} {pos' spos:Pos} (hN:X.N.Nodup) (hii:X.N[i0]?=some x0) (hx0:Loc X.env.scope x0) (hf0:X.fn x0=true\/X.env.scope.names.lookup x0=some .local)
  (hsw:swapsWith (.ListComp elt [⟨tg,iter,ifs,0⟩] scope pos) (some (.Name x0 pos')) spos.line X.env=pure true) (hc:X.calm=true) (S:zeS X scope (zeX X ix)) (hix:∀ i ∈ ix,i < X.N.length) (hi:PI X tg iter wi)
  (hg:∀ C s₃ H₃ fp,PG (zap X (L ++ zeX X ix) scope C s₃ H₃ fp) tg g) (hgo:zmR L.length g)
  (ht:∀ C s₃ H₃ fp,PTs (zap X (L ++ zeX X ix) scope C s₃ H₃ fp) ifs tc) (he:∀ C s₃ H₃ fp,PE (zap X (L ++ zeX X ix) scope C s₃ H₃ fp) elt te)
  (hs:∀ x,foldedSetIterable iter X.env x=pure x:=by intro _;rfl) :
  PS X (.Assign [.Name x0 pos'] (.ListComp elt [⟨tg,iter,ifs,0⟩] scope pos) spos) (zvn (znW L.length ix wi g tc te) (zqe i0)):=by
 intro pins s σ H Dn I h
 have h:znW L.length ix wi g tc te σ H (fun v H1=>Dn.nx (σ.set i0 (some v)) H1):=h
 generalize hQ:(fun v H1=>Dn.nx (σ.set i0 (some v)) H1:VK)=Q at h
 rw [exec_Assign_Name_used _ _ _ _ hsw]
 refine wpAny_bind (wpAny_standAt (wpAny_bind ?_))
 show wpAny _ _ (do let _ <- comprehension (.ListComp elt [⟨tg,iter,ifs,0⟩] scope pos) scope X.env _ (newList []) false (eval iter X.env) (some (assign (.Name x0 pos') X.env))) _ _ s
 refine wpAny_bind (wpAny_mono (wpAny_comprehension_free (use:=some (assign (.Name x0 pos') X.env)) (Q:=fun _ s'=>SP X pins Dn .next s') rfl hs (zdz fun y hy e=>I.ok.has y.1 (.inl (S.cell y hy e))) S.kind S.loc (thn (hi pins s σ H _ I h) fun xv s1 h1=>thn h1 fun itv s2 h2=>?_)) (fun _ s' hq=>wpAny_pure (wpAny_pure hq)) fun _ _ e=>e)
 obtain ⟨it,fp,tn,J,H2,rfl,I2,T,st2,f2,q⟩:=h2
 have nD:H2 s2.heap.objs.size=none:=I2.hok.fresh (Nat.le_refl _)
 obtain ⟨W,⟨m0,w0⟩,turn⟩:=q _ nD
 generalize hD:s2.heap.objs.size=D at nD w0 turn
 have fD:∀ b ∈ fp,b < D:=fun b hb=>by
  obtain ⟨o,e,_⟩:=T.obj _ _ st2 b hb
  rw [<- hD]
  exact Heap.lt_size e
 have I3:Inv X pins σ (upd H2 D (.lst [])) { s2 with heap:=s2.heap.push { cls:=.type "list",data:=.seq ([]:List Value).toArray },toks:=s2.toks }:=by
  rw [<- hD]
  exact I2.laid (t':=s2.toks) (fun b u e=>Heap.get?_push_of_some _ e) (Nat.le_refl _) ⟨by simp,[],0,.nil,Heap.get?_push_size _ rfl⟩
 refine wpAny_newObj_type (zmg (fun h₁ hns₁ hsb₁ hcs₁=>?_)) (by show 0<=sizeLine;exact Nat.zero_le _)
 rw [hD]
 have st3:tn 0 (s2.heap.push { cls:=.type "list",data:=.seq ([]:List Value).toArray }):=T.keep _ _ _ st2 fun b hb o e=>Heap.get?_push_of_some _ e
 generalize hp3:s2.heap.push { cls:=.type "list",data:=.seq ([]:List Value).toArray }=h3 at I3 st3 hns₁ hsb₁ hcs₁
 dsimp only at hns₁ hsb₁ hcs₁ ⊢
 have sz3:h3.objs.size=D + 1:=by rw [<- hp3,Heap.size_push,hD]
 have old:∀ b u,h3.get? b=some u->h₁.get? b=some u:=fun b u e=>hsb₁ b u e
 have f3:∀ b ∈ fp,zmS X pins (upd H2 D (.lst [])) b:=fun b hb=>⟨by rw [zax (Nat.ne_of_lt (fD b hb))];exact (f2 b hb).1,(f2 b hb).2⟩
 have I4:=zh1 (L:=L) (ix:=ix) (t':=s2.toks) S I3 f3 (fun b hb=>by show b < h3.objs.size;rw [sz3];exact Nat.lt_succ_of_lt (fD b hb)) hix (h':=h₁) hns₁ old hcs₁
 have st4:tn 0 h₁:=T.keep _ _ _ st3 fun b hb o e=>old b o e
 generalize hC:(zap X (L ++ zeX X ix) scope h3.objs.size { s2 with heap:=h3,toks:=s2.toks } (upd H2 D (.lst [])) fp)=Y at I4
 have eEnv:Y.env=compEnvC scope (zkU h3.objs.size scope ++ zig X.env.cells scope.names []) h3.objs.size X.env:=by rw [<- hC];rfl
 have hcY:Y.calm=true:=by rw [<- hC];exact hc
 have xeY:Y.xe=fun _ _=>False:=by rw [<- hC];rfl
 have eP:Y.prog=X.prog:=by rw [<- hC];rfl
 have eW:Y.w=X.w:=by rw [<- hC];rfl
 have eK:Y.K=X.K:=by rw [<- hC];rfl
 have eA:Y.A=X.A:=by rw [<- hC];rfl
 have gY:PG Y tg g:=by rw [<- hC];exact hg _ _ _ _
 have tY:PTs Y ifs tc:=by rw [<- hC];exact ht _ _ _ _
 have pY:PE Y elt te:=by rw [<- hC];exact he _ _ _ _
 have stat:∀ {H':Hp},(∀ b ∈ fp,H' b=none)->∀ b ∈ fp,zmS Y [] H' b:=fun {H'} hn b hb=>by
  have z1:b ∈ Y.ex:=by rw [<- hC];exact hb
  have zp:Y.pn=[]:=by rw [<- hC];rfl
  refine ⟨hn b hb,(I4.ok.exf b z1).1,I4.ok.exfs b z1,.inl z1,(I4.ok.exf b z1).2,fun p hp=>?_⟩
  rw [zp] at hp
  exact absurd hp (by simp)
 have fin:∀ {H':Hp} {s':Shared},Inv Y [] (zeW L.length ix σ) H' s'->Q (.ref D) H'->compPost (model X.prog X.w) X.A X.xe (some (assign (.Name x0 pos') X.env)) (fun _ s'=>SP X pins Dn .next s') (.ref D) h3.objs.size (.ok .next) s':=by
  intro H' s' J' qe
  obtain ⟨m,hm,_⟩:=J'.loc
  rw [eEnv] at hm
  have hfr:H' h3.objs.size=none:=by
   have:=J'.free
   rw [eEnv] at this
   exact this
  have mk:∀ h',Heap.SameBut h3.objs.size s'.heap h'->Inv X pins σ H' { s' with heap:=h' }:=by
   intro h' sb
   have hfr:H' h3.objs.size=none:=by
    have:=J'.free
    rw [eEnv] at this
    exact this
   have neC:∀ b u,H' b=some u->b ≠ h3.objs.size:=fun b u e z=>by rw [z,hfr] at e;cases e
   have base:Un (frs X.stack) fp (upd H2 D (.lst [])) H' h3 s'.heap:=by
    have:=J'.base
    rw [<- hC] at this
    exact this
   have to':∀ b o,b ≠ h3.objs.size->s'.heap.get? b=some o->h'.get? b=some o:=fun b o hb e=>sb.extBut b o hb e
   have lt3:∀ b o,h3.get? b=some o->b ≠ h3.objs.size:=fun b o e=>Nat.ne_of_lt (Heap.lt_size e)
   have un:Un (frs X.stack) fp (upd H2 D (.lst [])) H' h3 h' :=
    ⟨fun b o e n hb hx=>to' b o (lt3 b o e) (base.keep b o e n hb hx),
     fun b o e n hb hx=>by
     obtain ⟨sl,z⟩:=base.slot b o e n hb hx
     exact ⟨sl,to' _ _ (lt3 b o e) z⟩,
     base.free,
     fun b o e hx=>by
     obtain ⟨o',z⟩:=base.there b o e hx
     exact ⟨o',to' _ _ (lt3 b o e) z⟩,
     base.tups,base.frzs,base.tbls⟩
   have hok:HOk X.prog X.w H' h':=fun b u e=>by
    have z:=J'.hok b u e
    rw [eP,eW] at z
    refine z.stay (fun c v hcv qv=>to' c v ?_ qv) (fun _ qq=>qq) fun _ _ qq=>qq
    rcases hcv with zz | zz
    ·rw [zz];exact neC b u e
    ·exact neC c _ zz
   refine I3.call' (s':={ s' with heap:=h' }) (ch:=fp) ?_ un hok J'.bare fun b hb=>?_
   ·have:=J'.os
    rw [<- hC] at this
    exact this
   ·obtain ⟨_,g1,g2,g3,g4,g5⟩:=f2 b hb
    exact ⟨g3,g1,g4,g5⟩
  have I5:Inv X pins σ H' s':=mk s'.heap (Heap.SameBut.refl ..)
  show wpAny _ _ (assign (.Name x0 pos') X.env (.ref D)) _ _ s'
  refine wpAny_assign_Name (zkK (v:=.ref D) I5 hN hii hx0 rfl (fun s'' I6 hh=>?_) hf0)
  obtain ⟨a6,sb6,ha6⟩:=hh
  have neC:a6 ≠ h3.objs.size:=by
   rcases ha6 with z | z
   ·rw [z];exact Nat.ne_of_lt I3.lt
   ·obtain ⟨v6,q6⟩:=I3.cell x0 a6 z
    exact Nat.ne_of_lt q6.lt
  refine ⟨m,hm.sameBut sb6 (Ne.symm neC),fun h'' sb2=>⟨_,H',?_,by rw [<- hQ] at qe;exact qe⟩⟩
  refine Inv.zhF (t':=s''.toks) (fp:=[h3.objs.size]) I6 (fun b o hb e=>sb2.extBut b o (by simpa using hb) e) fun b hb=>?_
  have e:b=h3.objs.size:=by simpa using hb
  subst e
  exact I3.zse (Nat.le_refl _) hfr
 have key:∀ s5:Shared,s5={ s2 with heap:=h₁,toks:=s2.toks } ->
   codeAny (model X.prog X.w) X.A (.compLoop (.ListComp elt [⟨tg,iter,ifs,0⟩] scope pos) 0 (.ref it) (.ref D) (compEnvC scope (zkU h3.objs.size scope ++ zig X.env.cells scope.names []) h3.objs.size X.env))
    (compPost (model X.prog X.w) X.A X.xe (some (assign (.Name x0 pos') X.env)) (fun _ s'=>SP X pins Dn .next s') (.ref D) h3.objs.size) s5:=by
  rintro s5 rfl
  rw [<- eEnv,<- eP,<- eW,<- eA]
  refine zid (fun n s'=>∃ i ys H',Inv Y [] (zeW L.length ix σ) H' s'/\tn i s'.heap/\(∀ b ∈ fp,H' b=none)/\W i n ys H') ?_ m0 ⟨0,[],_,?_,st4,fun b hb=>(f3 b hb).1,w0⟩
  ·rintro n s6 ⟨i,ys,H6,I6,st6,fr6,w6⟩
   obtain ⟨hl6,alt⟩:=turn i n ys H6 w6
   rcases alt with ⟨stop,qe⟩ | ⟨go,step⟩
   ·have Td:=T.done Y eP eW eK hcY i [] s6 _ H6 (fun _ _=>False) I6 (stat fr6) st6 stop
    rw [<- eP,<- eW] at Td
    refine wpAny_mono Td (fun r s7 hr7=>?_) fun _ _ f=>f.elim
    obtain ⟨hr,I7⟩:=hr7
    subst hr
    rw [eP,eW,eA]
    exact fin I7 qe
   ·have Ti:=T.item Y eP eW eK hcY i [] s6 _ H6 (fun _ _=>False) I6 (stat fr6) st6 go
    rw [<- eP,<- eW] at Ti
    refine wpAny_mono Ti (fun r s7 hr7=>?_) fun _ _ f=>f.elim
    obtain ⟨u,hr,h7⟩:=hr7
    subst hr
    refine wpAny_mono h7 (fun _ s8 hr8=>?_) fun _ _ f=>f.elim
    obtain ⟨x,H8,I8,r8,y8,st8,fr8⟩:=hr8
    have I8':=I8.pinned (stat fr8) (T.obj _ _ st8)
    have stp:=hgo _ _ _ _ (step x H8 y8)
    refine wpAny_mono (gY _ s8 _ H8 x u _ I8' r8 stp) (fun _ s9 ⟨σ9,H9,I9,⟨k1,k2⟩,q9⟩=>?_) fun _ _ f=>by rw [xeY] at f;exact f.elim
    have weak:∀ {Hz:Hp} {sz:Shared},Inv Y ([] ++ zhN fp s8.heap) σ9 Hz sz->Inv Y [] (zeW L.length ix σ) Hz sz/\tn (i + 1) sz.heap/\∀ b ∈ fp,Hz b=none:=fun {Hz sz} Iz=>by
     refine ⟨Iz.zeB.weak k1.symm fun j v e=>?_,T.keep _ _ _ st8 fun b hb o e=>(Iz.pin (b,o) (List.mem_append_right _ (List.mem_append_right _ (zbH hb e)))).1,fun b hb=>?_⟩
     ·by_cases hj:L.length<=j
      ·rw [k2 j hj];exact e
      ·unfold zeW at e
       rw [List.getElem?_append_left (by simpa using Nat.lt_of_not_le hj),List.getElem?_replicate,if_pos (Nat.lt_of_not_le hj)] at e
       cases e
     ·obtain ⟨o,e,d⟩:=T.obj _ _ st8 b hb
      exact (Iz.pin (b,o) (List.mem_append_right _ (List.mem_append_right _ (zbH hb e)))).2.1
    refine wpAny_mono (tY _ s9 σ9 H9 _ I9 q9) (fun ok s10 ⟨H10,I10,q10⟩=>?_) fun _ _ f=>by rw [xeY] at f;exact f.elim
    cases ok with
    | false =>
     have q10':∃ m',m' < n/\W (i + 1) m' ys H10:=q10
     obtain ⟨m',hm',w10⟩:=q10'
     obtain ⟨z1,z2,z3⟩:=weak I10
     exact ⟨m',hm',i + 1,ys,H10,z1,z2,z3,w10⟩
    | true =>
     refine wpAny_mono (pY _ s10 σ9 H10 _ I10 q10) (fun xv s11 ⟨v,H11,I11,r11,hl11,hz11,m',hm',w11⟩=>?_) fun _ _ f=>by rw [xeY] at f;exact f.elim
     refine wpAny_mono (zhS (X:=Y) _ s11 σ9 H11 (.ref D) [v] (.ref D) [xv] (fun _ Hq=>Hq=upd H11 D (.lst (ys ++ [v]))) I11 rfl (.cons r11 .nil) ⟨D,ys,v,rfl,rfl,hl11,hz11,rfl⟩) (fun _ s12 ⟨_,H12,I12,_,e12⟩=>?_) fun _ _ f=>by rw [xeY] at f;exact f.elim
     subst e12
     obtain ⟨z1,z2,z3⟩:=weak I12
     exact ⟨m',hm',i + 1,ys ++ [v],_,z1,z2,z3,w11⟩
  ·exact I4
 exact codeAny_compStart_list (key _ rfl) (T.self _ 0 _ _ _ st4 (key _ rfl))
theorem ztW {elt tg iter:Expr} {ifs:List Expr} {scope:Scope} {pos:Pos} {wi:TI} {g:TG} {tc:TT} {te:TE} {x0:Str} {pos' spos:Pos} (i0:Nat) (L:List Str) (ix:List Nat) (M:List Str) (hN:X.N.Nodup) (hii:X.N[i0]?=some x0) (hx0:X.env.scope.names.lookup x0=some .local)
  (hsw:swapsWith (.ListComp elt [⟨tg,iter,ifs,0⟩] scope pos) (some (.Name x0 pos')) spos.line X.env=pure true) (hc:X.calm=true) (hk:scope.kind=.function)
  (hd:zct X.env.scope scope X.N ix=true) (hM:M=L ++ ix.map fun i=>X.N.getD i "") (hi:PI X tg iter wi)
  (hg:∀ C s₃ H₃ fp,PG (zap X M scope C s₃ H₃ fp) tg g) (hgo:zmR L.length g)
  (ht:∀ C s₃ H₃ fp,PTs (zap X M scope C s₃ H₃ fp) ifs tc) (he:∀ C s₃ H₃ fp,PE (zap X M scope C s₃ H₃ fp) elt te)
  (hs:∀ x,foldedSetIterable iter X.env x=pure x:=by intro _;rfl) :
  PS X (.Assign [.Name x0 pos'] (.ListComp elt [⟨tg,iter,ifs,0⟩] scope pos) spos) (zvn (znW L.length ix wi g tc te) (zqe i0)):=by
 unfold zct at hd
 simp only [Bool.and_eq_true,List.all_eq_true,bne_iff_ne,ne_eq,Bool.or_eq_true,beq_iff_eq,decide_eq_true_eq,Bool.not_eq_true',List.contains_eq_mem,decide_eq_false_iff_not] at hd
 obtain ⟨⟨d1,d2⟩,d3⟩:=hd
 have eM:M=L ++ zeX X ix:=by rw [hM];unfold zeX;rfl
 subst eM
 refine ztX (L:=L) (ix:=ix) hN hii (.inl hx0) (.inr hx0) hsw hc ⟨hk,fun y hy e=>?_,fun y hy e=>?_,fun x hx=>?_,fun y hy e=>?_⟩ d3 hi hg hgo ht he hs
 ·rcases (d1 y hy).1.1 with z | z
  ·exact absurd e z
  ·exact z
 ·rcases (d1 y hy).1.2 with z | z
  ·exact absurd e z
  ·exact z
 ·unfold zeX at hx
  exact d2 x hx
 ·rcases (d1 y hy).2 with z | z
  ·exact absurd e z
  ·exact z
end
end L2
namespace L2
open PySem PySem.Spec PyProof.Rows
def Itd (d:Addr) (o:Obj) (kvs:List (Key × V)):It :=
 ⟨fun i H=>H d=some (.frz o (.dK kvs))/\i < kvs.length,fun i H x H'=>H'=H/\∃ k v,kvs[i]?=some (k,v)/\x=kV k,fun i H=>H d=some (.frz o (.dK kvs))/\kvs.length<=i⟩
theorem zm0 {k:Key} {u:Value} (h:zmm k u=true):RelV (kV k) u:=by
 rcases zaT h with ⟨i,t,rfl,rfl⟩ | ⟨x,t,rfl,rfl⟩
 ·exact ⟨t,rfl⟩
 ·exact ⟨t,rfl⟩
theorem KV.len {kvs:List (Key × V)} {vs:List (Key × Value)} (h:KV kvs vs):kvs.length=vs.length:=Paired.length h
theorem zeH {α β:Type} {R:α->β->Prop}:∀ {xs:List α} {ys:List β} {i:Nat} {x:α},Paired R xs ys->xs[i]?=some x->∃ y,ys[i]?=some y/\R x y
 | _ :: _,_ :: _,0,_,.cons r _,e=>by
  simp only [List.getElem?_cons_zero,Option.some.injEq] at e
  subst e
  exact ⟨_,rfl,r⟩
 | _ :: _,_ :: _,i + 1,_,.cons _ t,e=>by
  simp only [List.getElem?_cons_succ] at e ⊢
  exact zeH t e
 | [],_,_,_,_,e=>by simp at e
theorem zql {P:Program} {w:World} {H:Hp} {h:Heap} {d:Addr} {o:Obj} {kvs:List (Key × V)} {es:Array DictEntry} {ep:Nat} (ok:zbN P w H h d (.frz o (.dK kvs))) (hd:o.data=.dict es ep) :
  ∃ vs,KV kvs vs/\h.DictAt (za7 P w) d vs ep/\(d == sysModules)=false:=by
 obtain ⟨e,_,sy,vs,kv,o',es',ep',e',r1,r2,r3⟩:=ok
 rw [e] at e'
 cases e'
 rw [hd] at r2
 cases r2
 exact ⟨vs,kv,⟨o,es,e,r1,hd,r3⟩,sy⟩
theorem zoU {P:Program} {w:World} {K:PySem.W.Frag} {tg:Expr} {o:Obj} {es:Array DictEntry} {ep:Nat} {kvs:List (Key × V)} (d it:Addr) (hdat:o.data=.dict es ep) :
  Turn P w K tg (Itd d o kvs) [it] it (fun i h=>h.IsKeyIter it d i kvs.length ep) where
 mem:=by simp
 obj:=fun i h st b hb=>by
  have e:b=it:=by simpa using hb
  subst e
  obtain ⟨o,e,c,d⟩:=st
  exact ⟨o,e,fun v z=>by rw [d] at z;cases z⟩
 keep:=fun i h h' st k=>st.at fun o e=>k it (by simp) o e
 item:=by
  intro X hP hw hK hc i pins s σ H E I hf st hg
  subst hP hw hK
  obtain ⟨hd,hi⟩:=hg
  obtain ⟨vs,kv,da,_⟩:=zql (I.hok d _ hd) hdat
  obtain ⟨⟨k',v'⟩,ev,rk,rv⟩:=zeH kv (List.getElem?_eq_getElem hi)
  obtain ⟨f0,f1,f2,f3,f4,f5⟩:=hf it (by simp)
  have st':s.heap.IsKeyIter it d i vs.length ep:=by rw [<- kv.len];exact st
  refine wpAny_pyNext_dict_item st' da ev fun key h' hk st2 sb=>?_
  have I1:Inv X pins σ H { s with heap:=h' }:=I.turned (t':=s.toks) (fun b o hb e=>(sb.2 b hb).trans e) f0 f1 f3 f4 f5
  rw [<- kv.len] at st2
  obtain ⟨o,e,c,dd⟩:=id st2
  exact ⟨key,rfl,zqd (s:={ s with heap:=h' }) e c dd (by decide) ⟨kV k',H,I1,zm0 hk,⟨rfl,kvs[i].1,kvs[i].2,List.getElem?_eq_getElem hi,congrArg kV rk.symm⟩,st2,fun b hb=>(hf b hb).1⟩⟩
 done:=by
  intro X hP hw hK hc i pins s σ H E I hf st hg
  subst hP hw hK
  obtain ⟨hd,hi⟩:=hg
  obtain ⟨vs,kv,da,_⟩:=zql (I.hok d _ hd) hdat
  obtain ⟨f0,f1,f2,f3,f4,f5⟩:=hf it (by simp)
  have st':s.heap.IsKeyIter it d i vs.length ep:=by rw [<- kv.len];exact st
  exact wpAny_pyNext_dict_end (I.ok.hd hc) st' da (List.getElem?_eq_none (by rw [<- kv.len];exact hi)) fun h' eb=>⟨rfl,I.turned (t':=s.toks) (fun b o hb e=>eb b o hb e) f0 f1 f3 f4 f5⟩
 self:=fun _ _ _ _ _ st h=>wpAny_pyIter_keyiter st h
end L2
namespace L2
open PySem PySem.Spec PyProof.Rows
section
variable {κ:Type} [DecidableEq κ]
def zlS (kvs:List (κ × V)) (k:κ):Option V:=(kvs.find? fun kv=>decide (kv.1=k)).map (·.2)
def putK (kvs:List (κ × V)) (k:κ) (v:V):List (κ × V) :=
 if (kvs.any fun kv=>decide (kv.1=k))=true then kvs.map (fun kv=>if kv.1=k then (kv.1,v) else kv) else kvs ++ [(k,v)]
theorem zfz {p:κ × V} {r:List (κ × V)} {k:κ} (e:p.1=k):zlS (p :: r) k=some p.2:=by simp [zlS,List.find?_cons,e]
theorem zfA {p:κ × V} {r:List (κ × V)} {k:κ} (e:¬ p.1=k):zlS (p :: r) k=zlS r k:=by simp [zlS,List.find?_cons,e]
theorem zmU (k:κ):∀ kvs:List (κ × V),(kvs.any fun kv=>decide (kv.1=k))=(zlS kvs k).isSome
 | []=>rfl
 | p :: r=>by
  rw [List.any_cons]
  by_cases e:p.1=k
  ·simp only [zfz e,decide_eq_true e,Bool.true_or,Option.isSome_some]
  ·rw [zfA e,decide_eq_false e,Bool.false_or];exact zmU k r
theorem zdr (kvs:List (κ × V)) (k:κ) (v:V):(putK kvs k v).length<=kvs.length + 1:=by
 unfold putK
 split
 ·rw [List.length_map];omega
 ·rw [List.length_append,List.length_cons,List.length_nil];omega
theorem zq8.zh0 {o:Option V} {u:Option Value} (r:zq8 o u):o.isSome=u.isSome:=by
 cases o with
 | none=>cases u with
  | none=>rfl
  | some _=>exact (show False from r).elim
 | some _=>cases u with
  | none=>exact (show False from r).elim
  | some _=>rfl
theorem KV.val {kvs:List (κ × V)} {vs:List (κ × Value)} (r:KV kvs vs) (k:κ):zq8 (zlS kvs k) (valueAt vs k):=by
 unfold KV at r
 induction r with
 | nil=>exact True.intro
 | @cons p q ps qs h t ih =>
  obtain ⟨h1,h2⟩:=h
  by_cases e:p.1=k
  ·have e':q.1=k:=h1.symm.trans e
   have b:valueAt (q :: qs) k=some q.2:=by simp [valueAt,List.find?_cons,e']
   rw [zfz e,b];exact h2
  ·have e':¬ q.1=k:=fun z=>e (h1.trans z)
   have b:valueAt (q :: qs) k=valueAt qs k:=by simp [valueAt,List.find?_cons,e']
   rw [zfA e,b];exact ih
theorem KV.any {kvs:List (κ × V)} {vs:List (κ × Value)} (r:KV kvs vs) (k:κ):(kvs.any fun kv=>decide (kv.1=k))=vs.any fun kv=>decide (kv.1=k):=by
 unfold KV at r
 induction r with
 | nil=>rfl
 | cons h t ih=>rw [List.any_cons,List.any_cons,ih,h.1]
theorem KV.repl {kvs:List (κ × V)} {vs:List (κ × Value)} (r:KV kvs vs) (k:κ) {y:V} {u:Value} (ry:RelV y u) :
  KV (kvs.map fun kv=>if kv.1=k then (kv.1,y) else kv) (vs.map fun kv=>if kv.1=k then (kv.1,u) else kv):=by
 unfold KV at r ⊢
 induction r with
 | nil=>exact .nil
 | @cons p q ps qs h t ih =>
  rw [List.map_cons,List.map_cons]
  refine .cons ?_ ih
  obtain ⟨h1,h2⟩:=h
  by_cases e:p.1=k
  ·rw [if_pos e,if_pos (h1.symm.trans e)];exact ⟨h1,ry⟩
  ·rw [if_neg e,if_neg (fun z=>e (h1.trans z))];exact ⟨h1,h2⟩
theorem KV.put {kvs:List (κ × V)} {vs:List (κ × Value)} (r:KV kvs vs) (k:κ) {y:V} {u:Value} (ry:RelV y u):KV (putK kvs k y) (stored vs k u):=by
 unfold putK stored
 rw [r.any k]
 by_cases e:(vs.any fun kv=>decide (kv.1=k))=true
 ·rw [if_pos e,if_pos e];exact r.repl k ry
 ·rw [if_neg e,if_neg e];exact Paired.snoc r ⟨rfl,ry⟩
theorem KV.length {kvs:List (κ × V)} {vs:List (κ × Value)} (r:KV kvs vs):kvs.length=vs.length:=Paired.length r
end
theorem zoo {P:Program} {w:World} {k:Key} {u:Value} (r:RelV (kV k) u):(za7 P w).is k u=true:=by
 cases k with
 | inl i=>obtain ⟨t,e⟩:=(show ∃ t,u=Value.int i t from r);subst e;exact zmi P w i t
 | inr x=>obtain ⟨t,e⟩:=(show ∃ t,u=Value.str x t from r);subst e;exact zmh P w x t
theorem zle {P:Program} {w:World}:∀ {ks:List Key} {us:List Value},Vals (ks.map kV) us->ItemsAre (za7 P w) ks us
 | [],_,r=>by rw [List.map_nil] at r;cases r;exact .nil
 | k :: ks,_,r=>by
  rw [List.map_cons] at r
  cases r with
  | cons h t=>exact .cons (zoo h) (zle t)
abbrev KT (H:Hp):List (List Key × V)->List (List Key × Addr × Value)->Prop:=Paired fun p q=>p.1=q.1/\TAt H q.2.1 (p.1.map kV)/\RelV p.2 q.2.2
theorem KT.val {H:Hp} {kvs:List (List Key × V)} {xs:List (List Key × Addr × Value)} (r:KT H kvs xs) (k:List Key):zq8 (zlS kvs k) ((atKey xs k).map (·.2)):=by
 induction r with
 | nil=>exact True.intro
 | @cons p q ps qs h t ih =>
  obtain ⟨h1,_,h2⟩:=h
  by_cases e:p.1=k
  ·have e':q.1=k:=h1.symm.trans e
   have b:atKey (q :: qs) k=some q.2:=by simp [atKey,List.find?_cons,e']
   rw [zfz e,b];exact h2
  ·have e':¬ q.1=k:=fun z=>e (h1.trans z)
   have b:atKey (q :: qs) k=atKey qs k:=by simp [atKey,List.find?_cons,e']
   rw [zfA e,b];exact ih
theorem KT.repl {H:Hp} {kvs:List (List Key × V)} {xs:List (List Key × Addr × Value)} (r:KT H kvs xs) (k:List Key) {y:V} {u:Value} (ry:RelV y u) :
  KT H (kvs.map fun kv=>if kv.1=k then (kv.1,y) else kv) (xs.map (putAt k u)):=by
 induction r with
 | nil=>exact .nil
 | @cons p q ps qs h t ih =>
  rw [List.map_cons,List.map_cons]
  refine .cons ?_ ih
  obtain ⟨h1,h2,h3⟩:=h
  unfold putAt
  by_cases e:p.1=k
  ·rw [if_pos e,if_pos (h1.symm.trans e)];exact ⟨h1,h2,ry⟩
  ·rw [if_neg e,if_neg (fun z=>e (h1.trans z))];exact ⟨h1,h2,h3⟩
theorem KT.put {H:Hp} {kvs:List (List Key × V)} {xs:List (List Key × Addr × Value)} (r:KT H kvs xs) (k:List Key) {b:Addr} {y:V} {u:Value} (hb:TAt H b (k.map kV)) (ry:RelV y u) :
  KT H (putK kvs k y) (storedH xs k b u):=by
 have e:(kvs.any fun kv=>decide (kv.1=k))=(atKey xs k).isSome:=by
  rw [zmU,(r.val k).zh0,Option.isSome_map]
 unfold putK storedH
 rw [e]
 by_cases q:(atKey xs k).isSome=true
 ·rw [if_pos q,if_pos q];exact r.repl k ry
 ·rw [if_neg q,if_neg q];exact Paired.snoc r ⟨rfl,hb,ry⟩
theorem KT.keeps {H H':Hp} {kvs:List (List Key × V)} {xs:List (List Key × Addr × Value)} (r:KT H kvs xs) (ht:∀ b ys,TAt H b ys->TAt H' b ys):KT H' kvs xs :=
 Paired.zxJ r fun _ _ z=>⟨z.1,ht _ _ z.2.1,z.2.2⟩
section
variable {P:Program} {w:World} {H:Hp} {h:Heap} {a:Addr}
theorem zvx {u:HO} (ok:HOk P w H h) (e:Rd H a u):zbN P w H h a u:=e.ok ok
theorem zox {kvs:List (Key × V)} (ok:HOk P w H h) (e:Rd H a (.dK kvs)):kvs.length<=sizeLine/\(a == sysModules)=false/\∃ vs,KV kvs vs/\h.DictOf (za7 P w) a vs :=
 show zbN P w H h a (.dK kvs) from zvx ok e
theorem zuP {kvs:List (Key × V)} (ok:HOk P w H h) (e:H a=some (.dK kvs)):kvs.length<=sizeLine/\(a == sysModules)=false/\∃ vs,KV kvs vs/\h.DictOf (za7 P w) a vs:=zox ok (.inl e)
theorem zjl {ks:List Key} (ok:HOk P w H h) (e:TAt H a (ks.map kV)):(tupleKind (za7 P w)).is h ks a:=by
 obtain ⟨_,its,r,o,h1,h2,n,h3⟩:=(show zbN P w H h a (.tup (ks.map kV)) from Rd.ok e ok)
 exact ⟨o,its.toArray,n,h1,h2,h3,by simpa using zle r⟩
theorem zou {kvs:List (List Key × V)} (ok:HOk P w H h) (e:Rd H a (.dT kvs)):kvs.length<=sizeLine/\(a == sysModules)=false /\
  ∃ xs,KT H kvs xs/\h.DictOfH (tupleKind (za7 P w)) a xs:=by
 obtain ⟨z,y,xs,r,o,es,ep,h1,h2,h3,h4,h5⟩:=(show zbN P w H h a (.dT kvs) from zvx ok e)
 refine ⟨z,y,xs,r,o,es,ep,h1,h2,h3,h4,fun x hx=>?_,h5⟩
 have all:∀ {l:List (List Key × V)} {m:List (List Key × Addr × Value)},KT H l m->∀ x ∈ m,(tupleKind (za7 P w)).is h x.1 x.2.1:=by
  intro l m q
  induction q with
  | nil=>intro x hx;exact nomatch hx
  | @cons p q ps qs hq t ih =>
   intro x hx
   rcases List.mem_cons.mp hx with e | hx
   ·subst e
    exact zjl ok (by rw [<- hq.1];exact hq.2.1)
   ·exact ih x hx
 exact all r x hx
theorem zwO {kvs:List (List Key × V)} (ok:HOk P w H h) (e:H a=some (.dT kvs)):kvs.length<=sizeLine/\(a == sysModules)=false /\
  ∃ xs,KT H kvs xs/\h.DictOfH (tupleKind (za7 P w)) a xs:=zou ok (.inl e)
end
def zxe (H:Hp) (a:Addr) (y:V) (r:Option V):Prop :=
 (∃ kvs k,Rd H a (.dK kvs)/\y=kV k/\r=zlS kvs k)\/∃ kvs k b,Rd H a (.dT kvs)/\y=.ref b/\TAt H b (k.map kV)/\r=zlS kvs k
def zq2 (H:Hp) (a:Addr) (y v:V) (H':Hp):Prop :=
 (∃ kvs k,H a=some (.dK kvs)/\y=kV k/\kvs.length < sizeLine/\H'=upd H a (.dK (putK kvs k v))) \/
 ∃ kvs k b,H a=some (.dT kvs)/\y=.ref b/\TAt H b (k.map kV)/\kvs.length < sizeLine/\H'=upd H a (.dT (putK kvs k v))
theorem zq2.k {H:Hp} {a:Addr} {kvs:List (Key × V)} {k:Key} {v:V} (e:H a=some (.dK kvs)) (hl:kvs.length < sizeLine):zq2 H a (kV k) v (upd H a (.dK (putK kvs k v))):=.inl ⟨kvs,k,e,rfl,hl,rfl⟩
theorem zq2.t {H:Hp} {a b:Addr} {kvs:List (List Key × V)} {k:List Key} {v:V} (e:H a=some (.dT kvs)) (eb:TAt H b (k.map kV)) (hl:kvs.length < sizeLine) :
  zq2 H a (.ref b) v (upd H a (.dT (putK kvs k v))):=.inr ⟨kvs,k,b,e,rfl,eb,hl,rfl⟩
section
variable {X:Cx} {pins:List (Addr × Obj)} {σ:St} {H:Hp} {s:Shared} {a:Addr} {y v:V} {u r:Value} {o:Option V} {A:Around} {E:Value->Shared->Prop}
theorem Inv.big (I:Inv X pins σ H s):sysModules < s.heap.objs.size:=by
 have h:mainGlobals < s.heap.objs.size:=(I.mod.glob.keeps I.bk).lt
 exact Nat.lt_trans (by decide) h
theorem zqA {Q:Value->Shared->Prop} (hu:A.units + 1 < cLine) (I:Inv X pins σ H s) (g:zxe H a y (some v)) (ry:RelV y u) (h:∀ w' s',Inv X pins σ H s'->RelV v w'->Q w' s') :
  wpAny (model X.prog X.w) A (getItem (.ref a) u) Q E s:=by
 rcases g with ⟨kvs,k,e,ey,l⟩ | ⟨kvs,k,b,e,ey,eb,l⟩
 ·subst ey
  obtain ⟨z,hd,vs,rel,dd⟩:=zox I.hok e
  obtain ⟨w',hw,rw'⟩:=zq8.some_of (v:=v) (o:=valueAt vs k) (by rw [l];exact rel.val k)
  exact wpAny_getItem_of (zoo ry) dd.mapOf hw (h w' _ (I.tok _) rw')
 ·subst ey
  cases (show u=Value.ref b from ry)
  obtain ⟨z,hd,xs,rel,dd⟩:=zou I.hok e
  obtain ⟨w',hw,rw'⟩:=zq8.some_of (v:=v) (o:=(atKey xs k).map (·.2)) (by rw [l];exact rel.val k)
  obtain ⟨p,hp,hp2⟩:=Option.map_eq_some_iff.mp hw
  refine wpAny_getItem_heap (tupleKind_room_in1 hu) (zjl I.hok eb) dd hp ?_
  rw [hp2]
  exact h w' _ (I.tok _) rw'
theorem zuT {Q:Value->Shared->Prop} (hu:A.units + 1 < cLine) (I:Inv X pins σ H s) (g:zxe H a y o) (ry:RelV y u) (h:∀ s',Inv X pins σ H s'->Q (.bool (!o.isSome)) s') :
  wpAny (model X.prog X.w) A (compareOp .NotIn u (.ref a)) Q E s:=by
 rcases g with ⟨kvs,k,e,ey,l⟩ | ⟨kvs,k,b,e,ey,eb,l⟩
 ·subst ey
  obtain ⟨z,hd,vs,rel,dd⟩:=zox I.hok e
  refine wpAny_notIn_of (zoo ry) hd dd.mapOf ?_
  rw [<- (rel.val k).zh0,<- l]
  exact h _ (I.tok _)
 ·subst ey
  cases (show u=Value.ref b from ry)
  obtain ⟨z,hd,xs,rel,dd⟩:=zou I.hok e
  refine wpAny_notIn_heap (tupleKind_room_in1 hu) (zjl I.hok eb) hd dd ?_
  have q:=(rel.val k).zh0
  rw [Option.isSome_map] at q
  rw [<- q,<- l]
  exact h _ (I.tok _)
theorem zgx {h':Heap} {t':Nat} {ob:HO} (I:Inv X pins σ H s) (mu:Mut (H a)) (hs:Heap.SameBut a s.heap h') (he:∃ q,h'.get? a=some q) (new:zbN X.prog X.w (upd H a ob) h' a ob) :
  Inv X pins σ (upd H a ob) { s with heap:=h',toks:=t' } :=
 I.write (x:=a) (e:=a) mu (.inl rfl) (fun b q hb z=>(hs.2 b hb).trans z) he new
theorem ztm {P:Program} {w:World} {H':Hp} {h':Heap} {kvs:List (Key × V)} {vs:List (Key × Value)} (z:kvs.length<=sizeLine) (hd:(a == sysModules)=false) (rel:KV kvs vs) (dd:h'.DictOf (za7 P w) a vs) :
  zbN P w H' h' a (.dK kvs):=⟨z,hd,vs,rel,dd⟩
theorem zib {H':Hp} {Q:Unit->Shared->Prop} (hu:A.units + 1 < cLine) (I:Inv X pins σ H s) (g:zq2 H a y v H') (ry:RelV y u) (rv:RelV v r) (h:∀ s',Inv X pins σ H' s'->Q () s') :
  wpAny (model X.prog X.w) A (setItem (.ref a) u r) Q E s:=by
 rcases g with ⟨kvs,k,e,ey,l,eH⟩ | ⟨kvs,k,b,e,ey,eb,l,eH⟩
 ·subst ey eH
  obtain ⟨z,hd,vs,rel,dd⟩:=zuP I.hok e
  have hz:vs.length<=sizeLine:=by rw [<- rel.length];exact z
  have hl:(putK kvs k v).length<=sizeLine:=by have:=zdr kvs k v;omega
  refine wpAny_setItem_pairs (hsz:=hz) (zoo ry) dd fun h' dd' hs=>h _ ?_
  have he:∃ q,h'.get? a=some q:=let ⟨q,_,_,hq,_⟩:=dd';⟨q,hq⟩
  exact zgx I (by rw [e];exact True.intro) hs he (ztm hl hd (rel.put k rv) dd')
 ·subst ey eH
  cases (show u=Value.ref b from ry)
  obtain ⟨z,hd,xs,rel,dd⟩:=zwO I.hok e
  have hz:xs.length<=sizeLine:=by rw [<- Paired.length rel];exact z
  have hl:(putK kvs k v).length<=sizeLine:=by have:=zdr kvs k v;omega
  refine wpAny_setItem_heap (hsz:=hz) (tupleKind_room_in1 hu) (zjl I.hok eb) dd fun h' dd' hs=>h _ ?_
  obtain ⟨q,es,ep,hq,h2,h3,h4,_,h5⟩:=dd'
  refine zgx I (by rw [e];exact True.intro) hs ⟨q,hq⟩ ⟨hl,hd,_,(rel.put k eb rv).keeps fun c ys ec=>?_,q,es,ep,hq,h2,h3,h4,h5⟩
  exact ec.upd (fun _ z=>zkZ z e (fun z=>nomatch z)) fun _ _ z=>zkZ z e (fun z=>nomatch z)
end
theorem zmA {X:Cx} {pins:List (Addr × Obj)} {σ:St} {H:Hp} {s:Shared} {a:Addr} {y:V} {o:Option V} (I:Inv X pins σ H s) (g:zxe H a y o):s.TypeIs (.ref a) "dict":=by
 rcases g with ⟨kvs,k,e,_,_⟩ | ⟨kvs,k,b,e,_,_,_⟩
 ·obtain ⟨_,_,vs,_,dd⟩:=zox I.hok e
  exact dd.typeIs
 ·obtain ⟨_,_,xs,_,dd⟩:=zou I.hok e
  exact dd.typeIs
theorem zso {P:Program} {w:World} {H:Hp} (h:Heap) (hb:sysModules < h.objs.size):zbN P w H (h.push { cls:=.type "dict",data:=.dict #[] }) h.objs.size (.dK []) :=
 ⟨Nat.zero_le _,beq_eq_false_iff_ne.mpr (Ne.symm (Nat.ne_of_lt hb)),[],.nil,Heap.DictOf.new h⟩
theorem zsk {P:Program} {w:World} {H:Hp} (h:Heap) (hb:sysModules < h.objs.size):zbN P w H (h.push { cls:=.type "dict",data:=.dict #[] }) h.objs.size (.dT []) :=
 ⟨Nat.zero_le _,beq_eq_false_iff_ne.mpr (Ne.symm (Nat.ne_of_lt hb)),[],.nil,_,#[],0,Heap.get?_push_size _ rfl,⟨rfl,rfl,rfl⟩,rfl,rfl,List.nodup_nil⟩
def zvk:TE:=fun _ H Q=>∀ p,H p=none->Q (.ref p) (upd H p (.dT []))
section
variable {X:Cx} {pos:Pos}
theorem zrG:PE X (.Dict [] [] pos) zvk:=fun pins s σ H Q I h =>
 wpAny_Dict_empty ⟨.ref s.heap.objs.size,_,I.laid (a:=s.heap.objs.size) (o:=.dT []) (t':=s.toks) (fun _ _ q=>Heap.get?_push_of_some _ q) (Nat.le_refl _) (zsk s.heap I.big),rfl,h _ (I.hok.fresh (Nat.le_refl _))⟩
end
structure M1 (X:Cx) (o:Expr) (m:Str) (apos:Pos) (e:Expr) (cpos:Pos):Prop where
 base:attributeBase o m X.env (eval o X.env)=eval o X.env
 few:((backTo cpos (starEach [e] X.env)).all (fun x=>!x.1) && (backToKw cpos (keywordEach [] X.env)).all (fun x=>x.1.isSome)
  && decide (([e]:List Expr).length + ([]:List Keyword).length + (if ([]:List Keyword).isEmpty then 0 else 1) < 30))=true
 line:(apos.endLine == cpos.line)=true
 trees:backTo cpos (starEach [e] X.env)=[(false,eval e X.env)]
structure M2 (X:Cx) (o:Expr) (m:Str) (apos:Pos) (e f:Expr) (cpos:Pos):Prop where
 base:attributeBase o m X.env (eval o X.env)=eval o X.env
 few:((backTo cpos (starEach [e,f] X.env)).all (fun x=>!x.1) && (backToKw cpos (keywordEach [] X.env)).all (fun x=>x.1.isSome)
  && decide (([e,f]:List Expr).length + ([]:List Keyword).length + (if ([]:List Keyword).isEmpty then 0 else 1) < 30))=true
 line:(apos.endLine == cpos.line)=true
 trees:backTo cpos (starEach [e,f] X.env)=[(false,eval e X.env),(false,eval f X.env)]
def IsD (H:Hp) (a:Addr):Prop:=(∃ kvs,Rd H a (.dK kvs))\/∃ kvs,Rd H a (.dT kvs)
end L2
namespace L2
open PySem PySem.Spec PyProof.Rows
end L2
namespace L2
open PySem PySem.Spec PyProof.Rows
section
variable {prog:Program} {w:World} {A:Around} {R:Result->Shared->Prop} {s:Shared}
theorem zln {kx vx target iter:Expr} {ifs:List Expr} {scope:Scope} {pos:Pos} {it:Value} {D:Addr} {env:Env} (I:Nat->Shared->Prop)
  (turn:∀ n s,I n s->wpAny (model prog w) A (pyNext it) (fun r s₁=>match r with
   | none=>R (.ok .next) s₁
   | some v=>wpAny (model prog w) A (letOwnedTupleGo target it v) (fun _ s₀=>wpAny (model prog w) A (assign target env v) (fun _ s₂ =>
     wpAny (model prog w) A (forIn ifs true fun c r=>if r=true then do let ok <- isTrue c env (eval c env);pure (ForInStep.yield ok) else pure (ForInStep.yield r)) (fun ok s₃ =>
      if ok=true then wpAny (model prog w) A (eval kx env) (fun kv s₄=>wpAny (model prog w) A (eval vx env) (fun vv s₅ =>
       wpAny (model prog w) A (dictSet D kv vv) (fun _ s₆=>∃ m,m < n/\I m s₆) (notedBy (model prog w) A env fun e s'=>R (.error e) s') s₅) (notedBy (model prog w) A env fun e s'=>R (.error e) s') s₄) (notedBy (model prog w) A env fun e s'=>R (.error e) s') s₃
      else ∃ m,m < n/\I m s₃) (notedBy (model prog w) A env fun e s'=>R (.error e) s') s₂) (notedBy (model prog w) A env fun e s'=>R (.error e) s') s₀) (notedBy (model prog w) A env fun e s'=>R (.error e) s') s₁) (notedBy (model prog w) A env fun e s'=>R (.error e) s') s)
  (n:Nat) (h:I n s):codeAny (model prog w) A (.compLoop (.DictComp kx vx [⟨target,iter,ifs,0⟩] scope pos) 0 it (.ref D) env) R s:=by
 refine codeAny_loop rfl I (fun n s hI=>?_) n h
 show wpAny _ A ((compTurn (.DictComp kx vx [⟨target,iter,ifs,0⟩] scope pos) 0 it (.ref D) env).onRaise (fun x=>do noteFrame x env;theTreesLotGoes x)) _ _ s
 refine wpAny_noted ?_
 rw [compTurn_dict]
 refine wpAny_bind (wpAny_standAt (wpAny_bind (wpAny_mono (turn n s hI) (fun r s₁ h₁=>?_) fun _ _ h'=>h')))
 cases r with
 | none=>exact wpAny_pure h₁
 | some v =>
  refine wpAny_bind (wpAny_mono h₁ (fun _ s₀ h₀=>?_) fun _ _ h'=>h')
  refine wpAny_bind (wpAny_mono h₀ (fun _ s₂ h₂=>wpAny_bind (wpAny_mono h₂ (fun ok s₃ h₃=>?_) fun _ _ h'=>h')) fun _ _ h'=>h')
  cases ok with
  | false=>exact wpAny_pure ⟨rfl,h₃⟩
  | true =>
   exact wpAny_bind (wpAny_bind (wpAny_mono h₃ (fun kv s₄ h₄=>wpAny_bind (wpAny_holding (wpAny_mono h₄ (fun vv s₅ h₅=>wpAny_bind (wpAny_standAt (wpAny_holding (wpAny_mono h₅ (fun _ s₆ h₆=>wpAny_pure ⟨rfl,h₆⟩) fun _ _ h'=>h')))) fun _ _ h'=>h'))) fun _ _ h'=>h'))
end
section
variable {X:Cx} {pins:List (Addr × Obj)} {σ:St} {H:Hp} {s:Shared} {a:Addr} {kvs:List (Key × V)} {k:Key} {v:V} {u r:Value} {A:Around} {E:Value->Shared->Prop}
theorem zx1 {Q:Unit->Shared->Prop} (I:Inv X pins σ H s) (e:H a=some (.dK kvs)) (l:kvs.length < sizeLine) (ry:RelV (kV k) u) (rv:RelV v r) (h:∀ s',Inv X pins σ (upd H a (.dK (putK kvs k v))) s'->Q () s') :
  wpAny (model X.prog X.w) A (dictSet a u r) Q E s:=by
 obtain ⟨z,hd,vs,rel,dd⟩:=zuP I.hok e
 have hz:vs.length<=sizeLine:=by rw [<- rel.length];exact z
 have hl:(putK kvs k v).length<=sizeLine:=by have:=zdr kvs k v;omega
 refine wpAny_dictSet_pairs (hsz:=hz) (zoo ry) dd fun h' dd' hs=>h _ ?_
 have he:∃ q,h'.get? a=some q:=let ⟨q,_,_,hq,_⟩:=dd';⟨q,hq⟩
 exact zgx I (by rw [e];exact True.intro) hs he (ztm hl hd (rel.put k rv) dd')
end
end L2
namespace L2
open PySem PySem.Spec PyProof.Rows
end L2
namespace L2
open PySem PySem.Spec PyProof.Rows
end L2
namespace L2
open PySem PySem.Spec PyProof.Rows
section
variable {prog:Program} {w:World} {A:Around} {E:Value->Shared->Prop} {s:Shared} {K:Type} [DecidableEq K] {knd:PySem.KeyKind prog w K}
theorem zlq {d:Addr} {kvs:List (K × Value)} {ep:Nat} {Q:List Value->Shared->Prop} (hh:A.handled=none) (sy:(d == sysModules)=false) (hm:s.heap.DictAt knd d kvs ep) (hn:kvs.length<=1000)
  (hQ:∀ s' (acc:Array Value),(∀ b o,s.heap.get? b=some o->s'.heap.get? b=some o)->s'.gens=s.gens->s'.drawn=s.drawn->s'.os=s.os->s.heap.objs.size<=s'.heap.objs.size->ItemsOf (fun i v=>∃ k x,kvs[i]?=some (k,x)/\knd.is k v=true) acc kvs.length->Q acc.toList s') :
  wpAny (model prog w) A (collect (.ref d)) Q E s:=by
 unfold collect
 refine wpAny_bind (wpAny_runValue (codeAny_builtin F.entry_proto_collect ?_))
 rw [Around.under_plainId F.plain_proto_collect _]
 show wpAny _ A.in1 (newList [] >>= fun l=>again (.builtin "list.__iadd__" ⟨[l,.ref d],[]⟩)) _ _ s
 refine wpAny_bind (wpAny_newObj_type ?_)
 refine wpAny_pure ⟨plainId_quiet F.plain_list_iadd _,codeAny_builtin F.entry_list_iadd ?_⟩
 rw [Around.under_plainId F.plain_list_iadd _]
 have dl:=hm.lt_size
 have hm1:=hm.push { cls:=.type "list",data:=.seq ([]:List Value).toArray }
 have hSd:s.heap.objs.size ≠ d:=Nat.ne_of_gt dl
 have h1:Builtin.List.listSameRef (.ref s.heap.objs.size) (.ref d)=false:=by simp [Builtin.List.listSameRef,hSd]
 show wpAny _ A.in1 (Builtin.List.listExtendWith (.ref s.heap.objs.size) (.ref d) (.ref s.heap.objs.size)) _ _ _
 unfold Builtin.List.listExtendWith
 refine wpAny_bind (wpAny_typeOf (s:={ s with heap:=s.heap.push { cls:=.type "list",data:=.seq ([]:List Value).toArray } }) hm1.dictOf.typeIs ?_)
 rw [if_neg (by rw [h1];decide)]
 refine wpAny_bind (wpAny_pyIter_dict (s:={ s with heap:=s.heap.push { cls:=.type "list",data:=.seq ([]:List Value).toArray } }) sy hm1 ?_)
 refine wpAny_bind (wpAny_holding ?_)
 have I2:s.heap.objs.size + 1=(s.heap.push { cls:=.type "list",data:=.seq ([]:List Value).toArray }).objs.size:=(Heap.size_push ..).symm
 have hm2:=hm1.push { cls:=.type "dict_keyiterator",data:=.fields #[.ref d,.int 0 0,.int kvs.length 0,.int ep 0] }
 unfold Builtin.List.listLengthHint
 refine wpAny_bind (wpAny_specialOf hm2.dictOf.typeIs F.slot_dict_len.lookup ?_)
 generalize hid:("dict.__len__":String)=id0
 wp_delta
 rw [show splitId id0=some ("dict","__len__") from by subst hid;decide +kernel]
 subst hid
 refine wpAny_bind (wpAny_isInstance (b:=true) hm2.dictOf.typeIs (by rw [isSubtype_type];kernel_rfl) ?_)
 rw [if_neg (by decide)]
 dsimp only
 rw [if_pos (by decide +kernel)]
 refine wpAny_bind (wpAny_typeOf hm2.dictOf.typeIs ?_)
 refine wpAny_pure ?_
 rw [if_pos (by decide +kernel)]
 refine wpAny_bind (wpAny_rule ?_)
 unfold Builtin.List.listTouch
 have hS0:((s.heap.push { cls:=.type "list",data:=.seq ([]:List Value).toArray }).push { cls:=.type "dict_keyiterator",data:=.fields #[.ref d,.int 0 0,.int kvs.length 0,.int ep 0] }).get? s.heap.objs.size=some (seqObj "list" #[] 0):=Heap.get?_push_of_some _ (Heap.get?_push_size _ rfl)
 refine wpAny_bind (wpAny_bind (listUpdate_at hS0 rfl ?_ (Nat.zero_le _) (by show 1<=sizeLine + 1;omega)))
 have hS1:=get?_update_seq hS0 (·.push .none)
 refine listUpdate_at hS1 rfl ?_ (by show 1<=sizeLine;rw [sizeLine_eq];decide) (by show 0<=sizeLine + 1;omega)
 have hS2:=get?_update_seq hS1 (·.pop)
 have up:∀ b o,b ≠ s.heap.objs.size->((s.heap.push { cls:=.type "list",data:=.seq ([]:List Value).toArray }).push { cls:=.type "dict_keyiterator",data:=.fields #[.ref d,.int 0 0,.int kvs.length 0,.int ep 0] }).get? b=some o ->
   ((((s.heap.push { cls:=.type "list",data:=.seq ([]:List Value).toArray }).push { cls:=.type "dict_keyiterator",data:=.fields #[.ref d,.int 0 0,.int kvs.length 0,.int ep 0] }).update s.heap.objs.size (Obj.mapSeq fun x=>x.push Value.none)).update s.heap.objs.size (Obj.mapSeq fun x=>x.pop)).get? b=some o:=fun b o hb e =>
  (((Heap.SameBut.update ..).2 b hb).trans ((Heap.SameBut.update ..).2 b hb)).trans e
 have hI:((s.heap.push { cls:=.type "list",data:=.seq ([]:List Value).toArray }).push { cls:=.type "dict_keyiterator",data:=.fields #[.ref d,.int 0 0,.int kvs.length 0,.int ep 0] }).get? (s.heap.push { cls:=.type "list",data:=.seq ([]:List Value).toArray }).objs.size=some { cls:=.type "dict_keyiterator",data:=.fields #[.ref d,.int 0 0,.int kvs.length 0,.int ep 0] }:=Heap.get?_push_size _ rfl
 have neI:(s.heap.push { cls:=.type "list",data:=.seq ([]:List Value).toArray }).objs.size ≠ s.heap.objs.size:=by rw [<- I2];omega
 have old:∀ b o,s.heap.get? b=some o->((s.heap.push { cls:=.type "list",data:=.seq ([]:List Value).toArray }).push { cls:=.type "dict_keyiterator",data:=.fields #[.ref d,.int 0 0,.int kvs.length 0,.int ep 0] }).get? b=some o:=fun b o e=>Heap.get?_push_of_some _ (Heap.get?_push_of_some _ e)
 generalize ((((s.heap.push { cls:=.type "list",data:=.seq ([]:List Value).toArray }).push { cls:=.type "dict_keyiterator",data:=.fields #[.ref d,.int 0 0,.int kvs.length 0,.int ep 0] }).update s.heap.objs.size (Obj.mapSeq fun x=>x.push Value.none)).update s.heap.objs.size (Obj.mapSeq fun x=>x.pop))=h5 at hS2 up ⊢
 have st:h5.IsKeyIter (s.heap.push { cls:=.type "list",data:=.seq ([]:List Value).toArray }).objs.size d 0 kvs.length ep:=⟨_,up _ _ neI hI,rfl,rfl⟩
 have da:h5.DictAt knd d kvs ep:=hm2.at' fun o e=>up d o (Ne.symm hSd) e
 generalize hIa:(s.heap.push { cls:=.type "list",data:=.seq ([]:List Value).toArray }).objs.size=Ia at st neI hI ⊢
 have ia:Ia=s.heap.objs.size + 1:=by rw [<- hIa];exact I2.symm
 have ne:d ≠ Ia:=by rw [ia];exact Nat.ne_of_lt (Nat.lt_succ_of_lt dl)
 have nS:s.heap.objs.size ∉ [Ia,d]:=fun h=>by
  rcases List.mem_cons.mp h with c | c
  ·exact neI c.symm
  ·exact hSd (List.mem_singleton.mp c)
 have W:=(Walks.dictKeys (knd:=knd) (A:=A.in1) hh Ia d ne kvs ep).toS
 refine wpAny_pure ⟨plainId_quiet F.plain_extend_loop _,codeAny_extend_loopS W (by rw [sizeLine_eq];omega) s.heap.objs.size nS _ kvs.length 0 _ _ _ rfl (Nat.zero_le _) ⟨st,da⟩ hS2 (ItemsOf.nil _) fun s' acc' c' mv hS' hacc=>?_⟩
 show wpAny _ A (load s.heap.objs.size >>= _) _ _ s'
 refine wpAny_bind (wpAny_load hS' ?_)
 refine wpAny_pure (hQ s' acc' (fun b o e=>?_) mv.gens mv.drawn mv.os (Nat.le_of_lt (Heap.lt_size hS')) hacc)
 have lt:=Heap.lt_size e
 have b1:b ≠ s.heap.objs.size:=Nat.ne_of_lt lt
 have b2:b ≠ Ia:=by rw [ia];exact Nat.ne_of_lt (Nat.lt_succ_of_lt lt)
 refine mv.heap b o (fun h=>?_) (up b o b1 (old b o e))
 rcases List.mem_cons.mp h with c | c
 ·exact b1 c
 ·exact b2 (List.mem_singleton.mp c)
end
end L2
namespace L2
open PySem PySem.Spec PyProof.Rows
theorem zi7:∀ {us:List Value} {ns:List Int},IntsAre us ns->Vals (ns.map V.int) us
 | _,_,.nil=>.nil
 | _,_,.cons _ _ t=>.cons ⟨_,rfl⟩ (zi7 t)
theorem zlX:∀ {xs:List V} {us:List Value},xs.length=us.length->(∀ (j:Nat) x u,xs[j]?=some x->us[j]?=some u->RelV x u)->Vals xs us
 | [],[],_,_=>.nil
 | x :: xs,u :: us,l,h=>.cons (h 0 x u rfl rfl) (zlX (by simpa using l) fun j y v e1 e2=>h (j + 1) y v (by simpa using e1) (by simpa using e2))
end L2
namespace L2
open PySem PySem.Spec PyProof.Rows
end L2
namespace L2
open PySem PySem.Spec PyProof.Rows
end L2
namespace PySem
open Spec
end PySem
namespace L2
open PySem PySem.Spec PyProof.Rows
section
variable {X:Cx} {o i:Expr} {td ty:TE} {pos tpos:Pos}
variable {pins:List (Addr × Obj)} {σ:St} {H:Hp} {s:Shared} {a:Addr}
theorem Inv.kt (I:Inv X pins σ H s) (e:H a=some (.dK [])):Inv X pins σ (upd H a (.dT [])) s:=by
 obtain ⟨z,hd,vs,rel,dd⟩:=zuP I.hok e
 have ev:vs=[]:=by cases rel;rfl
 subst ev
 obtain ⟨q,es,ep,hq,h2,h3,h4,h5,h6⟩:=dd
 have:=zgx (t':=s.toks) I (by rw [e];exact True.intro) (Heap.SameBut.refl a s.heap) ⟨q,hq⟩ (ob:=.dT []) ⟨Nat.zero_le _,hd,[],.nil,q,es,ep,hq,h2,h3,?_,?_⟩
 ·exact this
 ·exact List.eq_nil_of_length_eq_zero (by have:=h5.length;simpa using this)
 ·exact List.nodup_nil
end
end L2
namespace PySem
open Spec
section
variable {prog:Program} {w:World} {A:Around} {E:Value->Shared->Prop} {s:Shared}
structure DEs (h:Heap) (d:Addr) (es:Array DictEntry) (ep:Nat):Prop where
 ex:∃ o,h.get? d=some o/\o.ExactDict/\o.data=.dict es ep
theorem DEs.typ {d:Addr} {es:Array DictEntry} {ep:Nat} (x:DEs s.heap d es ep):s.TypeIs (.ref d) "dict":=by
 obtain ⟨o,ho,hc,_⟩:=x.ex
 exact ⟨o,ho,hc.1⟩
theorem zwy {d:Addr} {es:Array DictEntry} {ep:Nat} {Q:Value->Shared->Prop} (hd:(d == sysModules)=false) (x:DEs s.heap d es ep)
  (hQ:Q (.ref s.heap.objs.size) { s with heap:=s.heap.push { cls:=.type "dict_keyiterator",data:=.fields #[.ref d,.int 0 0,.int es.size 0,.int ep 0] } }):wpAny (model prog w) A (pyIter (.ref d)) Q E s:=by
 obtain ⟨o,ho,hc,hdat⟩:=x.ex
 have hT:=x.typ
 refine wpAny_pyIter_slot hT F.slot_dict_iter (wpAny_call_entry F.slot_dict_iter hT F.entry_dict_iter ?_ (F.args_dict_iter_1 _))
 unfold Builtin.«dict.__iter__» Builtin.Dict.dictSlotNone
 refine wpAny_bind (wpAny_bind (wpAny_notOrdered_dict hT ?_))
 show wpAny _ _ (pure (Value.ref d)) _ _ s
 refine wpAny_pure ?_
 show wpAny _ _ (Builtin.Dict.showsAll d >>= _) _ _ s
 unfold Builtin.Dict.showsAll
 rw [if_neg (by rw [hd];exact Bool.false_ne_true)]
 refine wpAny_bind (wpAny_pure (wpAny_bind (wpAny_dictEntries ho hdat (wpAny_bind (wpAny_dictEpoch ho hdat ?_)))))
 refine wpAny_bind (wpAny_newObj_type (wpAny_pure ⟨_,rfl,"dict_keyiterator",_,⟨_,Heap.get?_push_size _ rfl,rfl⟩,F.slot_dict_keyiterator_next.lookup,?_⟩))
 simpa [rawInt] using hQ
theorem zwd {it d:Addr} {i ep:Nat} {es:Array DictEntry} {Q:Option Value->Shared->Prop} (hit:s.heap.IsKeyIter it d i es.size ep) (x:DEs s.heap d es ep) (hi:i < es.size)
  (hQ:∀ h',h'.IsKeyIter it d (i + 1) es.size ep->Heap.SameBut it s.heap h'->Q (some es[i].key) { s with heap:=h' }):wpAny (model prog w) A (pyNext (.ref it)) Q E s:=by
 obtain ⟨o,ho,hc,hd⟩:=id hit
 obtain ⟨od,hod,hcd,hdd⟩:=x.ex
 unfold pyNext
 refine wpAny_bind (wpAny_attempt (wpAny_callSpecial?_slot (name:=Str.ofString "__next__") hit.typeIs F.slot_dict_keyiterator_next (wpAny_call_entry F.slot_dict_keyiterator_next hit.typeIs F.entry_dict_keyiterator_next ?_ (F.args_dict_keyiterator_next_1 _))))
 refine wpAny_bind (wpAny_pure (wpAny_bind (wpAny_bind ?_)))
 first | refine wpAny_bind (wpAny_typeNameOfWhole_keyiter hit.typeIs (wpAny_pure ?_)) | refine wpAny_bind (wpAny_typeNameOf_keyiter hit.typeIs (wpAny_pure ?_))
 refine wpAny_bind (wpAny_fieldsOf ho hd ?_)
 have hown:Builtin.Dict_items.ownsTuple "dict_keyiterator"=false:=by decide
 simp only [hown,Bool.false_eq_true,if_false]
 show wpAny _ _ (if (Value.ref d == Value.none)=true then _ else _) _ _ s
 rw [if_neg (show ¬ ((Value.ref d == Value.none)=true) from Bool.false_ne_true)]
 refine wpAny_bind (wpAny_pure (wpAny_bind (wpAny_dictEntries hod hdd ?_)))
 rw [if_neg (by simp)]
 refine wpAny_bind (wpAny_pure (wpAny_bind (wpAny_dictEpoch hod hdd ?_)))
 rw [if_neg (by simp)]
 refine wpAny_pure ?_
 simp only [show ¬ ((i:Int) < 0) from by omega,if_false,Int.toNat_natCast,Array.getElem?_eq_getElem hi]
 refine wpAny_bind ?_
 first | refine wpAny_bind (wpAny_typeNameOfWhole_keyiter hit.typeIs (wpAny_pure ?_)) | refine wpAny_bind (wpAny_typeNameOf_keyiter hit.typeIs (wpAny_pure ?_))
 refine wpAny_bind (wpAny_isOneOf_keyiter hit.typeIs ?_)
 show wpAny _ _ (setField (.ref it) 1 (rawInt ((i:Int) + 1)) >>= _) _ _ s
 refine wpAny_bind (wpAny_setField ho hd (by simp) ?_)
 have hit':(s.heap.update it (Obj.mapFields (·.setIfInBounds 1 (rawInt ((i:Int) + 1))))).IsKeyIter it d (i + 1) es.size ep :=
  ⟨_,Heap.get?_update_self _ ho (Obj.isFreed_of_fields (Obj.data_mapFields hd _)),(Obj.cls_mapFields ..).trans hc,by rw [Obj.data_mapFields hd];simp [rawInt]⟩
 refine wpAny_bind (wpAny_holding (wpAny_bind (wpAny_isOneOf_keyiter (s:={ s with heap:=s.heap.update it (Obj.mapFields (·.setIfInBounds 1 (rawInt ((i:Int) + 1)))) }) hit'.typeIs ?_)))
 show wpAny _ _ (pure es[i].key) _ _ _
 exact wpAny_pure (wpAny_pure ⟨_,rfl,wpAny_pure (hQ _ hit' (Heap.SameBut.update ..))⟩)
theorem zyq {it d:Addr} {i ep:Nat} {es:Array DictEntry} {Q:Option Value->Shared->Prop} (hh:A.handled=none) (hit:s.heap.IsKeyIter it d i es.size ep) (x:DEs s.heap d es ep) (hge:es.size<=i)
  (hQ:∀ h',Heap.ExtBut it s.heap h'->Q none { s with heap:=h' }):wpAny (model prog w) A (pyNext (.ref it)) Q E s:=by
 obtain ⟨o,ho,hc,hd⟩:=id hit
 obtain ⟨od,hod,hcd,hdd⟩:=x.ex
 unfold pyNext
 refine wpAny_bind (wpAny_attempt (wpAny_callSpecial?_slot (name:=Str.ofString "__next__") hit.typeIs F.slot_dict_keyiterator_next (wpAny_call_entry F.slot_dict_keyiterator_next hit.typeIs F.entry_dict_keyiterator_next ?_ (F.args_dict_keyiterator_next_1 _))))
 refine wpAny_bind (wpAny_pure (wpAny_bind (wpAny_bind ?_)))
 first | refine wpAny_bind (wpAny_typeNameOfWhole_keyiter hit.typeIs (wpAny_pure ?_)) | refine wpAny_bind (wpAny_typeNameOf_keyiter hit.typeIs (wpAny_pure ?_))
 refine wpAny_bind (wpAny_fieldsOf ho hd ?_)
 have hown:Builtin.Dict_items.ownsTuple "dict_keyiterator"=false:=by decide
 simp only [hown,Bool.false_eq_true,if_false]
 show wpAny _ _ (if (Value.ref d == Value.none)=true then _ else _) _ _ s
 rw [if_neg (show ¬ ((Value.ref d == Value.none)=true) from Bool.false_ne_true)]
 refine wpAny_bind (wpAny_pure (wpAny_bind (wpAny_dictEntries hod hdd ?_)))
 rw [if_neg (by simp)]
 refine wpAny_bind (wpAny_pure (wpAny_bind (wpAny_dictEpoch hod hdd ?_)))
 rw [if_neg (by simp)]
 refine wpAny_pure ?_
 simp only [show ¬ ((i:Int) < 0) from by omega,if_false,Int.toNat_natCast,Array.getElem?_eq_none hge]
 refine wpAny_bind ?_
 first | refine wpAny_bind (wpAny_typeNameOfWhole_keyiter hit.typeIs (wpAny_pure ?_)) | refine wpAny_bind (wpAny_typeNameOf_keyiter hit.typeIs (wpAny_pure ?_))
 show wpAny _ _ (setField (.ref it) 0 .none >>= _) _ _ s
 refine wpAny_bind (wpAny_setField ho hd (by simp) ?_)
 show wpAny _ _ (newExc (.type "StopIteration") [] >>= _) _ _ _
 refine wpAny_bind ?_
 simp only [newExc,newTuple]
 refine wpAny_bind (wpAny_newObj_type ?_ (by size_fits))
 refine wpAny_bind (m:=firstArgMember _ _) (wpAny_of_eq (a:=Value.none) (by first | rfl | (simp only [firstArgMember];rfl)) ?_)
 refine wpAny_newObj_type ?_ (by size_fits)
 simp only [raiseNew]
 refine wpAny_bind (wpAny_handled ?_)
 rw [show A.in1.handled=none from hh]
 refine wpAny_bind (wpAny_pure (wpAny_throw ?_))
 refine wpAny_bind (wpAny_isInstance (T:="StopIteration") (b:=true) ⟨_,Heap.get?_push_size _ rfl,rfl⟩ isSubtype_stop ?_)
 exact wpAny_pure (hQ _ (((Heap.SameBut.update ..).extBut.push _).push _))
end
end PySem
namespace L2
open PySem PySem.Spec PyProof.Rows
def zx9 (d:Addr) (o:Obj) (kvs:List (List Key × V)):It :=
 ⟨fun i H=>H d=some (.frz o (.dT kvs))/\i < kvs.length,fun i H x H'=>H'=H/\∃ k v b,kvs[i]?=some (k,v)/\x=.ref b/\TAt H b (k.map kV),fun i H=>H d=some (.frz o (.dT kvs))/\kvs.length<=i⟩
theorem zmx {P:Program} {w:World} {H:Hp} {h:Heap} {d:Addr} {o:Obj} {kvs:List (List Key × V)} {es:Array DictEntry} {ep:Nat} (ok:zbN P w H h d (.frz o (.dT kvs))) (hd:o.data=.dict es ep) :
  ∃ xs,KT H kvs xs/\DEs h d es ep/\es.toList=xs.map (entryOfKey (tupleKind (za7 P w)))/\(d == sysModules)=false:=by
 obtain ⟨e,_,sy,xs,kt,o',es',ep',e',r1,r2,r3,r4⟩:=ok
 rw [e] at e'
 cases e'
 rw [hd] at r2
 cases r2
 exact ⟨xs,kt,⟨o,e,r1,hd⟩,r3,sy⟩
theorem znU {P:Program} {w:World} {K:PySem.W.Frag} {tg:Expr} {o:Obj} {es:Array DictEntry} {ep:Nat} {kvs:List (List Key × V)} (d it:Addr) (hdat:o.data=.dict es ep) :
  Turn P w K tg (zx9 d o kvs) [it] it (fun i h=>h.IsKeyIter it d i es.size ep) where
 mem:=by simp
 obj:=fun i h st b hb=>by
  have e:b=it:=by simpa using hb
  subst e
  obtain ⟨o,e,c,d⟩:=st
  exact ⟨o,e,fun v z=>by rw [d] at z;cases z⟩
 keep:=fun i h h' st k=>st.at fun o e=>k it (by simp) o e
 item:=by
  intro X hP hw hK hc i pins s σ H E I hf st hg
  subst hP hw hK
  obtain ⟨hd,hi⟩:=hg
  obtain ⟨xs,kt,da,he,_⟩:=zmx (I.hok d _ hd) hdat
  have hl:kvs.length=xs.length:=Paired.length kt
  have hsz:es.size=xs.length:=size_of_entries he
  obtain ⟨⟨k',b,v'⟩,ev,rk,rb,rv⟩:=zeH kt (List.getElem?_eq_getElem hi)
  obtain ⟨f0,f1,f2,f3,f4,f5⟩:=hf it (by simp)
  have hi':i < es.size:=by omega
  have hk:es[i].key=.ref b:=by
   have:=entry_at he i
   rw [ev,Array.getElem?_eq_getElem hi'] at this
   simp only [Option.map_some,Option.some.injEq] at this
   rw [this]
   rfl
  refine zwd st da hi' fun h' st2 sb=>?_
  have I1:Inv X pins σ H { s with heap:=h' }:=I.turned (t':=s.toks) (fun b o hb e=>(sb.2 b hb).trans e) f0 f1 f3 f4 f5
  obtain ⟨o,e,c,dd⟩:=id st2
  rw [hk]
  exact ⟨.ref b,rfl,zqd (s:={ s with heap:=h' }) e c dd (by decide) ⟨.ref b,H,I1,rfl,⟨rfl,kvs[i].1,kvs[i].2,b,List.getElem?_eq_getElem hi,rfl,rb⟩,st2,fun b hb=>(hf b hb).1⟩⟩
 done:=by
  intro X hP hw hK hc i pins s σ H E I hf st hg
  subst hP hw hK
  obtain ⟨hd,hi⟩:=hg
  obtain ⟨xs,kt,da,he,_⟩:=zmx (I.hok d _ hd) hdat
  have hl:kvs.length=xs.length:=Paired.length kt
  have hsz:es.size=xs.length:=size_of_entries he
  obtain ⟨f0,f1,f2,f3,f4,f5⟩:=hf it (by simp)
  exact zyq (I.ok.hd hc) st da (by omega) fun h' eb=>⟨rfl,I.turned (t':=s.toks) (fun b o hb e=>eb b o hb e) f0 f1 f3 f4 f5⟩
 self:=fun _ _ _ _ _ st h=>wpAny_pyIter_keyiter st h
end L2
namespace L2
open PySem PySem.Spec PyProof.Rows
theorem zwN {P:Program} {w:World} {H:Hp} {h:Heap} {a:Addr} (ok:HOk P w H h) (e:Rd H a (.dK [])):(a == sysModules)=false/\h.DictOfH (tupleKind (za7 P w)) a []:=by
 obtain ⟨z,hd,vs,rel,dd⟩:=zox ok e
 have ev:vs=[]:=by cases rel;rfl
 subst ev
 obtain ⟨q,es,ep,hq,h2,h3,h4,h5,h6⟩:=dd
 exact ⟨hd,q,es,ep,hq,h2,h3,List.eq_nil_of_length_eq_zero (by have:=h5.length;simpa using this),(fun x hx=>nomatch hx),List.nodup_nil⟩
theorem ztk {P:Program} {w:World} {H:Hp} {h:Heap} {a:Addr} (ok:HOk P w H h) (e:Rd H a (.dT [])):(a == sysModules)=false/\h.DictOf (za7 P w) a []:=by
 obtain ⟨z,hd,xs,rel,dd⟩:=zou ok e
 have ev:xs=[]:=by cases rel;rfl
 subst ev
 obtain ⟨q,es,ep,hq,h2,h3,h4,h5,h6⟩:=dd
 have he:es=#[]:=by
  apply Array.ext'
  rw [h4];rfl
 subst he
 exact ⟨hd,q,#[],ep,hq,h2,h3,fun e he=>by simp at he,.nil,List.nodup_nil⟩
def DG (H:Hp) (a:Addr) (y:V) (r:Option V):Prop :=
 zxe H a y r\/(r=none/\Rd H a (.dK [])/\∃ (b:Addr) (k:List Key),y=.ref b/\TAt H b (k.map kV))\/(r=none/\Rd H a (.dT [])/\∃ k:Key,y=kV k)
section
variable {X:Cx} {pins:List (Addr × Obj)} {σ:St} {H:Hp} {s:Shared} {a:Addr} {y v d:V} {u r:Value} {o:Option V} {A:Around} {E:Value->Shared->Prop}
theorem zsp {Q:Value->Shared->Prop} (hu:A.units + 1 < cLine) (I:Inv X pins σ H s) (g:DG H a y o) (ry:RelV y u) (h:∀ s',Inv X pins σ H s'->Q (.bool (!o.isSome)) s') :
  wpAny (model X.prog X.w) A (compareOp .NotIn u (.ref a)) Q E s:=by
 rcases g with g | ⟨rfl,e,b,k,rfl,eb⟩ | ⟨rfl,e,k,rfl⟩
 ·exact zuT hu I g ry h
 ·cases (show u=Value.ref b from ry)
  obtain ⟨hd,dd⟩:=zwN I.hok e
  exact wpAny_notIn_heap (tupleKind_room_in1 hu) (zjl I.hok eb) hd dd (h _ (I.tok _))
 ·obtain ⟨hd,dd⟩:=ztk I.hok e
  exact wpAny_notIn_of (zoo ry) hd dd.mapOf (h _ (I.tok _))
def DP (H:Hp) (a:Addr) (y v:V) (H':Hp):Prop :=
 zq2 H a y v H'\/(∃ (k:List Key) (b:Addr),H a=some (.dK [])/\y=.ref b/\TAt H b (k.map kV)/\H'=upd H a (.dT [(k,v)]))\/∃ k:Key,H a=some (.dT [])/\y=kV k/\H'=upd H a (.dK [(k,v)])
theorem Inv.tk (I:Inv X pins σ H s) (e:H a=some (.dT [])):Inv X pins σ (upd H a (.dK [])) s:=by
 obtain ⟨hd,dd⟩:=ztk I.hok (.inl e)
 obtain ⟨q,es,ep,hq,rest⟩:=id dd
 exact zgx (t':=s.toks) I (by rw [e];exact True.intro) (Heap.SameBut.refl a s.heap) ⟨q,hq⟩ (ob:=.dK []) ⟨Nat.zero_le _,hd,[],.nil,dd⟩
theorem zwP {H':Hp} {Q:Unit->Shared->Prop} (hu:A.units + 1 < cLine) (I:Inv X pins σ H s) (g:DP H a y v H') (ry:RelV y u) (rv:RelV v r) (h:∀ s',Inv X pins σ H' s'->Q () s') :
  wpAny (model X.prog X.w) A (setItem (.ref a) u r) Q E s:=by
 rcases g with g | ⟨k,b,e,rfl,eb,rfl⟩ | ⟨k,e,rfl,rfl⟩
 ·exact zib hu I g ry rv h
 ·have eb':TAt (upd H a (.dT [])) b (k.map kV):=eb.upd (fun _ z=>zkZ z e (fun z=>nomatch z)) fun _ _ z=>zkZ z e (fun z=>nomatch z)
  have g:=zq2.t (H:=upd H a (.dT [])) (a:=a) (v:=v) zan eb' (by decide)
  rw [zhy] at g
  exact zib hu (I.kt e) g ry rv h
 ·have g:=zq2.k (H:=upd H a (.dK [])) (a:=a) (k:=k) (v:=v) zan (by decide)
  rw [zhy] at g
  exact zib hu (I.tk e) g ry rv h
end
section
variable {X:Cx} {o i e f value:Expr} {apos cpos pos pos':Pos} {td ty tx tv:TE}
def zxo (td ty tv:TE):TS:=fun D σ H=>tv σ H fun v H1=>td σ H1 fun x H2=>ty σ H2 fun y H3=>∃ a H4,x=.ref a/\DP H3 a y v H4/\D.nx σ H4
theorem ztY (hu:X.A.units + 1 < cLine) (ho:PE X o td) (hi:PE X i ty) (hv:PE X value tv) (hs:swapsWith value (some (.Subscript o i pos')) pos.line X.env=pure false) :
  PS X (.Assign [.Subscript o i pos'] value pos) (zxo td ty tv):=by
 intro pins s σ H D I h
 refine wpAny_Assign_Subscript (thn (hv pins s σ H _ I h) fun r s1 ⟨v,H1,I1,rv,q1⟩=>thn (ho pins s1 σ H1 _ I1 q1) fun u s2 ⟨x,H2,I2,rx,q2⟩=>thn (hi pins s2 σ H2 _ I2 q2) fun iv s3 ⟨y,H3,I3,ry,a,H4,ex,g,q3⟩=>?_) hs
 subst ex
 obtain rfl:u=Value.ref a:=rx
 exact zwP hu I3 g ry rv fun s4 I4=>⟨σ,H4,I4,q3⟩
end
end L2
namespace L2
open PySem PySem.Spec PyProof.Rows PySem.W
abbrev gp (p:Array Nat) (i:Nat):Nat:=p.getD i 0
section
variable {lt:Nat->Nat->Bool} {n:Nat} {cmp:Nat->Nat->(Bool->Shared->Prop)->Shared->Prop} {P:Shared->Prop}
structure Ord (lt:Nat->Nat->Bool):Prop where
 tr:∀ i j k,lt j i=false->lt k j=false->lt k i=false
 as:∀ i j,lt i j=true->lt j i=false
def Dn (lt:Nat->Nat->Bool) (p:Array Nat) (m:Nat):Prop:=∀ i j,i<=j->j < m->lt (gp p i) (gp p j)=false
structure Arr (n:Nat) (p:Array Nat):Prop where
 sz:p.size=n
 pm:p.Perm (List.toArray (List.range n))
end
end L2
namespace PySem
open Spec PyProof.Rows
section
variable {prog:Program} {w:World} {A:Around} {E:Value->Shared->Prop} {s:Shared}
theorem DEs.at {h h':Heap} {d:Addr} {es:Array DictEntry} {ep:Nat} (x:DEs h d es ep) (k:∀ o,h.get? d=some o->h'.get? d=some o):DEs h' d es ep:=by
 obtain ⟨o,e,r⟩:=x.ex
 exact ⟨o,k o e,r⟩
theorem zvd (hh:A.handled=none) (I d:Addr) (hne:d ≠ I) (es:Array DictEntry) (ep:Nat) :
  Walks prog w A I [I,d] [I] es.size (fun i v=>∃ h:i < es.size,v=es[i].key) (fun i h=>h.IsKeyIter I d i es.size ep/\DEs h d es ep) where
 sub:=fun b hb=>by simp at hb;simp [hb]
 frame:=fun _ _ _ st hk=>⟨st.1.at fun o e=>hk I (by simp) o e,st.2.at fun o e=>hk d (by simp) o e⟩
 item:=fun i s Q E hi st hQ=>by
  refine zwd st.1 st.2 hi fun h' hit' hs'=>?_
  exact hQ _ h' s.toks ⟨hi,rfl⟩ ⟨hit',st.2.at fun o e=>hs'.extBut d o hne e⟩ fun b o hb e=>hs'.extBut b o (fun h=>hb (by simp [h])) e
 done:=fun s Q E st hQ=>zyq hh st.1 st.2 (Nat.le_refl _) fun h' he'=>hQ h' s.toks fun b o hb e=>he' b o (fun h=>hb (by simp [h])) e
 self:=fun _ _ _ _ st hQ=>wpAny_pyIter_keyiter st.1 hQ
theorem zsr {d:Addr} {es:Array DictEntry} {ep:Nat} {Q:List Value->Shared->Prop} (hh:A.handled=none) (sy:(d == sysModules)=false) (hm:DEs s.heap d es ep) (hn:es.size<=1000)
  (hQ:∀ s' (acc:Array Value),(∀ b o,s.heap.get? b=some o->s'.heap.get? b=some o)->s'.gens=s.gens->s'.drawn=s.drawn->s'.os=s.os->s.heap.objs.size<=s'.heap.objs.size->ItemsOf (fun i v=>∃ h:i < es.size,v=es[i].key) acc es.size->Q acc.toList s') :
  wpAny (model prog w) A (collect (.ref d)) Q E s:=by
 obtain ⟨od,hod,hxd,hdd⟩:=hm.ex
 have dl:=Heap.lt_size hod
 unfold collect
 refine wpAny_bind (wpAny_runValue (codeAny_builtin F.entry_proto_collect ?_))
 rw [Around.under_plainId F.plain_proto_collect _]
 show wpAny _ A.in1 (newList [] >>= fun l=>again (.builtin "list.__iadd__" ⟨[l,.ref d],[]⟩)) _ _ s
 refine wpAny_bind (wpAny_newObj_type ?_)
 refine wpAny_pure ⟨plainId_quiet F.plain_list_iadd _,codeAny_builtin F.entry_list_iadd ?_⟩
 rw [Around.under_plainId F.plain_list_iadd _]
 have hm1:DEs (s.heap.push { cls:=.type "list",data:=.seq ([]:List Value).toArray }) d es ep:=hm.at fun o e=>Heap.get?_push_of_some _ e
 have hSd:s.heap.objs.size ≠ d:=Nat.ne_of_gt dl
 have h1:Builtin.List.listSameRef (.ref s.heap.objs.size) (.ref d)=false:=by simp [Builtin.List.listSameRef,hSd]
 show wpAny _ A.in1 (Builtin.List.listExtendWith (.ref s.heap.objs.size) (.ref d) (.ref s.heap.objs.size)) _ _ _
 unfold Builtin.List.listExtendWith
 refine wpAny_bind (wpAny_typeOf (s:={ s with heap:=s.heap.push { cls:=.type "list",data:=.seq ([]:List Value).toArray } }) hm1.typ ?_)
 rw [if_neg (by rw [h1];decide)]
 refine wpAny_bind (zwy (s:={ s with heap:=s.heap.push { cls:=.type "list",data:=.seq ([]:List Value).toArray } }) sy hm1 ?_)
 refine wpAny_bind (wpAny_holding ?_)
 have I2:s.heap.objs.size + 1=(s.heap.push { cls:=.type "list",data:=.seq ([]:List Value).toArray }).objs.size:=(Heap.size_push ..).symm
 have hm2:DEs ((s.heap.push { cls:=.type "list",data:=.seq ([]:List Value).toArray }).push { cls:=.type "dict_keyiterator",data:=.fields #[.ref d,.int 0 0,.int es.size 0,.int ep 0] }) d es ep:=hm1.at fun o e=>Heap.get?_push_of_some _ e
 have ty2:=DEs.typ (s:={ s with heap:=(s.heap.push { cls:=.type "list",data:=.seq ([]:List Value).toArray }).push { cls:=.type "dict_keyiterator",data:=.fields #[.ref d,.int 0 0,.int es.size 0,.int ep 0] } }) hm2
 unfold Builtin.List.listLengthHint
 refine wpAny_bind (wpAny_specialOf ty2 F.slot_dict_len.lookup ?_)
 generalize hid:("dict.__len__":String)=id0
 wp_delta
 rw [show splitId id0=some ("dict","__len__") from by subst hid;decide +kernel]
 subst hid
 refine wpAny_bind (wpAny_isInstance (b:=true) ty2 (by rw [isSubtype_type];kernel_rfl) ?_)
 rw [if_neg (by decide)]
 dsimp only
 rw [if_pos (by decide +kernel)]
 refine wpAny_bind (wpAny_typeOf ty2 ?_)
 refine wpAny_pure ?_
 rw [if_pos (by decide +kernel)]
 refine wpAny_bind (wpAny_rule ?_)
 unfold Builtin.List.listTouch
 have hS0:((s.heap.push { cls:=.type "list",data:=.seq ([]:List Value).toArray }).push { cls:=.type "dict_keyiterator",data:=.fields #[.ref d,.int 0 0,.int es.size 0,.int ep 0] }).get? s.heap.objs.size=some (seqObj "list" #[] 0):=Heap.get?_push_of_some _ (Heap.get?_push_size _ rfl)
 refine wpAny_bind (wpAny_bind (listUpdate_at hS0 rfl ?_ (Nat.zero_le _) (by show 1<=sizeLine + 1;omega)))
 have hS1:=get?_update_seq hS0 (·.push .none)
 refine listUpdate_at hS1 rfl ?_ (by show 1<=sizeLine;rw [sizeLine_eq];decide) (by show 0<=sizeLine + 1;omega)
 have hS2:=get?_update_seq hS1 (·.pop)
 have up:∀ b o,b ≠ s.heap.objs.size->((s.heap.push { cls:=.type "list",data:=.seq ([]:List Value).toArray }).push { cls:=.type "dict_keyiterator",data:=.fields #[.ref d,.int 0 0,.int es.size 0,.int ep 0] }).get? b=some o ->
   ((((s.heap.push { cls:=.type "list",data:=.seq ([]:List Value).toArray }).push { cls:=.type "dict_keyiterator",data:=.fields #[.ref d,.int 0 0,.int es.size 0,.int ep 0] }).update s.heap.objs.size (Obj.mapSeq fun x=>x.push Value.none)).update s.heap.objs.size (Obj.mapSeq fun x=>x.pop)).get? b=some o:=fun b o hb e =>
  (((Heap.SameBut.update ..).2 b hb).trans ((Heap.SameBut.update ..).2 b hb)).trans e
 have hI:((s.heap.push { cls:=.type "list",data:=.seq ([]:List Value).toArray }).push { cls:=.type "dict_keyiterator",data:=.fields #[.ref d,.int 0 0,.int es.size 0,.int ep 0] }).get? (s.heap.push { cls:=.type "list",data:=.seq ([]:List Value).toArray }).objs.size=some { cls:=.type "dict_keyiterator",data:=.fields #[.ref d,.int 0 0,.int es.size 0,.int ep 0] }:=Heap.get?_push_size _ rfl
 have neI:(s.heap.push { cls:=.type "list",data:=.seq ([]:List Value).toArray }).objs.size ≠ s.heap.objs.size:=by rw [<- I2];omega
 have old:∀ b o,s.heap.get? b=some o->((s.heap.push { cls:=.type "list",data:=.seq ([]:List Value).toArray }).push { cls:=.type "dict_keyiterator",data:=.fields #[.ref d,.int 0 0,.int es.size 0,.int ep 0] }).get? b=some o:=fun b o e=>Heap.get?_push_of_some _ (Heap.get?_push_of_some _ e)
 generalize ((((s.heap.push { cls:=.type "list",data:=.seq ([]:List Value).toArray }).push { cls:=.type "dict_keyiterator",data:=.fields #[.ref d,.int 0 0,.int es.size 0,.int ep 0] }).update s.heap.objs.size (Obj.mapSeq fun x=>x.push Value.none)).update s.heap.objs.size (Obj.mapSeq fun x=>x.pop))=h5 at hS2 up ⊢
 have st:h5.IsKeyIter (s.heap.push { cls:=.type "list",data:=.seq ([]:List Value).toArray }).objs.size d 0 es.size ep:=⟨_,up _ _ neI hI,rfl,rfl⟩
 have da:DEs h5 d es ep:=hm2.at fun o e=>up d o (Ne.symm hSd) e
 generalize hIa:(s.heap.push { cls:=.type "list",data:=.seq ([]:List Value).toArray }).objs.size=Ia at st neI hI ⊢
 have ia:Ia=s.heap.objs.size + 1:=by rw [<- hIa];exact I2.symm
 have ne:d ≠ Ia:=by rw [ia];exact Nat.ne_of_lt (Nat.lt_succ_of_lt dl)
 have nS:s.heap.objs.size ∉ [Ia,d]:=fun h=>by
  rcases List.mem_cons.mp h with c | c
  ·exact neI c.symm
  ·exact hSd (List.mem_singleton.mp c)
 have W:=(zvd (prog:=prog) (w:=w) (A:=A.in1) hh Ia d ne es ep).toS
 refine wpAny_pure ⟨plainId_quiet F.plain_extend_loop _,codeAny_extend_loopS W (by rw [sizeLine_eq];omega) s.heap.objs.size nS _ es.size 0 _ _ _ rfl (Nat.zero_le _) ⟨st,da⟩ hS2 (ItemsOf.nil _) fun s' acc' c' mv hS' hacc=>?_⟩
 show wpAny _ A (load s.heap.objs.size >>= _) _ _ s'
 refine wpAny_bind (wpAny_load hS' ?_)
 refine wpAny_pure (hQ s' acc' (fun b o e=>?_) mv.gens mv.drawn mv.os (Nat.le_of_lt (Heap.lt_size hS')) hacc)
 have lt:=Heap.lt_size e
 have b1:b ≠ s.heap.objs.size:=Nat.ne_of_lt lt
 have b2:b ≠ Ia:=by rw [ia];exact Nat.ne_of_lt (Nat.lt_succ_of_lt lt)
 refine mv.heap b o (fun h=>?_) (up b o b1 (old b o e))
 rcases List.mem_cons.mp h with c | c
 ·exact b1 c
 ·exact b2 (List.mem_singleton.mp c)
end
end PySem
namespace L2
open PySem PySem.Spec PyProof.Rows PySem.W
def Cx.in1 (X:Cx):Cx:={ X with A:=X.A.in1 }
end L2
namespace L2
open PySem PySem.Spec PyProof.Rows PySem.W
abbrev WK:=Int × List Int
end L2
namespace L2
open PySem PySem.Spec PyProof.Rows PySem.W
end L2
namespace L2
open PySem PySem.Spec PyProof.Rows PySem.W
def KTs (H:Hp):List (List Key × V)->List V->Prop
 | [],xs=>xs=[]
 | kv :: r,xs=>∃ b t,xs=.ref b :: t/\TAt H b (kv.1.map kV)/\KTs H r t
def zsK (H:Hp) (d:Addr) (xs:List V):Prop:=(∃ kvs,Rd H d (.dT kvs)/\KTs H kvs xs)\/∃ kvs:List (Key × V),Rd H d (.dK kvs)/\xs=kvs.map fun kv=>kV kv.1
section
variable {X:Cx} {pins:List (Addr × Obj)} {σ:L2.St} {H:Hp} {s:Shared} {d f:Addr}
theorem zs8:∀ {kvs:List (List Key × V)} {ys:List (List Key × Addr × Value)},KT H kvs ys->KTs H kvs (ys.map fun y=>V.ref y.2.1)
 | [],_,.nil=>rfl
 | kv :: r,_,.cons h t=>⟨_,_,rfl,h.2.1,zs8 t⟩
theorem zss {A:Around} {E:Value->Shared->Prop} {Q:List Value->Shared->Prop} (hh:A.handled=none) (I:Inv X pins σ H s) (rd:IsD H d) (hn:∀ xs,zsK H d xs->xs.length < 64)
  (hQ:∀ xs us s',zsK H d xs->Vals xs us->Inv X pins σ H s'->Q us s'):wpAny (model X.prog X.w) A (collect (.ref d)) Q E s:=by
 have fin:∀ (s':Shared),(∀ b o,s.heap.get? b=some o->s'.heap.get? b=some o)->s'.gens=s.gens->s'.drawn=s.drawn->s'.os=s.os->Inv X pins σ H s':=fun s' k g dr os=>by
  obtain ⟨h,g',dr',tk,os'⟩:=s'
  simp only at g dr os
  subst g;subst dr;subst os
  exact I.kept (t':=tk) k
 rcases rd with ⟨kvs,rd⟩ | ⟨kvs,rd⟩
 ·obtain ⟨z,sy,vs,rel,dd⟩:=zox I.hok rd
  obtain ⟨ep,da⟩:=dd.dictAt
  have lk:=hn _ (.inr ⟨kvs,rd,rfl⟩)
  rw [List.length_map] at lk
  have lv:kvs.length=vs.length:=rel.length
  refine zlq hh sy da (by omega) fun s' acc hk hg hd ho hsz hacc=>hQ (kvs.map fun kv=>kV kv.1) _ s' (.inr ⟨kvs,rd,rfl⟩) ?_ (fin s' hk hg hd ho)
  have la:acc.toList.length=vs.length:=by rw [Array.length_toList];exact hacc.1
  refine zlX (by rw [List.length_map];omega) fun j x v ex ev=>?_
  rw [Array.getElem?_toList] at ev
  obtain ⟨k,y,e1,e2⟩:=hacc.2 j v ev
  have lj:j < vs.length:=Nat.lt_of_not_le fun c=>by rw [List.getElem?_eq_none c] at e1;cases e1
  have lj':j < kvs.length:=lv ▸ lj
  obtain ⟨⟨k',y'⟩,e3,e4,_⟩:=zeH rel (List.getElem?_eq_getElem lj')
  rw [e1] at e3
  cases e3
  rw [List.getElem?_map,List.getElem?_eq_getElem lj'] at ex
  cases ex
  show RelV (kV kvs[j].1) v
  rw [show kvs[j].1=k from e4]
  exact zm0 e2
 ·obtain ⟨z,sy,ys,kt,o,es,ep,e',r1,r2,r3,r4⟩:=zou I.hok rd
  have ks:=zs8 kt
  have lk:=hn _ (.inl ⟨kvs,rd,ks⟩)
  have ly:kvs.length=ys.length:=Paired.length kt
  have hsz:es.size=ys.length:=size_of_entries r3
  rw [List.length_map] at lk
  refine zsr hh sy ⟨o,e',r1,r2⟩ (by omega) fun s' acc hk hg hd ho hs hacc=>hQ _ _ s' (.inl ⟨kvs,rd,ks⟩) ?_ (fin s' hk hg hd ho)
  have la:acc.toList.length=es.size:=by rw [Array.length_toList];exact hacc.1
  refine zlX (by rw [List.length_map];omega) fun j x v ex ev=>?_
  rw [Array.getElem?_toList] at ev
  obtain ⟨hj,rfl⟩:=hacc.2 j v ev
  have lj:j < ys.length:=by omega
  rw [List.getElem?_map,List.getElem?_eq_getElem lj] at ex
  cases ex
  have:=entry_at r3 j
  rw [List.getElem?_eq_getElem lj,Array.getElem?_eq_getElem hj] at this
  simp only [Option.map_some,Option.some.injEq] at this
  rw [this]
  rfl
end
end L2
namespace L2
open PySem PySem.Spec PyProof.Rows PySem.W
end L2
namespace Q1
def fr (t b:Int):Int × Int:=if b < 0 then (t / -(Int.gcd t b:Int),b / -(Int.gcd t b:Int)) else (t / (Int.gcd t b:Int),b / (Int.gcd t b:Int))
structure Low (p q:Int):Prop where
 pos:0 < q
 cop:Int.gcd p q=1
theorem zuH {t b:Int} (h:b ≠ 0):0 < (Int.gcd t b:Int):=by
 have:0 < Int.gcd t b:=Int.gcd_pos_of_ne_zero_right _ h
 omega
theorem zxZ {t b:Int}:((Int.gcd t b:Nat):Int) ∣ t:=Int.gcd_dvd_left ..
theorem zuQ {t b:Int}:((Int.gcd t b:Nat):Int) ∣ b:=Int.gcd_dvd_right ..
theorem zuU {t b:Int} (h:b ≠ 0):Int.gcd (t / (Int.gcd t b:Int)) (b / (Int.gcd t b:Int))=1:=by
 have hp:0 < Int.gcd t b:=Int.gcd_pos_of_ne_zero_right _ h
 exact Int.gcd_ediv_gcd_ediv_gcd hp
theorem zwF {t b:Int} (h:b ≠ 0):Low (fr t b).1 (fr t b).2:=by
 have hg:=zuH (t:=t) h
 have c:=zuU (t:=t) h
 unfold fr
 split
 ·rename_i hb
  refine ⟨?_,?_⟩
  ·show 0 < b / -(Int.gcd t b:Int)
   rw [Int.ediv_neg]
   have:=Int.ediv_mul_cancel (zuQ (t:=t) (b:=b))
   have h1:b / (Int.gcd t b:Int) < 0:=by
    rcases Int.lt_trichotomy (b / (Int.gcd t b:Int)) 0 with z | z | z
    ·exact z
    ·rw [z] at this;omega
    ·have:=Int.mul_pos z hg;omega
   omega
  ·show Int.gcd (t / -(Int.gcd t b:Int)) (b / -(Int.gcd t b:Int))=1
   rw [Int.ediv_neg,Int.ediv_neg,Int.gcd_neg,Int.neg_gcd]
   exact c
 ·rename_i hb
  refine ⟨?_,c⟩
  show 0 < b / (Int.gcd t b:Int)
  have:=Int.ediv_mul_cancel (zuQ (t:=t) (b:=b))
  rcases Int.lt_trichotomy (b / (Int.gcd t b:Int)) 0 with z | z | z
  ·have:=Int.mul_neg_of_neg_of_pos z hg;omega
  ·rw [z] at this;omega
  ·exact z
theorem zxW {t b:Int} (h:b ≠ 0):(fr t b).1 * b=t * (fr t b).2:=by
 have e1:=Int.ediv_mul_cancel (zxZ (t:=t) (b:=b))
 have e2:=Int.ediv_mul_cancel (zuQ (t:=t) (b:=b))
 have key:t / (Int.gcd t b:Int) * b=t * (b / (Int.gcd t b:Int)):=by
  calc t / (Int.gcd t b:Int) * b=t / (Int.gcd t b:Int) * (b / (Int.gcd t b:Int) * (Int.gcd t b:Int)):=by rw [e2]
   _=t / (Int.gcd t b:Int) * (Int.gcd t b:Int) * (b / (Int.gcd t b:Int)):=by rw [Int.mul_assoc,Int.mul_comm (b / _)]
   _=t * (b / (Int.gcd t b:Int)):=by rw [e1]
 unfold fr
 split
 ·show t / -(Int.gcd t b:Int) * b=t * (b / -(Int.gcd t b:Int))
  rw [Int.ediv_neg,Int.ediv_neg,Int.neg_mul,Int.mul_neg,key]
 ·exact key
theorem zqz {q p r:Int} (h:q ∣ p * r) (c:Int.gcd p q=1):q ∣ r:=by
 have h1:q.natAbs ∣ p.natAbs * r.natAbs:=by
  rw [<- Int.natAbs_mul]
  exact Int.natAbs_dvd_natAbs.mpr h
 have c':Nat.Coprime q.natAbs p.natAbs:=by
  show Nat.gcd q.natAbs p.natAbs=1
  rw [Nat.gcd_comm]
  exact c
 exact Int.natAbs_dvd_natAbs.mp (Nat.Coprime.dvd_of_dvd_mul_left c' h1)
theorem zrW {p q p' q':Int} (a:Low p q) (b:Low p' q') (h:p * q'=p' * q):p=p'/\q=q':=by
 have d1:q ∣ q':=by
  have:q ∣ p * q':=⟨p',by rw [h,Int.mul_comm]⟩
  exact zqz this a.cop
 have d2:q' ∣ q:=by
  have:q' ∣ p' * q:=⟨p,by rw [<- h,Int.mul_comm]⟩
  exact zqz this b.cop
 have e:q=q':=Int.dvd_antisymm (Int.le_of_lt a.pos) (Int.le_of_lt b.pos) d1 d2
 refine ⟨?_,e⟩
 subst e
 exact Int.eq_of_mul_eq_mul_right (Int.ne_of_gt a.pos) h
theorem zxV {t b p q:Int} (hb:b ≠ 0) (l:Low p q) (h:p * b=t * q):fr t b=(p,q):=by
 have e:=zxW (t:=t) hb
 have l':=zwF (t:=t) hb
 have:(fr t b).1 * q=p * (fr t b).2:=by
  have h2:(fr t b).1 * q * b=p * (fr t b).2 * b:=by
   calc (fr t b).1 * q * b=(fr t b).1 * b * q:=by rw [Int.mul_assoc,Int.mul_comm q,Int.mul_assoc]
    _=t * (fr t b).2 * q:=by rw [e]
    _=t * q * (fr t b).2:=by rw [Int.mul_assoc,Int.mul_comm (fr t b).2,Int.mul_assoc]
    _=p * b * (fr t b).2:=by rw [h]
    _=p * (fr t b).2 * b:=by rw [Int.mul_assoc,Int.mul_comm b,Int.mul_assoc]
  exact Int.eq_of_mul_eq_mul_right hb h2
 obtain ⟨a1,a2⟩:=zrW l' l this
 exact Prod.ext a1 a2
theorem znu {t b:Int} (h:0 < b):fr t b=(t / (Int.gcd t b:Int),b / (Int.gcd t b:Int)):=by
 unfold fr
 rw [if_neg (by omega)]
theorem zwm {p q:Int} (l:Low p q):fr p q=(p,q):=zxV (Int.ne_of_gt l.pos) l rfl
end Q1
namespace Q1
end Q1
namespace QR
open Q1
theorem low (r:Rat):Low r.num r.den:=⟨by have:=r.den_nz;omega,by
 have:=r.reduced
 unfold Nat.Coprime at this
 show Nat.gcd r.num.natAbs (r.den:Int).natAbs=1
 simpa using this⟩
theorem zy4 (t:Int) (d:Nat):(Int.gcd t (d:Int))=Nat.gcd t.natAbs d:=by
 show Nat.gcd t.natAbs (d:Int).natAbs=_
 simp
theorem norm {t:Int} {d:Nat} (h:d ≠ 0):fr t (d:Int)=((Rat.normalize t d h).num,((Rat.normalize t d h).den:Int)):=by
 rw [znu (by omega),Rat.normalize_eq,zy4]
 simp
theorem add (r s:Rat):fr (r.num * s.den + s.num * r.den) ((r.den:Int) * s.den)=((r + s).num,((r + s).den:Int)):=by
 rw [Rat.add_def,<- norm]
 congr 1
theorem mul (r s:Rat):fr (r.num * s.num) ((r.den:Int) * s.den)=((r * s).num,((r * s).den:Int)):=by
 rw [Rat.mul_def,<- norm]
 congr 1
def Bd (n:Nat) (r:Rat):Prop:=r.num.natAbs < 2 ^ n/\r.den < 2 ^ n
theorem Bd.mono {n m:Nat} {r:Rat} (h:Bd n r) (k:n<=m):Bd m r:=⟨Nat.lt_of_lt_of_le h.1 (Nat.pow_le_pow_right (by decide) k),Nat.lt_of_lt_of_le h.2 (Nat.pow_le_pow_right (by decide) k)⟩
theorem zqn (t b:Int):(fr t b).1.natAbs<=t.natAbs/\(fr t b).2.natAbs<=b.natAbs:=by
 unfold fr
 split
 ·exact ⟨Int.natAbs_ediv_le_natAbs _ _,Int.natAbs_ediv_le_natAbs _ _⟩
 ·exact ⟨Int.natAbs_ediv_le_natAbs _ _,Int.natAbs_ediv_le_natAbs _ _⟩
theorem zfR {a b n m:Nat} (h1:a < 2 ^ n) (h2:b < 2 ^ m):a * b < 2 ^ (n + m):=by
 rw [Nat.pow_add]
 exact Nat.mul_lt_mul'' h1 h2
theorem Bd.add {n m:Nat} {r s:Rat} (h:Bd n r) (k:Bd m s):Bd (n + m + 1) (r + s):=by
 have e:=QR.add r s
 have l:=zqn (r.num * s.den + s.num * r.den) ((r.den:Int) * s.den)
 rw [e] at l
 simp only at l
 have a1:r.num.natAbs * s.den < 2 ^ (n + m):=zfR h.1 k.2
 have a2:s.num.natAbs * r.den < 2 ^ (n + m):=by rw [Nat.mul_comm,Nat.mul_comm];rw [Nat.add_comm];exact zfR k.1 h.2
 have a3:r.den * s.den < 2 ^ (n + m):=zfR h.2 k.2
 have p2:2 ^ (n + m + 1)=2 ^ (n + m) + 2 ^ (n + m):=by rw [Nat.pow_succ];omega
 refine ⟨?_,?_⟩
 ·refine Nat.lt_of_le_of_lt l.1 (Nat.lt_of_le_of_lt (Int.natAbs_add_le _ _) ?_)
  rw [Int.natAbs_mul,Int.natAbs_mul,Int.natAbs_natCast,Int.natAbs_natCast,p2]
  omega
 ·have:=l.2
  rw [Int.natAbs_mul,Int.natAbs_natCast,Int.natAbs_natCast,Int.natAbs_natCast] at this
  rw [p2]
  omega
theorem Bd.mul {n m:Nat} {r s:Rat} (h:Bd n r) (k:Bd m s):Bd (n + m) (r * s):=by
 have e:=QR.mul r s
 have l:=zqn (r.num * s.num) ((r.den:Int) * s.den)
 rw [e] at l
 simp only at l
 refine ⟨?_,?_⟩
 ·refine Nat.lt_of_le_of_lt l.1 ?_
  rw [Int.natAbs_mul]
  exact zfR h.1 k.1
 ·have:=l.2
  rw [Int.natAbs_mul,Int.natAbs_natCast,Int.natAbs_natCast,Int.natAbs_natCast] at this
  exact Nat.lt_of_le_of_lt this (zfR h.2 k.2)
theorem Bd.zero (n:Nat):Bd (n + 1) 0:=by
 refine ⟨?_,?_⟩
 ·show (0:Nat) < 2 ^ (n + 1)
  exact Nat.pos_of_ne_zero (by simp)
 ·show (1:Nat) < 2 ^ (n + 1)
  exact Nat.one_lt_two_pow (by omega)
def dot:List Rat->List Rat->Rat
 | a :: as,b :: bs=>a * b + dot as bs
 | _,_=>0
def part (xs ys:List Rat):Nat->Rat
 | 0=>0
 | i + 1=>part xs ys i + xs.getD i 0 * ys.getD i 0
theorem zkT (a b:Rat) (as bs:List Rat):∀ i,part (a :: as) (b :: bs) (i + 1)=a * b + part as bs i
 | 0=>by simp only [part,List.getD_cons_zero];grind
 | i + 1=>by
  rw [part,zkT a b as bs i]
  show a * b + part as bs i + (a :: as).getD (i + 1) 0 * (b :: bs).getD (i + 1) 0=_
  rw [part]
  simp only [List.getD_cons_succ]
  grind
theorem zm6:∀ (xs ys:List Rat),xs.length=ys.length->part xs ys xs.length=dot xs ys
 | [],[],_=>rfl
 | a :: as,b :: bs,h=>by
  rw [List.length_cons,zkT,zm6 as bs (by simpa using h)]
  rfl
theorem zpv {xs ys:List Rat} {n m:Nat} (hx:∀ r ∈ xs,Bd n r) (hy:∀ r ∈ ys,Bd m r):∀ i,i<=xs.length->i<=ys.length->Bd (i * (n + m + 1) + 1) (part xs ys i)
 | 0,_,_=>by simpa [part] using Bd.zero 0
 | i + 1,h1,h2=>by
  have ih:=zpv hx hy i (by omega) (by omega)
  have e1:xs.getD i 0=xs[i]:=by simp [List.getD,show i < xs.length by omega]
  have e2:ys.getD i 0=ys[i]:=by simp [List.getD,show i < ys.length by omega]
  have b:=(hx xs[i] (List.getElem_mem _)).mul (hy ys[i] (List.getElem_mem _))
  rw [part,e1,e2]
  refine (ih.add b).mono ?_
  rw [Nat.succ_mul]
  omega
theorem zwR {xs ys:List Rat} {n m:Nat} (h:xs.length=ys.length) (hx:∀ r ∈ xs,Bd n r) (hy:∀ r ∈ ys,Bd m r):Bd (xs.length * (n + m + 1) + 1) (dot xs ys):=by
 rw [<- zm6 xs ys h]
 exact zpv hx hy _ (Nat.le_refl _) (by omega)
end QR
namespace KC
open PySem L2 PySem.Spec PyProof.Rows
structure Blt (mg:Str->Option Value):Prop where
 zn9:mg "abs"=none
 zaD:mg "isinstance"=none
 zpF:mg "int"=none
 zk2:mg "bool"=none
 zhQ:mg "tuple"=none
 zdq:mg "len"=none
 zrS:mg "all"=none
 ze8:mg "list"=none
 zd6:mg "range"=none
 zn8:mg "zip"=none
 zbC:mg "enumerate"=none
namespace Bt
theorem isinstance:bootBuiltins "isinstance"=some (.builtin "isinstance"):=by decide +kernel
end Bt
def isInt:PyData->Bool
 | .int _ | .bool _=>true | _=>false
def zfk (T c:String):Option Bool:=if (Value.type T == Value.type c)=true then some true else if PySem.W.kitMeta c=true then (fastBuiltinMro T).map (·.contains (.type c)) else none
end KC
namespace KC
open PySem L2 PySem.Spec PyProof.Rows
end KC
namespace KC
open PySem L2 PySem.Spec PyProof.Rows
end KC
namespace FL
theorem zz0 {α:Type} {a:α} {l:List α}:(a::l)[0]?=some a:=rfl
theorem zz1 {α:Type} {a:α} {l:List α} {i:Nat}:(a::l)[i + 1]?=l[i]?:=rfl
open PySem
abbrev D:=PyData
inductive R (α:Type) where
 | bad
 | err (c:String) (fs:List D)
 | ok (a:α)
def R.bind {α β:Type} (r:R α) (k:α->R β):R β:=match r with
 | .bad=>.bad
 | .err c f=>.err c f
 | .ok a=>k a
theorem zad {α β:Type} (a:α) (k:α->R β):(R.ok a).bind k=k a:=rfl
theorem zf0 {α β:Type} (k:α->R β):(R.bad:R α).bind k=.bad:=rfl
theorem zfZ {α β:Type} (c:String) (f:List D) (k:α->R β):(R.err c f:R α).bind k=.err c f:=rfl
def chk {α:Type} (c:Bool) (r:R α):R α:=if c=true then r else .bad
theorem zay {α:Type} {c:Bool} {r:R α} (h:c=true):chk c r=r:=if_pos h
inductive Sl where
 | no
 | val (d:D)
 | ow (p:Bool) (d:D)
abbrev En:=List Sl
inductive Fl where
 | nx | bk | ct
 | rt (d:D)
 | rf (d:D)
abbrev EF:=En->R (D × En)
abbrev TF:=En->R (Bool × En)
abbrev AF:=En->R (List D × En)
abbrev SF:=En->R (Fl × En)
abbrev GF:=D->En->R En
def tyOf:D->String
 | .none=>"NoneType" | .bool _=>"bool" | .int _=>"int" | .str _=>"str" | .list _=>"list" | .tuple _=>"tuple" | .dict _=>"dict"
def isI (T:String) (d:D):Bool:=match d with
 | .bool _=>T == "bool" || T == "int"
 | d=>tyOf d == T
def lim:Nat:=1000000
def intsOf:List D->Option (List Int)
 | []=>some []
 | .int i :: r=>(intsOf r).map (i :: ·)
 | _ :: _=>none
def boolsOf:List D->Option (List Bool)
 | []=>some []
 | .bool i :: r=>(boolsOf r).map (i :: ·)
 | _ :: _=>none
def R.of {α:Type}:Option α->R α
 | none=>.bad
 | some a=>.ok a
def leB (a b:Nat):Bool:=Nat.ble a b
theorem leB_iff {a b:Nat}:leB a b=true ↔ a<=b:=Iff.of_eq Nat.ble_eq
theorem zdk {a b:Nat} (h:a<=b):leB a b=true:=leB_iff.mpr h
theorem zhV {a b:Nat} (h:leB a b=true):a<=b:=leB_iff.mp h
def zpG (i j:Int):Bool:=leB (i.natAbs.log2 + j.natAbs.log2 + 2) 134217728
def zaY:D->D->R D
 | .int i,.int j=>.ok (.int (i + j))
 | .list a,.list b=>chk (leB (a.length + b.length) lim) (.ok (.list (a ++ b)))
 | .tuple a,.tuple b=>chk (leB (a.length + b.length) lim) (.ok (.tuple (a ++ b)))
 | _,_=>.bad
def ze4:D->D->R D
 | .int i,.int j=>.ok (.int (i - j))
 | _,_=>.bad
def zcd:D->D->R D
 | .int i,.int j=>chk (zpG i j) (.ok (.int (i * j)))
 | .tuple a,.int k=>chk (!a.isEmpty && leB 2 k.toNat && leB k.toNat 1000000 && leB (a.length * k.toNat) lim) (.ok (.tuple (List.replicate k.toNat a).flatten))
 | _,_=>.bad
def zbM:D->D->R D
 | .int i,.int j=>chk (decide (j ≠ 0)) (.ok (.int (i.fdiv j)))
 | _,_=>.bad
def zj1:D->D->R D
 | .int i,.int j=>chk (decide (j ≠ 0)) (.ok (.int (i.fmod j)))
 | _,_=>.bad
def zjg:D->D->R D
 | .int i,.int j=>chk (decide (0<=j) && leB j.toNat 1000000 && leB i.natAbs 18446744073709551615) (.ok (.int (i ^ j.toNat)))
 | _,_=>.bad
def zkY:D->R D
 | .int i=>.ok (.int (-i))
 | _=>.bad
def eqD (a b:D):R D:=chk (SeqAt.shaped a && SeqAt.shaped b) (.ok (.bool (PyData.eqv a b)))
def neD (a b:D):R D:=chk (SeqAt.shaped a && SeqAt.shaped b) (.ok (.bool (!PyData.eqv a b)))
def lexLt:List Int->List Int->Bool
 | [],[]=>false
 | [],_ :: _=>true
 | _ :: _,[]=>false
 | x :: xs,y :: ys=>if x=y then lexLt xs ys else decide (x < y)
def lexLe:List Int->List Int->Bool
 | [],[]=>true
 | [],_ :: _=>true
 | _ :: _,[]=>false
 | x :: xs,y :: ys=>if x=y then lexLe xs ys else decide (x<=y)
def zgh:List Int->List Int->Bool
 | [],[]=>false
 | [],_ :: _=>false
 | _ :: _,[]=>true
 | x :: xs,y :: ys=>if x=y then zgh xs ys else decide (y < x)
def zgi:List Int->List Int->Bool
 | [],[]=>true
 | [],_ :: _=>false
 | _ :: _,[]=>true
 | x :: xs,y :: ys=>if x=y then zgi xs ys else decide (y<=x)
def zwT (p:Int->Int->Bool) (q:List Int->List Int->Bool):D->D->R D
 | .int i,.int j=>.ok (.bool (p i j))
 | .tuple a,.tuple b=>(R.of (intsOf a)).bind fun x=>(R.of (intsOf b)).bind fun y=>.ok (.bool (q x y))
 | _,_=>.bad
def ltD:D->D->R D:=zwT (fun i j=>decide (i < j)) lexLt
def leD:D->D->R D:=zwT (fun i j=>decide (i<=j)) lexLe
def gtD:D->D->R D:=zwT (fun i j=>decide (j < i)) zgh
def geD:D->D->R D:=zwT (fun i j=>decide (j<=i)) zgi
def zzd:D->R D
 | .none=>.ok (.bool true)
 | _=>.ok (.bool false)
def zxI:D->R D
 | .none=>.ok (.bool false)
 | _=>.ok (.bool true)
def zwc (a b:D):R D:=match b with
 | .none=>zxI a
 | _=>.bad
def ixN (n:Nat) (i:Int):Option Nat:=if 0<=i then (if i < n then some i.toNat else none) else if -(n:Int)<=i then some (i + n).toNat else none
def atI {α:Type} (xs:List α) (i:Int):Option α:=(ixN xs.length i).bind fun j=>xs[j]?
def ixD:D->D->R D
 | .list a,.int i=>R.of (atI a i)
 | .tuple a,.int i=>R.of (atI a i)
 | _,_=>.bad
def sIx (n d:Nat):Option Int->Nat
 | none=>d
 | some v=>if v < 0 then (v + (n:Int)).toNat else min v.toNat n
def cut {α:Type} (xs:List α) (lo hi:Option Int):List α:=(xs.drop (sIx xs.length 0 lo)).take (sIx xs.length xs.length hi - sIx xs.length 0 lo)
def zfE (d:D) (lo hi:Option Int):R D:=match d with
 | .list a=>.ok (.list (cut a lo hi))
 | .tuple a=>.ok (.tuple (cut a lo hi))
 | _=>.bad
def zhG:D->R Bool
 | .none=>.ok false
 | .bool b=>.ok b
 | .int i=>.ok (i != 0)
 | .list a=>.ok (!a.isEmpty)
 | .tuple a=>.ok (!a.isEmpty)
 | _=>.bad
def zbD:D->R D
 | .list a=>.ok (.int a.length)
 | .tuple a=>.ok (.int a.length)
 | _=>.bad
def zqR:D->R D
 | .int i=>.ok (.int (if i < 0 then -i else i))
 | _=>.bad
def zwZ:D->R D
 | .list a=>(R.of (boolsOf a)).bind fun x=>.ok (.bool (x.all id))
 | _=>.bad
def zfS:D->R D
 | .list a=>.ok (.list a)
 | .tuple a=>.ok (.list a)
 | _=>.bad
def zkH:D->R D
 | .list a=>.ok (.tuple a)
 | .tuple a=>.ok (.tuple a)
 | _=>.bad
def zyb (d:D):Bool:=match d with
 | .dict _=>false
 | _=>true
def zb7 (T:String) (d:D):R D:=chk (zyb d) (.ok (.bool (isI T d)))
def one (g:D->R D):List D->R D
 | [d]=>g d
 | _=>.bad
def two (g:D->D->R D):List D->R D
 | [d,e]=>g d e
 | _=>.bad
def zfV:D->R (List D)
 | .list a=>.ok a
 | .tuple a=>.ok a
 | _=>.bad
def rng (lo hi:Int):List D:=(List.range (hi - lo).toNat).map fun (i:Nat)=>.int (lo + (i:Int))
def zn0 (i:Int):Bool:=leB i.natAbs 1000000000
def zl5:List D->R (List D)
 | [.int j]=>chk (zn0 j && leB j.toNat lim) (.ok (rng 0 j))
 | _=>.bad
def ztE:List D->R (List D)
 | [.int i,.int j]=>chk (zn0 i && zn0 j && leB (j - i).toNat lim) (.ok (rng i j))
 | _=>.bad
def eC (d:D):EF:=fun ρ=>.ok (d,ρ)
def eV (i:Nat):EF:=fun ρ=>match ρ[i]? with
 | some (.val d)=>.ok (d,ρ)
 | _=>.bad
def e1 (g:D->R D) (f:EF):EF:=fun ρ=>(f ρ).bind fun x=>(g x.1).bind fun d=>.ok (d,x.2)
def e2 (g:D->D->R D) (f h:EF):EF:=fun ρ=>(f ρ).bind fun x=>(h x.2).bind fun y=>(g x.1 y.1).bind fun d=>.ok (d,y.2)
def ziY (f h:EF):EF:=fun ρ=>(f ρ).bind fun x=>match x.1 with
 | .bool true=>h x.2
 | .bool false=>.ok (.bool false,x.2)
 | _=>.bad
def eOr (f h:EF):EF:=fun ρ=>(f ρ).bind fun x=>match x.1 with
 | .bool true=>.ok (.bool true,x.2)
 | .bool false=>h x.2
 | _=>.bad
def zq6 (f:EF):EF:=fun ρ=>(f ρ).bind fun x=>match x.1 with
 | .bool b=>.ok (.bool (!b),x.2)
 | _=>.bad
def eIf (t:TF) (f h:EF):EF:=fun ρ=>(t ρ).bind fun c=>if c.1=true then f c.2 else h c.2
def zll (g h:D->D->R D) (f1 f2 f3:EF):EF:=fun ρ=>(f1 ρ).bind fun x=>(f2 x.2).bind fun y=>(g x.1 y.1).bind fun c=>match c with
 | .bool true=>(f3 y.2).bind fun z=>(h y.1 z.1).bind fun d=>.ok (d,z.2)
 | .bool false=>.ok (.bool false,y.2)
 | _=>.bad
def zah:AF:=fun ρ=>.ok ([],ρ)
def zab (f:EF) (a:AF):AF:=fun ρ=>(f ρ).bind fun x=>(a x.2).bind fun y=>.ok (x.1 :: y.1,y.2)
def zem (a:AF):EF:=fun ρ=>(a ρ).bind fun x=>chk (leB x.1.length lim) (.ok (.tuple x.1,x.2))
def zbF (a:AF):EF:=fun ρ=>(a ρ).bind fun x=>chk (leB x.1.length lim) (.ok (.list x.1,x.2))
def zae (G:List D->R D) (a:AF):EF:=fun ρ=>(a ρ).bind fun x=>(G x.1).bind fun d=>.ok (d,x.2)
abbrev OF:=En->R (Option Int × En)
def zjY:OF:=fun ρ=>.ok (none,ρ)
def zjX (f:EF):OF:=fun ρ=>(f ρ).bind fun x=>match x.1 with
 | .int i=>.ok (some i,x.2)
 | _=>.bad
def eSl (f:EF) (lo hi:OF):EF:=fun ρ=>(f ρ).bind fun x=>(lo x.2).bind fun l=>(hi l.2).bind fun u=>(zfE x.1 l.1 u.1).bind fun d=>.ok (d,u.2)
def zaE (ρ:En) (i:Nat):R D:=match ρ[i]? with
 | some (.ow _ d)=>.ok d
 | _=>.bad
def zdj (ρ:En) (i:Nat):R (List D):=match ρ[i]? with
 | some (.ow _ (.list a))=>.ok a
 | _=>.bad
def m1 (g:D->R D) (i:Nat):EF:=fun ρ=>(zaE ρ i).bind fun c=>(g c).bind fun d=>.ok (d,ρ)
def m2 (g:D->D->R D) (i:Nat) (h:EF):EF:=fun ρ=>(zaE ρ i).bind fun _=>(h ρ).bind fun y=>(zaE y.2 i).bind fun c=>(g c y.1).bind fun d=>.ok (d,y.2)
def m2r (g:D->D->R D) (f:EF) (i:Nat):EF:=fun ρ=>(f ρ).bind fun x=>(zaE x.2 i).bind fun c=>(g x.1 c).bind fun d=>.ok (d,x.2)
def m2m (g:D->D->R D) (i j:Nat):EF:=fun ρ=>(zaE ρ i).bind fun c=>(zaE ρ j).bind fun e=>(g c e).bind fun d=>.ok (d,ρ)
def mSl (i:Nat) (lo hi:OF):EF:=fun ρ=>(zaE ρ i).bind fun _=>(lo ρ).bind fun l=>(hi l.2).bind fun u=>(zaE u.2 i).bind fun c=>(zfE c l.1 u.1).bind fun d=>.ok (d,u.2)
def zpJ (g:D->D->R D) (i:Nat) (h:EF):EF:=fun ρ=>(zaE ρ i).bind fun _=>(h ρ).bind fun y=>(zaE y.2 i).bind fun c=>(g (.list [c]) y.1).bind fun d=>.ok (d,y.2)
inductive Ar where
 | v (f:EF)
 | m (i:Nat)
 | t (f:EF)
inductive Itm where
 | vd (d:D)
 | mi (i:Nat)
 | td (d:D)
def zkq:List Ar->En->R (List Itm × En)
 | [],ρ=>.ok ([],ρ)
 | .v f :: r,ρ=>(f ρ).bind fun x=>(zkq r x.2).bind fun y=>.ok (.vd x.1 :: y.1,y.2)
 | .m i :: r,ρ=>(zaE ρ i).bind fun _=>(zkq r ρ).bind fun y=>.ok (.mi i :: y.1,y.2)
 | .t f :: r,ρ=>(f ρ).bind fun x=>(zkq r x.2).bind fun y=>.ok (.td x.1 :: y.1,y.2)
def ziK (ρ:En):List Itm->R (List D)
 | []=>.ok []
 | .vd d :: r=>(ziK ρ r).bind fun ds=>.ok (d :: ds)
 | .mi i :: r=>(zaE ρ i).bind fun d=>(ziK ρ r).bind fun ds=>.ok (d :: ds)
 | .td d :: r=>(ziK ρ r).bind fun ds=>.ok (d :: ds)
def zbo (ρ:En) (i:Nat) (d:D):En:=match ρ[i]? with
 | some (.ow p _)=>ρ.set i (.ow p d)
 | _=>ρ
def zg9:List Itm->List D->List (Nat × Sl)
 | .mi i :: r,d :: ds=>(i,.ow true d) :: zg9 r ds
 | .vd _ :: r,_ :: ds=>zg9 r ds
 | .td _ :: r,_ :: ds=>zg9 r ds
 | _,_=>[]
def bk1 (m:List (Nat × Sl)) (i:Nat) (x:Sl):Sl:=match x,m.lookup i with
 | .ow p _,some (.ow _ d)=>.ow p d
 | x,_=>x
def bkL (m:List (Nat × Sl)):Nat->En->En
 | _,[]=>[]
 | n,x :: r=>bk1 m n x :: bkL m (n + 1) r
def zgA (ρ:En) (a:List Itm) (os:List D):En:=bkL (zg9 a os) 0 ρ
def zal (F:List D->R (D × List D)) (a:List Ar):EF:=fun ρ=>(zkq a ρ).bind fun x=>(ziK x.2 x.1).bind fun ds=>(F ds).bind fun y=>.ok (y.1,zgA x.2 x.1 y.2)
def tE (f:EF):TF:=fun ρ=>(f ρ).bind fun x=>(zhG x.1).bind fun b=>.ok (b,x.2)
def tB (f:EF):TF:=fun ρ=>(f ρ).bind fun x=>match x.1 with
 | .bool b=>.ok (b,x.2)
 | _=>.bad
def zfi (t u:TF):TF:=fun ρ=>(t ρ).bind fun c=>if c.1=true then u c.2 else .ok (false,c.2)
def tOr (t u:TF):TF:=fun ρ=>(t ρ).bind fun c=>if c.1=true then .ok (true,c.2) else u c.2
def zcx (t:TF):TF:=fun ρ=>(t ρ).bind fun c=>.ok (!c.1,c.2)
def tM (i:Nat):TF:=fun ρ=>(zaE ρ i).bind fun c=>(zhG c).bind fun b=>.ok (b,ρ)
def za5:TF:=fun ρ=>.ok (true,ρ)
abbrev IF:=En->R (List D × En)
def iE (f:EF):IF:=fun ρ=>(f ρ).bind fun x=>(zfV x.1).bind fun l=>.ok (l,x.2)
def iR1 (a:AF):IF:=fun ρ=>(a ρ).bind fun x=>(zl5 x.1).bind fun l=>.ok (l,x.2)
def iR2 (a:AF):IF:=fun ρ=>(a ρ).bind fun x=>(ztE x.1).bind fun l=>.ok (l,x.2)
def zeV:Nat->List D->List D
 | _,[]=>[]
 | n,d :: r=>.tuple [.int n,d] :: zeV (n + 1) r
def zkD:List D->List D->List D
 | a :: r,b :: s=>.tuple [a,b] :: zkD r s
 | _,_=>[]
def gN (i:Nat):GF:=fun d ρ=>match ρ[i]? with
 | some (.ow true _)=>.bad
 | some _=>.ok (ρ.set i (.val d))
 | none=>.bad
def zoG:List GF->List D->En->R En
 | [],[],ρ=>.ok ρ
 | g :: r,d :: ds,ρ=>(g d ρ).bind fun ρ1=>zoG r ds ρ1
 | _,_,_=>.bad
def gT (gs:List GF):GF:=fun d ρ=>match d with
 | .tuple ds=>zoG gs ds ρ
 | _=>.bad
def blk (k:Nat) (ix:List Nat) (ρ:En):En:=List.replicate k .no ++ ix.map fun i=>(ρ[i]?).getD .no
def back (ρ:En) (ix:List Nat) (cs:En):En:=bkL (ix.zip cs) 0 ρ
def ziZ (k:Nat) (ix:List Nat) (g:GF) (t:TF) (f:EF):List D->En->List D->R (List D × En)
 | [],ρ,acc=>.ok (acc,ρ)
 | x :: xs,ρ,acc=>(g x (blk k ix ρ)).bind fun β=>(t β).bind fun c =>
   if c.1=true then (f c.2).bind fun y=>chk (leB (acc.length + 1) lim) (ziZ k ix g t f xs (back ρ ix (y.2.drop k)) (acc ++ [y.1]))
   else ziZ k ix g t f xs (back ρ ix (c.2.drop k)) acc
def zaW (k:Nat) (ix:List Nat) (it:IF) (g:GF) (t:TF) (f:EF):EF:=fun ρ=>(it ρ).bind fun x=>(ziZ k ix g t f x.1 x.2 []).bind fun y=>.ok (.list y.1,y.2)
def sNx:SF:=fun ρ=>.ok (.nx,ρ)
def zaq (s t:SF):SF:=fun ρ=>(s ρ).bind fun x=>match x.1 with
 | .nx=>t x.2
 | _=>.ok x
def sE (f:EF):SF:=fun ρ=>(f ρ).bind fun x=>.ok (.nx,x.2)
def zaC (g:GF) (f:EF):SF:=fun ρ=>(f ρ).bind fun x=>(g x.1 x.2).bind fun ρ1=>.ok (.nx,ρ1)
def zdd (i:Nat) (f:EF):SF:=fun ρ=>(f ρ).bind fun x=>match x.2[i]? with
 | some (.ow true _)=>.bad
 | some _=>.ok (.nx,x.2.set i (.ow false x.1))
 | none=>.bad
def zcy (i:Nat) (s:SF):SF:=fun ρ=>(s ρ).bind fun x=>match x.1 with
 | .nx=>(match x.2[i]? with
  | some (.ow false d)=>.ok (.nx,x.2.set i (.val d))
  | _=>.bad)
 | _=>.ok x
def zjO (i j:Nat) (f h:EF):SF:=fun ρ=>(f ρ).bind fun x=>(h x.2).bind fun y=>(gN i x.1 y.2).bind fun ρ1=>(gN j y.1 ρ1).bind fun ρ2=>.ok (.nx,ρ2)
def zsj (f n:EF):EF:=fun ρ=>(f ρ).bind fun x=>(n x.2).bind fun y=>match y.1 with
 | .int k=>chk (decide (0<=k) && leB k.toNat 1000000) (.ok (.list (List.replicate k.toNat x.1),y.2))
 | _=>.bad
def znY (i:Nat) (s:SF):SF:=fun ρ=>match ρ[i]? with
 | some (.ow false d)=>s (ρ.set i (.val d))
 | _=>.bad
def zaw (f:EF):SF:=fun ρ=>(f ρ).bind fun x=>.ok (.rt x.1,x.2)
def zbq (f:EF):SF:=fun ρ=>(f ρ).bind fun x=>.ok (.rf x.1,x.2)
def zg4 (i:Nat):SF:=fun ρ=>match ρ[i]? with
 | some (.ow false d)=>.ok (.rf d,ρ)
 | _=>.bad
def zo9:SF:=fun ρ=>.ok (.rt .none,ρ)
def sIf (t:TF) (a b:SF):SF:=fun ρ=>(t ρ).bind fun c=>if c.1=true then a c.2 else b c.2
def znZ:SF:=fun _=>.bad
def zq3:SF:=fun ρ=>.ok (.bk,ρ)
def zvr:SF:=fun ρ=>.ok (.ct,ρ)
def forL (g:GF) (b:SF):List D->En->R (Fl × En)
 | [],ρ=>.ok (.nx,ρ)
 | x :: xs,ρ=>(g x ρ).bind fun ρ1=>(b ρ1).bind fun y=>match y.1 with
  | .nx | .ct=>forL g b xs y.2
  | .bk=>.ok (.nx,y.2)
  | .rt d=>.ok (.rt d,y.2)
  | .rf d=>.ok (.rf d,y.2)
def zcP (it:IF) (g:GF) (b:SF):SF:=fun ρ=>(it ρ).bind fun x=>forL g b x.1 x.2
def zht (t:TF) (b:SF):Nat->En->R (Fl × En)
 | 0,_=>.bad
 | n + 1,ρ=>(t ρ).bind fun c=>if c.1=true then (b c.2).bind fun y=>match y.1 with
   | .nx | .ct=>zht t b n y.2
   | .bk=>.ok (.nx,y.2)
   | .rt d=>.ok (.rt d,y.2)
   | .rf d=>.ok (.rf d,y.2)
  else .ok (.nx,c.2)
def zhI (fuel:En->Nat) (t:TF) (b:SF):SF:=fun ρ=>zht t b (fuel ρ) ρ
def zre (i:Nat) (u:List D->D->R (List D)) (f:EF):SF:=fun ρ=>(zdj ρ i).bind fun _=>(f ρ).bind fun x=>(zdj x.2 i).bind fun c=>(u c x.1).bind fun c'=>.ok (.nx,zbo x.2 i (.list c'))
def zoH (a:List D) (d:D):R (List D):=chk (leB (a.length + 1) lim) (.ok (a ++ [d]))
def zoQ (i:Nat) (u:List D->R (List D)):SF:=fun ρ=>(zdj ρ i).bind fun c=>(u c).bind fun c'=>.ok (.nx,zbo ρ i (.list c'))
def setM (i:Nat) (f k:EF):SF:=fun ρ=>(f ρ).bind fun x=>(zdj x.2 i).bind fun _=>(k x.2).bind fun y=>(zdj y.2 i).bind fun c=>match y.1 with
 | .int j=>(R.of (ixN c.length j)).bind fun n=>.ok (.nx,zbo y.2 i (.list (c.set n x.1)))
 | _=>.bad
def slots:List Bool->List D->En
 | m :: ms,d :: ds=>(if m=true then .ow true d else .val d) :: slots ms ds
 | _,_=>[]
def outD (m:Bool) (d:D) (x:Option Sl):D:=match m,x with
 | true,some (.ow _ d')=>d'
 | _,_=>d
def outs:List Bool->List D->En->List D
 | m :: ms,d :: ds,ρ=>outD m d ρ.head? :: outs ms ds ρ.tail
 | _,_,_=>[]
def run (ms:List Bool) (fr:Bool) (n:Nat) (b:SF) (ds:List D):R (D × List D) :=
 if ds.length=ms.length then (b (slots ms ds ++ List.replicate (n - ds.length) .no)).bind fun x=>match x.1,fr with
  | .rt d,false=>.ok (d,outs ms ds x.2)
  | .rf d,true=>.ok (d,outs ms ds x.2)
  | .nx,false=>.ok (.none,outs ms ds x.2)
  | _,_=>.bad
 else .bad
def zaU (fr:Bool) (k n:Nat) (b:SF) (ds:List D):R D:=(run (List.replicate k false) fr n b ds).bind fun x=>.ok x.1
end FL
namespace FL
open PySem
end FL
namespace FL
open PySem
abbrev K1:=Int ⊕ Str
abbrev KQ:=List K1 ⊕ K1
def kOf:D->Option K1
 | .int i=>some (.inl i)
 | .str x=>some (.inr x)
 | _=>none
def zus:List D->Option (List K1)
 | []=>some []
 | d :: r=>(kOf d).bind fun k=>(zus r).map fun ks=>k :: ks
def keyOf:D->Option KQ
 | .tuple xs=>(zus xs).map .inl
 | .int i=>some (.inr (.inl i))
 | .str x=>some (.inr (.inr x))
 | _=>none
def form:KQ->Bool
 | .inl _=>true
 | .inr _=>false
def keysOk (f:Bool) (kvs:List (D × D)):Bool:=kvs.all fun kv=>match keyOf kv.1 with
 | some q=>form q == f
 | none=>false
def look (kvs:List (D × D)) (q:KQ):Option D:=(kvs.find? fun kv=>decide (keyOf kv.1=some q)).map (·.2)
def zsU (kvs:List (D × D)) (k:D) (q:KQ) (v:D):List (D × D) :=
 if (kvs.any fun kv=>decide (keyOf kv.1=some q))=true then kvs.map fun kv=>if keyOf kv.1=some q then (kv.1,v) else kv else kvs ++ [(k,v)]
def zxY (kvs:List (D × D)) (q:KQ):List (D × D):=kvs.filter fun kv=>decide (keyOf kv.1 ≠ some q)
def dictAt (d k:D):R (List (D × D) × KQ):=match d with
 | .dict kvs=>(R.of (keyOf k)).bind fun q=>chk (keysOk (form q) kvs) (.ok (kvs,q))
 | _=>.bad
def zgO (d k:D):R (Option D):=(dictAt d k).bind fun x=>.ok (look x.1 x.2)
def zxS (d k x:D):R D:=(zgO d k).bind fun o=>.ok (o.getD x)
def zu7 (k d:D):R D:=(zgO d k).bind fun o=>.ok (.bool (!o.isSome))
def zjq (d k:D):R D:=(zgO d k).bind fun o=>R.of o
def zow (d k v:D):R D:=(dictAt d k).bind fun x=>chk (leB (x.1.length + 1) lim) (.ok (.dict (zsU x.1 k x.2 v)))
def zx0 (d k:D):R D:=(dictAt d k).bind fun x=>chk (look x.1 x.2).isSome (.ok (.dict (zxY x.1 x.2)))
def zk6:D->R (List D)
 | .dict kvs=>.ok (kvs.map (·.1))
 | _=>.bad
def zpK (i:Nat) (k x:EF):EF:=fun ρ=>(zaE ρ i).bind fun c0=>(zk6 c0).bind fun _=>(k ρ).bind fun a=>(x a.2).bind fun b=>(zaE b.2 i).bind fun c=>(zxS c a.1 b.1).bind fun d=>.ok (d,b.2)
def e3 (g:D->D->D->R D) (d k x:EF):EF:=fun ρ=>(d ρ).bind fun c=>(k c.2).bind fun a=>(x a.2).bind fun b=>(g c.1 a.1 b.1).bind fun r=>.ok (r,b.2)
def zlo (i:Nat) (k f:EF):SF:=fun ρ=>(f ρ).bind fun v=>(zaE v.2 i).bind fun _=>(k v.2).bind fun a=>(zaE a.2 i).bind fun c=>(zow c a.1 v.1).bind fun d=>.ok (.nx,zbo a.2 i d)
def zqC (i:Nat) (k:EF):SF:=fun ρ=>(zaE ρ i).bind fun _=>(k ρ).bind fun a=>(zaE a.2 i).bind fun c=>(zx0 c a.1).bind fun d=>.ok (.nx,zbo a.2 i d)
def iD (f:EF):IF:=fun ρ=>(f ρ).bind fun x=>(zk6 x.1).bind fun l=>.ok (l,x.2)
def zlk (k v:EF):EF:=fun ρ=>(k ρ).bind fun x=>(v x.2).bind fun y=>(zow (.dict []) x.1 y.1).bind fun d=>.ok (d,y.2)
def zfX:EF:=fun ρ=>.ok (.dict [],ρ)
end FL
namespace FL
open PySem
def zdY (i:Nat) (ρ:En):Nat:=match ρ[i]? with
 | some (.val (.int n))=>n.natAbs + 1
 | _=>0
abbrev WK:=Int × List Int
def ltW (p q:WK):Bool:=if p.1=q.1 then lexLt p.2 q.2 else decide (p.1 < q.1)
def insI (x:Int):List Int->List Int
 | []=>[x]
 | y :: r=>if y < x then y :: insI x r else x :: y :: r
def zjm:List Int->List Int
 | []=>[]
 | x :: r=>insI x (zjm r)
def zpa:D->R D
 | .list a=>.ok (.list a.reverse)
 | _=>.bad
theorem insI_perm (x:Int):∀ l,(insI x l).Perm (x :: l)
 | []=>.refl _
 | y :: r=>by
  unfold insI
  split
  ·exact ((insI_perm x r).cons y).trans (.swap x y r)
  ·exact .refl _
theorem zfl:∀ l:List Int,(zjm l).Perm l
 | []=>.refl _
 | x :: r=>(insI_perm x _).trans ((zfl r).cons x)
theorem zh3 (x:Int):∀ l:List Int,l.Pairwise (·<=·)->(insI x l).Pairwise (·<=·)
 | [],_=>by simp [insI]
 | y :: r,h=>by
  unfold insI
  rw [List.pairwise_cons] at h
  split
  ·rw [List.pairwise_cons]
   refine ⟨fun z hz=>?_,zh3 x r h.2⟩
   have:=(insI_perm x r).mem_iff.mp hz
   rcases List.mem_cons.mp this with rfl | hz
   ·omega
   ·exact h.1 z hz
  ·rw [List.pairwise_cons]
   refine ⟨fun z hz=>?_,List.pairwise_cons.mpr h⟩
   rcases List.mem_cons.mp hz with rfl | hz
   ·omega
   ·have:=h.1 z hz;omega
theorem zdt:∀ l:List Int,(zjm l).Pairwise (·<=·)
 | []=>.nil
 | x :: r=>zh3 x _ (zdt r)
end FL
namespace FL
open PySem L2 PySem.Spec
open PyProof.Rows hiding St
class Cs where
 C:Hp
 st:∀ a u,C a=some u->∃ o xs,u=.frz o (.tup xs)
def FzL (K:PySem.W.Frag) (H:Hp) (a:Addr) (xs:List V):Prop:=(∃ o,H a=some (.frz o (.lst xs))) \/
 ∃ (o:Obj) (its:Array Value) (n:Nat),K.lookup a=some o/\o.cls=.type "list"/\o.dict=none/\o.data=.seq its n/\its.size<=sizeLine/\Vals xs its.toList
def kD:Key->PyData
 | .inl i=>.int i
 | .inr x=>.str x
def zq5 (k:List Key):PyData:=.tuple (k.map kD)
mutual
def Fz (K:PySem.W.Frag) (H:Hp):PyData->V->Prop
 | .none,v=>v=.non
 | .bool b,v=>v=.bl b
 | .int i,v=>v=.int i
 | .str x,v=>v=.str x
 | .list xs,v=>∃ a vs,v=.ref a/\FzL K H a vs/\zaj K H xs vs
 | .tuple xs,v=>∃ a vs,v=.ref a/\TAt H a vs/\zaj K H xs vs
 | .dict kvs,v=>∃ a o,v=.ref a/\((∃ kk,H a=some (.frz o (.dT kk))/\zcu K H kvs kk)\/∃ kk,H a=some (.frz o (.dK kk))/\zcv K H kvs kk)
def zaj (K:PySem.W.Frag) (H:Hp):List PyData->List V->Prop
 | [],vs=>vs=[]
 | d :: ds,vs=>∃ v r,vs=v :: r/\Fz K H d v/\zaj K H ds r
def zcu (K:PySem.W.Frag) (H:Hp):List (PyData × PyData)->List (List Key × V)->Prop
 | [],kk=>kk=[]
 | (k,d) :: r,kk=>∃ q v t,kk=(q,v) :: t/\k=zq5 q/\Fz K H d v/\zcu K H r t
def zcv (K:PySem.W.Frag) (H:Hp):List (PyData × PyData)->List (Key × V)->Prop
 | [],kk=>kk=[]
 | (k,d) :: r,kk=>∃ q v t,kk=(q,v) :: t/\k=kD q/\Fz K H d v/\zcv K H r t
end
def zw0:HO->Prop
 | .tup _=>True
 | .frz _ _=>True
 | _=>False
def Fzn (H H':Hp):Prop:=∀ a o,H a=some o->zw0 o->H' a=some o
theorem Fzn.refl (H:Hp):Fzn H H:=fun _ _ h _=>h
theorem Fzn.trans {H H1 H2:Hp} (a:Fzn H H1) (b:Fzn H1 H2):Fzn H H2:=fun c o h s=>b c o (a c o h s) s
theorem Fzn.of {H H':Hp} (s:zbs H H'):Fzn H H':=fun a o h _=>s a o h
section
variable {K:PySem.W.Frag} {H H':Hp}
theorem Fzn.zw5 {a:Addr} {xs:List V} (e:Fzn H H') (h:TAt H a xs):TAt H' a xs:=by
 rcases h with h | ⟨o,h⟩
 ·exact .inl (e _ _ h trivial)
 ·exact .inr ⟨o,e _ _ h trivial⟩
theorem Fzn.znX {a:Addr} {xs:List V} (e:Fzn H H') (h:FzL K H a xs):FzL K H' a xs:=by
 rcases h with ⟨o,h⟩ | h
 ·exact .inl ⟨o,e _ _ h trivial⟩
 ·exact .inr h
theorem FzL.sq {a:Addr} {xs:List V} (h:FzL K H a xs):SqL K H a xs:=by
 rcases h with ⟨o,h⟩ | h
 ·exact .inl (.inr ⟨o,h⟩)
 ·exact .inr h
mutual
theorem Fz.mono (e:Fzn H H'):∀ (d:PyData) (v:V),Fz K H d v->Fz K H' d v
 | .none,v,h=>by simp only [Fz] at h ⊢;exact h
 | .bool b,v,h=>by simp only [Fz] at h ⊢;exact h
 | .int i,v,h=>by simp only [Fz] at h ⊢;exact h
 | .str x,v,h=>by simp only [Fz] at h ⊢;exact h
 | .list xs,v,h=>by
  simp only [Fz] at h ⊢
  obtain ⟨a,vs,e1,h1,h2⟩:=h
  exact ⟨a,vs,e1,e.znX h1,zaj.mono e xs vs h2⟩
 | .tuple xs,v,h=>by
  simp only [Fz] at h ⊢
  obtain ⟨a,vs,e1,h1,h2⟩:=h
  exact ⟨a,vs,e1,e.zw5 h1,zaj.mono e xs vs h2⟩
 | .dict kvs,v,h=>by
  simp only [Fz] at h ⊢
  obtain ⟨a,o,e1,h⟩:=h
  rcases h with ⟨kk,h1,h2⟩ | ⟨kk,h1,h2⟩
  ·exact ⟨a,o,e1,.inl ⟨kk,e _ _ h1 trivial,zcu.mono e kvs kk h2⟩⟩
  ·exact ⟨a,o,e1,.inr ⟨kk,e _ _ h1 trivial,zcv.mono e kvs kk h2⟩⟩
theorem zaj.mono (e:Fzn H H'):∀ (ds:List PyData) (vs:List V),zaj K H ds vs->zaj K H' ds vs
 | [],vs,h=>by simp only [zaj] at h ⊢;exact h
 | d :: ds,vs,h=>by
  simp only [zaj] at h ⊢
  obtain ⟨v,r,e1,h1,h2⟩:=h
  exact ⟨v,r,e1,Fz.mono e d v h1,zaj.mono e ds r h2⟩
theorem zcu.mono (e:Fzn H H'):∀ (kvs:List (PyData × PyData)) (kk:List (List Key × V)),zcu K H kvs kk->zcu K H' kvs kk
 | [],kk,h=>by simp only [zcu] at h ⊢;exact h
 | (k,d) :: r,kk,h=>by
  simp only [zcu] at h ⊢
  obtain ⟨q,v,t,e1,e2,h1,h2⟩:=h
  exact ⟨q,v,t,e1,e2,Fz.mono e d v h1,zcu.mono e r t h2⟩
theorem zcv.mono (e:Fzn H H'):∀ (kvs:List (PyData × PyData)) (kk:List (Key × V)),zcv K H kvs kk->zcv K H' kvs kk
 | [],kk,h=>by simp only [zcv] at h ⊢;exact h
 | (k,d) :: r,kk,h=>by
  simp only [zcv] at h ⊢
  obtain ⟨q,v,t,e1,e2,h1,h2⟩:=h
  exact ⟨q,v,t,e1,e2,Fz.mono e d v h1,zcv.mono e r t h2⟩
end
theorem zaj.len:∀ {ds:List PyData} {vs:List V},zaj K H ds vs->vs.length=ds.length
 | [],vs,h=>by simp only [zaj] at h;subst h;rfl
 | d :: ds,vs,h=>by
  simp only [zaj] at h
  obtain ⟨v,r,rfl,_,h2⟩:=h
  simp [zaj.len h2]
theorem zaj.get:∀ {ds:List PyData} {vs:List V} {i:Nat} {d:PyData},zaj K H ds vs->ds[i]?=some d->∃ v,vs[i]?=some v/\Fz K H d v
 | [],vs,i,d,h,e=>by simp at e
 | d0 :: ds,vs,i,d,h,e=>by
  simp only [zaj] at h
  obtain ⟨v,r,rfl,h1,h2⟩:=h
  cases i with
  | zero=>simp at e;subst e;exact ⟨v,by simp,h1⟩
  | succ i =>
   obtain ⟨w,e1,f⟩:=zaj.get h2 (by simpa using e)
   exact ⟨w,by simpa using e1,f⟩
theorem zaj.app:∀ {ds es:List PyData} {vs ws:List V},zaj K H ds vs->zaj K H es ws->zaj K H (ds ++ es) (vs ++ ws)
 | [],es,vs,ws,h,g=>by simp only [zaj] at h;subst h;exact g
 | d :: ds,es,vs,ws,h,g=>by
  simp only [zaj] at h
  obtain ⟨v,r,rfl,h1,h2⟩:=h
  simp only [List.cons_append,zaj]
  exact ⟨v,r ++ ws,rfl,h1,zaj.app h2 g⟩
theorem zaj.take:∀ {ds:List PyData} {vs:List V} (n:Nat),zaj K H ds vs->zaj K H (ds.take n) (vs.take n)
 | ds,vs,0,h=>by simp [zaj]
 | [],vs,n + 1,h=>by simp only [zaj] at h;subst h;simp [zaj]
 | d :: ds,vs,n + 1,h=>by
  simp only [zaj] at h
  obtain ⟨v,r,rfl,h1,h2⟩:=h
  simp only [List.take_succ_cons,zaj]
  exact ⟨v,_,rfl,h1,zaj.take n h2⟩
theorem zaj.drop:∀ {ds:List PyData} {vs:List V} (n:Nat),zaj K H ds vs->zaj K H (ds.drop n) (vs.drop n)
 | ds,vs,0,h=>by simpa using h
 | [],vs,n + 1,h=>by simp only [zaj] at h;subst h;simp [zaj]
 | d :: ds,vs,n + 1,h=>by
  simp only [zaj] at h
  obtain ⟨v,r,rfl,h1,h2⟩:=h
  simpa using zaj.drop n h2
theorem zaj.set:∀ {ds:List PyData} {vs:List V} {d:PyData} {v:V} (n:Nat),zaj K H ds vs->Fz K H d v->zaj K H (ds.set n d) (vs.set n v)
 | [],vs,d,v,n,h,f=>by simp only [zaj] at h;subst h;simp [zaj]
 | d0 :: ds,vs,d,v,n,h,f=>by
  simp only [zaj] at h
  obtain ⟨v0,r,rfl,h1,h2⟩:=h
  cases n with
  | zero=>simp only [List.set_cons_zero,zaj];exact ⟨v,r,rfl,f,h2⟩
  | succ n=>simp only [List.set_cons_succ,zaj];exact ⟨v0,_,rfl,h1,zaj.set n h2 f⟩
theorem zaj.rep {ds:List PyData} {vs:List V} (h:zaj K H ds vs):∀ k:Nat,zaj K H (List.replicate k ds).flatten (List.replicate k vs).flatten
 | 0=>by simp [zaj]
 | k + 1=>by simp only [List.replicate_succ,List.flatten_cons];exact zaj.app h (zaj.rep h k)
theorem zaj.ints:∀ {ds:List PyData} {vs:List V} {ns:List Int},zaj K H ds vs->intsOf ds=some ns->vs=ns.map V.int/\ds=ns.map PyData.int
 | [],vs,ns,h,e=>by simp only [zaj] at h;simp only [intsOf,Option.some.injEq] at e;subst h;subst e;exact ⟨rfl,rfl⟩
 | d :: ds,vs,ns,h,e=>by
  simp only [zaj] at h
  obtain ⟨v,r,rfl,h1,h2⟩:=h
  cases d with
  | int i =>
   simp only [intsOf,Option.map_eq_some_iff] at e
   obtain ⟨ms,e1,rfl⟩:=e
   obtain ⟨a,b⟩:=zaj.ints h2 e1
   simp only [Fz] at h1
   subst h1;subst a;subst b
   exact ⟨rfl,rfl⟩
  | _=>simp [intsOf] at e
theorem zaj.bools:∀ {ds:List PyData} {vs:List V} {ns:List Bool},zaj K H ds vs->boolsOf ds=some ns->vs=ns.map V.bl/\ds=ns.map PyData.bool
 | [],vs,ns,h,e=>by simp only [zaj] at h;simp only [boolsOf,Option.some.injEq] at e;subst h;subst e;exact ⟨rfl,rfl⟩
 | d :: ds,vs,ns,h,e=>by
  simp only [zaj] at h
  obtain ⟨v,r,rfl,h1,h2⟩:=h
  cases d with
  | bool i =>
   simp only [boolsOf,Option.map_eq_some_iff] at e
   obtain ⟨ms,e1,rfl⟩:=e
   obtain ⟨a,b⟩:=zaj.bools h2 e1
   simp only [Fz] at h1
   subst h1;subst a;subst b
   exact ⟨rfl,rfl⟩
  | _=>simp [boolsOf] at e
theorem zaj.ofInts:∀ (ns:List Int),zaj K H (ns.map PyData.int) (ns.map V.int)
 | []=>by simp [zaj]
 | i :: r=>by simp only [List.map_cons,zaj];exact ⟨_,_,rfl,by simp [Fz],zaj.ofInts r⟩
end
def zb3 (K:PySem.W.Frag) (H:Hp) (a:Addr):PyData->Prop
 | .list ds=>∃ vs,H a=some (.lst vs)/\zaj K H ds vs
 | .dict kvs=>(∃ kk,H a=some (.dT kk)/\zcu K H kvs kk)\/∃ kk,H a=some (.dK kk)/\zcv K H kvs kk
 | _=>False
def Tp (K:PySem.W.Frag) (H:Hp):PyData->V->Prop
 | .list ds,v=>∃ a vs,v=.ref a/\SqL K H a vs/\zaj K H ds vs
 | .dict kvs,v=>∃ a,v=.ref a/\((∃ kk,Rd H a (.dT kk)/\zcu K H kvs kk)\/∃ kk,Rd H a (.dK kk)/\zcv K H kvs kk)
 | d,v=>Fz K H d v
section
variable {K:PySem.W.Frag} {H H':Hp}
theorem Fz.tp {d:PyData} {v:V} (h:Fz K H d v):Tp K H d v:=by
 cases d with
 | list ds =>
  simp only [Fz] at h
  obtain ⟨a,vs,e,h1,h2⟩:=h
  exact ⟨a,vs,e,h1.sq,h2⟩
 | dict kvs =>
  simp only [Fz] at h
  obtain ⟨a,o,e,h⟩:=h
  rcases h with ⟨kk,h1,h2⟩ | ⟨kk,h1,h2⟩
  ·exact ⟨a,e,.inl ⟨kk,.inr ⟨o,h1⟩,h2⟩⟩
  ·exact ⟨a,e,.inr ⟨kk,.inr ⟨o,h1⟩,h2⟩⟩
 | _=>exact h
theorem zb3.tp {d:PyData} {a:Addr} (h:zb3 K H a d):Tp K H d (.ref a):=by
 cases d with
 | list ds =>
  obtain ⟨vs,h1,h2⟩:=h
  exact ⟨a,vs,rfl,SqL.of h1,h2⟩
 | dict kvs =>
  rcases h with ⟨kk,h1,h2⟩ | ⟨kk,h1,h2⟩
  ·exact ⟨a,rfl,.inl ⟨kk,.inl h1,h2⟩⟩
  ·exact ⟨a,rfl,.inr ⟨kk,.inl h1,h2⟩⟩
 | _=>exact h.elim
def Own:HO->Prop
 | .lst _=>True
 | .dT _=>True
 | .dK _=>True
 | _=>False
theorem zb3.own {d:PyData} {a:Addr} (h:zb3 K H a d):∃ o,H a=some o/\Own o:=by
 cases d with
 | list ds=>obtain ⟨vs,h1,_⟩:=h;exact ⟨_,h1,trivial⟩
 | dict kvs =>
  rcases h with ⟨kk,h1,h2⟩ | ⟨kk,h1,h2⟩
  ·exact ⟨_,h1,trivial⟩
  ·exact ⟨_,h1,trivial⟩
 | _=>exact h.elim
theorem Own.zdO {o:HO} (h:Own o):¬ zw0 o:=by cases o <;> first | exact fun z=>z | exact h.elim
theorem zb3.mono {d:PyData} {a:Addr} (e:Fzn H H') (k:H' a=H a) (h:zb3 K H a d):zb3 K H' a d:=by
 cases d with
 | list ds=>obtain ⟨vs,h1,h2⟩:=h;exact ⟨vs,by rw [k];exact h1,h2.mono e⟩
 | dict kvs =>
  rcases h with ⟨kk,h1,h2⟩ | ⟨kk,h1,h2⟩
  ·exact .inl ⟨kk,by rw [k];exact h1,h2.mono e⟩
  ·exact .inr ⟨kk,by rw [k];exact h1,h2.mono e⟩
 | _=>exact h.elim
end
def zu1 (K:PySem.W.Frag) (H:Hp):Sl->Option V->Prop
 | .no,_=>True
 | .val d,some v=>Fz K H d v
 | .ow _ d,some (.ref a)=>zb3 K H a d
 | _,_=>False
def At (ρ:En) (σ:St) (i:Nat) (a:Addr):Prop:=(∃ p d,ρ[i]?=some (.ow p d))/\σ[i]?=some (some (.ref a))
def zu3 [Cs] (H:Hp):Prop:=∀ a u,Cs.C a=some u->H a=some u
theorem zu3.mono [Cs] {H H':Hp} (h:zu3 H) (e:Fzn H H'):zu3 H':=fun a u q=>e a u (h a u q) (by
 obtain ⟨o,xs,rfl⟩:=Cs.st a u q
 trivial)
structure Rel [Cs] (K:PySem.W.Frag) (ρ:En) (σ:St) (H:Hp):Prop where
 len:ρ.length=σ.length
 ok:∀ (i:Nat) x v,ρ[i]?=some x->σ[i]?=some v->zu1 K H x v
 sep:∀ i j a,At ρ σ i a->At ρ σ j a->i=j
 cst:zu3 H
variable [Cs]
def MA (ρ:En) (σ:St) (a:Addr):Prop:=∃ i,At ρ σ i a
structure Stp (ρ ρ':En) (σ:St) (H H':Hp):Prop where
 md:∀ (i:Nat) p,(∃ d,ρ[i]?=some (.ow p d)) ↔ ∃ d,ρ'[i]?=some (.ow p d)
 kp:∀ a o,H a=some o->¬ MA ρ σ a->H' a=some o
section
variable {K:PySem.W.Frag} {ρ ρ' ρ'':En} {σ:St} {H H' H'':Hp}
theorem Rel.zwU (r:Rel K ρ σ H) {i:Nat} {a:Addr} (h:At ρ σ i a):∃ p d,ρ[i]?=some (.ow p d)/\zb3 K H a d:=by
 obtain ⟨⟨p,d,e⟩,e2⟩:=h
 exact ⟨p,d,e,r.ok i _ _ e e2⟩
theorem Rel.zbp (r:Rel K ρ σ H) {a:Addr} (h:MA ρ σ a):∃ o,H a=some o/\Own o:=by
 obtain ⟨i,h⟩:=h
 obtain ⟨p,d,_,m⟩:=r.zwU h
 exact m.own
theorem Stp.refl:Stp ρ ρ σ H H:=⟨fun _ _=>Iff.rfl,fun _ _ h _=>h⟩
theorem Stp.ma (s:Stp ρ ρ' σ H H') {a:Addr}:MA ρ σ a ↔ MA ρ' σ a:=by
 constructor
 ·rintro ⟨i,⟨p,h⟩,e⟩;exact ⟨i,⟨p,(s.md i p).mp h⟩,e⟩
 ·rintro ⟨i,⟨p,h⟩,e⟩;exact ⟨i,⟨p,(s.md i p).mpr h⟩,e⟩
theorem Stp.trans (a:Stp ρ ρ' σ H H') (b:Stp ρ' ρ'' σ H' H''):Stp ρ ρ'' σ H H'' :=
 ⟨fun i p=>(a.md i p).trans (b.md i p),fun c o h n=>b.kp c o (a.kp c o h n) fun z=>n (a.ma.mpr z)⟩
theorem Stp.of (s:zbs H H'):Stp ρ ρ σ H H':=⟨fun _ _=>Iff.rfl,fun a o h _=>s a o h⟩
theorem Stp.fzn (s:Stp ρ ρ' σ H H') (r:Rel K ρ σ H):Fzn H H':=fun a o h st=>s.kp a o h fun m=>by
 obtain ⟨o',e,w⟩:=r.zbp m
 rw [h] at e
 cases e
 exact w.zdO st
theorem zu1.mono {x:Sl} {v:Option V} (f:Fzn H H') (k:∀ a,v=some (.ref a)->(∃ p d,x=.ow p d)->H' a=H a) (h:zu1 K H x v):zu1 K H' x v:=by
 cases x with
 | no=>trivial
 | val d=>cases v with
  | none=>exact h.elim
  | some v=>exact Fz.mono f d v h
 | ow p d=>cases v with
  | none=>exact h.elim
  | some v=>cases v with
   | ref a=>exact zb3.mono f (k a rfl ⟨p,d,rfl⟩) h
   | _=>exact h.elim
theorem Rel.same (r:Rel K ρ σ H) (s:zbs H H'):Rel K ρ σ H':=by
 refine ⟨r.len,fun i x v e1 e2=>(r.ok i x v e1 e2).mono (Fzn.of s) fun a e3 ⟨p,d,e4⟩=>?_,r.sep,r.cst.mono (Fzn.of s)⟩
 subst e3;subst e4
 obtain ⟨o,e,_⟩:=r.zbp ⟨i,⟨p,d,e1⟩,e2⟩
 rw [e,s a o e]
theorem Rel.put {a:Addr} {o:HO} (r:Rel K ρ σ H) (n:¬ MA ρ σ a) (ns:∀ u,H a=some u->¬ zw0 u):Rel K ρ σ (upd H a o):=by
 have f:Fzn H (upd H a o):=fun b u e st=>by
  rw [zax fun z=>by subst z;exact ns u e st]
  exact e
 refine ⟨r.len,fun i x v e1 e2=>(r.ok i x v e1 e2).mono f fun b e3 ⟨p,d,e4⟩=>?_,r.sep,r.cst.mono f⟩
 subst e3;subst e4
 exact zax fun z=>n ⟨i,⟨p,d,e1⟩,z ▸ e2⟩
end
end FL
namespace FL
open PySem L2 PySem.Spec
open PyProof.Rows hiding St
variable [Cs]
section
variable {X:Cx} {pins:List (Addr × Obj)} {σ:L2.St} {H:Hp} {s:Shared}
theorem zxU {a:Addr} {u:HO} {o:Obj} (I:Inv X pins σ H s) (hd:H a=some u) (ow:Own u) (ho:s.heap.get? a=some o):Inv X pins σ (upd H a (.frz o u)) s:=by
 have ne:∀ b w,H b=some w->¬ Own w->b ≠ a:=fun b w e n z=>by
  subst z
  rw [e] at hd
  cases hd
  exact n ow
 refine Inv.step (s:=s) (h':=s.heap) (H':=upd H a (.frz o u)) (g':=s.gens) (t':=s.toks) (d':=s.drawn) (ch:=[]) I (fun _ z=>nomatch z) (fun b o _ _ _ e _=>e) (fun b o _ _ _ e _=>⟨o.slots,e⟩) (fun b _ _ _ n=>?_) (fun b o _ e=>⟨o,e⟩)
  (fun b xs e=>?_) (fun b o u e=>?_) (fun b ps e=>⟨#[],?_⟩) (fun m hm=>hm) (fun b w e=>?_) I.bare
 ·rw [zax fun z=>by subst z;rw [n] at hd;cases hd];exact n
 ·rw [zax (ne b _ e fun z=>z)];exact e
 ·rw [zax (ne b _ e fun z=>z)];exact e
 ·rw [zax (ne b _ e fun z=>z),e];simp
 ·have st:∀ (b:Addr) (w:HO),zbN X.prog X.w H s.heap b w->zbN X.prog X.w (upd H a (.frz o u)) s.heap b w:=fun b w k =>
   k.stay (fun _ _ _ q=>q) (fun b' q=>by rw [zax (ne b' _ q fun z=>z)];exact q) (fun b' xs q=>q.upd (fun _ r=>ne b' _ r fun z=>z) fun _ _ r=>ne b' _ r fun z=>z)
  by_cases c:b=a
  ·subst c
   rw [zan] at e
   cases e
   exact ⟨ho,st b u (I.hok b u hd)⟩
  ·rw [zax c] at e
   exact st b w (I.hok b w e)
theorem zwM {Q:VK} {w:Value} (h:EP X pins σ (fun v H1=>∃ a u,v=.ref a/\H1 a=some u/\Own u/\∀ o,Q v (upd H1 a (.frz o u))) w s):EP X pins σ Q w s:=by
 obtain ⟨v,H1,I,r,a,u,e,e1,ow,q⟩:=h
 obtain ⟨o,ho⟩:=(I.hok a u e1).some
 exact ⟨v,_,zxU I e1 ow ho,r,q o⟩
def tFz (t:TE):TE:=fun σ H Q=>t σ H fun v H1=>∃ a u,v=.ref a/\H1 a=some u/\Own u/\∀ o,Q v (upd H1 a (.frz o u))
theorem zxA {e:Expr} {t:TE} (h:PE X e t):PE X e (tFz t):=fun pins s σ H Q I q=>thn (h pins s σ H _ I q) fun _ _ z=>zwM z
end
def Good {β:Type} (K:PySem.W.Frag) (ρ:En) (σ:L2.St) (H:Hp) (r:R (β × En)) (P:β->En->Hp->Prop):Prop:=match r with
 | .ok x=>∀ H',Rel K x.2 σ H'->Stp ρ x.2 σ H H'->P x.1 x.2 H'
 | _=>False
def tV (K:PySem.W.Frag) (f:EF):TE:=fun σ H Q=>∃ ρ,Rel K ρ σ H/\Good K ρ σ H (f ρ) fun d _ H'=>∀ v,Fz K H' d v->Q v H'
def tT (K:PySem.W.Frag) (f:TF):TT:=fun σ H Q=>∃ ρ,Rel K ρ σ H/\Good K ρ σ H (f ρ) fun b _ H'=>Q b H'
def tA (K:PySem.W.Frag) (f:AF):TA:=fun σ H Q=>∃ ρ,Rel K ρ σ H/\Good K ρ σ H (f ρ) fun ds _ H'=>∀ vs,zaj K H' ds vs->Q vs H'
def tO (K:PySem.W.Frag) (f:OF):TO:=fun σ H Q=>∃ ρ,Rel K ρ σ H/\Good K ρ σ H (f ρ) fun o _ H'=>Q o H'
def tN (K:PySem.W.Frag) (f:EF):TE:=fun σ H Q=>∃ ρ,Rel K ρ σ H/\Good K ρ σ H (f ρ) fun d ρ' H'=>∀ a,H a=none->zb3 K H' a d->Q (.ref a) H'
def PV (K:PySem.W.Frag) (X:Cx) (e:Expr) (f:EF):Prop:=X.K=K->PE X e (tV K f)
def PVT (K:PySem.W.Frag) (X:Cx) (e:Expr) (f:TF):Prop:=X.K=K->PT X e (tT K f)
def PVW (K:PySem.W.Frag) (X:Cx) (e:Expr) (f:TF):Prop:=X.K=K->PW X e (tT K f)
def PVA (K:PySem.W.Frag) (X:Cx) (es:List Expr) (f:AF):Prop:=X.K=K->PA X es (tA K f)
def PVO (K:PySem.W.Frag) (X:Cx) (e:Option Expr) (f:OF):Prop:=X.K=K->PO X e (tO K f)
def PVN (K:PySem.W.Frag) (X:Cx) (e:Expr) (f:EF):Prop:=X.K=K->PE X e (tN K f)
theorem _root_.L2.PE.weak {X:Cx} {e:Expr} {t t':TE} (h:PE X e t) (w:∀ σ H Q,t' σ H Q->t σ H Q):PE X e t':=fun pins s σ H Q I q=>h pins s σ H Q I (w σ H Q q)
theorem _root_.L2.PT.weak {X:Cx} {e:Expr} {t t':TT} (h:PT X e t) (w:∀ σ H Q,t' σ H Q->t σ H Q):PT X e t':=fun pins s σ H Q I q=>h pins s σ H Q I (w σ H Q q)
theorem _root_.L2.PW.weak {X:Cx} {e:Expr} {t t':TT} (h:PW X e t) (w:∀ σ H Q,t' σ H Q->t σ H Q):PW X e t':=fun wh pins s σ H Q I q=>h wh pins s σ H Q I (w σ H Q q)
theorem _root_.L2.PA.weak {X:Cx} {e:List Expr} {t t':TA} (h:PA X e t) (w:∀ σ H Q,t' σ H Q->t σ H Q):PA X e t':=fun pos pins s σ H Q I q=>h pos pins s σ H Q I (w σ H Q q)
theorem _root_.L2.PO.weak {X:Cx} {e:Option Expr} {t t':TO} (h:PO X e t) (w:∀ σ H Q,t' σ H Q->t σ H Q):PO X e t':=fun pins s σ H Q I q=>h pins s σ H Q I (w σ H Q q)
section
variable {K:PySem.W.Frag} {ρ ρ1:En} {σ:L2.St} {H H1:Hp} {β γ:Type}
theorem Good.step {r:R (β × En)} {P:β->En->Hp->Prop} (st:Stp ρ ρ1 σ H H1) (g:Good K ρ σ H r P):Good K ρ1 σ H1 r P:=by
 cases r with
 | ok x=>exact fun H' rel s=>g H' rel (st.trans s)
 | _=>exact g
theorem Good.bnd {r:R (β × En)} {k:β × En->R (γ × En)} {P:γ->En->Hp->Prop} (g:Good K ρ σ H (r.bind k) P):∃ x,r=.ok x/\Good K ρ σ H (k x) P:=by
 cases r with
 | ok x=>exact ⟨x,rfl,g⟩
 | _=>exact g.elim
theorem Good.zii {r:R β} {k:β->R (γ × En)} {P:γ->En->Hp->Prop} (g:Good K ρ σ H (r.bind k) P):∃ x,r=.ok x/\Good K ρ σ H (k x) P:=by
 cases r with
 | ok x=>exact ⟨x,rfl,g⟩
 | _=>exact g.elim
theorem Good.chk {c:Bool} {r:R (γ × En)} {P:γ->En->Hp->Prop} (g:Good K ρ σ H (chk c r) P):c=true/\Good K ρ σ H r P:=by
 cases c with
 | true=>exact ⟨rfl,g⟩
 | false=>exact g.elim
theorem Good.now {x:β} {P:β->En->Hp->Prop} (g:Good K ρ σ H (.ok (x,ρ)) P) (rel:Rel K ρ σ H):P x ρ H:=g H rel .refl
theorem Good.new {x:β} {P:β->En->Hp->Prop} (g:Good K ρ σ H (.ok (x,ρ)) P) (rel:Rel K ρ σ H) (s:zbs H H1):P x ρ H1:=g H1 (rel.same s) (.of s)
theorem goV {f:EF} {k:D × En->R (β × En)} {S:VK} {P:β->En->Hp->Prop} (rel:Rel K ρ σ H) (g:Good K ρ σ H ((f ρ).bind k) P)
  (h:∀ d ρ1 v H1,Rel K ρ1 σ H1->Stp ρ ρ1 σ H H1->Fz K H1 d v->Good K ρ1 σ H1 (k (d,ρ1)) P->S v H1):tV K f σ H S:=by
 obtain ⟨x,e,g1⟩:=g.bnd
 refine ⟨ρ,rel,?_⟩
 rw [e]
 exact fun H' r s v fz=>h x.1 x.2 v H' r s fz (g1.step s)
theorem goT {f:TF} {k:Bool × En->R (β × En)} {S:Bool->Hp->Prop} {P:β->En->Hp->Prop} (rel:Rel K ρ σ H) (g:Good K ρ σ H ((f ρ).bind k) P)
  (h:∀ b ρ1 H1,Rel K ρ1 σ H1->Stp ρ ρ1 σ H H1->Good K ρ1 σ H1 (k (b,ρ1)) P->S b H1):tT K f σ H S:=by
 obtain ⟨x,e,g1⟩:=g.bnd
 refine ⟨ρ,rel,?_⟩
 rw [e]
 exact fun H' r s=>h x.1 x.2 H' r s (g1.step s)
theorem goA {f:AF} {k:List D × En->R (β × En)} {S:List V->Hp->Prop} {P:β->En->Hp->Prop} (rel:Rel K ρ σ H) (g:Good K ρ σ H ((f ρ).bind k) P)
  (h:∀ ds ρ1 vs H1,Rel K ρ1 σ H1->Stp ρ ρ1 σ H H1->zaj K H1 ds vs->Good K ρ1 σ H1 (k (ds,ρ1)) P->S vs H1):tA K f σ H S:=by
 obtain ⟨x,e,g1⟩:=g.bnd
 refine ⟨ρ,rel,?_⟩
 rw [e]
 exact fun H' r s vs fz=>h x.1 x.2 vs H' r s fz (g1.step s)
theorem goO {f:OF} {k:Option Int × En->R (β × En)} {S:Option Int->Hp->Prop} {P:β->En->Hp->Prop} (rel:Rel K ρ σ H) (g:Good K ρ σ H ((f ρ).bind k) P)
  (h:∀ b ρ1 H1,Rel K ρ1 σ H1->Stp ρ ρ1 σ H H1->Good K ρ1 σ H1 (k (b,ρ1)) P->S b H1):tO K f σ H S:=by
 obtain ⟨x,e,g1⟩:=g.bnd
 refine ⟨ρ,rel,?_⟩
 rw [e]
 exact fun H' r s=>h x.1 x.2 H' r s (g1.step s)
end
def rD (K:PySem.W.Frag) (g:D->D->R D):R2:=fun x y H Q=>∃ dx dy d,Tp K H dx x/\Tp K H dy y/\g dx dy=.ok d/\∀ v H',zbs H H'->Fz K H' d v->Q v H'
def rD1 (K:PySem.W.Frag) (g:D->R D):V->Hp->VK->Prop:=fun x H Q=>∃ dx d,Tp K H dx x/\g dx=.ok d/\∀ v H',zbs H H'->Fz K H' d v->Q v H'
def rDs (K:PySem.W.Frag) (G:List D->R D):List V->Hp->VK->Prop:=fun xs H Q=>∃ ds d,zaj K H ds xs/\G ds=.ok d/\∀ v H',zbs H H'->Fz K H' d v->Q v H'
def rD0 (K:PySem.W.Frag) (g:D->R D):List V->Hp->VK->Prop:=fun xs H Q=>∃ x dx d,xs=[x]/\Tp K H dx x/\g dx=.ok d/\∀ v H',zbs H H'->Fz K H' d v->Q v H'
section
variable {K:PySem.W.Frag} {X:Cx} {a b c:Expr} {f h k:EF} {pos:Pos}
theorem zac {x:Str} (i:Nat) (hN:X.N[i]?=some x:=by rfl) (hv:Vis X.env.scope x:=by first | exact Or.inl rfl | exact Or.inr (Or.inl rfl) | exact Or.inr (Or.inr rfl)) (hd:(x == ("__debug__":Str))=false:=by decide)
  (hcd:(x == ("__classdict__":Str))=false:=by decide):PV K X (.Name x pos) (eV i):=fun _=>(zsX hN hv hd hcd).weak fun σ H Q=>by
 rintro ⟨ρ,rel,g⟩
 unfold eV at g
 cases e:ρ[i]? with
 | none=>rw [e] at g;exact g.elim
 | some x =>
  rw [e] at g
  cases x with
  | val d =>
   have hl:i < σ.length:=by rw [<- rel.len];exact (List.getElem?_eq_some_iff.mp e).1
   have o:=rel.ok i _ _ e (List.getElem?_eq_getElem hl)
   cases es:σ[i] with
   | none=>rw [es] at o;exact o.elim
   | some v =>
    rw [es] at o
    exact ⟨v,by rw [List.getElem?_eq_getElem hl,es],g.now rel v o⟩
  | _=>exact g.elim
theorem zxu {e:Expr} {v:V} {d:D} (h:PE X e (tC v)) (hv:∀ H,Fz K H d v):PV K X e (eC d):=fun _=>h.weak fun σ H Q=>by
 rintro ⟨ρ,rel,g⟩
 exact g.now rel v (hv H)
theorem zaf {i:Int} {j}:PV K X (.Constant (.int i) j pos) (eC (.int i)):=zxu zvX fun _=>by simp [Fz]
theorem zeT {i:Bool} {j}:PV K X (.Constant (.bool i) j pos) (eC (.bool i)):=zxu zxB fun _=>by simp [Fz]
theorem zsS {j}:PV K X (.Constant .none j pos) (eC .none):=zxu zvV fun _=>by simp [Fz]
theorem zw9 {g:D->D->R D} {r:R2} (ho:∀ x y H Q,rD K g x y H Q->r x y H Q) (σ:L2.St) (H:Hp) (Q:VK) (q:tV K (e2 g f h) σ H Q):tOp r (tV K f) (tV K h) σ H Q:=by
 obtain ⟨ρ,rel,q⟩:=q
 refine goV rel q fun dx ρ1 x H1 rel1 st1 fx q1=>goV rel1 q1 fun dy ρ2 y H2 rel2 st2 fy q2=>?_
 obtain ⟨d,ed,q3⟩:=q2.zii
 exact ho _ _ _ _ ⟨dx,dy,d,(fx.mono (st2.fzn rel1)).tp,fy.tp,ed,fun v H' s fz=>q3.new rel2 s v fz⟩
theorem zau {op:Operator} {g:D->D->R D} (ho:OpR X (binaryOp op) (rD X.K g)) (ha:PV K X a f) (hb:PV K X b h):PV K X (.BinOp a op b pos) (e2 g f h):=fun hK=>by
 subst hK
 exact (zt6 ho (ha rfl) (hb rfl)).weak fun σ H Q q=>zw9 (fun _ _ _ _ z=>z) σ H Q q
theorem zaG {g:D->D->R D} (ho:IxR X (rD X.K g)) (ha:PV K X a f) (hb:PV K X b h) (hs:zkt b:=by exact fun _ _=>rfl):PV K X (.Subscript a b pos) (e2 g f h):=fun hK=>by
 subst hK
 exact (zvW ho (ha rfl) (hb rfl) hs).weak fun σ H Q q=>zw9 (fun _ _ _ _ z=>z) σ H Q q
theorem zvH {op:CmpOp} {g:D->D->R D} (ho:OpR X (compareOp op) (rD X.K g)) (ha:PV K X a f) (hb:PV K X b h) (hm:behindInMarks op b=false):PV K X (.Compare a [op] [b] pos) (e2 g f h):=fun hK=>by
 subst hK
 exact (zt8 ho (ha rfl) (hb rfl) hm).weak fun σ H Q q=>zw9 (fun _ _ _ _ z=>z) σ H Q q
theorem zrt {op:UnaryOp} {g:D->R D} (ho:UnR X (unaryOp op) (rD1 X.K g)) (ha:PV K X a f):PV K X (.UnaryOp op a pos) (e1 g f):=fun hK=>by
 subst hK
 exact (zxy ho (ha rfl)).weak fun σ H Q=>by
  rintro ⟨ρ,rel,q⟩
  refine goV rel q fun dx ρ1 x H1 rel1 st1 fx q1=>?_
  obtain ⟨d,ed,q3⟩:=q1.zii
  exact ⟨dx,d,fx.tp,ed,fun v H' s fz=>q3.new rel1 s v fz⟩
theorem zjd {op} (ha:PV K X a f):PV K X (.BoolOp op [a] pos) f:=fun hK=>zvT (ha hK)
theorem zje {rest:List Expr} (ha:PV K X a f) (hb:PV K X (.BoolOp .And (b :: rest) pos) h):PV K X (.BoolOp .And (a :: b :: rest) pos) (ziY f h):=fun hK=>(zvZ (ha hK) (hb hK)).weak fun σ H Q=>by
 rintro ⟨ρ,rel,q⟩
 refine goV rel q fun dx ρ1 x H1 rel1 st1 fx q1=>?_
 cases dx with
 | bool bb =>
  simp only [Fz] at fx
  subst fx
  cases bb with
  | true=>exact ⟨true,rfl,zux ⟨ρ1,rel1,q1⟩⟩
  | false=>exact ⟨false,rfl,zuy (q1.now rel1 _ (by simp [Fz]))⟩
 | _=>exact q1.elim
theorem zsR (ha:PV K X a f):PV K X (.UnaryOp .Not a pos) (zq6 f):=fun hK=>(zvU (ha hK)).weak fun σ H Q=>by
 rintro ⟨ρ,rel,q⟩
 refine goV rel q fun dx ρ1 x H1 rel1 st1 fx q1=>?_
 cases dx with
 | bool bb =>
  simp only [Fz] at fx
  subst fx
  exact ⟨bb,rfl,q1.now rel1 _ (by simp [Fz])⟩
 | _=>exact q1.elim
variable {es:List Expr} {fa:AF}
theorem zd4:PVA K X [] zah:=fun _=>zgJ.weak fun σ H Q=>by
 rintro ⟨ρ,rel,q⟩
 exact q.now rel [] (by simp [zaj])
theorem zjS (ha:PV K X a f) (hr:PVA K X es fa) (hs:starEach (a :: es) X.env=(false,eval a X.env) :: starEach es X.env:=by rfl):PVA K X (a :: es) (zab f fa):=fun hK=>(zcn (ha hK) (hr hK) hs).weak fun σ H Q=>by
 rintro ⟨ρ,rel,q⟩
 refine goV rel q fun dx ρ1 x H1 rel1 st1 fx q1=>goA rel1 q1 fun ds ρ2 vs H2 rel2 st2 fs q2=>?_
 exact q2.now rel2 _ (by simp only [zaj];exact ⟨x,vs,rfl,fx.mono (st2.fzn rel1),fs⟩)
theorem zcz:lim<=sizeLine:=by rw [sizeLine_eq];decide
theorem zfL {x1} (h:PVA K X es fa):PV K X (.Tuple es x1 pos) (zem fa):=fun hK=>(zvS (h hK)).weak fun σ H Q=>by
 rintro ⟨ρ,rel,q⟩
 refine goA rel q fun ds ρ1 vs H1 rel1 st1 fs q1=>?_
 obtain ⟨c,q2⟩:=q1.chk
 refine ⟨by rw [fs.len];exact Nat.le_trans (zhV c) zcz,fun p hp=>?_⟩
 have s:zbs H1 (upd H1 p (.tup vs)):=zbs.upd hp
 refine q2.new rel1 s _ ?_
 simp only [Fz]
 exact ⟨p,vs,rfl,.inl zan,fs.mono (Fzn.of s)⟩
theorem zbB (h:PVA K X es fa):PVN K X (.List es pos) (zbF fa):=fun hK=>(zsY (h hK)).weak fun σ H Q=>by
 rintro ⟨ρ,rel,q⟩
 refine goA rel q fun ds ρ1 vs H1 rel1 st1 fs q1=>?_
 obtain ⟨c,q2⟩:=q1.chk
 refine ⟨by rw [fs.len];exact Nat.le_trans (zhV c) zcz,fun p hp=>?_⟩
 have s:zbs H1 (upd H1 p (.lst vs)):=zbs.upd hp
 refine q2.new rel1 s p ?_ ?_
 ·cases e:H p with
  | none=>rfl
  | some o =>
   by_cases m:MA ρ σ p
   ·obtain ⟨o',e',_⟩:=rel1.zbp (st1.ma.mp m)
    rw [hp] at e';cases e'
   ·rw [st1.kp p o e m] at hp;cases hp
 ·exact ⟨vs,zan,fs.mono (Fzn.of s)⟩
theorem PVN.pv {e:Expr} {f:EF} (h:PVN K X e f):PV K X e f:=fun hK=>(zxA (h hK)).weak fun σ H Q=>by
 rintro ⟨ρ,rel,q⟩
 refine ⟨ρ,rel,?_⟩
 cases e:f ρ with
 | ok x =>
  rw [e] at q
  intro H' rel' st a ha m
  obtain ⟨u,e1,ow⟩:=m.own
  refine ⟨a,u,rfl,e1,ow,fun o=>?_⟩
  have nma:¬ MA ρ σ a:=fun z=>by
   obtain ⟨o',e',_⟩:=rel.zbp z
   rw [ha] at e';cases e'
  have nma':¬ MA x.2 σ a:=fun z=>nma (st.ma.mpr z)
  have fz:Fzn H' (upd H' a (.frz o u)):=fun b w e2 sy=>by
   rw [zax fun z=>by subst z;rw [e1] at e2;cases e2;exact ow.zdO sy]
   exact e2
  refine q _ (rel'.put nma' fun u' e2=>by rw [e1] at e2;cases e2;exact ow.zdO) ⟨st.md,fun b w e2 n=>?_⟩ _ ?_
  ·rw [zax fun z=>by subst z;rw [ha] at e2;cases e2]
   exact st.kp b w e2 n
  ·obtain ⟨d,ρ'⟩:=x
   cases d with
   | list ds =>
    obtain ⟨vs,h1,h2⟩:=m
    rw [e1] at h1
    cases h1
    simp only [Fz]
    exact ⟨a,vs,rfl,.inl ⟨o,zan⟩,h2.mono fz⟩
   | dict kvs =>
    simp only [Fz]
    rcases m with ⟨kk,h1,h2⟩ | ⟨kk,h1,h2⟩
    ·rw [e1] at h1
     cases h1
     exact ⟨a,o,rfl,.inl ⟨kk,zan,h2.mono fz⟩⟩
    ·rw [e1] at h1
     cases h1
     exact ⟨a,o,rfl,.inr ⟨kk,zan,h2.mono fz⟩⟩
   | _=>exact m.elim
 | _=>rw [e] at q;exact q.elim
theorem goC {G:List D->R D} {r:List V->Hp->VK->Prop} (hr:∀ xs H Q,rDs K G xs H Q->r xs H Q) (σ:L2.St) (H:Hp) (Q:VK) (q:tV K (zae G fa) σ H Q):tCB r (tA K fa) σ H Q:=by
 obtain ⟨ρ,rel,q⟩:=q
 refine goA rel q fun ds ρ1 vs H1 rel1 st1 fs q1=>?_
 obtain ⟨d,ed,q2⟩:=q1.zii
 exact hr _ _ _ ⟨ds,d,fs,ed,fun v H' s fz=>q2.new rel1 s v fz⟩
theorem zm3 {x:Str} {id:String} {G:List D->R D} {p:Pos} {e:Expr} (hc:zgG X (.builtin id) (rDs X.K G)) (hg:Gl X x) (hm:X.mg x=none) (hv:bootBuiltins x=some (.builtin id)) (ha:PVA K X (e :: es) fa) (hn:x ≠ "__name__":=by decide) (hdb:(x == ("__debug__":Str))=false:=by decide)
  (he:starEach (e :: es) X.env=(false,eval e X.env) :: starEach es X.env:=by rfl) (hpl:(backTo pos (starEach es X.env)).any (·.1)=false:=by rfl):PV K X (.Call (.Name x p) (e :: es) [] pos) (zae G fa):=fun hK=>by
 subst hK
 exact (zjV hc hg hm hv (ha rfl) hn hdb he hpl).weak fun σ H Q q=>goC (fun _ _ _ z=>z) σ H Q q
theorem zpm {x:Str} {T:String} {G:List D->R D} {p:Pos} {e:Expr} (hc:zgG X (.type T) (rDs X.K G)) (hg:Gl X x) (hm:X.mg x=none) (hv:bootBuiltins x=some (.type T)) (ha:PVA K X (e :: es) fa) (hn:x ≠ "__name__":=by decide) (hdb:(x == ("__debug__":Str))=false:=by decide)
  (he:starEach (e :: es) X.env=(false,eval e X.env) :: starEach es X.env:=by rfl) (hpl:(backTo pos (starEach es X.env)).any (·.1)=false:=by rfl):PV K X (.Call (.Name x p) (e :: es) [] pos) (zae G fa):=fun hK=>by
 subst hK
 exact (zpu hc hg hm hv (ha rfl) hn hdb he hpl).weak fun σ H Q q=>goC (fun _ _ _ z=>z) σ H Q q
variable {lo hi:Option Expr} {fl fh:OF}
theorem zrp:PVO K X none zjY:=fun _=>zt1.weak fun σ H Q=>by
 rintro ⟨ρ,rel,q⟩
 exact q.now rel
theorem zro (h:PV K X a f):PVO K X (some a) (zjX f):=fun hK=>(zt0 (h hK)).weak fun σ H Q=>by
 rintro ⟨ρ,rel,q⟩
 refine goV rel q fun dx ρ1 x H1 rel1 st1 fx q1=>?_
 cases dx with
 | int i =>
  simp only [Fz] at fx
  exact ⟨i,fx,q1.now rel1⟩
 | _=>exact q1.elim
def zyd (K:PySem.W.Frag):V->Option Int->Option Int->Hp->VK->Prop:=fun x lo hi H Q=>∃ dx d,Tp K H dx x/\zfE dx lo hi=.ok d/\∀ v H',zbs H H'->Fz K H' d v->Q v H'
theorem zrv {p2:Pos} (hr:SlR X (zyd X.K)) (he:PV K X a f) (hl:PVO K X lo fl) (hu:PVO K X hi fh):PV K X (.Subscript a (.Slice lo hi none p2) pos) (eSl f fl fh):=fun hK=>by
 subst hK
 exact (zrF hr (he rfl) (hl rfl) (hu rfl)).weak fun σ H Q=>by
  rintro ⟨ρ,rel,q⟩
  refine goV rel q fun dx ρ1 x H1 rel1 st1 fx q1=>goO rel1 q1 fun l ρ2 H2 rel2 st2 q2=>goO rel2 q2 fun u ρ3 H3 rel3 st3 q3=>?_
  obtain ⟨d,ed,q4⟩:=q3.zii
  exact ⟨dx,d,((fx.mono (st2.fzn rel1)).mono (st3.fzn rel2)).tp,ed,fun v H' s fz=>q4.new rel3 s v fz⟩
variable {t u:TF}
theorem zbR (hv:zx7 X (fun x H Q=>∃ d k,Tp X.K H d x/\zhG d=.ok k/\Q k H)) (h:PV K X a f) (he:∀ whole,isTrue a X.env whole=(do let v <- whole;standAt a.pos;holding [v] (truthy v)):=by intro _;rfl):PVT K X a (tE f):=fun hK=>by
 subst hK
 intro pins s σ H Q I q
 rw [he]
 obtain ⟨ρ,rel,q⟩:=q
 refine wpAny_bind (thn (h rfl pins s σ H (fun x H'=>∃ d k,Tp X.K H' d x/\zhG d=.ok k/\Q k H') I ?_) fun v s1 ⟨x,H1,I1,r1,q1⟩=>wpAny_bind (wpAny_standAt (wpAny_holding (hv pins s1 σ H1 x v Q I1 r1 q1))))
 refine goV rel q fun dx ρ1 x H1 rel1 st1 fx q1=>?_
 obtain ⟨d,ed,q2⟩:=q1.zii
 exact ⟨dx,d,fx.tp,ed,q2.now rel1⟩
theorem goB {te:TE} (hw:∀ σ H Q,tV K f σ H Q->te σ H Q) (σ:L2.St) (H:Hp) (Q:Bool->Hp->Prop) (q:tT K (tB f) σ H Q):te σ H fun x H'=>∃ k,x=.bl k/\Q k H':=by
 obtain ⟨ρ,rel,q⟩:=q
 refine hw σ H _ (goV rel q fun dx ρ1 x H1 rel1 st1 fx q1=>?_)
 cases dx with
 | bool bb =>
  simp only [Fz] at fx
  exact ⟨bb,fx,q1.now rel1⟩
 | _=>exact q1.elim
theorem ztI {op:CmpOp} {g:D->D->R D} (ho:OpR X (compareOp op) (rD X.K g)) (ha:PV K X a f) (hb:PV K X b h) (hm:behindInMarks op b=false):PVT K X (.Compare a [op] [b] pos) (tB (e2 g f h)):=fun hK=>by
 subst hK
 exact (ztT ho (ha rfl) (hb rfl) hm).weak fun σ H Q q=>goB (fun σ H Q z=>zw9 (fun _ _ _ _ z=>z) σ H Q z) σ H Q q
theorem zhe (ha:PVT K X a t):PVW K X (.BoolOp .And [a] pos) t:=fun hK=>ztH (ha hK)
theorem zcY (ha:PVT K X a t):PVW K X (.BoolOp .Or [a] pos) t:=fun hK=>zvz (ha hK)
theorem zjQ {rest:List Expr} (ha:PVT K X a t) (hb:PVW K X (.BoolOp .And (b :: rest) pos) u):PVW K X (.BoolOp .And (a :: b :: rest) pos) (FL.zfi t u):=fun hK=>(zvA (ha hK) (hb hK)).weak fun σ H Q=>by
 rintro ⟨ρ,rel,q⟩
 refine goT rel q fun cb ρ1 H1 rel1 st1 q1=>?_
 cases cb with
 | true=>exact zux ⟨ρ1,rel1,q1⟩
 | false=>exact zuy (q1.now rel1)
theorem zdN {rest:List Expr} (ha:PVT K X a t) (hb:PVW K X (.BoolOp .Or (b :: rest) pos) u):PVW K X (.BoolOp .Or (a :: b :: rest) pos) (FL.tOr t u):=fun hK=>(zxr (ha hK) (hb hK)).weak fun σ H Q=>by
 rintro ⟨ρ,rel,q⟩
 refine goT rel q fun cb ρ1 H1 rel1 st1 q1=>?_
 cases cb with
 | true=>exact zux (q1.now rel1)
 | false=>exact zuy ⟨ρ1,rel1,q1⟩
theorem PVW.pvt (h:PVW K X a t):PVT K X a t:=fun hK=>(h hK).pt
theorem zbS (ha:PVT K X a t):PVT K X (.UnaryOp .Not a pos) (FL.zcx t):=fun hK=>(zvI (ha hK)).weak fun σ H Q=>by
 rintro ⟨ρ,rel,q⟩
 exact goT rel q fun cb ρ1 H1 rel1 st1 q1=>q1.now rel1
end
end FL
namespace FL
open PySem L2 PySem.Spec
open PyProof.Rows hiding St
variable [Cs]
theorem zoe (x y:Int) (xs ys:List Int):lexLe (x :: xs) (y :: ys)=if x=y then lexLe xs ys else decide (x<=y):=rfl
theorem zj5:lexLe [] []=true:=rfl
theorem ziO (y:Int) (ys:List Int):lexLe [] (y :: ys)=true:=rfl
theorem ziP (x:Int) (xs:List Int):lexLe (x :: xs) []=false:=rfl
theorem zpd (A:Around) (s:Shared) (a:Int) (t:Tok) (c:Int) (u:Tok) (prog:Program) (w:World) (E:Value->Shared->Prop) (Q:Value->Shared->Prop) (h:Q (.bool (decide (a<=c))) s) :
  wpAny (model prog w) A (richCompare .LtE (.int a t) (.int c u)) Q E s :=
 (PyProof.Rows.le_int h:wpAny (model prog w) A (compareOp .LtE (.int a t) (.int c u)) Q E s)
section
open PySem.SeqAt
open PySem.AutoSeq1 (wpAny_loadPart')
open PySem.MeetsSeq PySem.MeetsSeq2 PySem.MeetsSeq3
theorem zjG (l b:Addr) (items items2:Array Value) (n n2:Nat) (dd dd2:Option Addr) (sl sl2:Array (Option Value)) (ns ms:List Int) (hi:IntsAre items.toList ns) (hj:IntsAre items2.toList ms) :
  Meets (Builtin.«tuple.__le__» ⟨[.ref l,.ref b],[]⟩)
   (fun _ R s=>s.heap.get? l=some { cls:=.type "tuple",dict:=dd,data:=.seq items n,slots:=sl }/\s.heap.get? b=some { cls:=.type "tuple",dict:=dd2,data:=.seq items2 n2,slots:=sl2 } /\
    R (.ok (.ret (.bool (lexLe ns ms)))) s) :=
 .of_wp fun prog w A R s h=>by
  obtain ⟨hp,g,d,tk,os⟩:=s;obtain ⟨hl,hb,h⟩:=h
  have f2:=AutoSeq1.sub_tuple_tuple
  have z1:items.size=ns.length:=by rw [<- hi.length];simp
  have z2:items2.size=ms.length:=by rw [<- hj.length];simp
  wp_walk using wpAny_loadPart' hl,wpAny_loadPart' hb,wpAny_forIn_list _ (fun rest b s'=>b.1=none/\s'=⟨hp,g,d,tk,os⟩/\∃ (vs ws:List Value) (ns' ms':List Int),rest=vs.zip ws /\
   IntsAre vs ns'/\IntsAre ws ms'/\ns'.length + items2.size=ms'.length + items.size/\R (.ok (.ret (.bool (lexLe ns' ms')))) ⟨hp,g,d,tk,os⟩) _
  case turn =>
   rintro ⟨y,x⟩ rest b s' ⟨hb',rfl,vs,ws,ns',ms',hz,hvi,hwi,hlen,hR⟩
   cases hvi with
   | nil=>rw [List.zip_nil_left] at hz;cases hz
   | cons a t hvi' =>
    cases hwi with
    | nil=>rw [List.zip_nil_right] at hz;cases hz
    | cons c u hwi' =>
     rw [List.zip_cons_cons] at hz
     injection hz with hyx hrest
     injection hyx with hy hx
     subst hy hx
     rw [zoe] at hR
     simp only [List.length_cons] at hlen
     obtain ⟨e,he,hiff⟩:=HT.zhl A.in1 ⟨hp,g,d,tk,os⟩ a t c u
     refine wpAny_bind (he prog w _ _ ?_)
     cases e with
     | true =>
      rw [if_pos (hiff.mp rfl)] at hR
      wp_walk
      exact ⟨rfl,rfl,_,_,_,_,hrest,hvi',hwi',by omega,hR⟩
     | false =>
      rw [if_neg (fun q=>absurd (hiff.mpr q) Bool.false_ne_true)] at hR
      have hri:=zpd A.in1 ⟨hp,g,d,tk,os⟩ a t c u prog w
      wp_walk using hri
      exact ⟨_,rfl,by simpa using hR⟩
  case fin =>
   rintro ⟨b1,b2⟩ s' ⟨hb',rfl,vs,ws,ns',ms',hz,hvi,hwi,hlen,hR⟩
   simp only at hb'
   subst hb'
   have hv:lexLe ns' ms'=decide (items.size<=items2.size):=by
    cases hvi with
    | nil =>
     cases hwi with
     | nil =>
      simp only [List.length_nil] at hlen
      rw [zj5]
      exact (decide_eq_true (by omega)).symm
     | cons c u hw =>
      simp only [List.length_nil,List.length_cons] at hlen
      rw [ziO]
      exact (decide_eq_true (by omega)).symm
    | cons a t hv =>
     cases hwi with
     | nil =>
      simp only [List.length_nil,List.length_cons] at hlen
      rw [ziP]
      exact (decide_eq_false (by omega)).symm
     | cons c u hw =>
      rw [List.zip_cons_cons] at hz
      cases hz
   rw [hv] at hR
   wp_walk
   exact ⟨_,rfl,by simpa [Builtin.Tuple.tupleCompareSizes] using hR⟩
  case h =>
   exact ⟨rfl,rfl,items.toList,items2.toList,ns,ms,rfl,hi,hj,by omega,h⟩
end
section
variable {prog:Program} {w:World} {A:Around} {E:Value->Shared->Prop} {s:Shared}
theorem zoh {l b:Addr} {items items2:Array Value} {ns ms:List Int} {Q:Value->Shared->Prop} (hl:IsTup s.heap l items) (hb:IsTup s.heap b items2) (hi:IntsAre items.toList ns) (hj:IntsAre items2.toList ms)
  (hu:A.units < cLine) (h:Q (.bool (lexLe ns ms)) s):wpAny (model prog w) A (compareOp .LtE (.ref l) (.ref b)) Q E s:=by
 obtain ⟨⟨cls,dd,data,sl⟩,ho,hc,n,hd⟩:=id hl
 obtain ⟨⟨cls2,dd2,data2,sl2⟩,ho2,hc2,n2,hd2⟩:=id hb
 simp only at hc hd hc2 hd2
 subst hc hd hc2 hd2
 exact richCompare_meets_room (op:=.LtE) ⟨_,ho,rfl⟩ ⟨_,ho2,rfl⟩ PySem.F.slot_tuple_le PySem.F.entry_tuple_le (PySem.F.args_tuple_le_2 _ _) (zjG l b items items2 n n2 dd dd2 sl sl2 ns ms hi hj)
  ⟨ho,ho2,show Value.bool (lexLe ns ms) ≠ Value.notImplemented/\Q (.bool (lexLe ns ms)) s from ⟨(fun x=>nomatch x),h⟩⟩ hu
end
theorem zof (x y:Int) (xs ys:List Int):zgh (x :: xs) (y :: ys)=if x=y then zgh xs ys else decide (y < x):=rfl
theorem zj6:zgh [] []=false:=rfl
theorem ziQ (y:Int) (ys:List Int):zgh [] (y :: ys)=false:=rfl
theorem ziR (x:Int) (xs:List Int):zgh (x :: xs) []=true:=rfl
theorem zrk (A:Around) (s:Shared) (a:Int) (t:Tok) (c:Int) (u:Tok) (prog:Program) (w:World) (E:Value->Shared->Prop) (Q:Value->Shared->Prop) (h:Q (.bool (decide (c < a))) s) :
  wpAny (model prog w) A (richCompare .Gt (.int a t) (.int c u)) Q E s :=
 (PyProof.Rows.gt_int h:wpAny (model prog w) A (compareOp .Gt (.int a t) (.int c u)) Q E s)
section
open PySem.SeqAt
open PySem.AutoSeq1 (wpAny_loadPart')
open PySem.MeetsSeq PySem.MeetsSeq2 PySem.MeetsSeq3
theorem zjH (l b:Addr) (items items2:Array Value) (n n2:Nat) (dd dd2:Option Addr) (sl sl2:Array (Option Value)) (ns ms:List Int) (hi:IntsAre items.toList ns) (hj:IntsAre items2.toList ms) :
  Meets (Builtin.«tuple.__gt__» ⟨[.ref l,.ref b],[]⟩)
   (fun _ R s=>s.heap.get? l=some { cls:=.type "tuple",dict:=dd,data:=.seq items n,slots:=sl }/\s.heap.get? b=some { cls:=.type "tuple",dict:=dd2,data:=.seq items2 n2,slots:=sl2 } /\
    R (.ok (.ret (.bool (zgh ns ms)))) s) :=
 .of_wp fun prog w A R s h=>by
  obtain ⟨hp,g,d,tk,os⟩:=s;obtain ⟨hl,hb,h⟩:=h
  have f2:=AutoSeq1.sub_tuple_tuple
  have z1:items.size=ns.length:=by rw [<- hi.length];simp
  have z2:items2.size=ms.length:=by rw [<- hj.length];simp
  wp_walk using wpAny_loadPart' hl,wpAny_loadPart' hb,wpAny_forIn_list _ (fun rest b s'=>b.1=none/\s'=⟨hp,g,d,tk,os⟩/\∃ (vs ws:List Value) (ns' ms':List Int),rest=vs.zip ws /\
   IntsAre vs ns'/\IntsAre ws ms'/\ns'.length + items2.size=ms'.length + items.size/\R (.ok (.ret (.bool (zgh ns' ms')))) ⟨hp,g,d,tk,os⟩) _
  case turn =>
   rintro ⟨y,x⟩ rest b s' ⟨hb',rfl,vs,ws,ns',ms',hz,hvi,hwi,hlen,hR⟩
   cases hvi with
   | nil=>rw [List.zip_nil_left] at hz;cases hz
   | cons a t hvi' =>
    cases hwi with
    | nil=>rw [List.zip_nil_right] at hz;cases hz
    | cons c u hwi' =>
     rw [List.zip_cons_cons] at hz
     injection hz with hyx hrest
     injection hyx with hy hx
     subst hy hx
     rw [zof] at hR
     simp only [List.length_cons] at hlen
     obtain ⟨e,he,hiff⟩:=HT.zhl A.in1 ⟨hp,g,d,tk,os⟩ a t c u
     refine wpAny_bind (he prog w _ _ ?_)
     cases e with
     | true =>
      rw [if_pos (hiff.mp rfl)] at hR
      wp_walk
      exact ⟨rfl,rfl,_,_,_,_,hrest,hvi',hwi',by omega,hR⟩
     | false =>
      rw [if_neg (fun q=>absurd (hiff.mpr q) Bool.false_ne_true)] at hR
      have hri:=zrk A.in1 ⟨hp,g,d,tk,os⟩ a t c u prog w
      wp_walk using hri
      exact ⟨_,rfl,by simpa using hR⟩
  case fin =>
   rintro ⟨b1,b2⟩ s' ⟨hb',rfl,vs,ws,ns',ms',hz,hvi,hwi,hlen,hR⟩
   simp only at hb'
   subst hb'
   have hv:zgh ns' ms'=decide (items2.size < items.size):=by
    cases hvi with
    | nil =>
     cases hwi with
     | nil =>
      simp only [List.length_nil] at hlen
      rw [zj6]
      exact (decide_eq_false (by omega)).symm
     | cons c u hw =>
      simp only [List.length_nil,List.length_cons] at hlen
      rw [ziQ]
      exact (decide_eq_false (by omega)).symm
    | cons a t hv =>
     cases hwi with
     | nil =>
      simp only [List.length_nil,List.length_cons] at hlen
      rw [ziR]
      exact (decide_eq_true (by omega)).symm
     | cons c u hw =>
      rw [List.zip_cons_cons] at hz
      cases hz
   rw [hv] at hR
   wp_walk
   exact ⟨_,rfl,by simpa [Builtin.Tuple.tupleCompareSizes] using hR⟩
  case h =>
   exact ⟨rfl,rfl,items.toList,items2.toList,ns,ms,rfl,hi,hj,by omega,h⟩
end
section
variable {prog:Program} {w:World} {A:Around} {E:Value->Shared->Prop} {s:Shared}
theorem zor {l b:Addr} {items items2:Array Value} {ns ms:List Int} {Q:Value->Shared->Prop} (hl:IsTup s.heap l items) (hb:IsTup s.heap b items2) (hi:IntsAre items.toList ns) (hj:IntsAre items2.toList ms)
  (hu:A.units < cLine) (h:Q (.bool (zgh ns ms)) s):wpAny (model prog w) A (compareOp .Gt (.ref l) (.ref b)) Q E s:=by
 obtain ⟨⟨cls,dd,data,sl⟩,ho,hc,n,hd⟩:=id hl
 obtain ⟨⟨cls2,dd2,data2,sl2⟩,ho2,hc2,n2,hd2⟩:=id hb
 simp only at hc hd hc2 hd2
 subst hc hd hc2 hd2
 exact richCompare_meets_room (op:=.Gt) ⟨_,ho,rfl⟩ ⟨_,ho2,rfl⟩ PySem.F.slot_tuple_gt PySem.F.entry_tuple_gt (PySem.F.args_tuple_gt_2 _ _) (zjH l b items items2 n n2 dd dd2 sl sl2 ns ms hi hj)
  ⟨ho,ho2,show Value.bool (zgh ns ms) ≠ Value.notImplemented/\Q (.bool (zgh ns ms)) s from ⟨(fun x=>nomatch x),h⟩⟩ hu
end
theorem zog (x y:Int) (xs ys:List Int):zgi (x :: xs) (y :: ys)=if x=y then zgi xs ys else decide (y<=x):=rfl
theorem zj7:zgi [] []=true:=rfl
theorem ziS (y:Int) (ys:List Int):zgi [] (y :: ys)=false:=rfl
theorem ziT (x:Int) (xs:List Int):zgi (x :: xs) []=true:=rfl
theorem zpe (A:Around) (s:Shared) (a:Int) (t:Tok) (c:Int) (u:Tok) (prog:Program) (w:World) (E:Value->Shared->Prop) (Q:Value->Shared->Prop) (h:Q (.bool (decide (c<=a))) s) :
  wpAny (model prog w) A (richCompare .GtE (.int a t) (.int c u)) Q E s :=
 (PyProof.Rows.ge_int h:wpAny (model prog w) A (compareOp .GtE (.int a t) (.int c u)) Q E s)
section
open PySem.SeqAt
open PySem.AutoSeq1 (wpAny_loadPart')
open PySem.MeetsSeq PySem.MeetsSeq2 PySem.MeetsSeq3
theorem zjI (l b:Addr) (items items2:Array Value) (n n2:Nat) (dd dd2:Option Addr) (sl sl2:Array (Option Value)) (ns ms:List Int) (hi:IntsAre items.toList ns) (hj:IntsAre items2.toList ms) :
  Meets (Builtin.«tuple.__ge__» ⟨[.ref l,.ref b],[]⟩)
   (fun _ R s=>s.heap.get? l=some { cls:=.type "tuple",dict:=dd,data:=.seq items n,slots:=sl }/\s.heap.get? b=some { cls:=.type "tuple",dict:=dd2,data:=.seq items2 n2,slots:=sl2 } /\
    R (.ok (.ret (.bool (zgi ns ms)))) s) :=
 .of_wp fun prog w A R s h=>by
  obtain ⟨hp,g,d,tk,os⟩:=s;obtain ⟨hl,hb,h⟩:=h
  have f2:=AutoSeq1.sub_tuple_tuple
  have z1:items.size=ns.length:=by rw [<- hi.length];simp
  have z2:items2.size=ms.length:=by rw [<- hj.length];simp
  wp_walk using wpAny_loadPart' hl,wpAny_loadPart' hb,wpAny_forIn_list _ (fun rest b s'=>b.1=none/\s'=⟨hp,g,d,tk,os⟩/\∃ (vs ws:List Value) (ns' ms':List Int),rest=vs.zip ws /\
   IntsAre vs ns'/\IntsAre ws ms'/\ns'.length + items2.size=ms'.length + items.size/\R (.ok (.ret (.bool (zgi ns' ms')))) ⟨hp,g,d,tk,os⟩) _
  case turn =>
   rintro ⟨y,x⟩ rest b s' ⟨hb',rfl,vs,ws,ns',ms',hz,hvi,hwi,hlen,hR⟩
   cases hvi with
   | nil=>rw [List.zip_nil_left] at hz;cases hz
   | cons a t hvi' =>
    cases hwi with
    | nil=>rw [List.zip_nil_right] at hz;cases hz
    | cons c u hwi' =>
     rw [List.zip_cons_cons] at hz
     injection hz with hyx hrest
     injection hyx with hy hx
     subst hy hx
     rw [zog] at hR
     simp only [List.length_cons] at hlen
     obtain ⟨e,he,hiff⟩:=HT.zhl A.in1 ⟨hp,g,d,tk,os⟩ a t c u
     refine wpAny_bind (he prog w _ _ ?_)
     cases e with
     | true =>
      rw [if_pos (hiff.mp rfl)] at hR
      wp_walk
      exact ⟨rfl,rfl,_,_,_,_,hrest,hvi',hwi',by omega,hR⟩
     | false =>
      rw [if_neg (fun q=>absurd (hiff.mpr q) Bool.false_ne_true)] at hR
      have hri:=zpe A.in1 ⟨hp,g,d,tk,os⟩ a t c u prog w
      wp_walk using hri
      exact ⟨_,rfl,by simpa using hR⟩
  case fin =>
   rintro ⟨b1,b2⟩ s' ⟨hb',rfl,vs,ws,ns',ms',hz,hvi,hwi,hlen,hR⟩
   simp only at hb'
   subst hb'
   have hv:zgi ns' ms'=decide (items2.size<=items.size):=by
    cases hvi with
    | nil =>
     cases hwi with
     | nil =>
      simp only [List.length_nil] at hlen
      rw [zj7]
      exact (decide_eq_true (by omega)).symm
     | cons c u hw =>
      simp only [List.length_nil,List.length_cons] at hlen
      rw [ziS]
      exact (decide_eq_false (by omega)).symm
    | cons a t hv =>
     cases hwi with
     | nil =>
      simp only [List.length_nil,List.length_cons] at hlen
      rw [ziT]
      exact (decide_eq_true (by omega)).symm
     | cons c u hw =>
      rw [List.zip_cons_cons] at hz
      cases hz
   rw [hv] at hR
   wp_walk
   exact ⟨_,rfl,by simpa [Builtin.Tuple.tupleCompareSizes] using hR⟩
  case h =>
   exact ⟨rfl,rfl,items.toList,items2.toList,ns,ms,rfl,hi,hj,by omega,h⟩
end
section
variable {prog:Program} {w:World} {A:Around} {E:Value->Shared->Prop} {s:Shared}
theorem zot {l b:Addr} {items items2:Array Value} {ns ms:List Int} {Q:Value->Shared->Prop} (hl:IsTup s.heap l items) (hb:IsTup s.heap b items2) (hi:IntsAre items.toList ns) (hj:IntsAre items2.toList ms)
  (hu:A.units < cLine) (h:Q (.bool (zgi ns ms)) s):wpAny (model prog w) A (compareOp .GtE (.ref l) (.ref b)) Q E s:=by
 obtain ⟨⟨cls,dd,data,sl⟩,ho,hc,n,hd⟩:=id hl
 obtain ⟨⟨cls2,dd2,data2,sl2⟩,ho2,hc2,n2,hd2⟩:=id hb
 simp only at hc hd hc2 hd2
 subst hc hd hc2 hd2
 exact richCompare_meets_room (op:=.GtE) ⟨_,ho,rfl⟩ ⟨_,ho2,rfl⟩ PySem.F.slot_tuple_ge PySem.F.entry_tuple_ge (PySem.F.args_tuple_ge_2 _ _) (zjI l b items items2 n n2 dd dd2 sl sl2 ns ms hi hj)
  ⟨ho,ho2,show Value.bool (zgi ns ms) ≠ Value.notImplemented/\Q (.bool (zgi ns ms)) s from ⟨(fun x=>nomatch x),h⟩⟩ hu
end
end FL
namespace FL
open PySem L2 PySem.Spec
open PyProof.Rows hiding St
variable [Cs]
section
variable {K:PySem.W.Frag} {H:Hp}
mutual
theorem Fz.is:∀ (d:PyData) (v:V),PyData.canLay0 d=true->Fz K H d v->Is K H d v
 | .none,v,_,h=>by simp only [Fz] at h;simp only [Is];exact h
 | .bool b,v,_,h=>by simp only [Fz] at h;simp only [Is];exact h
 | .int i,v,_,h=>by simp only [Fz] at h;simp only [Is];exact h
 | .str x,v,_,h=>by simp only [Fz] at h;simp only [Is];exact h
 | .list xs,v,c,h=>by
  simp only [Fz] at h;simp only [Is]
  obtain ⟨a,vs,e1,h1,h2⟩:=h
  exact ⟨a,vs,e1,h1.sq,zaj.is xs vs c h2⟩
 | .tuple xs,v,c,h=>by
  simp only [Fz] at h;simp only [Is]
  obtain ⟨a,vs,e1,h1,h2⟩:=h
  exact ⟨a,vs,e1,.inl h1,zaj.is xs vs c h2⟩
 | .dict kvs,v,c,h=>by simp [PyData.canLay0] at c
theorem zaj.is:∀ (ds:List PyData) (vs:List V),PyData.canLayAll0 ds=true->zaj K H ds vs->zgC K H ds vs
 | [],vs,_,h=>by simp only [zaj] at h;simp only [zgC];exact h
 | d :: ds,vs,c,h=>by
  simp only [PyData.canLayAll0,Bool.and_eq_true] at c
  simp only [zaj] at h;simp only [zgC]
  obtain ⟨v,r,e1,h1,h2⟩:=h
  exact ⟨v,r,e1,Fz.is d v c.1 h1,zaj.is ds r c.2 h2⟩
end
theorem Tp.is {d:PyData} {v:V} (c:PyData.canLay0 d=true) (h:Tp K H d v):Is K H d v:=by
 cases d with
 | list ds =>
  obtain ⟨a,vs,e,h1,h2⟩:=h
  simp only [Is]
  exact ⟨a,vs,e,h1,zaj.is ds vs c h2⟩
 | dict kvs=>simp [PyData.canLay0] at c
 | none=>exact Fz.is _ _ c h
 | bool b=>exact Fz.is _ _ c h
 | int b=>exact Fz.is _ _ c h
 | str b=>exact Fz.is _ _ c h
 | tuple b=>exact Fz.is _ _ c h
theorem Tp.int {i:Int} {v:V} (h:Tp K H (.int i) v):v=.int i:=by simpa [Tp,Fz] using h
theorem Tp.bool {i:Bool} {v:V} (h:Tp K H (.bool i) v):v=.bl i:=by simpa [Tp,Fz] using h
theorem Tp.none {v:V} (h:Tp K H .none v):v=.non:=by simpa [Tp,Fz] using h
theorem Tp.zyw {ds:List PyData} {v:V} (h:Tp K H (.tuple ds) v):∃ a vs,v=.ref a/\TAt H a vs/\zaj K H ds vs:=by simpa [Tp,Fz] using h
theorem Tp.tup {ds:List PyData} {v:V} (h:Tp K H (.tuple ds) v):∃ a vs,v=.ref a/\SqT K H a vs/\zaj K H ds vs :=
 let ⟨a,vs,x,y,z⟩:=Tp.zyw h
 ⟨a,vs,x,.inl y,z⟩
theorem Tp.lst {ds:List PyData} {v:V} (h:Tp K H (.list ds) v):∃ a vs,v=.ref a/\SqL K H a vs/\zaj K H ds vs:=h
theorem zfW (i:Int):Fz K H (.int i) (.int i):=by simp [Fz]
theorem zmw (i:Bool):Fz K H (.bool i) (.bl i):=by simp [Fz]
theorem zqh {a:Addr} {vs:List V} {ds:List PyData} (h:TAt H a vs) (f:zaj K H ds vs):Fz K H (.tuple ds) (.ref a):=by simp only [Fz];exact ⟨a,vs,rfl,h,f⟩
theorem zaj.atI {ds:List PyData} {vs:List V} {i:Int} {d:PyData} (h:zaj K H ds vs) (e:FL.atI ds i=some d):∃ v,L2.atI vs i=some v/\Fz K H d v:=by
 unfold FL.atI at e
 cases en:FL.ixN ds.length i with
 | none=>rw [en] at e;cases e
 | some j =>
  rw [en] at e
  obtain ⟨v,e1,f⟩:=h.get (show ds[j]?=some d from e)
  refine ⟨v,?_,f⟩
  unfold L2.atI
  rw [h.len,show L2.ixN ds.length i=some j from en]
  exact e1
theorem zaj.cut {ds:List PyData} {vs:List V} (h:zaj K H ds vs) (lo hi:Option Int):zaj K H (FL.cut ds lo hi) (zsq vs lo hi):=by
 unfold FL.cut zsq
 rw [h.len]
 exact (h.drop _).take _
end
theorem zbG {α:Type} {c:Bool} {r:R α} {d:α} (h:chk c r=.ok d):c=true/\r=.ok d:=by
 cases c with
 | true=>exact ⟨rfl,h⟩
 | false=>exact nomatch (show (R.bad:R α)=.ok d from h)
section
variable {X:Cx}
theorem zlj {pins:List (Addr × Obj)} {σ:L2.St} {s:Shared} {H:Hp} {Q:VK} {w:Value} {ds:List D} {vs:List V} (f:zaj X.K H ds vs) (q:∀ v H',zbs H H'->Fz X.K H' (.list ds) v->Q v H')
  (h:EP X pins σ (fun v H1=>∃ p,v=.ref p/\H p=none/\H1=upd H p (.lst vs)) w s):EP X pins σ Q w s:=by
 obtain ⟨v,H1,I,r,p,rfl,hp,rfl⟩:=h
 refine zwM ⟨.ref p,_,I,r,p,.lst vs,rfl,zan,trivial,fun o=>?_⟩
 rw [zhy]
 refine q _ _ (zbs.upd hp) ?_
 simp only [Fz]
 exact ⟨p,vs,rfl,.inl ⟨o,zan⟩,f.mono (Fzn.of (zbs.upd hp))⟩
theorem zb5:OpR X (binaryOp .Add) (rD X.K zaY):=by
 intro pins s σ H x y v u Q I rx ry h
 obtain ⟨dx,dy,d,tx,ty,e,q⟩:=h
 cases dx with
 | int i =>
  cases dy with
  | int j=>cases e;exact zv6 pins s σ H x y v u Q I rx ry ⟨i,j,tx.int,ty.int,q _ H (zbs.refl _) (zfW _)⟩
  | _=>exact nomatch (show (R.bad:R D)=.ok d from e)
 | list a =>
  cases dy with
  | list b =>
   obtain ⟨c,e⟩:=zbG (show chk (leB (a.length + b.length) lim) (.ok (.list (a ++ b)))=.ok d from e)
   ·cases e
    obtain ⟨l,xs,rfl,sx,fx⟩:=tx.lst
    obtain ⟨m,ys,rfl,sy,fy⟩:=ty.lst
    cases rx
    cases ry
    obtain ⟨its,r1,⟨o,n,ho,hc,hdn,hd⟩,z1⟩:=I.list sx
    obtain ⟨its2,r2,⟨o2,n2,ho2,hc2,hdn2,hd2⟩,z2⟩:=I.list sy
    obtain ⟨cls,dd,data,sl⟩:=o
    obtain ⟨cls2,dd2,data2,sl2⟩:=o2
    simp only at hc hd hc2 hd2 hdn hdn2
    subst hc hd hc2 hd2 hdn hdn2
    have hz:its.length + its2.length<=sizeLine:=by
     have:=zhV c
     have l0:=zcz
     rw [<- r1.length,<- r2.length,fx.len,fy.len]
     omega
    refine thn (concat_meets (Q:=EP X pins σ fun v H1=>∃ p,v=.ref p/\H p=none/\H1=upd H p (.lst (xs ++ ys))) ⟨_,ho,rfl⟩ ⟨_,ho2,rfl⟩ PySem.noFill_list_add PySem.seq_list_add PySem.F.slot_list_add PySem.F.entry_list_add (PySem.F.args_list_add_2 _ _)
     (list_addW l m its.toArray its2.toArray n n2 none none sl sl2 (by rw [List.size_toArray,List.size_toArray];exact hz)) ⟨ho,ho2,?_⟩) fun _ _ z=>zlj (fx.app fy) q z
    have ea:its.toArray ++ its2.toArray=(its ++ its2).toArray:=by simp
    rw [ea]
    exact ⟨.ref _,_,I.zyi (t':=s.toks) (r1.append r2) (by rw [List.length_append,r1.length,r2.length];exact hz),rfl,_,rfl,I.fresh,rfl⟩
  | _=>exact nomatch (show (R.bad:R D)=.ok d from e)
 | tuple a =>
  cases dy with
  | tuple b =>
   obtain ⟨c,e⟩:=zbG (show chk (leB (a.length + b.length) lim) (.ok (.tuple (a ++ b)))=.ok d from e)
   ·cases e
    obtain ⟨l,xs,rfl,sx,fx⟩:=tx.tup
    obtain ⟨m,ys,rfl,sy,fy⟩:=ty.tup
    have hz:xs.length + ys.length<=sizeLine:=by
     have:=zhV c
     have l0:=zcz
     rw [fx.len,fy.len]
     omega
    by_cases x0:xs=[]
    ·subst x0
     have a0:a=[]:=by have:=fx.len;cases a with | nil=>rfl | cons _ _=>simp at this
     subst a0
     cases rx
     cases ry
     obtain ⟨its,r1,p1,z1⟩:=I.tuple sx
     obtain ⟨its2,r2,p2,z2⟩:=I.tuple sy
     cases r1
     obtain ⟨⟨cls,dd,data,sl⟩,ho,hc,n,hd⟩:=id p1
     obtain ⟨⟨cls2,dd2,data2,sl2⟩,ho2,hc2,n2,hd2⟩:=id p2
     simp only at hc hd hc2 hd2
     subst hc hd hc2 hd2
     exact concat_meets ⟨_,ho,rfl⟩ ⟨_,ho2,rfl⟩ noFill_tuple_add seq_tuple_add PySem.F.slot_tuple_add PySem.F.entry_tuple_add (PySem.F.args_tuple_add_2 _ _)
      (tuple_addW0 l m #[] its2.toArray n n2 dd dd2 sl sl2 rfl) ⟨ho,ho2,⟨.ref m,H,I.tok _,rfl,q _ H (zbs.refl _) ty⟩⟩
    ·exact zuh pins s σ H _ _ v u Q I rx ry ⟨l,m,xs,ys,rfl,rfl,sx,sy,x0,hz,fun y0=>by
      subst y0
      have b0:b=[]:=by have:=fy.len;cases b with | nil=>rfl | cons _ _=>simp at this
      subst b0
      rw [List.append_nil] at q
      exact q _ H (zbs.refl _) tx,fun _ p hp=>q _ _ (zbs.upd hp) (zqh (.inl zan) ((fx.app fy).mono (Fzn.of (zbs.upd hp))))⟩
  | _=>exact nomatch (show (R.bad:R D)=.ok d from e)
 | _=>exact nomatch (show (R.bad:R D)=.ok d from e)
theorem zrN {f:Value->Value->Sem Value} {C:Int->Int->Prop} {g:Int->Int->Int} {c:Int->Int->Bool} {G:D->D->R D} (ho:OpR X f (rI C fun i j=>.int (g i j))) (hC:∀ i j,c i j=true->C i j)
  (hG:∀ dx dy d,G dx dy=.ok d->∃ i j,dx=.int i/\dy=.int j/\c i j=true/\d=.int (g i j)):OpR X f (rD X.K G):=by
 intro pins s σ H x y v u Q I rx ry h
 obtain ⟨dx,dy,d,tx,ty,e,q⟩:=h
 obtain ⟨i,j,rfl,rfl,cc,rfl⟩:=hG _ _ _ e
 exact ho pins s σ H x y v u Q I rx ry ⟨i,j,tx.int,ty.int,hC i j cc,q _ H (zbs.refl _) (zfW _)⟩
theorem zsc {c:Int->Int->Bool} {g:Int->Int->Int} {G:D->D->R D} (h:∀ i j,G (.int i) (.int j)=chk (c i j) (.ok (.int (g i j)))) (h0:∀ dx dy,(¬ ∃ i j,dx=.int i/\dy=.int j)->G dx dy=.bad) :
  ∀ dx dy d,G dx dy=.ok d->∃ i j,dx=.int i/\dy=.int j/\c i j=true/\d=.int (g i j):=by
 intro dx dy d e
 by_cases k:∃ i j,dx=.int i/\dy=.int j
 ·obtain ⟨i,j,rfl,rfl⟩:=k
  rw [h] at e
  obtain ⟨cc,e⟩:=zbG e
  cases e
  exact ⟨i,j,rfl,rfl,cc,rfl⟩
 ·rw [h0 _ _ k] at e;cases e
theorem znb {dx dy:D} {G:D->D->R D} (hb:∀ dx dy,(∀ i,dx ≠ .int i)->G dx dy=.bad) (hb2:∀ i dy,(∀ j,dy ≠ .int j)->G (.int i) dy=.bad) (h:¬ ∃ i j,dx=.int i/\dy=.int j):G dx dy=.bad:=by
 cases dx with
 | int i=>exact hb2 i dy fun j e=>h ⟨i,j,rfl,e⟩
 | _=>exact hb _ _ fun i e=>nomatch e
theorem zmb:OpR X (binaryOp .Sub) (rD X.K ze4):=zrN (C:=fun _ _=>True) (c:=fun _ _=>true) (g:=fun i j=>i - j)
 (fun pins s σ H x y v u Q I rx ry ⟨i,j,e1,e2,_,q⟩=>zv1 pins s σ H x y v u Q I rx ry ⟨i,j,e1,e2,q⟩) (fun _ _ _=>trivial)
 (zsc (fun _ _=>rfl) fun dx dy h=>znb (fun dx dy h=>by cases dx <;> first | rfl | exact absurd rfl (h _)) (fun i dy h=>by cases dy <;> first | rfl | exact absurd rfl (h _)) h)
theorem zrT {i j:Int} (h:zpG i j=true):IntMulOk i j:=by
 have:=zhV h
 have b:∀ k:Int,k.natAbs < 2 ^ (k.natAbs.log2 + 1):=fun k=>Nat.lt_log2_self
 exact mulOk_of (a:=i.natAbs.log2 + 1) (b:=j.natAbs.log2 + 1) (b i) (b j) (by omega)
theorem zrL {k:Nat} (hr:zc7 k X.A):OpR X (binaryOp .FloorDiv) (rI (fun _ j=>j ≠ 0) fun i j=>.int (i.fdiv j)):=by
 intro pins s σ H x y v u Q I rx ry h
 obtain ⟨i,j,rfl,rfl,hc,q⟩:=h
 obtain ⟨t,rfl⟩:=rx
 obtain ⟨t',rfl⟩:=ry
 exact floordiv_int hc ⟨.int (i.fdiv j),H,I.tok _,⟨_,rfl⟩,q⟩ (.inr (I.pyl (by have:=hr.dp;omega)))
theorem zgK {k:Nat} (hr:zc7 k X.A):OpR X (binaryOp .FloorDiv) (rD X.K zbM):=zrN (C:=fun _ j=>j ≠ 0) (c:=fun i j=>decide (j ≠ 0)) (g:=fun i j=>i.fdiv j) (zrL hr) (fun i j h=>by simpa using h)
 (zsc (fun _ _=>rfl) fun dx dy h=>znb (fun dx dy h=>by cases dx <;> first | rfl | exact absurd rfl (h _)) (fun i dy h=>by cases dy <;> first | rfl | exact absurd rfl (h _)) h)
theorem zmc:OpR X (binaryOp .Mod) (rD X.K zj1):=zrN (C:=fun _ j=>j ≠ 0) (c:=fun i j=>decide (j ≠ 0)) (g:=fun i j=>i.fmod j) zug (fun i j h=>by simpa using h)
 (zsc (fun _ _=>rfl) fun dx dy h=>znb (fun dx dy h=>by cases dx <;> first | rfl | exact absurd rfl (h _)) (fun i dy h=>by cases dy <;> first | rfl | exact absurd rfl (h _)) h)
theorem zkV:OpR X (binaryOp .Pow) (rD X.K zjg):=zrN (C:=zyv) (c:=fun i j=>decide (0<=j) && leB j.toNat 1000000 && leB i.natAbs 18446744073709551615) (g:=fun i j=>i ^ j.toNat) zv3 (fun i j h=>by simp only [Bool.and_eq_true,decide_eq_true_eq,leB_iff] at h;exact ⟨h.1.1,by omega,by omega⟩)
 (zsc (fun _ _=>rfl) fun dx dy h=>znb (fun dx dy h=>by cases dx <;> first | rfl | exact absurd rfl (h _)) (fun i dy h=>by cases dy <;> first | rfl | exact absurd rfl (h _)) h)
theorem zrf:UnR X (unaryOp .USub) (rD1 X.K zkY):=by
 intro pins s σ H x v Q I rx h
 obtain ⟨dx,d,tx,e,q⟩:=h
 cases dx with
 | int i=>cases e;exact zve pins s σ H x v Q I rx ⟨i,tx.int,q _ H (zbs.refl _) (zfW _)⟩
 | _=>exact nomatch (show (R.bad:R D)=.ok d from e)
theorem zyW (hu:X.A.units + 64 < cLine):OpR X (compareOp .Eq) (rD X.K eqD):=by
 intro pins s σ H x y v u Q I rx ry h
 obtain ⟨dx,dy,d,tx,ty,e,q⟩:=h
 obtain ⟨c,e⟩:=zbG e
 ·cases e
  simp only [Bool.and_eq_true] at c
  exact zv5 hu pins s σ H x y v u Q I rx ry ⟨dx,dy,tx.is (SeqAt.canLay_of_shaped c.1),ty.is (SeqAt.canLay_of_shaped c.2),c.1,c.2,q _ H (zbs.refl _) (zmw _)⟩
theorem zyR (hu:X.A.units + 64 < cLine):OpR X (compareOp .NotEq) (rD X.K neD):=by
 intro pins s σ H x y v u Q I rx ry h
 obtain ⟨dx,dy,d,tx,ty,e,q⟩:=h
 obtain ⟨c,e⟩:=zbG e
 ·cases e
  simp only [Bool.and_eq_true] at c
  exact zv4 hu pins s σ H x y v u Q I rx ry ⟨dx,dy,tx.is (SeqAt.canLay_of_shaped c.1),ty.is (SeqAt.canLay_of_shaped c.2),c.1,c.2,q _ H (zbs.refl _) (zmw _)⟩
theorem zni:∀ a b,FL.lexLt a b=HT.lexLt a b
 | [],[]=>rfl
 | [],_ :: _=>rfl
 | _ :: _,[]=>rfl
 | x :: xs,y :: ys=>by unfold FL.lexLt HT.lexLt;rw [zni xs ys]
theorem zrO {op:CmpOp} {p:Int->Int->Bool} {q:List Int->List Int->Bool} (hi:OpR X (compareOp op) (rI0 fun i j=>.bl (p i j)))
  (ht:∀ {s:Shared} {l b:Addr} {items items2:Array Value} {ns ms:List Int} {Q:Value->Shared->Prop},IsTup s.heap l items->IsTup s.heap b items2->IntsAre items.toList ns->IntsAre items2.toList ms ->
   Q (.bool (q ns ms)) s->wpAny (model X.prog X.w) X.A (compareOp op (.ref l) (.ref b)) Q X.xe s):OpR X (compareOp op) (rD X.K (zwT p q)):=by
 intro pins s σ H x y v u Q I rx ry h
 obtain ⟨dx,dy,d,tx,ty,e,k⟩:=h
 cases dx with
 | int i =>
  cases dy with
  | int j=>cases e;exact hi pins s σ H x y v u Q I rx ry ⟨i,j,tx.int,ty.int,k _ H (zbs.refl _) (zmw _)⟩
  | _=>exact nomatch (show (R.bad:R D)=.ok d from e)
 | tuple a =>
  cases dy with
  | tuple b =>
   replace e:((R.of (intsOf a)).bind fun x=>(R.of (intsOf b)).bind fun y=>R.ok (PyData.bool (q x y)))=.ok d:=e
   cases ea:intsOf a with
   | none=>rw [ea] at e;cases e
   | some ns =>
    cases eb:intsOf b with
    | none=>rw [ea,eb] at e;cases e
    | some ms =>
     rw [ea,eb] at e
     cases e
     obtain ⟨l,xs,rfl,sx,fx⟩:=tx.tup
     obtain ⟨m,ys,rfl,sy,fy⟩:=ty.tup
     cases rx
     cases ry
     obtain ⟨rfl,_⟩:=fx.ints ea
     obtain ⟨rfl,_⟩:=fy.ints eb
     obtain ⟨its,r1,p1,_⟩:=I.tuple sx
     obtain ⟨its2,r2,p2,_⟩:=I.tuple sy
     exact ht p1 p2 (intsAre_of r1) (intsAre_of r2) ⟨.bl (q ns ms),H,I,rfl,k _ H (zbs.refl _) (zmw _)⟩
  | _=>exact nomatch (show (R.bad:R D)=.ok d from e)
 | _=>exact nomatch (show (R.bad:R D)=.ok d from e)
theorem zyS (hu:X.A.units + 64 < cLine):OpR X (compareOp .Lt) (rD X.K ltD):=zrO zxD fun p1 p2 i1 i2 h=>HT.zob p1 p2 i1 i2 (by omega) (by rw [<- zni];exact h)
theorem zyT (hu:X.A.units + 64 < cLine):OpR X (compareOp .LtE) (rD X.K leD):=zrO zxE fun p1 p2 i1 i2 h=>zoh p1 p2 i1 i2 (by omega) h
theorem zyU (hu:X.A.units + 64 < cLine):OpR X (compareOp .Gt) (rD X.K gtD):=zrO zxF fun p1 p2 i1 i2 h=>zor p1 p2 i1 i2 (by omega) h
theorem zyV (hu:X.A.units + 64 < cLine):OpR X (compareOp .GtE) (rD X.K geD):=zrO zxG fun p1 p2 i1 i2 h=>zot p1 p2 i1 i2 (by omega) h
theorem zv7:OpR X (compareOp .IsNot) (rD X.K zwc):=by
 intro pins s σ H x y v u Q I rx ry h
 obtain ⟨dx,dy,d,tx,ty,e,q⟩:=h
 cases dy with
 | none =>
  refine zud pins s σ H x y v u Q I rx ry ⟨ty.none,?_⟩
  have:d=.bool (!decide (x=.non)):=by
   cases dx with
   | none=>have:=tx.none;subst this;cases e;rfl
   | bool b=>have:=tx.bool;subst this;cases e;rfl
   | int b=>have:=tx.int;subst this;cases e;rfl
   | str b =>
    have:x=.str b:=by simpa [Tp,Fz] using tx
    subst this;cases e;rfl
   | list b=>obtain ⟨_,_,rfl,_⟩:=tx.lst;cases e;rfl
   | tuple b=>obtain ⟨_,_,rfl,_⟩:=tx.tup;cases e;rfl
   | dict b=>obtain ⟨_,rfl,_⟩:=tx;cases e;rfl
  subst this
  exact q _ H (zbs.refl _) (zmw _)
 | _=>exact nomatch (show (R.bad:R D)=.ok d from e)
theorem zbO:IxR X (rD X.K ixD):=by
 intro value slice pins s σ H x y v u Q I rx ry h hs
 obtain ⟨dx,dy,d,tx,ty,e,q⟩:=h
 cases dx with
 | list a =>
  cases dy with
  | int i =>
   replace e:R.of (FL.atI a i)=.ok d:=e
   cases ea:FL.atI a i with
   | none=>rw [ea] at e;cases e
   | some d' =>
    rw [ea] at e
    cases e
    obtain ⟨l,xs,rfl,sx,fx⟩:=tx.lst
    obtain ⟨w,ew,fw⟩:=fx.atI ea
    exact zgn value slice pins s σ H _ y v u Q I rx ry ⟨l,xs,i,w,rfl,ty.int,sx,ew,q _ H (zbs.refl _) fw⟩ hs
  | _=>exact nomatch (show (R.bad:R D)=.ok d from e)
 | tuple a =>
  cases dy with
  | int i =>
   replace e:R.of (FL.atI a i)=.ok d:=e
   cases ea:FL.atI a i with
   | none=>rw [ea] at e;cases e
   | some d' =>
    rw [ea] at e
    cases e
    obtain ⟨l,xs,rfl,sx,fx⟩:=tx.tup
    obtain ⟨w,ew,fw⟩:=fx.atI ea
    exact zwx value slice pins s σ H _ y v u Q I rx ry ⟨l,xs,i,w,rfl,ty.int,sx,ew,q _ H (zbs.refl _) fw⟩ hs
  | _=>exact nomatch (show (R.bad:R D)=.ok d from e)
 | _=>exact nomatch (show (R.bad:R D)=.ok d from e)
theorem zfB:zx7 X (fun x H Q=>∃ d k,Tp X.K H d x/\zhG d=.ok k/\Q k H):=by
 intro pins s σ H x v Q I rx h
 obtain ⟨d,k,tx,e,q⟩:=h
 refine zvg pins s σ H x v Q I rx ⟨k,?_,q⟩
 cases d with
 | none=>have:=tx.none;subst this;cases e;rfl
 | bool b=>have:=tx.bool;subst this;cases e;rfl
 | int b=>have:=tx.int;subst this;cases e;rfl
 | list b =>
  obtain ⟨a,vs,rfl,sx,fx⟩:=tx.lst
  cases e
  refine .inl ⟨vs,sx,?_⟩
  have:=fx.len
  cases b <;> cases vs <;> simp_all
 | tuple b =>
  obtain ⟨a,vs,rfl,sx,fx⟩:=tx.tup
  cases e
  refine .inr (.inl ⟨vs,sx,?_⟩)
  have:=fx.len
  cases b <;> cases vs <;> simp_all
 | _=>exact nomatch (show (R.bad:R Bool)=.ok k from e)
end
end FL
namespace FL
open PySem L2 PySem.Spec
open PyProof.Rows hiding St
variable [Cs]
theorem zg5:fillsNumberSlot (.type "tuple") "mul"=pure false :=
 PySem.fillsNumberSlot_seq (id:="tuple.__mul__") (r:=some (.builtin "tuple.__rmul__")) PySem.F.slot_tuple_mul.lookup (by decide +kernel) PySem.F.slot_tuple_rmul.lookup (by decide +kernel)
theorem zkO:seqRepeat? (.type "tuple")=pure (some (.builtin "tuple.__mul__")):=by
 unfold seqRepeat?
 rw [PySem.seqSlot_of (T:="tuple") (name:="__mul__") (id:="tuple.__mul__") PySem.F.slot_tuple_mul.lookup (by decide +kernel),PySem.seqSlot_of (T:="tuple") (name:="__rmul__") (id:="tuple.__rmul__") PySem.F.slot_tuple_rmul.lookup (by decide +kernel)]
 rfl
section
open PySem.SeqAt
open PySem.AutoSeq1 (wpAny_loadPart')
open PySem.MeetsSeq PySem.MeetsSeq2 PySem.MeetsSeq3
theorem ziX (a:Int) (t:Tok) (l:Addr) (items:Array Value) (n:Nat) (dd:Option Addr) (sl:Array (Option Value)) :
  Meets (Builtin.«int.__rmul__» ⟨[.int a t,.ref l],[]⟩) (fun _ R s=>s.heap.get? l=some { cls:=.type "tuple",dict:=dd,data:=.seq items n,slots:=sl }/\R (.ok (.ret Value.notImplemented)) s) :=
 .of_wp fun prog w A R s h=>by obtain ⟨hp,g,d,tk,os⟩:=s;obtain ⟨hl,h⟩:=h;wp_walk;exact ⟨_,rfl,h⟩
theorem znV (l:Addr) (items:Array Value) (n:Nat) (dd:Option Addr) (sl:Array (Option Value)) (k:Int) (t:Tok) (h0:items.isEmpty=false) (h1:2<=k) (h2:k < 2 ^ 62) (h3:items.size * k.toNat<=sizeLine) :
  Meets (Builtin.«tuple.__mul__» ⟨[.ref l,.int k t],[]⟩) (fun _ R s=>s.heap.get? l=some { cls:=.type "tuple",dict:=dd,data:=.seq items n,slots:=sl } /\
   R (.ok (.ret (.ref s.heap.objs.size))) { s with heap:=s.heap.push { cls:=.type "tuple",data:=.seq ((List.replicate k.toNat items).foldl (· ++ ·) #[]) } }) :=
 .of_wp fun prog w A R s h=>by
  obtain ⟨hp,g,d,tk,os⟩:=s;obtain ⟨hl,h⟩:=h
  have f1:=AutoSeq1.idx_int
  have i0:(items.size:Int) * k<=(sizeLine:Int):=by
   have e:((items.size * k.toNat:Nat):Int)=(items.size:Int) * k:=by rw [Int.natCast_mul,Int.toNat_of_nonneg (by omega)]
   rw [<- e]
   exact Int.ofNat_le.mpr h3
  have hA:¬ (decide (k < -2 ^ 63) || decide (k ≥ 2 ^ 63))=true:=by
   simp only [Bool.or_eq_true,decide_eq_true_eq,not_or]
   constructor <;> omega
  have hB:¬ (items.isEmpty || k == 1)=true:=by
   rw [h0]
   simp only [Bool.false_or,beq_iff_eq]
   omega
  have hC:¬ (decide (k<=0) || items.isEmpty)=true:=by
   rw [h0]
   simp only [Bool.or_false,decide_eq_true_eq]
   omega
  have sz:(sizeLine:Int)<=16777216:=by rw [sizeLine_eq];decide
  have hD:¬ (items.size:Int) * k > (2 ^ 63 - 1) / 8:=by omega
  have hE:¬ Builtin.Tuple.tupleTooMany ((items.size:Int) * k)=true:=by
   unfold Builtin.Tuple.tupleTooMany
   simp only [decide_eq_true_eq]
   omega
  have hs:sizeOk (.seq (List.foldl (fun x1 x2=>x1 ++ x2) #[] (List.replicate k.toNat items))):=by
   obtain ⟨its⟩:=items
   have:=foldl_rep its k.toNat []
   rw [List.nil_append] at this
   rw [this]
   show (List.replicate k.toNat its).flatten.toArray.size<=sizeLine
   rw [List.size_toArray,len_rep,Nat.mul_comm]
   exact h3
  wp_walk
  rw [if_neg hA]
  wp_walk using wpAny_loadPart' hl
  rw [if_neg hB]
  wp_walk
  rw [if_neg hC]
  wp_walk
  rw [if_neg hD]
  wp_walk
  rw [if_neg (show ¬ (List.foldl (fun x1 x2=>x1 ++ x2) #[] (List.replicate k.toNat items)).size > sizeLine from Nat.not_lt.mpr hs)]
  wp_walk
  exact ⟨_,rfl,h⟩
end
section
variable {prog:Program} {w:World} {A:Around} {E:Value->Shared->Prop} {s:Shared}
theorem zl2 {t sl:Addr} {items:Array Value} {vl vu:Value} {lo hi:Option Int} {Q:Value->Shared->Prop} (ht:IsTup s.heap t items) (hs:s.heap.IsSliceOf sl vl vu .none) (pl:IsPart vl lo) (pu:IsPart vu hi)
  (hw:HT.sIx items.size 0 lo=0/\HT.sIx items.size items.size hi=items.size) (h:Q (.ref t) s):wpAny (model prog w) A (getItem (.ref t) (.ref sl)) Q E s:=by
 obtain ⟨os,hos,hcs,hds⟩:=id hs
 have hTs:s.TypeIs (.ref sl) "slice":=⟨os,hos,hcs⟩
 unfold getItem
 try with_reducible refine wpAny_holding ?_
 first | refine wpAny_bind (wpAny_pure ?_) | skip
 refine wpAny_bind (wpAny_sequenceKey ht.typeIs (by decide) ?_)
 refine wpAny_bind (wpAny_callSpecial?_slot (name:=Str.ofString "__getitem__") ht.typeIs PyProof.Rows.slot_tuple_getitem
  (wpAny_call_entry PyProof.Rows.slot_tuple_getitem ht.typeIs entry_tuple_getitem ?_ (args_tuple_getitem _ _)))
 show wpAny _ _ (Builtin.Tuple.tupleItemsOf (.ref t) >>= _) _ _ s
 refine wpAny_bind (tupleItemsOf_ ht ?_)
 refine wpAny_bind (wpAny_typeOf hTs ?_)
 rw [if_pos (by decide)]
 refine wpAny_bind (HT.zdM hs pl pu ?_)
 show wpAny _ _ (if (((HT.sIx items.size 0 lo:Nat):Int) == 0 && (1:Int) == 1 && (HT.sIx items.size items.size hi - HT.sIx items.size 0 lo) == items.size)=true then _ else _) _ _ s
 rw [hw.1,hw.2,if_pos (by simp)]
 refine wpAny_bind (m:=Builtin.Tuple.tupleIsExact _) ?_
 unfold Builtin.Tuple.tupleIsExact
 refine wpAny_bind (wpAny_typeOf ht.typeIs (wpAny_pure ?_))
 rw [if_pos (by decide)]
 exact wpAny_bind (wpAny_rule (wpAny_bind (wpAny_pure (wpAny_pure ⟨_,rfl,wpAny_pure h⟩))))
end
section
variable {X:Cx}
theorem zdp:OpR X (binaryOp .Mult) (rD X.K zcd):=by
 intro pins s σ H x y v u Q I rx ry h
 obtain ⟨dx,dy,d,tx,ty,e,q⟩:=h
 cases dx with
 | int i =>
  cases dy with
  | int j =>
   obtain ⟨c,e⟩:=zbG (show chk (zpG i j) (.ok (.int (i * j)))=.ok d from e)
   cases e
   exact zuf pins s σ H x y v u Q I rx ry ⟨i,j,tx.int,ty.int,zrT c,q _ H (zbs.refl _) (zfW _)⟩
  | _=>exact nomatch (show (R.bad:R D)=.ok d from e)
 | tuple a =>
  cases dy with
  | int k =>
   obtain ⟨c,e⟩:=zbG (show chk (!a.isEmpty && leB 2 k.toNat && leB k.toNat 1000000 && leB (a.length * k.toNat) lim) (.ok (.tuple (List.replicate k.toNat a).flatten))=.ok d from e)
   cases e
   simp only [Bool.and_eq_true,leB_iff] at c
   obtain ⟨⟨⟨c0,c1⟩,c2⟩,c3⟩:=c
   obtain ⟨l,xs,rfl,sx,fx⟩:=tx.tup
   have:=ty.int
   subst this
   cases rx
   obtain ⟨t,rfl⟩:=ry
   obtain ⟨its,r1,p1,z1⟩:=I.tuple sx
   obtain ⟨⟨cls,dd,data,sl⟩,ho,hc,n,hd⟩:=id p1
   simp only at hc hd
   subst hc hd
   have hl:its.length=a.length:=by rw [<- r1.length,fx.len]
   have hz:its.length * k.toNat<=sizeLine:=by rw [hl];exact Nat.le_trans c3 zcz
   have he:its.toArray.isEmpty=false:=by
    cases its with
    | nil=>simp only [List.length_nil] at hl;cases a with | nil=>simp at c0 | cons _ _=>simp at hl
    | cons _ _=>rfl
   refine wpAny_binaryOp_repeat_ref (T:="tuple") (U:="int") (by decide) ⟨_,ho,rfl⟩ (fun s'=>typeIs_int s' k t) zg5 PySem.F.fills_int_mul PySem.F.slot_int_rmul zkO PySem.F.slot_int_index.lookup
    (call_meets PySem.F.slot_int_rmul (typeIs_int s k t) PySem.F.entry_int_rmul (PySem.F.args_int_rmul_2 _ _) (ziX k t l its.toArray n dd sl)
     ⟨ho,rfl,⟨_,ho,rfl⟩,call_meets PySem.F.slot_tuple_mul ⟨_,ho,rfl⟩ PySem.F.entry_tuple_mul (PySem.F.args_tuple_mul_2 _ _) (znV l its.toArray n dd sl k t he (by omega) (by omega) (by rw [List.size_toArray];exact hz)) ⟨ho,?_⟩⟩)
   have en:=foldl_rep its k.toNat []
   rw [List.nil_append] at en
   rw [en]
   have hp:H s.heap.objs.size=none:=I.hok.fresh (Nat.le_refl _)
   refine ⟨.ref s.heap.objs.size,_,I.laid (t':=s.toks) (o:=.tup (List.replicate k.toNat xs).flatten) (fun b ob q=>Heap.get?_push_of_some _ q) (Nat.le_refl _) ⟨by rw [len_rep,Nat.mul_comm,r1.length];exact hz,_,r1.rep k.toNat,IsTup.new _ _⟩,rfl,
    q _ _ (zbs.upd hp) (zqh (.inl zan) ((fx.rep k.toNat).mono (Fzn.of (zbs.upd hp))))⟩
  | _=>exact nomatch (show (R.bad:R D)=.ok d from e)
 | _=>exact nomatch (show (R.bad:R D)=.ok d from e)
theorem zqD {α:Type} {ds:List α} {lo hi:Option Int} (h1:FL.sIx ds.length 0 lo=0) (h2:FL.sIx ds.length ds.length hi=ds.length):FL.cut ds lo hi=ds:=by
 unfold FL.cut
 rw [h1,h2]
 simp
theorem zxn:SlR X (zyd X.K):=by
 intro pins s σ H x v vl vu lo hi sl Q I rx hs pl pu h
 obtain ⟨dx,d,tx,e,q⟩:=h
 cases dx with
 | list a =>
  cases e
  obtain ⟨l,xs,rfl,sx,fx⟩:=tx.lst
  obtain ⟨T,id,h1,h2,h3⟩:=ztB pins s σ H _ v vl vu lo hi sl (fun v H1=>∃ p,v=.ref p/\H p=none/\H1=upd H p (.lst (zsq xs lo hi))) I rx hs pl pu ⟨l,xs,rfl,sx,fun p hp=>⟨p,rfl,hp,rfl⟩⟩
  exact ⟨T,id,h1,h2,thn h3 fun _ _ z=>zlj (fx.cut lo hi) q z⟩
 | tuple a =>
  cases e
  obtain ⟨l,xs,rfl,sx,fx⟩:=tx.tup
  by_cases w:HT.sIx xs.length 0 lo=0/\HT.sIx xs.length xs.length hi=xs.length
  ·cases rx
   obtain ⟨its,r,ht,hz⟩:=I.tuple sx
   have hlen:its.toArray.size=xs.length:=by rw [List.size_toArray];exact r.length.symm
   refine ⟨"tuple",_,PyProof.Rows.slot_tuple_getitem.lookup,ht.typeIs,zl2 ht hs pl pu (by rw [hlen];exact w) ⟨.ref l,H,I,rfl,q _ H (zbs.refl _) ?_⟩⟩
   rw [fx.len] at w
   rw [zqD w.1 w.2]
   exact tx
  ·exact zvo pins s σ H _ v vl vu lo hi sl Q I rx hs pl pu ⟨l,xs,rfl,sx,w,fun p hp=>q _ _ (zbs.upd hp) (zqh (.inl zan) ((fx.cut lo hi).mono (Fzn.of (zbs.upd hp))))⟩
 | _=>exact nomatch (show (R.bad:R D)=.ok d from e)
end
end FL
namespace FL
open PySem L2 PySem.Spec
open PyProof.Rows hiding St
variable [Cs]
section
variable {X:Cx}
def CallD (X:Cx) (f:Value) (g:D->R D):Prop:=zgG X f (rD0 X.K g)
theorem CallD.ds {f:Value} {g:D->R D} (h:CallD X f g):zgG X f (rDs X.K (one g)):=fun pins s σ H xs us Q I r ⟨ds,d,fz,e,q⟩=>by
 cases ds with
 | nil=>exact nomatch (show (R.bad:R D)=.ok d from e)
 | cons d0 r0 =>
  cases r0 with
  | nil =>
   simp only [zaj] at fz
   obtain ⟨v,r',rfl,fv,e2⟩:=fz
   subst e2
   exact h pins s σ H _ us Q I r ⟨v,d0,d,rfl,fv.tp,e,q⟩
  | cons _ _=>exact nomatch (show (R.bad:R D)=.ok d from e)
theorem zeY:CallD X (.builtin "len") zbD:=by
 intro pins s σ H xs us Q I r h
 obtain ⟨x,dx,d,rfl,tx,e,q⟩:=h
 cases dx with
 | list a=>obtain ⟨p,vs,rfl,sx,fx⟩:=tx.lst;cases e;exact zgR pins s σ H _ us Q I r ⟨p,vs,rfl,.inl sx,by rw [fx.len];exact q _ H (zbs.refl _) (zfW _)⟩
 | tuple a=>obtain ⟨p,vs,rfl,sx,fx⟩:=tx.tup;cases e;exact zgR pins s σ H _ us Q I r ⟨p,vs,rfl,.inr sx,by rw [fx.len];exact q _ H (zbs.refl _) (zfW _)⟩
 | _=>exact nomatch (show (R.bad:R D)=.ok d from e)
theorem zuZ:CallD X (.builtin "abs") zqR:=by
 intro pins s σ H xs us Q I r h
 obtain ⟨x,dx,d,rfl,tx,e,q⟩:=h
 cases dx with
 | int i=>have:=tx.int;subst this;cases e;exact zsx pins s σ H _ us Q I r ⟨i,rfl,q _ H (zbs.refl _) (zfW _)⟩
 | _=>exact nomatch (show (R.bad:R D)=.ok d from e)
theorem zx2 (hc:X.calm=true):CallD X (.builtin "all") zwZ:=by
 intro pins s σ H xs us Q I r h
 obtain ⟨x,dx,d,rfl,tx,e,q⟩:=h
 cases dx with
 | list a =>
  obtain ⟨p,vs,rfl,sx,fx⟩:=tx.lst
  replace e:((R.of (boolsOf a)).bind fun x=>R.ok (PyData.bool (x.all id)))=.ok d:=e
  cases ea:boolsOf a with
  | none=>rw [ea] at e;cases e
  | some ns =>
   rw [ea] at e
   cases e
   obtain ⟨rfl,_⟩:=fx.bools ea
   exact zsw hc pins s σ H _ us Q I r ⟨p,ns,rfl,sx,q _ H (zbs.refl _) (zmw _)⟩
 | _=>exact nomatch (show (R.bad:R D)=.ok d from e)
theorem znC:CallD X (.type "list") zfS:=by
 intro pins s σ H xs us Q I r h
 obtain ⟨x,dx,d,rfl,tx,e,q⟩:=h
 cases dx with
 | list a =>
  obtain ⟨p,vs,rfl,sx,fx⟩:=tx.lst
  cases e
  exact thn (zgQ pins s σ H _ us (fun v H1=>∃ p,v=.ref p/\H p=none/\H1=upd H p (.lst vs)) I r ⟨p,vs,rfl,.inl sx,fun l hl=>⟨l,rfl,hl,rfl⟩⟩) fun _ _ z=>zlj fx q z
 | tuple a =>
  obtain ⟨p,vs,rfl,sx,fx⟩:=tx.tup
  cases e
  exact thn (zgQ pins s σ H _ us (fun v H1=>∃ p,v=.ref p/\H p=none/\H1=upd H p (.lst vs)) I r ⟨p,vs,rfl,.inr sx,fun l hl=>⟨l,rfl,hl,rfl⟩⟩) fun _ _ z=>zlj fx q z
 | _=>exact nomatch (show (R.bad:R D)=.ok d from e)
end
theorem Tp.ty {K:PySem.W.Frag} {H:Hp} {d:D} {x:V} (c:zyb d=true) (h:Tp K H d x):Ty K H x (.type (tyOf d)):=by
 cases d with
 | none=>have:=h.none;subst this;exact .non
 | bool b=>have:=h.bool;subst this;exact .bl b
 | int b=>have:=h.int;subst this;exact .int b
 | str b =>
  have:x=.str b:=by simpa [Tp,Fz] using h
  subst this;exact .str b
 | list b=>obtain ⟨_,_,rfl,s,_⟩:=h.lst;exact .lst s
 | tuple b=>obtain ⟨_,_,rfl,s,_⟩:=h.tup;exact .tup s
 | dict b=>cases c
def zmI (T:String):Prop:=∀ (K:PySem.W.Frag) (d:D),PySem.W.kitOne K (.type (tyOf d)) (.type T)=some (isI T d)
theorem znm {T:String} (h0:KC.zfk "NoneType" T=some (isI T .none)) (h1:∀ b,KC.zfk "bool" T=some (isI T (.bool b))) (h2:∀ b,KC.zfk "int" T=some (isI T (.int b))) (h3:∀ b,KC.zfk "str" T=some (isI T (.str b))) (h4:∀ b,KC.zfk "list" T=some (isI T (.list b)))
  (h5:∀ b,KC.zfk "tuple" T=some (isI T (.tuple b))) (h6:∀ b,KC.zfk "dict" T=some (isI T (.dict b))):zmI T:=fun K d=>by
 cases d with
 | none=>exact h0
 | bool b=>exact h1 b
 | int b=>exact h2 b
 | str b=>exact h3 b
 | list b=>exact h4 b
 | tuple b=>exact h5 b
 | dict b=>exact h6 b
theorem zpQ:zmI "int":=znm (by decide +kernel) (fun _=>(by decide +kernel:KC.zfk "bool" "int"=some (isI "int" (.bool true)))) (fun _=>(by decide +kernel:KC.zfk "int" "int"=some (isI "int" (.int 0)))) (fun _=>(by decide +kernel:KC.zfk "str" "int"=some (isI "int" (.str "")))) (fun _=>(by decide +kernel:KC.zfk "list" "int"=some (isI "int" (.list [])))) (fun _=>(by decide +kernel:KC.zfk "tuple" "int"=some (isI "int" (.tuple [])))) (fun _=>(by decide +kernel:KC.zfk "dict" "int"=some (isI "int" (.dict []))))
theorem znn:zmI "bool":=znm (by decide +kernel) (fun _=>(by decide +kernel:KC.zfk "bool" "bool"=some (isI "bool" (.bool true)))) (fun _=>(by decide +kernel:KC.zfk "int" "bool"=some (isI "bool" (.int 0)))) (fun _=>(by decide +kernel:KC.zfk "str" "bool"=some (isI "bool" (.str "")))) (fun _=>(by decide +kernel:KC.zfk "list" "bool"=some (isI "bool" (.list [])))) (fun _=>(by decide +kernel:KC.zfk "tuple" "bool"=some (isI "bool" (.tuple [])))) (fun _=>(by decide +kernel:KC.zfk "dict" "bool"=some (isI "bool" (.dict []))))
theorem kit_tuple:zmI "tuple":=znm (by decide +kernel) (fun _=>(by decide +kernel:KC.zfk "bool" "tuple"=some (isI "tuple" (.bool true)))) (fun _=>(by decide +kernel:KC.zfk "int" "tuple"=some (isI "tuple" (.int 0)))) (fun _=>(by decide +kernel:KC.zfk "str" "tuple"=some (isI "tuple" (.str "")))) (fun _=>(by decide +kernel:KC.zfk "list" "tuple"=some (isI "tuple" (.list [])))) (fun _=>(by decide +kernel:KC.zfk "tuple" "tuple"=some (isI "tuple" (.tuple [])))) (fun _=>(by decide +kernel:KC.zfk "dict" "tuple"=some (isI "tuple" (.dict []))))
theorem zj9:zmI "list":=znm (by decide +kernel) (fun _=>(by decide +kernel:KC.zfk "bool" "list"=some (isI "list" (.bool true)))) (fun _=>(by decide +kernel:KC.zfk "int" "list"=some (isI "list" (.int 0)))) (fun _=>(by decide +kernel:KC.zfk "str" "list"=some (isI "list" (.str "")))) (fun _=>(by decide +kernel:KC.zfk "list" "list"=some (isI "list" (.list [])))) (fun _=>(by decide +kernel:KC.zfk "tuple" "list"=some (isI "list" (.tuple [])))) (fun _=>(by decide +kernel:KC.zfk "dict" "list"=some (isI "list" (.dict []))))
section
variable {K:PySem.W.Frag} {X:Cx} {a:Expr} {f:EF} {pos:Pos}
theorem zvG {T:String} {tn:Str} {p p2:Pos} (kt:zmI T) (hg:Gl X "isinstance") (hm:X.mg "isinstance"=none) (hg2:Gl X tn) (hm2:X.mg tn=none) (hv2:bootBuiltins tn=some (.type T)) (ha:PV K X a f) (hn:tn ≠ "__name__":=by decide) (hd:(tn == ("__debug__":Str))=false:=by decide)
  (hs1:starEach [a,.Name tn p2] X.env=(false,eval a X.env) :: starEach [.Name tn p2] X.env:=by rfl) (hs2:starEach [.Name tn p2] X.env=(false,eval (.Name tn p2) X.env) :: starEach [] X.env:=by rfl) (hpl:(backTo pos (starEach [.Name tn p2] X.env)).any (·.1)=false:=by rfl) :
  PV K X (.Call (.Name "isinstance" p) [a,.Name tn p2] [] pos) (e1 (zb7 T) f):=fun hK=>by
 subst hK
 refine (zjV (x:="isinstance") (id:="isinstance") zsv hg hm KC.Bt.isinstance (zcn (ha rfl) (zcn (zxz hg2 hm2 hv2 hn hd) zgJ hs2) hs1) (by decide) (by decide) hs1 hpl).weak fun σ H Q=>?_
 rintro ⟨ρ,rel,q⟩
 refine goV rel q fun dx ρ1 x H1 rel1 st1 fx q1=>?_
 obtain ⟨d,ed,q3⟩:=q1.zii
 obtain ⟨c,ed⟩:=zbG ed
 cases ed
 exact ⟨x,.ty T,_,_,rfl,(fun z=>nomatch z),fx.tp.ty c,kt X.K dx,q3.now rel1 _ (zmw _)⟩
theorem zl7 {g:D->R D} {f:EF} {e:Expr} (h:PV K X e (zae (one g) (zab f zah))):PV K X e (e1 g f):=fun hK=>(h hK).weak fun σ H Q=>by
 rintro ⟨ρ,rel,q⟩
 refine ⟨ρ,rel,?_⟩
 have:zae (one g) (zab f zah) ρ=e1 g f ρ:=by
  unfold zae zab zah e1
  cases f ρ with
  | ok x=>rfl
  | _=>rfl
 rw [this]
 exact q
end
end FL
namespace FL
open PySem L2 PySem.Spec
open PyProof.Rows hiding St
variable [Cs]
section
variable {K:PySem.W.Frag} {ρ ρ1:En} {σ:L2.St} {H H1:Hp} {i:Nat} {d:D}
theorem zhR (h:zaE ρ i=.ok d):∃ p,ρ[i]?=some (.ow p d):=by
 unfold zaE at h
 cases e:ρ[i]? with
 | none=>rw [e] at h;cases h
 | some x =>
  rw [e] at h
  cases x with
  | ow p c=>cases h;exact ⟨p,rfl⟩
  | _=>cases h
theorem Rel.zq4 (r:Rel K ρ σ H) (h:zaE ρ i=.ok d):∃ a,At ρ σ i a/\zb3 K H a d:=by
 obtain ⟨p,e⟩:=zhR h
 have hl:i < σ.length:=by rw [<- r.len];exact (List.getElem?_eq_some_iff.mp e).1
 have o:=r.ok i _ _ e (List.getElem?_eq_getElem hl)
 cases es:σ[i] with
 | none=>rw [es] at o;exact o.elim
 | some v =>
  rw [es] at o
  cases v with
  | ref a=>exact ⟨a,⟨⟨p,d,e⟩,by rw [List.getElem?_eq_getElem hl,es]⟩,o⟩
  | _=>exact o.elim
theorem Rel.again {a:Addr} (r:Rel K ρ1 σ H1) (h:zaE ρ1 i=.ok d) (at0:At ρ σ i a):zb3 K H1 a d:=by
 obtain ⟨b,ab,m⟩:=r.zq4 h
 have:=at0.2.symm.trans ab.2
 cases this
 exact m
theorem Rel.zyQ {a:Addr} {o:HO} (r:Rel K ρ σ H) (at0:At ρ σ i a) (m:zb3 K (upd H a o) a d):Rel K (zbo ρ i d) σ (upd H a o):=by
 obtain ⟨⟨p,c,e⟩,es⟩:=at0
 have hp:zbo ρ i d=ρ.set i (.ow p d):=by unfold zbo;rw [e]
 obtain ⟨u,hu,ow⟩:=r.zbp ⟨i,⟨p,c,e⟩,es⟩
 have f:Fzn H (upd H a o):=fun b w eb st=>by
  rw [zax fun z=>by subst z;rw [hu] at eb;cases eb;exact ow.zdO st]
  exact eb
 have hl:i < ρ.length:=(List.getElem?_eq_some_iff.mp e).1
 rw [hp]
 refine ⟨by rw [List.length_set];exact r.len,fun j x v e1 e2=>?_,fun j k b h1 h2=>?_,r.cst.mono f⟩
 ·by_cases c:i=j
  ·subst c
   rw [List.getElem?_set_self hl] at e1
   cases e1
   rw [es] at e2
   cases e2
   exact m
  ·rw [List.getElem?_set_ne c] at e1
   refine (r.ok j x v e1 e2).mono f fun b e3 ⟨q,dd,e4⟩=>?_
   subst e3;subst e4
   refine zax fun z=>?_
   subst z
   exact c (r.sep i j b ⟨⟨p,_,e⟩,es⟩ ⟨⟨q,dd,e1⟩,e2⟩)
 ·have w:∀ j b,At (ρ.set i (.ow p d)) σ j b->At ρ σ j b:=fun j b ⟨⟨q,dd,e1⟩,e2⟩=>by
   by_cases c:i=j
   ·subst c;exact ⟨⟨p,_,e⟩,e2⟩
   ·rw [List.getElem?_set_ne c] at e1;exact ⟨⟨q,dd,e1⟩,e2⟩
  exact r.sep j k b (w _ _ h1) (w _ _ h2)
theorem zmZ {a:Addr} {o:HO} (at0:At ρ σ i a):Stp ρ (zbo ρ i d) σ H (upd H a o):=by
 obtain ⟨⟨p,c,e⟩,es⟩:=at0
 have hp:zbo ρ i d=ρ.set i (.ow p d):=by unfold zbo;rw [e]
 have hl:i < ρ.length:=(List.getElem?_eq_some_iff.mp e).1
 rw [hp]
 refine ⟨fun j q=>?_,fun b w eb n=>?_⟩
 ·by_cases c:i=j
  ·subst c
   rw [List.getElem?_set_self hl,e]
   constructor
   ·rintro ⟨_,z⟩;cases z;exact ⟨_,rfl⟩
   ·rintro ⟨_,z⟩;cases z;exact ⟨_,rfl⟩
  ·rw [List.getElem?_set_ne c]
 ·rw [zax fun z=>by subst z;exact n ⟨i,⟨p,c,e⟩,es⟩]
  exact eb
end
section
variable {K:PySem.W.Frag} {X:Cx} {a b c:Expr} {f h k:EF} {pos:Pos}
theorem zy3 {g:D->R D} {i:Nat} {r:List V->Hp->VK->Prop} (hr:∀ xs H Q,rD0 K g xs H Q->r xs H Q) (σ:L2.St) (H:Hp) (Q:VK) (q:tV K (m1 g i) σ H Q):tCB r (zvl (zkJ i) zyc) σ H Q:=by
 obtain ⟨ρ,rel,q⟩:=q
 obtain ⟨d,ed,q1⟩:=q.zii
 obtain ⟨x,ex,q2⟩:=q1.zii
 obtain ⟨ad,at0,m⟩:=rel.zq4 ed
 exact ⟨.ref ad,at0.2,hr _ _ _ ⟨.ref ad,d,x,rfl,m.tp,ex,fun v H' s fz=>q2.new rel s v fz⟩⟩
theorem zvF {x y:Str} {id:String} {g:D->R D} {p py:Pos} (i:Nat) (hc:CallD X (.builtin id) g) (hg:Gl X x) (hm:X.mg x=none) (hv:bootBuiltins x=some (.builtin id)) (ha:PE X (.Name y py) (zkJ i)) (hn:x ≠ "__name__":=by decide) (hdb:(x == ("__debug__":Str))=false:=by decide) :
  PV K X (.Call (.Name x p) [.Name y py] [] pos) (m1 g i):=fun hK=>by
 subst hK
 exact (zjV hc hg hm hv (zcn ha zgJ) hn hdb).weak fun σ H Q q=>zy3 (fun _ _ _ z=>z) σ H Q q
theorem zyo {g:D->D->R D} {i:Nat} {r:R2} (hr:∀ x y H Q,rD K g x y H Q->r x y H Q) (σ:L2.St) (H:Hp) (Q:VK) (q:tV K (m2 g i h) σ H Q):tOp r (zkJ i) (tV K h) σ H Q:=by
 obtain ⟨ρ,rel,q⟩:=q
 obtain ⟨d,ed,q1⟩:=q.zii
 obtain ⟨ad,at0,m⟩:=rel.zq4 ed
 refine ⟨.ref ad,at0.2,goV rel q1 fun dy ρ1 y H1 rel1 st1 fy q2=>?_⟩
 obtain ⟨d2,ed2,q3⟩:=q2.zii
 obtain ⟨x,ex,q4⟩:=q3.zii
 exact hr _ _ _ _ ⟨d2,dy,x,(rel1.again ed2 at0).tp,fy.tp,ex,fun v H' s fz=>q4.new rel1 s v fz⟩
theorem zvD {g:D->D->R D} {y:Str} {py:Pos} (i:Nat) (ho:IxR X (rD X.K g)) (ha:PE X (.Name y py) (zkJ i)) (hb:PV K X b h) (hs:zkt b:=by exact fun _ _=>rfl):PV K X (.Subscript (.Name y py) b pos) (m2 g i h):=fun hK=>by
 subst hK
 exact (zvW ho ha (hb rfl) hs).weak fun σ H Q q=>zyo (fun _ _ _ _ z=>z) σ H Q q
end
end FL
namespace FL
open PySem L2 PySem.Spec
open PyProof.Rows hiding St
variable [Cs]
structure SC where
 H₀:Hp
 σ₀:L2.St
 ρ₀:En
structure zeZ (K:PySem.W.Frag) (C:SC) (ρ:En) (σ:L2.St) (H:Hp):Prop where
 rel:Rel K ρ σ H
 keep:∀ a o,C.H₀ a=some o->¬ MA C.ρ₀ C.σ₀ a->H a=some o
 own:∀ (i:Nat) a d,ρ[i]?=some (.ow false d)->σ[i]?=some (some (.ref a))->C.H₀ a=none
 pin:∀ (i:Nat),(∃ d,ρ[i]?=some (.ow true d)) ↔ ∃ d,C.ρ₀[i]?=some (.ow true d)
 fix:∀ (i:Nat) d,ρ[i]?=some (.ow true d)->σ[i]?=C.σ₀[i]?
 prm:∀ (i:Nat) p d,C.ρ₀[i]?=some (.ow p d)->p=true
section
variable {K:PySem.W.Frag} {C:SC} {ρ ρ1:En} {σ σ1:L2.St} {H H1:Hp}
theorem zeZ.zyZ (r:zeZ K C ρ σ H) {a:Addr} {o:HO} (e:C.H₀ a=some o) (n:¬ MA C.ρ₀ C.σ₀ a):¬ MA ρ σ a:=by
 rintro ⟨i,⟨p,d,e1⟩,e2⟩
 cases p with
 | false=>rw [r.own i a d e1 e2] at e;cases e
 | true =>
  obtain ⟨d0,e0⟩:=(r.pin i).mp ⟨d,e1⟩
  exact n ⟨i,⟨true,d0,e0⟩,by rw [<- r.fix i d e1];exact e2⟩
theorem zeZ.step (r:zeZ K C ρ σ H) (rel:Rel K ρ1 σ H1) (st:Stp ρ ρ1 σ H H1):zeZ K C ρ1 σ H1 where
 rel:=rel
 keep:=fun a o e n=>st.kp a o (r.keep a o e n) (r.zyZ e n)
 own:=fun i a d e1 e2=>by
  obtain ⟨d',e'⟩:=(st.md i false).mpr ⟨d,e1⟩
  exact r.own i a d' e' e2
 pin:=fun i=>(st.md i true).symm.trans (r.pin i)
 fix:=fun i d e=>by
  obtain ⟨d',e'⟩:=(st.md i true).mpr ⟨d,e⟩
  exact r.fix i d' e'
 prm:=r.prm
def Chg (dom:List Nat) (ρ ρ1:En) (σ σ1:L2.St):Prop:=σ1.length=σ.length/\∀ (i:Nat),(ρ1[i]?=ρ[i]?/\σ1[i]?=σ[i]?)\/(i ∈ dom/\(∃ d,ρ1[i]?=some (.val d))/\∀ e,ρ[i]? ≠ some (.ow true e))
theorem Chg.refl {dom:List Nat}:Chg dom ρ ρ σ σ:=⟨rfl,fun _=>.inl ⟨rfl,rfl⟩⟩
theorem Chg.trans {d1 d2:List Nat} {ρ2:En} {σ2:L2.St} (a:Chg d1 ρ ρ1 σ σ1) (b:Chg d2 ρ1 ρ2 σ1 σ2):Chg (d1 ++ d2) ρ ρ2 σ σ2:=⟨b.1.trans a.1,fun i=>by
 rcases b.2 i with ⟨b1,b2⟩ | ⟨bm,b1,b2⟩
 ·rcases a.2 i with ⟨a1,a2⟩ | ⟨am,a1,a2⟩
  ·exact .inl ⟨b1.trans a1,b2.trans a2⟩
  ·exact .inr ⟨List.mem_append_left _ am,by rw [b1];exact a1,a2⟩
 ·rcases a.2 i with ⟨a1,a2⟩ | ⟨am,a1,a2⟩
  ·exact .inr ⟨List.mem_append_right _ bm,b1,fun e z=>b2 e (by rw [a1];exact z)⟩
  ·exact .inr ⟨List.mem_append_left _ am,b1,a2⟩⟩
theorem zeZ.chg {dom:List Nat} (r:zeZ K C ρ σ H) (rel:Rel K ρ1 σ1 H) (c:Chg dom ρ ρ1 σ σ1):zeZ K C ρ1 σ1 H where
 rel:=rel
 keep:=r.keep
 own:=fun i a d e1 e2=>by
  rcases c.2 i with ⟨c1,c2⟩ | ⟨_,⟨d',c1⟩,c2⟩
  ·exact r.own i a d (by rw [<- c1];exact e1) (by rw [<- c2];exact e2)
  ·rw [c1] at e1;cases e1
 pin:=fun i=>by
  rcases c.2 i with ⟨c1,c2⟩ | ⟨_,⟨d',c1⟩,c2⟩
  ·rw [c1];exact r.pin i
  ·rw [c1,<- r.pin i]
   constructor
   ·rintro ⟨_,z⟩;cases z
   ·rintro ⟨d,z⟩;exact absurd z (c2 d)
 fix:=fun i d e=>by
  rcases c.2 i with ⟨c1,c2⟩ | ⟨_,⟨d',c1⟩,c2⟩
  ·rw [c2];exact r.fix i d (by rw [<- c1];exact e)
  ·rw [c1] at e;cases e
 prm:=r.prm
theorem zeZ.fresh (r:zeZ K C ρ σ H) {a:Addr} (ha:H a=none):C.H₀ a=none:=by
 cases e0:C.H₀ a with
 | none=>rfl
 | some o =>
  by_cases k:MA C.ρ₀ C.σ₀ a
  ·obtain ⟨i,⟨p,d0,e1⟩,e2⟩:=k
   have:=r.prm i p d0 e1
   subst this
   obtain ⟨d2,e3⟩:=(r.pin i).mpr ⟨d0,e1⟩
   obtain ⟨o',e',_⟩:=r.rel.zbp ⟨i,⟨true,d2,e3⟩,by rw [r.fix i d2 e3];exact e2⟩
   rw [ha] at e';cases e'
  ·rw [r.keep a o e0 k] at ha;cases ha
def zcR (K:PySem.W.Frag) (C:SC) (H:Hp) (r:R (Fl × En)) (Dn:Ends):Prop:=match r with
 | .ok x=>match x.1 with
  | .nx=>∀ σ' H',zeZ K C x.2 σ' H'->Fzn H H'->Dn.nx σ' H'
  | .bk=>∀ σ' H',zeZ K C x.2 σ' H'->Fzn H H'->Dn.bk σ' H'
  | .ct=>∀ σ' H',zeZ K C x.2 σ' H'->Fzn H H'->Dn.ct σ' H'
  | .rt d=>∀ v σ' H',zeZ K C x.2 σ' H'->Fz K H' d v->Dn.rt v H'
  | .rf d=>∀ a σ' H',zeZ K C x.2 σ' H'->C.H₀ a=none->zb3 K H' a d->Dn.rt (.ref a) H'
 | _=>False
theorem zcR.step {r:R (Fl × En)} {Dn:Ends} (f:Fzn H H1) (g:zcR K C H r Dn):zcR K C H1 r Dn:=by
 cases r with
 | ok x =>
  obtain ⟨fl,ρ⟩:=x
  cases fl with
  | nx=>exact fun σ' H' r z=>g σ' H' r (f.trans z)
  | bk=>exact fun σ' H' r z=>g σ' H' r (f.trans z)
  | ct=>exact fun σ' H' r z=>g σ' H' r (f.trans z)
  | rt d=>exact g
  | rf d=>exact g
 | _=>exact g
theorem zcR.bnd {β:Type} {r:R β} {k:β->R (Fl × En)} {Dn:Ends} (g:zcR K C H (r.bind k) Dn):∃ x,r=.ok x/\zcR K C H (k x) Dn:=by
 cases r with
 | ok x=>exact ⟨x,rfl,g⟩
 | _=>exact g.elim
def tS (K:PySem.W.Frag) (C:SC) (f:SF):TS:=fun Dn σ H=>∃ ρ,zeZ K C ρ σ H/\zcR K C H (f ρ) Dn
theorem zos {f:EF} {k:D × En->R (Fl × En)} {S:VK} {Dn:Ends} (rel:zeZ K C ρ σ H) (g:zcR K C H ((f ρ).bind k) Dn)
  (h:∀ d ρ1 v H1,zeZ K C ρ1 σ H1->Stp ρ ρ1 σ H H1->Fz K H1 d v->zcR K C H1 (k (d,ρ1)) Dn->S v H1):tV K f σ H S:=by
 obtain ⟨x,e,g1⟩:=g.bnd
 refine ⟨ρ,rel.rel,?_⟩
 rw [e]
 exact fun H' r s v fz=>h x.1 x.2 v H' (rel.step r s) s fz (g1.step (s.fzn rel.rel))
theorem zym {f:TF} {k:Bool × En->R (Fl × En)} {S:Bool->Hp->Prop} {Dn:Ends} (rel:zeZ K C ρ σ H) (g:zcR K C H ((f ρ).bind k) Dn)
  (h:∀ b ρ1 H1,zeZ K C ρ1 σ H1->Fzn H H1->zcR K C H1 (k (b,ρ1)) Dn->S b H1):tT K f σ H S:=by
 obtain ⟨x,e,g1⟩:=g.bnd
 refine ⟨ρ,rel.rel,?_⟩
 rw [e]
 exact fun H' r s=>h x.1 x.2 H' (rel.step r s) (s.fzn rel.rel) (g1.step (s.fzn rel.rel))
theorem zyn {f:EF} {k:D × En->R (Fl × En)} {S:VK} {Dn:Ends} (rel:zeZ K C ρ σ H) (g:zcR K C H ((f ρ).bind k) Dn)
  (h:∀ d ρ1 a H1,zeZ K C ρ1 σ H1->Fzn H H1->H a=none->¬ MA ρ1 σ a->zb3 K H1 a d->zcR K C H1 (k (d,ρ1)) Dn->S (.ref a) H1):tN K f σ H S:=by
 obtain ⟨x,e,g1⟩:=g.bnd
 refine ⟨ρ,rel.rel,?_⟩
 rw [e]
 refine fun H' r s a ha m=>h x.1 x.2 a H' (rel.step r s) (s.fzn rel.rel) ha (fun z=>?_) m (g1.step (s.fzn rel.rel))
 obtain ⟨o',e',_⟩:=rel.rel.zbp (s.ma.mpr z)
 rw [ha] at e';cases e'
end
def PSV (K:PySem.W.Frag) (X:Cx) (st:Stmt) (f:SF):Prop:=X.K=K->∀ C,PS X st (tS K C f)
def zlV (K:PySem.W.Frag) (X:Cx) (st:List Stmt) (f:SF):Prop:=X.K=K->∀ C,PSs X st (tS K C f)
theorem _root_.L2.PS.weak {X:Cx} {e:Stmt} {t t':TS} (h:PS X e t) (w:∀ Dn σ H,t' Dn σ H->t Dn σ H):PS X e t':=fun pins s σ H Dn I q=>h pins s σ H Dn I (w Dn σ H q)
theorem _root_.L2.PSs.weak {X:Cx} {e:List Stmt} {t t':TS} (h:PSs X e t) (w:∀ Dn σ H,t' Dn σ H->t Dn σ H):PSs X e t':=fun pins s σ H Dn I q=>h pins s σ H Dn I (w Dn σ H q)
def tG (K:PySem.W.Frag) (dom:List Nat) (g:GF):TG:=fun v σ H Q=>∃ ρ d ρ1,Rel K ρ σ H/\Fz K H d v/\g d ρ=.ok ρ1/\∀ σ1,Rel K ρ1 σ1 H->Chg dom ρ ρ1 σ σ1->Q σ1 H
def tGs (K:PySem.W.Frag) (dom:List Nat) (gs:List GF):TGs:=fun vs σ H Q=>∃ ρ ds ρ1,Rel K ρ σ H/\zaj K H ds vs/\zoG gs ds ρ=.ok ρ1/\∀ σ1,Rel K ρ1 σ1 H->Chg dom ρ ρ1 σ σ1->Q σ1 H
def PVG (K:PySem.W.Frag) (X:Cx) (dom:List Nat) (e:Expr) (g:GF):Prop:=X.K=K->PG X e (tG K dom g)
def zxb (K:PySem.W.Frag) (X:Cx) (dom:List Nat) (e:List Expr) (g:List GF):Prop:=X.K=K->PGs X e (tGs K dom g)
theorem _root_.L2.PG.weak {X:Cx} {e:Expr} {t t':TG} (h:PG X e t) (w:∀ v σ H Q,t' v σ H Q->t v σ H Q):PG X e t':=fun pins s σ H v u Q I r q=>h pins s σ H v u Q I r (w v σ H Q q)
theorem _root_.L2.PGs.weak {X:Cx} {e:List Expr} {t t':TGs} (h:PGs X e t) (w:∀ v σ H Q,t' v σ H Q->t v σ H Q):PGs X e t':=fun pins s σ H v u Q I r q=>h pins s σ H v u Q I r (w v σ H Q q)
theorem Rel.set {K:PySem.W.Frag} {ρ:En} {σ:L2.St} {H:Hp} {i:Nat} {x:Sl} {v:Option V} (r:Rel K ρ σ H) (o:zu1 K H x v) (s:∀ a p d,x=.ow p d->v=some (.ref a)->¬ MA ρ σ a):Rel K (ρ.set i x) (σ.set i v) H:=by
 refine ⟨by rw [List.length_set,List.length_set];exact r.len,fun j y w e1 e2=>?_,fun j k b h1 h2=>?_,r.cst⟩
 ·by_cases c:i=j
  ·subst c
   by_cases hl:i < ρ.length
   ·rw [List.getElem?_set_self hl] at e1
    rw [List.getElem?_set_self (by rw [<- r.len];exact hl)] at e2
    cases e1;cases e2
    exact o
   ·rw [List.getElem?_eq_none (by rw [List.length_set];omega)] at e1;cases e1
  ·rw [List.getElem?_set_ne c] at e1 e2
   exact r.ok j y w e1 e2
 ·have w:∀ j b,At (ρ.set i x) (σ.set i v) j b->(j=i/\(∃ p d,x=.ow p d)/\v=some (.ref b))\/(j ≠ i/\At ρ σ j b):=fun j b ⟨⟨q,dd,e1⟩,e2⟩=>by
   by_cases c:i=j
   ·subst c
    have hl:i < ρ.length:=by
     have:=(List.getElem?_eq_some_iff.mp e1).1
     rwa [List.length_set] at this
    rw [List.getElem?_set_self hl] at e1
    rw [List.getElem?_set_self (by rw [<- r.len];exact hl)] at e2
    cases e1;cases e2
    exact .inl ⟨rfl,⟨q,dd,rfl⟩,rfl⟩
   ·rw [List.getElem?_set_ne c] at e1 e2
    exact .inr ⟨fun z=>c z.symm,⟨q,dd,e1⟩,e2⟩
  rcases w j b h1 with ⟨rfl,⟨p,d,e⟩,e'⟩ | ⟨n1,a1⟩
  ·rcases w k b h2 with ⟨rfl,_,_⟩ | ⟨n2,a2⟩
   ·rfl
   ·exact absurd ⟨k,a2⟩ (s b p d e e')
  ·rcases w k b h2 with ⟨rfl,⟨p,d,e⟩,e'⟩ | ⟨n2,a2⟩
   ·exact absurd ⟨j,a1⟩ (s b p d e e')
   ·exact r.sep j k b a1 a2
section
variable {K:PySem.W.Frag} {X:Cx} {pos:Pos}
theorem znq {i:Nat} {d:D} {ρ ρ1:En} (h:gN i d ρ=.ok ρ1):ρ1=ρ.set i (.val d)/\(∀ e,ρ[i]? ≠ some (.ow true e))/\i < ρ.length:=by
 unfold gN at h
 cases e:ρ[i]? with
 | none=>rw [e] at h;cases h
 | some x =>
  rw [e] at h
  have hl:i < ρ.length:=(List.getElem?_eq_some_iff.mp e).1
  cases x with
  | no=>cases h;exact ⟨rfl,(fun _ z=>nomatch z),hl⟩
  | val c=>cases h;exact ⟨rfl,(fun _ z=>nomatch z),hl⟩
  | ow p c =>
   cases p with
   | true=>cases h
   | false=>cases h;exact ⟨rfl,(fun _ z=>nomatch z),hl⟩
theorem zkk {ρ:En} {σ:L2.St} {i:Nat} {d:D} {v:Option V} (n:∀ e,ρ[i]? ≠ some (.ow true e)) (hl:i < ρ.length):Chg [i] ρ (ρ.set i (.val d)) σ (σ.set i v):=⟨List.length_set,fun j=>by
 by_cases c:i=j
 ·subst c
  exact .inr ⟨List.mem_singleton.mpr rfl,⟨d,List.getElem?_set_self hl⟩,n⟩
 ·exact .inl ⟨List.getElem?_set_ne c,List.getElem?_set_ne c⟩⟩
theorem zrs {i:Nat} {x:Str} (hN:X.N.Nodup) (hi:X.N[i]?=some x) (hx:Loc X.env.scope x) (hf:X.fn x=true\/X.env.scope.names.lookup x=some .local:=by first | exact .inl rfl | exact .inr rfl | assumption):PVG K X [i] (.Name x pos) (gN i):=fun _=>(zt5 hN hi hx hf).weak fun v σ H Q=>by
 rintro ⟨ρ,d,ρ1,rel,fz,e,q⟩
 obtain ⟨rfl,n,hl⟩:=znq e
 exact q _ (rel.set fz fun _ _ _ z=>nomatch z) (zkk n hl)
theorem zcT:zxb K X [] [] []:=fun _=>zt4.weak fun vs σ H Q=>by
 rintro ⟨ρ,ds,ρ1,rel,fz,e,q⟩
 cases ds with
 | nil =>
  cases e
  simp only [zaj] at fz
  exact ⟨fz,q _ rel .refl⟩
 | cons _ _=>cases e
theorem zas {α β:Type} {r:R α} {k:α->R β} {b:β} (h:r.bind k=.ok b):∃ a,r=.ok a/\k a=.ok b:=by
 cases r with
 | ok a=>exact ⟨a,rfl,h⟩
 | _=>cases h
theorem zaK {e:Expr} {es:List Expr} {g:GF} {gs:List GF} {d1 d2:List Nat} (h1:PVG K X d1 e g) (h2:zxb K X d2 es gs)
  (hs:(assignEach (e :: es) X.env).map (·.2)=assign e X.env :: (assignEach es X.env).map (·.2):=by rfl):zxb K X (d1 ++ d2) (e :: es) (g :: gs):=fun hK=>(zrE (h1 hK) (h2 hK) hs).weak fun vs σ H Q=>by
 rintro ⟨ρ,ds,ρ1,rel,fz,e,q⟩
 cases ds with
 | nil=>cases e
 | cons d ds =>
  simp only [zaj] at fz
  obtain ⟨v,r,rfl,f1,f2⟩:=fz
  obtain ⟨ρ2,e2,e3⟩:=zas (show (g d ρ).bind (fun ρ1=>zoG gs ds ρ1)=.ok ρ1 from e)
  exact ⟨v,r,rfl,ρ,d,ρ2,rel,f1,e2,fun σ1 rel1 c1=>⟨ρ2,ds,ρ1,rel1,f2,e3,fun σ2 rel2 c2=>q σ2 rel2 (c1.trans c2)⟩⟩
theorem znr:∀ {gs:List GF} {ds:List D} {ρ ρ1:En},zoG gs ds ρ=.ok ρ1->ds.length=gs.length
 | [],[],_,_,_=>rfl
 | [],_ :: _,_,_,e=>by cases e
 | _ :: _,[],_,_,e=>by cases e
 | g :: gs,d :: ds,ρ,ρ1,e=>by
  obtain ⟨ρ2,e2,e3⟩:=zas (show (g d ρ).bind (fun ρ1=>zoG gs ds ρ1)=.ok ρ1 from e)
  simp [znr e3]
theorem zd3 {es:List Expr} {k:Nat} {gs:List GF} {dom:List Nat} (hc:X.calm=true) (h:zxb K X dom es gs)
  (hn:(assignEach es X.env).length=gs.length:=by rfl) (hst:(assignEach es X.env).findIdx? (·.1)=none:=by rfl):PVG K X dom (.Tuple es k pos) (gT gs):=fun hK=>by
 subst hK
 refine (zvQ hc (h rfl) hn hst).weak fun v σ H Q=>?_
 rintro ⟨ρ,d,ρ1,rel,fz,e,q⟩
 cases d with
 | tuple ds =>
  simp only [Fz] at fz
  obtain ⟨a,vs,rfl,s,f⟩:=fz
  replace e:zoG gs ds ρ=.ok ρ1:=e
  exact ⟨a,vs,rfl,.inl s,by rw [f.len,znr e],ρ,ds,ρ1,rel,f,e,q⟩
 | _=>cases e
variable {st:Stmt} {rest:List Stmt} {s t:SF} {e:Expr} {f:EF}
theorem zaB:zlV K X [] sNx:=fun _ C=>ztV.weak fun Dn σ H=>by
 rintro ⟨ρ,rel,g⟩
 exact g σ H rel (Fzn.refl H)
theorem zag (h1:PSV K X st s) (h2:zlV K X rest t):zlV K X (st :: rest) (zaq s t):=fun hK C=>(zrz (h1 hK C) (h2 hK C)).weak fun Dn σ H=>by
 rintro ⟨ρ,rel,g⟩
 refine ⟨ρ,rel,?_⟩
 obtain ⟨x,ex,g1⟩:=g.bnd
 rw [ex]
 obtain ⟨fl,ρ1⟩:=x
 cases fl with
 | nx=>exact fun σ' H' r z=>⟨ρ1,r,g1.step z⟩
 | bk=>exact g1
 | ct=>exact g1
 | rt d=>exact g1
 | rf d=>exact g1
theorem zar (h1:PSV K X st s):zlV K X [st] s:=fun hK C=>ztU (h1 hK C)
theorem zpi:PSV K X (.Break pos) zq3:=fun _ C=>zrC.weak fun Dn σ H=>by
 rintro ⟨ρ,rel,g⟩
 exact g σ H rel (Fzn.refl H)
theorem zkQ:PSV K X st znZ:=fun _ C=>zrB.weak fun Dn σ H=>by
 rintro ⟨ρ,rel,g⟩
 exact g.elim
theorem zhf (he:PV K X e f) (hs:swapsWith e none pos.line X.env=pure false:=by rfl):PSV K X (.Expr e pos) (sE f):=fun hK C=>(zl9 (he hK) hs).weak fun Dn σ H=>by
 rintro ⟨ρ,rel,g⟩
 exact zos rel g fun d ρ1 v H1 rel1 st1 fz g1=>g1 σ H1 rel1 (Fzn.refl H1)
theorem ztK (he:PV K X e f):PSV K X (.Return (some e) pos) (zaw f):=fun hK C=>(zpn (he hK)).weak fun Dn σ H=>by
 rintro ⟨ρ,rel,g⟩
 exact zos rel g fun d ρ1 v H1 rel1 st1 fz g1=>g1 v σ H1 rel1 fz
theorem zcc (he:PVN K X e f):PSV K X (.Return (some e) pos) (zbq f):=fun hK C=>(zpn (he hK)).weak fun Dn σ H=>by
 rintro ⟨ρ,rel,g⟩
 exact zyn rel g fun d ρ1 a H1 rel1 fz ha n m g1=>g1 a σ H1 rel1 (rel.fresh ha) m
theorem zm2 {y:Str} {py:Pos} (i:Nat) (ha:PE X (.Name y py) (zkJ i)):PSV K X (.Return (some (.Name y py)) pos) (zg4 i):=fun hK C=>(zpn ha).weak fun Dn σ H=>by
 rintro ⟨ρ,rel,g⟩
 unfold zg4 at g
 cases e:ρ[i]? with
 | none=>rw [e] at g;exact g.elim
 | some x =>
  rw [e] at g
  cases x with
  | ow p d =>
   cases p with
   | false =>
    obtain ⟨a,at0,m⟩:=rel.rel.zq4 (d:=d) (show zaE ρ i=.ok d by unfold zaE;rw [e])
    exact ⟨.ref a,at0.2,g a σ H rel (rel.own i a d e at0.2) m⟩
   | true=>exact g.elim
  | _=>exact g.elim
theorem zaQ {c:Expr} {a b:List Stmt} {tc:TF} (hc:PVT K X c tc) (ha:zlV K X a s) (hb:zlV K X b t):PSV K X (.If c a b pos) (sIf tc s t):=fun hK C=>(zxx (hc hK) (ha hK C) (hb hK C)).weak fun Dn σ H=>by
 rintro ⟨ρ,rel,g⟩
 refine zym rel g fun cb ρ1 H1 rel1 fz g1=>?_
 cases cb with
 | true=>exact zux ⟨ρ1,rel1,g1⟩
 | false=>exact zuy ⟨ρ1,rel1,g1⟩
theorem ztO {tg:Expr} {g:GF} {dom:List Nat} (he:PV K X e f) (hg:PVG K X dom tg g) (hs:swapsWithSole [tg] e pos.line X.env=pure false:=by rfl) (hw:swappedStores [tg] e X.env=pure none:=by rfl)
  (h1:(assignEach [tg] X.env).map (·.2)=[assign tg X.env]:=by rfl):PSV K X (.Assign [tg] e pos) (zaC g f):=fun hK C=>(zsW (he hK) (hg hK) hs hw h1).weak fun Dn σ H=>by
 rintro ⟨ρ,rel,q⟩
 refine zos rel q fun d ρ1 v H1 rel1 st1 fz q1=>?_
 obtain ⟨ρ2,e2,q2⟩:=q1.bnd
 exact ⟨ρ1,d,ρ2,rel1.rel,fz,e2,fun σ1 rel2 c=>q2 σ1 H1 (rel1.chg rel2 c) (Fzn.refl H1)⟩
theorem ztJ {i:Nat} {x:Str} {pos':Pos} (hN:X.N.Nodup) (hi:X.N[i]?=some x) (hx:Loc X.env.scope x) (he:PV K X e f) (hs:swapsWith e (some (.Name x pos')) pos.line X.env=pure false:=by rfl) (hf:X.fn x=true\/X.env.scope.names.lookup x=some .local:=by first | exact .inl rfl | exact .inr rfl | assumption) :
  PSV K X (.Assign [.Name x pos'] e pos) (zaC (gN i) f):=fun hK C=>(zsV hN hi hx (he hK) hs hf).weak fun Dn σ H=>by
 rintro ⟨ρ,rel,q⟩
 refine zos rel q fun d ρ1 v H1 rel1 st1 fz q1=>?_
 obtain ⟨ρ2,e2,q2⟩:=q1.bnd
 obtain ⟨rfl,n,hl⟩:=znq e2
 exact q2 _ H1 (rel1.chg (rel1.rel.set fz fun _ _ _ z=>nomatch z) (zkk n hl)) (Fzn.refl H1)
theorem zwB {i:Nat} {C:SC} (Dn:Ends) (σ:L2.St) (H:Hp) (q0:tS K C (zdd i f) Dn σ H):zvn (tN K f) (zqe i) Dn σ H:=by
 revert q0
 rintro ⟨ρ,rel,q⟩
 refine zyn rel q fun d ρ1 a H1 rel1 fz ha n m q1=>?_
 have hf:=rel.fresh ha
 replace q1:zcR K C H1 (match ρ1[i]? with | some (.ow true _)=>.bad | some _=>.ok (.nx,ρ1.set i (.ow false d)) | none=>.bad) Dn:=q1
 have fin:(∀ e,ρ1[i]? ≠ some (.ow true e))->i < ρ1.length->zeZ K C (ρ1.set i (.ow false d)) (σ.set i (some (.ref a))) H1:=fun np hl=>by
  have hls:i < σ.length:=by rw [<- rel1.rel.len];exact hl
  refine ⟨rel1.rel.set (show zu1 K H1 (.ow false d) (some (.ref a)) from m) fun b p c e1 e2=>by cases e2;exact n,rel1.keep,fun j b c e1 e2=>?_,fun j=>?_,fun j c e1=>?_,rel1.prm⟩
  ·by_cases k:i=j
   ·subst k
    rw [List.getElem?_set_self hls] at e2
    cases e2
    exact hf
   ·rw [List.getElem?_set_ne k] at e1 e2
    exact rel1.own j b c e1 e2
  ·by_cases k:i=j
   ·subst k
    rw [List.getElem?_set_self hl,<- rel1.pin i]
    constructor
    ·rintro ⟨_,z⟩;cases z
    ·rintro ⟨c,z⟩;exact absurd z (np c)
   ·rw [List.getElem?_set_ne k];exact rel1.pin j
  ·by_cases k:i=j
   ·subst k
    rw [List.getElem?_set_self hl] at e1;cases e1
   ·rw [List.getElem?_set_ne k] at e1 ⊢
    exact rel1.fix j c e1
 cases e1:ρ1[i]? with
 | none=>rw [e1] at q1;exact q1.elim
 | some y =>
  have hl:i < ρ1.length:=(List.getElem?_eq_some_iff.mp e1).1
  rw [e1] at q1
  cases y with
  | no=>exact q1 _ H1 (fin (fun e z=>by rw [e1] at z;cases z) hl) (Fzn.refl H1)
  | val c=>exact q1 _ H1 (fin (fun e z=>by rw [e1] at z;cases z) hl) (Fzn.refl H1)
  | ow p c =>
   cases p with
   | true=>exact q1.elim
   | false=>exact q1 _ H1 (fin (fun e z=>by rw [e1] at z;cases z) hl) (Fzn.refl H1)
theorem ztM {i:Nat} {x:Str} {pos':Pos} (hN:X.N.Nodup) (hi:X.N[i]?=some x) (hx:Loc X.env.scope x) (he:PVN K X e f) (hs:swapsWith e (some (.Name x pos')) pos.line X.env=pure false:=by rfl) (hf:X.fn x=true\/X.env.scope.names.lookup x=some .local:=by first | exact .inl rfl | exact .inr rfl | assumption) :
  PSV K X (.Assign [.Name x pos'] e pos) (zdd i f):=fun hK C=>(zsV hN hi hx (he hK) hs hf).weak fun Dn σ H q=>zwB Dn σ H q
theorem zph (i:Nat) (h:PSV K X st s):PSV K X st (znY i s):=fun hK C=>by
 have h1:PS X st (fun Dn σ H=>∃ a u,H a=some u/\Own u/\∀ o,tS K C s Dn σ (upd H a (.frz o u))):=fun pins sh σ H Dn I ⟨a,u,e,ow,q⟩=>by
  obtain ⟨o,ho⟩:=(I.hok a u e).some
  exact h hK C pins sh σ _ Dn (zxU I e ow ho) (q o)
 refine h1.weak fun Dn σ H=>?_
 rintro ⟨ρ,rel,g⟩
 unfold znY at g
 cases e:ρ[i]? with
 | none=>rw [e] at g;exact g.elim
 | some x =>
  rw [e] at g
  cases x with
  | ow p d =>
   cases p with
   | true=>exact g.elim
   | false =>
    obtain ⟨a,at0,m⟩:=rel.rel.zq4 (d:=d) (show zaE ρ i=.ok d by unfold zaE;rw [e])
    obtain ⟨u,e1,ow⟩:=m.own
    refine ⟨a,u,e1,ow,fun o=>⟨ρ.set i (.val d),?_,g.step ?_⟩⟩
    ·have hl:i < ρ.length:=(List.getElem?_eq_some_iff.mp e).1
     have hfr:=rel.own i a d e at0.2
     have fz:Fzn H (upd H a (.frz o u)):=fun b w e2 sy=>by
      rw [zax fun z=>by subst z;rw [e1] at e2;cases e2;exact ow.zdO sy]
      exact e2
     have fd:Fz K (upd H a (.frz o u)) d (.ref a):=by
      cases d with
      | list ds =>
       obtain ⟨vs,h1,h2⟩:=m
       rw [e1] at h1
       cases h1
       simp only [Fz]
       exact ⟨a,vs,rfl,.inl ⟨o,zan⟩,h2.mono fz⟩
      | dict kvs =>
       simp only [Fz]
       rcases m with ⟨kk,h1,h2⟩ | ⟨kk,h1,h2⟩
       ·rw [e1] at h1
        cases h1
        exact ⟨a,o,rfl,.inl ⟨kk,zan,h2.mono fz⟩⟩
       ·rw [e1] at h1
        cases h1
        exact ⟨a,o,rfl,.inr ⟨kk,zan,h2.mono fz⟩⟩
      | _=>exact m.elim
     have atw:∀ j b,At (ρ.set i (.val d)) σ j b->j ≠ i/\At ρ σ j b:=fun j b ⟨⟨q,dd,e1⟩,e2⟩=>by
      by_cases c:i=j
      ·subst c
       rw [List.getElem?_set_self hl] at e1;cases e1
      ·rw [List.getElem?_set_ne c] at e1
       exact ⟨fun z=>c z.symm,⟨q,dd,e1⟩,e2⟩
     refine ⟨⟨by rw [List.length_set];exact rel.rel.len,fun j y w e2 e3=>?_,fun j k b h1 h2=>rel.rel.sep j k b (atw j b h1).2 (atw k b h2).2,rel.rel.cst.mono fz⟩,fun b w e2 n=>?_,fun j b c e2 e3=>?_,fun j=>?_,fun j c e2=>?_,rel.prm⟩
     ·by_cases c:i=j
      ·subst c
       rw [List.getElem?_set_self hl] at e2
       cases e2
       rw [at0.2] at e3
       cases e3
       exact fd
      ·rw [List.getElem?_set_ne c] at e2
       refine (rel.rel.ok j y w e2 e3).mono fz fun b e4 ⟨p,dd,e5⟩=>?_
       subst e4;subst e5
       refine zax fun z=>?_
       subst z
       exact c (rel.rel.sep i j b at0 ⟨⟨p,dd,e2⟩,e3⟩)
     ·rw [zax fun z=>by subst z;rw [hfr] at e2;cases e2]
      exact rel.keep b w e2 n
     ·by_cases c:i=j
      ·subst c
       rw [List.getElem?_set_self hl] at e2;cases e2
      ·rw [List.getElem?_set_ne c] at e2
       exact rel.own j b _ e2 e3
     ·by_cases c:i=j
      ·subst c
       rw [List.getElem?_set_self hl,<- rel.pin i,e]
       constructor
       ·rintro ⟨_,z⟩;cases z
       ·rintro ⟨_,z⟩;cases z
      ·rw [List.getElem?_set_ne c];exact rel.pin j
     ·by_cases k:i=j
      ·subst k
       rw [List.getElem?_set_self hl] at e2;cases e2
      ·rw [List.getElem?_set_ne k] at e2
       exact rel.fix j c e2
    ·exact fun b w e2 sy=>by
      rw [zax fun z=>by subst z;rw [e1] at e2;cases e2;exact ow.zdO sy]
      exact e2
  | _=>exact g.elim
theorem zpL {ρ:En} {i:Nat} {c:List D} (h:zdj ρ i=.ok c):∃ p,ρ[i]?=some (.ow p (.list c)):=by
 unfold zdj at h
 cases e:ρ[i]? with
 | none=>rw [e] at h;cases h
 | some x =>
  rw [e] at h
  cases x with
  | ow p d =>
   cases d with
   | list a=>cases h;exact ⟨p,rfl⟩
   | _=>cases h
  | _=>cases h
theorem Rel.zw7 {ρ:En} {σ:L2.St} {H:Hp} {i:Nat} {c:List D} (r:Rel K ρ σ H) (h:zdj ρ i=.ok c):∃ a vs,At ρ σ i a/\H a=some (.lst vs)/\zaj K H c vs:=by
 obtain ⟨p,e⟩:=zpL h
 obtain ⟨a,at0,m⟩:=r.zq4 (d:=.list c) (show zaE ρ i=.ok (.list c) by unfold zaE;rw [e])
 obtain ⟨vs,h1,h2⟩:=m
 exact ⟨a,vs,at0,h1,h2⟩
theorem Rel.zxL {ρ ρ1:En} {σ:L2.St} {H1:Hp} {i:Nat} {c:List D} {a:Addr} (r:Rel K ρ1 σ H1) (h:zdj ρ1 i=.ok c) (at0:At ρ σ i a):∃ vs,At ρ1 σ i a/\H1 a=some (.lst vs)/\zaj K H1 c vs:=by
 obtain ⟨b,vs,ab,h1,h2⟩:=r.zw7 h
 have:=at0.2.symm.trans ab.2
 cases this
 exact ⟨vs,ab,h1,h2⟩
theorem zsb {C:SC} {ρ:En} {σ:L2.St} {H:Hp} {i:Nat} {a:Addr} {o:HO} {d:D} {Dn:Ends} (rel:zeZ K C ρ σ H) (at0:At ρ σ i a) (m:zb3 K (upd H a o) a d) (g:zcR K C H (.ok (.nx,zbo ρ i d)) Dn):Dn.nx σ (upd H a o):=by
 have st:Stp ρ (zbo ρ i d) σ H (upd H a o):=zmZ at0
 exact g σ _ (rel.step (rel.rel.zyQ at0 m) st) (st.fzn rel.rel)
theorem zqg {C:SC} {ρ:En} {σ:L2.St} {H:Hp} {i:Nat} {a:Addr} {o:HO} (rel:zeZ K C ρ σ H) (at0:At ρ σ i a):Fzn H (upd H a o):=(zmZ (d:=.none) at0).fzn rel.rel
theorem zn2 {y name:Str} {py apos cpos:Pos} (i:Nat) (hnm:name="append") (ha:PE X (.Name y py) (zkJ i)) (he:PV K X e f)
  (hbase:attributeBase (.Name y py) name X.env (eval (.Name y py) X.env)=eval (.Name y py) X.env:=by rfl)
  (hfew:((backTo cpos (starEach [e] X.env)).all (fun x=>!x.1) && (backToKw cpos (keywordEach [] X.env)).all (fun x=>x.1.isSome) && decide ([e].length + ([]:List Keyword).length + (if ([]:List Keyword).isEmpty then 0 else 1) < 30))=true:=by rfl)
  (hline:(apos.endLine == cpos.line)=true:=by rfl) (hst:starEach [e] X.env=(false,eval e X.env) :: starEach [] X.env:=by rfl) (hplain:(backTo cpos (starEach [] X.env)).any (·.1)=false:=by rfl)
  (hs:swapsWith (.Call (.Attribute (.Name y py) name apos) [e] [] cpos) none pos.line X.env=pure false:=by rfl):PSV K X (.Expr (.Call (.Attribute (.Name y py) name apos) [e] [] cpos) pos) (zre i zoH f):=fun hK C=>by
 subst hK
 subst hnm
 refine (zl9 (zvY PySem.F.plainAttrs_list PySem.F.slot_list_append PySem.F.type_list_append zhS ha (zcn (he rfl) zgJ hst) hbase hfew hline hst hplain) hs).weak fun Dn σ H=>?_
 rintro ⟨ρ,rel,g⟩
 obtain ⟨d,ed,g1⟩:=g.bnd
 obtain ⟨a,vs0,at0,h0,_⟩:=rel.rel.zw7 ed
 refine ⟨.ref a,at0.2,.inl ⟨rfl,vs0,SqL.of h0⟩,zos rel g1 fun dx ρ1 v H1 rel1 st1 fz g2=>?_⟩
 obtain ⟨c,ec,g3⟩:=g2.bnd
 obtain ⟨c',ec',g4⟩:=g3.bnd
 obtain ⟨vs,at1,h1,h2⟩:=rel1.rel.zxL ec at0
 obtain ⟨cc,ec'⟩:=zbG ec'
 cases ec'
 have hz:vs.length < sizeLine:=by
  have:=zhV cc
  have l0:=zcz
  rw [h2.len];omega
 refine ⟨a,vs,v,rfl,rfl,h1,hz,zsb (d:=.list (c ++ [dx])) rel1 at1 ⟨_,zan,(h2.app ?_).mono (zqg rel1 at1)⟩ g4⟩
 simp only [zaj]
 exact ⟨v,[],rfl,fz,rfl⟩
theorem zfK {y:Str} {py ps':Pos} {ke:Expr} {k:EF} (i:Nat) (ha:PE X (.Name y py) (zkJ i)) (he:PV K X e f) (hk:PV K X ke k)
  (has:∀ v,assign (.Subscript (.Name y py) ke ps') X.env v=(do
   let ov <- holding [v] (eval (.Name y py) X.env)
   let iv <- holding [v,ov] (eval ke X.env)
   standAt ps'
   holding [v,ov,iv] (setItem ov iv v)
   release [v,ov,iv] []):=by intro _;rfl)
  (hs:swapsWithSole [.Subscript (.Name y py) ke ps'] e pos.line X.env=pure false:=by rfl) (hw:swappedStores [.Subscript (.Name y py) ke ps'] e X.env=pure none:=by rfl)
  (h1:(assignEach [.Subscript (.Name y py) ke ps'] X.env).map (·.2)=[assign (.Subscript (.Name y py) ke ps') X.env]:=by rfl):PSV K X (.Assign [.Subscript (.Name y py) ke ps'] e pos) (setM i f k):=fun hK C=>by
 subst hK
 refine (zsW (he rfl) (zvR ha (hk rfl) set_list has) hs hw h1).weak fun Dn σ H=>?_
 rintro ⟨ρ,rel,g⟩
 refine zos rel g fun dx ρ1 v H1 rel1 st1 fz g1=>?_
 obtain ⟨d,ed,g2⟩:=g1.bnd
 obtain ⟨a,vs0,at0,h0,_⟩:=rel1.rel.zw7 ed
 refine ⟨.ref a,at0.2,zos rel1 g2 fun dk ρ2 kv H2 rel2 st2 fk g3=>?_⟩
 obtain ⟨c,ec,g4⟩:=g3.bnd
 obtain ⟨vs,at1,h1,h2⟩:=rel2.rel.zxL ec at0
 cases dk with
 | int j =>
  obtain ⟨n,en,g5⟩:=(show zcR X.K C H2 ((R.of (FL.ixN c.length j)).bind fun n=>.ok (.nx,zbo ρ2 i (.list (c.set n dx)))) Dn from g4).bnd
  simp only [Fz] at fk
  subst fk
  refine ⟨a,vs,j,n,rfl,rfl,h1,?_,zsb (d:=.list (c.set n dx)) rel2 at1 ⟨_,zan,(h2.set n (fz.mono (st2.fzn rel1.rel))).mono (zqg rel2 at1)⟩ g5⟩
  rw [h2.len]
  cases e2:FL.ixN c.length j with
  | none=>rw [e2] at en;cases en
  | some m=>rw [e2] at en;cases en;exact e2
 | _=>exact g4.elim
end
end FL
namespace FL
open PySem L2 PySem.Spec
open PyProof.Rows hiding St
variable [Cs]
def Walk (K:PySem.W.Frag) (J:It) (items:List D) (H:Hp):Prop :=
 (∀ i d H',Fzn H H'->items[i]?=some d->J.go i H'/\∀ x H'',J.yld i H' x H''->zbs H' H''/\Fz K H'' d x)/\∀ i H',Fzn H H'->items.length<=i->J.stop i H'
def tI (K:PySem.W.Frag) (it:IF):TI:=fun σ H R=>∃ ρ,Rel K ρ σ H/\Good K ρ σ H (it ρ) fun items _ H'=>∀ J,Walk K J items H'->R J H'
def PVI (K:PySem.W.Frag) (X:Cx) (tg e:Expr) (it:IF):Prop:=X.K=K->PI X tg e (tI K it)
theorem _root_.L2.PI.weak {X:Cx} {tg e:Expr} {t t':TI} (h:PI X tg e t) (w:∀ σ H R,t' σ H R->t σ H R):PI X tg e t':=fun pins s σ H R I q=>h pins s σ H R I (w σ H R q)
section
variable {K:PySem.W.Frag} {X:Cx} {tg e:Expr} {f:EF} {pos:Pos}
theorem zvO {l:Expr} {tl:TE} (hl:PE X l tl):PI X tg l (fun σ H R=>tl σ H fun x H1=>∃ a,x=.ref a/\(((∃ xs,SqL X.K H1 a xs)/\R (Itl X.K a) H1)\/((∃ xs,SqT X.K H1 a xs)/\R (Itt X.K a) H1))):=by
 intro pins s σ H R I h
 refine thn (hl pins s σ H _ I h) fun v s1 ⟨x,H1,I1,r1,q1⟩=>?_
 obtain ⟨a,e,q1⟩:=q1
 subst e
 cases r1
 rcases q1 with ⟨⟨xs,hq⟩,q⟩ | ⟨⟨xs,hq⟩,q⟩
 ·obtain ⟨its,rv,p,hz⟩:=I1.list hq
  refine wpAny_pyIter_list p.isList ?_
  refine ⟨s1.heap.objs.size,[s1.heap.objs.size],_,_,H1,rfl,I1.kept (t':=s1.toks) fun b o e=>Heap.get?_push_of_some _ e,zoS a _,⟨_,Heap.get?_push_size _ rfl,rfl,rfl⟩,fun b hb=>?_,q⟩
  have e:b=s1.heap.objs.size:=by simpa using hb
  subst e
  exact I1.zse (Nat.le_refl _) (I1.hok.fresh (Nat.le_refl _))
 ·obtain ⟨its,rv,p,hz⟩:=I1.tuple hq
  refine wpAny_pyIter_tuple (show s1.heap.IsTuple a its.toArray from p) ?_
  refine ⟨s1.heap.objs.size,[s1.heap.objs.size],_,_,H1,rfl,I1.kept (t':=s1.toks) fun b o e=>Heap.get?_push_of_some _ e,znS a _,⟨_,Heap.get?_push_size _ rfl,rfl,rfl⟩,fun b hb=>?_,q⟩
  have e:b=s1.heap.objs.size:=by simpa using hb
  subst e
  exact I1.zse (Nat.le_refl _) (I1.hok.fresh (Nat.le_refl _))
theorem zoO {H:Hp} {a:Addr} {vs:List V} {items:List D} (h:FzL K H a vs) (f:zaj K H items vs):Walk K (Itl K a) items H:=by
 refine ⟨fun i d H' fz e=>?_,fun i H' fz e=>⟨vs,(fz.znX h).sq,by rw [f.len];exact e⟩⟩
 obtain ⟨v,ev,_⟩:=f.get e
 refine ⟨⟨vs,v,(fz.znX h).sq,ev⟩,fun x H'' y=>?_⟩
 obtain ⟨rfl,y⟩:=y
 have ex:=y vs (fz.znX h).sq
 obtain ⟨v',ev',fv⟩:=(f.mono fz).get e
 rw [ex] at ev'
 cases ev'
 exact ⟨zbs.refl _,fv⟩
theorem zrb {H:Hp} {a:Addr} {vs:List V} {items:List D} (h:TAt H a vs) (f:zaj K H items vs):Walk K (Itt K a) items H:=by
 refine ⟨fun i d H' fz e=>?_,fun i H' fz e=>⟨vs,.inl (fz.zw5 h),by rw [f.len];exact e⟩⟩
 obtain ⟨v,ev,_⟩:=f.get e
 refine ⟨⟨vs,v,.inl (fz.zw5 h),ev⟩,fun x H'' y=>?_⟩
 obtain ⟨rfl,y⟩:=y
 have ex:=y vs (.inl (fz.zw5 h))
 obtain ⟨v',ev',fv⟩:=(f.mono fz).get e
 rw [ex] at ev'
 cases ev'
 exact ⟨zbs.refl _,fv⟩
theorem zaR (he:PV K X e f):PVI K X tg e (iE f):=fun hK=>by
 subst hK
 refine (zvO (he rfl)).weak fun σ H R=>?_
 rintro ⟨ρ,rel,q⟩
 refine goV rel q fun dx ρ1 x H1 rel1 st1 fx q1=>?_
 obtain ⟨items,ei,q2⟩:=q1.zii
 cases dx with
 | list a =>
  cases ei
  simp only [Fz] at fx
  obtain ⟨l,vs,rfl,sx,f⟩:=fx
  exact ⟨l,rfl,.inl ⟨⟨vs,sx.sq⟩,q2.now rel1 _ (zoO sx f)⟩⟩
 | tuple a =>
  cases ei
  simp only [Fz] at fx
  obtain ⟨l,vs,rfl,sx,f⟩:=fx
  exact ⟨l,rfl,.inr ⟨⟨vs,.inl sx⟩,q2.now rel1 _ (zrb sx f)⟩⟩
 | _=>cases ei
theorem p62:(2:Int) ^ 62=4611686018427387904:=by decide
theorem ztD {lo hi:Int} {i:Nat} {d:D} (h:(rng lo hi)[i]?=some d):i < (hi - lo).toNat/\d=.int (lo + i):=by
 unfold rng at h
 rw [List.getElem?_map] at h
 by_cases c:i < (hi - lo).toNat
 ·rw [List.getElem?_range c] at h
  cases h
  exact ⟨c,rfl⟩
 ·rw [List.getElem?_eq_none (by rw [List.length_range];omega)] at h;cases h
theorem zrc {H:Hp} (lo hi:Int):Walk K (Itr lo (hi - lo).toNat) (rng lo hi) H:=by
 refine ⟨fun i d H' fz e=>?_,fun i H' fz e=>?_⟩
 ·obtain ⟨c,rfl⟩:=ztD e
  refine ⟨c,fun x H'' y=>?_⟩
  obtain ⟨rfl,rfl⟩:=y
  exact ⟨zbs.refl _,zfW _⟩
 ·show (hi - lo).toNat<=i
  simpa [rng] using e
theorem zdg {a:Expr} {fa:AF} {p:Pos} (hg:Gl X "range") (hm:X.mg "range"=none) (ha:PVA K X [a] fa) (hs:starEach [a] X.env=[(false,eval a X.env)]:=by rfl):PVI K X tg (.Call (.Name "range" p) [a] [] pos) (iR1 fa):=fun hK=>(zps hg hm (ha hK) hs).weak fun σ H R=>by
 rintro ⟨ρ,rel,q⟩
 refine goA rel q fun ds ρ1 vs H1 rel1 st1 fs q1=>?_
 obtain ⟨items,ei,q2⟩:=q1.zii
 cases ds with
 | nil=>cases ei
 | cons d r =>
  cases r with
  | cons _ _=>cases d <;> cases ei
  | nil =>
   cases d with
   | int j =>
    obtain ⟨c,ei⟩:=zbG (show chk (zn0 j && leB j.toNat lim) (.ok (rng 0 j))=.ok items from ei)
    cases ei
    simp only [zaj,Fz] at fs
    obtain ⟨_,_,rfl,rfl,rfl⟩:=fs
    simp only [zn0,Bool.and_eq_true,leB_iff] at c
    have:=zrc (K:=K) (H:=H1) 0 j
    rw [Int.sub_zero] at this
    have e62:=p62
    exact ⟨j,rfl,by omega,by omega,q2.now rel1 _ this⟩
   | _=>cases ei
variable {it:IF} {g:GF} {b t:SF} {body:List Stmt}
theorem ztN {dom:List Nat} (hp:PassesOwn (model X.prog X.w) X.A X.env X.xe) (hc:X.calm=true) (hi:PVI K X tg e it) (hg:PVG K X dom tg g) (hb:zlV K X body b) (hs:∀ x,foldedSetIterable e X.env x=pure x:=by intro _;rfl):PSV K X (.For tg e body [] pos) (zcP it g b):=fun hK C =>
 (zvK hp hc (hi hK) (hg hK) (hb hK C) hs).weak fun Dn σ0 H0=>by
 rintro ⟨ρ0,rel0,q⟩
 obtain ⟨x,ex,q⟩:=q.bnd
 refine ⟨ρ0,rel0.rel,?_⟩
 rw [ex]
 intro Hs r st J wk
 have rel1:=rel0.step r st
 have q1:=q.step (st.fzn rel0.rel)
 obtain ⟨items,ρs⟩:=x
 refine ⟨fun i m σ H=>m=items.length - i/\i<=items.length/\∃ ρ,zeZ K C ρ σ H/\Fzn Hs H/\zcR K C H (forL g b (items.drop i) ρ) Dn,⟨items.length,by simp,Nat.zero_le _,ρs,rel1,Fzn.refl _,q1⟩,?_⟩
 rintro i m σ H ⟨rfl,hi,ρ,rel,fz,gd⟩
 by_cases c:i < items.length
 ·have ed:=List.drop_eq_getElem_cons c
  rw [ed] at gd
  obtain ⟨hgo,hy⟩:=wk.1 i items[i] H fz (List.getElem?_eq_getElem c)
  refine .inr ⟨hgo,fun σ' H'=>∃ ρ,zeZ K C ρ σ' H'/\Fzn Hs H'/\zcR K C H' (forL g b (items.drop (i + 1)) ρ) Dn,fun σ' H' n=>⟨items.length - (i + 1),by omega,rfl,c,n⟩,fun x H3 y=>?_⟩
  obtain ⟨sm,fx⟩:=hy x H3 y
  have rel3:zeZ K C ρ σ H3:=rel.step (rel.rel.same sm) (.of sm)
  obtain ⟨ρ1,e1,gd1⟩:=gd.bnd
  refine ⟨ρ,items[i],ρ1,rel3.rel,fx,e1,fun σ1 rel4 chg=>⟨ρ1,rel3.chg rel4 chg,?_⟩⟩
  obtain ⟨y,ey,gd2⟩:=gd1.bnd
  rw [ey]
  have gd3:=gd2.step (Fzn.of sm)
  have fz3:=fz.trans (Fzn.of sm)
  obtain ⟨fl,ρ2⟩:=y
  cases fl with
  | nx=>exact fun σ' H' r z=>⟨ρ2,r,fz3.trans z,gd3.step z⟩
  | ct=>exact fun σ' H' r z=>⟨ρ2,r,fz3.trans z,gd3.step z⟩
  | bk=>exact gd3
  | rt d=>exact gd3
  | rf d=>exact gd3
 ·have e:i=items.length:=by omega
  subst e
  rw [List.drop_length] at gd
  exact .inl ⟨wk.2 _ H fz (Nat.le_refl _),gd σ H rel (Fzn.refl _)⟩
theorem zkP {c:Expr} {tc:TF} (fuel:En->Nat) (hp:PassesOwn (model X.prog X.w) X.A X.env X.xe) (hc:PVT K X c tc) (hb:zlV K X body b):PSV K X (.While c body [] pos) (zhI fuel tc b):=fun hK C =>
 (zrA hp (hc hK) (hb hK C)).weak fun Dn σ0 H0=>by
 rintro ⟨ρ0,rel0,q⟩
 refine ⟨fun m σ H=>∃ ρ,zeZ K C ρ σ H/\zcR K C H (zht tc b m ρ) Dn,⟨fuel ρ0,ρ0,rel0,q⟩,?_⟩
 rintro m σ H ⟨ρ,rel,gd⟩
 cases m with
 | zero=>exact gd.elim
 | succ n =>
  refine zym rel gd fun cb ρ1 H1 rel1 fz g1=>?_
  cases cb with
  | false=>exact zuy (g1 σ H1 rel1 (Fzn.refl _))
  | true =>
   refine zux ⟨fun σ' H'=>∃ ρ,zeZ K C ρ σ' H'/\zcR K C H' (zht tc b n ρ) Dn,fun σ' H' z=>⟨n,Nat.lt_succ_self _,z⟩,ρ1,rel1,?_⟩
   obtain ⟨y,ey,gd2⟩:=(show zcR K C H1 ((b ρ1).bind fun y=>match y.1 with
   | .nx | .ct=>zht tc b n y.2
   | .bk=>.ok (.nx,y.2)
   | .rt d=>.ok (.rt d,y.2)
   | .rf d=>.ok (.rf d,y.2)) Dn from g1).bnd
   rw [ey]
   obtain ⟨fl,ρ2⟩:=y
   cases fl with
   | nx=>exact fun σ' H' r z=>⟨ρ2,r,gd2.step z⟩
   | ct=>exact fun σ' H' r z=>⟨ρ2,r,gd2.step z⟩
   | bk=>exact gd2
   | rt d=>exact gd2
   | rf d=>exact gd2
end
end FL
namespace FL
open PySem L2 PySem.Spec
open PyProof.Rows hiding St
variable [Cs]
section
variable {K:PySem.W.Frag} {ρ:En} {σ:L2.St} {H H':Hp} {k:Nat} {ix:List Nat}
theorem zqJ {j:Nat} (h:j < k):(blk k ix ρ)[j]?=some .no:=by
 unfold blk
 rw [List.getElem?_append_left (by simpa using h),List.getElem?_replicate,if_pos h]
theorem znE (j:Nat):(blk k ix ρ)[k + j]?=(ix[j]?).map fun i=>(ρ[i]?).getD .no:=by
 unfold blk
 rw [List.getElem?_append_right (by simp),List.length_replicate,Nat.add_sub_cancel_left,List.getElem?_map]
theorem zqH (j:Nat):(zeW k ix σ)[k + j]?=(ix[j]?).map fun i=>(σ[i]?).getD none:=by
 unfold zeW
 rw [List.getElem?_append_right (by simp),List.length_replicate,Nat.add_sub_cancel_left,List.getElem?_map]
theorem zjy {j:Nat} {a:Addr} (h:At (blk k ix ρ) (zeW k ix σ) j a):∃ j' i,j=k + j'/\ix[j']?=some i/\At ρ σ i a:=by
 obtain ⟨⟨p,d,e1⟩,e2⟩:=h
 by_cases c:j < k
 ·rw [zqJ c] at e1;cases e1
 ·obtain ⟨j',rfl⟩:∃ j',j=k + j':=⟨j - k,by omega⟩
  rw [znE] at e1
  rw [zqH] at e2
  cases ei:ix[j']? with
  | none=>rw [ei] at e1;cases e1
  | some i =>
   rw [ei] at e1 e2
   refine ⟨j',i,rfl,ei,⟨p,d,?_⟩,?_⟩
   ·simp only [Option.map_some,Option.some.injEq] at e1
    cases er:ρ[i]? with
    | none=>rw [er] at e1;cases e1
    | some x=>rw [er] at e1;simpa using e1
   ·simp only [Option.map_some,Option.some.injEq] at e2
    cases es:σ[i]? with
    | none=>rw [es] at e2;cases e2
    | some x=>rw [es] at e2;simpa using e2
theorem zpE {l:List Nat} (h:l.Nodup) {i j x:Nat} (a:l[i]?=some x) (b:l[j]?=some x):i=j:=by
 obtain ⟨h1,e1⟩:=List.getElem?_eq_some_iff.mp a
 obtain ⟨h2,e2⟩:=List.getElem?_eq_some_iff.mp b
 exact (List.getElem_inj h).mp (e1.trans e2.symm)
theorem zqI (nd:ix.Nodup) (r:Rel K ρ σ H):Rel K (blk k ix ρ) (zeW k ix σ) H:=by
 refine ⟨by simp [blk,zeW],fun j x v e1 e2=>?_,fun i j a h1 h2=>?_,r.cst⟩
 ·by_cases c:j < k
  ·rw [zqJ c] at e1;cases e1;trivial
  ·obtain ⟨j',rfl⟩:∃ j',j=k + j':=⟨j - k,by omega⟩
   rw [znE] at e1
   rw [zqH] at e2
   cases ei:ix[j']? with
   | none=>rw [ei] at e1;cases e1
   | some i =>
    rw [ei] at e1 e2
    simp only [Option.map_some,Option.some.injEq] at e1 e2
    cases er:ρ[i]? with
    | none=>rw [er] at e1;cases e1;trivial
    | some y =>
     have hl:i < σ.length:=by rw [<- r.len];exact (List.getElem?_eq_some_iff.mp er).1
     rw [er] at e1
     rw [List.getElem?_eq_getElem hl] at e2
     cases e1;cases e2
     exact r.ok i _ _ er (List.getElem?_eq_getElem hl)
 ·obtain ⟨i',x,rfl,e1,a1⟩:=zjy h1
  obtain ⟨j',y,rfl,e2,a2⟩:=zjy h2
  have:=r.sep x y a a1 a2
  subst this
  rw [zpE nd e1 e2]
theorem zmF {m:List (Nat × Sl)}:∀ (ρ:En) (n i:Nat),(bkL m n ρ)[i]?=(ρ[i]?).map (bk1 m (n + i))
 | [],n,i=>by simp [bkL]
 | x :: r,n,0=>by simp [bkL]
 | x :: r,n,i + 1=>by
  simp only [bkL,zz1]
  rw [zmF r (n + 1) i,show n + 1 + i=n + (i + 1) by omega]
theorem znH {cs:En} (i:Nat):(back ρ ix cs)[i]?=(ρ[i]?).map (bk1 (ix.zip cs) i):=by
 unfold back
 rw [zmF,Nat.zero_add]
theorem zmE {m:List (Nat × Sl)}:∀ (ρ:En) (n:Nat),(bkL m n ρ).length=ρ.length
 | [],n=>rfl
 | x :: r,n=>by simp [bkL,zmE r]
theorem zi5:∀ {ix:List Nat} {cs:En} {i:Nat} {c:Sl},(ix.zip cs).lookup i=some c->∃ j:Nat,ix[j]?=some i/\cs[j]?=some c
 | [],cs,i,c,h=>by simp at h
 | x :: r,[],i,c,h=>by simp at h
 | x :: r,y :: s,i,c,h=>by
  rw [List.zip_cons_cons,List.lookup_cons] at h
  by_cases e:i=x
  ·subst e
   simp only [beq_self_eq_true] at h
   cases h
   exact ⟨0,rfl,rfl⟩
  ·rw [beq_false_of_ne e] at h
   obtain ⟨j,h1,h2⟩:=zi5 h
   exact ⟨j + 1,by simpa using h1,by simpa using h2⟩
theorem zfx:∀ {ix:List Nat} {cs:En} {i j:Nat} {c:Sl},ix.Nodup->ix[j]?=some i->cs[j]?=some c->(ix.zip cs).lookup i=some c
 | [],cs,i,j,c,_,h1,_=>by simp at h1
 | x :: r,[],i,j,c,_,_,h2=>by simp at h2
 | x :: r,y :: s,i,j,c,nd,h1,h2=>by
  rw [List.zip_cons_cons,List.lookup_cons]
  cases j with
  | zero =>
   simp at h1 h2
   subst h1;subst h2
   simp
  | succ j =>
   simp at h1 h2
   have:i ≠ x:=fun z=>by
    subst z
    exact (List.nodup_cons.mp nd).1 (List.mem_of_getElem? h1)
   rw [beq_false_of_ne this]
   exact zfx (List.nodup_cons.mp nd).2 h1 h2
theorem zko {β:En} {σβ:L2.St} (nd:ix.Nodup) (r:Rel K ρ σ H) (hs:∀ j,σβ[k + j]?=(zeW k ix σ)[k + j]?) (rb:Rel K β σβ H')
  (md:∀ j p,(∃ d,β[k + j]?=some (.ow p d)) ↔ ∃ d,(blk k ix ρ)[k + j]?=some (.ow p d)) (kp:∀ a o,H a=some o->¬ MA (blk k ix ρ) (zeW k ix σ) a->H' a=some o) :
  Rel K (back ρ ix (β.drop k)) σ H'/\Stp ρ (back ρ ix (β.drop k)) σ H H':=by
 have hm:∀ a,MA (blk k ix ρ) (zeW k ix σ) a->MA ρ σ a:=fun a ⟨j,h⟩=>by
  obtain ⟨_,i,_,_,h⟩:=zjy h
  exact ⟨i,h⟩
 have fz:Fzn H H':=fun a o h st=>kp a o h fun m=>by
  obtain ⟨o',e,w⟩:=r.zbp (hm a m)
  rw [h] at e
  cases e
  exact w.zdO st
 have mdB:∀ (i:Nat) p,(∃ d,ρ[i]?=some (.ow p d)) ↔ ∃ d,(back ρ ix (β.drop k))[i]?=some (.ow p d):=fun i p=>by
  rw [znH]
  constructor
  ·rintro ⟨d,e⟩
   rw [e]
   simp only [Option.map_some,bk1]
   split
   ·rename_i p' d1 q' d2 h1 h2;cases h1;exact ⟨_,rfl⟩
   ·exact ⟨_,rfl⟩
  ·rintro ⟨d,e⟩
   cases er:ρ[i]? with
   | none=>rw [er] at e;cases e
   | some x =>
    rw [er] at e
    simp only [Option.map_some,Option.some.injEq,bk1] at e
    split at e
    ·cases e;exact ⟨_,rfl⟩
    ·subst e;exact ⟨_,rfl⟩
 have atB:∀ i a,At (back ρ ix (β.drop k)) σ i a->At ρ σ i a:=fun i a ⟨⟨p,d,e1⟩,e2⟩=>⟨⟨p,(mdB i p).mpr ⟨d,e1⟩⟩,e2⟩
 refine ⟨⟨by rw [show (back ρ ix (β.drop k)).length=ρ.length from zmE _ _];exact r.len,fun i x v e1 e2=>?_,fun i j a h1 h2=>r.sep i j a (atB i a h1) (atB j a h2),r.cst.mono fz⟩,⟨mdB,fun a o h n=>kp a o h fun m=>n (hm a m)⟩⟩
 rw [znH] at e1
 cases er:ρ[i]? with
 | none=>rw [er] at e1;cases e1
 | some y =>
  rw [er] at e1
  simp only [Option.map_some,Option.some.injEq] at e1
  have o:=r.ok i y v er e2
  cases y with
  | no=>simp only [bk1] at e1;subst e1;trivial
  | val d =>
   simp only [bk1] at e1
   subst e1
   exact o.mono fz fun a _ ⟨p,d',z⟩=>nomatch z
  | ow p d =>
   cases v with
   | none=>exact o.elim
   | some v =>
    cases v with
    | ref a =>
     have ai:At ρ σ i a:=⟨⟨p,d,er⟩,e2⟩
     cases el:(ix.zip (β.drop k)).lookup i with
     | none =>
      simp only [bk1,el] at e1
      subst e1
      refine o.mono fz fun b e3 _=>?_
      cases e3
      obtain ⟨u,hu,_⟩:=r.zbp ⟨i,ai⟩
      rw [hu]
      refine kp a u hu fun ⟨j,h⟩=>?_
      obtain ⟨j',i',rfl,ej,h'⟩:=zjy h
      have:=r.sep i i' a ai h'
      subst this
      have hb:β[k + j']? ≠ none:=fun z=>by
       have:∃ d,β[k + j']?=some (.ow p d):=(md j' p).mpr ⟨d,by rw [znE,ej];simp [er]⟩
       obtain ⟨_,w⟩:=this
       rw [z] at w;cases w
      cases hbe:β[k + j']? with
      | none=>exact hb hbe
      | some c =>
       have:(β.drop k)[j']?=some c:=by rw [List.getElem?_drop];exact hbe
       rw [zfx nd ej this] at el
       cases el
     | some c =>
      obtain ⟨j,hj,hc⟩:=zi5 el
      rw [List.getElem?_drop] at hc
      have bm:(blk k ix ρ)[k + j]?=some (.ow p d):=by rw [znE,hj];simp [er]
      obtain ⟨d',hd'⟩:=(md j p).mpr ⟨d,bm⟩
      rw [hc] at hd'
      cases hd'
      simp only [bk1,el] at e1
      subst e1
      have es:σβ[k + j]?=some (some (.ref a)):=by rw [hs j,zqH,hj];simp [e2]
      exact rb.ok (k + j) _ _ hc es
    | _=>exact o.elim
end
theorem zkf {K:PySem.W.Frag} {k:Nat} {dom:List Nat} {g:GF} (hd:dom.all (fun i=>decide (i < k))=true):zmR k (tG K dom g):=fun x σ H Q=>by
 rintro ⟨ρ,d,ρ1,rel,fz,e,q⟩
 refine ⟨ρ,d,ρ1,rel,fz,e,fun σ1 rel1 c=>⟨⟨c.1,fun i hi=>?_⟩,q σ1 rel1 c⟩⟩
 rcases c.2 i with ⟨_,c2⟩ | ⟨m,_⟩
 ·exact c2
 ·have:=of_decide_eq_true (List.all_eq_true.mp hd i m)
  omega
def ztu (K:PySem.W.Frag) (X:Cx) (ifs:List Expr) (t:TF):Prop:=X.K=K->PTs X ifs (tT K t)
theorem _root_.L2.PTs.weak {X:Cx} {e:List Expr} {t t':TT} (h:PTs X e t) (w:∀ σ H Q,t' σ H Q->t σ H Q):PTs X e t':=fun pins s σ H Q I q=>h pins s σ H Q I (w σ H Q q)
theorem zba {K:PySem.W.Frag} {X:Cx}:ztu K X [] za5:=fun _=>ztS.weak fun σ H Q=>by
 rintro ⟨ρ,rel,q⟩
 exact q.now rel
theorem zeF {K:PySem.W.Frag} {X:Cx} {c:Expr} {t:TF} (h:PVT K X c t):ztu K X [c] t:=fun hK=>ztR (h hK)
section
variable {K:PySem.W.Frag} {X:Cx} {elt tg iter:Expr} {ifs:List Expr} {scope:Scope} {pos:Pos} {it:IF} {g:GF} {t:TF} {f:EF} {dom:List Nat}
theorem zth {k:Nat} {ix:List Nat} (nd:ix.Nodup) (hgo:dom.all (fun i=>decide (i < k))=true) (σ:L2.St) (H:Hp) (Q:VK) (q:tN K (zaW k ix it g t f) σ H Q):znW k ix (tI K it) (tG K dom g) (tT K t) (tV K f) σ H Q:=by
 revert q
 rintro ⟨ρ0,rel0,q⟩
 obtain ⟨x,ex,q⟩:=q.bnd
 refine ⟨ρ0,rel0,?_⟩
 rw [ex]
 intro H1 rel1 st1 J wk l hl
 obtain ⟨items,ρs⟩:=x
 have hl0:H l=none:=by
  cases e:H l with
  | none=>rfl
  | some o =>
   by_cases m:MA ρ0 σ l
   ·obtain ⟨o',e',_⟩:=rel1.zbp (st1.ma.mp m)
    rw [hl] at e';cases e'
   ·rw [st1.kp l o e m] at hl;cases hl
 have sl:zbs H1 (upd H1 l (.lst [])):=zbs.upd hl
 refine ⟨fun i m ys H2=>m=items.length - i/\i<=items.length/\H2 l=some (.lst ys)/\∃ ρ acc,Rel K ρ σ H2/\¬ MA ρ σ l/\zaj K H2 acc ys/\Fzn H1 H2/\Stp ρ0 ρ σ H H2 /\
  Good K ρ0 σ H ((ziZ k ix g t f (items.drop i) ρ acc).bind fun (y:List D × En)=>.ok ((PyData.list y.1:D),y.2)) fun d ρ' H'=>∀ a,H a=none->zb3 K H' a d->Q (.ref a) H',
  ⟨items.length,by simp,Nat.zero_le _,zan,ρs,[],rel1.same sl,fun z=>?_,by simp [zaj],Fzn.of sl,st1.trans (.of sl),q⟩,?_⟩
 ·obtain ⟨o',e',_⟩:=rel1.zbp z
  rw [hl] at e';cases e'
 rintro i m ys H2 ⟨rfl,hi,hly,ρ,acc,rel,nma,fa,fz,st0,gd⟩
 refine ⟨hly,?_⟩
 by_cases c:i < items.length
 ·have ed:=List.drop_eq_getElem_cons c
  rw [ed] at gd
  obtain ⟨hgo',hy⟩:=wk.1 i items[i] H2 fz (List.getElem?_eq_getElem c)
  refine .inr ⟨hgo',fun x H3 y=>?_⟩
  obtain ⟨sm,fx⟩:=hy x H3 y
  have rel3:Rel K ρ σ H3:=rel.same sm
  obtain ⟨w,ew,gd⟩:=gd.zii
  obtain ⟨β1,e1,ew⟩:=zas (show (g items[i] (blk k ix ρ)).bind _=.ok w from ew)
  obtain ⟨c1,ec,ew⟩:=zas ew
  refine ⟨blk k ix ρ,items[i],β1,zqI nd rel3,fx,e1,fun σ1 relβ chg=>⟨β1,relβ,?_⟩⟩
  rw [ec]
  intro H5 rel5 st5
  have hσ:∀ j,σ1[k + j]?=(zeW k ix σ)[k + j]?:=fun j=>by
   rcases chg.2 (k + j) with ⟨_,c2⟩ | ⟨m,_⟩
   ·exact c2
   ·have:=of_decide_eq_true (List.all_eq_true.mp hgo _ m)
    omega
  have hβ:∀ j,β1[k + j]?=(blk k ix ρ)[k + j]?:=fun j=>by
   rcases chg.2 (k + j) with ⟨c2,_⟩ | ⟨m,_⟩
   ·exact c2
   ·have:=of_decide_eq_true (List.all_eq_true.mp hgo _ m)
    omega
  have hMA:∀ a,MA β1 σ1 a->MA (blk k ix ρ) (zeW k ix σ) a:=fun a ⟨j,⟨p,d,z1⟩,z2⟩=>by
   rcases chg.2 j with ⟨c1,c2⟩ | ⟨_,⟨d',c1⟩,_⟩
   ·exact ⟨j,⟨p,d,by rw [<- c1];exact z1⟩,by rw [<- c2];exact z2⟩
   ·rw [c1] at z1;cases z1
  have hMB:∀ a,MA (blk k ix ρ) (zeW k ix σ) a->MA ρ σ a:=fun a ⟨j,h⟩=>by
   obtain ⟨_,i,_,_,h⟩:=zjy h
   exact ⟨i,h⟩
  have h3l:H3 l=some (.lst ys):=sm l _ hly
  have n1:¬ MA β1 σ1 l:=fun z=>nma (hMB l (hMA l z))
  have h5l:H5 l=some (.lst ys):=st5.kp l _ h3l n1
  obtain ⟨cb,β2⟩:=c1
  cases cb with
  | true =>
   refine zux ⟨β2,rel5,?_⟩
   obtain ⟨y,ey,ew⟩:=zas (show (f β2).bind _=.ok w from ew)
   rw [ey]
   intro H6 rel6 st6 v fv
   obtain ⟨cc,ew⟩:=zbG ew
   have n2:¬ MA β2 σ1 l:=fun z=>n1 (st5.ma.mpr z)
   have h6l:H6 l=some (.lst ys):=st6.kp l _ h5l n2
   have st:Stp β1 y.2 σ1 H3 H6:=st5.trans st6
   obtain ⟨rb,sb⟩:=zko (k:=k) nd rel3 hσ rel6 (fun j p=>by rw [<- hβ j];exact (st.md (k + j) p).symm) (fun a o h n=>st.kp a o h fun z=>n (hMA a z))
   have nmb:¬ MA (back ρ ix (y.2.drop k)) σ l:=fun z=>nma (sb.ma.mpr z)
   have fz6:Fzn H2 H6:=(Fzn.of sm).trans (sb.fzn rel3)
   have fz7:Fzn H6 (upd H6 l (.lst (ys ++ [v]))):=fun b u e s=>by
    rw [zax fun z=>by subst z;rw [h6l] at e;cases e;exact s]
    exact e
   refine ⟨h6l,?_,items.length - (i + 1),by omega,rfl,c,zan,back ρ ix (y.2.drop k),acc ++ [y.1],rb.put nmb (fun u e=>by rw [h6l] at e;cases e;exact fun z=>z),nmb,?_,(fz.trans fz6).trans fz7,⟨((st0.trans (.of sm)).trans sb).md,fun a o h n=>?_⟩,?_⟩
   ·have:=zhV cc
    have l0:=zcz
    rw [fa.len];omega
   ·refine ((fa.mono fz6).mono fz7).app ?_
    simp only [zaj]
    exact ⟨v,[],rfl,fv.mono fz7,rfl⟩
   ·rw [zax fun z=>by subst z;rw [hl0] at h;cases h]
    exact ((st0.trans (.of sm)).trans sb).kp a o h n
   ·rw [ew]
    exact gd
  | false =>
   obtain ⟨rb,sb⟩:=zko (k:=k) nd rel3 hσ rel5 (fun j p=>by rw [<- hβ j];exact (st5.md (k + j) p).symm) (fun a o h n=>st5.kp a o h fun z=>n (hMA a z))
   have nmb:¬ MA (back ρ ix (β2.drop k)) σ l:=fun z=>nma (sb.ma.mpr z)
   have fz6:Fzn H2 H5:=(Fzn.of sm).trans (sb.fzn rel3)
   refine zuy ⟨items.length - (i + 1),by omega,rfl,c,h5l,back ρ ix (β2.drop k),acc,rb,nmb,fa.mono fz6,fz.trans fz6,(st0.trans (.of sm)).trans sb,?_⟩
   rw [show ziZ k ix g t f (items.drop (i + 1)) (back ρ ix (β2.drop k)) acc=.ok w from ew]
   exact gd
 ·have e:i=items.length:=by omega
  subst e
  rw [List.drop_length] at gd
  exact .inl ⟨wk.2 _ H2 fz (Nat.le_refl _),gd H2 rel st0 l hl0 ⟨ys,hly,fa⟩⟩
theorem zrq (L:List Str) (ix:List Nat) (M:List Str) (hc:X.calm=true) (hk:scope.kind=.function) (hd:zct X.env.scope scope X.N ix=true) (hM:M=L ++ ix.map fun i=>X.N.getD i "") (nd:ix.Nodup) (hi:PVI K X tg iter it)
  (hg:∀ C s₃ H₃ fp,PVG K (zap X M scope C s₃ H₃ fp) dom tg g) (hgo:dom.all (fun i=>decide (i < L.length))=true)
  (ht:∀ C s₃ H₃ fp,ztu K (zap X M scope C s₃ H₃ fp) ifs t) (he:∀ C s₃ H₃ fp,PV K (zap X M scope C s₃ H₃ fp) elt f)
  (hs:∀ x,foldedSetIterable iter X.env x=pure x:=by intro _;rfl) :
  PVN K X (.ListComp elt [⟨tg,iter,ifs,0⟩] scope pos) (zaW L.length ix it g t f):=fun hK=>by
 refine (zrH L ix M hc hk hd hM (hi hK) (fun C s₃ H₃ fp=>hg C s₃ H₃ fp hK) (zkf hgo) (fun C s₃ H₃ fp=>ht C s₃ H₃ fp hK) (fun C s₃ H₃ fp=>he C s₃ H₃ fp hK) hs).weak fun σ H Q q=>zth nd hgo σ H Q q
end
end FL
namespace FL
open PySem L2 PySem.Spec
open PyProof.Rows hiding St
variable [Cs]
def spF (K:PySem.W.Frag) (ms:List Bool) (fr:Bool) (F:List D->R (D × List D)):Sp:=fun vs H Q _=>∃ ds,vs.length=ms.length/\ds.length=ms.length/\Rel K (slots ms ds) (vs.map some) H /\
 ∃ d os,F ds=.ok (d,os)/\∀ v H',Rel K (slots ms os) (vs.map some) H'->(∀ a o,H a=some o->¬ MA (slots ms ds) (vs.map some) a->H' a=some o) ->
  (if fr=true then ∃ a,v=.ref a/\H a=none/\zb3 K H' a d else Fz K H' d v)->Q v H'
def spP (K:PySem.W.Frag) (n:Nat) (fr:Bool) (G:List D->R D):Sp:=fun vs H Q _=>∃ ds,vs.length=n/\zu3 H/\zaj K H ds vs/\∃ d,G ds=.ok d/\∀ v H',zbs H H'->(if fr=true then ∃ a,v=.ref a/\H a=none/\zb3 K H' a d else Fz K H' d v)->Q v H'
theorem zcj:∀ {ms:List Bool} {ds:List D} {i:Nat},ds.length=ms.length->(slots ms ds)[i]?=(ms[i]?).bind fun m=>(ds[i]?).map fun d=>if m=true then Sl.ow true d else Sl.val d
 | [],[],i,_=>by simp [slots]
 | [],_ :: _,i,h=>by simp at h
 | _ :: _,[],i,h=>by simp at h
 | m :: ms,d :: ds,0,_=>by simp [slots]
 | m :: ms,d :: ds,i + 1,h=>by
  simp only [slots,zz1]
  exact zcj (by simpa using h)
theorem zdX:∀ {ms:List Bool} {ds:List D},ds.length=ms.length->(slots ms ds).length=ms.length
 | [],[],_=>rfl
 | [],_ :: _,h=>by simp at h
 | _ :: _,[],h=>by simp at h
 | m :: ms,d :: ds,h=>by simp only [slots,List.length_cons];rw [zdX (by simpa using h)]
theorem zfO:∀ {ms:List Bool} {ds:List D} {ρ:En},ds.length=ms.length->(outs ms ds ρ).length=ms.length
 | [],[],_,_=>rfl
 | [],_ :: _,_,h=>by simp at h
 | _ :: _,[],_,h=>by simp at h
 | m :: ms,d :: ds,ρ,h=>by simp only [outs,List.length_cons];rw [zfO (by simpa using h)]
theorem zm8:∀ {ms:List Bool} {ds:List D} {ρ:En} {i:Nat} {m:Bool} {d:D},ms[i]?=some m->ds[i]?=some d->(outs ms ds ρ)[i]?=some (outD m d ρ[i]?)
 | m0 :: ms,d0 :: ds,ρ,0,m,d,h1,h2=>by
  simp at h1 h2
  subst h1;subst h2
  simp [outs,List.head?_eq_getElem?]
 | m0 :: ms,d0 :: ds,ρ,i + 1,m,d,h1,h2=>by
  simp at h1 h2
  simp only [outs,zz1]
  rw [zm8 h1 h2,List.getElem?_tail]
 | [],_,_,_,_,_,h,_=>by simp at h
 | _ :: _,[],_,_,_,_,_,h=>by simp at h
section
variable {K:PySem.W.Frag} {ρ:En} {σ:L2.St} {H:Hp}
theorem Rel.pad (r:Rel K ρ σ H) (n:Nat):Rel K (ρ ++ List.replicate n .no) (σ ++ List.replicate n none) H:=by
 have w:∀ i a,At (ρ ++ List.replicate n .no) (σ ++ List.replicate n none) i a->At ρ σ i a:=fun i a ⟨⟨p,d,e1⟩,e2⟩=>by
  by_cases c:i < ρ.length
  ·rw [List.getElem?_append_left c] at e1
   rw [List.getElem?_append_left (by rw [<- r.len];exact c)] at e2
   exact ⟨⟨p,d,e1⟩,e2⟩
  ·rw [List.getElem?_append_right (by omega),List.getElem?_replicate] at e1
   split at e1 <;> cases e1
 refine ⟨by simp [r.len],fun i x v e1 e2=>?_,fun i j a h1 h2=>r.sep i j a (w i a h1) (w j a h2),r.cst⟩
 by_cases c:i < ρ.length
 ·rw [List.getElem?_append_left c] at e1
  rw [List.getElem?_append_left (by rw [<- r.len];exact c)] at e2
  exact r.ok i x v e1 e2
 ·rw [List.getElem?_append_right (by omega),List.getElem?_replicate] at e1
  split at e1
  ·cases e1;trivial
  ·cases e1
theorem zwk {n:Nat} {a:Addr} (hl:ρ.length=σ.length):MA (ρ ++ List.replicate n .no) (σ ++ List.replicate n none) a ↔ MA ρ σ a:=by
 constructor
 ·rintro ⟨i,⟨p,d,e1⟩,e2⟩
  by_cases c:i < ρ.length
  ·rw [List.getElem?_append_left c] at e1
   rw [List.getElem?_append_left (by rw [<- hl];exact c)] at e2
   exact ⟨i,⟨p,d,e1⟩,e2⟩
  ·rw [List.getElem?_append_right (by omega),List.getElem?_replicate] at e1
   split at e1 <;> cases e1
 ·rintro ⟨i,⟨p,d,e1⟩,e2⟩
  have c:=(List.getElem?_eq_some_iff.mp e1).1
  exact ⟨i,⟨p,d,by rw [List.getElem?_append_left c];exact e1⟩,by rw [List.getElem?_append_left (by rw [<- hl];exact c)];exact e2⟩
end
theorem zeE {ms:List Bool} {ds:List D} {i:Nat} {p:Bool} {d:D} (hl:ds.length=ms.length) (e:(slots ms ds)[i]?=some (.ow p d)):p=true/\ms[i]?=some true/\ds[i]?=some d:=by
 rw [zcj hl] at e
 cases em:ms[i]? with
 | none=>rw [em] at e;cases e
 | some m =>
  cases ed:ds[i]? with
  | none=>rw [em,ed] at e;cases e
  | some d' =>
   rw [em,ed] at e
   cases m with
   | true=>simp at e;exact ⟨e.1,rfl,by rw [e.2]⟩
   | false=>simp at e
section
variable {P:Program} {w:World} {K:PySem.W.Frag} {mg:Str->Option Value} {base:Heap}
theorem zqs {x:Str} {st:Stmt} {f:Addr} {fd:FuncData} {N ps:List Str} {k:Nat} {b:SF} (ms:List Bool) (fr:Bool) (h:Fun K x x st f fd) (S:zey N ps (zaz st)) (hps:ps.length=ms.length) (hpN:ps.length<=N.length)
  (hb:∀ (cdv:Value) (A:Around) (outer:List Env) (s:Shared) (H:Hp) (E:XK),zc7 k (A.deeper (envOfC x (zaz st) s.heap.objs.size f cdv))->zlV K (zq7 (CXe P w) P w K mg base N x (zaz st) f cdv A outer s H E) (zb1 st) b) :
  zkB P w K mg base (CXe P w) (k + 1) f fd ps (spF K ms fr (run ms fr N.length b)):=by
 refine h.okE S (fun vs H Q E ⟨ds,e,_⟩=>by rw [e,hps]) fun cdv A outer s H vs Q E hr hq=>?_
 obtain ⟨ds,hv,hd,rel,d,os,hF,q⟩:=hq
 have hst:L2.start N vs=vs.map some ++ List.replicate (N.length - ds.length) none:=by unfold L2.start;rw [hv,hd]
 refine ⟨tS K ⟨H,L2.start N vs,slots ms ds ++ List.replicate (N.length - ds.length) .no⟩ b,hb cdv A outer s H E hr rfl _,slots ms ds ++ List.replicate (N.length - ds.length) .no,?_,?_⟩
 ·have tru:∀ (i:Nat) p d,(slots ms ds ++ List.replicate (N.length - ds.length) .no)[i]?=some (.ow p d)->p=true:=fun i p d e=>by
   by_cases c:i < (slots ms ds).length
   ·rw [List.getElem?_append_left c] at e
    exact (zeE hd e).1
   ·rw [List.getElem?_append_right (by omega),List.getElem?_replicate] at e
    split at e <;> cases e
  refine ⟨?_,fun a o e _=>e,fun i a d e _=>absurd (tru i false d e) Bool.false_ne_true,fun i=>Iff.rfl,fun i d e=>rfl,tru⟩
  rw [hst]
  exact rel.pad _
 ·unfold run at hF
  rw [if_pos hd] at hF
  obtain ⟨y,ey,hF⟩:=zas hF
  rw [ey]
  have fin:∀ (ρ':En) (σ':L2.St) (H':Hp),zeZ K ⟨H,L2.start N vs,slots ms ds ++ List.replicate (N.length - ds.length) .no⟩ ρ' σ' H' ->
    Rel K (slots ms (outs ms ds ρ')) (vs.map some) H'/\(∀ a o,H a=some o->¬ MA (slots ms ds) (vs.map some) a->H' a=some o):=fun ρ' σ' H' r=>by
   have hl0:(slots ms ds).length=(vs.map some).length:=by rw [zdX hd,List.length_map,hv]
   have kp:∀ a o,H a=some o->¬ MA (slots ms ds) (vs.map some) a->H' a=some o:=fun a o e n=>r.keep a o e fun z=>n (by
    have z':MA (slots ms ds ++ List.replicate (N.length - ds.length) .no) (L2.start N vs) a:=z
    rw [hst] at z'
    exact (zwk hl0).mp z')
   have fz:Fzn H H':=fun a o e sy=>kp a o e fun m=>by
    obtain ⟨o',e',ow⟩:=rel.zbp m
    rw [e] at e'
    cases e'
    exact ow.zdO sy
   refine ⟨?_,kp⟩
   have pinned:∀ (i:Nat) d0,ms[i]?=some true->ds[i]?=some d0->∃ d',ρ'[i]?=some (.ow true d')/\σ'[i]?=(vs.map some)[i]?:=fun i d0 em ed=>by
    have hi:i < (slots ms ds).length:=by rw [zdX hd];exact (List.getElem?_eq_some_iff.mp em).1
    have e0:(slots ms ds ++ List.replicate (N.length - ds.length) .no)[i]?=some (.ow true d0):=by
     rw [List.getElem?_append_left hi,zcj hd,em,ed];rfl
    obtain ⟨d',e'⟩:=(r.pin i).mpr ⟨d0,e0⟩
    refine ⟨d',e',?_⟩
    rw [r.fix i d' e']
    show (L2.start N vs)[i]?=_
    rw [hst,List.getElem?_append_left (by rw [<- hl0];exact hi)]
   have ho:(outs ms ds ρ').length=ms.length:=zfO hd
   refine ⟨by rw [zdX ho,List.length_map,hv],fun i x v e1 e2=>?_,fun i j a h1 h2=>?_,rel.cst.mono fz⟩
   ·rw [zcj ho] at e1
    cases em:ms[i]? with
    | none=>rw [em] at e1;cases e1
    | some m =>
     have hi:i < ds.length:=by rw [hd];exact (List.getElem?_eq_some_iff.mp em).1
     have ed:=List.getElem?_eq_getElem hi
     rw [em,zm8 em ed] at e1
     cases m with
     | true =>
      obtain ⟨d',e3,e4⟩:=pinned i _ em ed
      rw [e3] at e1
      cases e1
      rw [<- e4] at e2
      exact r.rel.ok i _ _ e3 e2
     | false =>
      cases e1
      have e5:(slots ms ds)[i]?=some (.val ds[i]):=by rw [zcj hd,em,ed];rfl
      exact (rel.ok i _ _ e5 e2).mono fz fun a _ ⟨p,d',z⟩=>nomatch z
   ·have w:∀ i a,At (slots ms (outs ms ds ρ')) (vs.map some) i a->At (slots ms ds) (vs.map some) i a:=fun i a ⟨⟨p,d0,e1⟩,e2⟩=>by
     obtain ⟨rfl,em,_⟩:=zeE ho e1
     have hi:i < ds.length:=by rw [hd];exact (List.getElem?_eq_some_iff.mp em).1
     have ed:=List.getElem?_eq_getElem hi
     exact ⟨⟨true,ds[i],by rw [zcj hd,em,ed];rfl⟩,e2⟩
    exact rel.sep i j a (w i a h1) (w j a h2)
  obtain ⟨fl,ρ'⟩:=y
  cases fr with
  | false =>
   cases fl with
   | rt dr =>
    cases hF
    exact fun v σ' H' r fz=>q v H' (fin ρ' σ' H' r).1 (fin ρ' σ' H' r).2 fz
   | nx =>
    cases hF
    exact fun σ' H' r fz=>q .non H' (fin ρ' σ' H' r).1 (fin ρ' σ' H' r).2 (by show Fz K H' .none .non;simp [Fz])
   | _=>cases hF
  | true =>
   cases fl with
   | rf dr =>
    cases hF
    exact fun a σ' H' r ha m=>q (.ref a) H' (fin ρ' σ' H' r).1 (fin ρ' σ' H' r).2 ⟨a,rfl,ha,m⟩
   | _=>cases hF
theorem zwH {x:Str} {st:Stmt} {N ps:List Str} {k:Nat} {b:SF} (ms:List Bool) (fr:Bool) (h:Has K mg x st) (S:zey N ps (zaz st)) (hps:ps.length=ms.length) (hpN:ps.length<=N.length)
  (hbi:∀ (kV doc pm:Value) (an:Option Addr) (cdv ct:Value) (us:List Value),us.length=ps.length->bindArgs (PySem.W.fnOf x x (zdy st) (zb1 st) (zaz st) .none kV doc pm an cdv ct) ⟨us,[]⟩=pure (ps.zip us))
  (hb:∀ (f:Addr) (cdv:Value) (A:Around) (outer:List Env) (s:Shared) (H:Hp) (E:XK),zc7 k (A.deeper (envOfC x (zaz st) s.heap.objs.size f cdv))->zlV K (zq7 (CXe P w) P w K mg base N x (zaz st) f cdv A outer s H E) (zb1 st) b) :
  Callee P w K mg base x (k + 1) ps (spF K ms fr (run ms fr N.length b)):=by
 obtain ⟨f,fd,hm,F⟩:=h
 exact ⟨f,fd,hm,F.kp,F.binds hbi,zqs ms fr F S hps hpN (hb f)⟩
end
end FL
namespace FL
open PySem L2 PySem.Spec
open PyProof.Rows hiding St
variable [Cs]
theorem zfj:∀ {n:Nat} {ds:List D},ds.length=n->slots (List.replicate n false) ds=ds.map Sl.val
 | 0,[],_=>rfl
 | n + 1,d :: ds,h=>by
  simp only [List.replicate_succ,slots,List.map_cons]
  rw [zfj (by simpa using h)]
  rfl
 | 0,_ :: _,h=>by simp at h
 | n + 1,[],h=>by simp at h
theorem zri {K:PySem.W.Frag} {H:Hp}:∀ {ds:List D} {vs:List V},zu3 H->zaj K H ds vs->Rel K (ds.map Sl.val) (vs.map some) H:=fun {ds vs} cst f=>by
 refine ⟨by simp [f.len],fun i x v e1 e2=>?_,fun i j a ⟨⟨p,d,e⟩,_⟩=>?_,cst⟩
 ·rw [List.getElem?_map] at e1 e2
  cases ed:ds[i]? with
  | none=>rw [ed] at e1;cases e1
  | some d =>
   obtain ⟨u,eu,fu⟩:=f.get ed
   rw [ed] at e1
   rw [eu] at e2
   cases e1;cases e2
   exact fu
 ·rw [List.getElem?_map] at e
  cases ed:ds[i]? with
  | none=>rw [ed] at e;cases e
  | some d=>rw [ed] at e;cases e
theorem zn7 {ds:List D} {σ:L2.St} {a:Addr}:¬ MA (ds.map Sl.val) σ a:=by
 rintro ⟨i,⟨p,d,e⟩,_⟩
 rw [List.getElem?_map] at e
 cases ed:ds[i]? with
 | none=>rw [ed] at e;cases e
 | some d=>rw [ed] at e;cases e
section
variable {P:Program} {w:World} {K:PySem.W.Frag} {mg:Str->Option Value} {base:Heap} {x:Str} {k:Nat} {ps:List Str}
theorem zkB.pure {f:Addr} {fd:FuncData} {n m:Nat} {fr:Bool} {b:SF} (F:zkB P w K mg base (CXe P w) k f fd ps (spF K (List.replicate n false) fr (run (List.replicate n false) fr m b))):zkB P w K mg base (CXe P w) k f fd ps (spP K n fr (zaU fr n m b)):=by
 refine F.imp fun vs H Q E=>?_
 rintro ⟨ds,hv,cst,f,d,e,q⟩
 have hd:ds.length=n:=by rw [<- f.len,hv]
 obtain ⟨y,ey,e⟩:=zas e
 cases e
 refine ⟨ds,by simpa using hv,by simpa using hd,by rw [zfj hd];exact zri cst f,y.1,y.2,by rw [ey],fun v H' r kp fin=>q v H' (fun a o e=>kp a o e (by rw [zfj hd];exact zn7)) fin⟩
theorem Callee.pure {n m:Nat} {fr:Bool} {b:SF} (c:Callee P w K mg base x k ps (spF K (List.replicate n false) fr (run (List.replicate n false) fr m b))):Callee P w K mg base x k ps (spP K n fr (zaU fr n m b)):=by
 obtain ⟨f,fd,h1,h2,h3,F⟩:=c
 exact ⟨f,fd,h1,h2,h3,zkB.pure F⟩
end
def zu4 (fa:AF) (n:Nat):Prop:=∀ ρ y,fa ρ=.ok y->y.1.length=n
theorem znK:zu4 zah 0:=fun ρ y h=>by cases h;rfl
theorem zlF {f:EF} {a:AF} {n:Nat} (h:zu4 a n):zu4 (zab f a) (n + 1):=fun ρ y e=>by
 obtain ⟨x,_,e⟩:=zas (show (f ρ).bind _=.ok y from e)
 obtain ⟨z,e2,e⟩:=zas e
 cases e
 simp [h _ _ e2]
section
variable {K:PySem.W.Frag} {X:Cx} {k j n:Nat} {ps:List Str} {E:XK} {x:Str} {p pos:Pos} {e:Expr} {es:List Expr} {G:List D->R D} {fa:AF}
theorem ztQ (c:Callee X.prog X.w X.K X.mg X.base x k ps (spP X.K n false G)) (hr:zc7 j X.A) (hg:Gl X x) (hx:Passes (CXe X.prog X.w) X E) (ha:PVA K X (e :: es) fa) (hl:zu4 fa n) (hj:k<=j:=by decide) (hdb:(x == ("__debug__":Str))=false:=by decide)
  (he:starEach (e :: es) X.env=(false,eval e X.env) :: starEach es X.env:=by rfl) (hpl:(backTo pos (starEach es X.env)).any (·.1)=false:=by rfl):PV K X (.Call (.Name x p) (e :: es) [] pos) (zae G fa):=fun hK=>by
 subst hK
 refine (zfN c hr hg hx (ha rfl) hj hdb he hpl).weak fun σ H Q=>?_
 rintro ⟨ρ,rel,q⟩
 obtain ⟨y,ey,q0⟩:=q.bnd
 have hy:=hl ρ y ey
 refine ⟨ρ,rel,?_⟩
 rw [ey]
 intro H1 rel1 st1 vs fs
 obtain ⟨d,ed,q2⟩:=(q0.step st1).zii
 rw [List.append_nil]
 exact ⟨y.1,by rw [fs.len,hy],rel1.cst,fs,d,ed,fun v H' s fin=>q2.new rel1 s v fin⟩
theorem zrr (c:Callee X.prog X.w X.K X.mg X.base x k ps (spP X.K n true G)) (hr:zc7 j X.A) (hg:Gl X x) (hx:Passes (CXe X.prog X.w) X E) (ha:PVA K X (e :: es) fa) (hl:zu4 fa n) (hj:k<=j:=by decide) (hdb:(x == ("__debug__":Str))=false:=by decide)
  (he:starEach (e :: es) X.env=(false,eval e X.env) :: starEach es X.env:=by rfl) (hpl:(backTo pos (starEach es X.env)).any (·.1)=false:=by rfl):PVN K X (.Call (.Name x p) (e :: es) [] pos) (zae G fa):=fun hK=>by
 subst hK
 refine (zfN c hr hg hx (ha rfl) hj hdb he hpl).weak fun σ H Q=>?_
 rintro ⟨ρ,rel,q⟩
 obtain ⟨y,ey,q0⟩:=q.bnd
 have hy:=hl ρ y ey
 refine ⟨ρ,rel,?_⟩
 rw [ey]
 intro H1 rel1 st1 vs fs
 obtain ⟨d,ed,q2⟩:=(q0.step st1).zii
 rw [List.append_nil]
 refine ⟨y.1,by rw [fs.len,hy],rel1.cst,fs,d,ed,fun v H' s fin=>?_⟩
 obtain ⟨a,rfl,ha,m⟩:=fin
 refine q2.new rel1 s a ?_ m
 cases e0:H a with
 | none=>rfl
 | some o =>
  by_cases mm:MA ρ σ a
  ·obtain ⟨o',e',_⟩:=rel1.zbp (st1.ma.mp mm)
   rw [ha] at e';cases e'
  ·rw [st1.kp a o e0 mm] at ha;cases ha
def zkC (K:PySem.W.Frag) (σ:L2.St) (H₀ H:Hp):List Itm->List V->Prop
 | [],vs=>vs=[]
 | .vd d :: r,vs=>∃ v t,vs=v :: t/\Fz K H d v/\zkC K σ H₀ H r t
 | .mi i :: r,vs=>∃ v t,vs=v :: t/\σ[i]?=some (some v)/\zkC K σ H₀ H r t
 | .td d :: r,vs=>∃ a t,vs=.ref a :: t/\zb3 K H a d/\H₀ a=none/\zkC K σ H₀ H r t
theorem Stp.old {ρ ρ1:En} {σ:L2.St} {H H1:Hp} (st:Stp ρ ρ1 σ H H1) (rel1:Rel K ρ1 σ H1) {a:Addr} (ha:H1 a=none):H a=none:=by
 cases e0:H a with
 | none=>rfl
 | some o =>
  by_cases mm:MA ρ σ a
  ·obtain ⟨o',e',_⟩:=rel1.zbp (st.ma.mp mm)
   rw [ha] at e';cases e'
  ·rw [st.kp a o e0 mm] at ha;cases ha
theorem zkC.back {σ:L2.St} {H H1 H2:Hp} (h:∀ a,H1 a=none->H a=none):∀ {l:List Itm} {vs:List V},zkC K σ H1 H2 l vs->zkC K σ H H2 l vs
 | [],vs,z=>z
 | .vd d :: r,vs,z=>by
  obtain ⟨v,t,e,f,z⟩:=z
  exact ⟨v,t,e,f,zkC.back h z⟩
 | .mi i :: r,vs,z=>by
  obtain ⟨v,t,e,f,z⟩:=z
  exact ⟨v,t,e,f,zkC.back h z⟩
 | .td d :: r,vs,z=>by
  obtain ⟨v,t,e,f,g,z⟩:=z
  exact ⟨v,t,e,f,h _ g,zkC.back h z⟩
def tAr (K:PySem.W.Frag) (a:List Ar):TA:=fun σ H Q=>∃ ρ,Rel K ρ σ H/\Good K ρ σ H (zkq a ρ) fun l _ H'=>∀ vs,zkC K σ H H' l vs->Q vs H'
def zqT (K:PySem.W.Frag) (X:Cx) (es:List Expr) (a:List Ar):Prop:=X.K=K->PA X es (tAr K a)
theorem zaX:zqT K X [] []:=fun _=>zgJ.weak fun σ H Q=>by
 rintro ⟨ρ,rel,q⟩
 exact q.now rel [] rfl
theorem zdh {f:EF} {a:List Ar} (he:PV K X e f) (hr:zqT K X es a) (hs:starEach (e :: es) X.env=(false,eval e X.env) :: starEach es X.env:=by rfl):zqT K X (e :: es) (.v f :: a):=fun hK=>(zcn (he hK) (hr hK) hs).weak fun σ H Q=>by
 rintro ⟨ρ,rel,q⟩
 refine goV rel q fun dx ρ1 x H1 rel1 st1 fx q1=>?_
 obtain ⟨y,ey,q2⟩:=q1.bnd
 refine ⟨ρ1,rel1,?_⟩
 rw [ey]
 exact fun H2 rel2 st2 vs it=>(q2.step st2).now rel2 _ ⟨x,vs,rfl,fx.mono (st2.fzn rel1),it.back fun a ha=>st1.old rel1 ha⟩
theorem zvB {a:List Ar} {y:Str} {py:Pos} (i:Nat) (ha:PE X (.Name y py) (zkJ i)) (hr:zqT K X es a) (hs:starEach (.Name y py :: es) X.env=(false,eval (.Name y py) X.env) :: starEach es X.env:=by rfl):zqT K X (.Name y py :: es) (.m i :: a):=fun hK=>(zcn ha (hr hK) hs).weak fun σ H Q=>by
 rintro ⟨ρ,rel,q⟩
 obtain ⟨d,ed,q1⟩:=(show Good K ρ σ H ((zaE ρ i).bind fun _=>(zkq a ρ).bind fun y=>.ok (.mi i :: y.1,y.2)) _ from q).zii
 obtain ⟨ad,at0,_⟩:=rel.zq4 ed
 obtain ⟨y,ey,q2⟩:=q1.bnd
 refine ⟨.ref ad,at0.2,ρ,rel,?_⟩
 rw [ey]
 exact fun H2 rel2 st2 vs it=>(q2.step st2).now rel2 _ ⟨.ref ad,vs,rfl,at0.2,it⟩
def arM:List Ar->List Bool
 | []=>[]
 | .v _ :: r=>false :: arM r
 | .m _ :: r=>true :: arM r
 | .t _ :: r=>true :: arM r
def arI:List Ar->List Nat
 | []=>[]
 | .v _ :: r=>arI r
 | .m i :: r=>i :: arI r
 | .t _ :: r=>arI r
def arT:List Ar->Nat
 | []=>0
 | .v _ :: r=>arT r
 | .m _ :: r=>arT r
 | .t _ :: r=>arT r + 1
def isR:Itm->Bool
 | .vd _=>false
 | _=>true
def zvh:Itm->Option Nat
 | .mi i=>some i
 | _=>none
def isT:Itm->Bool
 | .td _=>true
 | _=>false
theorem zeO:∀ {a:List Ar} {ρ:En} {y:List Itm × En},zkq a ρ=.ok y->y.1.map isR=arM a/\y.1.filterMap zvh=arI a/\y.1.countP isT=arT a
 | [],ρ,y,h=>by cases h;exact ⟨rfl,rfl,rfl⟩
 | .v f :: r,ρ,y,h=>by
  obtain ⟨x,_,h⟩:=zas (show (f ρ).bind _=.ok y from h)
  obtain ⟨z,e,h⟩:=zas h
  cases h
  obtain ⟨h1,h2,h3⟩:=zeO e
  simp only [List.map_cons,List.filterMap_cons]
  exact ⟨by rw [h1];rfl,h2,by rw [List.countP_cons_of_neg (by simp [isT])];exact h3⟩
 | .m i :: r,ρ,y,h=>by
  obtain ⟨_,_,h⟩:=zas (show (zaE ρ i).bind _=.ok y from h)
  obtain ⟨z,e,h⟩:=zas h
  cases h
  obtain ⟨h1,h2,h3⟩:=zeO e
  simp only [List.map_cons,List.filterMap_cons]
  exact ⟨by rw [h1];rfl,by rw [h2];rfl,by rw [List.countP_cons_of_neg (by simp [isT])];exact h3⟩
 | .t f :: r,ρ,y,h=>by
  obtain ⟨x,_,h⟩:=zas (show (f ρ).bind _=.ok y from h)
  obtain ⟨z,e,h⟩:=zas h
  cases h
  obtain ⟨h1,h2,h3⟩:=zeO e
  simp only [List.map_cons,List.filterMap_cons]
  exact ⟨by rw [h1];rfl,h2,by rw [List.countP_cons_of_pos (by simp [isT]),h3];rfl⟩
theorem zeN {ρ:En}:∀ {l:List Itm} {ds:List D},ziK ρ l=.ok ds->ds.length=l.length/\∀ (j:Nat) z,l[j]?=some z->∃ d,ds[j]?=some d/\(match z with | .vd d'=>d=d' | .mi i=>zaE ρ i=.ok d | .td d'=>d=d')
 | [],ds,h=>by cases h;exact ⟨rfl,fun j z e=>by simp at e⟩
 | .vd d :: r,ds,h=>by
  obtain ⟨ds',e,h⟩:=zas (show (ziK ρ r).bind _=.ok ds from h)
  cases h
  obtain ⟨h1,h2⟩:=zeN e
  refine ⟨by simp [h1],fun j z ez=>?_⟩
  cases j with
  | zero=>simp at ez;subst ez;exact ⟨d,rfl,rfl⟩
  | succ j=>obtain ⟨d',h3,h4⟩:=h2 j z (by simpa using ez);exact ⟨d',by simpa using h3,h4⟩
 | .td d :: r,ds,h=>by
  obtain ⟨ds',e,h⟩:=zas (show (ziK ρ r).bind _=.ok ds from h)
  cases h
  obtain ⟨h1,h2⟩:=zeN e
  refine ⟨by simp [h1],fun j z ez=>?_⟩
  cases j with
  | zero=>simp at ez;subst ez;exact ⟨d,rfl,rfl⟩
  | succ j=>obtain ⟨d',h3,h4⟩:=h2 j z (by simpa using ez);exact ⟨d',by simpa using h3,h4⟩
 | .mi i :: r,ds,h=>by
  obtain ⟨d,e0,h⟩:=zas (show (zaE ρ i).bind _=.ok ds from h)
  obtain ⟨ds',e,h⟩:=zas h
  cases h
  obtain ⟨h1,h2⟩:=zeN e
  refine ⟨by simp [h1],fun j z ez=>?_⟩
  cases j with
  | zero=>simp at ez;subst ez;exact ⟨d,rfl,e0⟩
  | succ j=>obtain ⟨d',h3,h4⟩:=h2 j z (by simpa using ez);exact ⟨d',by simpa using h3,h4⟩
theorem zkC.get {σ:L2.St} {H₀ H:Hp}:∀ {l:List Itm} {vs:List V},zkC K σ H₀ H l vs->vs.length=l.length/\∀ (j:Nat) z,l[j]?=some z->∃ v,vs[j]?=some v/\(match z with | .vd d=>Fz K H d v | .mi i=>σ[i]?=some (some v) | .td d=>∃ a,v=.ref a/\zb3 K H a d/\H₀ a=none)
 | [],vs,h=>by cases (show vs=[] from h);exact ⟨rfl,fun j z e=>by simp at e⟩
 | .vd d :: r,vs,h=>by
  obtain ⟨v,t,rfl,f,h⟩:=h
  obtain ⟨h1,h2⟩:=zkC.get h
  refine ⟨by simp [h1],fun j z ez=>?_⟩
  cases j with
  | zero=>simp at ez;subst ez;exact ⟨v,rfl,f⟩
  | succ j=>obtain ⟨d',h3,h4⟩:=h2 j z (by simpa using ez);exact ⟨d',by simpa using h3,h4⟩
 | .mi i :: r,vs,h=>by
  obtain ⟨v,t,rfl,f,h⟩:=h
  obtain ⟨h1,h2⟩:=zkC.get h
  refine ⟨by simp [h1],fun j z ez=>?_⟩
  cases j with
  | zero=>simp at ez;subst ez;exact ⟨v,rfl,f⟩
  | succ j=>obtain ⟨d',h3,h4⟩:=h2 j z (by simpa using ez);exact ⟨d',by simpa using h3,h4⟩
 | .td d :: r,vs,h=>by
  obtain ⟨v,t,rfl,f,g,h⟩:=h
  obtain ⟨h1,h2⟩:=zkC.get h
  refine ⟨by simp [h1],fun j z ez=>?_⟩
  cases j with
  | zero=>simp at ez;subst ez;exact ⟨_,rfl,v,rfl,f,g⟩
  | succ j=>obtain ⟨d',h3,h4⟩:=h2 j z (by simpa using ez);exact ⟨d',by simpa using h3,h4⟩
end
end FL
namespace FL
open PySem L2 PySem.Spec
open PyProof.Rows hiding St
variable [Cs]
section
variable {K:PySem.W.Frag} {ρ:En} {σ:L2.St} {H H':Hp}
theorem zv0 {m:List (Nat × Sl)} (r:Rel K ρ σ H) (hA:∀ i c,m.lookup i=some c->∀ a,At ρ σ i a->∃ q d,c=.ow q d/\zb3 K H' a d) (hB:∀ i a,At ρ σ i a->m.lookup i=none->H' a=H a) (fz:Fzn H H') :
  Rel K (bkL m 0 ρ) σ H'/\∀ (i:Nat) p,(∃ d,ρ[i]?=some (.ow p d)) ↔ ∃ d,(bkL m 0 ρ)[i]?=some (.ow p d):=by
 have gt:∀ i:Nat,(bkL m 0 ρ)[i]?=(ρ[i]?).map (bk1 m i):=fun i=>by rw [zmF,Nat.zero_add]
 have mdB:∀ (i:Nat) p,(∃ d,ρ[i]?=some (.ow p d)) ↔ ∃ d,(bkL m 0 ρ)[i]?=some (.ow p d):=fun i p=>by
  rw [gt]
  constructor
  ·rintro ⟨d,e⟩
   rw [e]
   simp only [Option.map_some,bk1]
   split
   ·rename_i p' d1 q' d2 h1 h2;cases h1;exact ⟨_,rfl⟩
   ·exact ⟨_,rfl⟩
  ·rintro ⟨d,e⟩
   cases er:ρ[i]? with
   | none=>rw [er] at e;cases e
   | some x =>
    rw [er] at e
    simp only [Option.map_some,Option.some.injEq,bk1] at e
    split at e
    ·cases e;exact ⟨_,rfl⟩
    ·subst e;exact ⟨_,rfl⟩
 have atB:∀ i a,At (bkL m 0 ρ) σ i a->At ρ σ i a:=fun i a ⟨⟨p,d,e1⟩,e2⟩=>⟨⟨p,(mdB i p).mpr ⟨d,e1⟩⟩,e2⟩
 refine ⟨⟨by rw [zmE];exact r.len,fun i x v e1 e2=>?_,fun i j a h1 h2=>r.sep i j a (atB i a h1) (atB j a h2),r.cst.mono fz⟩,mdB⟩
 rw [gt] at e1
 cases er:ρ[i]? with
 | none=>rw [er] at e1;cases e1
 | some y =>
  rw [er] at e1
  simp only [Option.map_some,Option.some.injEq] at e1
  have o:=r.ok i y v er e2
  cases y with
  | no=>simp only [bk1] at e1;subst e1;trivial
  | val d =>
   simp only [bk1] at e1
   subst e1
   exact o.mono fz fun a _ ⟨p,d',z⟩=>nomatch z
  | ow p d =>
   cases v with
   | none=>exact o.elim
   | some v =>
    cases v with
    | ref a =>
     have ai:At ρ σ i a:=⟨⟨p,d,er⟩,e2⟩
     cases el:m.lookup i with
     | none =>
      simp only [bk1,el] at e1
      subst e1
      exact o.mono fz fun b e3 _=>by cases e3;exact hB i a ai el
     | some c =>
      obtain ⟨q,d',rfl,mm⟩:=hA i c el a ai
      simp only [bk1,el] at e1
      subst e1
      exact mm
    | _=>exact o.elim
end
theorem zs3:∀ {l:List Itm} {j j' i:Nat},(l.filterMap zvh).Nodup->l[j]?=some (.mi i)->l[j']?=some (.mi i)->j=j'
 | [],j,j',i,_,h,_=>by simp at h
 | z :: r,j,j',i,nd,h1,h2=>by
  have rest:(r.filterMap zvh).Nodup:=by
   rw [List.filterMap_cons] at nd
   cases z with
   | mi k=>exact (List.nodup_cons.mp nd).2
   | _=>exact nd
  have mem:∀ {j:Nat},r[j]?=some (.mi i)->i ∈ r.filterMap zvh:=fun h=>List.mem_filterMap.mpr ⟨.mi i,List.mem_of_getElem? h,rfl⟩
  have hd:z=.mi i->∀ {j:Nat},r[j]? ≠ some (.mi i):=fun e j h=>by
   subst e
   rw [List.filterMap_cons] at nd
   exact (List.nodup_cons.mp nd).1 (mem h)
  cases j with
  | zero =>
   cases j' with
   | zero=>rfl
   | succ j'=>exact absurd (by simpa using h2) (hd (by simpa using h1) (j:=j'))
  | succ j =>
   cases j' with
   | zero=>exact absurd (by simpa using h1) (hd (by simpa using h2) (j:=j))
   | succ j' =>
    have:=zs3 (l:=r) rest (by simpa using h1) (by simpa using h2)
    rw [this]
theorem zsO:∀ {l:List Itm} {j j':Nat} {d d':D},l.countP isT<=1->l[j]?=some (.td d)->l[j']?=some (.td d')->j=j'
 | [],j,j',d,d',_,h,_=>by simp at h
 | z :: r,j,j',d,d',c,h1,h2=>by
  have rest:r.countP isT<=1:=by
   rw [List.countP_cons] at c;omega
  have none:isT z=true->∀ {j:Nat} {d:D},r[j]? ≠ some (.td d):=fun e j d h=>by
   rw [List.countP_cons,if_pos e] at c
   have:0 < r.countP isT:=List.countP_pos_iff.mpr ⟨_,List.mem_of_getElem? h,rfl⟩
   omega
  cases j with
  | zero =>
   cases j' with
   | zero=>rfl
   | succ j' =>
    have e:z=.td d:=by simpa using h1
    subst e
    exact absurd (by simpa using h2) (none rfl (j:=j'))
  | succ j =>
   cases j' with
   | zero =>
    have e:z=.td d':=by simpa using h2
    subst e
    exact absurd (by simpa using h1) (none rfl (j:=j))
   | succ j' =>
    have:=zsO (l:=r) rest (by simpa using h1) (by simpa using h2)
    rw [this]
theorem zdD:∀ {l:List Itm} {os:List D} {i:Nat} {c:Sl},(zg9 l os).lookup i=some c->∃ (j:Nat) (d:D),l[j]?=some (.mi i)/\os[j]?=some d/\c=.ow true d
 | [],os,i,c,h=>by simp [zg9] at h
 | z :: r,[],i,c,h=>by cases z <;> simp [zg9] at h
 | .vd d :: r,o :: os,i,c,h=>by
  obtain ⟨j,d',h1,h2,h3⟩:=zdD (l:=r) (os:=os) (by simpa [zg9] using h)
  exact ⟨j + 1,d',by simpa using h1,by simpa using h2,h3⟩
 | .td d :: r,o :: os,i,c,h=>by
  obtain ⟨j,d',h1,h2,h3⟩:=zdD (l:=r) (os:=os) (by simpa [zg9] using h)
  exact ⟨j + 1,d',by simpa using h1,by simpa using h2,h3⟩
 | .mi k :: r,o :: os,i,c,h=>by
  simp only [zg9] at h
  rw [List.lookup_cons] at h
  by_cases e:i=k
  ·subst e
   simp only [beq_self_eq_true] at h
   cases h
   exact ⟨0,o,rfl,rfl,rfl⟩
  ·rw [beq_false_of_ne e] at h
   obtain ⟨j,d',h1,h2,h3⟩:=zdD (l:=r) (os:=os) h
   exact ⟨j + 1,d',by simpa using h1,by simpa using h2,h3⟩
theorem zhr:∀ {l:List Itm} {os:List D} {i j:Nat} {d:D},l[j]?=some (.mi i)->os[j]?=some d->∃ c,(zg9 l os).lookup i=some c
 | [],os,i,j,d,h,_=>by simp at h
 | z :: r,[],i,j,d,_,h=>by simp at h
 | .vd _ :: r,o :: os,i,j,d,h1,h2=>by
  cases j with
  | zero=>simp at h1
  | succ j =>
   simp only [zg9]
   exact zhr (l:=r) (by simpa using h1) (by simpa using h2)
 | .td _ :: r,o :: os,i,j,d,h1,h2=>by
  cases j with
  | zero=>simp at h1
  | succ j =>
   simp only [zg9]
   exact zhr (l:=r) (by simpa using h1) (by simpa using h2)
 | .mi k :: r,o :: os,i,j,d,h1,h2=>by
  simp only [zg9]
  rw [List.lookup_cons]
  by_cases e:i=k
  ·subst e
   simp
  ·rw [beq_false_of_ne e]
   cases j with
   | zero=>simp at h1;exact absurd h1.symm e
   | succ j=>exact zhr (l:=r) (by simpa using h1) (by simpa using h2)
section
variable {K:PySem.W.Frag} {ρ0 ρ:En} {σ:L2.St} {H0 H H':Hp} {l:List Itm} {ds os:List D} {vs:List V} {ms:List Bool}
theorem zgz (rel:Rel K ρ σ H) (it:zkC K σ H0 H l vs) (hi:ziK ρ l=.ok ds) (hm:l.map isR=ms) {j:Nat} {a:Addr} (hd:ds.length=ms.length) (h:At (slots ms ds) (vs.map some) j a):(∃ i,l[j]?=some (.mi i)/\At ρ σ i a)\/∃ d,l[j]?=some (.td d)/\H0 a=none:=by
 obtain ⟨v1,v2⟩:=it.get
 obtain ⟨d1,d2⟩:=zeN hi
 obtain ⟨⟨p,d,e1⟩,e2⟩:=h
 obtain ⟨rfl,em,ed⟩:=zeE hd e1
 rw [<- hm,List.getElem?_map] at em
 cases el:l[j]? with
 | none=>rw [el] at em;cases em
 | some z =>
  rw [el] at em
  obtain ⟨v,ev,es⟩:=v2 j _ el
  obtain ⟨d',ed',em'⟩:=d2 j _ el
  rw [List.getElem?_map,ev] at e2
  cases e2
  cases z with
  | vd _=>cases em
  | mi i =>
   obtain ⟨q,eq⟩:=zhR em'
   exact .inl ⟨i,rfl,⟨q,d',eq⟩,es⟩
  | td d0 =>
   obtain ⟨b,eb,_,hb⟩:=es
   cases eb
   exact .inr ⟨d0,rfl,hb⟩
theorem zsC (r0:Rel K ρ0 σ H0) (st:Stp ρ0 ρ σ H0 H) (rel:Rel K ρ σ H) (it:zkC K σ H0 H l vs) (hi:ziK ρ l=.ok ds) (hm:l.map isR=ms) (nd:(l.filterMap zvh).Nodup) (ct:l.countP isT<=1):ds.length=ms.length/\vs.length=ms.length/\Rel K (slots ms ds) (vs.map some) H:=by
 obtain ⟨v1,v2⟩:=it.get
 obtain ⟨d1,d2⟩:=zeN hi
 have hl:ms.length=l.length:=by rw [<- hm,List.length_map]
 have hd:ds.length=ms.length:=by rw [d1,hl]
 have hv:vs.length=ms.length:=by rw [v1,hl]
 have apart:∀ {i:Nat} {a:Addr},At ρ σ i a->H0 a=none->False:=fun h1 h2=>by
  obtain ⟨o',e',_⟩:=r0.zbp (st.ma.mpr ⟨_,h1⟩)
  rw [h2] at e';cases e'
 refine ⟨hd,hv,⟨by rw [zdX hd,List.length_map,hv],fun j x v e1 e2=>?_,fun j j' a h1 h2=>?_,rel.cst⟩⟩
 ·rw [zcj hd] at e1
  cases em:ms[j]? with
  | none=>rw [em] at e1;cases e1
  | some m =>
   cases ed:ds[j]? with
   | none=>rw [em,ed] at e1;cases e1
   | some d =>
    rw [em,ed] at e1
    rw [<- hm,List.getElem?_map] at em
    cases el:l[j]? with
    | none=>rw [el] at em;cases em
    | some z =>
     rw [el] at em
     obtain ⟨u,eu,es⟩:=v2 j z el
     obtain ⟨d',ed',em'⟩:=d2 j z el
     rw [ed] at ed'
     cases ed'
     rw [List.getElem?_map,eu] at e2
     cases e2
     cases z with
     | vd dz =>
      cases em
      cases e1
      cases em'
      exact es
     | mi i =>
      cases em
      cases e1
      obtain ⟨q,eq⟩:=zhR em'
      have o:=rel.ok i _ _ eq es
      show zu1 K H (.ow true d) (some u)
      cases u with
      | ref a=>exact o
      | _=>exact o.elim
     | td dz =>
      cases em
      cases e1
      cases em'
      obtain ⟨b,rfl,mb,_⟩:=es
      exact mb
 ·rcases zgz rel it hi hm hd h1 with ⟨i,e1,a1⟩ | ⟨d,e1,a1⟩
  ·rcases zgz rel it hi hm hd h2 with ⟨i',e2,a2⟩ | ⟨d,e2,a2⟩
   ·have:=rel.sep i i' a a1 a2
    subst this
    exact zs3 nd e1 e2
   ·exact (apart a1 a2).elim
  ·rcases zgz rel it hi hm hd h2 with ⟨i',e2,a2⟩ | ⟨d,e2,a2⟩
   ·exact (apart a2 a1).elim
   ·exact zsO ct e1 e2
theorem zqP (r0:Rel K ρ0 σ H0) (st:Stp ρ0 ρ σ H0 H) (rel:Rel K ρ σ H) (it:zkC K σ H0 H l vs) (hi:ziK ρ l=.ok ds) (hm:l.map isR=ms) (hd:ds.length=ms.length) (ho:os.length=ms.length) (ra:Rel K (slots ms os) (vs.map some) H') (hC:∀ a o,H a=some o->¬ MA (slots ms ds) (vs.map some) a->H' a=some o) :
  Rel K (zgA ρ l os) σ H'/\Stp ρ0 (zgA ρ l os) σ H0 H':=by
 obtain ⟨v1,v2⟩:=it.get
 obtain ⟨d1,d2⟩:=zeN hi
 have hl:ms.length=l.length:=by rw [<- hm,List.length_map]
 have apart:∀ {i:Nat} {a:Addr},At ρ σ i a->H0 a=none->False:=fun h1 h2=>by
  obtain ⟨o',e',_⟩:=r0.zbp (st.ma.mpr ⟨_,h1⟩)
  rw [h2] at e';cases e'
 have kp0:∀ a o,H0 a=some o->¬ MA ρ0 σ a->H' a=some o:=fun a o e n=>hC a o (st.kp a o e n) fun ⟨j,h⟩=>by
  rcases zgz rel it hi hm hd h with ⟨i,_,a1⟩ | ⟨d,_,a1⟩
  ·exact n (st.ma.mpr ⟨i,a1⟩)
  ·rw [e] at a1;cases a1
 have fz:Fzn H H':=fun a o e sy=>hC a o e fun ⟨j,h⟩=>by
  obtain ⟨⟨p,d,e1⟩,e2⟩:=id h
  obtain ⟨rfl,em,ed⟩:=zeE hd e1
  rcases zgz rel it hi hm hd h with ⟨i,_,a1⟩ | ⟨d,el,a1⟩
  ·obtain ⟨o',e',ow⟩:=rel.zbp ⟨i,a1⟩
   rw [e] at e'
   cases e'
   exact ow.zdO sy
  ·obtain ⟨v,ev,b,eb,mb,_⟩:=v2 j _ el
   rw [List.getElem?_map,ev] at e2
   cases e2
   cases eb
   obtain ⟨o',e',ow⟩:=mb.own
   rw [e] at e'
   cases e'
   exact ow.zdO sy
 have key:=zv0 (H:=H) (H':=H') (m:=zg9 l os) rel (fun i c e a at0=>by
  obtain ⟨j,d,e1,e2,rfl⟩:=zdD e
  obtain ⟨v,ev,es⟩:=v2 j _ e1
  replace es:σ[i]?=some (some v):=es
  rw [at0.2] at es
  cases es
  refine ⟨true,d,rfl,?_⟩
  have em:ms[j]?=some true:=by rw [<- hm,List.getElem?_map,e1];rfl
  exact ra.ok j (.ow true d) (some (.ref a)) (by rw [zcj ho,em,e2];rfl) (by rw [List.getElem?_map,ev];rfl)) (fun i a at0 e=>by
  obtain ⟨u,hu,_⟩:=rel.zbp ⟨i,at0⟩
  rw [hu]
  refine hC a u hu fun ⟨j,h⟩=>?_
  rcases zgz rel it hi hm hd h with ⟨i',el,a1⟩ | ⟨d,_,a1⟩
  ·have:=rel.sep i i' a at0 a1
   subst this
   have hj:j < os.length:=by rw [ho,hl];exact (List.getElem?_eq_some_iff.mp el).1
   obtain ⟨c,ec⟩:=zhr el (List.getElem?_eq_getElem hj)
   rw [ec] at e
   cases e
  ·exact apart at0 a1) fz
 exact ⟨key.1,⟨fun i p=>(st.md i p).trans (key.2 i p),kp0⟩⟩
end
section
variable {K:PySem.W.Frag} {X:Cx} {k j:Nat} {ps:List Str} {E:XK} {x:Str} {p pos:Pos} {e:Expr} {es:List Expr} {F:List D->R (D × List D)} {a:List Ar}
def zvc (F:List D->R (D × List D)) (n:Nat):Prop:=∀ ds y,F ds=.ok y->y.2.length=n
theorem zm9 {ms:List Bool} {fr:Bool} {m:Nat} {b:SF}:zvc (run ms fr m b) ms.length:=fun ds y h=>by
 unfold run at h
 split at h
 ·rename_i hd
  obtain ⟨z,_,h⟩:=zas h
  obtain ⟨fl,ρ⟩:=z
  cases fr with
  | false =>
   cases fl with
   | rt d=>cases h;exact zfO hd
   | nx=>cases h;exact zfO hd
   | _=>cases h
  | true =>
   cases fl with
   | rf d=>cases h;exact zfO hd
   | _=>cases h
 ·cases h
theorem zyp {fr:Bool} (ho:zvc F (arM a).length) (nd:(arI a).Nodup) (ct:arT a<=1) (σ:L2.St) (H:Hp) (Q:VK) (ρ:En) (rel:Rel K ρ σ H)
  (q:Good K ρ σ H (zal F a ρ) fun d ρ' H'=>∀ v,(if fr=true then ∃ a,v=.ref a/\H a=none/\zb3 K H' a d else Fz K H' d v)->Q v H'):ztA (spF K (arM a) fr F) [] E (tAr K a) σ H Q:=by
 obtain ⟨y,ey,q0⟩:=q.bnd
 obtain ⟨h1,h2,h3⟩:=zeO ey
 refine ⟨ρ,rel,?_⟩
 rw [ey]
 intro H1 rel1 st1 vs it
 obtain ⟨ds,ed,q1⟩:=q0.zii
 obtain ⟨z,ez,q2⟩:=q1.zii
 obtain ⟨hd,hv,ra⟩:=zsC rel st1 rel1 it ed h1 (by rw [h2];exact nd) (by rw [h3];exact ct)
 rw [List.append_nil]
 refine ⟨ds,hv,hd,ra,z.1,z.2,ez,fun v H' rb kp fin=>?_⟩
 obtain ⟨r2,s2⟩:=zqP rel st1 rel1 it ed h1 hd (ho ds z ez) rb kp
 refine q2 H' r2 s2 v ?_
 cases fr with
 | false=>exact fin
 | true =>
  obtain ⟨ad,rfl,ha,m⟩:=fin
  exact ⟨ad,rfl,st1.old rel1 ha,m⟩
theorem zrw (c:Callee X.prog X.w X.K X.mg X.base x k ps (spF X.K (arM a) false F)) (ho:zvc F (arM a).length) (nd:(arI a).Nodup) (ct:arT a<=1) (hr:zc7 j X.A) (hg:Gl X x) (hx:Passes (CXe X.prog X.w) X E) (ha:zqT K X (e :: es) a) (hj:k<=j:=by decide) (hdb:(x == ("__debug__":Str))=false:=by decide)
  (he:starEach (e :: es) X.env=(false,eval e X.env) :: starEach es X.env:=by rfl) (hpl:(backTo pos (starEach es X.env)).any (·.1)=false:=by rfl):PV K X (.Call (.Name x p) (e :: es) [] pos) (zal F a):=fun hK=>by
 subst hK
 refine (zfN c hr hg hx (ha rfl) hj hdb he hpl).weak fun σ H Q=>?_
 rintro ⟨ρ,rel,q⟩
 exact zyp (fr:=false) ho nd ct σ H Q ρ rel q
theorem zpl (c:Callee X.prog X.w X.K X.mg X.base x k ps (spF X.K (arM a) true F)) (ho:zvc F (arM a).length) (nd:(arI a).Nodup) (ct:arT a<=1) (hr:zc7 j X.A) (hg:Gl X x) (hx:Passes (CXe X.prog X.w) X E) (ha:zqT K X (e :: es) a) (hj:k<=j:=by decide) (hdb:(x == ("__debug__":Str))=false:=by decide)
  (he:starEach (e :: es) X.env=(false,eval e X.env) :: starEach es X.env:=by rfl) (hpl:(backTo pos (starEach es X.env)).any (·.1)=false:=by rfl):PVN K X (.Call (.Name x p) (e :: es) [] pos) (zal F a):=fun hK=>by
 subst hK
 refine (zfN c hr hg hx (ha rfl) hj hdb he hpl).weak fun σ H Q=>?_
 rintro ⟨ρ,rel,q⟩
 refine zyp (fr:=true) ho nd ct σ H Q ρ rel ?_
 cases e0:zal F a ρ with
 | ok y =>
  rw [e0] at q
  exact fun H' r s v ⟨ad,hv,ha,m⟩=>by subst hv;exact q H' r s ad ha m
 | _=>rw [e0] at q;exact q.elim
end
end FL
namespace FL
open PySem L2 PySem.Spec
open PyProof.Rows hiding St
variable [Cs]
section
variable {K:PySem.W.Frag} {X:Cx} {st:Stmt} {s:SF} {e:Expr} {f h:EF} {pos:Pos}
theorem zuK {C:SC} {ρ:En} {σ:L2.St} {H:Hp} {i:Nat} {d:D} (rel:zeZ K C ρ σ H) (e:ρ[i]?=some (.ow false d)):∃ a u,H a=some u/\Own u/\∀ o,zeZ K C (ρ.set i (.val d)) σ (upd H a (.frz o u))/\Fzn H (upd H a (.frz o u)):=by
 obtain ⟨a,at0,m⟩:=rel.rel.zq4 (d:=d) (show zaE ρ i=.ok d by unfold zaE;rw [e])
 obtain ⟨u,e1,ow⟩:=m.own
 refine ⟨a,u,e1,ow,fun o=>?_⟩
 have hl:i < ρ.length:=(List.getElem?_eq_some_iff.mp e).1
 have hfr:=rel.own i a d e at0.2
 have fz:Fzn H (upd H a (.frz o u)):=fun b w e2 sy=>by
  rw [zax fun z=>by subst z;rw [e1] at e2;cases e2;exact ow.zdO sy]
  exact e2
 refine ⟨?_,fz⟩
 have fd:Fz K (upd H a (.frz o u)) d (.ref a):=by
  cases d with
  | list ds =>
   obtain ⟨vs,h1,h2⟩:=m
   rw [e1] at h1
   cases h1
   simp only [Fz]
   exact ⟨a,vs,rfl,.inl ⟨o,zan⟩,h2.mono fz⟩
  | dict kvs =>
   simp only [Fz]
   rcases m with ⟨kk,h1,h2⟩ | ⟨kk,h1,h2⟩
   ·rw [e1] at h1
    cases h1
    exact ⟨a,o,rfl,.inl ⟨kk,zan,h2.mono fz⟩⟩
   ·rw [e1] at h1
    cases h1
    exact ⟨a,o,rfl,.inr ⟨kk,zan,h2.mono fz⟩⟩
  | _=>exact m.elim
 have atw:∀ j b,At (ρ.set i (.val d)) σ j b->j ≠ i/\At ρ σ j b:=fun j b ⟨⟨q,dd,e1⟩,e2⟩=>by
  by_cases c:i=j
  ·subst c
   rw [List.getElem?_set_self hl] at e1;cases e1
  ·rw [List.getElem?_set_ne c] at e1
   exact ⟨fun z=>c z.symm,⟨q,dd,e1⟩,e2⟩
 refine ⟨⟨by rw [List.length_set];exact rel.rel.len,fun j y w e2 e3=>?_,fun j k b h1 h2=>rel.rel.sep j k b (atw j b h1).2 (atw k b h2).2,rel.rel.cst.mono fz⟩,fun b w e2 n=>?_,fun j b c e2 e3=>?_,fun j=>?_,fun j c e2=>?_,rel.prm⟩
 ·by_cases c:i=j
  ·subst c
   rw [List.getElem?_set_self hl] at e2
   cases e2
   rw [at0.2] at e3
   cases e3
   exact fd
  ·rw [List.getElem?_set_ne c] at e2
   refine (rel.rel.ok j y w e2 e3).mono fz fun b e4 ⟨p,dd,e5⟩=>?_
   subst e4;subst e5
   refine zax fun z=>?_
   subst z
   exact c (rel.rel.sep i j b at0 ⟨⟨p,dd,e2⟩,e3⟩)
 ·rw [zax fun z=>by subst z;rw [hfr] at e2;cases e2]
  exact rel.keep b w e2 n
 ·by_cases c:i=j
  ·subst c
   rw [List.getElem?_set_self hl] at e2;cases e2
  ·rw [List.getElem?_set_ne c] at e2
   exact rel.own j b _ e2 e3
 ·by_cases c:i=j
  ·subst c
   rw [List.getElem?_set_self hl,<- rel.pin i,e]
   constructor
   ·rintro ⟨_,z⟩;cases z
   ·rintro ⟨_,z⟩;cases z
  ·rw [List.getElem?_set_ne c];exact rel.pin j
 ·by_cases k:i=j
  ·subst k
   rw [List.getElem?_set_self hl] at e2;cases e2
  ·rw [List.getElem?_set_ne k] at e2
   exact rel.fix j c e2
theorem zfJ (i:Nat) (hh:PSV K X st s):PSV K X st (zcy i s):=fun hK C=>by
 have h1:PS X st (fun Dn σ H=>tS K C s { Dn with nx:=fun σ H=>∃ a u,H a=some u/\Own u/\∀ o,Dn.nx σ (upd H a (.frz o u)) } σ H):=fun pins sh σ H Dn I q=>by
  refine thn (hh hK C pins sh σ H _ I q) fun fl s1 z=>?_
  cases fl with
  | next =>
   obtain ⟨σ',H',I',a,u,e,ow,q⟩:=z
   obtain ⟨o,ho⟩:=(I'.hok a u e).some
   exact ⟨σ',_,zxU I' e ow ho,q o⟩
  | brk=>exact z
  | cont=>exact z
  | ret v=>exact z
 refine h1.weak fun Dn σ H=>?_
 rintro ⟨ρ,rel,g⟩
 refine ⟨ρ,rel,?_⟩
 obtain ⟨x,ex,g1⟩:=g.bnd
 rw [ex]
 obtain ⟨fl,ρ1⟩:=x
 cases fl with
 | nx =>
  replace g1:zcR K C H (match ρ1[i]? with | some (.ow false d)=>.ok (.nx,ρ1.set i (.val d)) | _=>.bad) Dn:=g1
  cases e:ρ1[i]? with
  | none=>rw [e] at g1;exact g1.elim
  | some y =>
   rw [e] at g1
   cases y with
   | ow p d =>
    cases p with
    | true=>exact g1.elim
    | false =>
     intro σ' H' r z
     obtain ⟨a,u,e1,ow,k⟩:=zuK r e
     exact ⟨a,u,e1,ow,fun o=>g1 σ' _ (k o).1 (z.trans (k o).2)⟩
   | _=>exact g1.elim
 | bk=>exact g1
 | ct=>exact g1
 | rt d=>exact g1
 | rf d=>exact g1
theorem ztL {i j:Nat} {x y:Str} {a b:Expr} {px py pt:Pos} {kt k2 pt2} (hc:X.calm=true) (hN:X.N.Nodup) (hi:X.N[i]?=some x) (hj:X.N[j]?=some y) (hij:i ≠ j)
  (hx:X.env.scope.names.lookup x=some .local) (hy:X.env.scope.names.lookup y=some .local) (ha:PV K X a f) (hb:PV K X b h)
  (hw:swappedStores [.Tuple [.Name x px,.Name y py] kt pt] (.Tuple [a,b] k2 pt2) X.env=pure (some [x,y]))
  (hs:swapsWithSole [.Tuple [.Name x px,.Name y py] kt pt] (.Tuple [a,b] k2 pt2) pos.line X.env=pure false:=by rfl) (hs1:starEach [a,b] X.env=(false,eval a X.env) :: starEach [b] X.env:=by rfl) (hs2:starEach [b] X.env=(false,eval b X.env) :: starEach [] X.env:=by rfl) :
  PSV K X (.Assign [.Tuple [.Name x px,.Name y py] kt pt] (.Tuple [a,b] k2 pt2) pos) (zjO i j f h):=fun hK C=>(zvJ hc hN hi hj hij hx hy (zcn (ha hK) (zcn (hb hK) zgJ hs2) hs1) hw hs).weak fun Dn σ H=>by
 rintro ⟨ρ,rel,g⟩
 refine zos rel g fun d ρ1 v H1 rel1 st1 fz g1=>zos rel1 g1 fun d2 ρ2 v2 H2 rel2 st2 fz2 g2=>?_
 obtain ⟨ρ3,e3,g3⟩:=g2.bnd
 obtain ⟨ρ4,e4,g4⟩:=g3.bnd
 obtain ⟨rfl,n1,l1⟩:=znq e3
 obtain ⟨rfl,n2,l2⟩:=znq e4
 have f1:=fz.mono (st2.fzn rel1.rel)
 have r3:=rel2.chg (rel2.rel.set (i:=i) (x:=.val d) (v:=some v) f1 fun _ _ _ z=>nomatch z) (zkk n1 l1)
 have r4:=r3.chg (r3.rel.set (i:=j) (x:=.val d2) (v:=some v2) fz2 fun _ _ _ z=>nomatch z) (zkk n2 l2)
 exact ⟨v,v2,rfl,g4 _ H2 r4 (Fzn.refl _)⟩
theorem ztP {a b:Expr} {pl:Pos} (ha:PV K X a f) (hb:PV K X b h) (hs:starEach [a] X.env=(false,eval a X.env) :: starEach [] X.env:=by rfl):PVN K X (.BinOp (.List [a] pl) .Mult b pos) (zsj f h):=fun hK=>(zt6 zv2 (zsY (zcn (ha hK) zgJ hs)) (hb hK)).weak fun σ H Q=>by
 rintro ⟨ρ,rel,q⟩
 refine goV rel q fun dx ρ1 x H1 rel1 st1 fx q1=>⟨by show 1<=sizeLine;rw [sizeLine_eq];decide,fun l hl=>?_⟩
 have s0:zbs H1 (upd H1 l (.lst [x])):=zbs.upd hl
 have nma:¬ MA ρ1 σ l:=fun z=>by
  obtain ⟨o',e',_⟩:=rel1.zbp z
  rw [hl] at e';cases e'
 refine goV (rel1.same s0) (q1.step (.of s0)) fun dy ρ2 y H2 rel2 st2 fy q2=>?_
 have hl2:H2 l=some (.lst [x]):=st2.kp l _ zan nma
 cases dy with
 | int k =>
  obtain ⟨c,q3⟩:=Good.chk (c:=decide (0<=k) && leB k.toNat 1000000) q2
  simp only [Fz] at fy
  subst fy
  simp only [Bool.and_eq_true,decide_eq_true_eq,leB_iff] at c
  have el:∀ {α:Type} (z:α) (n:Nat),(List.replicate n [z]).flatten=List.replicate n z:=fun z n=>by
   induction n with
   | zero=>rfl
   | succ n ih=>rw [List.replicate_succ,List.flatten_cons,ih];rfl
  refine ⟨l,k,[x],rfl,rfl,hl2,by omega,by omega,?_,fun p hp=>?_⟩
  ·rw [sizeLine_eq,List.length_singleton];omega
  ·rw [el]
   have s2:zbs H2 (upd H2 p (.lst (List.replicate k.toNat x))):=zbs.upd hp
   have fx2:Fz K (upd H2 p (.lst (List.replicate k.toNat x))) dx x:=((fx.mono (Fzn.of s0)).mono (st2.fzn (rel1.same s0))).mono (Fzn.of s2)
   refine q3.new rel2 s2 p ?_ ⟨_,zan,?_⟩
   ·cases e0:H p with
    | none=>rfl
    | some o =>
     by_cases mm:MA ρ σ p
     ·obtain ⟨o',e',_⟩:=rel2.zbp (st2.ma.mp (st1.ma.mp mm))
      rw [hp] at e';cases e'
     ·have e1:=s0 p o (st1.kp p o e0 mm)
      rw [st2.kp p o e1 fun z=>mm (st1.ma.mpr z)] at hp;cases hp
   ·have:∀ n:Nat,zaj K (upd H2 p (.lst (List.replicate k.toNat x))) (List.replicate n dx) (List.replicate n x):=fun n=>by
     induction n with
     | zero=>simp [zaj]
     | succ n ih=>rw [List.replicate_succ,List.replicate_succ];simp only [zaj];exact ⟨x,_,rfl,fx2,ih⟩
    exact this _
 | _=>exact q2.elim
theorem zrm {elt tg iter:Expr} {ifs:List Expr} {scope:Scope} {it:IF} {g:GF} {t:TF} {dom:List Nat} {x0:Str} {pos' spos:Pos} (i0:Nat) (L:List Str) (ix:List Nat) (M:List Str) (hN:X.N.Nodup) (hii:X.N[i0]?=some x0) (hx0:X.env.scope.names.lookup x0=some .local)
  (hsw:swapsWith (.ListComp elt [⟨tg,iter,ifs,0⟩] scope pos) (some (.Name x0 pos')) spos.line X.env=pure true) (hc:X.calm=true) (hk:scope.kind=.function)
  (hd:zct X.env.scope scope X.N ix=true) (hM:M=L ++ ix.map fun i=>X.N.getD i "") (nd:ix.Nodup) (hi:PVI K X tg iter it)
  (hg:∀ C s₃ H₃ fp,PVG K (zap X M scope C s₃ H₃ fp) dom tg g) (hgo:dom.all (fun i=>decide (i < L.length))=true)
  (ht:∀ C s₃ H₃ fp,ztu K (zap X M scope C s₃ H₃ fp) ifs t) (he:∀ C s₃ H₃ fp,PV K (zap X M scope C s₃ H₃ fp) elt f)
  (hs:∀ x,foldedSetIterable iter X.env x=pure x:=by intro _;rfl) :
  PSV K X (.Assign [.Name x0 pos'] (.ListComp elt [⟨tg,iter,ifs,0⟩] scope pos) spos) (zdd i0 (zaW L.length ix it g t f)):=fun hK C =>
 (ztW i0 L ix M hN hii hx0 hsw hc hk hd hM (hi hK) (fun C s₃ H₃ fp=>hg C s₃ H₃ fp hK) (zkf hgo) (fun C s₃ H₃ fp=>ht C s₃ H₃ fp hK) (fun C s₃ H₃ fp=>he C s₃ H₃ fp hK) hs).weak fun Dn σ H q=>zth nd hgo σ H _ (zwB Dn σ H q)
end
end FL
namespace FL
open PySem L2 PySem.Spec
open PyProof.Rows hiding St
variable [Cs]
structure Blt (mg:Str->Option Value):Prop where
 zn9:mg "abs"=none
 zaD:mg "isinstance"=none
 zpF:mg "int"=none
 zk2:mg "bool"=none
 zhQ:mg "tuple"=none
 ze8:mg "list"=none
 zwg:mg "str"=none
 zdq:mg "len"=none
 zrS:mg "all"=none
 zd6:mg "range"=none
 zn8:mg "zip"=none
 zbC:mg "enumerate"=none
 zwi:mg "max"=none
 zwh:mg "min"=none
 zwf:mg "sum"=none
 zj0:mg "sorted"=none
 zs1:mg "dict"=none
 zwj:mg "any"=none
namespace Bt
theorem abs:bootBuiltins "abs"=some (.builtin "abs"):=by decide +kernel
theorem len:bootBuiltins "len"=some (.builtin "len"):=by decide +kernel
theorem all:bootBuiltins "all"=some (.builtin "all"):=by decide +kernel
theorem sorted:bootBuiltins "sorted"=some (.builtin "sorted"):=by decide +kernel
theorem int:bootBuiltins "int"=some (.type "int"):=by decide +kernel
theorem bool:bootBuiltins "bool"=some (.type "bool"):=by decide +kernel
theorem tuple:bootBuiltins "tuple"=some (.type "tuple"):=by decide +kernel
theorem list:bootBuiltins "list"=some (.type "list"):=by decide +kernel
end Bt
theorem zpg {K:PySem.W.Frag} {X:Cx} {st:List Stmt} {f:SF} (h:zlV K X.nox st f):zlV K X st f:=fun hK C=>PSs.nox (h hK C)
theorem zwn {K:PySem.W.Frag} {G:List D->R D} {H:Hp} {a:Addr} {ns:List Int} (h:G [.list (ns.map PyData.int)]=.ok (.bool true)) (hO:∀ b xs,H b ≠ some (.lst xs)) (hC:zu3 H) (hS:SqL K H a (ns.map V.int)):spP K 1 false G [.ref a] H (fun v _=>v=.bl true) fun _ _ _=>False:=by
 refine ⟨[.list (ns.map PyData.int)],rfl,hC,?_,.bool true,h,fun v H' _ fz=>by simpa [Fz] using fz⟩
 simp only [zaj,Fz]
 refine ⟨.ref a,[],rfl,⟨a,ns.map V.int,rfl,?_,zaj.ofInts ns⟩,rfl⟩
 rcases hS with (hS | ⟨o,hS⟩) | hS
 ·exact absurd hS (hO a _)
 ·exact .inl ⟨o,hS⟩
 ·exact .inr hS
end FL
namespace FL
open PySem L2 PySem.Spec
open PyProof.Rows hiding St
variable [Cs]
end FL
namespace FL
open PySem L2 PySem.Spec
open PyProof.Rows hiding St
variable [Cs]
theorem zpy {α:Type} {o:Option α} {a:α} (h:R.of o=.ok a):o=some a:=by
 cases o with
 | none=>cases h
 | some b=>cases h;rfl
theorem zww (k:Key):kOf (kD k)=some k:=by cases k <;> rfl
theorem zpP:∀ ks:List Key,zus (ks.map kD)=some ks
 | []=>rfl
 | k :: r=>by simp only [List.map_cons,zus,zww,Option.bind_some,zpP r,Option.map_some]
theorem zgl (q:List Key):keyOf (zq5 q)=some (.inl q):=by simp only [zq5,keyOf,zpP,Option.map_some]
theorem zgm (q:Key):keyOf (kD q)=some (.inr q):=by cases q <;> rfl
theorem zuu {d:D} {k:Key} (h:kOf d=some k):d=kD k:=by
 cases d with
 | int i=>cases h;rfl
 | str i=>cases h;rfl
 | _=>cases h
theorem znk:∀ {ds:List D} {ks:List Key},zus ds=some ks->ds=ks.map kD
 | [],ks,h=>by simp only [zus,Option.some.injEq] at h;subst h;rfl
 | d :: r,ks,h=>by
  simp only [zus,Option.bind_eq_some_iff,Option.map_eq_some_iff] at h
  obtain ⟨k,e,ks',e',rfl⟩:=h
  rw [zuu e,znk e'];rfl
section
variable {K:PySem.W.Frag} {H H':Hp}
theorem zuJ {k:Key}:Fz K H (kD k) (kV k):=by cases k <;> simp [kD,kV,Fz]
theorem zxO {k:Key} {v:V} (h:Fz K H (kD k) v):v=kV k:=by cases k <;> simpa [kD,kV,Fz] using h
theorem zns:∀ ks:List Key,zaj K H (ks.map kD) (ks.map kV)
 | []=>by simp [zaj]
 | k :: r=>by simp only [List.map_cons,zaj];exact ⟨_,_,rfl,zuJ,zns r⟩
theorem ztd:∀ {ks:List Key} {vs:List V},zaj K H (ks.map kD) vs->vs=ks.map kV
 | [],vs,h=>by simpa [zaj] using h
 | k :: r,vs,h=>by
  simp only [List.map_cons,zaj] at h
  obtain ⟨v,t,rfl,h1,h2⟩:=h
  rw [zxO h1,ztd h2];rfl
theorem zqj {ks:List Key} {b:Addr} (h:TAt H b (ks.map kV)):Fz K H (zq5 ks) (.ref b):=by
 simp only [zq5,Fz]
 exact ⟨b,_,rfl,h,zns ks⟩
theorem zmW {k:D} {v:V} {q:KQ} (f:Tp K H k v) (e:keyOf k=some q):(∃ ks b,q=.inl ks/\k=zq5 ks/\v=.ref b/\TAt H b (ks.map kV))\/∃ k1,q=.inr k1/\k=kD k1/\v=kV k1:=by
 cases k with
 | tuple xs =>
  simp only [keyOf,Option.map_eq_some_iff] at e
  obtain ⟨ks,e1,rfl⟩:=e
  have:=znk e1
  subst this
  obtain ⟨b,vs,rfl,tb,fa⟩:=(show ∃ a vs,v=.ref a/\TAt H a vs/\zaj K H (ks.map kD) vs by simpa [Tp,Fz] using f)
  rw [ztd fa] at tb
  exact .inl ⟨ks,b,rfl,rfl,rfl,tb⟩
 | int i=>cases e;exact .inr ⟨.inl i,rfl,rfl,by simpa [Tp,Fz,kV] using f⟩
 | str i=>cases e;exact .inr ⟨.inr i,rfl,rfl,by simpa [Tp,Fz,kV] using f⟩
 | _=>cases e
theorem zs5:∀ {kvs:List (D × D)} {kk:List (List Key × V)},zcu K H kvs kk->∀ q:List Key,(look kvs (.inl q)=none/\zlS kk q=none)\/∃ d v,look kvs (.inl q)=some d/\zlS kk q=some v/\Fz K H d v
 | [],kk,h,q=>by simp only [zcu] at h;subst h;exact .inl ⟨rfl,rfl⟩
 | (k,d) :: r,kk,h,q=>by
  simp only [zcu] at h
  obtain ⟨q',v,t,rfl,rfl,f,h2⟩:=h
  by_cases c:q'=q
  ·subst c
   exact .inr ⟨d,v,by simp [look,List.find?_cons,zgl],zfz rfl,f⟩
  ·have e1:look ((zq5 q',d) :: r) (.inl q)=look r (.inl q):=by simp [look,List.find?_cons,zgl,c]
   rw [e1,zfA (p:=(q',v)) c]
   exact zs5 h2 q
theorem zs6:∀ {kvs:List (D × D)} {kk:List (Key × V)},zcv K H kvs kk->∀ q:Key,(look kvs (.inr q)=none/\zlS kk q=none)\/∃ d v,look kvs (.inr q)=some d/\zlS kk q=some v/\Fz K H d v
 | [],kk,h,q=>by simp only [zcv] at h;subst h;exact .inl ⟨rfl,rfl⟩
 | (k,d) :: r,kk,h,q=>by
  simp only [zcv] at h
  obtain ⟨q',v,t,rfl,rfl,f,h2⟩:=h
  by_cases c:q'=q
  ·subst c
   exact .inr ⟨d,v,by simp [look,List.find?_cons,zgm],zfz rfl,f⟩
  ·have e1:look ((kD q',d) :: r) (.inr q)=look r (.inr q):=by simp [look,List.find?_cons,zgm,c]
   rw [e1,zfA (p:=(q',v)) c]
   exact zs6 h2 q
theorem ztb {kvs:List (D × D)} {kk:List (List Key × V)} (h:zcu K H kvs kk) (c:keysOk false kvs=true):kvs=[]/\kk=[]:=by
 cases kvs with
 | nil=>simp only [zcu] at h;exact ⟨rfl,h⟩
 | cons p r =>
  obtain ⟨k,d⟩:=p
  simp only [zcu] at h
  obtain ⟨q',v,t,rfl,rfl,f,h2⟩:=h
  simp [keysOk,zgl,form] at c
theorem ztc {kvs:List (D × D)} {kk:List (Key × V)} (h:zcv K H kvs kk) (c:keysOk true kvs=true):kvs=[]/\kk=[]:=by
 cases kvs with
 | nil=>simp only [zcv] at h;exact ⟨rfl,h⟩
 | cons p r =>
  obtain ⟨k,d⟩:=p
  simp only [zcv] at h
  obtain ⟨q',v,t,rfl,rfl,f,h2⟩:=h
  simp [keysOk,zgm,form] at c
theorem zjr {d k:D} {x:List (D × D) × KQ} (h:dictAt d k=.ok x):d=.dict x.1/\keyOf k=some x.2/\keysOk (form x.2) x.1=true:=by
 cases d with
 | dict kvs =>
  obtain ⟨q,e1,h⟩:=zas (show (R.of (keyOf k)).bind _=.ok x from h)
  obtain ⟨c,h⟩:=zbG h
  cases h
  exact ⟨rfl,zpy e1,c⟩
 | _=>cases h
theorem zwS {d k:D} {x y:V} {o:Option D} (t:Tp K H d x) (f:Tp K H k y) (e:zgO d k=.ok o) :
  ∃ a r,x=.ref a/\IsD H a/\DG H a y r/\((o=none/\r=none)\/∃ d v,o=some d/\r=some v/\Fz K H d v):=by
 obtain ⟨⟨kvs,q⟩,e1,e⟩:=zas (show (dictAt d k).bind _=.ok o from e)
 cases e
 obtain ⟨rfl,ek,c⟩:=zjr e1
 obtain ⟨a,ea,tt⟩:=(show ∃ a,x=.ref a/\((∃ kk,Rd H a (.dT kk)/\zcu K H kvs kk)\/∃ kk,Rd H a (.dK kk)/\zcv K H kvs kk) from t)
 subst ea
 rcases tt with ⟨kk,rd,h⟩ | ⟨kk,rd,h⟩
 ·refine ⟨a,?_⟩
  rcases zmW f ek with ⟨ks,b,rfl,rfl,rfl,tb⟩ | ⟨k1,rfl,rfl,rfl⟩
  ·refine ⟨zlS kk ks,rfl,.inr ⟨kk,rd⟩,.inl (.inr ⟨kk,ks,b,rd,rfl,tb,rfl⟩),?_⟩
   rcases zs5 h ks with ⟨z1,z2⟩ | ⟨d,v,z1,z2,z3⟩
   ·exact .inl ⟨z1,z2⟩
   ·exact .inr ⟨d,v,z1,z2,z3⟩
  ·obtain ⟨rfl,rfl⟩:=ztb h c
   exact ⟨none,rfl,.inr ⟨[],rd⟩,.inr (.inr ⟨rfl,rd,k1,rfl⟩),.inl ⟨rfl,rfl⟩⟩
 ·refine ⟨a,?_⟩
  rcases zmW f ek with ⟨ks,b,rfl,rfl,rfl,tb⟩ | ⟨k1,rfl,rfl,rfl⟩
  ·obtain ⟨rfl,rfl⟩:=ztc h c
   exact ⟨none,rfl,.inl ⟨[],rd⟩,.inr (.inl ⟨rfl,rd,b,ks,rfl,tb⟩),.inl ⟨rfl,rfl⟩⟩
  ·refine ⟨zlS kk k1,rfl,.inl ⟨kk,rd⟩,.inl (.inl ⟨kk,k1,rd,rfl,rfl⟩),?_⟩
   rcases zs6 h k1 with ⟨z1,z2⟩ | ⟨d,v,z1,z2,z3⟩
   ·exact .inl ⟨z1,z2⟩
   ·exact .inr ⟨d,v,z1,z2,z3⟩
theorem zwX:∀ {kvs:List (D × D)} {kk:List (List Key × V)},zcu K H kvs kk->∀ q:List Key,(kvs.any fun kv=>decide (keyOf kv.1=some (.inl q)))=kk.any fun kv=>decide (kv.1=q)
 | [],kk,h,q=>by simp only [zcu] at h;subst h;rfl
 | (k,d) :: r,kk,h,q=>by
  simp only [zcu] at h
  obtain ⟨q',v,t,rfl,rfl,f,h2⟩:=h
  simp only [List.any_cons,zwX h2 q,zgl,Option.some.injEq,Sum.inl.injEq]
theorem zwY:∀ {kvs:List (D × D)} {kk:List (Key × V)},zcv K H kvs kk->∀ q:Key,(kvs.any fun kv=>decide (keyOf kv.1=some (.inr q)))=kk.any fun kv=>decide (kv.1=q)
 | [],kk,h,q=>by simp only [zcv] at h;subst h;rfl
 | (k,d) :: r,kk,h,q=>by
  simp only [zcv] at h
  obtain ⟨q',v,t,rfl,rfl,f,h2⟩:=h
  simp only [List.any_cons,zwY h2 q,zgm,Option.some.injEq,Sum.inr.injEq]
theorem zvv {d:D} {v:V} (f:Fz K H d v):∀ {kvs:List (D × D)} {kk:List (List Key × V)},zcu K H kvs kk->∀ q:List Key,zcu K H (kvs.map fun kv=>if keyOf kv.1=some (.inl q) then (kv.1,d) else kv) (kk.map fun kv=>if kv.1=q then (kv.1,v) else kv)
 | [],kk,h,q=>by simp only [zcu] at h;subst h;simp [zcu]
 | (k,d0) :: r,kk,h,q=>by
  simp only [zcu] at h
  obtain ⟨q',v0,t,rfl,rfl,f0,h2⟩:=h
  have ih:=zvv f h2 q
  by_cases c:q'=q
  ·subst c
   simp only [List.map_cons,zgl,if_true,zcu]
   exact ⟨q',v,_,rfl,rfl,f,ih⟩
  ·simp only [List.map_cons,zgl,Option.some.injEq,Sum.inl.injEq,if_neg c,zcu]
   exact ⟨q',v0,_,rfl,rfl,f0,ih⟩
theorem zvw {d:D} {v:V} (f:Fz K H d v):∀ {kvs:List (D × D)} {kk:List (Key × V)},zcv K H kvs kk->∀ q:Key,zcv K H (kvs.map fun kv=>if keyOf kv.1=some (.inr q) then (kv.1,d) else kv) (kk.map fun kv=>if kv.1=q then (kv.1,v) else kv)
 | [],kk,h,q=>by simp only [zcv] at h;subst h;simp [zcv]
 | (k,d0) :: r,kk,h,q=>by
  simp only [zcv] at h
  obtain ⟨q',v0,t,rfl,rfl,f0,h2⟩:=h
  have ih:=zvw f h2 q
  by_cases c:q'=q
  ·subst c
   simp only [List.map_cons,zgm,if_true,zcv]
   exact ⟨q',v,_,rfl,rfl,f,ih⟩
  ·simp only [List.map_cons,zgm,Option.some.injEq,Sum.inr.injEq,if_neg c,zcv]
   exact ⟨q',v0,_,rfl,rfl,f0,ih⟩
theorem zwV {d:D} {v:V} (f:Fz K H d v) (q:List Key):∀ {kvs:List (D × D)} {kk:List (List Key × V)},zcu K H kvs kk->zcu K H (kvs ++ [(zq5 q,d)]) (kk ++ [(q,v)])
 | [],kk,h=>by simp only [zcu] at h;subst h;simp only [List.nil_append,zcu];exact ⟨q,v,[],rfl,rfl,f,rfl⟩
 | (k,d0) :: r,kk,h=>by
  simp only [zcu] at h
  obtain ⟨q',v0,t,rfl,rfl,f0,h2⟩:=h
  simp only [List.cons_append,zcu]
  exact ⟨q',v0,_,rfl,rfl,f0,zwV f q h2⟩
theorem zwW {d:D} {v:V} (f:Fz K H d v) (q:Key):∀ {kvs:List (D × D)} {kk:List (Key × V)},zcv K H kvs kk->zcv K H (kvs ++ [(kD q,d)]) (kk ++ [(q,v)])
 | [],kk,h=>by simp only [zcv] at h;subst h;simp only [List.nil_append,zcv];exact ⟨q,v,[],rfl,rfl,f,rfl⟩
 | (k,d0) :: r,kk,h=>by
  simp only [zcv] at h
  obtain ⟨q',v0,t,rfl,rfl,f0,h2⟩:=h
  simp only [List.cons_append,zcv]
  exact ⟨q',v0,_,rfl,rfl,f0,zwW f q h2⟩
theorem zxv {d:D} {v:V} {kvs:List (D × D)} {kk:List (List Key × V)} (h:zcu K H kvs kk) (f:Fz K H d v) (q:List Key):zcu K H (zsU kvs (zq5 q) (.inl q) d) (putK kk q v):=by
 unfold zsU putK
 rw [zwX h q]
 split
 ·exact zvv f h q
 ·exact zwV f q h
theorem zxw {d:D} {v:V} {kvs:List (D × D)} {kk:List (Key × V)} (h:zcv K H kvs kk) (f:Fz K H d v) (q:Key):zcv K H (zsU kvs (kD q) (.inr q) d) (putK kk q v):=by
 unfold zsU putK
 rw [zwY h q]
 split
 ·exact zvw f h q
 ·exact zwW f q h
theorem zcu.len:∀ {kvs:List (D × D)} {kk:List (List Key × V)},zcu K H kvs kk->kk.length=kvs.length
 | [],kk,h=>by simp only [zcu] at h;subst h;rfl
 | (k,d0) :: r,kk,h=>by
  simp only [zcu] at h
  obtain ⟨q',v0,t,rfl,rfl,f0,h2⟩:=h
  simp [h2.len]
theorem zcv.len:∀ {kvs:List (D × D)} {kk:List (Key × V)},zcv K H kvs kk->kk.length=kvs.length
 | [],kk,h=>by simp only [zcv] at h;subst h;rfl
 | (k,d0) :: r,kk,h=>by
  simp only [zcv] at h
  obtain ⟨q',v0,t,rfl,rfl,f0,h2⟩:=h
  simp [h2.len]
theorem zqf {a:Addr} {u o:HO} (e:H a=some u) (ow:Own u):Fzn H (upd H a o):=fun b w eb st=>by
 rw [zax fun z=>by subst z;rw [e] at eb;cases eb;exact ow.zdO st]
 exact eb
theorem zwQ {c k dv d':D} {a:Addr} {y v:V} (m:zb3 K H a c) (f:Fz K H k y) (g:Fz K H dv v) (e:zow c k dv=.ok d'):∃ o,DP H a y v (upd H a o)/\zb3 K (upd H a o) a d':=by
 obtain ⟨⟨kvs,q⟩,e1,e⟩:=zas (show (dictAt c k).bind _=.ok d' from e)
 obtain ⟨l,e⟩:=zbG e
 cases e
 obtain ⟨rfl,ek,c⟩:=zjr e1
 have hl:kvs.length + 1<=sizeLine:=Nat.le_trans (zhV l) zcz
 rcases (show (∃ kk,H a=some (.dT kk)/\zcu K H kvs kk)\/∃ kk,H a=some (.dK kk)/\zcv K H kvs kk from m) with ⟨kk,rd,h⟩ | ⟨kk,rd,h⟩
 ·have fz:∀ o,Fzn H (upd H a o):=fun o=>zqf rd trivial
  rcases zmW f.tp ek with ⟨ks,b,rfl,rfl,rfl,tb⟩ | ⟨k1,rfl,rfl,rfl⟩
  ·exact ⟨.dT (putK kk ks v),.inl (.inr ⟨kk,ks,b,rd,rfl,tb,by rw [h.len];omega,rfl⟩),.inl ⟨_,zan,(zxv h g ks).mono (fz _)⟩⟩
  ·obtain ⟨rfl,rfl⟩:=ztb h c
   exact ⟨.dK [(k1,v)],.inr (.inr ⟨k1,rd,rfl,rfl⟩),.inr ⟨_,zan,by
    simp only [zsU,List.any_nil,Bool.false_eq_true,if_false,List.nil_append,zcv]
    exact ⟨k1,v,[],rfl,rfl,g.mono (fz _),rfl⟩⟩⟩
 ·have fz:∀ o,Fzn H (upd H a o):=fun o=>zqf rd trivial
  rcases zmW f.tp ek with ⟨ks,b,rfl,rfl,rfl,tb⟩ | ⟨k1,rfl,rfl,rfl⟩
  ·obtain ⟨rfl,rfl⟩:=ztc h c
   exact ⟨.dT [(ks,v)],.inr (.inl ⟨ks,b,rd,rfl,tb,rfl⟩),.inl ⟨_,zan,by
    simp only [zsU,List.any_nil,Bool.false_eq_true,if_false,List.nil_append,zcu]
    exact ⟨ks,v,[],rfl,rfl,g.mono (fz _),rfl⟩⟩⟩
  ·exact ⟨.dK (putK kk k1 v),.inl (.inl ⟨kk,k1,rd,rfl,by rw [h.len];omega,rfl⟩),.inr ⟨_,zan,(zxw h g k1).mono (fz _)⟩⟩
end
end FL
namespace FL
open PySem L2 PySem.Spec
open PyProof.Rows hiding St
variable [Cs]
section
variable {X:Cx}
theorem zue (hu:X.A.units + 1 < cLine):OpR X (compareOp .NotIn) (rD X.K zu7):=by
 intro pins s σ H x y v u Q I rx ry h
 obtain ⟨dx,dy,d,tx,ty,e,q⟩:=h
 obtain ⟨o,e1,e⟩:=zas (show (zgO dy dx).bind _=.ok d from e)
 cases e
 obtain ⟨a,r,rfl,_,g,rel⟩:=zwS ty tx e1
 cases ry
 have hb:o.isSome=r.isSome:=by
  rcases rel with ⟨rfl,rfl⟩ | ⟨_,_,rfl,rfl,_⟩ <;> rfl
 exact zsp hu I g rx fun s3 I3=>⟨.bl (!r.isSome),H,I3,rfl,q _ H (zbs.refl _) (by rw [hb];simp [Fz])⟩
theorem zuv (hu:X.A.units + 1 < cLine):IxR X (rD X.K zjq):=by
 intro value slice pins s σ H x y v u Q I rx ry h hs
 obtain ⟨dx,dy,d,tx,ty,e,q⟩:=h
 obtain ⟨o,e1,e⟩:=zas (show (zgO dx dy).bind _=.ok d from e)
 have eo:=zpy e
 subst eo
 obtain ⟨a,r,rfl,_,g,rel⟩:=zwS tx ty e1
 cases rx
 rcases rel with ⟨z,_⟩ | ⟨d',w,z,rfl,fz⟩
 ·cases z
 cases z
 rcases g with g | ⟨z,_⟩ | ⟨z,_⟩
 ·have hT:=zmA I g
  have h2:wpAny (model X.prog X.w) X.A (getItem (.ref a) u) (EP X pins σ Q) X.xe s:=zqA hu I g ry fun w' s3 I3 rw'=>⟨w,H,I3,rw',q w H (zbs.refl _) fz⟩
  unfold subscriptTail
  refine wpAny_bind ?_
  rw [getitemInPython_of_ne hT.not_modules]
  refine wpAny_bind (wpAny_specialOf hT PySem.F.slot_dict_getitem.lookup ?_)
  have fin:wpAny (model X.prog X.w) X.A (subscripted slice false (.ref a) u) (fun r s₃=>wpAny (model X.prog X.w) X.A (letTemporaryGo value (.ref a) r >>= fun _=>pure r) (EP X pins σ Q) X.xe s₃) X.xe s:=by
   rw [hs]
   exact wpAny_operating (wpAny_mono h2 (fun r s₃ h₃=>wpAny_bind (wpAny_letTemporaryGo (wpAny_pure h₃))) fun _ _ x=>x)
  first
   | exact wpAny_pure (wpAny_bind fin)
   | exact wpAny_bind (wpAny_pure (wpAny_bind fin))
   | exact wpAny_bind fin
 ·cases z
 ·cases z
end
section
variable {K:PySem.W.Frag} {X:Cx} {o e e':Expr} {fd fk fx f:EF} {apos cpos pos:Pos}
theorem zrn {y:Str} {py ps':Pos} {ke:Expr} {k:EF} (i:Nat) (hu:X.A.units + 1 < cLine) (ha:PE X (.Name y py) (zkJ i)) (he:PV K X e f) (hk:PV K X ke k)
  (hs:swapsWith e (some (.Subscript (.Name y py) ke ps')) pos.line X.env=pure false:=by rfl):PSV K X (.Assign [.Subscript (.Name y py) ke ps'] e pos) (zlo i k f):=fun hK C=>by
 subst hK
 refine (ztY hu ha (hk rfl) (he rfl) hs).weak fun Dn σ H=>?_
 rintro ⟨ρ,rel,g⟩
 refine zos rel g fun dv ρ1 v H1 rel1 st1 fv g1=>?_
 obtain ⟨d,ed,g2⟩:=g1.bnd
 obtain ⟨a,at0,m0⟩:=rel1.rel.zq4 ed
 refine ⟨.ref a,at0.2,zos rel1 g2 fun dk ρ2 kv H2 rel2 st2 fk g3=>?_⟩
 obtain ⟨c,ec,g4⟩:=g3.bnd
 obtain ⟨d',ed',g5⟩:=g4.bnd
 obtain ⟨o,dp,mm⟩:=zwQ (rel2.rel.again ec at0) fk (fv.mono (st2.fzn rel1.rel)) ed'
 obtain ⟨a2,at2,_⟩:=rel2.rel.zq4 ec
 have:=at0.2.symm.trans at2.2
 cases this
 exact ⟨a,_,rfl,dp,zsb rel2 at2 mm g5⟩
theorem zpj:PVN K X (.Dict [] [] pos) zfX:=fun hK=>zrG.weak fun σ H Q=>by
 rintro ⟨ρ,rel,q⟩ p hp
 exact q.new rel (zbs.upd hp) p hp (.inl ⟨[],zan,by simp [zcu]⟩)
theorem zvP {tg l:Expr} {tl:TE} (hl:PE X l tl):PI X tg l (fun σ H R=>tl σ H fun x H1=>∃ d o,x=.ref d/\((∃ kvs,H1 d=some (.frz o (.dT kvs))/\R (zx9 d o kvs) H1)\/∃ kvs,H1 d=some (.frz o (.dK kvs))/\R (Itd d o kvs) H1)):=by
 intro pins s σ H R I h
 refine thn (hl pins s σ H _ I h) fun v s1 ⟨x,H1,I1,r1,q1⟩=>?_
 obtain ⟨d,o,e,q1⟩:=q1
 subst e
 cases r1
 rcases q1 with ⟨kvs,e,q⟩ | ⟨kvs,e,q⟩
 ·obtain ⟨e0,_,_,_,_,o',es,ep,e',_,dd,_⟩:=id (show zbN X.prog X.w H1 s1.heap d (.frz o (.dT kvs)) from I1.hok d _ e)
  rw [e0] at e'
  cases e'
  obtain ⟨xs,kt,da,he,sy⟩:=zmx (I1.hok d _ e) dd
  refine zwy sy da ?_
  refine ⟨s1.heap.objs.size,[s1.heap.objs.size],_,_,H1,rfl,I1.kept (t':=s1.toks) fun b o e=>Heap.get?_push_of_some _ e,znU d _ dd,⟨_,Heap.get?_push_size _ rfl,rfl,rfl⟩,fun b hb=>?_,q⟩
  have e:b=s1.heap.objs.size:=by simpa using hb
  subst e
  exact I1.zse (Nat.le_refl _) (I1.hok.fresh (Nat.le_refl _))
 ·obtain ⟨e0,_,_,vs0,_,o',es,ep,e',_,dd,_⟩:=id (show zbN X.prog X.w H1 s1.heap d (.frz o (.dK kvs)) from I1.hok d _ e)
  rw [e0] at e'
  cases e'
  obtain ⟨vs,kv,da,sy⟩:=zql (I1.hok d _ e) dd
  refine wpAny_pyIter_dict sy da ?_
  refine ⟨s1.heap.objs.size,[s1.heap.objs.size],_,_,H1,rfl,I1.kept (t':=s1.toks) fun b o e=>Heap.get?_push_of_some _ e,zoU d _ dd,⟨_,Heap.get?_push_size _ rfl,rfl,by rw [kv.len];rfl⟩,fun b hb=>?_,q⟩
  have e:b=s1.heap.objs.size:=by simpa using hb
  subst e
  exact I1.zse (Nat.le_refl _) (I1.hok.fresh (Nat.le_refl _))
theorem zcu.at {H:Hp}:∀ {kvs:List (D × D)} {kk:List (List Key × V)} {i:Nat} {d:D},zcu K H kvs kk->(kvs.map (·.1))[i]?=some d->∃ q v,kk[i]?=some (q,v)/\d=zq5 q
 | [],kk,i,d,h,e=>by simp at e
 | (k,d0) :: r,kk,i,d,h,e=>by
  simp only [zcu] at h
  obtain ⟨q',v0,t,rfl,rfl,f0,h2⟩:=h
  cases i with
  | zero=>simp at e;exact ⟨q',v0,rfl,e.symm⟩
  | succ i =>
   obtain ⟨q,v,z1,z2⟩:=zcu.at h2 (i:=i) (by simpa using e)
   exact ⟨q,v,by simpa using z1,z2⟩
theorem zcv.at {H:Hp}:∀ {kvs:List (D × D)} {kk:List (Key × V)} {i:Nat} {d:D},zcv K H kvs kk->(kvs.map (·.1))[i]?=some d->∃ q v,kk[i]?=some (q,v)/\d=kD q
 | [],kk,i,d,h,e=>by simp at e
 | (k,d0) :: r,kk,i,d,h,e=>by
  simp only [zcv] at h
  obtain ⟨q',v0,t,rfl,rfl,f0,h2⟩:=h
  cases i with
  | zero=>simp at e;exact ⟨q',v0,rfl,e.symm⟩
  | succ i =>
   obtain ⟨q,v,z1,z2⟩:=zcv.at h2 (i:=i) (by simpa using e)
   exact ⟨q,v,by simpa using z1,z2⟩
theorem ztv {H:Hp} {a:Addr} {o:Obj} {kvs:List (D × D)} {kk:List (List Key × V)} (h:H a=some (.frz o (.dT kk))) (f:zcu K H kvs kk):Walk K (zx9 a o kk) (kvs.map (·.1)) H:=by
 refine ⟨fun i d H' fz e=>?_,fun i H' fz e=>⟨fz _ _ h trivial,by rw [f.len];simpa using e⟩⟩
 obtain ⟨q,v,e1,rfl⟩:=f.at e
 refine ⟨⟨fz _ _ h trivial,(List.getElem?_eq_some_iff.mp e1).1⟩,fun x H'' y=>?_⟩
 obtain ⟨rfl,k,v',b,e2,rfl,tb⟩:=y
 rw [e1] at e2
 cases e2
 exact ⟨zbs.refl _,zqj tb⟩
theorem ztw {H:Hp} {a:Addr} {o:Obj} {kvs:List (D × D)} {kk:List (Key × V)} (h:H a=some (.frz o (.dK kk))) (f:zcv K H kvs kk):Walk K (Itd a o kk) (kvs.map (·.1)) H:=by
 refine ⟨fun i d H' fz e=>?_,fun i H' fz e=>⟨fz _ _ h trivial,by rw [f.len];simpa using e⟩⟩
 obtain ⟨q,v,e1,rfl⟩:=f.at e
 refine ⟨⟨fz _ _ h trivial,(List.getElem?_eq_some_iff.mp e1).1⟩,fun x H'' y=>?_⟩
 obtain ⟨rfl,k,v',e2,rfl⟩:=y
 rw [e1] at e2
 cases e2
 exact ⟨zbs.refl _,zuJ⟩
theorem zjR {tg:Expr} (he:PV K X e f):PVI K X tg e (iD f):=fun hK=>by
 subst hK
 refine (zvP (he rfl)).weak fun σ H R=>?_
 rintro ⟨ρ,rel,q⟩
 refine goV rel q fun dx ρ1 x H1 rel1 st1 fx q1=>?_
 obtain ⟨items,ei,q2⟩:=q1.zii
 cases dx with
 | dict kvs =>
  cases ei
  simp only [Fz] at fx
  obtain ⟨a,o,rfl,h⟩:=fx
  rcases h with ⟨kk,h1,h2⟩ | ⟨kk,h1,h2⟩
  ·exact ⟨a,o,rfl,.inl ⟨kk,h1,q2.now rel1 _ (ztv h1 h2)⟩⟩
  ·exact ⟨a,o,rfl,.inr ⟨kk,h1,q2.now rel1 _ (ztw h1 h2)⟩⟩
 | _=>cases ei
end
end FL
namespace FL
open PySem L2 PySem.Spec
open PyProof.Rows hiding St
variable [Cs]
theorem zkR {α:Type} {le:α->α->Prop}:∀ {l1 l2:List α},l1.Perm l2->l1.Pairwise le->l2.Pairwise le->(∀ a ∈ l1,∀ b ∈ l1,le a b->le b a->a=b)->l1=l2
 | [],l2,h,_,_,_=>(List.nil_perm.mp h).symm
 | a :: r1,[],h,_,_,_=>by have:=h.length_eq;simp at this
 | a :: r1,b :: r2,h,p1,p2,an=>by
  rw [List.pairwise_cons] at p1 p2
  have e:a=b:=by
   have ha:a ∈ b :: r2:=h.mem_iff.mp (List.mem_cons_self ..)
   have hb:b ∈ a :: r1:=h.mem_iff.mpr (List.mem_cons_self ..)
   rcases List.mem_cons.mp ha with e | ha'
   ·exact e
   rcases List.mem_cons.mp hb with e | hb'
   ·exact e.symm
   exact an a (List.mem_cons_self ..) b (List.mem_cons_of_mem _ hb') (p1.1 b hb') (p2.1 a ha')
  subst e
  rw [zkR ((List.perm_cons a).mp h) p1.2 p2.2 fun x hx y hy=>an x (List.mem_cons_of_mem _ hx) y (List.mem_cons_of_mem _ hy)]
section
variable {K:PySem.W.Frag} {X:Cx} {H:Hp}
theorem zs9:∀ {kvs:List (D × D)} {kk:List (List Key × V)} {xs:List V},zcu K H kvs kk->KTs H kk xs->zaj K H (kvs.map (·.1)) xs
 | [],kk,xs,h,t=>by
  simp only [zcu] at h
  subst h
  have:xs=[]:=t
  subst this
  simp [zaj]
 | (k,d) :: r,kk,xs,h,t=>by
  simp only [zcu] at h
  obtain ⟨q,v,t',rfl,rfl,f,h2⟩:=h
  obtain ⟨b,u,rfl,tb,t2⟩:=t
  simp only [List.map_cons,zaj]
  exact ⟨_,_,rfl,zqj tb,zs9 h2 t2⟩
theorem zta:∀ {kvs:List (D × D)} {kk:List (Key × V)},zcv K H kvs kk->zaj K H (kvs.map (·.1)) (kk.map fun kv=>kV kv.1)
 | [],kk,h=>by simp only [zcv] at h;subst h;simp [zaj]
 | (k,d) :: r,kk,h=>by
  simp only [zcv] at h
  obtain ⟨q,v,t',rfl,rfl,f,h2⟩:=h
  simp only [List.map_cons,zaj]
  exact ⟨_,_,rfl,zuJ,zta h2⟩
theorem zsn {kvs:List (D × D)} {d:Addr} {xs:List V} (h:Fz K H (.dict kvs) (.ref d)) (t:zsK H d xs):zaj K H (kvs.map (·.1)) xs:=by
 simp only [Fz] at h
 obtain ⟨a,o,e,h⟩:=h
 cases e
 rcases h with ⟨kk,h1,h2⟩ | ⟨kk,h1,h2⟩
 ·rcases t with ⟨kk',rd,t⟩ | ⟨kk',rd,t⟩
  ·have:kk'=kk:=by
    rcases rd with z | ⟨o',z⟩
    ·rw [h1] at z;cases z
    ·rw [h1] at z;cases z;rfl
   subst this
   exact zs9 h2 t
  ·rcases rd with z | ⟨o',z⟩
   ·rw [h1] at z;cases z
   ·rw [h1] at z;cases z
 ·rcases t with ⟨kk',rd,t⟩ | ⟨kk',rd,t⟩
  ·rcases rd with z | ⟨o',z⟩
   ·rw [h1] at z;cases z
   ·rw [h1] at z;cases z
  ·have:kk'=kk:=by
    rcases rd with z | ⟨o',z⟩
    ·rw [h1] at z;cases z
    ·rw [h1] at z;cases z;rfl
   subst this
   subst t
   exact zta h2
theorem zwD {kvs:List (D × D)} {d:Addr} (h:Fz K H (.dict kvs) (.ref d)):IsD H d:=by
 simp only [Fz] at h
 obtain ⟨a,o,e,h⟩:=h
 cases e
 rcases h with ⟨kk,h1,h2⟩ | ⟨kk,h1,h2⟩
 ·exact .inr ⟨kk,.inr ⟨o,h1⟩⟩
 ·exact .inl ⟨kk,.inr ⟨o,h1⟩⟩
end
end FL
namespace FL
open PySem L2 PySem.Spec
open PyProof.Rows hiding St
variable [Cs]
end FL
namespace FL
open PySem L2 PySem.Spec
open PyProof.Rows hiding St
def zgd (cs:List Addr) (K:PySem.W.Frag):PySem.W.Frag:=K.filter fun p=>!cs.contains p.1
theorem zeL (cs:List Addr):∀ (K:PySem.W.Frag) (b:Addr),(zgd cs K).lookup b=if cs.contains b=true then none else K.lookup b
 | [],b=>by simp [zgd]
 | (c,o) :: K,b=>by
  have ih:=zeL cs K b
  unfold zgd at ih ⊢
  rw [List.filter_cons]
  by_cases hc:cs.contains c=true
  ·rw [if_neg (by simp only [hc];decide),ih]
   by_cases hb:cs.contains b=true
   ·rw [if_pos hb,if_pos hb]
   ·have ne:b ≠ c:=fun z=>by rw [z] at hb;exact hb hc
    rw [if_neg hb,if_neg hb]
    simp [List.lookup_cons,show (b == c)=false from by simpa using ne]
  ·have hc':cs.contains c=false:=by simpa using hc
   rw [if_pos (by simp only [hc'];decide)]
   by_cases e:b=c
   ·subst e
    rw [if_neg hc]
    simp [List.lookup_cons]
   ·have e':(b == c)=false:=by simpa using e
    rw [List.lookup_cons,List.lookup_cons,e']
    exact ih
theorem zto {cs:List Addr} {K:PySem.W.Frag} {h:Heap} (x:K.In h):(zgd cs K).In h:=fun a o e=>by
 rw [zeL] at e
 split at e
 ·cases e
 ·exact x a o e
def zvb (cs:List Addr) (K:PySem.W.Frag):Prop:=∀ c ∈ cs,∃ o its n,K.lookup c=some o/\o.data=Data.seq its n
theorem znz {cs:List Addr} {K:PySem.W.Frag} (s:zvb cs K) {b:Addr} {o:Obj} (e:K.lookup b=some o) (n:∀ its m,o.data ≠ .seq its m):(zgd cs K).lookup b=some o:=by
 rw [zeL,if_neg,e]
 intro c
 obtain ⟨o',its,m,e',d⟩:=s b (by simpa using c)
 rw [e] at e'
 cases e'
 exact n _ _ d
theorem zoz {cs:List Addr} {K:PySem.W.Frag} (s:zvb cs K) {cd:Value} {q:Str} (h:PySem.W.codeIn K cd q=true):PySem.W.codeIn (zgd cs K) cd q=true:=by
 cases cd with
 | ref c =>
  unfold PySem.W.codeIn at h ⊢
  cases e:K.lookup c with
  | none=>simp only [e] at h;cases h
  | some o =>
   obtain ⟨oc,od,data,sl⟩:=o
   cases data with
   | fields vs =>
    simp only [e] at h
    simp only [znz s e fun _ _ z=>nomatch z]
    exact h
   | _=>simp only [e] at h;cases h
 | _=>cases h
theorem Fun.cut {cs:List Addr} {K:PySem.W.Frag} (s:zvb cs K) {x q:Str} {st:Stmt} {f:Addr} {fd:FuncData} (F:Fun K x q st f fd):Fun (zgd cs K) x q st f fd:=by
 obtain ⟨⟨oc,od,kV,doc,pm,an,cdv,ct,osl,e,l,c⟩,kp⟩:=F
 have l':=znz s l fun _ _ z=>nomatch z
 refine ⟨⟨oc,od,kV,doc,pm,an,cdv,ct,osl,e,l',zoz s c⟩,?_⟩
 unfold PySem.W.keepIn
 simp only [l']
theorem Has.cut {cs:List Addr} {K:PySem.W.Frag} {mg:Str->Option Value} (s:zvb cs K) {x:Str} {st:Stmt} (h:Has K mg x st):Has (zgd cs K) mg x st:=by
 obtain ⟨f,fd,hm,F⟩:=h
 exact ⟨f,fd,hm,Fun.cut s F⟩
abbrev CL:=List (Addr × Obj × List V)
def zlT (cl:CL):Hp:=fun b=>(cl.lookup b).map fun p=>.frz p.1 (.tup p.2)
@[reducible] def zva (cl:CL):Cs:=⟨zlT cl,fun a u h=>by
 unfold zlT at h
 rw [Option.map_eq_some_iff] at h
 obtain ⟨p,_,rfl⟩:=h
 exact ⟨_,_,rfl⟩⟩
def zlR (cl:CL) (K:PySem.W.Frag):Prop:=∀ p ∈ cl,K.lookup p.1=some p.2.1/\p.2.1.cls=.type "tuple"/\p.2.2.length<=sizeLine/\∃ (its:Array Value) (n:Nat),p.2.1.data=.seq its n/\Vals p.2.2 its.toList
theorem zlR.nil {K:PySem.W.Frag}:zlR [] K:=fun p hp=>by simp at hp
theorem zlR.cons {K:PySem.W.Frag} {a:Addr} {od:Option Addr} {its:Array Value} {n:Nat} {sl:Array (Option Value)} {xs:List V} {cl:CL} (e:K.lookup a=some ⟨.type "tuple",od,.seq its n,sl⟩) (hv:Vals xs its.toList) (hl:xs.length<=1000) (r:zlR cl K):zlR ((a,⟨.type "tuple",od,.seq its n,sl⟩,xs) :: cl) K:=fun p hp=>by
 rcases List.mem_cons.mp hp with rfl | hp
 ·exact ⟨e,rfl,Nat.le_of_lt (zo6 hl),its,n,rfl,hv⟩
 ·exact r p hp
theorem zlR.seqs {cl:CL} {K:PySem.W.Frag} (h:zlR cl K):zvb (cl.map (·.1)) K:=fun c hc=>by
 obtain ⟨p,hp,rfl⟩:=List.mem_map.mp hc
 obtain ⟨e,_,_,its,n,d,_⟩:=h p hp
 exact ⟨_,its,n,e,d⟩
theorem mem_of_lookup {α:Type}:∀ {l:List (Addr × α)} {a:Addr} {x:α},l.lookup a=some x->(a,x) ∈ l
 | [],a,x,h=>by simp at h
 | (b,y) :: r,a,x,h=>by
  rw [List.lookup_cons] at h
  cases e:a == b with
  | true =>
   rw [e] at h
   cases h
   have:=eq_of_beq e
   subst this
   exact List.mem_cons_self ..
  | false =>
   rw [e] at h
   exact List.mem_cons_of_mem _ (mem_of_lookup h)
theorem zjo {cl:CL} {K:PySem.W.Frag} (h:zlR cl K) {b:Addr} {u:HO} (e:zlT cl b=some u):(zgd (cl.map (·.1)) K).lookup b=none/\∃ (o:Obj) (xs:List V) (its:Array Value) (n:Nat),u=.frz o (.tup xs)/\K.lookup b=some o/\o.cls=.type "tuple"/\o.data=.seq its n/\xs.length<=sizeLine/\Vals xs its.toList:=by
 unfold zlT at e
 rw [Option.map_eq_some_iff] at e
 obtain ⟨⟨o,xs⟩,el,rfl⟩:=e
 have m:=mem_of_lookup el
 obtain ⟨h1,h2,h3,its,n,h4,h5⟩:=h _ m
 refine ⟨?_,o,xs,its,n,rfl,h1,h2,h4,h3,h5⟩
 rw [zeL,if_pos]
 have:b ∈ cl.map (·.1):=List.mem_map.mpr ⟨_,m,rfl⟩
 simpa using this
theorem zpO {P:Program} {w:World} {K:PySem.W.Frag} {mg mb:Str->Option Value} {CX:CXT} {k:Nat} {fa a:Addr} {fd:FuncData} {x:Str} {sp:Sp} {s₁:Shared} {vs:List Value} {ns:List Int} {cl:CL}
  (KX:K.In s₁.heap) (hC:zlR cl K) (hns:s₁.heap.Ns mainGlobals mg) (hb:s₁.heap.Ns builtinsNs mb) (hbb:∀ x:Str,x ≠ "__name__"->mb x=bootBuiltins x) (hlim:s₁.heap.NoLimit) (hse:s₁.heap.NoSeer) (htr:P.given.tree=none) (hg:s₁.gens=#[])
  (ha:s₁.heap.get? a=some { cls:=.type "list",data:=.seq vs.toArray }) (hi:IntsAre vs ns) (hl:ns.length<=sizeLine) (hr:zc7 k callerA)
  (F:∀ base:Heap,(zgd (cl.map (·.1)) K).In base->base.Ns mainGlobals mg->zkB P w (zgd (cl.map (·.1)) K) mg base CX k fa fd [x] sp) (hbind:∀ (s:Shared) (u:Value),BindsTo s fd ⟨[u],[]⟩ [(x,u)])
  (hsp:∀ H:Hp,(∀ b xs,H b ≠ some (.lst xs))->(∀ b u,zlT cl b=some u->H b=some u)->SqL (zgd (cl.map (·.1)) K) H a (ns.map V.int)->sp [.ref a] H (fun v _=>v=.bl true) fun _ _ _=>False)
  (hCX:∀ H e s',CX [] H s₁ (fun _ _ _=>False) e s'->False) :
  codeAny (model P w) callerA (.call (.ref fa) ⟨[.ref a],[]⟩) (fun r s'=>r=.ok (.ret (.bool true))/\OldK s₁.heap s'.heap/\s'.os=s₁.os/\AllBare s'.gens) s₁:=by
 have rv:=zkG hi
 have lenV:=hi.length
 have core:∀ H:Hp,(∀ b u,H b=some u->∃ o v,u=.frz o v/\o.cls ≠ .type "module"/\∀ es ep,o.data ≠ .dict es ep)->(∀ b xs,H b ≠ some (.lst xs))->(∀ b u,zlT cl b=some u->H b=some u)->SqL (zgd (cl.map (·.1)) K) H a (ns.map V.int)->HOk P w H s₁.heap->(∀ b,H b ≠ none->(zgd (cl.map (·.1)) K).lookup b=none) ->
   codeAny (model P w) callerA (.call (.ref fa) ⟨[.ref a],[]⟩) (fun r s'=>r=.ok (.ret (.bool true))/\OldK s₁.heap s'.heap/\s'.os=s₁.os/\AllBare s'.gens) s₁:=by
  intro H hO hL hcc hS hok hK
  have base_of:∀ {b:Addr} {o:Obj},s₁.heap.get? b=some o->H b=none->(zr9 s₁.heap H).get? b=some o:=fun e n=>zr8 e n
  have noA:∀ {b:Addr} {o:Obj} {es:Array DictEntry} {ep:Nat},s₁.heap.get? b=some o->o.data=.dict es ep->H b=none:=fun {b o es ep} e d=>by
   cases q:H b with
   | none=>rfl
   | some u =>
    obtain ⟨o',v,rfl,_,nd⟩:=hO b u q
    obtain ⟨e',_⟩:=hok b _ q
    rw [e] at e'
    cases e'
    exact absurd d (nd es ep)
  have noM:∀ {b:Addr} {o:Obj},s₁.heap.get? b=some o->o.cls=.type "module"->H b=none:=fun {b o} e d=>by
   cases q:H b with
   | none=>rfl
   | some u =>
    obtain ⟨o',v,rfl,nd,_⟩:=hO b u q
    obtain ⟨e',_⟩:=hok b _ q
    rw [e] at e'
    cases e'
    exact absurd d nd
  have nsK:∀ {b:Addr} {m:Str->Option Value},s₁.heap.Ns b m->(zr9 s₁.heap H).Ns b m:=fun {b m} ⟨o,es,ep,e,d,r⟩=>⟨o,es,ep,base_of e (noA e d),d,r⟩
  have hKb:(zgd (cl.map (·.1)) K).In (zr9 s₁.heap H):=fun b o e=>base_of (zto KX b o e) (by
   cases q:H b with
   | none=>rfl
   | some u=>rw [hK b (by rw [q];simp)] at e;cases e)
  have hM:Mod (zgd (cl.map (·.1)) K) mg (zr9 s₁.heap H):=⟨hKb,nsK hns,⟨mb,nsK hb,hbb⟩,let ⟨mc,h1,h2⟩:=hlim;⟨mc,nsK h1,h2⟩,(let ⟨mc,h1,h2⟩:=hse.statics;⟨mc,nsK h1,h2⟩),(let ⟨mc,h1,h2⟩:=hse.mods;⟨mc,nsK h1,h2⟩),(let ⟨mc,h1,h2⟩:=hse.imp;⟨mc,nsK h1,h2⟩),(let ⟨mg,bm,ob,h1,h2,h3,h4,h5⟩:=hse.main;⟨mg,bm,ob,nsK h1,h2,base_of h3 (noM h3 h4),h4,h5⟩)⟩
  have e0:zxd P w (zgd (cl.map (·.1)) K) mg (zr9 s₁.heap H) callerA [] s₁ H:=⟨rfl,hM,fun b o e=>zui e,Nat.le_of_eq (zqb _ _),trivial,fun b hb=>absurd (show b ∈ ([]:List Addr) from hb) (by simp),hok,.of_eq hg,htr⟩
  refine codeAny_mono ((F _ hKb (nsK hns)).run callerA [] s₁ H ⟨[.ref a],[]⟩ [.ref a] [.ref a] _ _ hr e0 (hbind s₁ (.ref a)) (.cons rfl .nil) (hsp H hL hcc hS)) fun r s' h=>?_
  cases r with
  | error e=>exact (hCX H e s' h).elim
  | ok fl =>
   cases fl with
   | next=>exact False.elim h
   | brk=>exact False.elim h
   | cont=>exact False.elim h
   | ret u =>
    obtain ⟨v,H',os,bare,un,hok',r',q⟩:=h
    have q':v=.bl true:=q
    subst q'
    obtain rfl:u=Value.bool true:=r'
    refine ⟨rfl,OldK.of_keep fun b o e=>?_,os,bare⟩
    cases q:H b with
    | none=>exact un.keep b o e q (by intro z;exact absurd (show b ∈ ([]:List Addr) from z) (by simp)) (by simp)
    | some u =>
     obtain ⟨ob,v,rfl,_,_⟩:=hO b u q
     have z2:=un.frzs b ob _ q
     obtain ⟨e1,_⟩:=hok b _ q
     obtain ⟨e2,_⟩:=hok' b _ z2
     rw [e] at e1;cases e1
     exact e2
 have cok:∀ {H:Hp} {b:Addr} {u:HO},zlT cl b=some u->zbN P w H s₁.heap b u:=fun {H b u} e=>by
  obtain ⟨_,o,xs,its,n,rfl,h1,h2,h3,h4,h5⟩:=zjo hC e
  have hg:=KX b o h1
  exact ⟨hg,h4,its.toList,h5,o,hg,h2,n,by simpa using h3⟩
 have cfr:∀ {b:Addr} {u:HO},zlT cl b=some u->∃ o v,u=.frz o v/\o.cls ≠ .type "module"/\∀ es ep,o.data ≠ .dict es ep:=fun {b u} e=>by
  obtain ⟨_,o,xs,its,n,rfl,h1,h2,h3,h4,h5⟩:=zjo hC e
  exact ⟨o,_,rfl,by rw [h2];simp,fun es ep z=>by rw [h3] at z;cases z⟩
 have clst:∀ {b:Addr} {xs:List V},zlT cl b ≠ some (.lst xs):=fun {b xs} e=>by
  obtain ⟨_,o,xs,its,n,z,_⟩:=zjo hC e
  cases z
 cases hk:(zgd (cl.map (·.1)) K).lookup a with
 | some o =>
  have e:=zto KX a o hk
  rw [ha] at e
  cases e
  exact core (zlT cl) (fun b u e=>cfr e) (fun b xs e=>clst e) (fun _ _ e=>e) (.inr ⟨_,vs.toArray,_,hk,rfl,rfl,rfl,by rw [List.size_toArray,lenV];exact hl,by simpa using rv⟩) (fun b u z=>cok z) fun b hb=>by
   cases q:zlT cl b with
   | none=>exact absurd q hb
   | some u=>exact (zjo hC q).1
 | none =>
  have na:∀ u,zlT cl a ≠ some u:=fun u z=>by
   obtain ⟨_,o,xs,its,n,rfl,h1,h2,h3,h4,h5⟩:=zjo hC z
   have:=KX a o h1
   rw [ha] at this
   cases this
   simp at h2
  refine core (fun b=>if b=a then some (.frz { cls:=.type "list",data:=.seq vs.toArray } (.lst (ns.map V.int))) else zlT cl b) (fun b u e=>?_) (fun b xs e=>?_) (fun b u e=>?_) (.inl (.inr ⟨{ cls:=.type "list",data:=.seq vs.toArray },if_pos rfl⟩)) (fun b u z=>?_) fun b hb=>?_
  ·split at e
   ·cases e;exact ⟨_,_,rfl,by simp,fun es ep z=>nomatch z⟩
   ·exact cfr e
  ·split at e
   ·cases e
   ·exact clst e
  ·have:b ≠ a:=fun z=>by subst z;exact na u e
   simp only [if_neg this];exact e
  ·simp only at z
   split at z
   ·rename_i c
    cases z
    subst c
    exact ⟨ha,by rw [List.length_map];exact hl,vs,_,rv,ha⟩
   ·exact cok z
  ·by_cases c:b=a
   ·subst c;exact hk
   ·simp only [if_neg c] at hb
    cases q:zlT cl b with
    | none=>exact absurd q hb
    | some u=>exact (zjo hC q).1
theorem zrd {l:PySem.W.OpenLaw} {k:Nat} {q:Program} {loose:List Str} {XP:(Str->Option Value)->Heap->Prop} {YP:World->Heap->Prop} {d:DefRec} {K:Params->PySem.W.Frag} {x:Str} {G:List D->R D}
  (hlaw:∀ ns:List Int,ns.length<=63->G [.list (ns.map PyData.int)]=.ok (.bool true)) (hn:l.most=some 63) (hdf:d.params.defaults=[]) (hi:importsNone q=true) (htr:l.prog.given.tree=none) (hr:zc7 k callerA)
  (hY:∀ (w:World) (h:Heap),YP w h->(K w.params).In h)
  (F:∀ (w:World) (mg:Str->Option Value) (fa:Addr) (h:Heap),(K w.params).In h->h.Ns mainGlobals mg->mg d.name=some (.ref fa) ->
   ∃ (cl:CL) (fd:FuncData),zlR cl (K w.params)/\(∀ (s:Shared) (u:Value),BindsTo s fd ⟨[u],[]⟩ [(x,u)]) /\
    ∀ base:Heap,(zgd (cl.map (·.1)) (K w.params)).In base->base.Ns mainGlobals mg->zkB l.prog w (zgd (cl.map (·.1)) (K w.params)) mg base (CXe l.prog w) k fa fd [x] (@spP (zva cl) (zgd (cl.map (·.1)) (K w.params)) 1 false G)) :
  PySem.W.WalkO q loose XP YP l.row.toRowW d [] (fun f vs=>PySem.call f vs):=by
 refine Att.zmH hn hdf fun w s₀ s₁ mg mb fa o pm cd doc a vs ns GG Y ho hd hcd hmg hobj hints hlen hg=>?_
 have KX:=hY w _ Y
 obtain ⟨cl,fd,hC,hb,hF⟩:=F w mg fa _ KX GG.T.g hmg
 refine zpO KX hC GG.T.g GG.T.b GG.T.builtins GG.T.nolimit (GG.T.seer hi) htr hg hobj hints (Nat.le_trans hlen (by decide)) hr hF hb (fun H hO hcc hS=>@zwn (zva cl) _ G H a ns (hlaw ns hlen) hO hcc hS) fun H e s' ⟨_,_,_,_,_,_,_,_,_,_,_,_,_,_,_,z⟩=>z
variable [Cs]
theorem zsT {K:PySem.W.Frag} {X:Cx} {x:Str} {a:Addr} {pos:Pos} {ds:List D} {vs:List V} (hg:Gl X x) (hm:X.mg x=some (.ref a)) (hc:∃ o,Cs.C a=some (.frz o (.tup vs))) (hf:∀ H,zaj K H ds vs) (hd:(x == ("__debug__":Str))=false:=by decide) :
  PV K X (.Name x pos) (eC (.tuple ds)):=fun _=>(zt7 hg hm (v:=.ref a) rfl hd).weak fun σ H Q=>by
 rintro ⟨ρ,rel,g⟩
 obtain ⟨o,hc⟩:=hc
 refine g.now rel (.ref a) ?_
 simp only [Fz]
 exact ⟨a,vs,rfl,.inr ⟨o,rel.cst _ _ hc⟩,hf H⟩
end FL
namespace FL
open PySem L2 PySem.Spec
open PyProof.Rows hiding St
theorem zmV {k:Nat} {A:Around} (hr:zc7 k A):A.units + 1 < cLine:=by have:=hr.un;omega
theorem zpc {x y:V} {u:Value} (h1:L2.RelV x u) (h2:L2.RelV y u):x=y:=by
 cases x <;> cases y <;> simp only [L2.RelV] at h1 h2 <;> first
  | (subst h1;cases h2;rfl;done)
  | (subst h1;obtain ⟨t',h2⟩:=h2;cases h2;done)
  | (obtain ⟨t,rfl⟩:=h1;obtain ⟨t',h2⟩:=h2;cases h2;rfl;done)
  | (obtain ⟨t,rfl⟩:=h1;obtain ⟨t',h2⟩:=h2;cases h2;done)
  | (subst h1;cases h2;done)
  | (obtain ⟨t,rfl⟩:=h1;cases h2;done)
theorem zkF:∀ {xs ys:List V} {us:List Value},Vals xs us->Vals ys us->xs=ys
 | _,_,_,.nil,.nil=>rfl
 | _,_,_,.cons r1 t1,.cons r2 t2=>by rw [zpc r1 r2,zkF t1 t2]
theorem lookup_mem {α:Type}:∀ {l:List (Addr × α)} {a:Addr} {x:α},(a,x) ∈ l->∃ y,l.lookup a=some y
 | [],a,x,h=>by simp at h
 | (b,y) :: r,a,x,h=>by
  rw [List.lookup_cons]
  cases e:a == b with
  | true=>exact ⟨y,rfl⟩
  | false =>
   rcases List.mem_cons.mp h with z | z
   ·cases z;simp at e
   ·exact lookup_mem z
theorem ztg {cl:CL} {K:PySem.W.Frag} (h:zlR cl K) {a:Addr} {o:Obj} {xs:List V} (m:(a,o,xs) ∈ cl):∃ o',(zva cl).C a=some (.frz o' (.tup xs)):=by
 obtain ⟨⟨o2,ys⟩,el⟩:=lookup_mem m
 obtain ⟨h1,_,_,its,n,h2,h3⟩:=h _ m
 obtain ⟨g1,_,_,its',n',g2,g3⟩:=h _ (mem_of_lookup el)
 simp only at h1 h2 h3 g1 g2 g3
 rw [h1] at g1
 cases g1
 rw [h2] at g2
 cases g2
 refine ⟨o,?_⟩
 show zlT cl a=_
 unfold zlT
 rw [el,zkF h3 g3]
 rfl
theorem zwA {K:PySem.W.Frag} {h:Heap} {mg:Str->Option Value} {x:Str} {st:Stmt} {f:Addr} {oc:Value} {od an:Option Addr} {osl:Array (Option Value)} {kV doc pm cdv ct:Value} (X:K.In h) (G:h.Ns mainGlobals mg) (q:PySem.W.nsIn K mainGlobals x=some (some (.ref f)))
  (l:K.lookup f=some ⟨oc,od,.func (PySem.W.fnOf x x (zdy st) (zb1 st) (zaz st) .none kV doc pm an cdv ct),osl⟩) (c:PySem.W.codeIn K cdv x=true) (k:PySem.W.keepIn K (.ref f)=true):Has K mg x st:=⟨f,_,PySem.W.mg_of X G q,zwE (st:=st) l c k⟩
theorem _root_.L2.Has.cut {cs:List Addr} {K:PySem.W.Frag} {mg:Str->Option Value} {x:Str} {st:Stmt} (h:Has K mg x st) (s:zvb cs K):Has (zgd cs K) mg x st:=FL.Has.cut s h
end FL
namespace FL
open PySem
theorem zoq (ns:List Int):intsOf (ns.map PyData.int)=some ns:=by
 induction ns with
 | nil=>rfl
 | cons n ns ih=>simp [intsOf,ih]
theorem zmC (ns:List Bool):boolsOf (ns.map PyData.bool)=some ns:=by
 induction ns with
 | nil=>rfl
 | cons n ns ih=>simp [boolsOf,ih]
theorem zsD (bs:List Bool):zwZ (.list (bs.map PyData.bool))=.ok (.bool (bs.all id)):=by
 show ((R.of (boolsOf _)).bind _)=_
 rw [zmC];rfl
theorem zul {α β:Type} (g:α->β) (xs:List α) (lo hi:Option Int):cut (xs.map g) lo hi=(cut xs lo hi).map g:=by
 unfold cut
 simp [List.map_take,List.map_drop]
theorem zhJ (lo hi:Int):rng lo hi=((List.range (hi - lo).toNat).map fun (i:Nat)=>lo + (i:Int)).map PyData.int:=by
 unfold rng
 rw [List.map_map];rfl
def Pl (n:Nat) (d:D):Prop:=PyData.canLay0 d=true/\d.depth<=n
theorem Pl.shaped {n:Nat} {d:D} (h:Pl n d) (hn:n<=64:=by decide):SeqAt.shaped d=true:=by
 unfold SeqAt.shaped
 rw [h.1,decide_eq_true (Nat.le_trans h.2 hn)];rfl
theorem zjh (i:Int):Pl 0 (.int i):=⟨rfl,Nat.le_refl _⟩
theorem zpq {n:Nat}:∀ {ds:List D},(∀ d ∈ ds,Pl n d)->PyData.canLayAll0 ds=true/\PyData.depthAll ds<=n
 | [],_=>⟨rfl,Nat.zero_le _⟩
 | d :: ds,h=>by
  obtain ⟨a,b⟩:=zpq fun x m=>h x (List.mem_cons_of_mem d m)
  obtain ⟨c,e⟩:=h d (List.mem_cons_self ..)
  refine ⟨by simp only [PyData.canLayAll0];rw [c,a];rfl,?_⟩
  simp only [PyData.depthAll]
  omega
theorem zm4 {n:Nat} {ds:List D} (h:∀ d ∈ ds,Pl n d):Pl (n + 1) (.tuple ds):=by
 obtain ⟨a,b⟩:=zpq h
 exact ⟨a,by simp only [PyData.depth];omega⟩
theorem zpp {n:Nat} {ds:List D} (h:∀ d ∈ ds,Pl n d):Pl (n + 1) (.list ds):=by
 obtain ⟨a,b⟩:=zpq h
 exact ⟨a,by simp only [PyData.depth];omega⟩
theorem zeK {α:Type} [DecidableEq α] (f:α->D) (h:∀ a b,PyData.eqv (f a) (f b)=decide (a=b)):∀ xs ys:List α,PyData.eqvAll (xs.map f) (ys.map f)=decide (xs=ys)
 | [],[]=>rfl
 | [],y :: ys=>by simp [PyData.eqvAll]
 | x :: xs,[]=>by simp [PyData.eqvAll]
 | x :: xs,y :: ys=>by
  simp only [List.map_cons,PyData.eqvAll]
  rw [h,zeK f h xs ys]
  by_cases e1:x=y <;> by_cases e2:xs=ys <;> simp [e1,e2]
theorem zmz (a b:Int):PyData.eqv (.int a) (.int b)=decide (a=b):=by
 show (a == b)=_
 rw [Bool.beq_eq_decide_eq]
abbrev tp (w:List Int):D:=.tuple (w.map PyData.int)
theorem zvM (w:List Int):Pl 1 (tp w):=zm4 fun d m=>by
 obtain ⟨i,_,rfl⟩:=List.mem_map.mp m
 exact zjh i
theorem zwK (a b:List Int):PyData.eqv (tp a) (tp b)=decide (a=b):=by
 show PyData.eqvAll _ _=_
 exact zeK _ zmz a b
theorem zwL {n m:Nat} {a b:D} (ha:Pl n a) (hb:Pl m b) (hn:n<=64:=by decide) (hm:m<=64:=by decide):eqD a b=.ok (.bool (PyData.eqv a b)):=by
 unfold eqD
 rw [ha.shaped hn,hb.shaped hm];rfl
theorem zk1 {n m:Nat} {a b:D} (ha:Pl n a) (hb:Pl m b) (hn:n<=64:=by decide) (hm:m<=64:=by decide):neD a b=.ok (.bool (!PyData.eqv a b)):=by
 unfold neD
 rw [ha.shaped hn,hb.shaped hm];rfl
theorem zwe (a b:List Int):neD (tp a) (tp b)=.ok (.bool (!decide (a=b))):=by rw [zk1 (zvM a) (zvM b),zwK]
theorem zb9 (a b:Int):eqD (.int a) (.int b)=.ok (.bool (decide (a=b))):=by rw [zwL (zjh a) (zjh b),zmz]
theorem zbT (a b:Int):neD (.int a) (.int b)=.ok (.bool (!decide (a=b))):=by rw [zk1 (zjh a) (zjh b),zmz]
theorem zqc (i j:Int):gtD (.int i) (.int j)=.ok (.bool (decide (j < i))):=rfl
theorem zhU (i j:Int):ltD (.int i) (.int j)=.ok (.bool (decide (i < j))):=rfl
theorem zur (i j:Int):leD (.int i) (.int j)=.ok (.bool (decide (i<=j))):=rfl
theorem zuG (i j:Int):geD (.int i) (.int j)=.ok (.bool (decide (j<=i))):=rfl
theorem zde {j:Int} (h:0<=j) (h2:j<=1000000):zl5 [.int j]=.ok (rng 0 j):=by
 show chk _ _=_
 refine zay ?_
 unfold zn0 lim
 simp only [Bool.and_eq_true,leB_iff]
 omega
theorem znG {m:List (Nat × Sl)} (h:∀ i p d,m.lookup i ≠ some (.ow p d)):∀ (ρ:En) (n:Nat),bkL m n ρ=ρ
 | [],_=>rfl
 | x :: r,n=>by
  unfold bkL
  rw [znG h r (n + 1)]
  congr 1
  unfold bk1
  split
  ·rename_i p d q e h1 h2
   exact absurd h2 (h _ _ _)
  ·rfl
theorem zbc {α:Type} {f:α->D} {g:GF} {b:SF} (P:List α->En->Prop):∀ (xs:List α) (done:List α) (ρ:En),P done ρ ->
  (∀ pre x post ρ,done ++ xs=pre ++ x :: post->P pre ρ->∃ ρ' fl,(g (f x) ρ).bind b=.ok (fl,ρ')/\(fl=.nx\/fl=.ct)/\P (pre ++ [x]) ρ')->∃ ρ',forL g b (xs.map f) ρ=.ok (.nx,ρ')/\P (done ++ xs) ρ'
 | [],done,ρ,h,_=>⟨ρ,rfl,by simpa using h⟩
 | x :: xs,done,ρ,h,hx=>by
  obtain ⟨ρ1,fl,e,hf,h1⟩:=hx done x xs ρ rfl h
  obtain ⟨ρ2,e2,h2⟩:=zbc P xs (done ++ [x]) ρ1 h1 fun pre y post ρ e=>hx pre y post ρ (by simpa using e)
  refine ⟨ρ2,?_,by simpa using h2⟩
  show ((g (f x) ρ).bind fun ρ1=>(b ρ1).bind fun y=>match y.1 with
    | .nx | .ct=>forL g b (xs.map f) y.2
    | .bk=>.ok (.nx,y.2)
    | .rt d=>.ok (.rt d,y.2)
    | .rf d=>.ok (.rf d,y.2))=_
  cases e1:g (f x) ρ with
  | ok ρ3 =>
   rw [e1] at e
   rw [zad] at e ⊢
   rw [e,zad]
   rcases hf with rfl | rfl
   ·exact e2
   ·exact e2
  | bad=>rw [e1] at e;cases e
  | err c fs=>rw [e1] at e;cases e
def Np (x:Sl):Prop:=∀ e,x ≠ .ow true e
theorem za2:Np .no:=fun _ z=>nomatch z
theorem zav (d:D):Np (.val d):=fun _ z=>nomatch z
theorem zxH (d:D):Np (.ow false d):=fun _ z=>nomatch z
theorem zcH {ρ:En} {i:Nat} {d:D} {x:Sl} (h:ρ[i]?=some x) (n:Np x):gN i d ρ=.ok (ρ.set i (.val d)):=by
 unfold gN
 rw [h]
 cases x with
 | no=>rfl
 | val c=>rfl
 | ow p c=>cases p with
  | true=>exact absurd rfl (n c)
  | false=>rfl
theorem zdZ {i:Nat} {f:EF} {ρ:En} {y:D × En} {x:Sl} (hf:f ρ=.ok y) (h:y.2[i]?=some x) (n:Np x):zdd i f ρ=.ok (.nx,y.2.set i (.ow false y.1)):=by
 unfold zdd
 rw [hf,zad,h]
 cases x with
 | no=>rfl
 | val c=>rfl
 | ow p c=>cases p with
  | true=>exact absurd rfl (n c)
  | false=>rfl
theorem zbQ {i:Nat} {f:EF} {ρ:En} {y:D × En} {x:Sl} (hf:f ρ=.ok y) (h:y.2[i]?=some x) (n:Np x):zaC (gN i) f ρ=.ok (.nx,y.2.set i (.val y.1)):=by
 unfold zaC
 rw [hf,zad,zcH h n];rfl
theorem zqM {m:List (Nat × Sl)} {i:Nat} {x:Sl} (h:m.lookup i=none):bk1 m i x=x:=by
 unfold bk1
 rw [h]
 cases x <;> rfl
theorem zak {s t:SF} {ρ ρ1:En} (h:s ρ=.ok (.nx,ρ1)):zaq s t ρ=t ρ1:=by
 unfold zaq
 rw [h];rfl
end FL
namespace FL
open PySem
def zik:SF:=(zaq (zaC (gN 2) (e2 zaY (e2 zaY (e2 zcd (e2 zaY (e2 zj1 (eV 0) (e2 zaY (e2 zjg (eC (.int 10)) (eC (.int 18))) (eC (.int 9)))) (e2 zcd (eC (.int 7)) (eV 1))) (eC (.int 739108512309184756019283746561))) (e2 zcd (eC (.int 7919)) (eV 1))) (eC (.int 1))))
  (zaq (zaC (gN 2) (e2 zj1 (e2 zcd (eV 2) (eV 2)) (e2 zaY (e2 zjg (eC (.int 10)) (eC (.int 60))) (eC (.int 7)))))
  (zaw (e2 zj1 (e2 zcd (e2 zaY (eV 2) (eC (.int 40503))) (e2 zaY (eV 2) (eC (.int 57)))) (e2 zaY (e2 zjg (eC (.int 10)) (eC (.int 60))) (eC (.int 7)))))))
def zkA:List D->R D:=zaU false 2 3 zik
def zkp:SF:=(zaq (sIf (tB (e2 ltD (eV 1) (e1 zbD (eV 0)))) (zaw (e2 ixD (eV 0) (eV 1))) sNx)
  (zaw (e2 zaY (e2 zcd (eC (.int 3)) (eV 1)) (eC (.int 1)))))
def zxc:List D->R D:=zaU false 2 2 zkp
def zfp:SF:=(zaq (sIf (tB (e2 geD (eV 0) (e2 zjg (eC (.int 10)) (eC (.int 18))))) (zbq (zbF (zab (e2 ze4 (eV 0) (e2 zjg (eC (.int 10)) (eC (.int 18)))) (zab (eC (.int 0)) (zab (eV 1) zah))))) sNx)
  (zbq (zbF (zab (zae zkA (zab (eV 0) (zab (eV 1) zah))) (zab (eC (.int 0)) (zab (e2 zaY (e2 zj1 (eV 0) (e2 zaY (e2 zjg (eC (.int 10)) (eC (.int 18))) (eC (.int 9)))) (eV 1)) zah))))))
def zkz:List D->R D:=zaU true 2 2 zfp
def zgy:SF:=(zaq (sIf (tB (e2 ltD (m2 ixD 0 (eC (.int 0))) (eV 1))) (zaq (setM 0 (e2 zaY (m2 ixD 0 (eC (.int 1))) (eC (.int 1))) (eC (.int 1)))
  (setM 0 (e2 zaY (m2 ixD 0 (eC (.int 0))) (e2 zcd (eV 1) (zae zkA (zab (m2 ixD 0 (eC (.int 2))) (zab (e2 zaY (e2 zcd (eC (.int 11)) (m2 ixD 0 (eC (.int 1)))) (eC (.int 5))) zah))))) (eC (.int 0)))) sNx)
  (zaq (zaC (gN 2) (e2 zj1 (m2 ixD 0 (eC (.int 0))) (eV 1)))
  (zaq (setM 0 (e2 zbM (m2 ixD 0 (eC (.int 0))) (eV 1)) (eC (.int 0)))
  (zaw (eV 2)))))
def zb4:List D->R (D × List D):=run [true,false] false 3 zgy
structure Bd (i:Int) (n:Nat):Prop where
 h:i.natAbs < 2 ^ n
theorem Bd.mono {i:Int} {n m:Nat} (h:Bd i n) (l:n<=m):Bd i m:=⟨Nat.lt_of_lt_of_le h.h (Nat.pow_le_pow_right (by decide) l)⟩
theorem Bd.add {i j:Int} {n m:Nat} (h:Bd i n) (k:Bd j m):Bd (i + j) (max n m + 1):=by
 constructor
 have a:=(h.mono (Nat.le_max_left n m)).h
 have b:=(k.mono (Nat.le_max_right n m)).h
 have c:=Int.natAbs_add_le i j
 rw [Nat.pow_succ]
 omega
theorem Bd.mul {i j:Int} {n m:Nat} (h:Bd i n) (k:Bd j m):Bd (i * j) (n + m):=by
 constructor
 rw [Int.natAbs_mul,Nat.pow_add]
 have a:=h.h
 have b:=k.h
 exact Nat.mul_lt_mul'' a b
theorem Bd.mod {i j:Int} {n:Nat} (h:Bd j n) (p:0 < j):Bd (i.fmod j) n:=by
 constructor
 have a:=h.h
 have b:=Int.fmod_nonneg_of_pos i p
 have c:=Int.fmod_lt_of_pos i p
 omega
theorem mulOk_of {i j:Int} {n m:Nat} (h:Bd i n) (k:Bd j m) (l:n + m<=100000000):zpG i j=true:=by
 unfold zpG
 refine zdk ?_
 have lg:∀ {i:Int} {n:Nat},Bd i n->i.natAbs.log2<=n:=by
  intro i n h
  by_cases z:i.natAbs=0
  ·rw [z];exact Nat.zero_le _
  ·exact Nat.le_of_lt ((Nat.log2_lt z).mpr h.h)
 have a:=lg h
 have b:=lg k
 omega
theorem za6 {i j:Int} {n m:Nat} (h:Bd i n) (k:Bd j m) (l:n + m<=100000000):zcd (.int i) (.int j)=.ok (.int (i * j)):=by
 show chk _ _=_
 exact zay (mulOk_of h k l)
theorem zhT {i j:Int} (p:0 < j):zj1 (.int i) (.int j)=.ok (.int (i.fmod j)):=by
 show chk _ _=_
 exact zay (by simp;omega)
theorem zsh {i j:Int} {n:Nat} (p:0 < j) (h:Bd j n) (l:n<=8000):zbM (.int i) (.int j)=.ok (.int (i.fdiv j)):=by
 show chk _ _=_
 exact zay (by simp;omega)
def p18:Int:=1000000000000000000
def zuc:Int:=1000000000000000009
def p60:Int:=1000000000000000000000000000000000000000000000000000000000000
def zub:Int:=1000000000000000000000000000000000000000000000000000000000007
def pm:Int:=739108512309184756019283746561
theorem zxs:zjg (.int 10) (.int 18)=.ok (.int p18):=rfl
theorem zyP:zjg (.int 10) (.int 60)=.ok (.int p60):=rfl
theorem zyr:p18 + 9=zuc:=rfl
theorem zy8:p60 + 7=zub:=rfl
theorem zma:0 < zuc:=by decide
theorem zhO:0 < zub:=by decide
theorem b18:Bd zuc 60:=⟨by decide⟩
theorem b60:Bd zub 200:=⟨by decide⟩
theorem bm:Bd pm 100:=⟨by decide⟩
theorem zaL {i:Int} (h:i.natAbs < 65536):Bd i 16:=⟨h⟩
def mx1 (c k:Int):Int:=(c.fmod zuc + 7 * k) * pm + 7919 * k + 1
def mx2 (c k:Int):Int:=(mx1 c k * mx1 c k).fmod zub
def zs2 (c k:Int):Int:=((mx2 c k + 40503) * (mx2 c k + 57)).fmod zub
theorem zpI (c k:Int):0<=zs2 c k:=Int.fmod_nonneg_of_pos _ zhO
theorem zuk (c k:Int):Bd (zs2 c k) 200:=b60.mod zhO
theorem znd (c k:Int) {n:Nat} (hk:Bd k n) (hn:n<=1000):zkA [.int c,.int k]=.ok (.int (zs2 c k)):=by
 have a1:=zhT (i:=c) zma
 have a2:Bd (c.fmod zuc) 60:=b18.mod zma
 have a3:=za6 (i:=7) (zaL (by decide)) hk (by omega)
 have a4:=(zaL (i:=7) (by decide)).mul hk
 have a5:=a2.add a4
 have a6:=za6 a5 bm (by omega)
 have a7:=za6 (i:=7919) (zaL (by decide)) hk (by omega)
 have a8:=((a5.mul bm).add ((zaL (i:=7919) (by decide)).mul hk)).add (zaL (i:=1) (by decide))
 have a9:=za6 a8 a8 (by omega)
 have b1:=zhT (i:=mx1 c k * mx1 c k) zhO
 have b2:Bd (mx2 c k) 200:=b60.mod zhO
 have b3:=za6 (b2.add (zaL (i:=40503) (by decide))) (b2.add (zaL (i:=57) (by decide))) (by decide)
 have b4:=zhT (i:=(mx2 c k + 40503) * (mx2 c k + 57)) zhO
 have hm:(PyData.int 739108512309184756019283746561)=.int pm:=rfl
 have f1:(c.fmod zuc + 7 * k) * pm + 7919 * k + 1=mx1 c k:=rfl
 have f2:(mx1 c k * mx1 c k).fmod zub=mx2 c k:=rfl
 have f3:((mx2 c k + 40503) * (mx2 c k + 57)).fmod zub=zs2 c k:=rfl
 rw [f1] at a9
 simp only [zkA,zaU,FL.run,List.length_cons,List.length_nil,Nat.reduceAdd,List.replicate,zik,zaq,zaC,FL.e2,eV,slots,Bool.false_eq_true,if_false,Nat.reduceSub,List.cons_append,List.nil_append,zz0,eC,zad,zxs,zaY,zyr,a1,zz1,a3,hm,a6,a7,f1,gN,List.set_cons_succ,List.set_cons_zero,zyP,zy8,zaw,a9,b1,f2,b3,b4,f3,outs,outD,if_true]
def zcQ (k:Nat) (d:D):Prop:=∃ n c s,d=.list [.int n,.int c,.int s]/\0<=n/\0<=c/\c<=k
theorem zcQ.mono {k l:Nat} {d:D} (h:zcQ k d) (hl:k<=l):zcQ l d:=by
 obtain ⟨n,c,s,e,h1,h2,h3⟩:=h
 exact ⟨n,c,s,e,h1,h2,by omega⟩
theorem zrx (c k:Int) (hk:k.natAbs < 65536):∃ d,zkz [.int c,.int k]=.ok d/\zcQ 0 d:=by
 have a1:=zhT (i:=c) zma
 have hx1:=znd c k (zaL hk) (by decide)
 by_cases h:p18<=c
 ·refine ⟨_,?_,c - p18,0,k,rfl,by omega,by decide,by decide⟩
  have hg:geD (.int c) (.int p18)=.ok (.bool true):=by show R.ok (PyData.bool (decide (p18<=c)))=_;rw [decide_eq_true h]
  simp only [zkz,zaU,FL.run,List.length_cons,List.length_nil,Nat.reduceAdd,List.replicate,zfp,zaq,sIf,tB,FL.e2,eV,slots,Bool.false_eq_true,if_false,Nat.sub_self,List.cons_append,List.nil_append,zz0,eC,zad,zxs,hg,zbq,zbF,zab,ze4,zah,sNx,zz1,if_true,zae,zaY,outs,outD]
  rfl
 ·refine ⟨_,?_,zs2 c k,0,c.fmod zuc + k,rfl,zpI c k,by decide,by decide⟩
  have hg:geD (.int c) (.int p18)=.ok (.bool false):=by show R.ok (PyData.bool (decide (p18<=c)))=_;rw [decide_eq_false h]
  simp only [zkz,zaU,FL.run,List.length_cons,List.length_nil,Nat.reduceAdd,List.replicate,zfp,zaq,sIf,tB,FL.e2,eV,slots,Bool.false_eq_true,if_false,Nat.sub_self,List.cons_append,List.nil_append,zz0,eC,zad,zxs,hg,zbq,zbF,zab,ze4,zah,sNx,zz1,zae,zaY,zyr,hx1,a1,outs,outD,if_true]
  rfl
theorem zcE {k:Nat} {d:D} (h:zcQ k d) (hk:k<=60000) (m:Int) (hm1:1<=m) (hm2:m.natAbs < 65536):∃ g d',zb4 [d,.int m]=.ok (.int g,[d',.int m])/\0<=g/\g < m/\zcQ (k + 1) d':=by
 obtain ⟨n,c,s,rfl,h1,h2,h3⟩:=h
 have i0:∀ x y z:D,atI [x,y,z] 0=some x:=fun _ _ _=>rfl
 have i1:∀ x y z:D,atI [x,y,z] 1=some y:=fun _ _ _=>rfl
 have i2:∀ x y z:D,atI [x,y,z] 2=some z:=fun _ _ _=>rfl
 have j0:ixN 3 0=some 0:=rfl
 have j1:ixN 3 1=some 1:=rfl
 have hlt:ltD (.int n) (.int m)=.ok (.bool (decide (n < m))):=rfl
 have hd:∀ i:Int,zbM (.int i) (.int m)=.ok (.int (i.fdiv m)):=fun i=>zsh (by omega) (zaL hm2) (by decide)
 have hm:∀ i:Int,zj1 (.int i) (.int m)=.ok (.int (i.fmod m)):=fun i=>zhT (by omega)
 have gd:∀ i:Int,0<=i->0<=i.fdiv m:=fun i hi=>Int.fdiv_nonneg hi (by omega)
 by_cases hn:n < m
 ·rw [decide_eq_true hn] at hlt
  have hc:(c + 1).natAbs < 65536:=by omega
  have x1:=za6 (i:=11) (zaL (by decide)) (zaL hc) (by decide)
  have xb:=((zaL (i:=11) (by decide)).mul (zaL hc)).add (zaL (i:=5) (by decide))
  have x2:=znd s (11 * (c + 1) + 5) xb (by decide)
  have x3:=za6 (zaL hm2) (zuk s (11 * (c + 1) + 5)) (by decide)
  have nn:0<=n + m * zs2 s (11 * (c + 1) + 5):=Int.add_nonneg h1 (Int.mul_nonneg (by omega) (zpI _ _))
  refine ⟨(n + m * zs2 s (11 * (c + 1) + 5)).fmod m,.list [.int ((n + m * zs2 s (11 * (c + 1) + 5)).fdiv m),.int (c + 1),.int s],?_,Int.fmod_nonneg_of_pos _ (by omega),Int.fmod_lt_of_pos _ (by omega),_,_,_,rfl,gd _ nn,by omega,by omega⟩
  simp only [zb4,FL.run,List.length_cons,List.length_nil,Nat.reduceAdd,zgy,zaq,sIf,tB,FL.e2,m2,zaE,slots,if_true,Bool.false_eq_true,if_false,Nat.reduceSub,List.replicate,List.cons_append,List.nil_append,zz0,eC,ixD,R.of,zad,i0,eV,zz1,hlt,setM,zaY,zdj,zbo,zae,zab,zah,sNx,i1,List.set_cons_zero,j1,List.set_cons_succ,i2,x1,x2,x3,j0,zaC,gN,zaw,hm,hd,outs,outD,List.head?_cons]
 ·rw [decide_eq_false hn] at hlt
  refine ⟨n.fmod m,.list [.int (n.fdiv m),.int c,.int s],?_,Int.fmod_nonneg_of_pos _ (by omega),Int.fmod_lt_of_pos _ (by omega),_,_,_,rfl,gd _ h1,by omega,by omega⟩
  simp only [zb4,FL.run,List.length_cons,List.length_nil,Nat.reduceAdd,zgy,zaq,sIf,tB,FL.e2,m2,zaE,slots,if_true,Bool.false_eq_true,if_false,Nat.reduceSub,List.replicate,List.cons_append,List.nil_append,zz0,eC,ixD,R.of,zad,i0,eV,zz1,hlt,setM,zaY,zdj,zbo,zae,zab,zah,sNx,i1,List.set_cons_zero,j1,List.set_cons_succ,i2,zaC,gN,zaw,hm,hd,j0,outs,outD,List.head?_cons]
theorem zx5 (ns:List Int) (k:Int) (h0:0<=k) (hk:k.natAbs < 65536):∃ a,zxc [.list (ns.map PyData.int),.int k]=.ok (.int a):=by
 have a3:=za6 (i:=3) (zaL (by decide)) (zaL hk) (by decide)
 have hl:ltD (.int k) (.int (ns.length:Int))=.ok (.bool (decide (k < ns.length))):=rfl
 by_cases h:k < ns.length
 ·rw [decide_eq_true h] at hl
  have:∃ a,atI (ns.map PyData.int) k=some (.int a):=by
   unfold atI ixN
   rw [List.length_map,if_pos h0,if_pos h]
   exact ⟨ns[k.toNat]'(by omega),by simp [show k.toNat < ns.length by omega]⟩
  obtain ⟨a,ea⟩:=this
  refine ⟨a,?_⟩
  simp only [zxc,zaU,FL.run,List.length_cons,List.length_nil,Nat.reduceAdd,List.replicate,zkp,zaq,sIf,tB,FL.e2,eV,slots,Bool.false_eq_true,if_false,Nat.sub_self,List.cons_append,List.nil_append,zz1,zz0,FL.e1,zbD,zad,List.length_map,hl,zaw,ixD,R.of,sNx,ea,if_true,eC,zaY,outs,outD]
 ·rw [decide_eq_false h] at hl
  refine ⟨3 * k + 1,?_⟩
  simp only [zxc,zaU,FL.run,List.length_cons,List.length_nil,Nat.reduceAdd,List.replicate,zkp,zaq,sIf,tB,FL.e2,eV,slots,Bool.false_eq_true,if_false,Nat.sub_self,List.cons_append,List.nil_append,zz1,zz0,FL.e1,zbD,zad,List.length_map,hl,zaw,ixD,sNx,eC,zaY,a3,outs,outD,if_true]
theorem zlp {k:Nat} {ix:List Nat} {g:GF} {t:TF} {f:EF} (P:Nat->List D->En->Prop):∀ (items:List D) (i:Nat) (acc:List D) (ρ:En),acc.length + items.length<=lim->acc.length=i->P i acc ρ ->
  (∀ x ∈ items,∀ j acc ρ,j < i + items.length->P j acc ρ->∃ β y β',g x (blk k ix ρ)=.ok β/\t β=.ok (true,β)/\f β=.ok (y,β')/\P (j + 1) (acc ++ [y]) (back ρ ix (β'.drop k))) ->
  ∃ acc' ρ',ziZ k ix g t f items ρ acc=.ok (acc',ρ')/\acc'.length=i + items.length/\P (i + items.length) acc' ρ'
 | [],i,acc,ρ,_,e,h,_=>⟨acc,ρ,rfl,e,h⟩
 | x :: xs,i,acc,ρ,hl,e,h,hx=>by
  obtain ⟨β,y,β',h1,h2,h3,h4⟩:=hx x (List.mem_cons_self ..) i acc ρ (by simp) h
  have hl':acc.length + (xs.length + 1)<=lim:=hl
  obtain ⟨acc',ρ',e1',e2',e3'⟩:=zlp P xs (i + 1) (acc ++ [y]) _ (by simp;omega) (by simp;omega) h4 fun x m j acc ρ hj=>hx x (List.mem_cons_of_mem _ m) j acc ρ (by rw [List.length_cons];omega)
  refine ⟨acc',ρ',?_,by simp;omega,by rw [List.length_cons,show i + (xs.length + 1)=i + 1 + xs.length by omega];exact e3'⟩
  unfold ziZ
  rw [h1,zad,h2,zad,if_pos rfl,h3,zad,zay (zdk (by omega)),e1']
end FL
namespace FL
open PySem
theorem zmD {i:Nat} {x:Sl}:∀ (ρ:En) (n:Nat),i < n->bkL [(i,x)] n ρ=ρ
 | [],_,_=>rfl
 | y :: r,n,h=>by
  unfold bkL
  rw [zqM (by rw [List.lookup_cons,show (n == i)=false from beq_eq_false_iff_ne.mpr (by omega)];rfl),zmD r (n + 1) (by omega)]
theorem zqL {d d':D} {p:Bool}:∀ (ρ:En) (n i:Nat),ρ[i]?=some (.ow p d)->bkL [(n + i,.ow true d')] n ρ=ρ.set i (.ow p d')
 | [],_,_,h=>by simp at h
 | y :: r,n,0,h=>by
  have hy:y=.ow p d:=by simpa using h
  subst hy
  unfold bkL
  rw [Nat.add_zero,zmD r (n + 1) (Nat.lt_succ_self n)]
  have:bk1 [(n,Sl.ow true d')] n (.ow p d)=.ow p d':=by
   unfold bk1
   rw [List.lookup_cons,beq_self_eq_true]
  rw [this]
  rfl
 | y :: r,n,i + 1,h=>by
  unfold bkL
  rw [zqM (by rw [List.lookup_cons,show (n == n + (i + 1))=false from beq_eq_false_iff_ne.mpr (by omega)];rfl),show n + (i + 1)=n + 1 + i by omega,zqL r (n + 1) i (by simpa using h)]
  rfl
theorem zdA {F:List D->R (D × List D)} {i:Nat} {f:EF} {ρ:En} {p:Bool} {d v r d' v':D} (hi:ρ[i]?=some (.ow p d)) (hf:f ρ=.ok (v,ρ)) (hF:F [d,v]=.ok (r,[d',v'])):zal F [.m i,.v f] ρ=.ok (r,ρ.set i (.ow p d')):=by
 have hm:zaE ρ i=.ok d:=by unfold zaE;rw [hi]
 unfold zal
 simp only [zkq,hm,zad,hf,ziK,hF]
 have:=zqL (d:=d) (d':=d') (p:=p) ρ 0 i hi
 rw [Nat.zero_add] at this
 show R.ok (r,bkL [(i,.ow true d')] 0 ρ)=_
 rw [this]
theorem set_same {ρ:En} {i:Nat} {x:Sl} (h:ρ[i]?=some x):ρ.set i x=ρ:=by
 apply List.ext_getElem?
 intro j
 by_cases e:i=j
 ·subst e
  rw [List.getElem?_set_self (List.getElem?_eq_some_iff.mp h).1,h]
 ·rw [List.getElem?_set_ne e]
end FL
namespace L2
open PySem PySem.Spec PyProof.Rows
section
variable {X:Cx} {pins:List (Addr × Obj)} {σ:St} {H:Hp} {s:Shared} {a:Addr} {y v:V} {u r:Value} {A:Around} {E:Value->Shared->Prop}
theorem zqB {H':Hp} {Q:Unit->Shared->Prop} (hu:A.units + 1 < cLine) (I:Inv X pins σ H s) (g:zq2 H a y v H') (ry:RelV y u) (rv:RelV v r) (h:∀ s',Inv X pins σ H' s'->Q () s') :
  wpAny (model X.prog X.w) A (dictSet a u r) Q E s:=by
 rcases g with ⟨kvs,k,e,ey,l,eH⟩ | ⟨kvs,k,b,e,ey,eb,l,eH⟩
 ·subst ey eH
  exact zx1 I e l ry rv h
 ·subst ey eH
  cases (show u=Value.ref b from ry)
  obtain ⟨z,hd,xs,rel,dd⟩:=zwO I.hok e
  have hz:xs.length<=sizeLine:=by rw [<- Paired.length rel];exact z
  have hl:(putK kvs k v).length<=sizeLine:=by have:=zdr kvs k v;omega
  refine wpAny_dictSet_heap (hsz:=hz) (show A.units < cLine from Nat.lt_of_succ_lt hu) (zjl I.hok eb) dd fun h' dd' hs=>h _ ?_
  obtain ⟨q,es,ep,hq,h2,h3,h4,_,h5⟩:=dd'
  refine zgx I (by rw [e];exact True.intro) hs ⟨q,hq⟩ ⟨hl,hd,_,(rel.put k eb rv).keeps fun c ys ec=>?_,q,es,ep,hq,h2,h3,h4,h5⟩
  exact ec.upd (fun _ z=>zkZ z e (fun z=>nomatch z)) fun _ _ z=>zkZ z e (fun z=>nomatch z)
theorem zuO {H':Hp} {Q:Unit->Shared->Prop} (hu:A.units + 1 < cLine) (I:Inv X pins σ H s) (g:DP H a y v H') (ry:RelV y u) (rv:RelV v r) (h:∀ s',Inv X pins σ H' s'->Q () s') :
  wpAny (model X.prog X.w) A (dictSet a u r) Q E s:=by
 rcases g with g | ⟨k,b,e,rfl,eb,rfl⟩ | ⟨k,e,rfl,rfl⟩
 ·exact zqB hu I g ry rv h
 ·have eb':TAt (upd H a (.dT [])) b (k.map kV):=eb.upd (fun _ z=>zkZ z e (fun z=>nomatch z)) fun _ _ z=>zkZ z e (fun z=>nomatch z)
  have g:=zq2.t (H:=upd H a (.dT [])) (a:=a) (v:=v) zan eb' (by decide)
  rw [zhy] at g
  exact zqB hu (I.kt e) g ry rv h
 ·have g:=zq2.k (H:=upd H a (.dK [])) (a:=a) (k:=k) (v:=v) zan (by decide)
  rw [zhy] at g
  exact zqB hu (I.tk e) g ry rv h
end
def zl0 (k:Nat) (ix:List Nat) (wi:TI) (g:TG) (tc:TT) (tk tv:TE):TE:=fun σ H Q=>wi σ H fun J H1=>∀ l,H1 l=none ->
 ∃ W:Nat->Nat->Hp->Prop,(∃ m,W 0 m (upd H1 l (.dK [])))/\∀ i m H2,W i m H2 ->
  ((J.stop i H2/\Q (.ref l) H2)\/(J.go i H2/\∀ x H3,J.yld i H2 x H3->g x (zeW k ix σ) H3 fun σ2 H4=>tc σ2 H4 fun b H5 =>
   if b=true then tk σ2 H5 fun y H6=>tv σ2 H6 fun v H7=>∃ H8,DP H7 l y v H8/\∃ m',m' < m/\W (i + 1) m' H8 else ∃ m',m' < m/\W (i + 1) m' H5))
section
variable {X:Cx}
theorem zpt {kx vx tg iter:Expr} {ifs:List Expr} {scope:Scope} {pos:Pos} {L:List Str} {ix:List Nat} {wi:TI} {g:TG} {tc:TT} {tk tv:TE} (hu:X.A.units + 1 < cLine) (hc:X.calm=true) (S:zeS X scope (zeX X ix)) (hix:∀ i ∈ ix,i < X.N.length) (hi:PI X tg iter wi)
  (hg:∀ C s₃ H₃ fp,PG (zap X (L ++ zeX X ix) scope C s₃ H₃ fp) tg g) (hgo:zmR L.length g)
  (ht:∀ C s₃ H₃ fp,PTs (zap X (L ++ zeX X ix) scope C s₃ H₃ fp) ifs tc) (hk:∀ C s₃ H₃ fp,PE (zap X (L ++ zeX X ix) scope C s₃ H₃ fp) kx tk) (he:∀ C s₃ H₃ fp,PE (zap X (L ++ zeX X ix) scope C s₃ H₃ fp) vx tv)
  (hs:∀ x,foldedSetIterable iter X.env x=pure x:=by intro _;rfl) :
  PE X (.DictComp kx vx [⟨tg,iter,ifs,0⟩] scope pos) (zl0 L.length ix wi g tc tk tv):=by
 intro pins s σ H Q I h
 rw [arm_eval_DictComp]
 refine wpAny_comprehension_free (use:=none) rfl hs (zdz fun y hy e=>I.ok.has y.1 (.inl (S.cell y hy e))) S.kind S.loc (thn (hi pins s σ H _ I h) fun xv s1 h1=>thn h1 fun itv s2 h2=>?_)
 obtain ⟨it,fp,tn,J,H2,rfl,I2,T,st2,f2,q⟩:=h2
 have nD:H2 s2.heap.objs.size=none:=I2.hok.fresh (Nat.le_refl _)
 obtain ⟨W,⟨m0,w0⟩,turn⟩:=q _ nD
 generalize hD:s2.heap.objs.size=D at nD w0 turn
 have fD:∀ b ∈ fp,b < D:=fun b hb=>by
  obtain ⟨o,e,_⟩:=T.obj _ _ st2 b hb
  rw [<- hD]
  exact Heap.lt_size e
 have I3:Inv X pins σ (upd H2 D (.dK [])) { s2 with heap:=s2.heap.push { cls:=.type "dict",data:=.dict #[] },toks:=s2.toks }:=by
  rw [<- hD]
  exact I2.laid (t':=s2.toks) (fun b u e=>Heap.get?_push_of_some _ e) (Nat.le_refl _) (zso s2.heap I2.big)
 refine wpAny_newObj_type (zmg (fun h₁ hns₁ hsb₁ hcs₁=>?_)) (by show 0<=sizeLine + 1;exact Nat.zero_le _)
 rw [hD]
 have st3:tn 0 (s2.heap.push { cls:=.type "dict",data:=.dict #[] }):=T.keep _ _ _ st2 fun b hb o e=>Heap.get?_push_of_some _ e
 generalize hp3:s2.heap.push { cls:=.type "dict",data:=.dict #[] }=h3 at I3 st3 hns₁ hsb₁ hcs₁
 dsimp only at hns₁ hsb₁ hcs₁ ⊢
 have sz3:h3.objs.size=D + 1:=by rw [<- hp3,Heap.size_push,hD]
 have old:∀ b u,h3.get? b=some u->h₁.get? b=some u:=fun b u e=>hsb₁ b u e
 have f3:∀ b ∈ fp,zmS X pins (upd H2 D (.dK [])) b:=fun b hb=>⟨by rw [zax (Nat.ne_of_lt (fD b hb))];exact (f2 b hb).1,(f2 b hb).2⟩
 have I4:=zh1 (L:=L) (ix:=ix) (t':=s2.toks) S I3 f3 (fun b hb=>by show b < h3.objs.size;rw [sz3];exact Nat.lt_succ_of_lt (fD b hb)) hix (h':=h₁) hns₁ old hcs₁
 have st4:tn 0 h₁:=T.keep _ _ _ st3 fun b hb o e=>old b o e
 generalize hC:(zap X (L ++ zeX X ix) scope h3.objs.size { s2 with heap:=h3,toks:=s2.toks } (upd H2 D (.dK [])) fp)=Y at I4
 have eEnv:Y.env=compEnvC scope (zkU h3.objs.size scope ++ zig X.env.cells scope.names []) h3.objs.size X.env:=by rw [<- hC];rfl
 have hcY:Y.calm=true:=by rw [<- hC];exact hc
 have xeY:Y.xe=fun _ _=>False:=by rw [<- hC];rfl
 have eP:Y.prog=X.prog:=by rw [<- hC];rfl
 have eW:Y.w=X.w:=by rw [<- hC];rfl
 have eK:Y.K=X.K:=by rw [<- hC];rfl
 have eA:Y.A=X.A:=by rw [<- hC];rfl
 have gY:PG Y tg g:=by rw [<- hC];exact hg _ _ _ _
 have tY:PTs Y ifs tc:=by rw [<- hC];exact ht _ _ _ _
 have kY:PE Y kx tk:=by rw [<- hC];exact hk _ _ _ _
 have pY:PE Y vx tv:=by rw [<- hC];exact he _ _ _ _
 have stat:∀ {H':Hp},(∀ b ∈ fp,H' b=none)->∀ b ∈ fp,zmS Y [] H' b:=fun {H'} hn b hb=>by
  have z1:b ∈ Y.ex:=by rw [<- hC];exact hb
  have zp:Y.pn=[]:=by rw [<- hC];rfl
  refine ⟨hn b hb,(I4.ok.exf b z1).1,I4.ok.exfs b z1,.inl z1,(I4.ok.exf b z1).2,fun p hp=>?_⟩
  rw [zp] at hp
  exact absurd hp (by simp)
 have fin:∀ {H':Hp} {s':Shared},Inv Y [] (zeW L.length ix σ) H' s'->Q (.ref D) H'->compPost (model X.prog X.w) X.A X.xe none (EP X pins σ Q) (.ref D) h3.objs.size (.ok .next) s':=by
  intro H' s' J' qe
  obtain ⟨m,hm,_⟩:=J'.loc
  rw [eEnv] at hm
  refine ⟨m,hm,fun h' sb=>⟨.ref D,H',?_,rfl,qe⟩⟩
  have hfr:H' h3.objs.size=none:=by
   have:=J'.free
   rw [eEnv] at this
   exact this
  have neC:∀ b u,H' b=some u->b ≠ h3.objs.size:=fun b u e z=>by rw [z,hfr] at e;cases e
  have base:Un (frs X.stack) fp (upd H2 D (.dK [])) H' h3 s'.heap:=by
   have:=J'.base
   rw [<- hC] at this
   exact this
  have to':∀ b o,b ≠ h3.objs.size->s'.heap.get? b=some o->h'.get? b=some o:=fun b o hb e=>sb.extBut b o hb e
  have lt3:∀ b o,h3.get? b=some o->b ≠ h3.objs.size:=fun b o e=>Nat.ne_of_lt (Heap.lt_size e)
  have un:Un (frs X.stack) fp (upd H2 D (.dK [])) H' h3 h' :=
   ⟨fun b o e n hb hx=>to' b o (lt3 b o e) (base.keep b o e n hb hx),
    fun b o e n hb hx=>by
    obtain ⟨sl,z⟩:=base.slot b o e n hb hx
    exact ⟨sl,to' _ _ (lt3 b o e) z⟩,
    base.free,
    fun b o e hx=>by
    obtain ⟨o',z⟩:=base.there b o e hx
    exact ⟨o',to' _ _ (lt3 b o e) z⟩,
    base.tups,base.frzs,base.tbls⟩
  have hok:HOk X.prog X.w H' h':=fun b u e=>by
   have z:=J'.hok b u e
   rw [eP,eW] at z
   refine z.stay (fun c v hcv qv=>to' c v ?_ qv) (fun _ qq=>qq) fun _ _ qq=>qq
   rcases hcv with zz | zz
   ·rw [zz];exact neC b u e
   ·exact neC c _ zz
  refine I3.call' (s':={ s' with heap:=h' }) (ch:=fp) ?_ un hok J'.bare fun b hb=>?_
  ·have:=J'.os
   rw [<- hC] at this
   exact this
  ·obtain ⟨_,g1,g2,g3,g4,g5⟩:=f2 b hb
   exact ⟨g3,g1,g4,g5⟩
 have key:∀ s5:Shared,s5={ s2 with heap:=h₁,toks:=s2.toks } ->
   codeAny (model X.prog X.w) X.A (.compLoop (.DictComp kx vx [⟨tg,iter,ifs,0⟩] scope pos) 0 (.ref it) (.ref D) (compEnvC scope (zkU h3.objs.size scope ++ zig X.env.cells scope.names []) h3.objs.size X.env))
    (compPost (model X.prog X.w) X.A X.xe none (EP X pins σ Q) (.ref D) h3.objs.size) s5:=by
  rintro s5 rfl
  rw [<- eEnv,<- eP,<- eW,<- eA]
  refine zln (fun n s'=>∃ i H',Inv Y [] (zeW L.length ix σ) H' s'/\tn i s'.heap/\(∀ b ∈ fp,H' b=none)/\W i n H') ?_ m0 ⟨0,_,?_,st4,fun b hb=>(f3 b hb).1,w0⟩
  ·rintro n s6 ⟨i,H6,I6,st6,fr6,w6⟩
   rcases turn i n H6 w6 with ⟨stop,qe⟩ | ⟨go,step⟩
   ·have Td:=T.done Y eP eW eK hcY i [] s6 _ H6 (fun _ _=>False) I6 (stat fr6) st6 stop
    rw [<- eP,<- eW] at Td
    refine wpAny_mono Td (fun r s7 hr7=>?_) fun _ _ f=>f.elim
    obtain ⟨hr,I7⟩:=hr7
    subst hr
    rw [eP,eW,eA]
    exact fin I7 qe
   ·have Ti:=T.item Y eP eW eK hcY i [] s6 _ H6 (fun _ _=>False) I6 (stat fr6) st6 go
    rw [<- eP,<- eW] at Ti
    refine wpAny_mono Ti (fun r s7 hr7=>?_) fun _ _ f=>f.elim
    obtain ⟨u,hr,h7⟩:=hr7
    subst hr
    refine wpAny_mono h7 (fun _ s8 hr8=>?_) fun _ _ f=>f.elim
    obtain ⟨x,H8,I8,r8,y8,st8,fr8⟩:=hr8
    have I8':=I8.pinned (stat fr8) (T.obj _ _ st8)
    have stp:=hgo _ _ _ _ (step x H8 y8)
    refine wpAny_mono (gY _ s8 _ H8 x u _ I8' r8 stp) (fun _ s9 ⟨σ9,H9,I9,⟨k1,k2⟩,q9⟩=>?_) fun _ _ f=>by rw [xeY] at f;exact f.elim
    have weak:∀ {Hz:Hp} {sz:Shared},Inv Y ([] ++ zhN fp s8.heap) σ9 Hz sz->Inv Y [] (zeW L.length ix σ) Hz sz/\tn (i + 1) sz.heap/\∀ b ∈ fp,Hz b=none:=fun {Hz sz} Iz=>by
     refine ⟨Iz.zeB.weak k1.symm fun j v e=>?_,T.keep _ _ _ st8 fun b hb o e=>(Iz.pin (b,o) (List.mem_append_right _ (List.mem_append_right _ (zbH hb e)))).1,fun b hb=>?_⟩
     ·by_cases hj:L.length<=j
      ·rw [k2 j hj];exact e
      ·unfold zeW at e
       rw [List.getElem?_append_left (by simpa using Nat.lt_of_not_le hj),List.getElem?_replicate,if_pos (Nat.lt_of_not_le hj)] at e
       cases e
     ·obtain ⟨o,e,d⟩:=T.obj _ _ st8 b hb
      exact (Iz.pin (b,o) (List.mem_append_right _ (List.mem_append_right _ (zbH hb e)))).2.1
    refine wpAny_mono (tY _ s9 σ9 H9 _ I9 q9) (fun ok s10 ⟨H10,I10,q10⟩=>?_) fun _ _ f=>by rw [xeY] at f;exact f.elim
    cases ok with
    | false =>
     have q10':∃ m',m' < n/\W (i + 1) m' H10:=q10
     obtain ⟨m',hm',w10⟩:=q10'
     obtain ⟨z1,z2,z3⟩:=weak I10
     exact ⟨m',hm',i + 1,H10,z1,z2,z3,w10⟩
    | true =>
     refine wpAny_mono (kY _ s10 σ9 H10 _ I10 q10) (fun yv s11 ⟨y,H11,I11,r11,q11⟩=>?_) fun _ _ f=>by rw [xeY] at f;exact f.elim
     refine wpAny_mono (pY _ s11 σ9 H11 _ I11 q11) (fun xv s12 ⟨v,H12,I12,r12,H8',g12,m',hm',w12⟩=>?_) fun _ _ f=>by rw [xeY] at f;exact f.elim
     refine zuO (by rw [eA];exact hu) I12 g12 r11 r12 fun s13 I13=>?_
     obtain ⟨z1,z2,z3⟩:=weak I13
     exact ⟨m',hm',i + 1,_,z1,z2,z3,w12⟩
  ·exact I4
 exact codeAny_compStart_dict (key _ rfl) (T.self _ 0 _ _ _ st4 (key _ rfl))
theorem zn4 {kx vx tg iter:Expr} {ifs:List Expr} {scope:Scope} {pos:Pos} {wi:TI} {g:TG} {tc:TT} {tk tv:TE} (L:List Str) (ix:List Nat) (M:List Str) (hu:X.A.units + 1 < cLine) (hc:X.calm=true) (hk:scope.kind=.function)
  (hd:zct X.env.scope scope X.N ix=true) (hM:M=L ++ ix.map fun i=>X.N.getD i "") (hi:PI X tg iter wi)
  (hg:∀ C s₃ H₃ fp,PG (zap X M scope C s₃ H₃ fp) tg g) (hgo:zmR L.length g)
  (ht:∀ C s₃ H₃ fp,PTs (zap X M scope C s₃ H₃ fp) ifs tc) (hke:∀ C s₃ H₃ fp,PE (zap X M scope C s₃ H₃ fp) kx tk) (he:∀ C s₃ H₃ fp,PE (zap X M scope C s₃ H₃ fp) vx tv)
  (hs:∀ x,foldedSetIterable iter X.env x=pure x:=by intro _;rfl) :
  PE X (.DictComp kx vx [⟨tg,iter,ifs,0⟩] scope pos) (zl0 L.length ix wi g tc tk tv):=by
 unfold zct at hd
 simp only [Bool.and_eq_true,List.all_eq_true,bne_iff_ne,ne_eq,Bool.or_eq_true,beq_iff_eq,decide_eq_true_eq,Bool.not_eq_true',List.contains_eq_mem,decide_eq_false_iff_not] at hd
 obtain ⟨⟨d1,d2⟩,d3⟩:=hd
 have eM:M=L ++ zeX X ix:=by rw [hM];unfold zeX;rfl
 subst eM
 refine zpt (L:=L) (ix:=ix) hu hc ⟨hk,fun y hy e=>?_,fun y hy e=>?_,fun x hx=>?_,fun y hy e=>?_⟩ d3 hi hg hgo ht hke he hs
 ·rcases (d1 y hy).1.1 with z | z
  ·exact absurd e z
  ·exact z
 ·rcases (d1 y hy).1.2 with z | z
  ·exact absurd e z
  ·exact z
 ·unfold zeX at hx
  exact d2 x hx
 ·rcases (d1 y hy).2 with z | z
  ·exact absurd e z
  ·exact z
end
end L2
namespace L2
open PySem PySem.Spec PyProof.Rows
end L2
namespace FL
open PySem
def enD:List D->R (List D)
 | [.list l]=>.ok (zeV 0 l)
 | _=>.bad
def zpD:List D->R (List D)
 | [.list l,.list m]=>.ok (zkD l m)
 | _=>.bad
def zr7 (a:AF):IF:=fun ρ=>(a ρ).bind fun x=>(enD x.1).bind fun l=>.ok (l,x.2)
def ztf (a:AF):IF:=fun ρ=>(a ρ).bind fun x=>(zpD x.1).bind fun l=>.ok (l,x.2)
def zgP (k:Nat) (ix:List Nat) (g:GF) (t:TF) (kf vf:EF):List D->En->D->R (D × En)
 | [],ρ,acc=>.ok (acc,ρ)
 | x :: xs,ρ,acc=>(g x (blk k ix ρ)).bind fun β=>(t β).bind fun c =>
   if c.1=true then (kf c.2).bind fun y=>(vf y.2).bind fun z=>(zow acc y.1 z.1).bind fun d=>zgP k ix g t kf vf xs (back ρ ix (z.2.drop k)) d
   else zgP k ix g t kf vf xs (back ρ ix (c.2.drop k)) acc
def zjp (k:Nat) (ix:List Nat) (it:IF) (g:GF) (t:TF) (kf vf:EF):EF:=fun ρ=>(it ρ).bind fun x=>(zgP k ix g t kf vf x.1 x.2 (.dict [])).bind fun y=>.ok (y.1,y.2)
end FL
namespace FL
open PySem L2 PySem.Spec
open PyProof.Rows hiding St
theorem zqx:∀ (i:Nat) (l:List D),(zeV i l).length=l.length
 | _,[]=>rfl
 | i,d :: r=>by rw [zeV,List.length_cons,List.length_cons,zqx]
theorem zqy:∀ {i:Nat} {l:List D} {j:Nat} {x:D},(zeV i l)[j]?=some x->∃ d,l[j]?=some d/\x=.tuple [.int ((i + j:Nat):Int),d]
 | _,[],_,_,h=>by simp [zeV] at h
 | i,d :: r,0,x,h=>by
  simp only [zeV,zz0,Option.some.injEq] at h
  exact ⟨d,rfl,h.symm⟩
 | i,d :: r,j + 1,x,h=>by
  simp only [zeV,zz1] at h
  obtain ⟨d',h1,h2⟩:=zqy h
  refine ⟨d',by simpa using h1,?_⟩
  rw [h2,Nat.add_assoc,Nat.add_comm 1 j]
theorem zoJ:∀ {l m:List D} {j:Nat} {x:D},(zkD l m)[j]?=some x->∃ a b,l[j]?=some a/\m[j]?=some b/\x=.tuple [a,b]
 | [],_,_,_,h=>by simp [zkD] at h
 | _ :: _,[],_,_,h=>by simp [zkD] at h
 | a :: r,b :: s,0,x,h=>by
  simp only [zkD,zz0,Option.some.injEq] at h
  exact ⟨a,b,rfl,rfl,h.symm⟩
 | a :: r,b :: s,j + 1,x,h=>by
  simp only [zkD,zz1] at h
  obtain ⟨a',b',h1,h2,h3⟩:=zoJ h
  exact ⟨a',b',by simpa using h1,by simpa using h2,h3⟩
theorem zoI:∀ (l m:List D),(zkD l m).length=min l.length m.length
 | [],_=>by simp [zkD]
 | _ :: _,[]=>by simp [zkD]
 | a :: r,b :: s=>by simp only [zkD,List.length_cons,zoI r s];omega
section
variable [Cs] {K:PySem.W.Frag} {X:Cx} {e e':Expr} {fa:AF} {pos:Pos} {es:List Expr} {k:Nat} {p0 p:Pos}
theorem zqi {H:Hp} {t:Addr} {a b:D} {u v:V} (h0:H t=none) (fa:Fz K H a u) (fb:Fz K H b v):Fz K (upd H t (.tup [u,v])) (.tuple [a,b]) (.ref t):=by
 have m:Fzn H (upd H t (.tup [u,v])):=Fzn.of (zbs.upd h0)
 simp only [Fz,zaj]
 exact ⟨t,[u,v],rfl,.inl zan,u,[v],rfl,fa.mono m,v,[],rfl,fb.mono m,rfl⟩
theorem zoP {H:Hp} {a:Addr} {vs:List V} {items:List D} (h:FzL K H a vs) (f:zaj K H items vs):Walk K (Ite K a) (zeV 0 items) H:=by
 refine ⟨fun i d H' fz e=>?_,fun i H' fz e=>⟨vs,(fz.znX h).sq,by rw [f.len,<- zqx 0];exact e⟩⟩
 obtain ⟨d',e',rfl⟩:=zqy e
 obtain ⟨v,ev,fv⟩:=(f.mono fz).get e'
 refine ⟨⟨vs,v,(fz.znX h).sq,ev⟩,fun x H'' y=>?_⟩
 obtain ⟨t,v',rfl,ht,rfl,hv⟩:=y
 have ex:=hv vs (fz.znX h).sq
 rw [ev] at ex
 cases ex
 refine ⟨zbs.upd ht,?_⟩
 rw [Nat.zero_add]
 exact zqi ht (zfW _) fv
theorem zra {H:Hp} {a b:Addr} {vs ws:List V} {l m:List D} (h:FzL K H a vs) (f:zaj K H l vs) (h':FzL K H b ws) (f':zaj K H m ws):Walk K (Itz K a b) (zkD l m) H:=by
 refine ⟨fun i d H' fz e=>?_,fun i H' fz e=>⟨vs,ws,(fz.znX h).sq,(fz.znX h').sq,?_⟩⟩
 ·obtain ⟨x,y,e1,e2,rfl⟩:=zoJ e
  obtain ⟨u,eu,fu⟩:=(f.mono fz).get e1
  obtain ⟨v,ev,fv⟩:=(f'.mono fz).get e2
  refine ⟨⟨vs,ws,u,v,(fz.znX h).sq,(fz.znX h').sq,eu,ev⟩,fun x H'' y=>?_⟩
  obtain ⟨t,u',v',rfl,ht,rfl,hu,hv⟩:=y
  have ex:=hu vs (fz.znX h).sq
  rw [eu] at ex
  cases ex
  have ex:=hv ws (fz.znX h').sq
  rw [ev] at ex
  cases ex
  exact ⟨zbs.upd ht,zqi ht fu fv⟩
 ·rw [zoI] at e
  rw [f.len,f'.len]
  omega
theorem zhg (hg:Gl X "enumerate") (hm:X.mg "enumerate"=none) (ha:PVA K X [e] fa) (hs:starEach [e] X.env=[(false,eval e X.env)]:=by rfl):PVI K X (.Tuple es k p0) (.Call (.Name "enumerate" p) [e] [] pos) (zr7 fa):=fun hK=>by
 subst hK
 refine (zt3 hg hm (ha rfl) hs).weak fun σ H R=>?_
 rintro ⟨ρ,rel,q⟩
 refine goA rel q fun ds ρ1 vs H1 rel1 st1 fs q1=>?_
 obtain ⟨items,ei,q2⟩:=q1.zii
 cases ds with
 | nil=>cases ei
 | cons d r =>
  cases r with
  | cons _ _=>cases d <;> cases ei
  | nil =>
   cases d with
   | list a =>
    cases ei
    simp only [zaj,Fz] at fs
    obtain ⟨_,_,rfl,⟨l,vs,rfl,sx,f⟩,rfl⟩:=fs
    exact ⟨l,rfl,⟨vs,sx.sq⟩,q2.now rel1 _ (zoP sx f)⟩
   | _=>cases ei
theorem zl6 (hg:Gl X "zip") (hm:X.mg "zip"=none) (ha:PVA K X [e,e'] fa) (hs:starEach [e,e'] X.env=[(false,eval e X.env),(false,eval e' X.env)]:=by rfl) (hs2:starEach [e'] X.env=[(false,eval e' X.env)]:=by rfl):PVI K X (.Tuple es k p0) (.Call (.Name "zip" p) [e,e'] [] pos) (ztf fa):=fun hK=>by
 subst hK
 refine (zvN hg hm (ha rfl) hs hs2).weak fun σ H R=>?_
 rintro ⟨ρ,rel,q⟩
 refine goA rel q fun ds ρ1 vs H1 rel1 st1 fs q1=>?_
 obtain ⟨items,ei,q2⟩:=q1.zii
 match ds,ei,fs with
 | [.list a,.list b],ei,fs =>
  cases ei
  simp only [zaj,Fz] at fs
  obtain ⟨_,_,rfl,⟨l,vs,rfl,sx,f⟩,_,_,rfl,⟨l',vs',rfl,sx',f'⟩,rfl⟩:=fs
  exact ⟨l,l',rfl,⟨vs,sx.sq⟩,⟨vs',sx'.sq⟩,q2.now rel1 _ (zra sx f sx' f')⟩
end
section
variable [Cs] {K:PySem.W.Frag} {X:Cx} {ke ve tg iter:Expr} {ifs:List Expr} {scope:Scope} {pos:Pos} {it:IF} {g:GF} {t:TF} {kf vf:EF} {dom:List Nat}
theorem zm7 {o:HO} (h:Own o):¬ zw0 o:=by cases o <;> simp [Own,zw0] at h ⊢
theorem zuF {k:Nat} {ix:List Nat} (nd:ix.Nodup) (hgo:dom.all (fun i=>decide (i < k))=true) (σ:L2.St) (H:Hp) (Q:VK) (q:tN K (zjp k ix it g t kf vf) σ H Q):zl0 k ix (tI K it) (tG K dom g) (tT K t) (tV K kf) (tV K vf) σ H Q:=by
 revert q
 rintro ⟨ρ0,rel0,q⟩
 obtain ⟨x,ex,q⟩:=q.bnd
 refine ⟨ρ0,rel0,?_⟩
 rw [ex]
 intro H1 rel1 st1 J wk l hl
 obtain ⟨items,ρs⟩:=x
 have hl0:H l=none:=by
  cases e:H l with
  | none=>rfl
  | some o =>
   by_cases m:MA ρ0 σ l
   ·obtain ⟨o',e',_⟩:=rel1.zbp (st1.ma.mp m)
    rw [hl] at e';cases e'
   ·rw [st1.kp l o e m] at hl;cases hl
 have sl:zbs H1 (upd H1 l (.dK [])):=zbs.upd hl
 refine ⟨fun i m H2=>m=items.length - i/\i<=items.length/\∃ ρ acc,zb3 K H2 l acc/\Rel K ρ σ H2/\¬ MA ρ σ l/\Fzn H1 H2/\Stp ρ0 ρ σ H H2 /\
  Good K ρ0 σ H ((zgP k ix g t kf vf (items.drop i) ρ acc).bind fun (y:D × En)=>.ok (y.1,y.2)) fun d ρ' H'=>∀ a,H a=none->zb3 K H' a d->Q (.ref a) H',
  ⟨items.length,by simp,Nat.zero_le _,ρs,.dict [],.inr ⟨[],zan,by simp [zcv]⟩,rel1.same sl,fun z=>?_,Fzn.of sl,st1.trans (.of sl),q⟩,?_⟩
 ·obtain ⟨o',e',_⟩:=rel1.zbp z
  rw [hl] at e';cases e'
 rintro i m H2 ⟨rfl,hi,ρ,acc,mu,rel,nma,fz,st0,gd⟩
 obtain ⟨ob,hly,own⟩:=mu.own
 by_cases c:i < items.length
 ·have ed:=List.drop_eq_getElem_cons c
  rw [ed] at gd
  obtain ⟨hgo',hy⟩:=wk.1 i items[i] H2 fz (List.getElem?_eq_getElem c)
  refine .inr ⟨hgo',fun x H3 y=>?_⟩
  obtain ⟨sm,fx⟩:=hy x H3 y
  have rel3:Rel K ρ σ H3:=rel.same sm
  obtain ⟨w,ew,gd⟩:=gd.zii
  obtain ⟨β1,e1,ew⟩:=zas (show (g items[i] (blk k ix ρ)).bind _=.ok w from ew)
  obtain ⟨c1,ec,ew⟩:=zas ew
  refine ⟨blk k ix ρ,items[i],β1,zqI nd rel3,fx,e1,fun σ1 relβ chg=>⟨β1,relβ,?_⟩⟩
  rw [ec]
  intro H5 rel5 st5
  have hσ:∀ j,σ1[k + j]?=(zeW k ix σ)[k + j]?:=fun j=>by
   rcases chg.2 (k + j) with ⟨_,c2⟩ | ⟨m,_⟩
   ·exact c2
   ·have:=of_decide_eq_true (List.all_eq_true.mp hgo _ m)
    omega
  have hβ:∀ j,β1[k + j]?=(blk k ix ρ)[k + j]?:=fun j=>by
   rcases chg.2 (k + j) with ⟨c2,_⟩ | ⟨m,_⟩
   ·exact c2
   ·have:=of_decide_eq_true (List.all_eq_true.mp hgo _ m)
    omega
  have hMA:∀ a,MA β1 σ1 a->MA (blk k ix ρ) (zeW k ix σ) a:=fun a ⟨j,⟨p,d,z1⟩,z2⟩=>by
   rcases chg.2 j with ⟨c1,c2⟩ | ⟨_,⟨d',c1⟩,_⟩
   ·exact ⟨j,⟨p,d,by rw [<- c1];exact z1⟩,by rw [<- c2];exact z2⟩
   ·rw [c1] at z1;cases z1
  have hMB:∀ a,MA (blk k ix ρ) (zeW k ix σ) a->MA ρ σ a:=fun a ⟨j,h⟩=>by
   obtain ⟨_,i,_,_,h⟩:=zjy h
   exact ⟨i,h⟩
  have h3l:H3 l=some ob:=sm l _ hly
  have n1:¬ MA β1 σ1 l:=fun z=>nma (hMB l (hMA l z))
  have h5l:H5 l=some ob:=st5.kp l _ h3l n1
  obtain ⟨cb,β2⟩:=c1
  cases cb with
  | true =>
   refine zux ⟨β2,rel5,?_⟩
   obtain ⟨y,ey,ew⟩:=zas (show (kf β2).bind _=.ok w from ew)
   obtain ⟨z,ez,ew⟩:=zas ew
   obtain ⟨d',ed',ew⟩:=zas ew
   rw [ey]
   intro H6 rel6 st6 v fv
   refine ⟨y.2,rel6,?_⟩
   rw [ez]
   intro H7 rel7 st7 v2 fv2
   have n2:¬ MA β2 σ1 l:=fun z=>n1 (st5.ma.mpr z)
   have h6l:H6 l=some ob:=st6.kp l _ h5l n2
   have n3:¬ MA y.2 σ1 l:=fun z=>n2 (st6.ma.mpr z)
   have h7l:H7 l=some ob:=st7.kp l _ h6l n3
   have st:Stp β1 z.2 σ1 H3 H7:=(st5.trans st6).trans st7
   obtain ⟨rb,sb⟩:=zko (k:=k) nd rel3 hσ rel7 (fun j p=>by rw [<- hβ j];exact (st.md (k + j) p).symm) (fun a o h n=>st.kp a o h fun z=>n (hMA a z))
   have nmb:¬ MA (back ρ ix (z.2.drop k)) σ l:=fun z=>nma (sb.ma.mpr z)
   have fz6:Fzn H2 H7:=(Fzn.of sm).trans (sb.fzn rel3)
   have mut7:zb3 K H7 l acc:=mu.mono fz6 (by rw [h7l,hly])
   obtain ⟨o',dp,mut8⟩:=zwQ mut7 (fv.mono (st7.fzn rel6)) fv2 ed'
   have fz7:Fzn H7 (upd H7 l o'):=fun b u e s=>by
    rw [zax fun z=>by subst z;rw [h7l] at e;cases e;exact zm7 own s]
    exact e
   refine ⟨_,dp,items.length - (i + 1),by omega,rfl,c,back ρ ix (z.2.drop k),d',mut8,rb.put nmb (fun u e=>by rw [h7l] at e;cases e;exact zm7 own),nmb,(fz.trans fz6).trans fz7,⟨((st0.trans (.of sm)).trans sb).md,fun a o h n=>?_⟩,?_⟩
   ·rw [zax fun z=>by subst z;rw [hl0] at h;cases h]
    exact ((st0.trans (.of sm)).trans sb).kp a o h n
   ·rw [ew]
    exact gd
  | false =>
   obtain ⟨rb,sb⟩:=zko (k:=k) nd rel3 hσ rel5 (fun j p=>by rw [<- hβ j];exact (st5.md (k + j) p).symm) (fun a o h n=>st5.kp a o h fun z=>n (hMA a z))
   have nmb:¬ MA (back ρ ix (β2.drop k)) σ l:=fun z=>nma (sb.ma.mpr z)
   have fz6:Fzn H2 H5:=(Fzn.of sm).trans (sb.fzn rel3)
   refine zuy ⟨items.length - (i + 1),by omega,rfl,c,back ρ ix (β2.drop k),acc,mu.mono fz6 (by rw [h5l,hly]),rb,nmb,fz.trans fz6,(st0.trans (.of sm)).trans sb,?_⟩
   rw [show zgP k ix g t kf vf (items.drop (i + 1)) (back ρ ix (β2.drop k)) acc=.ok w from ew]
   exact gd
 ·have e:i=items.length:=by omega
  subst e
  rw [List.drop_length] at gd
  exact .inl ⟨wk.2 _ H2 fz (Nat.le_refl _),gd H2 rel st0 l hl0 mu⟩
theorem zpk (L:List Str) (ix:List Nat) (M:List Str) (hu:X.A.units + 1 < cLine) (hc:X.calm=true) (hk:scope.kind=.function) (hd:zct X.env.scope scope X.N ix=true) (hM:M=L ++ ix.map fun i=>X.N.getD i "") (nd:ix.Nodup) (hi:PVI K X tg iter it)
  (hg:∀ C s₃ H₃ fp,PVG K (zap X M scope C s₃ H₃ fp) dom tg g) (hgo:dom.all (fun i=>decide (i < L.length))=true)
  (ht:∀ C s₃ H₃ fp,ztu K (zap X M scope C s₃ H₃ fp) ifs t) (hke:∀ C s₃ H₃ fp,PV K (zap X M scope C s₃ H₃ fp) ke kf) (he:∀ C s₃ H₃ fp,PV K (zap X M scope C s₃ H₃ fp) ve vf)
  (hs:∀ x,foldedSetIterable iter X.env x=pure x:=by intro _;rfl) :
  PVN K X (.DictComp ke ve [⟨tg,iter,ifs,0⟩] scope pos) (zjp L.length ix it g t kf vf):=fun hK=>by
 refine (zn4 L ix M hu hc hk hd hM (hi hK) (fun C s₃ H₃ fp=>hg C s₃ H₃ fp hK) (zkf hgo) (fun C s₃ H₃ fp=>ht C s₃ H₃ fp hK) (fun C s₃ H₃ fp=>hke C s₃ H₃ fp hK) (fun C s₃ H₃ fp=>he C s₃ H₃ fp hK) hs).weak fun σ H Q q=>zuF nd hgo σ H Q q
end
end FL
namespace FL
open PySem L2 PySem.Spec
open PyProof.Rows hiding St
end FL
namespace PySem
open Spec
end PySem
namespace FL
open PySem L2 PySem.Spec
open PyProof.Rows hiding St
end FL
namespace FL
open PySem L2 PySem.Spec
open PyProof.Rows hiding St
end FL
namespace L2
open PySem PySem.Spec PyProof.Rows
open PySem.SeqAt
open PySem.AutoSeq1 (wpAny_loadPart')
open PySem.MeetsSeq PySem.MeetsSeq2 PySem.MeetsSeq3
end L2
namespace FL
open PySem L2 PySem.Spec
open PyProof.Rows hiding St
end FL
namespace FL
open PySem
def zi9:D->R D
 | .dict kvs=>(R.of (intsOf (kvs.map (·.1)))).bind fun ns=>chk (leB (ns.length + 1) 64) (.ok (.list ((zjm ns).map .int)))
 | _=>.bad
end FL
namespace FL
open PySem
def zyl (a:List D) (k d:D):R (List D):=match k with
 | .int j=>chk (decide (0<=j) && leB j.toNat a.length && leB (a.length + 1) lim) (.ok (a.take j.toNat ++ d :: a.drop j.toNat))
 | _=>.bad
def zu8 (i:Nat) (k f:EF):SF:=fun ρ=>(zdj ρ i).bind fun _=>(k ρ).bind fun y=>(f y.2).bind fun x=>(zdj x.2 i).bind fun c=>(zyl c y.1 x.1).bind fun c'=>.ok (.nx,zbo x.2 i (.list c'))
end FL
namespace L2
open PySem PySem.Spec PyProof.Rows PySem.W
theorem zkm {X:Cx} (hc:X.calm=true):zgG X (.builtin "sorted") (fun xs H Q=>∃ (d:Addr) (ks:List Int),xs=[V.ref d]/\IsD H d/\(∀ vs,zsK H d vs->vs=ks.map V.int)/\ks.length < 64 /\
  ∀ (l:Addr) (ns:List Int),H l=none->ns.Perm ks->ns.Pairwise (·<=·)->Q (.ref l) (upd H l (.lst (ns.map V.int)))):=by
 intro pins s σ H xs us Q I r h
 obtain ⟨d,ks,rfl,rd,hk,lk,q⟩:=h
 obtain ⟨u,rfl,ru⟩:=vals1 r
 cases ru
 refine Calls.call_function_entry kind_sorted plain_sorted entry_sorted (args_sorted1 _) ?_
 unfold Builtin.«sorted»
 refine wpAny_bind (m:=checkCount "sorted" 1 1 _) (wpAny_pure ?_)
 refine wpAny_bind (zss (I.ok.hd hc) I rd (fun xs dk=>by rw [hk xs dk,List.length_map];exact lk) fun xs its s1 dk rv I1=>?_)
 have ex:=hk xs dk
 subst ex
 have hI:IntsAre its ks:=intsAre_of rv
 have li:its.length=ks.length:=by have:=hI.length;omega
 refine wpAny_bind (wpAny_newList ?_ (by rw [sizeLine_eq];omega))
 have hoL:(s1.heap.push (seqObj "list" its.toArray 0)).get? s1.heap.objs.size=some (seqObj "list" its.toArray 0):=Heap.get?_push_size _ rfl
 refine wpAny_bind (wpAny_holding (wpAny_call_entry slot_list_sort ⟨_,hoL,rfl⟩ entry_list_sort (list_sort_tree hoL hI (by omega) fun out ns' a1 a2 a3=>⟨_,rfl,?_⟩) (args_list_sort _)))
 refine wpAny_pure ⟨_,rfl,.ref s1.heap.objs.size,upd H s1.heap.objs.size (.lst (ns'.map V.int)),?_,rfl,q _ ns' (I1.hok.fresh (Nat.le_refl _)) a2 a3⟩
 obtain ⟨e,he⟩:=sortedHeap_at (out:=out) hoL
 have va:=zi7 a1
 refine I1.laid (t':=s1.toks) (fun b u eb=>?_) (Nat.le_refl _) ⟨by rw [List.length_map,a2.length_eq,sizeLine_eq];omega,out.toList,e,va,by simpa [seqObj] using he⟩
 have lt:=Heap.lt_size eb
 rw [sortedHeap_old (Nat.ne_of_lt lt) (by rw [Heap.size_push];exact Nat.lt_succ_of_lt lt)]
 exact Heap.get?_push_of_some _ eb
end L2
namespace L2
open PySem PySem.Spec
variable {X:Cx}
def ztF:V->List V->Hp->VK->Prop:=fun x vs H Q=>∃ l xs i y,x=.ref l/\vs=[.int i,y]/\H l=some (.lst xs)/\xs.length < sizeLine/\0<=i/\i.toNat<=xs.length/\Q .non (upd H l (.lst (xs.take i.toNat ++ y :: xs.drop i.toNat)))
theorem zpH:MtM X "list.insert" ztF:=by
 intro pins s σ H x vs v us Q I rx rv h
 obtain ⟨l,xs,i,y,rfl,rfl,hH,hz,i0,i1,q⟩:=h
 cases rx
 obtain ⟨a,b,rfl,ra,rb⟩:∃ a b,us=[a,b]/\RelV (.int i) a/\RelV y b:=by
  cases rv with
  | cons h t=>cases t with
   | cons h2 t2=>cases t2;exact ⟨_,_,rfl,h,h2⟩
 obtain ⟨t,rfl⟩:=ra
 obtain ⟨z,its,n,r,hl,e⟩:=I.zxK hH
 have hlen:its.length=xs.length:=r.length.symm
 have sl:sizeLine < 2 ^ 63:=by decide
 refine call_meets F.slot_list_insert ⟨_,e,rfl⟩ F.entry_list_insert (F.args_list_insert_3 _ _ _) (PySem.AutoListH.list_insert_list_int_val_1 l its.toArray n i t b (by unfold Builtin.List.listFitsIndex;simp;omega) (by rw [List.size_toArray];omega)) ⟨e,?_⟩
 refine ⟨.non,_,I.zyh (its':=its.take i.toNat ++ b :: its.drop i.toNat) hH e ?_ ((r.take _).append (.cons rb (r.drop _))) ?_,rfl,q⟩
 ·show ((its.toArray.extract 0 (if i < 0 then (i + ((its.toArray.size:Nat):Int)).toNat else min i.toNat its.toArray.size)).push b ++ its.toArray.extract (if i < 0 then (i + ((its.toArray.size:Nat):Int)).toNat else min i.toNat its.toArray.size))=_
  rw [if_neg (by omega),List.size_toArray,Nat.min_eq_left (by omega)]
  apply Array.toList_inj.mp
  simp [List.extract]
  rw [List.take_of_length_le (by rw [List.length_drop];omega)]
 ·simp;omega
end L2
namespace FL
open PySem L2 PySem.Spec
open PyProof.Rows hiding St
variable [Cs]
section
variable {K:PySem.W.Frag} {X:Cx} {b:Expr} {h:EF} {pos:Pos}
theorem zrM {ds:List D} {d:D} (e:one zi9 ds=.ok d):∃ kvs,ds=[.dict kvs]/\zi9 (.dict kvs)=.ok d:=by
 match ds,e with
 | [x],e=>cases x <;> first | exact ⟨_,rfl,e⟩ | exact nomatch (show (R.bad:R D)=.ok d from e)
 | [],e=>exact nomatch (show (R.bad:R D)=.ok d from e)
 | _ :: _ :: _,e=>exact nomatch (show (R.bad:R D)=.ok d from e)
theorem zuY (hc:X.calm=true):zgG X (.builtin "sorted") (rDs X.K (one zi9)):=by
 intro pins s σ H xs us Q I r h
 obtain ⟨ds,d,fa,e,q⟩:=h
 obtain ⟨kvs,rfl,e⟩:=zrM e
 simp only [zaj] at fa
 obtain ⟨v,_,rfl,fv,rfl⟩:=fa
 obtain ⟨ns,en,e⟩:=zas (show (R.of (intsOf (kvs.map (·.1)))).bind _=.ok d from e)
 obtain ⟨c,e⟩:=zbG e
 cases e
 have fv':=fv
 simp only [Fz] at fv'
 obtain ⟨a,o,rfl,_⟩:=fv'
 refine thn (zkm hc pins s σ H _ us (fun v H1=>∃ p,v=.ref p/\H p=none/\H1=upd H p (.lst ((zjm ns).map V.int))) I r ⟨a,ns,rfl,zwD fv,fun vs dk=>(zaj.ints (zsn fv dk) (zpy en)).1,zhV c,fun l ms hl pm pw=>⟨l,rfl,hl,?_⟩⟩) fun _ _ z=>zlj (zaj.ofInts _) q z
 have:ms=zjm ns:=zkR (le:=(·<=·)) (pm.trans (zfl ns).symm) pw (zdt ns) fun a _ b _ h1 h2=>Int.le_antisymm h1 h2
 rw [this]
theorem zvE {op:Operator} {g:D->D->R D} {y:Str} {py:Pos} (i:Nat) (ho:OpR X (binaryOp op) (rD X.K g)) (ha:PE X (.Name y py) (zkJ i)) (hb:PV K X b h):PV K X (.BinOp (.Name y py) op b pos) (m2 g i h):=fun hK=>by
 subst hK
 exact (zt6 ho ha (hb rfl)).weak fun σ H Q q=>zyo (fun _ _ _ _ z=>z) σ H Q q
end
end FL
namespace FL
open PySem L2 PySem.Spec
open PyProof.Rows hiding St
variable [Cs]
section
variable {P:Program} {w:World} {K:PySem.W.Frag} {mg:Str->Option Value} {base:Heap} {x:Str} {st:Stmt} {ps:List Str} {k:Nat} {b:SF} {fr:Bool}
theorem fnM (ms:List Bool) (N:List Str) (h:Has K mg x st)
  (hb:∀ {f:Addr} {cdv:Value} {A:Around} {outer:List Env} {s:Shared} {H:Hp} {E:XK},zc7 k (A.deeper (envOfC x (zaz st) s.heap.objs.size f cdv))->N.Nodup->zlV K (zq7 (CXe P w) P w K mg base N x (zaz st) f cdv A outer s H E).nox (zb1 st) b)
  (S:zey N ps (zaz st):=by exact ⟨rfl,rfl,rfl,by decide +kernel,rfl,by decide +kernel,by decide +kernel⟩) (hps:ps.length=ms.length:=by rfl) (hpN:ps.length<=N.length:=by decide)
  (hbi:∀ (kV doc pm:Value) (an:Option Addr) (cdv ct:Value) (us:List Value),us.length=ps.length->bindArgs (PySem.W.fnOf x x (zdy st) (zb1 st) (zaz st) .none kV doc pm an cdv ct) ⟨us,[]⟩=pure (ps.zip us):=by
   first
    | exact fun _ _ _ _ _ _ us hl=>match us,hl with | [_],_=>rfl
    | exact fun _ _ _ _ _ _ us hl=>match us,hl with | [_,_],_=>rfl
    | exact fun _ _ _ _ _ _ us hl=>match us,hl with | [_,_,_],_=>rfl
    | exact fun _ _ _ _ _ _ us hl=>match us,hl with | [_,_,_,_],_=>rfl
    | exact fun _ _ _ _ _ _ us hl=>match us,hl with | [_,_,_,_,_],_=>rfl):Callee P w K mg base x (k + 1) ps (spF K ms fr (FL.run ms fr N.length b)) :=
 zwH ms fr h S hps hpN hbi fun f cdv A outer s H E hr=>zpg (hb hr S.nd)
theorem fnP (N:List Str) (h:Has K mg x st)
  (hb:∀ {f:Addr} {cdv:Value} {A:Around} {outer:List Env} {s:Shared} {H:Hp} {E:XK},zc7 k (A.deeper (envOfC x (zaz st) s.heap.objs.size f cdv))->N.Nodup->zlV K (zq7 (CXe P w) P w K mg base N x (zaz st) f cdv A outer s H E).nox (zb1 st) b)
  (S:zey N ps (zaz st):=by exact ⟨rfl,rfl,rfl,by decide +kernel,rfl,by decide +kernel,by decide +kernel⟩) (hpN:ps.length<=N.length:=by decide)
  (hbi:∀ (kV doc pm:Value) (an:Option Addr) (cdv ct:Value) (us:List Value),us.length=ps.length->bindArgs (PySem.W.fnOf x x (zdy st) (zb1 st) (zaz st) .none kV doc pm an cdv ct) ⟨us,[]⟩=pure (ps.zip us):=by
   first
    | exact fun _ _ _ _ _ _ us hl=>match us,hl with | [_],_=>rfl
    | exact fun _ _ _ _ _ _ us hl=>match us,hl with | [_,_],_=>rfl
    | exact fun _ _ _ _ _ _ us hl=>match us,hl with | [_,_,_],_=>rfl
    | exact fun _ _ _ _ _ _ us hl=>match us,hl with | [_,_,_,_],_=>rfl
    | exact fun _ _ _ _ _ _ us hl=>match us,hl with | [_,_,_,_,_],_=>rfl):Callee P w K mg base x (k + 1) ps (spP K ps.length fr (zaU fr ps.length N.length b)) :=
 Callee.pure (fnM (List.replicate ps.length false) N h hb S (by simp) hpN hbi)
end
section
variable {K:PySem.W.Frag} {X:Cx} {a b c e:Expr} {es:List Expr} {f h g1 g2:EF} {fa:AF} {pos p:Pos} {j k:Nat}
theorem a1 (ha:PV K X a f) (hs:starEach [a] X.env=(false,eval a X.env) :: starEach [] X.env:=by rfl):PVA K X [a] (zab f zah):=zjS ha zd4 hs
theorem a2 (ha:PV K X a f) (hb:PV K X b h) (hs:starEach [a,b] X.env=(false,eval a X.env) :: starEach [b] X.env:=by rfl) (hs2:starEach [b] X.env=(false,eval b X.env) :: starEach [] X.env:=by rfl):PVA K X [a,b] (zab f (zab h zah)):=zjS ha (a1 hb hs2) hs
theorem a3 (ha:PV K X a f) (hb:PV K X b h) (hc:PV K X c g1) (hs:starEach [a,b,c] X.env=(false,eval a X.env) :: starEach [b,c] X.env:=by rfl) (hs2:starEach [b,c] X.env=(false,eval b X.env) :: starEach [c] X.env:=by rfl) (hs3:starEach [c] X.env=(false,eval c X.env) :: starEach [] X.env:=by rfl):PVA K X [a,b,c] (zab f (zab h (zab g1 zah))):=zjS ha (a2 hb hc hs2 hs3) hs
variable {ps:List Str} {x y:Str} {G:List D->R D} {n:Nat} {py:Pos}
theorem zaO (cc:Callee X.prog X.w X.K X.mg X.base x k ps (spP X.K n false G)) (hr:zc7 j X.A) (ha:PVA K X (e :: es) fa) (hl:zu4 fa n:=by repeat (first | exact znK | refine zlF ?_)) (hg:Gl X x:=by rfl) (hj:k<=j:=by decide) (hdb:(x == ("__debug__":Str))=false:=by decide)
  (he:starEach (e :: es) X.env=(false,eval e X.env) :: starEach es X.env:=by rfl) (hpl:(backTo pos (starEach es X.env)).any (·.1)=false:=by rfl):PV K X (.Call (.Name x p) (e :: es) [] pos) (zae G fa):=ztQ cc hr hg zjW ha hl hj hdb he hpl
theorem zbf (cc:Callee X.prog X.w X.K X.mg X.base x k ps (spP X.K n true G)) (hr:zc7 j X.A) (ha:PVA K X (e :: es) fa) (hl:zu4 fa n:=by repeat (first | exact znK | refine zlF ?_)) (hg:Gl X x:=by rfl) (hj:k<=j:=by decide) (hdb:(x == ("__debug__":Str))=false:=by decide)
  (he:starEach (e :: es) X.env=(false,eval e X.env) :: starEach es X.env:=by rfl) (hpl:(backTo pos (starEach es X.env)).any (·.1)=false:=by rfl):PVN K X (.Call (.Name x p) (e :: es) [] pos) (zae G fa):=zrr cc hr hg zjW ha hl hj hdb he hpl
variable {F:List D->R (D × List D)} {ar:List Ar}
theorem zfM (cc:Callee X.prog X.w X.K X.mg X.base x k ps (spF X.K (arM ar) false F)) (hr:zc7 j X.A) (ha:zqT K X (e :: es) ar) (ho:zvc F (arM ar).length:=by exact zm9) (nd:(arI ar).Nodup:=by decide) (ct:arT ar<=1:=by decide) (hg:Gl X x:=by rfl) (hj:k<=j:=by decide) (hdb:(x == ("__debug__":Str))=false:=by decide)
  (he:starEach (e :: es) X.env=(false,eval e X.env) :: starEach es X.env:=by rfl) (hpl:(backTo pos (starEach es X.env)).any (·.1)=false:=by rfl):PV K X (.Call (.Name x p) (e :: es) [] pos) (zal F ar):=zrw cc ho nd ct hr hg zjW ha hj hdb he hpl
theorem zsQ (cc:Callee X.prog X.w X.K X.mg X.base x k ps (spF X.K (arM ar) true F)) (hr:zc7 j X.A) (ha:zqT K X (e :: es) ar) (ho:zvc F (arM ar).length:=by exact zm9) (nd:(arI ar).Nodup:=by decide) (ct:arT ar<=1:=by decide) (hg:Gl X x:=by rfl) (hj:k<=j:=by decide) (hdb:(x == ("__debug__":Str))=false:=by decide)
  (he:starEach (e :: es) X.env=(false,eval e X.env) :: starEach es X.env:=by rfl) (hpl:(backTo pos (starEach es X.env)).any (·.1)=false:=by rfl):PVN K X (.Call (.Name x p) (e :: es) [] pos) (zal F ar):=zpl cc ho nd ct hr hg zjW ha hj hdb he hpl
theorem zlU (i:Nat) (h:zqT K X es ar) (ha:PE X (.Name y py) (zkJ i):=by exact pv _) (hs:starEach (.Name y py :: es) X.env=(false,eval (.Name y py) X.env) :: starEach es X.env:=by rfl):zqT K X (.Name y py :: es) (.m i :: ar):=zvB i ha h hs
theorem zdU {id:String} {g:D->R D} (hc:CallD X (.builtin id) g) (hm:X.mg x=none) (hv:bootBuiltins x=some (.builtin id)) (ha:PV K X e f) (hg:Gl X x:=by rfl) (hn:x ≠ "__name__":=by decide) (hdb:(x == ("__debug__":Str))=false:=by decide)
  (he:starEach [e] X.env=(false,eval e X.env) :: starEach [] X.env:=by rfl) (hpl:(backTo pos (starEach [] X.env)).any (·.1)=false:=by rfl):PV K X (.Call (.Name x p) [e] [] pos) (e1 g f):=zl7 (zm3 (CallD.ds hc) hg hm hv (a1 ha he) hn hdb he hpl)
theorem zru {T:String} {g:D->R D} (hc:CallD X (.type T) g) (hm:X.mg x=none) (hv:bootBuiltins x=some (.type T)) (ha:PV K X e f) (hg:Gl X x:=by rfl) (hn:x ≠ "__name__":=by decide) (hdb:(x == ("__debug__":Str))=false:=by decide)
  (he:starEach [e] X.env=(false,eval e X.env) :: starEach [] X.env:=by rfl) (hpl:(backTo pos (starEach [] X.env)).any (·.1)=false:=by rfl):PV K X (.Call (.Name x p) [e] [] pos) (e1 g f):=zl7 (zpm (CallD.ds hc) hg hm hv (a1 ha he) hn hdb he hpl)
theorem zvC {id:String} {g:D->R D} (i:Nat) (hc:CallD X (.builtin id) g) (hm:X.mg x=none) (hv:bootBuiltins x=some (.builtin id)) (hg:Gl X x:=by rfl) (ha:PE X (.Name y py) (zkJ i):=by exact pv _) (hn:x ≠ "__name__":=by decide) (hdb:(x == ("__debug__":Str))=false:=by decide):PV K X (.Call (.Name x p) [.Name y py] [] pos) (m1 g i):=zvF i hc hg hm hv ha hn hdb
theorem zjU {T:String} {tn:Str} {p2:Pos} (kt:zmI T) (hm:X.mg "isinstance"=none) (hm2:X.mg tn=none) (hv2:bootBuiltins tn=some (.type T)) (ha:PV K X a f) (hg:Gl X "isinstance":=by rfl) (hg2:Gl X tn:=by rfl) (hn:tn ≠ "__name__":=by decide) (hd:(tn == ("__debug__":Str))=false:=by decide)
  (hs1:starEach [a,.Name tn p2] X.env=(false,eval a X.env) :: starEach [.Name tn p2] X.env:=by rfl) (hs2:starEach [.Name tn p2] X.env=(false,eval (.Name tn p2) X.env) :: starEach [] X.env:=by rfl) (hpl:(backTo pos (starEach [.Name tn p2] X.env)).any (·.1)=false:=by rfl) :
  PV K X (.Call (.Name "isinstance" p) [a,.Name tn p2] [] pos) (e1 (zb7 T) f):=zvG kt hg hm hg2 hm2 hv2 ha hn hd hs1 hs2 hpl
theorem zm1 (hr:zc7 j X.A):OpR X (compareOp .Eq) (rD X.K eqD):=zyW hr.units
theorem ziL (hr:zc7 j X.A):OpR X (compareOp .NotEq) (rD X.K neD):=zyR hr.units
theorem zu5 (hr:zc7 j X.A):OpR X (compareOp .Lt) (rD X.K ltD):=zyS hr.units
theorem zyO (hr:zc7 j X.A):OpR X (compareOp .LtE) (rD X.K leD):=zyT hr.units
theorem zye (hr:zc7 j X.A):OpR X (compareOp .Gt) (rD X.K gtD):=zyU hr.units
theorem zyf (hr:zc7 j X.A):OpR X (compareOp .GtE) (rD X.K geD):=zyV hr.units
theorem zvy (hr:zc7 j X.A):OpR X (compareOp .NotIn) (rD X.K zu7):=zue (zmV hr)
theorem zu6 (hr:zc7 j X.A):IxR X (rD X.K zjq):=zuv (zmV hr)
variable {op:CmpOp} {g:D->D->R D} {z:Str} {pz:Pos}
theorem zl8 (ho:OpR X (compareOp op) (rD X.K g)) (ha:PV K X a f) (hb:PV K X b h) (hm:behindInMarks op b=false:=by first | exact zs0 _ | rfl):PV K X (.Compare a [op] [b] pos) (e2 g f h):=zvH ho ha hb hm
theorem zaA (ho:OpR X (compareOp op) (rD X.K g)) (ha:PV K X a f) (hb:PV K X b h) (hm:behindInMarks op b=false:=by first | exact zs0 _ | rfl):PVT K X (.Compare a [op] [b] pos) (tB (e2 g f h)):=ztI ho ha hb hm
theorem zjT (i:Nat) (ho:IxR X (rD X.K g)) (hb:PV K X b h) (ha:PE X (.Name y py) (zkJ i):=by exact pv _) (hs:zkt b:=by exact fun _ _=>rfl):PV K X (.Subscript (.Name y py) b pos) (m2 g i h):=zvD i ho ha hb hs
theorem zxt {op:Operator} (i:Nat) (ho:OpR X (binaryOp op) (rD X.K g)) (hb:PV K X b h) (ha:PE X (.Name y py) (zkJ i):=by exact pv _):PV K X (.BinOp (.Name y py) op b pos) (m2 g i h):=zvE i ho ha hb
theorem zaJ (he:PV K X e f):zlV K X [.Return (some e) pos] (zaw f):=zar (ztK he)
theorem zaN (i:Nat) (hN:X.N.Nodup) (he:PV K X e f) (hi:X.N[i]?=some x:=by rfl) (hx:Loc X.env.scope x:=by first | exact Or.inl rfl | exact Or.inr rfl) (hs:swapsWith e (some (.Name x py)) pos.line X.env=pure false:=by rfl) (hf:X.fn x=true\/X.env.scope.names.lookup x=some .local:=by first | exact .inl rfl | exact .inr rfl | assumption):PSV K X (.Assign [.Name x py] e pos) (zaC (gN i) f):=ztJ hN hi hx he hs hf
theorem zjc (i:Nat) (hN:X.N.Nodup) (he:PVN K X e f) (hi:X.N[i]?=some x:=by rfl) (hx:Loc X.env.scope x:=by first | exact Or.inl rfl | exact Or.inr rfl) (hs:swapsWith e (some (.Name x py)) pos.line X.env=pure false:=by rfl) (hf:X.fn x=true\/X.env.scope.names.lookup x=some .local:=by first | exact .inl rfl | exact .inr rfl | assumption):PSV K X (.Assign [.Name x py] e pos) (zdd i f):=ztM hN hi hx he hs hf
theorem g_n (i:Nat) (hN:X.N.Nodup) (hi:X.N[i]?=some x:=by rfl) (hx:Loc X.env.scope x:=by first | exact Or.inl rfl | exact Or.inr rfl) (hf:X.fn x=true\/X.env.scope.names.lookup x=some .local:=by first | exact .inl rfl | exact .inr rfl | assumption):PVG K X [i] (.Name x pos) (gN i):=zrs hN hi hx hf
theorem zpf (i j:Nat) {kt k2:Nat} {px pt pt2:Pos} (nd:X.N.Nodup) (ha:PV K X a f) (hb:PV K X b h) (hc:X.calm=true:=by rfl) (hi:X.N[i]?=some x:=by rfl) (hj:X.N[j]?=some y:=by rfl) (ij:i ≠ j:=by decide) (l1:X.env.scope.names.lookup x=some .local:=by rfl) (l2:X.env.scope.names.lookup y=some .local:=by rfl)
  (sw:swappedStores [.Tuple [.Name x px,.Name y py] kt pt] (.Tuple [a,b] k2 pt2) X.env=pure (some [x,y]):=by rfl) (s1:swapsWithSole [.Tuple [.Name x px,.Name y py] kt pt] (.Tuple [a,b] k2 pt2) pos.line X.env=pure false:=by rfl) (s2:starEach [a,b] X.env=(false,eval a X.env) :: starEach [b] X.env:=by rfl) (s3:starEach [b] X.env=(false,eval b X.env) :: starEach [] X.env:=by rfl) :
  PSV K X (.Assign [.Tuple [.Name x px,.Name y py] kt pt] (.Tuple [a,b] k2 pt2) pos) (zjO i j f h):=ztL hc nd hi hj ij l1 l2 ha hb sw s1 s2 s3
variable {it:IF} {gg:GF} {bb:SF} {body:List Stmt} {dom:List Nat} {tg:Expr}
theorem zck (hi:PVI K X tg e it) (hg:PVG K X dom tg gg) (hb:zlV K X body bb) (hp:PassesOwn (model X.prog X.w) X.A X.env X.xe:=by exact PassesOwn.never) (hc:X.calm=true:=by rfl) (hs:∀ v,foldedSetIterable e X.env v=pure v:=by intro _;rfl):PSV K X (.For tg e body [] pos) (zcP it gg bb):=ztN hp hc hi hg hb hs
variable {elt iter ke ve:Expr} {ifs:List Expr} {scope:Scope} {t:TF} {kf vf:EF}
theorem cp (L:List Str) (ix:List Nat) (M:List Str) (hi:PVI K X tg iter it) (hg:∀ {C:Addr} {s₃:Shared} {H₃:Hp} {fp:List Addr},M.Nodup->PVG K (zap X M scope C s₃ H₃ fp) dom tg gg) (ht:∀ {C:Addr} {s₃:Shared} {H₃:Hp} {fp:List Addr},ztu K (zap X M scope C s₃ H₃ fp) ifs t) (he:∀ {C:Addr} {s₃:Shared} {H₃:Hp} {fp:List Addr},PV K (zap X M scope C s₃ H₃ fp) elt f)
  (hc:X.calm=true:=by rfl) (hk:scope.kind=.function:=by rfl) (ho:zct X.env.scope scope X.N ix=true:=by kernel_rfl) (hM:M=L ++ ix.map (fun i=>X.N.getD i ""):=by rfl) (nd:ix.Nodup:=by decide) (hMn:M.Nodup:=by decide +kernel) (hd:(dom.all fun i=>decide (i < L.length))=true:=by decide) (hs:∀ v,foldedSetIterable iter X.env v=pure v:=by intro _;rfl) :
  PVN K X (.ListComp elt [⟨tg,iter,ifs,0⟩] scope pos) (zaW L.length ix it gg t f):=zrq L ix M hc hk ho hM nd hi (fun _ _ _ _=>hg hMn) hd (fun _ _ _ _=>ht) (fun _ _ _ _=>he) hs
theorem cpS (i0:Nat) (L:List Str) (ix:List Nat) (M:List Str) (hN:X.N.Nodup) (hi:PVI K X tg iter it) (hg:∀ {C:Addr} {s₃:Shared} {H₃:Hp} {fp:List Addr},M.Nodup->PVG K (zap X M scope C s₃ H₃ fp) dom tg gg) (ht:∀ {C:Addr} {s₃:Shared} {H₃:Hp} {fp:List Addr},ztu K (zap X M scope C s₃ H₃ fp) ifs t) (he:∀ {C:Addr} {s₃:Shared} {H₃:Hp} {fp:List Addr},PV K (zap X M scope C s₃ H₃ fp) elt f)
  (h0:X.N[i0]?=some x:=by rfl) (hl:X.env.scope.names.lookup x=some .local:=by rfl) (hsw:swapsWith (.ListComp elt [⟨tg,iter,ifs,0⟩] scope pos) (some (.Name x py)) p.line X.env=pure true:=by rfl) (hc:X.calm=true:=by rfl) (hk:scope.kind=.function:=by rfl) (ho:zct X.env.scope scope X.N ix=true:=by kernel_rfl) (hM:M=L ++ ix.map (fun i=>X.N.getD i ""):=by rfl) (nd:ix.Nodup:=by decide) (hMn:M.Nodup:=by decide +kernel) (hd:(dom.all fun i=>decide (i < L.length))=true:=by decide) (hs:∀ v,foldedSetIterable iter X.env v=pure v:=by intro _;rfl) :
  PSV K X (.Assign [.Name x py] (.ListComp elt [⟨tg,iter,ifs,0⟩] scope pos) p) (zdd i0 (zaW L.length ix it gg t f)):=zrm i0 L ix M hN h0 hl hsw hc hk ho hM nd hi (fun _ _ _ _=>hg hMn) hd (fun _ _ _ _=>ht) (fun _ _ _ _=>he) hs
theorem dcp (L:List Str) (ix:List Nat) (M:List Str) (hr:zc7 j X.A) (hi:PVI K X tg iter it) (hg:∀ {C:Addr} {s₃:Shared} {H₃:Hp} {fp:List Addr},M.Nodup->PVG K (zap X M scope C s₃ H₃ fp) dom tg gg) (ht:∀ {C:Addr} {s₃:Shared} {H₃:Hp} {fp:List Addr},ztu K (zap X M scope C s₃ H₃ fp) ifs t) (hke:∀ {C:Addr} {s₃:Shared} {H₃:Hp} {fp:List Addr},PV K (zap X M scope C s₃ H₃ fp) ke kf) (hve:∀ {C:Addr} {s₃:Shared} {H₃:Hp} {fp:List Addr},PV K (zap X M scope C s₃ H₃ fp) ve vf)
  (hc:X.calm=true:=by rfl) (hk:scope.kind=.function:=by rfl) (ho:zct X.env.scope scope X.N ix=true:=by kernel_rfl) (hM:M=L ++ ix.map (fun i=>X.N.getD i ""):=by rfl) (nd:ix.Nodup:=by decide) (hMn:M.Nodup:=by decide +kernel) (hd:(dom.all fun i=>decide (i < L.length))=true:=by decide) (hs:∀ v,foldedSetIterable iter X.env v=pure v:=by intro _;rfl) :
  PVN K X (.DictComp ke ve [⟨tg,iter,ifs,0⟩] scope pos) (zjp L.length ix it gg t kf vf):=zpk L ix M (zmV hr) hc hk ho hM nd hi (fun _ _ _ _=>hg hMn) hd (fun _ _ _ _=>ht) (fun _ _ _ _=>hke) (fun _ _ _ _=>hve) hs
end
abbrev CT (x:Str) (k:Nat) (ps:List Str) (n:Nat) (fr:Bool) (G:List D->R D) (P:Program) (w:World) (K:PySem.W.Frag) (mg:Str->Option Value) (base:Heap):Prop:=Callee P w K mg base x k ps (spP K n fr G)
abbrev CTM (x:Str) (k:Nat) (ps:List Str) (ms:List Bool) (fr:Bool) (F:List D->R (D × List D)) (P:Program) (w:World) (K:PySem.W.Frag) (mg:Str->Option Value) (base:Heap):Prop:=Callee P w K mg base x k ps (spF K ms fr F)
end FL
namespace FL
open PySem L2 PySem.Spec
open PyProof.Rows hiding St
variable [Cs]
section
variable {K:PySem.W.Frag} {X:Cx} {e ke:Expr} {f k:EF} {pos:Pos}
theorem zn1 {y name:Str} {py apos cpos:Pos} (i:Nat) (hnm:name="insert") (ha:PE X (.Name y py) (zkJ i)) (hk:PV K X ke k) (he:PV K X e f)
  (hbase:attributeBase (.Name y py) name X.env (eval (.Name y py) X.env)=eval (.Name y py) X.env:=by rfl)
  (hfew:((backTo cpos (starEach [ke,e] X.env)).all (fun x=>!x.1) && (backToKw cpos (keywordEach [] X.env)).all (fun x=>x.1.isSome) && decide ([ke,e].length + ([]:List Keyword).length + (if ([]:List Keyword).isEmpty then 0 else 1) < 30))=true:=by rfl)
  (hline:(apos.endLine == cpos.line)=true:=by rfl) (hst:starEach [ke,e] X.env=(false,eval ke X.env) :: starEach [e] X.env:=by rfl) (hst2:starEach [e] X.env=(false,eval e X.env) :: starEach [] X.env:=by rfl) (hplain:(backTo cpos (starEach [e] X.env)).any (·.1)=false:=by rfl)
  (hs:swapsWith (.Call (.Attribute (.Name y py) name apos) [ke,e] [] cpos) none pos.line X.env=pure false:=by rfl):PSV K X (.Expr (.Call (.Attribute (.Name y py) name apos) [ke,e] [] cpos) pos) (zu8 i k f):=fun hK C=>by
 subst hK
 subst hnm
 refine (zl9 (zvY PySem.F.plainAttrs_list PySem.F.slot_list_insert PySem.F.type_list_insert zpH ha (zcn (hk rfl) (zcn (he rfl) zgJ hst2) hst) hbase hfew hline hst hplain) hs).weak fun Dn σ H=>?_
 rintro ⟨ρ,rel,g⟩
 obtain ⟨d,ed,g1⟩:=g.bnd
 obtain ⟨a,vs0,at0,h0,_⟩:=rel.rel.zw7 ed
 refine ⟨.ref a,at0.2,.inl ⟨rfl,vs0,SqL.of h0⟩,zos rel g1 fun dk ρ1 vk H1 rel1 st1 fzk g2=>zos rel1 g2 fun dx ρ2 v H2 rel2 st2 fz g3=>?_⟩
 obtain ⟨c,ec,g4⟩:=g3.bnd
 obtain ⟨c',ec',g5⟩:=g4.bnd
 obtain ⟨vs,at2,h1,h2⟩:=rel2.rel.zxL ec at0
 cases dk with
 | int j =>
  simp only [Fz] at fzk
  subst fzk
  obtain ⟨cc,ec'⟩:=zbG ec'
  cases ec'
  simp only [Bool.and_eq_true,decide_eq_true_eq] at cc
  obtain ⟨⟨j0,j1⟩,j2⟩:=cc
  have j1:=zhV j1
  have j2:=zhV j2
  have l0:=zcz
  have lv:=h2.len
  refine ⟨a,vs,j,v,rfl,rfl,h1,by omega,j0,by omega,zsb (d:=.list (c.take j.toNat ++ dx :: c.drop j.toNat)) rel2 at2 ⟨_,zan,((h2.take _).app ?_).mono (zqg rel2 at2)⟩ g5⟩
  simp only [zaj]
  exact ⟨v,_,rfl,fz,h2.drop _⟩
 | _=>exact nomatch (show (R.bad:R (List D))=.ok c' from ec')
end
end FL
namespace FL
open PySem
def zmv:SF:=(zaw (ziY (e1 (zb7 "int") (eV 0)) (zq6 (e1 (zb7 "bool") (eV 0)))))
def zgD:List D->R D:=zaU false 1 1 zmv
def zbE:SF:=(zhI (zdY 3) (tB (e2 neD (eV 3) (eC (.int 0)))) (zjO 2 3 (eV 3) (e2 zj1 (eV 2) (eV 3))))
def zb8:SF:=(zaq (zjO 2 3 (e1 zqR (eV 0)) (e1 zqR (eV 1)))
  (zaq zbE
  (zaw (eV 2))))
def zat:List D->R D:=zaU false 2 4 zb8
def zuI:SF:=(zaq (zaC (gN 2) (zae zat (zab (e2 ixD (eV 0) (eC (.int 1))) (zab (e2 ixD (eV 1) (eC (.int 1))) zah))))
  (zaq (zjO 3 4 (e2 zbM (e2 ixD (eV 0) (eC (.int 1))) (eV 2)) (e2 zbM (e2 ixD (eV 1) (eC (.int 1))) (eV 2)))
  (zaq (zaC (gN 5) (e2 zaY (e2 zcd (e2 ixD (eV 0) (eC (.int 0))) (eV 4)) (e2 zcd (e2 ixD (eV 1) (eC (.int 0))) (eV 3))))
  (zaq (zaC (gN 6) (zae zat (zab (eV 5) (zab (eV 2) zah))))
  (zaw (zem (zab (e2 zbM (eV 5) (eV 6)) (zab (e2 zcd (eV 3) (e2 zbM (e2 ixD (eV 1) (eC (.int 1))) (eV 6))) zah))))))))
def zw2:List D->R D:=zaU false 2 7 zuI
end FL
namespace FL
open PySem
def num (r:Rat):D:=.tuple [.int r.num,.int (r.den:Int)]
theorem zrU {h l:Nat} (p:l ≠ 0):zj1 (.int (h:Int)) (.int (l:Int))=.ok (.int ((h % l:Nat):Int)):=by
 show chk (decide ((l:Int) ≠ 0)) _=_
 rw [zay (by simpa using p)]
 rw [Int.fmod_eq_emod_of_nonneg _ (by omega)]
 rfl
theorem zkg (x0 x1:Sl):∀ (n h l:Nat),l < n->zht (tB (e2 neD (eV 3) (eC (.int 0)))) (zjO 2 3 (eV 3) (e2 zj1 (eV 2) (eV 3))) n [x0,x1,.val (.int (h:Int)),.val (.int (l:Int))]=.ok (.nx,[x0,x1,.val (.int ((Nat.gcd h l:Nat):Int)),.val (.int 0)])
 | 0,h,l,p=>by omega
 | n + 1,h,l,p=>by
  unfold zht
  by_cases c:l=0
  ·subst c
   have e:neD (.int ((0:Nat):Int)) (.int 0)=.ok (.bool false):=by rw [zbT];rfl
   simp only [tB,FL.e2,eV,zz1,zz0,eC,zad,e,zjO,gN,Bool.false_eq_true,if_false,Nat.gcd_zero_right]
   rfl
  ·have e:neD (.int (l:Int)) (.int 0)=.ok (.bool true):=by
    rw [zbT,decide_eq_false (by omega)];rfl
   simp only [tB,FL.e2,eV,zz1,zz0,eC,zad,e,zjO,gN,zrU c,List.set_cons_succ,List.set_cons_zero,if_true]
   have ih:=zkg x0 x1 n l (h % l) (by have:=Nat.mod_lt h (Nat.pos_of_ne_zero c);omega)
   rw [ih,Nat.gcd_comm l,<- Nat.gcd_rec,Nat.gcd_comm]
theorem znM (i:Int):zqR (.int i)=.ok (.int (i.natAbs:Int)):=by
 show R.ok (PyData.int (if i < 0 then -i else i))=_
 congr 2
 split <;> omega
theorem znp (a b:Int):zat [.int a,.int b]=.ok (.int (Int.gcd a b:Int)):=by
 have e1:zjO 2 3 (FL.e1 zqR (eV 0)) (FL.e1 zqR (eV 1)) [.val (.int a),.val (.int b),.no,.no]=.ok (.nx,[.val (.int a),.val (.int b),.val (.int (a.natAbs:Int)),.val (.int (b.natAbs:Int))]):=by
  simp only [zjO,FL.e1,eV,zz0,zad,znM,gN,zz1,List.set_cons_succ,List.set_cons_zero]
 have e2:zbE [.val (.int a),.val (.int b),.val (.int (a.natAbs:Int)),.val (.int (b.natAbs:Int))]=.ok (.nx,[.val (.int a),.val (.int b),.val (.int ((Nat.gcd a.natAbs b.natAbs:Nat):Int)),.val (.int 0)]):=by
  unfold zbE zhI
  have:zdY 3 [.val (.int a),.val (.int b),.val (.int (a.natAbs:Int)),.val (.int (b.natAbs:Int))]=b.natAbs + 1:=by
   show ((b.natAbs:Int)).natAbs + 1=_
   simp
  rw [this]
  exact zkg _ _ _ _ _ (by omega)
 show ((zb8 [.val (.int a),.val (.int b),.no,.no]).bind _).bind _=_
 unfold zb8
 rw [zak e1,zak e2]
 rfl
theorem zqv {i:Int} {j:Nat} {n:Nat} (hj:j ≠ 0) (hb:j < 2 ^ n) (hn:n<=90000000):zbM (.int i) (.int (j:Int))=.ok (.int (i / (j:Int))):=by
 show chk (decide ((j:Int) ≠ 0)) _=_
 rw [zay (by simpa using hj),Int.fdiv_eq_ediv_of_nonneg _ (by omega)]
theorem zsz {r:Rat} {n:Nat} (h:QR.Bd n r):Bd r.num n/\Bd (r.den:Int) n:=⟨⟨h.1⟩,⟨by simpa using h.2⟩⟩
theorem zwC {a:Int} {b:Nat} {n:Nat} (hb:b ≠ 0) (h:b < 2 ^ n):Int.gcd a (b:Int) ≠ 0/\Int.gcd a (b:Int) < 2 ^ n:=by
 have h1:0 < Int.gcd a (b:Int):=Int.gcd_pos_of_ne_zero_right a (by omega)
 have h2:Int.gcd a (b:Int) ∣ b:=by
  have:=Int.gcd_dvd_right a (b:Int)
  exact Int.natCast_dvd_natCast.mp this
 have h3:=Nat.le_of_dvd (Nat.pos_of_ne_zero hb) h2
 omega
end FL
namespace FL
open PySem
abbrev Sm:=List (List Int × Rat)
theorem zsZ (r s:Rat):neD (num r) (num s)=.ok (.bool (!decide (r=s))):=by
 have e:decide (([r.num,(r.den:Int)]:List Int)=[s.num,(s.den:Int)])=decide (r=s):=by
  by_cases c:r=s
  ·subst c;simp
  ·rw [decide_eq_false c,decide_eq_false]
   intro z
   simp only [List.cons.injEq,and_true,Int.natCast_inj] at z
   exact c (Rat.ext z.1 z.2)
 rw [<- e]
 exact zwe [r.num,(r.den:Int)] [s.num,(s.den:Int)]
def Nk (s:Sm):Prop:=(s.map (·.1)).Nodup
structure zzf (P:Nat->Rat->Prop) (Q:Rat->Prop) (N:Nat):Prop where
 z:∀ i,P i 0
 up:∀ i r,P i r->P (i + 1) r
 add:∀ i r q,P i r->Q q->P (i + 1) (r + q)
 bp:∀ i r,i<=N->P i r->QR.Bd 4000 r
 bq:∀ q,Q q->QR.Bd 4000 q
structure Fit (P:Nat->Rat->Prop) (i:Nat) (s:Sm):Prop where
 nk:Nk s
 sz:∀ p ∈ s,P i p.2
end FL
namespace FL
open PySem
def Ws (n:Nat) (s:Sm):Prop:=∀ p ∈ s,p.1.length<=n
def Iv (M:Nat) (r:Rat):Prop:=r.den=1/\r.num.natAbs<=M
structure Whl (l M n:Nat) (s:Sm):Prop where
 nk:Nk s
 ln:s.length<=l
 sz:∀ p ∈ s,Iv M p.2
 ws:Ws n s
end FL
namespace FL
open PySem
theorem zbd {k n:Nat} {b:SF} {ds:List D} {ρ:En} {d:D} (hl:ds.length=k) (h:b (slots (List.replicate k false) ds ++ List.replicate (n - ds.length) .no)=.ok (.rt d,ρ)):zaU false k n b ds=.ok d:=by
 unfold zaU FL.run
 rw [if_pos (by rw [List.length_replicate];exact hl),h]
 rfl
theorem zdo {k n:Nat} {b:SF} {ds:List D} {ρ:En} {d:D} (hl:ds.length=k) (h:b (slots (List.replicate k false) ds ++ List.replicate (n - ds.length) .no)=.ok (.rf d,ρ)):zaU true k n b ds=.ok d:=by
 unfold zaU FL.run
 rw [if_pos (by rw [List.length_replicate];exact hl),h]
 rfl
theorem ztC {k n:Nat} {b:SF} {ds:List D} {ρ:En} (hl:ds.length=k) (h:b (slots (List.replicate k false) ds ++ List.replicate (n - ds.length) .no)=.ok (.nx,ρ)):zaU false k n b ds=.ok .none:=by
 unfold zaU FL.run
 rw [if_pos (by rw [List.length_replicate];exact hl),h]
 rfl
inductive Tr where
 | leaf (i:Int)
 | node (a b:Tr)
deriving DecidableEq
def lB:Tr->Nat
 | .leaf _=>1
 | .node a b=>2 * (lB a * lB b)
def nB:Tr->Nat
 | .leaf _=>1
 | .node a b=>nB a + nB b
def kyS (p:List Int × Rat):WK:=((p.1.length:Int),p.1)
def zyk (x:List Int × Rat):Sm->Sm
 | []=>[x]
 | y :: r=>if ltW (kyS y) (kyS x)=true then y :: zyk x r else x :: y :: r
def zvp:Sm->Sm
 | []=>[]
 | x :: r=>zyk x (zvp r)
def tln (p:List Int × Rat):D:=.tuple [tp p.1,num p.2]
end FL
namespace FL
open PySem
def zea:SF:=(zhI (zdY 3) (tB (e2 neD (eV 3) (eC (.int 0)))) (zjO 2 3 (eV 3) (e2 zj1 (eV 2) (eV 3))))
def zgt:SF:=(zaq (zaC (gN 2) (e1 zqR (eV 0)))
  (zaq (zaC (gN 3) (eV 1))
  (zaq zea
  (zaw (zem (zab (e2 zbM (eV 0) (eV 2)) (zab (e2 zbM (eV 1) (eV 2)) zah)))))))
def zbt:List D->R D:=zaU false 2 4 zgt
def zek:SF:=(zaq (sIf (FL.tOr (FL.zcx (tE (e1 (zb7 "tuple") (eV 0)))) (tB (e2 neD (e1 zbD (eV 0)) (eC (.int 2))))) (zaw (eC (.bool false))) sNx)
  (zaq (zaC (gT [(gN 1),(gN 2)]) (eV 0))
  (zaq (sIf (FL.tOr (FL.zcx (tE (zae zgD (zab (eV 1) zah)))) (FL.tOr (FL.zcx (tE (zae zgD (zab (eV 2) zah)))) (tB (e2 ltD (eV 2) (eC (.int 1)))))) (zaw (eC (.bool false))) sNx)
  (zaw (e2 eqD (zae zat (zab (eV 1) (zab (eV 2) zah))) (eC (.int 1)))))))
def ziD:List D->R D:=zaU false 1 3 zek
def zfn:SF:=(zaw (zae zbt (zab (e2 zaY (e2 zcd (e2 ixD (eV 0) (eC (.int 0))) (e2 ixD (eV 1) (eC (.int 1)))) (e2 zcd (e2 ixD (eV 1) (eC (.int 0))) (e2 ixD (eV 0) (eC (.int 1))))) (zab (e2 zcd (e2 ixD (eV 0) (eC (.int 1))) (e2 ixD (eV 1) (eC (.int 1)))) zah))))
def zeP:List D->R D:=zaU false 2 2 zfn
def zh5:SF:=(zaw (zae zbt (zab (e2 zcd (e2 ixD (eV 0) (eC (.int 0))) (e2 ixD (eV 1) (eC (.int 0)))) (zab (e2 zcd (e2 ixD (eV 0) (eC (.int 1))) (e2 ixD (eV 1) (eC (.int 1)))) zah))))
def zhs:List D->R D:=zaU false 2 2 zh5
end FL
namespace FL
open PySem
theorem zj3 (t:Int) {b n:Nat} (hb:b ≠ 0) (hl:b < 2 ^ n) (hn:n<=90000000):zbt [.int t,.int (b:Int)]=.ok (.tuple [.int (Q1.fr t (b:Int)).1,.int (Q1.fr t (b:Int)).2]):=by
 have gS:=zwC (a:=t) hb hl
 have s1:zaC (gN 2) (FL.e1 zqR (eV 0)) [.val (.int t),.val (.int (b:Int)),.no,.no]=.ok (.nx,[.val (.int t),.val (.int (b:Int)),.val (.int (t.natAbs:Int)),.no]):=by
  simp only [zaC,FL.e1,eV,zz0,zad,znM,gN,zz1,List.set_cons_succ,List.set_cons_zero]
 have s2:zaC (gN 3) (eV 1) [.val (.int t),.val (.int (b:Int)),.val (.int (t.natAbs:Int)),.no]=.ok (.nx,[.val (.int t),.val (.int (b:Int)),.val (.int (t.natAbs:Int)),.val (.int (b:Int))]):=rfl
 have s3:zea [.val (.int t),.val (.int (b:Int)),.val (.int (t.natAbs:Int)),.val (.int (b:Int))]=.ok (.nx,[.val (.int t),.val (.int (b:Int)),.val (.int ((Int.gcd t (b:Int):Nat):Int)),.val (.int 0)]):=by
  unfold zea zhI
  have:zdY 3 [.val (.int t),.val (.int (b:Int)),.val (.int (t.natAbs:Int)),.val (.int (b:Int))]=b + 1:=by
   show ((b:Int)).natAbs + 1=_
   simp
  rw [this]
  exact zkg _ _ _ _ _ (by omega)
 have k1:zbM (.int t) (.int ((Int.gcd t (b:Int):Nat):Int))=.ok (.int (t / ((Int.gcd t (b:Int):Nat):Int))):=zqv gS.1 gS.2 hn
 have k2:zbM (.int (b:Int)) (.int ((Int.gcd t (b:Int):Nat):Int))=.ok (.int ((b:Int) / ((Int.gcd t (b:Int):Nat):Int))):=zqv gS.1 gS.2 hn
 have l2:leB 2 lim=true:=by decide
 show ((zgt [.val (.int t),.val (.int (b:Int)),.no,.no]).bind _).bind _=_
 unfold zgt
 rw [zak s1,zak s2,zak s3]
 simp only [zaw,zem,zab,FL.e2,eV,zz0,zad,zz1,k1,zah,k2,List.length_cons,List.length_nil,Nat.reduceAdd,zay l2,List.replicate,outs,outD]
 rw [Q1.znu (by omega)]
theorem zs4 (t:Int) {b n:Nat} (hb:b ≠ 0) (hl:b < 2 ^ n) (hn:n<=90000000):zbt [.int t,.int (b:Int)]=.ok (num (Rat.normalize t b hb)):=by
 rw [zj3 t hb hl hn,QR.norm hb]
 rfl
theorem lx0 (a b:Int):ixD (.tuple [.int a,.int b]) (.int 0)=.ok (.int a):=rfl
theorem lx1 (a b:Int):ixD (.tuple [.int a,.int b]) (.int 1)=.ok (.int b):=rfl
theorem zng {r s:Rat} {n:Nat} (hr:QR.Bd n r) (hs:QR.Bd n s) (hn:n<=40000000):zeP [num r,num s]=.ok (num (r + s)):=by
 have br:=zsz hr
 have bs:=zsz hs
 have k1:zcd (.int r.num) (.int (s.den:Int))=.ok (.int (r.num * (s.den:Int))):=za6 br.1 bs.2 (by omega)
 have k2:zcd (.int s.num) (.int (r.den:Int))=.ok (.int (s.num * (r.den:Int))):=za6 bs.1 br.2 (by omega)
 have k3:zcd (.int (r.den:Int)) (.int (s.den:Int))=.ok (.int ((r.den:Int) * (s.den:Int))):=za6 br.2 bs.2 (by omega)
 have ad:∀ (a b:Int),zaY (.int a) (.int b)=.ok (.int (a + b)):=fun _ _=>rfl
 have nz:r.den * s.den ≠ 0:=Nat.mul_ne_zero r.den_nz s.den_nz
 have k4:zbt [.int (r.num * (s.den:Int) + s.num * (r.den:Int)),.int ((r.den:Int) * (s.den:Int))]=.ok (num (r + s)):=by
  have:=zj3 (r.num * (s.den:Int) + s.num * (r.den:Int)) nz (QR.zfR hr.2 hs.2) (by omega)
  rw [Int.natCast_mul] at this
  rw [this,QR.add]
  rfl
 refine zbd (ρ:=[.val (num r),.val (num s)]) rfl ?_
 show zfn [.val (num r),.val (num s)]=.ok (_,[.val (num r),.val (num s)])
 unfold zfn num
 simp only [zaw,zae,zab,FL.e2,eV,zz0,eC,zad,lx0,zz1,lx1,k1,k2,ad,zah,k3,k4]
 rfl
theorem zs7 {r s:Rat} {n:Nat} (hr:QR.Bd n r) (hs:QR.Bd n s) (hn:n<=40000000):zhs [num r,num s]=.ok (num (r * s)):=by
 have br:=zsz hr
 have bs:=zsz hs
 have k1:zcd (.int r.num) (.int s.num)=.ok (.int (r.num * s.num)):=za6 br.1 bs.1 (by omega)
 have k3:zcd (.int (r.den:Int)) (.int (s.den:Int))=.ok (.int ((r.den:Int) * (s.den:Int))):=za6 br.2 bs.2 (by omega)
 have nz:r.den * s.den ≠ 0:=Nat.mul_ne_zero r.den_nz s.den_nz
 have k4:zbt [.int (r.num * s.num),.int ((r.den:Int) * (s.den:Int))]=.ok (num (r * s)):=by
  have:=zj3 (r.num * s.num) nz (QR.zfR hr.2 hs.2) (by omega)
  rw [Int.natCast_mul] at this
  rw [this,QR.mul]
  rfl
 refine zbd (ρ:=[.val (num r),.val (num s)]) rfl ?_
 show zh5 [.val (num r),.val (num s)]=.ok (_,[.val (num r),.val (num s)])
 unfold zh5 num
 simp only [zaw,zae,zab,FL.e2,eV,zz0,eC,zad,lx0,zz1,k1,zah,lx1,k3,k4]
 rfl
end FL
namespace FL
open PySem
def told (s:Sm):D:=.list ((zvp s).map tln)
theorem zjs {α:Type} {k:Nat} {ix:List Nat} {g:GF} {t:TF} {kf vf:EF} {ρ:En} {f:α->D} (all:List α) (P:List α->D->Prop)
  (st:∀ done x rest acc,all=done ++ x :: rest->P done acc->∃ acc',P (done ++ [x]) acc'/\∀ tail,zgP k ix g t kf vf (f x :: tail) ρ acc=zgP k ix g t kf vf tail ρ acc'):∀ (xs done:List α) (acc:D),all=done ++ xs->P done acc ->
  ∃ acc',P all acc'/\zgP k ix g t kf vf (xs.map f) ρ acc=.ok (acc',ρ)
 | [],done,acc,ha,h=>⟨acc,by rw [ha];simpa using h,rfl⟩
 | x :: r,done,acc,ha,h=>by
  obtain ⟨a1,h1,e1'⟩:=st done x r acc ha h
  obtain ⟨a2,h2,e2'⟩:=zjs all P st r (done ++ [x]) a1 (by rw [ha];simp) h1
  refine ⟨a2,h2,?_⟩
  rw [List.map_cons,e1',e2']
theorem zuz (r:Rat):ziD [num r]=.ok (.bool true):=by
 have k1:zb7 "tuple" (num r)=.ok (.bool true):=rfl
 have wh:∀ i:Int,zgD [.int i]=.ok (.bool true):=fun _=>rfl
 have k3:ltD (.int (r.den:Int)) (.int 1)=.ok (.bool false):=by
  rw [zhU];congr 2
  have:=r.den_nz
  exact decide_eq_false (by omega)
 have k4:zat [.int r.num,.int (r.den:Int)]=.ok (.int 1):=by
  rw [znp];congr 2
  have:=(QR.low r).cop
  omega
 have k5:neD (.int 2) (.int 2)=.ok (.bool false):=by rw [zbT];rfl
 have k6:eqD (.int 1) (.int 1)=.ok (.bool true):=by rw [zb9];rfl
 have k7:gT [gN 1,gN 2] (num r) [.val (num r),.no,.no]=.ok [.val (num r),.val (.int r.num),.val (.int (r.den:Int))]:=rfl
 refine zbd (ρ:=[.val (num r),.val (.int r.num),.val (.int (r.den:Int))]) rfl ?_
 show zek [.val (num r),.no,.no]=_
 unfold zek
 have s1:sIf (FL.tOr (FL.zcx (tE (FL.e1 (zb7 "tuple") (eV 0)))) (tB (FL.e2 neD (FL.e1 zbD (eV 0)) (eC (.int 2))))) (zaw (eC (.bool false))) sNx [.val (num r),.no,.no]=.ok (.nx,[.val (num r),.no,.no]):=by
  have l2:zbD (num r)=.ok (.int 2):=rfl
  simp only [sIf,FL.tOr,FL.zcx,tE,tB,FL.e1,FL.e2,eV,eC,sNx,zad,zz0,k1,l2,k5,zhG,Bool.not_true,Bool.false_eq_true,if_false,if_true]
 have s2:zaC (gT [gN 1,gN 2]) (eV 0) [.val (num r),.no,.no]=.ok (.nx,[.val (num r),.val (.int r.num),.val (.int (r.den:Int))]):=rfl
 rw [zak s1,zak s2]
 simp only [zaq,sIf,FL.tOr,FL.zcx,tE,zae,zab,eV,zz1,zz0,zah,zad,wh,zhG,Bool.not_true,tB,FL.e2,eC,Bool.false_eq_true,k3,if_false,zaw,sNx,k4,k6]
end FL
namespace FL
open PySem
structure Wok (c:Int) (p:List Int × Rat):Prop where
 ln:p.1.length<=5
 lt:∀ x ∈ p.1,0<=x/\x < c
 nz:p.2 ≠ 0
inductive zw4 (p:List Int × Rat):D->Prop where
 | none:zw4 p .none
 | some (p':List Int × Rat):ltW (kyS p') (kyS p)=true->zw4 p (tln p')
end FL
namespace FL
open PySem
theorem zmB {F:List D->R (D × List D)} {i:Nat} {ρ:En} {p:Bool} {d r d':D} (hi:ρ[i]?=some (.ow p d)) (hF:F [d]=.ok (r,[d'])):zal F [.m i] ρ=.ok (r,ρ.set i (.ow p d')):=by
 have h:=zdA (F:=fun l=>match l with | [a,b]=>(F [a]).bind fun y=>.ok (y.1,y.2 ++ [b]) | _=>.bad) (f:=eC .none) (v:=.none) (v':=.none) (r:=r) (d':=d') hi rfl (by show (F [d]).bind _=_;rw [hF];rfl)
 have hm:zaE ρ i=.ok d:=by unfold zaE;rw [hi]
 unfold zal at h ⊢
 simp only [zkq,hm,zad,eC,ziK,hF] at h ⊢
 exact h
structure Dr (c:Int) (n:Nat) (s:Sm):Prop where
 nk:Nk s
 wk:∀ p ∈ s,Wok c p
 bd:∀ p ∈ s,QR.Bd 14 p.2
 ln:s.length<=n
end FL
namespace MD
abbrev Rw:=Nat->Int
def ex (f:List Nat->Int) (w:Rw):List Nat->List Nat->Int
 | _,[]=>0
 | pre,c :: cs=>w c * f (pre ++ cs) - ex f w (pre ++ [c]) cs
def det:List Rw->List Nat->Int
 | [],[]=>1
 | [],_ :: _=>0
 | w :: ws,cs=>ex (det ws) w [] cs
def Alt (f:List Nat->Int):Prop:=∀ pre c d post,f (pre ++ c :: d :: post)=- f (pre ++ d :: c :: post)
theorem znv {f:List Nat->Int} (h:Alt f) (w:Rw):∀ (post A B:List Nat) (c d:Nat),ex f w (A ++ c :: d :: B) post=- ex f w (A ++ d :: c :: B) post
 | [],_,_,_,_=>by simp [ex]
 | x :: post,A,B,c,d=>by
  have e1:=h A c d (B ++ post)
  have e2:=znv h w post A (B ++ [x]) c d
  simp only [ex,List.append_assoc,List.cons_append] at e1 e2 ⊢
  rw [e1,e2]
  grind
theorem ztj {f:List Nat->Int} (h:Alt f) (w:Rw):∀ (pre A:List Nat) (c d:Nat) (post:List Nat),ex f w A (pre ++ c :: d :: post)=- ex f w A (pre ++ d :: c :: post)
 | [],A,c,d,post=>by
  have e2:=znv h w post A [] c d
  simp only [ex,List.nil_append,List.append_assoc,List.cons_append] at e2 ⊢
  rw [e2]
  grind
 | x :: pre,A,c,d,post=>by
  have e1:=h (A ++ pre) c d post
  have e2:=ztj h w pre (A ++ [x]) c d post
  simp only [ex,List.append_assoc,List.cons_append] at e1 e2 ⊢
  rw [e1,e2]
  grind
theorem zkj:∀ ws:List Rw,Alt (det ws)
 | []=>fun pre c d post=>by cases pre <;> simp [det]
 | w :: ws=>fun pre c d post=>ztj (zkj ws) w pre [] c d post
theorem zqQ {f:List Nat->Int} (h:Alt f) (pre:List Nat) (c:Nat) (post:List Nat):f (pre ++ c :: c :: post)=0:=by
 have:=h pre c c post
 omega
theorem zf8 {f:List Nat->Int} (h:Alt f):∀ (mid pre post:List Nat),∃ e:Int,(e=1\/e=-1)/\∀ c,f (pre ++ c :: (mid ++ post))=e * f (pre ++ (mid ++ c :: post))
 | [],pre,post=>⟨1,.inl rfl,fun c=>by simp⟩
 | m :: mid,pre,post=>by
  obtain ⟨e,he,q⟩:=zf8 h mid (pre ++ [m]) post
  refine ⟨-e,by omega,fun c=>?_⟩
  have e1:=h pre c m (mid ++ post)
  have e2:=q c
  simp only [List.append_assoc,List.cons_append,List.nil_append] at e1 e2 ⊢
  rw [e1,e2]
  grind
theorem zgv {ws:List Rw} {l:Nat} {pre post:List Nat} {c:Nat} (h:c ∈ pre ++ post):det ws (pre ++ c :: post)=0:=by
 have A:=zkj ws
 rcases List.mem_append.mp h with h | h
 ·obtain ⟨p1,p2,rfl⟩:=List.append_of_mem h
  obtain ⟨e,_,q⟩:=zf8 A p2 (p1 ++ [c]) post
  have z:=zqQ A p1 c (p2 ++ post)
  have q':=q c
  simp only [List.append_assoc,List.cons_append,List.nil_append] at q' z ⊢
  rw [z] at q'
  rcases (by assumption:e=1\/e=-1) with r | r <;> rw [r] at q' <;> omega
 ·obtain ⟨p1,p2,rfl⟩:=List.append_of_mem h
  obtain ⟨e,_,q⟩:=zf8 A p1 pre (c :: p2)
  have z:=zqQ A (pre ++ p1) c p2
  have q':=q c
  simp only [List.append_assoc,List.cons_append,List.nil_append] at q' z ⊢
  rw [q',z,Int.mul_zero]
def Sp:List Rw->Rw->Prop
 | [],v=>∀ j,v j=0
 | w :: ws,v=>∃ (a:Int) (z:Rw),Sp ws z/\∀ j,v j=a * w j + z j
theorem Sp.lin:∀ {ws:List Rw} {u v:Rw} (a b:Int),Sp ws u->Sp ws v->Sp ws (fun j=>a * u j + b * v j)
 | [],_,_,_,_,h1,h2=>fun j=>by simp [h1 j,h2 j]
 | w :: ws,u,v,a,b,⟨x,y,h1,e1⟩,⟨x',y',h2,e2⟩=>⟨a * x + b * x',_,Sp.lin a b h1 h2,fun j=>by show a * u j + b * v j=(a * x + b * x') * w j + (a * y j + b * y' j);rw [e1 j,e2 j];grind⟩
theorem Sp.zero:∀ (ws:List Rw),Sp ws (fun _=>0)
 | []=>fun _=>rfl
 | w :: ws=>⟨0,_,Sp.zero ws,fun j=>by simp⟩
theorem Sp.of_eq {ws:List Rw} {u v:Rw} (h:Sp ws u) (e:∀ j,u j=v j):Sp ws v:=(funext e:u=v) ▸ h
theorem Sp.old {ws:List Rw} {w v:Rw} (h:Sp ws v):Sp (w :: ws) v:=⟨0,v,h,fun j=>by simp⟩
theorem zmy {ws:List Rw} (h:∀ cs,Sp ws (fun j=>det ws (j :: cs))) (w:Rw):∀ (cs B:List Nat),Sp ws (fun j=>ex (det ws) w (j :: B) cs)
 | [],B=>(Sp.zero ws).of_eq fun j=>by simp [ex]
 | c :: cs,B=>((h (B ++ cs)).lin (w c) (-1) (zmy h w cs (B ++ [c]))).of_eq fun j=>by simp only [ex,List.cons_append];grind
theorem zhn:∀ (ws:List Rw) (cs:List Nat),Sp ws (fun j=>det ws (j :: cs))
 | [],cs=>fun j=>rfl
 | w :: ws,cs=>⟨det ws cs,_,(zmy (zhn ws) w cs []).lin (-1) 0 (Sp.zero ws),fun j=>by simp only [det,ex,List.nil_append];grind⟩
theorem zwJ {f:List Nat->Int} {w:Rw} {A M N:Nat} (hw:∀ j,(w j).natAbs<=A) (hf:∀ cs,cs.length<=N->(f cs).natAbs<=M):∀ (cs B:List Nat),B.length + cs.length<=N + 1->(ex f w B cs).natAbs<=cs.length * (A * M)
 | [],B,_=>by simp [ex]
 | c :: cs,B,hl=>by
  have hl':B.length + cs.length<=N:=by simp only [List.length_cons] at hl;omega
  have h1:=zwJ hw hf cs (B ++ [c]) (by simp only [List.length_append,List.length_cons,List.length_nil];omega)
  have h2:(w c * f (B ++ cs)).natAbs<=A * M:=by rw [Int.natAbs_mul];exact Nat.mul_le_mul (hw c) (hf _ (by simpa using hl'))
  have h3:(cs.length + 1) * (A * M)=cs.length * (A * M) + A * M:=by rw [Nat.add_mul,Nat.one_mul]
  simp only [ex,List.length_cons]
  rw [h3]
  omega
theorem zny {A N:Nat}:∀ (ws:List Rw) (cs:List Nat),(∀ w ∈ ws,∀ j,(w j).natAbs<=A)->cs.length<=N->(det ws cs).natAbs<=(N * A) ^ ws.length
 | [],[],_,_=>by simp [det]
 | [],_ :: _,_,_=>by simp [det]
 | w :: ws,cs,h,hl=>by
  have h1:=zwJ (f:=det ws) (M:=(N * A) ^ ws.length) (N:=N) (h w (.head _)) (fun cs hc=>zny ws cs (fun v hv=>h v (.tail _ hv)) hc) cs [] (by simp;omega)
  have h2:cs.length * (A * (N * A) ^ ws.length)<=N * (A * (N * A) ^ ws.length):=Nat.mul_le_mul_right _ hl
  have h3:N * (A * (N * A) ^ ws.length)=(N * A) ^ (ws.length + 1):=by rw [Nat.pow_succ,<- Nat.mul_assoc,Nat.mul_comm]
  show (ex (det ws) w [] cs).natAbs<=(N * A) ^ (ws.length + 1)
  omega
def Inj (ws:List Rw) (S:List Nat):Prop:=∀ v,Sp ws v->(∀ s ∈ S,v s=0)->∀ j,v j=0
theorem zuC:Inj [] []:=fun _ h _=>h
theorem zuS (ws:List Rw) (w:Rw) (cs:List Nat):∃ z,Sp ws z/\∀ j,det (w :: ws) (j :: cs)=det ws cs * w j + z j :=
 ⟨_,(zmy (zhn ws) w cs []).lin (-1) 0 (Sp.zero ws),fun j=>by simp only [det,ex,List.nil_append];grind⟩
theorem zd7 {a b:Int} (h:a ≠ 0) (g:b ≠ 0):a * b ≠ 0:=fun e=>(Int.mul_eq_zero.mp e).elim h g
theorem step {ws:List Rw} {S:List Nat} {w v z:Rw} {p:Nat} {k a:Int} (hD:det ws S ≠ 0) (hi:Inj ws S) (hk:k ≠ 0) (hz:Sp ws z) (he:∀ j,k * v j=a * w j + z j) (hv:∀ s ∈ S,v s=0) (hp:v p ≠ 0) :
  det (w :: ws) (p :: S) ≠ 0/\Inj (w :: ws) (p :: S):=by
 obtain ⟨z',hz',e'⟩:=zuS ws w S
 have u0:∀ s ∈ S,det (w :: ws) (s :: S)=0:=fun s hs=>zgv (l:=0) (pre:=[]) (by simpa using hs)
 have hu:det (w :: ws) (p :: S) ≠ 0:=by
  have q:=hi _ (hz.lin (det ws S) (-a) hz') (fun s hs=>by
   have h1:=he s
   have h2:=e' s
   rw [hv s hs] at h1
   rw [u0 s hs] at h2
   grind) p
  have h1:=he p
  have h2:=e' p
  intro h0
  rw [h0] at h2
  have:det ws S * (k * v p)=0:=by grind
  exact zd7 hD (zd7 hk hp) this
 refine ⟨hu,fun x hx hs j=>?_⟩
 obtain ⟨b,y,hy,ex⟩:=hx
 have q:=hi _ (hy.lin (det ws S) (-b) hz') (fun s hs'=>by
  have h1:=ex s
  have h2:=e' s
  rw [hs s (.tail _ hs')] at h1
  rw [u0 s hs'] at h2
  grind)
 have b0:b=0:=by
  have h1:=ex p
  have h2:=e' p
  have h3:=q p
  rw [hs p (.head _)] at h1
  have:b * det (w :: ws) (p :: S)=0:=by grind
  exact (Int.mul_eq_zero.mp this).resolve_right hu
 have h1:=ex j
 have h3:=q j
 have:det ws S * x j=0:=by grind
 exact (Int.mul_eq_zero.mp this).resolve_left hD
theorem zh9 {a D:Int} {h:Rw} (ha:a ≠ 0) (hd:∀ j,a ∣ D * h j) (prim:∀ q:Int,(∀ j,q ∣ h j)->q ∣ 1):a ∣ D:=by
 have g0:0 < Nat.gcd a.natAbs D.natAbs:=Nat.gcd_pos_of_pos_left _ (by omega)
 obtain ⟨a',ea⟩:=Nat.gcd_dvd_left a.natAbs D.natAbs
 obtain ⟨d',ed⟩:=Nat.gcd_dvd_right a.natAbs D.natAbs
 have co:Nat.Coprime a' d':=by
  have:=Nat.coprime_div_gcd_div_gcd g0
  rwa [Nat.div_eq_of_eq_mul_right g0 ea,Nat.div_eq_of_eq_mul_right g0 ed] at this
 have gd:=Nat.gcd_dvd_right a.natAbs D.natAbs
 generalize Nat.gcd a.natAbs D.natAbs=g at *
 have q:=prim (a':Int) (fun j=>by
  have:=Int.natAbs_dvd_natAbs.mpr (hd j)
  rw [Int.natAbs_mul,ea,ed,Nat.mul_assoc] at this
  exact Int.natAbs_dvd_natAbs.mp (by simpa using co.dvd_of_dvd_mul_left (Nat.dvd_of_mul_dvd_mul_left g0 this)))
 have:a'=1:=by
  have:=Int.natAbs_dvd_natAbs.mpr q
  simpa using this
 subst this
 rw [Nat.mul_one] at ea
 exact Int.natAbs_dvd_natAbs.mp (by rw [ea];exact gd)
theorem zuD {ws:List Rw} {pre post:List Nat} {l A N:Nat} {h:Rw} {k:Int} (hD:det ws (pre ++ l :: post) ≠ 0) (hi:Inj ws (pre ++ l :: post)) (hk:k ≠ 0) (hs:Sp ws fun j=>k * h j)
  (hz:∀ s ∈ pre ++ post,h s=0) (prim:∀ q:Int,(∀ j,q ∣ h j)->q ∣ 1) (hA:∀ w ∈ ws,∀ j,(w j).natAbs<=A) (hN:(pre ++ l :: post).length<=N) (j:Nat):(h j).natAbs<=(N * A) ^ ws.length:=by
 obtain ⟨e,he,q⟩:=zf8 (zkj ws) pre [] post
 simp only [List.nil_append] at q
 have e1:e * e=1:=by rcases he with r | r <;> rw [r] <;> rfl
 have su:Sp ws (fun j=>det ws (pre ++ j :: post)):=((zhn ws (pre ++ post)).lin e 0 (Sp.zero ws)).of_eq fun j=>by rw [q j,<- Int.mul_assoc,e1];simp
 have r:=hi _ (hs.lin (det ws (pre ++ l :: post)) (-(k * h l)) su) (fun s hs'=>by
  by_cases c:s=l
  ·subst c;grind
  ·have m:s ∈ pre ++ post:=by
    rcases List.mem_append.mp hs' with m | m
    ·exact List.mem_append_left _ m
    ·exact List.mem_append_right _ ((List.mem_cons.mp m).resolve_left c)
   have z1:=hz s m
   have z2:det ws (pre ++ s :: post)=0:=zgv (l:=0) m
   simp [z1,z2])
 have r':∀ j,det ws (pre ++ l :: post) * h j=h l * det ws (pre ++ j :: post):=fun j=>by
  have:=r j
  have:k * (det ws (pre ++ l :: post) * h j - h l * det ws (pre ++ j :: post))=0:=by grind
  have:=(Int.mul_eq_zero.mp this).resolve_left hk
  omega
 have hl:h l ≠ 0:=fun h0=>by
  have:∀ j,h j=0:=fun j=>by
   have:=r' j
   rw [h0,Int.zero_mul] at this
   exact (Int.mul_eq_zero.mp this).resolve_left hD
  have:=prim 0 (fun j=>by rw [this j];exact Int.dvd_refl 0)
  omega
 obtain ⟨t,et⟩:=zh9 hl (fun j=>⟨_,r' j⟩) prim
 have t0:t ≠ 0:=fun h0=>hD (by rw [et,h0,Int.mul_zero])
 have eu:det ws (pre ++ j :: post)=t * h j:=by
  have:=r' j
  rw [et,Int.mul_assoc] at this
  exact (Int.eq_of_mul_eq_mul_left hl this).symm
 have b:=zny ws (pre ++ j :: post) hA (by simpa using hN)
 rw [eu,Int.natAbs_mul] at b
 have:(h j).natAbs<=t.natAbs * (h j).natAbs:=Nat.le_mul_of_pos_left _ (by omega)
 omega
end MD
namespace MD
def fn (xs:List Int):Rw:=fun j=>xs.getD j 0
def zgq (g:Nat) (xs:List Int):Nat:=xs.foldl (fun g x=>Nat.gcd g x.natAbs) g
theorem zeJ:∀ (xs:List Int) (g:Nat),zgq g xs ∣ g/\∀ x ∈ xs,zgq g xs ∣ x.natAbs
 | [],g=>⟨Nat.dvd_refl g,fun _ h=>nomatch h⟩
 | x :: xs,g=>by
  obtain ⟨h1,h2⟩:=zeJ xs (Nat.gcd g x.natAbs)
  refine ⟨Nat.dvd_trans h1 (Nat.gcd_dvd_left _ _),fun y hy=>?_⟩
  rcases List.mem_cons.mp hy with e | hy
  ·subst e;exact Nat.dvd_trans h1 (Nat.gcd_dvd_right _ _)
  ·exact h2 y hy
theorem znw {d:Nat}:∀ (xs:List Int) (g:Nat),d ∣ g->(∀ x ∈ xs,d ∣ x.natAbs)->d ∣ zgq g xs
 | [],_,h,_=>h
 | x :: xs,g,h,hx=>znw xs _ (Nat.dvd_gcd h (hx x (.head _))) fun y hy=>hx y (.tail _ hy)
def zlY (xs:List Int):List Int:=if zgq 0 xs=0 then xs else xs.map (· / (zgq 0 xs:Int))
def Prim (h:Rw):Prop:=∀ q:Int,(∀ j,q ∣ h j)->q ∣ 1
theorem zti {f:Int->Int} (f0:f 0=0) (xs:List Int) (j:Nat):fn (xs.map f) j=f (fn xs j):=by
 unfold fn
 rw [List.getD_eq_getElem?_getD,List.getD_eq_getElem?_getD,List.getElem?_map]
 cases xs[j]? with
 | none=>exact f0.symm
 | some x=>rfl
theorem zqt {xs:List Int} {j:Nat}:fn xs j=0\/fn xs j ∈ xs:=by
 unfold fn
 rw [List.getD_eq_getElem?_getD]
 cases h:xs[j]? with
 | none=>exact .inl rfl
 | some x=>exact .inr (List.mem_of_getElem? h)
theorem znf {xs:List Int} {x:Int} (h:x ∈ xs):∃ j,j < xs.length/\fn xs j=x:=by
 obtain ⟨j,hj,e⟩:=List.getElem_of_mem h
 exact ⟨j,hj,by unfold fn;rw [List.getD_eq_getElem?_getD,List.getElem?_eq_getElem hj,e];rfl⟩
theorem zlh {xs:List Int} {j:Nat} (h:xs.length<=j):fn xs j=0:=by
 unfold fn
 rw [List.getD_eq_getElem?_getD,List.getElem?_eq_none h]
 rfl
theorem zmX (xs:List Int):(zlY xs).length=xs.length:=by unfold zlY;split <;> simp
theorem zeC (xs:List Int):∃ g:Int,0 < g/\∀ j,g * fn (zlY xs) j=fn xs j:=by
 unfold zlY
 split
 ·exact ⟨1,by decide,fun j=>by simp⟩
 ·refine ⟨(zgq 0 xs:Int),by omega,fun j=>?_⟩
  rw [zti (by simp)]
  rcases zqt (xs:=xs) (j:=j) with e | e
  ·rw [e];simp
  ·exact Int.mul_ediv_cancel' (Int.natAbs_dvd_natAbs.mp (by simpa using (zeJ xs 0).2 _ e))
theorem ztx (xs:List Int) (j:Nat):(fn (zlY xs) j).natAbs<=(fn xs j).natAbs:=by
 obtain ⟨g,g0,h⟩:=zeC xs
 rw [<- h j,Int.natAbs_mul]
 exact Nat.le_mul_of_pos_left _ (by omega)
theorem zoX {xs:List Int} (h:∃ j,fn xs j ≠ 0):Prim (fn (zlY xs)):=by
 obtain ⟨j,hj⟩:=h
 have g0:zgq 0 xs ≠ 0:=fun e=>by
  rcases zqt (xs:=xs) (j:=j) with c | c
  ·exact hj c
  ·have:=(zeJ xs 0).2 _ c
   rw [e] at this
   have:=Nat.eq_zero_of_zero_dvd this
   omega
 intro q hq
 have e:∀ j,(zgq 0 xs:Int) * fn (zlY xs) j=fn xs j:=fun j=>by
  unfold zlY
  rw [if_neg g0,zti (by simp)]
  rcases zqt (xs:=xs) (j:=j) with e | e
  ·rw [e];simp
  ·exact Int.mul_ediv_cancel' (Int.natAbs_dvd_natAbs.mp (by simpa using (zeJ xs 0).2 _ e))
 have d:=znw (d:=zgq 0 xs * q.natAbs) xs 0 (Nat.dvd_zero _) (fun x hx=>by
  obtain ⟨j,_,ej⟩:=znf hx
  rw [<- ej,<- e j,Int.natAbs_mul,Int.natAbs_natCast]
  exact Nat.mul_dvd_mul_left _ (Int.natAbs_dvd_natAbs.mpr (hq j)))
 have d':=Nat.dvd_of_mul_dvd_mul_left (Nat.pos_of_ne_zero g0) (show zgq 0 xs * q.natAbs ∣ zgq 0 xs * 1 by rwa [Nat.mul_one])
 exact Int.natAbs_dvd_natAbs.mp (by simpa using d')
def cleared (w o:List Int) (p:Nat):List Int:=if fn w p=0 then w else zlY (List.zipWith (fun m i=>fn o p * m - fn w p * i) w o)
theorem zqr {f:Int->Int->Int} (f0:f 0 0=0) {xs ys:List Int} (h:xs.length=ys.length) (j:Nat):fn (List.zipWith f xs ys) j=f (fn xs j) (fn ys j):=by
 by_cases c:j < xs.length
 ·unfold fn
  rw [List.getD_eq_getElem?_getD,List.getD_eq_getElem?_getD,List.getD_eq_getElem?_getD,List.getElem?_zipWith,List.getElem?_eq_getElem c,List.getElem?_eq_getElem (h ▸ c)]
  rfl
 ·rw [zlh (by simp;omega),zlh (Nat.le_of_not_lt c),zlh (by omega),f0]
theorem zif {w o:List Int} (h:w.length=o.length) (p:Nat):(cleared w o p).length=w.length:=by
 unfold cleared
 split
 ·rfl
 ·rw [zmX];simp;omega
theorem zjw {w o:List Int} {p:Nat} (h:w.length=o.length) (ho:fn o p ≠ 0):∃ g a b:Int,g ≠ 0/\a ≠ 0/\∀ j,g * fn (cleared w o p) j=a * fn w j + b * fn o j:=by
 unfold cleared
 split
 ·exact ⟨1,1,0,by decide,by decide,fun j=>by simp⟩
 ·obtain ⟨g,g0,e⟩:=zeC (List.zipWith (fun m i=>fn o p * m - fn w p * i) w o)
  refine ⟨g,fn o p,- fn w p,by omega,ho,fun j=>?_⟩
  rw [e j,zqr (by simp) h]
  grind
theorem zjx {w o:List Int} {p:Nat} (h:w.length=o.length):fn (cleared w o p) p=0:=by
 unfold cleared
 split
 ·assumption
 ·obtain ⟨g,g0,e⟩:=zeC (List.zipWith (fun m i=>fn o p * m - fn w p * i) w o)
  have:=e p
  rw [zqr (by simp) h] at this
  have:g * fn (zlY (List.zipWith (fun m i=>fn o p * m - fn w p * i) w o)) p=0:=by rw [this];grind
  exact (Int.mul_eq_zero.mp this).resolve_left (by omega)
theorem zen {w o:List Int} {p s:Nat} (h:w.length=o.length) (hw:fn w s=0) (ho:fn o s=0):fn (cleared w o p) s=0:=by
 unfold cleared
 split
 ·exact hw
 ·obtain ⟨g,g0,e⟩:=zeC (List.zipWith (fun m i=>fn o p * m - fn w p * i) w o)
  have:=e s
  rw [zqr (by simp) h,hw,ho] at this
  have:g * fn (zlY (List.zipWith (fun m i=>fn o p * m - fn w p * i) w o)) s=0:=by rw [this];grind
  exact (Int.mul_eq_zero.mp this).resolve_left (by omega)
def PZ (h:Rw):Prop:=(∀ j,h j=0)\/Prim h
theorem zoW (xs:List Int):PZ (fn (zlY xs)):=by
 by_cases c:∃ j,fn xs j ≠ 0
 ·exact .inr (zoX c)
 ·refine .inl fun j=>?_
  obtain ⟨g,g0,e⟩:=zeC xs
  have:=e j
  have z:fn xs j=0:=Classical.byContradiction fun q=>c ⟨j,q⟩
  rw [z] at this
  exact (Int.mul_eq_zero.mp this).resolve_left (by omega)
theorem zju {w o:List Int} {p:Nat} (h:PZ (fn w)):PZ (fn (cleared w o p)):=by
 unfold cleared
 split
 ·exact h
 ·exact zoW _
end MD
namespace MD
abbrev zaV:=List (Nat × List Int)
structure zsH (n:Nat) (ws:List Rw) (S:List Nat) (l:Nat) (h:List Int):Prop where
 len:h.length=n
 lt:l < n
 ne:fn h l ≠ 0
 zero:∀ s ∈ S,s ≠ l->fn h s=0
 prim:Prim (fn h)
 sp:∃ k:Int,k ≠ 0/\Sp ws fun j=>k * fn h j
 low:∀ j,j < l->fn h j=0
structure zbg (n:Nat) (ws:List Rw) (S:List Nat) (held:zaV):Prop where
 keys:held.map (·.1)=S.reverse
 det:det ws S ≠ 0
 inj:Inj ws S
 row:∀ e ∈ held,zsH n ws S e.1 e.2
theorem zsa (n:Nat):zbg n [] [] []:=⟨rfl,by decide,zuC,fun _ h=>nomatch h⟩
def clears (held:zaV) (w:List Int):List Int:=held.foldl (fun x e=>cleared x e.2 e.1) w
structure zsG (n:Nat) (ws:List Rw) (S done:List Nat) (w x:List Int):Prop where
 len:x.length=n
 pz:PZ (fn x)
 zero:∀ s ∈ done,fn x s=0
 sp:∃ (k a:Int) (z:Rw),k ≠ 0/\a ≠ 0/\Sp ws z/\(∀ s ∈ S,s ∉ done->z s=0)/\∀ j,k * fn x j=a * fn w j + z j
theorem zoN {n:Nat} {ws:List Rw} {S done:List Nat} {w x h:List Int} {l:Nat} (R:zsH n ws S l h) (W:zsG n ws S done w x) (hd:∀ s ∈ done,s ∈ S/\s ≠ l):zsG n ws S (l :: done) w (cleared x h l):=by
 have hl:x.length=h.length:=W.len.trans R.len.symm
 refine ⟨(zif hl l).trans W.len,zju W.pz,fun s hs=>?_,?_⟩
 ·rcases List.mem_cons.mp hs with e | hs
  ·subst e;exact zjx hl
  ·exact zen hl (W.zero s hs) (R.zero s (hd s hs).1 (hd s hs).2)
 ·obtain ⟨g,a1,b1,g0,a0,e1⟩:=zjw hl R.ne
  obtain ⟨k,a,z,k0,a0',hz,nz,e2⟩:=W.sp
  obtain ⟨kh,kh0,hh⟩:=R.sp
  refine ⟨k * kh * g,a1 * kh * a,_,zd7 (zd7 k0 kh0) g0,zd7 (zd7 a0 kh0) a0',hz.lin (a1 * kh) (b1 * k) hh,fun s hs hn=>?_,fun j=>?_⟩
  ·have z1:=nz s hs fun c=>hn (.tail _ c)
   have z2:=R.zero s hs fun c=>hn (c ▸ .head _)
   simp [z1,z2]
  have q1:=e1 j
  have q2:=e2 j
  grind
theorem zls {n:Nat} {ws:List Rw} {S:List Nat} {w:List Int}:∀ (held:zaV) (done:List Nat) (x:List Int),(∀ e ∈ held,zsH n ws S e.1 e.2)->(∀ e ∈ held,e.1 ∈ S)->(∀ s ∈ done,s ∈ S)->(held.map (·.1) ++ done).Nodup->zsG n ws S done w x ->
  ∃ done',(∀ s,s ∈ done' ↔ s ∈ held.map (·.1)\/s ∈ done)/\zsG n ws S done' w (clears held x)
 | [],done,x,_,_,_,_,W=>⟨done,fun s=>by simp,W⟩
 | e :: held,done,x,hr,hm,hd,hn,W=>by
  rw [List.map_cons,List.cons_append,List.nodup_cons] at hn
  have W':=zoN (hr e (.head _)) W (fun s hs=>⟨hd s hs,fun c=>hn.1 (List.mem_append_right _ (c ▸ hs))⟩)
  obtain ⟨d,h1,h2⟩:=zls held (e.1 :: done) _ (fun y hy=>hr y (.tail _ hy)) (fun y hy=>hm y (.tail _ hy)) (fun s hs=>(List.mem_cons.mp hs).elim (fun c=>c ▸ hm e (.head _)) (hd s)) (by
   rw [List.nodup_append] at hn ⊢
   refine ⟨hn.2.1,List.nodup_cons.mpr ⟨fun c=>hn.1 (List.mem_append_right _ c),hn.2.2.1⟩,fun a ha b hb c=>?_⟩
   rcases List.mem_cons.mp hb with r | r
   ·exact hn.1 (List.mem_append_left _ (by rw [<- r,<- c];exact ha))
   ·exact hn.2.2.2 a ha b r c) W'
  exact ⟨d,fun s=>by rw [h1];simp only [List.map_cons,List.mem_cons];grind,h2⟩
theorem zfQ {ws:List Rw}:∀ (S pre:List Nat),det ws (pre ++ S) ≠ 0->S.Nodup
 | [],_,_=>List.nodup_nil
 | s :: S,pre,h=>List.nodup_cons.mpr ⟨fun c=>h (zgv (l:=0) (List.mem_append_right _ c)),zfQ S (pre ++ [s]) (by simpa using h)⟩
theorem zcU {ws:List Rw} {S:List Nat} (h:det ws S ≠ 0):S.Nodup:=zfQ S [] h
theorem zbg.mem {n:Nat} {ws:List Rw} {S:List Nat} {held:zaV} (H:zbg n ws S held) {e:Nat × List Int} (h:e ∈ held):e.1 ∈ S:=by
 have:=List.mem_map_of_mem (f:=(·.1)) h
 rw [H.keys] at this
 exact List.mem_reverse.mp this
theorem zlr {n:Nat} {ws:List Rw} {S:List Nat} {held:zaV} {w:List Int} (H:zbg n ws S held) (hw:w.length=n) (pz:PZ (fn w)):zsG n ws S S w (clears held w):=by
 have W:zsG n ws S [] w w:=⟨hw,pz,fun _ h=>(nomatch h),1,1,_,by decide,by decide,Sp.zero ws,fun _ _ _=>rfl,fun j=>by simp⟩
 obtain ⟨d,h1,h2⟩:=zls held [] w H.row (fun e he=>H.mem he) (fun _ h=>(nomatch h)) (by rw [List.append_nil,H.keys];exact List.pairwise_reverse.mpr ((zcU H.det).imp fun h=>h.symm)) W
 obtain ⟨k,a,z,k0,a0,hz,_,e⟩:=h2.sp
 exact ⟨h2.len,h2.pz,fun s hs=>h2.zero s ((h1 s).mpr (.inl (by rw [H.keys];exact List.mem_reverse.mpr hs))),k,a,z,k0,a0,hz,fun s hs hn=>absurd hs hn,e⟩
theorem zsF {n:Nat} {ws:List Rw} {S:List Nat} {held:zaV} {w:List Int} (H:zbg n ws S held) (hw:w.length=n) (pz:PZ (fn w)) (h0:∀ j,fn (clears held w) j=0):∃ k:Int,k ≠ 0/\Sp ws fun j=>k * fn w j:=by
 obtain ⟨k,a,z,k0,a0,hz,_,e⟩:=(zlr H hw pz).sp
 refine ⟨a,a0,(hz.lin (-1) 0 (Sp.zero ws)).of_eq fun j=>?_⟩
 have:=e j
 rw [h0 j] at this
 grind
theorem zjf {h:Rw} (p:PZ h) {l:Nat} (hl:h l ≠ 0):Prim h:=p.resolve_left fun z=>hl (z l)
theorem zsE {n:Nat} {ws:List Rw} {S:List Nat} {held:zaV} {w x:List Int} {p:Nat} (H:zbg n ws S held) (hw:w.length=n) (pz:PZ (fn w)) (hx:x=clears held w) (hp:fn x p ≠ 0) (lo:∀ j,j < p->fn x j=0) :
  zbg n (fn w :: ws) (p :: S) (held.map (fun e=>(e.1,cleared e.2 x p)) ++ [(p,x)]):=by
 have W:=zlr H hw pz
 rw [<- hx] at W
 obtain ⟨k,a,z,k0,a0,hz,_,e⟩:=W.sp
 obtain ⟨hD,hI⟩:=step H.det H.inj k0 hz e W.zero hp
 have pn:p < n:=Nat.lt_of_not_le fun c=>hp (zlh (W.len ▸ c))
 have sx:Sp (fn w :: ws) fun j=>k * fn x j:=⟨a,z,hz,e⟩
 refine ⟨by simp [H.keys,List.map_map,Function.comp_def] ,hD,hI,fun y hy=>?_⟩
 rcases List.mem_append.mp hy with hy | hy
 ·obtain ⟨⟨l,h⟩,he,rfl⟩:=List.mem_map.mp hy
  have R:=H.row _ he
  have ml:=H.mem he
  simp only at R ml ⊢
  have hl:h.length=x.length:=R.len.trans W.len.symm
  obtain ⟨g,a1,b1,g0,a10,e1⟩:=zjw hl hp
  have ne:fn (cleared h x p) l ≠ 0:=fun c=>by
   have:=e1 l
   rw [c,W.zero l ml] at this
   have:a1 * fn h l=0:=by grind
   exact zd7 a10 R.ne this
  refine ⟨(zif hl p).trans R.len,R.lt,ne,fun s hs sl=>?_,zjf (zju (.inr R.prim)) ne,?_,fun j hj=>?_⟩
  ·rcases List.mem_cons.mp hs with c | hs
   ·subst c;exact zjx hl
   ·exact zen hl (R.zero s hs sl) (W.zero s hs)
  ·obtain ⟨kh,kh0,hh⟩:=R.sp
   refine ⟨k * kh * g,zd7 (zd7 k0 kh0) g0,(hh.old.lin (k * a1) (kh * b1) sx).of_eq fun j=>?_⟩
   have:=e1 j
   grind
  ·by_cases c:j < p
   ·exact zen hl (R.low j hj) (lo j c)
   ·have z:fn h p=0:=R.low p (by omega)
    unfold cleared
    rw [if_pos z]
    exact R.low j hj
 ·rw [List.mem_singleton.mp hy]
  exact ⟨W.len,pn,hp,fun s hs c=>W.zero s ((List.mem_cons.mp hs).resolve_left c),zjf W.pz hp,⟨k,k0,sx⟩,lo⟩
theorem zbg.le {n:Nat} {ws:List Rw} {S:List Nat} {held:zaV} {A N:Nat} (H:zbg n ws S held) (hA:∀ w ∈ ws,∀ j,(w j).natAbs<=A) (hN:S.length<=N) {e:Nat × List Int} (he:e ∈ held) (j:Nat):(fn e.2 j).natAbs<=(N * A) ^ ws.length:=by
 have R:=H.row e he
 obtain ⟨pre,post,rfl⟩:=List.append_of_mem (H.mem he)
 obtain ⟨k,k0,sp⟩:=R.sp
 have nd:=zcU H.det
 refine zuD H.det H.inj k0 sp (fun s hs=>R.zero s ?_ ?_) R.prim hA hN j
 ·rcases List.mem_append.mp hs with m | m
  ·exact List.mem_append_left _ m
  ·exact List.mem_append_right _ (.tail _ m)
 ·intro c
  subst c
  exact H.det (zgv (l:=0) hs)
end MD
namespace MD
abbrev Rq:=Nat->Rat
def SpQ:List Rw->Rq->Prop
 | [],v=>∀ j,v j=0
 | w :: ws,v=>∃ (a:Rat) (z:Rq),SpQ ws z/\∀ j,v j=a * (w j:Rat) + z j
theorem SpQ.lin:∀ {ws:List Rw} {u v:Rq} (a b:Rat),SpQ ws u->SpQ ws v->SpQ ws (fun j=>a * u j + b * v j)
 | [],_,_,_,_,h1,h2=>fun j=>by simp only [h1 j,h2 j];grind
 | w :: ws,u,v,a,b,⟨x,y,h1,e1⟩,⟨x',y',h2,e2⟩=>⟨a * x + b * x',_,SpQ.lin a b h1 h2,fun j=>by show a * u j + b * v j=(a * x + b * x') * w j + (a * y j + b * y' j);rw [e1 j,e2 j];grind⟩
theorem SpQ.zero:∀ (ws:List Rw),SpQ ws (fun _=>0)
 | []=>fun _=>rfl
 | w :: ws=>⟨0,_,SpQ.zero ws,fun j=>by grind⟩
theorem SpQ.of_eq {ws:List Rw} {u v:Rq} (h:SpQ ws u) (e:∀ j,u j=v j):SpQ ws v:=(funext e:u=v) ▸ h
theorem SpQ.of:∀ {ws:List Rw} {v:Rw},Sp ws v->SpQ ws (fun j=>(v j:Rat))
 | [],v,h=>fun j=>by show ((v j:Int):Rat)=0;rw [h j];rfl
 | w :: ws,v,⟨a,z,h,e⟩=>⟨(a:Rat),_,SpQ.of h,fun j=>by show ((v j:Int):Rat)=_;rw [e j];push_cast;rfl⟩
theorem SpQ.ofk {ws:List Rw} {v:Rw} {k:Int} (k0:k ≠ 0) (h:Sp ws fun j=>k * v j):SpQ ws (fun j=>(v j:Rat)):=by
 have q:=(SpQ.of h).lin (1 / (k:Rat)) 0 (SpQ.zero ws)
 refine q.of_eq fun j=>?_
 have:(k:Rat) ≠ 0:=by simpa using k0
 push_cast
 grind
theorem SpQ.clear:∀ {ws:List Rw} {v:Rq},SpQ ws v->∃ (d:Int) (z:Rw),d ≠ 0/\Sp ws z/\∀ j,(d:Rat) * v j=(z j:Rat)
 | [],v,h=>⟨1,fun _=>0,by decide,fun _=>rfl,fun j=>by rw [h j];grind⟩
 | w :: ws,v,⟨a,y,h,e⟩=>by
  obtain ⟨d,z,d0,hz,ez⟩:=SpQ.clear h
  have den0:(a.den:Int) ≠ 0:=by have:=a.den_pos;omega
  refine ⟨d * a.den,fun j=>d * a.num * w j + a.den * z j,zd7 d0 den0,⟨d * a.num,_,hz.lin a.den 0 (Sp.zero ws),fun j=>by simp⟩,fun j=>?_⟩
  have q:=ez j
  have dn:(a.den:Rat) ≠ 0:=by have:=a.den_pos;simp;omega
  have an:a * (a.den:Rat)=(a.num:Rat):=by have:=Rat.mkRat_self a;rw [Rat.mkRat_eq_div] at this;grind
  rw [e j]
  push_cast
  rw [<- q,<- an]
  grind
theorem zzc {ws:List Rw} {S:List Nat} (h:Inj ws S) {v:Rq} (hv:SpQ ws v) (h0:∀ s ∈ S,v s=0) (j:Nat):v j=0:=by
 obtain ⟨d,z,d0,hz,e⟩:=hv.clear
 have d0':(d:Rat) ≠ 0:=by simpa using d0
 have q:=h z hz (fun s hs=>by
  have:=e s
  rw [h0 s hs] at this
  have:((z s:Int):Rat)=0:=by grind
  simpa using this) j
 have:=e j
 rw [q] at this
 have:(d:Rat) * v j=0:=by rw [this];rfl
 grind
def kr (e:Nat × List Int):Rq:=fun j=>(fn e.2 j:Rat) / (fn e.2 e.1:Rat)
def zaP (l:List Rat):Rat:=l.foldr (· + ·) 0
theorem SpQ.sum {ws:List Rw}:∀ (held:zaV) (c:Nat × List Int->Rat),(∀ e ∈ held,SpQ ws (kr e))->SpQ ws (fun j=>zaP (held.map fun e=>c e * kr e j))
 | [],_,_=>SpQ.zero ws
 | e :: held,c,h=>((h e (.head _)).lin (c e) 1 (SpQ.sum held c fun y hy=>h y (.tail _ hy))).of_eq fun j=>by simp only [List.map_cons,zaP,List.foldr_cons];grind
theorem zbg.zwp {n:Nat} {ws:List Rw} {S:List Nat} {held:zaV} (H:zbg n ws S held) {e:Nat × List Int} (he:e ∈ held):SpQ ws (kr e):=by
 obtain ⟨k,k0,h⟩:=(H.row e he).sp
 refine ((SpQ.ofk k0 h).lin (1 / (fn e.2 e.1:Rat)) 0 (SpQ.zero ws)).of_eq fun j=>?_
 unfold kr
 grind
theorem zbg.zwq {n:Nat} {ws:List Rw} {S:List Nat} {held:zaV} (H:zbg n ws S held) {e:Nat × List Int} (he:e ∈ held):kr e e.1=1:=by
 have:(fn e.2 e.1:Rat) ≠ 0:=by simpa using (H.row e he).ne
 unfold kr
 grind
theorem zbg.znl {n:Nat} {ws:List Rw} {S:List Nat} {held:zaV} (H:zbg n ws S held) {e:Nat × List Int} (he:e ∈ held) {s:Nat} (hs:s ∈ S) (c:s ≠ e.1):kr e s=0:=by
 unfold kr
 rw [(H.row e he).zero s hs c]
 show ((0:Int):Rat) / _=0
 grind
theorem zjK {f:Nat × List Int->Rat} {s:Nat} {v:Rat}:∀ held:zaV,(held.map (·.1)).Nodup->s ∈ held.map (·.1)->(∀ e ∈ held,e.1=s->f e=v)->(∀ e ∈ held,e.1 ≠ s->f e=0)->zaP (held.map f)=v
 | [],_,h,_,_=>nomatch h
 | e :: held,nd,h,h1,h2=>by
  rw [List.map_cons,List.nodup_cons] at nd
  by_cases c:e.1=s
  ·have:zaP (held.map f)=0:=by
    have z:∀ held:zaV,(∀ y ∈ held,f y=0)->zaP (held.map f)=0:=fun held=>by
     induction held with
     | nil=>exact fun _=>rfl
     | cons y ys ih=>exact fun h=>by simp only [List.map_cons,zaP,List.foldr_cons];rw [h y (.head _)];have:=ih fun z hz=>h z (.tail _ hz);simp only [zaP] at this;rw [this];grind
    exact z held fun y hy=>h2 y (.tail _ hy) fun q=>nd.1 (by rw [c,<- q];exact List.mem_map_of_mem (f:=(·.1)) hy)
   simp only [List.map_cons,zaP,List.foldr_cons] at this ⊢
   rw [this,h1 e (.head _) c]
   grind
  ·have hs:s ∈ held.map (·.1):=(List.mem_cons.mp h).resolve_left fun q=>c q.symm
   have:=zjK held nd.2 hs (fun y hy=>h1 y (.tail _ hy)) (fun y hy=>h2 y (.tail _ hy))
   simp only [List.map_cons,zaP,List.foldr_cons] at this ⊢
   rw [this,h2 e (.head _) c]
   grind
theorem zbg.room {n:Nat} {ws:List Rw} {S:List Nat} {held:zaV} (H:zbg n ws S held) {v:Rq} (hv:SpQ ws v) (j:Nat):v j=zaP (held.map fun e=>v e.1 * kr e j):=by
 have nd:(held.map (·.1)).Nodup:=by rw [H.keys];exact List.pairwise_reverse.mpr ((zcU H.det).imp fun h=>h.symm)
 have q:=zzc H.inj (hv.lin 1 (-1) (SpQ.sum held (fun e=>v e.1) fun e he=>H.zwp he)) (fun s hs=>by
  have ms:s ∈ held.map (·.1):=by rw [H.keys];exact List.mem_reverse.mpr hs
  have:=zjK (f:=fun e=>v e.1 * kr e s) (v:=v s) held nd ms (fun e he c=>by subst c;rw [H.zwq he];grind) (fun e he c=>by rw [H.znl he hs fun q=>c q.symm];grind)
  rw [this]
  grind) j
 grind
end MD
namespace MD
def adj (ws:List Rw) (pre post:List Nat):Rw:=fun j=>det ws (pre ++ j :: post)
theorem ztq (ws:List Rw) (pre post:List Nat):Sp ws (adj ws pre post):=by
 obtain ⟨e,he,q⟩:=zf8 (zkj ws) pre [] post
 simp only [List.nil_append] at q
 have e1:e * e=1:=by rcases he with r | r <;> rw [r] <;> rfl
 exact ((zhn ws (pre ++ post)).lin e 0 (Sp.zero ws)).of_eq fun j=>by unfold adj;rw [q j,<- Int.mul_assoc,e1];simp
def yOf (ws:List Rw) (S:List Nat) (w:Rw) (D:Int):List (List Nat × Nat × List Nat)->Rw
 | []=>fun j=>D * w j
 | (pre,l,post) :: r=>fun j=>yOf ws S w D r j - w l * adj ws pre post j
theorem zsM {ws:List Rw} {S:List Nat} {w:Rw} {D:Int} {A M:Nat} (hw:∀ j,(w j).natAbs<=A) (hD:D.natAbs<=M):∀ (ps:List (List Nat × Nat × List Nat)),(∀ p ∈ ps,∀ j,(adj ws p.1 p.2.2 j).natAbs<=M)->∀ j,(yOf ws S w D ps j).natAbs<=(ps.length + 1) * (A * M)
 | [],_,j=>by
  simp only [yOf,List.length_nil,Nat.zero_add,Nat.one_mul,Int.natAbs_mul]
  rw [Nat.mul_comm]
  exact Nat.mul_le_mul (hw j) hD
 | (pre,l,post) :: r,h,j=>by
  have h1:=zsM (S:=S) hw hD r (fun p hp=>h p (.tail _ hp)) j
  have h2:(w l * adj ws pre post j).natAbs<=A * M:=by rw [Int.natAbs_mul];exact Nat.mul_le_mul (hw l) (h _ (.head _) j)
  have h3:(r.length + 1 + 1) * (A * M)=(r.length + 1) * (A * M) + A * M:=by rw [Nat.add_mul _ 1,Nat.one_mul]
  simp only [yOf,List.length_cons]
  rw [h3]
  omega
theorem zsL {ws:List Rw} {S:List Nat} {w:Rw} {D:Int}:∀ (ps:List (List Nat × Nat × List Nat)),∃ z,Sp ws z/\∀ j,yOf ws S w D ps j=D * w j + z j
 | []=>⟨_,Sp.zero ws,fun j=>by simp [yOf]⟩
 | (pre,l,post) :: r=>by
  obtain ⟨z,hz,e⟩:=zsL (ws:=ws) (S:=S) (w:=w) (D:=D) r
  exact ⟨_,hz.lin 1 (-(w l)) (ztq ws pre post),fun j=>by simp only [yOf];rw [e j];grind⟩
theorem zsN {ws:List Rw} {S:List Nat} {w:Rw} {D:Int} (hD:D=det ws S) {s:Nat} (hs:s ∈ S):∀ (ps:List (List Nat × Nat × List Nat)),(ps.map (·.2.1)).Nodup->(∀ p ∈ ps,S=p.1 ++ p.2.1 :: p.2.2)->yOf ws S w D ps s=if s ∈ ps.map (·.2.1) then 0 else D * w s
 | [],_,_=>by simp [yOf]
 | (pre,l,post) :: r,nd,h=>by
  rw [List.map_cons,List.nodup_cons] at nd
  have ih:=zsN (w:=w) hD hs r nd.2 fun p hp=>h p (.tail _ hp)
  have eS:=h _ (.head _)
  simp only at eS
  simp only [yOf]
  rw [ih]
  by_cases c:s=l
  ·subst c
   have e1:adj ws pre post s=D:=by unfold adj;rw [<- eS,hD]
   have n1:¬ s ∈ r.map (·.2.1):=nd.1
   rw [e1,if_neg n1,if_pos (by simp)]
   grind
  ·have m:s ∈ pre ++ post:=by
    rw [eS] at hs
    rcases List.mem_append.mp hs with m | m
    ·exact List.mem_append_left _ m
    ·exact List.mem_append_right _ ((List.mem_cons.mp m).resolve_left c)
   have e1:adj ws pre post s=0:=zgv (l:=0) m
   have e2:(s ∈ ((pre,l,post) :: r).map (·.2.1)) ↔ s ∈ r.map (·.2.1):=by simp [c]
   rw [e1,Int.mul_zero,Int.sub_zero]
   by_cases d:s ∈ r.map (·.2.1)
   ·rw [if_pos d,if_pos (e2.mpr d)]
   ·rw [if_neg d,if_neg fun z=>d (e2.mp z)]
theorem zxg {ws:List Rw} {S:List Nat} {w x z:Rw} {k a:Int} {A M:Nat} {done:List Nat} (hD:det ws S ≠ 0) (hi:Inj ws S) (hw:∀ j,(w j).natAbs<=A) (hM:∀ cs,cs.length=S.length->(det ws cs).natAbs<=M)
  (k0:k ≠ 0) (a0:a ≠ 0) (hz:Sp ws z) (e:∀ j,k * x j=a * w j + z j) (nd:done.Nodup) (hd:∀ s ∈ done,s ∈ S/\x s=0) (hn:∀ s ∈ S,s ∉ done->z s=0) (pz:PZ x) (j:Nat):(x j).natAbs<=(done.length + 1) * (A * M):=by
 have pick:∀ done:List Nat,(∀ s ∈ done,s ∈ S)->∃ ps:List (List Nat × Nat × List Nat),ps.map (·.2.1)=done/\∀ p ∈ ps,S=p.1 ++ p.2.1 :: p.2.2:=fun done=>by
  induction done with
  | nil=>exact fun _=>⟨[],rfl,fun _ h=>nomatch h⟩
  | cons s r ih =>
   intro h
   obtain ⟨ps,h1,h2⟩:=ih fun t ht=>h t (.tail _ ht)
   obtain ⟨pre,post,e⟩:=List.append_of_mem (h s (.head _))
   refine ⟨(pre,s,post) :: ps,by rw [List.map_cons,h1],fun p hp=>?_⟩
   rcases List.mem_cons.mp hp with c | hp
   ·rw [c];exact e
   ·exact h2 p hp
 obtain ⟨ps,hp1,hp2⟩:=pick done fun s hs=>(hd s hs).1
 obtain ⟨zy,hzy,ey⟩:=zsL (ws:=ws) (S:=S) (w:=w) (D:=det ws S) ps
 have q:=hi _ (hz.lin (det ws S) (-a) hzy) (fun s hs=>by
  have h1:=e s
  have h2:=ey s
  rw [zsN rfl hs ps (hp1 ▸ nd) hp2] at h2
  by_cases c:s ∈ done
  ·rw [if_pos (hp1 ▸ c)] at h2
   rw [(hd s c).2] at h1
   grind
  ·rw [if_neg (by rw [hp1];exact c)] at h2
   rw [hn s hs c]
   grind)
 have r:∀ j,a * yOf ws S w (det ws S) ps j=(det ws S * k) * x j:=fun j=>by
  have h1:=e j
  have h2:=ey j
  have h3:=q j
  grind
 rcases pz with pz | pz
 ·rw [pz j];simp
 ·obtain ⟨t,et⟩:=zh9 a0 (fun j=>⟨_,(r j).symm⟩) pz
  have t0:t ≠ 0:=fun h0=>zd7 hD k0 (by rw [et,h0,Int.mul_zero])
  have ex:yOf ws S w (det ws S) ps j=t * x j:=by
   have:=r j
   rw [et,Int.mul_assoc] at this
   exact Int.eq_of_mul_eq_mul_left a0 this
  have b:=zsM (ws:=ws) (S:=S) (w:=w) (D:=det ws S) hw (hM S rfl) ps (fun p hp j=>hM _ (by
   have:=congrArg List.length (hp2 p hp)
   simp at this ⊢
   omega)) j
  have lp:ps.length=done.length:=by rw [<- hp1,List.length_map]
  rw [ex,Int.natAbs_mul,lp] at b
  have:(x j).natAbs<=t.natAbs * (x j).natAbs:=Nat.le_mul_of_pos_left _ (by omega)
  omega
end MD
namespace MD
theorem zjt {n:Nat} {ws:List Rw} {S:List Nat} {w:List Int}:∀ (held:zaV) (done:List Nat) (x:List Int),(∀ e ∈ held,zsH n ws S e.1 e.2)->(∀ e ∈ held,e.1 ∈ S)->(∀ s ∈ done,s ∈ S)->(held.map (·.1) ++ done).Nodup->zsG n ws S done w x ->
  zsG n ws S ((held.map (·.1)).reverse ++ done) w (clears held x)
 | [],done,x,_,_,_,_,W=>W
 | e :: held,done,x,hr,hm,hd,hn,W=>by
  rw [List.map_cons,List.cons_append,List.nodup_cons] at hn
  have W':=zoN (hr e (.head _)) W (fun s hs=>⟨hd s hs,fun c=>hn.1 (List.mem_append_right _ (c ▸ hs))⟩)
  have:=zjt held (e.1 :: done) _ (fun y hy=>hr y (.tail _ hy)) (fun y hy=>hm y (.tail _ hy)) (fun s hs=>(List.mem_cons.mp hs).elim (fun c=>c ▸ hm e (.head _)) (hd s)) (by
   rw [List.nodup_append] at hn ⊢
   refine ⟨hn.2.1,List.nodup_cons.mpr ⟨fun c=>hn.1 (List.mem_append_right _ c),hn.2.2.1⟩,fun a ha b hb c=>?_⟩
   rcases List.mem_cons.mp hb with r | r
   ·exact hn.1 (List.mem_append_left _ (by rw [<- r,<- c];exact ha))
   ·exact hn.2.2.2 a ha b r c) W'
  rw [List.map_cons,List.reverse_cons,List.append_assoc]
  exact this
theorem zd5 {n:Nat} {ws:List Rw} {S:List Nat} {held:zaV} (H:zbg n ws S held):(held.map (·.1)).Nodup:=by
 rw [H.keys];exact List.pairwise_reverse.mpr ((zcU H.det).imp fun h=>h.symm)
theorem zfT {n:Nat} {ws:List Rw} {S:List Nat} {held:zaV} (H:zbg n ws S held):held.length=S.length:=by
 have:=congrArg List.length H.keys
 simpa using this
theorem zgw:∀ {ws:List Rw} {S:List Nat},det ws S ≠ 0->ws.length=S.length:=by
 have ex0:∀ (f:List Nat->Int) (w:Rw) (cs B:List Nat),(∀ (cs' B':List Nat),(B' ++ cs').length + 1=B.length + cs.length->f (B' ++ cs')=0)->ex f w B cs=0:=by
  intro f w cs
  induction cs with
  | nil=>exact fun _ _=>rfl
  | cons c cs ih =>
   intro B h
   simp only [ex]
   rw [h cs B (by simp;omega),ih (B ++ [c]) (fun cs' B' e=>h cs' B' (by simp at e ⊢;omega))]
   simp
 intro ws
 induction ws with
 | nil =>
  intro S h
  cases S with
  | nil=>rfl
  | cons s S=>exact absurd rfl h
 | cons w ws ih =>
  intro S h
  refine Classical.byContradiction fun ne=>h ?_
  show ex (det ws) w [] S=0
  refine ex0 _ _ _ _ fun cs' B' e=>Classical.byContradiction fun z=>ne ?_
  have:=ih z
  simp at e this ⊢
  omega
theorem zvL {n:Nat} {ws:List Rw} {S:List Nat} {held:zaV} {w:List Int} {A N:Nat} (H:zbg n ws S held) (hw:w.length=n) (pz:PZ (fn w)) (hA:∀ v ∈ ws,∀ j,(v j).natAbs<=A) (hwA:∀ j,(fn w j).natAbs<=A) (hN:ws.length<=N) (h1:1<=A) (i:Nat) :
  (clears (held.take i) w).length=n/\∀ j,(fn (clears (held.take i) w) j).natAbs<=(N + 1) * (A * (N * A) ^ N):=by
 have W:zsG n ws S [] w w:=⟨hw,pz,fun _ h=>(nomatch h),1,1,_,by decide,by decide,Sp.zero ws,fun _ _ _=>rfl,fun j=>by simp⟩
 have lS:=zgw H.det
 have nd:((held.take i).map (·.1)).Nodup:=by rw [List.map_take];exact (zd5 H).sublist (List.take_sublist _ _)
 have R:=zjt (held.take i) [] w (fun e he=>H.row e (List.mem_of_mem_take he)) (fun e he=>H.mem (List.mem_of_mem_take he)) (fun _ h=>(nomatch h)) (by rw [List.append_nil];exact nd) W
 rw [List.append_nil] at R
 refine ⟨R.len,fun j=>?_⟩
 obtain ⟨k,a,z,k0,a0,hz,nz,e⟩:=R.sp
 have hM:∀ cs:List Nat,cs.length=S.length->(det ws cs).natAbs<=(N * A) ^ ws.length:=fun cs hc=>zny ws cs hA (by omega)
 have b:=zxg (M:=(N * A) ^ ws.length) H.det H.inj hwA hM k0 a0 hz e (List.pairwise_reverse.mpr (nd.imp fun h=>h.symm)) (fun s hs=>⟨by
  obtain ⟨e',me,rfl⟩:=List.mem_map.mp (List.mem_reverse.mp hs)
  exact H.mem (List.mem_of_mem_take me),R.zero s hs⟩) nz R.pz j
 have l1:((held.take i).map (·.1)).reverse.length<=N:=by
  have:=zfT H
  simp
  omega
 refine Nat.le_trans b (Nat.mul_le_mul (by omega) (Nat.mul_le_mul_left _ ?_))
 rcases Nat.eq_zero_or_pos N with c | c
 ·have:ws.length=0:=by omega
  rw [this,c]
  exact Nat.le_refl _
 ·exact Nat.pow_le_pow_right (Nat.mul_pos c h1) hN
theorem zuE {n:Nat} {ws:List Rw} {S:List Nat} {held:zaV} {A N:Nat} (H:zbg n ws S held) (hA:∀ v ∈ ws,∀ j,(v j).natAbs<=A) (hN:ws.length<=N) (h1:1<=A) {e:Nat × List Int} (he:e ∈ held) (j:Nat):(fn e.2 j).natAbs<=(N + 1) * (A * (N * A) ^ N):=by
 have lS:=zgw H.det
 have b:=H.le (N:=N) hA (by omega) he j
 rcases Nat.eq_zero_or_pos N with c | c
 ·have:held.length=0:=by rw [zfT H];omega
  rw [List.length_eq_zero_iff.mp this] at he
  cases he
 ·have p:=Nat.pow_le_pow_right (n:=N * A) (Nat.mul_pos c h1) hN
  have q:1 * (1 * (N * A) ^ N)<=(N + 1) * (A * (N * A) ^ N):=Nat.mul_le_mul (by omega) (Nat.mul_le_mul_right _ h1)
  omega
end MD
namespace MD
theorem zaF (a:Rat) (l:List Rat):zaP (a :: l)=a + zaP l:=rfl
theorem zdn:zaP []=0:=rfl
theorem zjM:∀ (l m:List Rat),zaP (l ++ m)=zaP l + zaP m
 | [],m=>by rw [List.nil_append,zdn];grind
 | a :: l,m=>by rw [List.cons_append,zaF,zaF,zjM l m];grind
theorem zeD {α:Type} (a b:Rat) (f g:α->Rat):∀ l:List α,zaP (l.map fun x=>a * f x + b * g x)=a * zaP (l.map f) + b * zaP (l.map g)
 | []=>by simp only [List.map_nil,zdn];grind
 | x :: l=>by simp only [List.map_cons,zaF,zeD a b f g l];grind
theorem zci {α:Type} {f:α->Rat}:∀ {l:List α},(∀ x ∈ l,f x=0)->zaP (l.map f)=0
 | [],_=>rfl
 | x :: l,h=>by rw [List.map_cons,zaF,h x (.head _),zci fun y hy=>h y (.tail _ hy)];grind
theorem zam {α:Type} {f g:α->Rat}:∀ {l:List α},(∀ x ∈ l,f x=g x)->zaP (l.map f)=zaP (l.map g)
 | [],_=>rfl
 | x :: l,h=>by rw [List.map_cons,List.map_cons,zaF,zaF,h x (.head _),zam fun y hy=>h y (.tail _ hy)]
theorem zjL {α:Type} (a:Rat) (f:α->Rat) (l:List α):zaP (l.map fun x=>a * f x)=a * zaP (l.map f):=by
 have:=zeD a 0 f f l
 rw [<- zam (f:=fun x=>a * f x) fun x _=>by grind] at this
 rw [this];grind
theorem zdc {α β:Type} (f:α->β->Rat):∀ (l:List α) (m:List β),zaP (l.map fun x=>zaP (m.map fun y=>f x y))=zaP (m.map fun y=>zaP (l.map fun x=>f x y))
 | [],m=>by rw [List.map_nil,zdn];exact (zci fun y _=>rfl).symm
 | x :: l,m=>by
  rw [List.map_cons,zaF,zdc f l m]
  have:=zeD 1 1 (fun y=>f x y) (fun y=>zaP (l.map fun x=>f x y)) m
  rw [<- zam (f:=fun y=>zaP ((x :: l).map fun x=>f x y)) fun y _=>by rw [List.map_cons,zaF];grind] at this
  rw [this];grind
def ip (n:Nat) (u v:Rq):Rat:=zaP ((List.range n).map fun j=>u j * v j)
theorem zgo (n:Nat) (u v:Rq):ip n u v=ip n v u:=zam fun j _=>by grind
theorem zte (n:Nat) (t:Rq) (a b:Rat) (u v:Rq):ip n t (fun j=>a * u j + b * v j)=a * ip n t u + b * ip n t v:=by
 unfold ip
 rw [<- zeD]
 exact zam fun j _=>by grind
theorem zp7 (n:Nat) (t:Rq):ip n t (fun _=>0)=0:=zci fun j _=>by grind
theorem zl1 (v:Rq) (g:Rq) (p:Nat) (x:Rat):∀ n:Nat,p < n->zaP ((List.range n).map fun j=>(if p=j then x else g j) * v j)=zaP ((List.range n).map fun j=>g j * v j) + (x - g p) * v p
 | 0,h=>by omega
 | n + 1,h=>by
  simp only [List.range_succ,List.map_append,List.map_cons,List.map_nil,zjM,zaF,zdn]
  by_cases c:p=n
  ·subst c
   rw [if_pos rfl,zam (f:=fun j=>(if p=j then x else g j) * v j) (g:=fun j=>g j * v j) fun j hj=>by rw [if_neg (by have:=List.mem_range.mp hj;omega)]]
   grind
  ·rw [if_neg c,zl1 v g p x n (by omega)]
   grind
theorem SpQ.ind {P:Rq->Prop} (h0:P fun _=>0) (hl:∀ a b u v,P u->P v->P fun j=>a * u j + b * v j):∀ {ws:List Rw} {v:Rq},(∀ w ∈ ws,P fun j=>(w j:Rat))->SpQ ws v->P v
 | [],v,_,h=>by
  have:v=fun _=>0:=funext h
  rw [this];exact h0
 | w :: ws,v,hw,⟨a,z,h,e⟩=>by
  have:v=fun j=>a * (w j:Rat) + 1 * z j:=funext fun j=>by rw [e j];grind
  rw [this]
  exact hl a 1 _ _ (hw w (.head _)) (SpQ.ind h0 hl (fun y hy=>hw y (.tail _ hy)) h)
end MD
namespace MD
abbrev Bas:=List (Nat × Rq)
structure Co (V:Rq->Prop) (B:Bas):Prop where
 mem:∀ p ∈ B,V p.2
 one:∀ p ∈ B,p.2 p.1=1
 rep:∀ v,V v->∀ j,v j=zaP (B.map fun p=>v p.1 * p.2 j)
theorem zhc {α:Type}:∀ l:List α,zaP (l.map fun _=>(1:Rat))=((l.length:Int):Rat)
 | []=>rfl
 | x :: l=>by rw [List.map_cons,zaF,zhc l,List.length_cons,show ((l.length + 1:Nat):Int)=1 + (l.length:Int) by omega,Rat.intCast_add];rfl
theorem zpM {a b:Nat} (h:((a:Int):Rat)=((b:Int):Rat)):a=b:=by
 have:=Rat.intCast_inj.mp h
 omega
theorem Co.dim {V:Rq->Prop} {B C:Bas} (b:Co V B) (c:Co V C):B.length=C.length:=by
 have h1:zaP (B.map fun _=>(1:Rat))=zaP (B.map fun p=>zaP (C.map fun q=>p.2 q.1 * q.2 p.1)):=zam fun p hp=>by rw [<- c.rep p.2 (b.mem p hp) p.1,b.one p hp]
 have h2:zaP (C.map fun _=>(1:Rat))=zaP (C.map fun q=>zaP (B.map fun p=>q.2 p.1 * p.2 q.1)):=zam fun q hq=>by rw [<- b.rep q.2 (c.mem q hq) q.1,c.one q hq]
 rw [zdc,zam (g:=fun q=>zaP (B.map fun p=>q.2 p.1 * p.2 q.1)) fun q _=>zam fun p _=>by grind,<- h2,zhc,zhc] at h1
 exact zpM h1
theorem zmY {α:Type} {f:α->Rat} {k:α->Nat} {s:Nat} {v:Rat}:∀ B:List α,(B.map k).Nodup->s ∈ B.map k->(∀ e ∈ B,k e=s->f e=v)->(∀ e ∈ B,k e ≠ s->f e=0)->zaP (B.map f)=v
 | [],_,h,_,_=>nomatch h
 | e :: B,nd,h,h1,h2=>by
  rw [List.map_cons,List.nodup_cons] at nd
  rw [List.map_cons,zaF]
  by_cases c:k e=s
  ·rw [zci fun y hy=>h2 y (.tail _ hy) fun q=>nd.1 (by rw [c,<- q];exact List.mem_map_of_mem hy),h1 e (.head _) c]
   grind
  ·have hs:s ∈ B.map k:=(List.mem_cons.mp h).resolve_left fun q=>c q.symm
   rw [zmY B nd.2 hs (fun y hy=>h1 y (.tail _ hy)) (fun y hy=>h2 y (.tail _ hy)),h2 e (.head _) c]
   grind
structure Rd (V:Rq->Prop) (B:Bas):Prop extends Co V B where
 zer:∀ p ∈ B,∀ q ∈ B,q.1 ≠ p.1->p.2 q.1=0
 low:∀ p ∈ B,∀ j,j < p.1->p.2 j=0
 srt:(B.map (·.1)).Pairwise (· < ·)
theorem zsP {l:List Nat} (h:l.Pairwise (· < ·)):l.Nodup:=h.imp fun h=>Nat.ne_of_lt h
theorem zo2:∀ {B:Bas},(B.map (·.1)).Pairwise (· < ·)->∀ {p q:Nat × Rq},p ∈ B->q ∈ B->p.1=q.1->p=q
 | [],_,_,_,hp,_,_=>nomatch hp
 | x :: B,h,p,q,hp,hq,e=>by
  rw [List.map_cons,List.pairwise_cons] at h
  rcases List.mem_cons.mp hp with y | hp2
  ·rcases List.mem_cons.mp hq with z | hq2
   ·rw [y,z]
   ·have:=h.1 q.1 (List.mem_map_of_mem hq2);rw [<- y] at this;omega
  ·rcases List.mem_cons.mp hq with z | hq2
   ·have:=h.1 p.1 (List.mem_map_of_mem hp2);rw [<- z] at this;omega
   ·exact zo2 h.2 hp2 hq2 e
theorem zo3:∀ {B C:Bas},(B.map (·.1)).Pairwise (· < ·)->(C.map (·.1)).Pairwise (· < ·)->(∀ p,p ∈ B ↔ p ∈ C)->B=C
 | [],[],_,_,_=>rfl
 | [],q :: C,_,_,h=>nomatch (h q).mpr (.head _)
 | p :: B,[],_,_,h=>nomatch (h p).mp (.head _)
 | p :: B,q :: C,hb,hc,h=>by
  rw [List.map_cons,List.pairwise_cons] at hb hc
  have e:p=q:=by
   rcases List.mem_cons.mp ((h p).mp (.head _)) with z | z
   ·exact z
   ·rcases List.mem_cons.mp ((h q).mpr (.head _)) with y | y
    ·exact y.symm
    ·have h1:=hb.1 q.1 (List.mem_map_of_mem y)
     have h2:=hc.1 p.1 (List.mem_map_of_mem z)
     omega
  subst e
  rw [zo3 hb.2 hc.2 fun x=>⟨fun hx=>?_,fun hx=>?_⟩]
  ·rcases List.mem_cons.mp ((h x).mp (.tail _ hx)) with rfl | z
   ·have:=hb.1 x.1 (List.mem_map_of_mem hx);omega
   ·exact z
  ·rcases List.mem_cons.mp ((h x).mpr (.tail _ hx)) with rfl | z
   ·have:=hc.1 x.1 (List.mem_map_of_mem hx);omega
   ·exact z
theorem Rd.lead {V:Rq->Prop} {B C:Bas} (b:Rd V B) (c:Rd V C) {p:Nat × Rq} (hp:p ∈ B):∃ q ∈ C,q.1=p.1:=by
 refine Classical.byContradiction fun z=>?_
 have h:=c.rep p.2 (b.mem p hp) p.1
 rw [b.one p hp,zci fun q hq=>?_] at h
 ·exact absurd h (by decide)
 ·by_cases h1:q.1 < p.1
  ·rw [b.low p hp q.1 h1];grind
  ·by_cases h2:p.1 < q.1
   ·rw [c.low q hq p.1 h2];grind
   ·exact absurd ⟨q,hq,by omega⟩ z
theorem Rd.row {V:Rq->Prop} {B C:Bas} (b:Rd V B) (c:Rd V C) {p q:Nat × Rq} (hp:p ∈ B) (hq:q ∈ C) (e:q.1=p.1):p.2=q.2:=funext fun j=>by
 rw [c.rep p.2 (b.mem p hp) j]
 refine zmY (k:=(·.1)) (s:=q.1) C (zsP c.srt) (List.mem_map_of_mem hq) (fun r hr er=>?_) (fun r hr nr=>?_)
 ·have:=zo2 c.srt hr hq er
  subst this
  rw [e,b.one p hp];grind
 ·obtain ⟨p',hp',e'⟩:=c.lead b hr
  rw [<- e',b.zer p hp p' hp' (by rw [e',<- e];exact nr)];grind
theorem Rd.uniq {V:Rq->Prop} {B C:Bas} (b:Rd V B) (c:Rd V C):B=C:=zo3 b.srt c.srt fun p=>⟨fun hp=>by
  obtain ⟨q,hq,e⟩:=b.lead c hp
  rw [show p=q from Prod.ext e.symm (b.row c hp hq e)];exact hq,fun hp=>by
  obtain ⟨q,hq,e⟩:=c.lead b hp
  rw [show p=q from Prod.ext e.symm (c.row b hp hq e)];exact hq⟩
theorem Rd.congr {V W:Rq->Prop} {B:Bas} (b:Rd V B) (h:∀ v,V v ↔ W v):Rd W B:=⟨⟨fun p hp=>(h _).mp (b.mem p hp),b.one,fun v hv=>b.rep v ((h v).mpr hv)⟩,b.zer,b.low,b.srt⟩
theorem Co.congr {V W:Rq->Prop} {B:Bas} (b:Co V B) (h:∀ v,V v ↔ W v):Co W B:=⟨fun p hp=>(h _).mp (b.mem p hp),b.one,fun v hv=>b.rep v ((h v).mpr hv)⟩
structure Rm (V:Rq->Prop):Prop where
 zero:V fun _=>0
 lin:∀ (a b:Rat) (u v:Rq),V u->V v->V fun j=>a * u j + b * v j
theorem Rm.sum {V:Rq->Prop} (h:Rm V) {α:Type} (c:α->Rat) (u:α->Rq):∀ l:List α,(∀ x ∈ l,V (u x))->V fun j=>zaP (l.map fun x=>c x * u x j)
 | [],_=>h.zero
 | x :: l,hl=>by
  have:=h.lin (c x) 1 _ _ (hl x (.head _)) (Rm.sum h c u l fun y hy=>hl y (.tail _ hy))
  rw [show (fun j=>zaP ((x :: l).map fun x=>c x * u x j))=fun j=>c x * u x j + 1 * zaP (l.map fun x=>c x * u x j) from funext fun j=>by rw [List.map_cons,zaF];grind]
  exact this
def PX (CS:Bas) (X:Nat × Rq->Rq) (x:Rq):Rq:=fun k=>zaP (CS.map fun p=>x p.1 * X p k)
theorem ztt {CS C:Bas} {X:Nat × Rq->Rq} {x:Rq} (h:∀ j,x j=zaP (C.map fun u=>x u.1 * u.2 j)) (k:Nat):PX CS X x k=zaP (C.map fun u=>x u.1 * PX CS X u.2 k):=by
 unfold PX
 rw [zam (l:=C) (f:=fun (u:Nat × Rq)=>x u.1 * zaP (CS.map fun p=>u.2 p.1 * X p k)) (g:=fun (u:Nat × Rq)=>zaP (CS.map fun p=>x u.1 * (u.2 p.1 * X p k))) fun u _=>(zjL _ _ _).symm,zdc]
 refine zam fun p _=>?_
 have e:=h p.1
 rw [zam (g:=fun u=>X p k * (x u.1 * u.2 p.1)) fun u _=>by grind,zjL,<- e]
 grind
theorem zfD {α:Type} (f g:α->Rat) (l:List α):zaP (l.map fun x=>f x + g x)=zaP (l.map f) + zaP (l.map g):=by
 have:=zeD 1 1 f g l
 rw [zam (g:=fun x=>f x + g x) fun x _=>by grind] at this
 rw [this];grind
theorem zuR {VA VB VI VS:Rq->Prop} {CA CB CI CS:Bas} (a:Co VA CA) (b:Co VB CB) (i:Co VI CI) (s:Co VS CS) (ra:Rm VA) (rb:Rm VB)
  (hI:∀ v,VI v ↔ VA v/\VB v) (hS:∀ v,VS v ↔ ∃ x y,VA x/\VB y/\∀ j,v j=x j + y j):CI.length + CS.length=CA.length + CB.length:=by
 have ch:∀ p:Nat × Rq,∃ xy:Rq × Rq,p ∈ CS->VA xy.1/\VB xy.2/\∀ j,p.2 j=xy.1 j + xy.2 j:=fun p=>by
  by_cases hp:p ∈ CS
  ·obtain ⟨x,y,h⟩:=(hS _).mp (s.mem p hp)
   exact ⟨(x,y),fun _=>h⟩
  ·exact ⟨(fun _=>0,fun _=>0),fun z=>absurd z hp⟩
 obtain ⟨Z,hZ⟩:=Classical.axiomOfChoice ch
 have sA:∀ v,VA v->VS v:=fun v hv=>(hS v).mpr ⟨v,_,hv,rb.zero,fun j=>by grind⟩
 have sB:∀ v,VB v->VS v:=fun v hv=>(hS v).mpr ⟨_,v,ra.zero,hv,fun j=>by grind⟩
 let P:=PX CS fun p=>(Z p).1
 let Q:=PX CS fun p=>(Z p).2
 have PA:∀ x,VA (P x):=fun x=>ra.sum (fun (p:Nat × Rq)=>x p.1) (fun p=>(Z p).1) CS fun p hp=>(hZ p hp).1
 have QB:∀ x,VB (Q x):=fun x=>rb.sum (fun (p:Nat × Rq)=>x p.1) (fun p=>(Z p).2) CS fun p hp=>(hZ p hp).2.1
 have PQ:∀ x,VS x->∀ j,x j=P x j + Q x j:=fun x hx j=>by
  rw [s.rep x hx j]
  show _=zaP _ + zaP _
  rw [<- zfD]
  exact zam fun p hp=>by rw [(hZ p hp).2.2 j];grind
 have zI:∀ x,VA x->VI fun j=>x j - P x j:=fun x hx=>(hI _).mpr ⟨by
  have:=ra.lin 1 (-1) _ _ hx (PA x)
  rw [show (fun j=>x j - P x j)=fun j=>1 * x j + -1 * P x j from funext fun j=>by grind];exact this,by
  rw [show (fun j=>x j - P x j)=Q x from funext fun j=>by have:=PQ x (sA x hx) j;grind];exact QB x⟩
 have pI:∀ x,VB x->VI (P x):=fun x hx=>(hI _).mpr ⟨PA x,by
  have:=rb.lin 1 (-1) _ _ hx (QB x)
  rw [show P x=fun j=>1 * x j + -1 * Q x j from funext fun j=>by have:=PQ x (sB x hx) j;grind];exact this⟩
 have hA:zaP (CA.map fun _=>(1:Rat))=zaP (CA.map fun u=>zaP (CS.map fun p=>u.2 p.1 * (Z p).1 u.1)) + zaP (CA.map fun u=>zaP (CI.map fun c=>(u.2 c.1 - P u.2 c.1) * c.2 u.1)):=by
  rw [<- zfD]
  refine zam fun u hu=>?_
  have h1:=i.rep _ (zI u.2 (a.mem u hu)) u.1
  rw [<- h1,<- a.one u hu]
  show u.2 u.1=P u.2 u.1 + _
  grind
 have hB:zaP (CB.map fun _=>(1:Rat))=zaP (CB.map fun v=>zaP (CS.map fun p=>v.2 p.1 * (Z p).2 v.1)) + zaP (CB.map fun v=>zaP (CI.map fun c=>P v.2 c.1 * c.2 v.1)):=by
  rw [<- zfD]
  refine zam fun v hv=>?_
  have h1:=i.rep _ (pI v.2 (b.mem v hv)) v.1
  rw [<- h1,<- b.one v hv]
  show v.2 v.1=Q v.2 v.1 + P v.2 v.1
  have:=PQ v.2 (sB _ (b.mem v hv)) v.1
  grind
 have hSS:zaP (CS.map fun _=>(1:Rat))=zaP (CS.map fun p=>zaP (CA.map fun u=>u.2 p.1 * (Z p).1 u.1)) + zaP (CS.map fun p=>zaP (CB.map fun v=>v.2 p.1 * (Z p).2 v.1)):=by
  rw [<- zfD]
  refine zam fun p hp=>?_
  obtain ⟨h1,h2,h3⟩:=hZ p hp
  rw [<- s.one p hp,h3 p.1,a.rep _ h1 p.1,b.rep _ h2 p.1]
  congr 1
  ·exact zam fun u _=>by grind
  ·exact zam fun u _=>by grind
 have hII:zaP (CI.map fun _=>(1:Rat))=zaP (CI.map fun c=>zaP (CA.map fun u=>(u.2 c.1 - P u.2 c.1) * c.2 u.1)) + zaP (CI.map fun c=>zaP (CB.map fun v=>P v.2 c.1 * c.2 v.1)):=by
  rw [<- zfD]
  refine zam fun c hc=>?_
  obtain ⟨h1,h2⟩:=(hI _).mp (i.mem c hc)
  have e1:=a.rep _ h1 c.1
  have e2:=ztt (CS:=CS) (X:=fun p=>(Z p).1) (a.rep _ h1) c.1
  have e3:=ztt (CS:=CS) (X:=fun p=>(Z p).1) (b.rep _ h2) c.1
  rw [i.one c hc] at e1
  rw [zam (l:=CB) (f:=fun (v:Nat × Rq)=>P v.2 c.1 * c.2 v.1) (g:=fun v=>c.2 v.1 * P v.2 c.1) fun v _=>by grind,<- e3]
  rw [zam (l:=CA) (f:=fun (u:Nat × Rq)=>(u.2 c.1 - P u.2 c.1) * c.2 u.1) (g:=fun u=>1 * (c.2 u.1 * u.2 c.1) + (-1) * (c.2 u.1 * P u.2 c.1)) fun u _=>by grind,zeD,<- e2,<- e1]
  grind
 rw [zdc] at hA hB
 rw [zdc (fun (u c:Nat × Rq)=>(u.2 c.1 - P u.2 c.1) * c.2 u.1)] at hA
 rw [zdc (fun (v c:Nat × Rq)=>P v.2 c.1 * c.2 v.1)] at hB
 rw [zhc] at hA hB hSS hII
 refine zpM ?_
 rw [show ((CI.length + CS.length:Nat):Int)=(CI.length:Int) + (CS.length:Int) by omega,show ((CA.length + CB.length:Nat):Int)=(CA.length:Int) + (CB.length:Int) by omega,Rat.intCast_add,Rat.intCast_add,hA,hB,hSS,hII]
 grind
end MD
namespace FL
open PySem
def zbJ:SF:=(sIf (tB (e2 neD (eV 2) (eC (.int 0)))) (zaw (eV 1)) sNx)
def zgN:SF:=(zcP (zr7 (zab (eV 0) zah)) (gT [(gN 1),(gN 2)]) zbJ)
def zgs:SF:=(zaq zgN
  (zaw (eC .none)))
def ziB:List D->R D:=zaU false 1 3 zgs
def zh4:SF:=(zaw (ziY (e1 (zb7 "int") (eV 0)) (zq6 (e1 (zb7 "bool") (eV 0)))))
def zbu:List D->R D:=zaU false 1 1 zh4
def zfc:EF:=(zaW 1 [] (iR1 (zab (eV 0) zah)) (gN 0) za5 (zem (zab (eC (.int 0)) (zab (eC (.int 1)) zah))))
def zeg:SF:=(zbq zfc)
def zca:List D->R D:=zaU true 1 1 zeg
def zfo:SF:=(zaq (sIf (tB (e2 eqD (eV 1) (eC (.int 0)))) znZ sNx)
  (zaq (zaC (gN 2) (zae zat (zab (eV 0) (zab (eV 1) zah))))
  (zaq (sIf (tB (e2 ltD (eV 1) (eC (.int 0)))) (zaC (gN 2) (e1 zkY (eV 2))) sNx)
  (zaw (zem (zab (e2 zbM (eV 0) (eV 2)) (zab (e2 zbM (eV 1) (eV 2)) zah)))))))
def zeQ:List D->R D:=zaU false 2 3 zfo
def zbI:SF:=(zaq (zaC (gN 1) (zae zat (zab (eV 1) (zab (eV 2) zah))))
  (sIf (tB (e2 eqD (eV 1) (eC (.int 1)))) zq3 sNx))
def zgM:SF:=(zcP (iE (eV 0)) (gN 2) zbI)
def zec:EF:=(zaW 1 [1] (iE (eV 0)) (gN 0) za5 (e2 zbM (eV 0) (eV 1)))
def zgr:SF:=(zaq (zaC (gN 1) (eC (.int 0)))
  (zaq zgM
  (zaq (sIf (tB (e2 eqD (eV 1) (eC (.int 0)))) (zaw (eV 0)) sNx)
  (zaw zec))))
def ziA:List D->R D:=zaU false 1 3 zgr
def zcs:SF:=(zaq (sIf (FL.tOr (FL.zcx (tE (e1 (zb7 "tuple") (eV 0)))) (tB (e2 neD (e1 zbD (eV 0)) (eC (.int 2))))) (zaw (eC (.bool false))) sNx)
  (zaq (sIf (FL.tOr (FL.zcx (tE (zae zbu (zab (e2 ixD (eV 0) (eC (.int 0))) zah)))) (FL.zcx (tE (zae zbu (zab (e2 ixD (eV 0) (eC (.int 1))) zah))))) (zaw (eC (.bool false))) sNx)
  (zaw (ziY (e2 geD (e2 ixD (eV 0) (eC (.int 1))) (eC (.int 1))) (e2 eqD (zae zbt (zab (e2 ixD (eV 0) (eC (.int 0))) (zab (e2 ixD (eV 0) (eC (.int 1))) zah))) (eV 0))))))
def zew:List D->R D:=zaU false 1 1 zcs
def zfm:EF:=(zaW 1 [] (iE (eV 0)) (gN 0) za5 (zae ziD (zab (eV 0) zah)))
def zh6:SF:=(zaw (ziY (e1 (zb7 "list") (eV 0)) (e1 zwZ zfm)))
def znP:List D->R D:=zaU false 1 1 zh6
def zce:SF:=(zaC (gN 1) (e2 zcd (e2 zbM (eV 1) (zae zat (zab (eV 1) (zab (e2 ixD (eV 2) (eC (.int 1))) zah)))) (e2 ixD (eV 2) (eC (.int 1)))))
def zfb:SF:=(zcP (iE (eV 0)) (gN 2) zce)
def zcZ:EF:=(zaW 1 [1] (iE (eV 0)) (gN 0) za5 (e2 zcd (e2 ixD (eV 0) (eC (.int 0))) (e2 zbM (eV 1) (e2 ixD (eV 0) (eC (.int 1))))))
def zef:SF:=(zaq (zaC (gN 1) (eC (.int 1)))
  (zaq zfb
  (zaw (zae ziA (zab zcZ zah)))))
def zft:List D->R D:=zaU false 1 3 zef
def zee:EF:=(zaW 2 [0,1,2] (ztf (zab (eV 0) (zab (eV 1) zah))) (gT [(gN 0),(gN 1)]) za5 (e2 ze4 (e2 zcd (e2 ixD (eV 3) (eV 4)) (eV 0)) (e2 zcd (e2 ixD (eV 2) (eV 4)) (eV 1))))
def zgu:SF:=(zaq (sIf (tB (e2 eqD (e2 ixD (eV 0) (eV 2)) (eC (.int 0)))) (zaw (eV 0)) sNx)
  (zaw (zae ziA (zab zee zah))))
def zex:List D->R D:=zaU false 3 3 zgu
def zeb:SF:=(setM 3 (zae zeQ (zab (e1 zkY (e2 ixD (e2 zjq (eV 0) (eV 4)) (eV 1))) (zab (e2 ixD (e2 zjq (eV 0) (eV 4)) (eV 4)) zah))) (eV 4))
def zcF:SF:=(zcP (iD (eV 0)) (gN 4) zeb)
def zdu:SF:=(zaq (zdd 3 (zsj (eC (.tuple [(.int 0),(.int 1)])) (eV 2)))
  (zaq (setM 3 (eC (.tuple [(.int 1),(.int 1)])) (eV 1))
  (zaq zcF
  (zg4 3))))
def zg1:List D->R D:=zaU true 3 5 zdu
def zcC:SF:=(zaq (zaC (gN 1) (zal zb4 [.m 0,.v (eC (.int 6))]))
  (zaq (sIf (tB (e2 ltD (eV 1) (eC (.int 3)))) (zaw (e2 ixD (zbF (zab (zem (zab (eC (.int 0)) (zab (eC (.int 1)) zah))) (zab (zem (zab (eC (.int 1)) (zab (eC (.int 1)) zah))) (zab (zem (zab (e1 zkY (eC (.int 1))) (zab (eC (.int 1)) zah))) zah)))) (eV 1))) sNx)
  (zaq (sIf (tB (e2 ltD (eV 1) (eC (.int 5)))) (zaw (zae zbt (zab (e2 ze4 (zal zb4 [.m 0,.v (eC (.int 13))]) (eC (.int 6))) (zab (e2 zaY (eC (.int 1)) (e2 zcd (zal zb4 [.m 0,.v (eC (.int 4))]) (e2 ze4 (eV 1) (eC (.int 3))))) zah)))) sNx)
  (zaw (zae zbt (zab (e2 ze4 (zal zb4 [.m 0,.v (e2 zaY (e2 zcd (eC (.int 2)) (e2 zjg (eC (.int 10)) (eC (.int 4)))) (eC (.int 1)))]) (e2 zjg (eC (.int 10)) (eC (.int 4)))) (zab (e2 zaY (eC (.int 1)) (zal zb4 [.m 0,.v (eC (.int 30))])) zah)))))))
def zaS:List D->R (D × List D):=run [true] false 2 zcC
def zcG:EF:=(zaW 1 [] (iE (eV 0)) (gN 0) (FL.zcx (tE (zae zew (zab (eV 0) zah)))) (eV 0))
def zdw:SF:=(zaq (sIf (FL.tOr (FL.zcx (tE (e1 (zb7 "list") (eV 0)))) (tB (e2 neD (e1 zbD (eV 0)) (eV 1)))) (zaw (eC (.bool false))) sNx)
  (zaw (e2 eqD zcG (zbF zah))))
def zg2:List D->R D:=zaU false 2 2 zdw
def zfd:EF:=(zaW 2 [] (ztf (zab (eV 0) (zab (eV 1) zah))) (gT [(gN 0),(gN 1)]) za5 (zae zeP (zab (eV 0) (zab (eV 1) zah))))
def zeh:SF:=(zbq zfd)
def zcK:List D->R D:=zaU true 2 2 zeh
def zed:EF:=(zaW 1 [0] (iE (eV 1)) (gN 0) za5 (zae zhs (zab (eV 1) (zab (eV 0) zah))))
def zdv:SF:=(zbq zed)
def zcl:List D->R D:=zaU true 2 2 zdv
def zg8:SF:=(zaC (gN 2) (zae zeP (zab (eV 2) (zab (zae zhs (zab (eV 3) (zab (eV 4) zah))) zah))))
def zco:SF:=(zcP (ztf (zab (eV 0) (zab (eV 1) zah))) (gT [(gN 3),(gN 4)]) zg8)
def zc5:SF:=(zaq (zaC (gN 2) (zem (zab (eC (.int 0)) (zab (eC (.int 1)) zah))))
  (zaq zco
  (zaw (eV 2))))
def zgb:List D->R D:=zaU false 2 5 zc5
def zej:SF:=(zaw (ziY (zae znP (zab (eV 0) zah)) (e2 eqD (e1 zbD (eV 0)) (eV 1))))
def ziC:List D->R D:=zaU false 2 2 zej
def zbZ:SF:=(zaC (gN 3) (zae zex (zab (eV 3) (zab (e2 zjq (eV 1) (eV 4)) (zab (eV 4) zah)))))
def zbX:SF:=(zcP (iD (eV 1)) (gN 4) zbZ)
def zbb:EF:=(zjp 1 [1,3,5] (iD (eV 1)) (gN 0) za5 (eV 0) (zae zex (zab (e2 zjq (eV 1) (eV 0)) (zab (eV 2) (zab (eV 3) zah)))))
def zbY:SF:=(zaq (zaC (gN 3) (zae zft (zab (eV 2) zah)))
  (zaq zbX
  (zaq (zaC (gN 5) (zae ziB (zab (eV 3) zah)))
  (sIf (tB (e2 zwc (eV 5) (eC .none))) (zaq (zdd 1 zbb)
  (zcy 1 (zlo 1 (eV 5) (eV 3)))) sNx))))
def zbW:SF:=(zcP (iE (eV 0)) (gN 2) zbY)
def zcr:SF:=(zaq (zdd 1 zfX)
  (zaq (znY 1 zbW)
  (zaw (eV 1))))
def zbh:List D->R D:=zaU false 1 6 zcr
def zc0:EF:=(zaW 1 [0] (iR1 (zab (eV 1) zah)) (gN 0) za5 (zal zaS [.m 1]))
def zbr:SF:=(zaq (zaC (gN 4) (zal zb4 [.m 0,.v (eC (.int 6))]))
  (zaq (zcy 5 (zdd 5 zc0))
  (zaq (sIf (FL.zfi (tB (e2 eqD (eV 4) (eC (.int 0)))) (tB (e2 gtD (m1 zbD 2) (eC (.int 1))))) (zaC (gN 5) (zae zcK (zab (zae zcl (zab (zal zaS [.m 0]) (zab (m2 ixD 2 (eC (.int 0))) zah))) (zab (m2 ixD 2 (e1 zkY (eC (.int 1)))) zah)))) (sIf (tB (e2 eqD (eV 4) (eC (.int 1)))) (zaC (gN 5) (e2 ixD (zbF (zab (zae zca (zab (eV 1) zah)) (zab (e2 ixD (m2 zaY 2 (zbF (zab (eV 5) zah))) (eC (.int 0))) zah))) (zal zb4 [.m 0,.v (eC (.int 2))]))) sNx))
  (zre 2 zoH (e1 zfS (eV 5))))))
def zcp:SF:=(sIf (FL.zcx (tE (zae ziC (zab (eV 3) (zab (eV 1) zah))))) znZ sNx)
def zdP:SF:=(zcP (zr7 (zab (eV 0) zah)) (gT [(gN 2),(gN 3)]) zcp)
def zc3:SF:=zdP
def zga:List D->R D:=zaU false 2 4 zc3
def zc2:EF:=(zaW 1 [0,1] (iE (e2 zjq (eV 1) (eV 0))) (gN 0) za5 (zae zeQ (zab (eV 0) (zab (e2 ixD (e2 zjq (eV 2) (eV 1)) (eV 1)) zah))))
def zc1:EF:=(zaW 1 [1] (iE (e1 zi9 (eV 1))) (gN 0) za5 zc2)
def zei:SF:=(zaq (zaC (gN 1) (zae zbh (zab (eV 0) zah)))
  (zbq zc1))
def zdH:List D->R D:=zaU true 1 2 zei
def zcq:EF:=(zaW 1 [1,2] (iR1 (zab (eV 1) zah)) (gN 0) (tB (e2 zu7 (eV 0) (eV 2))) (zae zg1 (zab (eV 2) (zab (eV 0) (zab (eV 1) zah)))))
def zc4:SF:=(zaq (zaC (gN 2) (zae zbh (zab (eV 0) zah)))
  (zbq (zae zdH (zab zcq zah))))
def zbk:List D->R D:=zaU true 2 3 zc4
end FL
namespace FL
open PySem MD
theorem zie {α:Type} {f0:α->D} {k:Nat} {ix:List Nat} {g:GF} {t:TF} {f:EF} {ρ:En} (P:α->Bool) (h:α->D):∀ (xs:List α) (acc:List D),acc.length + xs.length<=lim ->
  (∀ x ∈ xs,∃ β,g (f0 x) (blk k ix ρ)=.ok β/\t β=.ok (P x,β)/\(P x=true->f β=.ok (h x,β))/\back ρ ix (β.drop k)=ρ)->ziZ k ix g t f (xs.map f0) ρ acc=.ok (acc ++ (xs.filter P).map h,ρ)
 | [],acc,_,_=>by simp [ziZ]
 | x :: xs,acc,hl,hx=>by
  obtain ⟨β,h1,h2,h3,h4⟩:=hx x (List.mem_cons_self ..)
  have rest:=fun y m=>hx y (List.mem_cons_of_mem x m)
  simp only [List.length_cons] at hl
  rw [List.map_cons]
  unfold ziZ
  rw [h1,zad,h2,zad]
  cases c:P x with
  | true =>
   rw [if_pos rfl,h3 c,zad,zay (zdk (by omega)),h4,zie P h xs _ (by simp;omega) rest,List.filter_cons_of_pos c]
   simp
  | false =>
   rw [if_neg (by simp),h4,zie P h xs acc (by omega) rest,List.filter_cons_of_neg (by simp [c])]
theorem zcI {α:Type} {f0:α->D} {k:Nat} {ix:List Nat} {it:IF} {g:GF} {t:TF} {f:EF} {ρ:En} {xs:List α} (P:α->Bool) (h:α->D) (hi:it ρ=.ok (xs.map f0,ρ)) (hl:xs.length<=lim)
  (hx:∀ x ∈ xs,∃ β,g (f0 x) (blk k ix ρ)=.ok β/\t β=.ok (P x,β)/\(P x=true->f β=.ok (h x,β))/\back ρ ix (β.drop k)=ρ):zaW k ix it g t f ρ=.ok (.list ((xs.filter P).map h),ρ):=by
 unfold zaW
 rw [hi,zad,zie P h xs [] (by simpa using hl) hx]
 rfl
theorem zb0 {α:Type} {f0:α->D} {k:Nat} {ix:List Nat} {it:IF} {g:GF} {f:EF} {ρ:En} {xs:List α} (h:α->D) (hi:it ρ=.ok (xs.map f0,ρ)) (hl:xs.length<=lim)
  (hx:∀ x ∈ xs,∃ β,g (f0 x) (blk k ix ρ)=.ok β/\f β=.ok (h x,β)/\back ρ ix (β.drop k)=ρ):zaW k ix it g za5 f ρ=.ok (.list (xs.map h),ρ):=by
 rw [zcI (fun _=>true) h hi hl fun x m=>by
  obtain ⟨β,h1,h2,h3⟩:=hx x m
  exact ⟨β,h1,rfl,fun _=>h2,h3⟩]
 rw [List.filter_eq_self.mpr (fun _ _=>rfl)]
def zu2:En->Prop
 | []=>True
 | .ow _ _ :: _=>False
 | _ :: r=>zu2 r
theorem zu2.look:∀ {ix:List Nat} {cs:En},zu2 cs->∀ i p d,(ix.zip cs).lookup i ≠ some (.ow p d)
 | [],_,_,i,p,d,z=>by simp at z
 | _ :: _,[],_,i,p,d,z=>by simp at z
 | j :: ix,c :: cs,h,i,p,d,z=>by
  have hr:zu2 cs:=by cases c <;> first | exact h | exact h.elim
  rw [List.zip_cons_cons,List.lookup_cons] at z
  split at z
  ·cases z;exact h
  ·exact zu2.look hr i p d z
theorem za8 {ρ:En} {ix:List Nat} {cs:En} (h:zu2 cs):back ρ ix cs=ρ:=znG (zu2.look h) _ _
def IR (xs:List Int):D:=.list (xs.map PyData.int)
def zai (xs:List Rat):D:=.list (xs.map num)
def zaa (M:List (List Rat)):D:=.list (M.map zai)
def hent (e:Nat × List Int):D × D:=(.int (e.1:Int),IR e.2)
def hD (held:zaV):D:=.dict (held.map hent)
theorem znc (i:Int):zkY (.int i)=.ok (.int (-i)):=rfl
theorem zdx {i j:Int} (hj:j ≠ 0) (d:j ∣ i):zbM (.int i) (.int j)=.ok (.int (i / j)):=by
 show chk (decide (j ≠ 0)) _=_
 rw [zay (by simpa using hj),Int.fdiv_eq_ediv_of_dvd d]
theorem num_divInt (t b:Int) (hb:b ≠ 0):num (Rat.divInt t b)=.tuple [.int (t / (if b < 0 then -(Int.gcd t b:Int) else (Int.gcd t b:Int))),.int (b / (if b < 0 then -(Int.gcd t b:Int) else (Int.gcd t b:Int)))]:=by
 match b,hb with
 | .ofNat d,hb =>
  have d0:d ≠ 0:=fun z=>hb (by rw [z];rfl)
  have e:Rat.divInt t (Int.ofNat d)=Rat.normalize t d d0:=by
   show mkRat t d=_
   unfold mkRat
   rw [dif_neg d0]
  have h:=QR.norm (t:=t) d0
  rw [Q1.znu (by omega)] at h
  have h1:=congrArg Prod.fst h
  have h2:=congrArg Prod.snd h
  simp only at h1 h2
  unfold num
  rw [e,<- h1,<- h2,if_neg (show ¬ Int.ofNat d < 0 from Int.not_lt.mpr (Int.natCast_nonneg d))]
  rfl
 | .negSucc d,hb =>
  have e:Rat.divInt t (Int.negSucc d)=Rat.normalize (-t) (d + 1) (Nat.succ_ne_zero d):=rfl
  have h:=QR.norm (t:=-t) (Nat.succ_ne_zero d)
  rw [Q1.znu (by omega)] at h
  have h1:=congrArg Prod.fst h
  have h2:=congrArg Prod.snd h
  simp only at h1 h2
  have ng:Int.negSucc d=-((d + 1:Nat):Int):=rfl
  have lt:Int.negSucc d < 0:=by omega
  unfold num
  rw [e,<- h1,<- h2,if_pos lt,ng,Int.gcd_neg,Int.neg_gcd,Int.ediv_neg,Int.ediv_neg,Int.neg_ediv_of_dvd (Int.gcd_dvd_left ..),Int.neg_ediv_of_dvd (Int.gcd_dvd_right ..),Int.neg_neg]
theorem zh7 (t b:Int) (hb:b ≠ 0):zeQ [.int t,.int b]=.ok (num (Rat.divInt t b)):=by
 have g0:(Int.gcd t b:Int) ≠ 0:=by
  have:=Int.gcd_pos_of_ne_zero_right t hb
  omega
 have l2:leB 2 lim=true:=by decide
 have d1:(Int.gcd t b:Int) ∣ t:=Int.gcd_dvd_left ..
 have d2:(Int.gcd t b:Int) ∣ b:=Int.gcd_dvd_right ..
 rw [num_divInt t b hb]
 show ((zfo [.val (.int t),.val (.int b),.no]).bind _).bind _=_
 unfold zfo
 have s1:sIf (tB (FL.e2 eqD (eV 1) (eC (.int 0)))) znZ sNx [.val (.int t),.val (.int b),.no]=.ok (.nx,[.val (.int t),.val (.int b),.no]):=by
  simp only [sIf,tB,FL.e2,eV,zz1,zz0,eC,zad,zb9,decide_eq_false hb,znZ,sNx,Bool.false_eq_true,if_false]
 have s2:zaC (gN 2) (zae zat (zab (eV 0) (zab (eV 1) zah))) [.val (.int t),.val (.int b),.no]=.ok (.nx,[.val (.int t),.val (.int b),.val (.int (Int.gcd t b))]):=by
  simp only [zaC,zae,zab,eV,zz0,zah,zad,zz1,znp,gN,List.set_cons_succ,List.set_cons_zero]
 rw [zak s1,zak s2]
 by_cases c:b < 0
 ·have s3:sIf (tB (FL.e2 ltD (eV 1) (eC (.int 0)))) (zaC (gN 2) (FL.e1 zkY (eV 2))) sNx [.val (.int t),.val (.int b),.val (.int (Int.gcd t b))]=.ok (.nx,[.val (.int t),.val (.int b),.val (.int (-(Int.gcd t b:Int)))]):=by
   simp only [sIf,tB,FL.e2,eV,zz1,zz0,eC,zad,zhU,decide_eq_true c,zaC,FL.e1,gN,sNx,znc,List.set_cons_succ,List.set_cons_zero,if_true]
  rw [zak s3]
  simp only [zaw,zem,zab,FL.e2,eV,zz0,zad,zz1,zdx (Int.neg_ne_zero.mpr g0) (Int.neg_dvd.mpr d1),zah,zdx (Int.neg_ne_zero.mpr g0) (Int.neg_dvd.mpr d2),List.length_cons,List.length_nil,Nat.reduceAdd,zay l2,List.replicate,outs,outD,if_pos c]
 ·have s3:sIf (tB (FL.e2 ltD (eV 1) (eC (.int 0)))) (zaC (gN 2) (FL.e1 zkY (eV 2))) sNx [.val (.int t),.val (.int b),.val (.int (Int.gcd t b))]=.ok (.nx,[.val (.int t),.val (.int b),.val (.int (Int.gcd t b))]):=by
   simp only [sIf,tB,FL.e2,eV,zz1,zz0,eC,zad,zhU,decide_eq_false c,zaC,FL.e1,gN,sNx,Bool.false_eq_true,if_false]
  rw [zak s3]
  simp only [zaw,zem,zab,FL.e2,eV,zz0,zad,zz1,zdx g0 d1,zah,zdx g0 d2,List.length_cons,List.length_nil,Nat.reduceAdd,zay l2,List.replicate,outs,outD,if_neg c]
theorem zkI (x0:Sl):∀ (xs:List Int) (g:Nat) (x2:Sl),Np x2->∃ x2',Np x2'/\forL (gN 2) zbI (xs.map PyData.int) [x0,.val (.int (g:Int)),x2]=.ok (.nx,[x0,.val (.int (zgq g xs:Int)),x2'])
 | [],g,x2,h=>⟨x2,h,rfl⟩
 | x :: xs,g,x2,h=>by
  have e0:gN 2 (.int x) [x0,.val (.int (g:Int)),x2]=.ok [x0,.val (.int (g:Int)),.val (.int x)]:=zcH (x:=x2) rfl h
  have eg:Int.gcd (g:Int) x=Nat.gcd g x.natAbs:=by simp [Int.gcd]
  have s1:zaC (gN 1) (zae zat (zab (eV 1) (zab (eV 2) zah))) [x0,.val (.int (g:Int)),.val (.int x)]=.ok (.nx,[x0,.val (.int ((Nat.gcd g x.natAbs:Nat):Int)),.val (.int x)]):=by
   simp only [zaC,zae,zab,eV,zz1,zz0,zah,zad,znp,eg,gN,List.set_cons_succ,List.set_cons_zero]
  by_cases c:Nat.gcd g x.natAbs=1
  ·have s2:zbI [x0,.val (.int (g:Int)),.val (.int x)]=.ok (.bk,[x0,.val (.int ((Nat.gcd g x.natAbs:Nat):Int)),.val (.int x)]):=by
    unfold zbI
    rw [zak s1]
    simp only [sIf,tB,FL.e2,eV,c,zz1,zz0,eC,zad,zb9,decide_eq_true (show ((1:Nat):Int)=1 from rfl),zq3,sNx,if_true]
   have e1:zgq g (x :: xs)=1:=by
    have:zgq g (x :: xs) ∣ Nat.gcd g x.natAbs:=by
     show zgq (Nat.gcd g x.natAbs) xs ∣ _
     exact (zeJ xs _).1
    rw [c] at this
    exact Nat.dvd_one.mp this
   refine ⟨.val (.int x),zav _,?_⟩
   rw [List.map_cons]
   unfold forL
   rw [e0,zad,s2,zad,e1,c]
  ·have s2:zbI [x0,.val (.int (g:Int)),.val (.int x)]=.ok (.nx,[x0,.val (.int ((Nat.gcd g x.natAbs:Nat):Int)),.val (.int x)]):=by
    unfold zbI
    rw [zak s1]
    simp only [sIf,tB,FL.e2,eV,zz1,zz0,eC,zad,zb9,decide_eq_false (show ¬((Nat.gcd g x.natAbs:Nat):Int)=1 by omega),zq3,sNx,Bool.false_eq_true,if_false]
   obtain ⟨x2',h2,e2⟩:=zkI x0 xs (Nat.gcd g x.natAbs) (.val (.int x)) (zav _)
   refine ⟨x2',h2,?_⟩
   rw [List.map_cons]
   unfold forL
   rw [e0,zad,s2,zad]
   exact e2
theorem zi8 (xs:List Int) (hl:xs.length<=lim):ziA [IR xs]=.ok (IR (zlY xs)):=by
 obtain ⟨x2,h2,e⟩:=zkI (.val (IR xs)) xs 0 .no za2
 have s1:zaC (gN 1) (eC (.int 0)) [.val (IR xs),.no,.no]=.ok (.nx,[.val (IR xs),.val (.int ((0:Nat):Int)),.no]):=rfl
 have s2:zgM [.val (IR xs),.val (.int ((0:Nat):Int)),.no]=.ok (.nx,[.val (IR xs),.val (.int (zgq 0 xs:Int)),x2]):=e
 show ((zgr [.val (IR xs),.no,.no]).bind _).bind _=_
 unfold zgr
 rw [zak s1,zak s2]
 unfold zlY
 by_cases c:zgq 0 xs=0
 ·rw [if_pos c,c]
  simp only [zaq,sIf,tB,FL.e2,eV,zz1,zz0,eC,zad,zb9,decide_eq_true (show ((0:Nat):Int)=0 from rfl),zaw,sNx,if_true,List.replicate,outs,outD]
 ·rw [if_neg c]
  have s3:sIf (tB (FL.e2 eqD (eV 1) (eC (.int 0)))) (zaw (eV 0)) sNx [.val (IR xs),.val (.int (zgq 0 xs:Int)),x2]=.ok (.nx,[.val (IR xs),.val (.int (zgq 0 xs:Int)),x2]):=by
   simp only [sIf,tB,FL.e2,eV,zz1,zz0,eC,zad,zb9,decide_eq_false (show ¬((zgq 0 xs:Nat):Int)=0 by omega),zaw,sNx,Bool.false_eq_true,if_false]
  rw [zak s3]
  have q:zec [.val (IR xs),.val (.int (zgq 0 xs:Int)),x2]=.ok (IR (xs.map (· / (zgq 0 xs:Int))),[.val (IR xs),.val (.int (zgq 0 xs:Int)),x2]):=by
   unfold zec IR
   rw [zb0 (f0:=PyData.int) (xs:=xs) (fun i=>.int (i / (zgq 0 xs:Int))) rfl hl fun i mi=>?_]
   ·rw [List.map_map];rfl
   ·refine ⟨[.val (.int i),.val (.int (zgq 0 xs:Int))],rfl,?_,za8 trivial⟩
    have fd:zbM (.int i) (.int (zgq 0 xs:Int))=.ok (.int (i / (zgq 0 xs:Int))):=zdx (by omega) (Int.ofNat_dvd_left.mpr ((zeJ xs 0).2 i mi))
    simp only [FL.e2,eV,zz0,zad,zz1,fd]
  unfold zaw
  rw [q]
  rfl
def zfv (L:Nat) (xs:List Rat):Nat:=xs.foldl (fun L r=>L / Nat.gcd L r.den * r.den) L
def zaM (xs:List Rat):List Int:=zlY (xs.map fun r=>r.num * ((zfv 1 xs / r.den:Nat):Int))
theorem zfU (L d:Nat):L / Nat.gcd L d * d=Nat.lcm L d:=by
 rw [Nat.lcm,Nat.div_mul_right_comm (Nat.gcd_dvd_left L d)]
theorem zj8:∀ (xs:List Rat) (L:Nat),L ∣ zfv L xs/\∀ r ∈ xs,r.den ∣ zfv L xs
 | [],L=>⟨Nat.dvd_refl _,fun _ h=>nomatch h⟩
 | x :: xs,L=>by
  have ih:=zj8 xs (L / Nat.gcd L x.den * x.den)
  rw [zfU] at ih
  have e:zfv L (x :: xs)=zfv (Nat.lcm L x.den) xs:=by
   show zfv (L / Nat.gcd L x.den * x.den) xs=_
   rw [zfU]
  rw [e]
  refine ⟨Nat.dvd_trans (Nat.dvd_lcm_left ..) ih.1,fun r hr=>?_⟩
  rcases List.mem_cons.mp hr with rfl | hr
  ·exact Nat.dvd_trans (Nat.dvd_lcm_right ..) ih.1
  ·exact ih.2 r hr
theorem znj:∀ (xs:List Rat) (L:Nat),0 < L->0 < zfv L xs
 | [],L,h=>h
 | x :: xs,L,h=>by
  refine znj xs _ ?_
  show 0 < L / Nat.gcd L x.den * x.den
  rw [zfU]
  exact Nat.lcm_pos h (Nat.pos_of_ne_zero x.den_nz)
theorem zo1 {L d a n:Nat} (h:L < 2 ^ a) (hd:d < 2 ^ n):L / Nat.gcd L d * d < 2 ^ (a + n):=Nat.lt_of_le_of_lt (Nat.mul_le_mul_right _ (Nat.div_le_self ..)) (QR.zfR h hd)
theorem zml {n:Nat}:∀ (xs:List Rat) (L a:Nat),L < 2 ^ a->(∀ r ∈ xs,r.den < 2 ^ n)->zfv L xs < 2 ^ (a + n * xs.length)
 | [],L,a,h,_=>by simpa [zfv] using h
 | x :: xs,L,a,h,hx=>by
  have:=zml (n:=n) xs (L / Nat.gcd L x.den * x.den) (a + n) (zo1 h (hx x (List.mem_cons_self ..))) fun r hr=>hx r (List.mem_cons_of_mem _ hr)
  rw [List.length_cons,Nat.mul_succ,show a + (n * xs.length + n)=a + n + n * xs.length by omega]
  exact this
theorem zi6 {n:Nat} (x0:Sl):∀ (xs:List Rat) (L a:Nat) (x2:Sl),Np x2->0 < L->L < 2 ^ a->a + n * xs.length<=10000000->(∀ r ∈ xs,r.den < 2 ^ n) ->
  ∃ x2',Np x2'/\forL (gN 2) zce (xs.map num) [x0,.val (.int (L:Int)),x2]=.ok (.nx,[x0,.val (.int (zfv L xs:Int)),x2'])
 | [],L,a,x2,h,_,_,_,_=>⟨x2,h,rfl⟩
 | x :: xs,L,a,x2,h,hp,hL,ha,hx=>by
  rw [List.length_cons,Nat.mul_succ] at ha
  have hd:=hx x (List.mem_cons_self ..)
  have e0:gN 2 (num x) [x0,.val (.int (L:Int)),x2]=.ok [x0,.val (.int (L:Int)),.val (num x)]:=zcH (x:=x2) rfl h
  have k1:zat [.int (L:Int),.int (x.den:Int)]=.ok (.int ((Nat.gcd L x.den:Nat):Int)):=by rw [znp];rfl
  have k2:zbM (.int (L:Int)) (.int ((Nat.gcd L x.den:Nat):Int))=.ok (.int ((L / Nat.gcd L x.den:Nat):Int)):=by
   have:=Nat.gcd_pos_of_pos_left x.den hp
   rw [zdx (by omega) (Int.natCast_dvd_natCast.mpr (Nat.gcd_dvd_left ..))]
   rfl
  have k3:zcd (.int ((L / Nat.gcd L x.den:Nat):Int)) (.int (x.den:Int))=.ok (.int ((L / Nat.gcd L x.den * x.den:Nat):Int)):=by
   rw [za6 (n:=a) (m:=n) ⟨by rw [Int.natAbs_natCast];exact Nat.lt_of_le_of_lt (Nat.div_le_self ..) hL⟩ ⟨by simpa using hd⟩ (by omega)]
   rfl
  have s1:zce [x0,.val (.int (L:Int)),.val (num x)]=.ok (.nx,[x0,.val (.int ((L / Nat.gcd L x.den * x.den:Nat):Int)),.val (num x)]):=by
   unfold zce num
   simp only [zaC,FL.e2,eV,zz1,zz0,zae,zab,eC,zad,zah,lx1,k1,k2,k3,gN,List.set_cons_succ,List.set_cons_zero]
  obtain ⟨x2',h2,e2⟩:=zi6 (n:=n) x0 xs (L / Nat.gcd L x.den * x.den) (a + n) (.val (num x)) (zav _) (by rw [zfU];exact Nat.lcm_pos hp (Nat.pos_of_ne_zero x.den_nz)) (zo1 hL hd) (by omega) fun r hr=>hx r (List.mem_cons_of_mem _ hr)
  refine ⟨x2',h2,?_⟩
  rw [List.map_cons]
  unfold forL
  rw [e0,zad,s1,zad]
  exact e2
theorem zq9 {xs:List Rat} {n:Nat} (hx:∀ r ∈ xs,QR.Bd n r) (hn:n * (xs.length + 1) + 1<=9000000) (hl:xs.length<=lim):zft [zai xs]=.ok (IR (zaM xs)):=by
 have hd:∀ r ∈ xs,r.den < 2 ^ n:=fun r hr=>(hx r hr).2
 rw [Nat.mul_succ] at hn
 obtain ⟨x2,h2,e⟩:=zi6 (n:=n) (.val (zai xs)) xs 1 1 .no za2 (by decide) (by decide) (by omega) hd
 have s1:zaC (gN 1) (eC (.int 1)) [.val (zai xs),.no,.no]=.ok (.nx,[.val (zai xs),.val (.int ((1:Nat):Int)),.no]):=rfl
 have s2:zfb [.val (zai xs),.val (.int ((1:Nat):Int)),.no]=.ok (.nx,[.val (zai xs),.val (.int (zfv 1 xs:Int)),x2]):=e
 have q:zcZ [.val (zai xs),.val (.int (zfv 1 xs:Int)),x2]=.ok (IR (xs.map fun r=>r.num * ((zfv 1 xs / r.den:Nat):Int)),[.val (zai xs),.val (.int (zfv 1 xs:Int)),x2]):=by
  unfold zcZ IR
  rw [zb0 (f0:=num) (xs:=xs) (fun r=>.int (r.num * ((zfv 1 xs / r.den:Nat):Int))) rfl hl fun r mr=>?_]
  ·rw [List.map_map];rfl
  ·refine ⟨[.val (num r),.val (.int (zfv 1 xs:Int))],rfl,?_,za8 trivial⟩
   ·have fd:zbM (.int (zfv 1 xs:Int)) (.int (r.den:Int))=.ok (.int ((zfv 1 xs / r.den:Nat):Int)):=by
     have:=r.den_nz
     rw [zdx (by omega) (Int.natCast_dvd_natCast.mpr ((zj8 xs 1).2 r mr))]
     rfl
    have b1:=zml xs 1 1 (by decide) hd
    have mu:zcd (.int r.num) (.int ((zfv 1 xs / r.den:Nat):Int))=.ok (.int (r.num * ((zfv 1 xs / r.den:Nat):Int))):=za6 (n:=n) (m:=1 + n * xs.length) ⟨(hx r mr).1⟩ ⟨by rw [Int.natAbs_natCast];exact Nat.lt_of_le_of_lt (Nat.div_le_self ..) b1⟩ (by omega)
    unfold num
    simp only [FL.e2,eV,zz0,eC,zad,lx0,zz1,lx1,fd,mu]
 refine zbd (ρ:=[.val (zai xs),.val (.int (zfv 1 xs:Int)),x2]) rfl ?_
 show zef [.val (zai xs),.no,.no]=_
 unfold zef
 rw [zak s1,zak s2]
 unfold zaw zae zab zah
 rw [q]
 simp only [zad]
 rw [zi8 _ (by simpa using hl)]
 rfl
def fq (xs:List Rat):Rq:=fun j=>xs.getD j 0
theorem zh8 {xs:List Rat} (f:Rat->Int) (f0:f 0=0) (j:Nat):fn (xs.map f) j=f (fq xs j):=by
 unfold fn fq
 simp only [List.getD_eq_getElem?_getD,List.getElem?_map]
 cases xs[j]? <;> simp [f0]
theorem zqq {xs:List Rat} (j:Nat):fq xs j=0\/fq xs j ∈ xs:=by
 unfold fq
 rw [List.getD_eq_getElem?_getD]
 cases e:xs[j]? with
 | none=>exact .inl rfl
 | some x=>exact .inr (List.mem_of_getElem? e)
theorem den_mul (r:Rat):r * (r.den:Rat)=(r.num:Rat):=by
 have dn:(r.den:Rat) ≠ 0:=by have:=r.den_pos;simp;omega
 have:=Rat.mkRat_self r
 rw [Rat.mkRat_eq_div] at this
 grind
theorem zlW (xs:List Rat):∃ q:Rat,q ≠ 0/\∀ j,(fn (zaM xs) j:Rat)=q * fq xs j:=by
 obtain ⟨g,g0,hg⟩:=zeC (xs.map fun r=>r.num * ((zfv 1 xs / r.den:Nat):Int))
 have L0:=znj xs 1 (by decide)
 have L0':((zfv 1 xs:Nat):Rat) ≠ 0:=by simp;omega
 have g0':((g:Int):Rat) ≠ 0:=by simp;omega
 refine ⟨(zfv 1 xs:Rat) / (g:Rat),by grind,fun j=>?_⟩
 have h:=hg j
 rw [zh8 (fun r=>r.num * ((zfv 1 xs / r.den:Nat):Int)) (by simp)] at h
 have h':(g:Rat) * (fn (zaM xs) j:Rat)=((fq xs j).num:Rat) * ((zfv 1 xs / (fq xs j).den:Nat):Rat):=by
  have:=congrArg (Int.cast (R:=Rat)) h
  push_cast at this
  exact this
 have hd:(fq xs j).den ∣ zfv 1 xs:=by
  rcases zqq (xs:=xs) j with z | z
  ·rw [z];exact Nat.one_dvd _
  ·exact (zj8 xs 1).2 _ z
 obtain ⟨c,hc⟩:=hd
 have dp:=(fq xs j).den_pos
 have e1:zfv 1 xs / (fq xs j).den=c:=by rw [hc];exact Nat.mul_div_cancel_left c dp
 rw [e1] at h'
 have e2:((zfv 1 xs:Nat):Rat)=((fq xs j).den:Rat) * (c:Rat):=by rw [hc];push_cast;rfl
 have e3:=den_mul (fq xs j)
 rw [e2]
 generalize ((fq xs j).den:Rat)=dd at *
 generalize ((fq xs j).num:Rat)=nn at *
 grind
theorem znR (xs:List Rat):(zaM xs).length=xs.length:=by unfold zaM;rw [zmX,List.length_map]
theorem zkE (xs:List Rat):PZ (fn (zaM xs)):=zoW _
theorem zoM {xs:List Rat} {n:Nat} (hx:∀ r ∈ xs,QR.Bd n r) (j:Nat):(fn (zaM xs) j).natAbs < 2 ^ (n * (xs.length + 1) + 1):=by
 refine Nat.lt_of_le_of_lt (ztx _ j) ?_
 rw [zh8 (fun r=>r.num * ((zfv 1 xs / r.den:Nat):Int)) (by simp)]
 rcases zqq (xs:=xs) j with z | z
 ·rw [z];simpa using Nat.pow_pos (by decide)
 ·have b1:=zml xs 1 1 (by decide) fun r hr=>(hx r hr).2
  rw [Int.natAbs_mul,Int.natAbs_natCast,show n * (xs.length + 1) + 1=n + (1 + n * xs.length) by rw [Nat.mul_succ];omega]
  exact QR.zfR (hx _ z).1 (Nat.lt_of_le_of_lt (Nat.div_le_self ..) b1)
end FL
namespace FL
open PySem MD
theorem zk7 (i:Int):keyOf (.int i)=some (.inr (.inl i)):=rfl
theorem zpR (a p:Nat):decide (keyOf (.int (a:Int))=some (.inr (.inl (p:Int))))=decide (a=p):=by
 rw [zk7]
 by_cases c:a=p
 ·subst c;simp
 ·rw [decide_eq_false c]
  exact decide_eq_false fun z=>c (Int.ofNat.inj (Sum.inl.inj (Sum.inr.inj (Option.some.inj z))))
theorem zk5:∀ h:zaV,keysOk false (h.map hent)=true
 | []=>rfl
 | e :: r=>by
  have ih:=zk5 r
  unfold keysOk at ih ⊢
  rw [List.map_cons,List.all_cons,ih,Bool.and_true]
  rfl
theorem zia (h:zaV) (p:Nat):dictAt (hD h) (.int (p:Int))=.ok (h.map hent,.inr (.inl (p:Int))):=by
 unfold hD dictAt
 rw [zk7]
 exact zay (zk5 h)
theorem zmk (p:Nat):∀ h:zaV,look (h.map hent) (.inr (.inl (p:Int)))=((h.find? fun e=>decide (e.1=p)).map fun e=>IR e.2)
 | []=>rfl
 | e :: r=>by
  have ih:=zmk p r
  unfold look at ih ⊢
  simp only [List.map_cons,List.find?_cons]
  rw [show decide (keyOf (hent e).1=some (.inr (.inl (p:Int))))=decide (e.1=p) from zpR e.1 p]
  cases decide (e.1=p) with
  | true=>rfl
  | false=>exact ih
theorem zli {h:zaV} (nd:(h.map (·.1)).Nodup) {e:Nat × List Int} (he:e ∈ h):h.find? (fun y=>decide (y.1=e.1))=some e:=by
 induction h with
 | nil=>exact nomatch he
 | cons y r ih =>
  rw [List.map_cons,List.nodup_cons] at nd
  rcases List.mem_cons.mp he with rfl | he
  ·rw [List.find?_cons_of_pos (by simp)]
  ·rw [List.find?_cons_of_neg (by
    simp only [decide_eq_true_eq]
    intro z
    exact nd.1 (z ▸ List.mem_map_of_mem (f:=(·.1)) he))]
   exact ih nd.2 he
theorem zhm {h:zaV} (nd:(h.map (·.1)).Nodup) {e:Nat × List Int} (he:e ∈ h):zjq (hD h) (.int (e.1:Int))=.ok (IR e.2):=by
 unfold zjq zgO
 rw [zia,zad,zad,zmk,zli nd he]
 rfl
theorem find_none {h:zaV} {p:Nat} (hp:p ∉ h.map (·.1)):h.find? (fun y=>decide (y.1=p))=none:=by
 rw [List.find?_eq_none]
 intro e he
 simp only [decide_eq_true_eq]
 intro z
 exact hp (z ▸ List.mem_map_of_mem (f:=(·.1)) he)
theorem zlm {h:zaV} {p:Nat} (hp:p ∉ h.map (·.1)) (hl:h.length + 1<=lim) (x:List Int):zow (hD h) (.int (p:Int)) (IR x)=.ok (hD (h ++ [(p,x)])):=by
 unfold zow
 rw [zia,zad]
 show chk (leB ((h.map hent).length + 1) lim) _=_
 rw [zay (by rw [List.length_map];exact zdk hl)]
 unfold zsU
 rw [if_neg]
 ·rw [hD,List.map_append];rfl
 ·rw [Bool.not_eq_true,List.any_eq_false]
  intro y hy
  obtain ⟨e,he,rfl⟩:=List.mem_map.mp hy
  rw [show decide (keyOf (hent e).1=some (.inr (.inl (p:Int))))=decide (e.1=p) from zpR e.1 p]
  simp only [decide_eq_true_eq]
  intro z
  exact hp (z ▸ List.mem_map_of_mem (f:=(·.1)) he)
theorem zrR (h:zaV) (p:Nat):zu7 (.int (p:Int)) (hD h)=.ok (.bool (decide (p ∉ h.map (·.1)))):=by
 unfold zu7 zgO
 rw [zia,zad,zad,zmk]
 by_cases c:p ∈ h.map (·.1)
 ·obtain ⟨e,he,rfl⟩:=List.mem_map.mp c
  have:(h.find? fun y=>decide (y.1=e.1)).isSome=true:=by
   rw [List.find?_isSome]
   exact ⟨e,he,by simp⟩
  rw [Option.isSome_map,this,decide_eq_false (fun z=>z c)]
  rfl
 ·rw [find_none c,decide_eq_true c];rfl
theorem zhW (h:zaV):zk6 (hD h)=.ok (h.map fun e=>.int (e.1:Int)):=by
 show R.ok ((h.map hent).map (·.1))=_
 rw [List.map_map];rfl
theorem zqN {α:Type} {xs:List α} {i:Nat} (h:i < xs.length):atI xs (i:Int)=xs[i]?:=by
 unfold atI ixN
 rw [if_pos (by omega),if_pos (by omega)]
 simp
theorem zp3 {xs:List Int} {i:Nat} (h:i < xs.length):ixD (IR xs) (.int (i:Int))=.ok (.int (fn xs i)):=by
 show R.of (atI (xs.map PyData.int) (i:Int))=_
 rw [zqN (by simpa using h),List.getElem?_map,List.getElem?_eq_getElem h]
 show R.ok _=_
 unfold fn
 rw [List.getD_eq_getElem?_getD,List.getElem?_eq_getElem h]
 rfl
theorem zuw {xs:List Rat} {i:Nat} (h:i < xs.length):ixD (zai xs) (.int (i:Int))=.ok (num (fq xs i)):=by
 show R.of (atI (xs.map num) (i:Int))=_
 rw [zqN (by simpa using h),List.getElem?_map,List.getElem?_eq_getElem h]
 show R.ok _=_
 unfold fq
 rw [List.getD_eq_getElem?_getD,List.getElem?_eq_getElem h]
 rfl
def zds:List Int->Option Nat
 | []=>none
 | x :: xs=>if x=0 then (zds xs).map (· + 1) else some 0
theorem zgj:∀ {xs:List Int} {p:Nat},zds xs=some p->fn xs p ≠ 0/\∀ j,j < p->fn xs j=0
 | [],p,h=>nomatch h
 | x :: xs,p,h=>by
  unfold zds at h
  split at h
  ·rename_i c
   rw [Option.map_eq_some_iff] at h
   obtain ⟨q,hq,rfl⟩:=h
   obtain ⟨h1,h2⟩:=zgj hq
   refine ⟨h1,fun j hj=>?_⟩
   cases j with
   | zero=>exact c
   | succ j=>exact h2 j (by omega)
  ·rename_i c
   cases h
   exact ⟨c,fun j hj=>by omega⟩
theorem zgk:∀ {xs:List Int},zds xs=none->∀ j,fn xs j=0
 | [],h,j=>by simp [fn]
 | x :: xs,h,j=>by
  unfold zds at h
  split at h
  ·rename_i c
   rw [Option.map_eq_none_iff] at h
   cases j with
   | zero=>exact c
   | succ j=>exact zgk h j
  ·cases h
def zxC:Option Nat->D
 | none=>.none
 | some p=>.int (p:Int)
theorem zd9 (x0:Sl):∀ (xs:List Int) (i:Nat) (x1 x2:Sl),Np x1->Np x2->∃ y1 y2,Np y1/\Np y2/\forL (gT [(gN 1),(gN 2)]) zbJ (zeV i (xs.map PyData.int)) [x0,x1,x2]=.ok (match zds xs with
  | none=>.nx
  | some p=>.rt (.int ((i + p:Nat):Int)),[x0,y1,y2])
 | [],i,x1,x2,h1,h2=>⟨x1,x2,h1,h2,rfl⟩
 | x :: xs,i,x1,x2,h1,h2=>by
  have e0:gT [(gN 1),(gN 2)] (.tuple [.int (i:Int),.int x]) [x0,x1,x2]=.ok [x0,.val (.int (i:Int)),.val (.int x)]:=by
   show (gN 1 (.int (i:Int)) [x0,x1,x2]).bind _=_
   rw [zcH (x:=x1) rfl h1,zad]
   show (gN 2 (.int x) [x0,.val (.int (i:Int)),x2]).bind _=_
   rw [zcH (x:=x2) rfl h2]
   rfl
  rw [List.map_cons]
  unfold zeV forL
  rw [e0,zad]
  unfold zds
  by_cases c:x=0
  ·have s1:zbJ [x0,.val (.int (i:Int)),.val (.int x)]=.ok (.nx,[x0,.val (.int (i:Int)),.val (.int x)]):=by
    unfold zbJ
    simp only [sIf,tB,FL.e2,eV,zz1,zz0,eC,zad,zbT,decide_eq_true c,Bool.not_true,zaw,sNx,Bool.false_eq_true,if_false]
   rw [s1,zad,if_pos c]
   obtain ⟨y1,y2,g1,g2,e⟩:=zd9 x0 xs (i + 1) (.val (.int (i:Int))) (.val (.int x)) (zav _) (zav _)
   refine ⟨y1,y2,g1,g2,e.trans ?_⟩
   cases zds xs with
   | none=>rfl
   | some p=>simp only [Option.map_some];rw [show i + 1 + p=i + (p + 1) by omega]
  ·have s1:zbJ [x0,.val (.int (i:Int)),.val (.int x)]=.ok (.rt (.int (i:Int)),[x0,.val (.int (i:Int)),.val (.int x)]):=by
    unfold zbJ
    simp only [sIf,tB,FL.e2,eV,zz1,zz0,eC,zad,zbT,decide_eq_false c,Bool.not_false,zaw,sNx,if_true]
   rw [s1,zad,if_neg c]
   exact ⟨_,_,zav _,zav _,rfl⟩
theorem zup (xs:List Int):ziB [IR xs]=.ok (zxC (zds xs)):=by
 obtain ⟨y1,y2,_,_,e⟩:=zd9 (.val (IR xs)) xs 0 .no .no za2 za2
 have s1:zgN [.val (IR xs),.no,.no]=.ok (match zds xs with
  | none=>.nx
  | some p=>.rt (.int ((0 + p:Nat):Int)),[.val (IR xs),y1,y2]):=e
 show ((zgs [.val (IR xs),.no,.no]).bind _).bind _=_
 unfold zgs zaq
 rw [s1,zad]
 cases zds xs with
 | none=>rfl
 | some p=>simp only [Nat.zero_add];rfl
theorem zjv {w o:List Int} {p a b:Nat} (hl:w.length=o.length) (hp:p < w.length) (hw:∀ j,(fn w j).natAbs < 2 ^ a) (ho:∀ j,(fn o j).natAbs < 2 ^ b) (hab:a + b<=100000000) (hm:w.length<=lim) :
  zex [IR w,IR o,.int (p:Int)]=.ok (IR (cleared w o p)):=by
 have i1:=zp3 hp
 have i2:=zp3 (hl ▸ hp)
 show ((zgu [.val (IR w),.val (IR o),.val (.int (p:Int))]).bind _).bind _=_
 unfold zgu cleared
 by_cases c:fn w p=0
 ·rw [if_pos c]
  simp only [zaq,sIf,tB,FL.e2,eV,zz0,zad,zz1,i1,eC,zb9,decide_eq_true c,zaw,sNx,if_true,zae,zab,zah,List.replicate,outs,outD]
 ·rw [if_neg c]
  have s1:sIf (tB (FL.e2 eqD (FL.e2 ixD (eV 0) (eV 2)) (eC (.int 0)))) (zaw (eV 0)) sNx [.val (IR w),.val (IR o),.val (.int (p:Int))]=.ok (.nx,[.val (IR w),.val (IR o),.val (.int (p:Int))]):=by
   simp only [sIf,tB,FL.e2,eV,zz0,zad,zz1,i1,eC,zb9,decide_eq_false c,zaw,sNx,Bool.false_eq_true,if_false]
  rw [zak s1]
  have zm:∀ (xs ys:List Int),zkD (xs.map PyData.int) (ys.map PyData.int)=(xs.zip ys).map fun q=>.tuple [.int q.1,.int q.2]:=by
   intro xs
   induction xs with
   | nil=>intro ys;cases ys <;> rfl
   | cons x xs ih =>
    intro ys
    cases ys with
    | nil=>rfl
    | cons y ys=>simp only [List.map_cons,zkD,List.zip_cons_cons,ih]
  have q:zee [.val (IR w),.val (IR o),.val (.int (p:Int))]=.ok (IR (List.zipWith (fun m i=>fn o p * m - fn w p * i) w o),[.val (IR w),.val (IR o),.val (.int (p:Int))]):=by
   unfold zee
   rw [zb0 (f0:=fun q:Int × Int=>.tuple [.int q.1,.int q.2]) (xs:=w.zip o) (fun q=>.int (fn o p * q.1 - fn w p * q.2)) (by
    rw [<- zm];rfl) (by rw [List.length_zip];omega) fun q mi=>?_]
   ·have:∀ (xs ys:List Int),(xs.zip ys).map (fun q=>PyData.int (fn o p * q.1 - fn w p * q.2))=(List.zipWith (fun m i=>fn o p * m - fn w p * i) xs ys).map PyData.int:=by
     intro xs
     induction xs with
     | nil=>intro ys;cases ys <;> rfl
     | cons x xs ih=>intro ys;cases ys with
      | nil=>rfl
      | cons y ys=>simp only [List.zip_cons_cons,List.map_cons,List.zipWith_cons_cons,ih]
    rw [this];rfl
   ·obtain ⟨x,y⟩:=q
    refine ⟨[.val (.int x),.val (.int y),.val (IR w),.val (IR o),.val (.int (p:Int))],rfl,?_,za8 trivial⟩
    have mx:∃ j,fn w j=x:=let ⟨j,_,e⟩:=znf (List.of_mem_zip mi).1;⟨j,e⟩
    have my:∃ j,fn o j=y:=let ⟨j,_,e⟩:=znf (List.of_mem_zip mi).2;⟨j,e⟩
    obtain ⟨jx,rfl⟩:=mx
    obtain ⟨jy,rfl⟩:=my
    have m1:zcd (.int (fn o p)) (.int (fn w jx))=.ok (.int (fn o p * fn w jx)):=za6 (n:=b) (m:=a) ⟨ho _⟩ ⟨hw _⟩ (by omega)
    have m2:zcd (.int (fn w p)) (.int (fn o jy))=.ok (.int (fn w p * fn o jy)):=za6 (n:=a) (m:=b) ⟨hw _⟩ ⟨ho _⟩ (by omega)
    simp only [FL.e2,eV,zz1,zz0,zad,i2,m1,ze4,i1,m2]
  unfold zaw zae zab zah
  rw [q]
  simp only [zad]
  rw [zi8 _ (by rw [List.length_zipWith];omega)]
  rfl
end FL
namespace FL
open PySem MD
theorem zoA (h:zaV) (e:Nat × List Int) (w:List Int):clears (h ++ [e]) w=cleared (clears h w) e.2 e.1:=by
 unfold clears
 rw [List.foldl_append]
 rfl
theorem zst {n B:Nat} {held:zaV} {w:List Int} {x0 x2 x5:Sl} (nd:(held.map (·.1)).Nodup) (hr:∀ e ∈ held,e.2.length=n/\e.1 < n/\∀ j,(fn e.2 j).natAbs < 2 ^ B)
  (hw:∀ i,(clears (held.take i) w).length=n/\∀ j,(fn (clears (held.take i) w) j).natAbs < 2 ^ B) (hB:B<=10000000) (hn:n<=1000) {x4:Sl} (h4:Np x4) :
  ∃ y4,Np y4/\zbX [x0,.val (hD held),x2,.val (IR w),x4,x5]=.ok (.nx,[x0,.val (hD held),x2,.val (IR (clears held w)),y4,x5]):=by
 obtain ⟨ρ',e,y4,g4,rfl⟩:=zbc (f:=fun e:Nat × List Int=>.int (e.1:Int)) (g:=gN 4) (b:=zbZ) (fun done ρ=>∃ y4,Np y4/\ρ=[x0,.val (hD held),x2,.val (IR (clears done w)),y4,x5]) held [] [x0,.val (hD held),x2,.val (IR w),x4,x5] ⟨x4,h4,rfl⟩ (by
  rintro pre e post ρ heq ⟨y4,g4,rfl⟩
  rw [List.nil_append] at heq
  have me:e ∈ held:=by rw [heq];simp
  obtain ⟨h1,h2,h3⟩:=hr e me
  obtain ⟨k1,k2⟩:=hw pre.length
  have tk:held.take pre.length=pre:=by rw [heq];simp
  rw [tk] at k1 k2
  have c:=zjv (w:=clears pre w) (o:=e.2) (p:=e.1) (a:=B) (b:=B) (k1.trans h1.symm) (by omega) k2 h3 (by omega) (by show _<=1000000;omega)
  refine ⟨_,.nx,?_,.inl rfl,.val (.int (e.1:Int)),zav _,rfl⟩
  rw [zcH (x:=y4) rfl g4,zad]
  unfold zbZ
  have dx:=zhm nd me
  simp only [zaC,zae,zab,eV,List.set_cons_succ,List.set_cons_zero,zz1,zz0,FL.e2,zah,zad,dx,c,gN]
  rw [zoA])
 refine ⟨y4,g4,?_⟩
 unfold zbX zcP
 have:iD (eV 1) [x0,.val (hD held),x2,.val (IR w),x4,x5]=.ok (held.map (fun e=>.int (e.1:Int)),[x0,.val (hD held),x2,.val (IR w),x4,x5]):=by
  simp only [iD,eV,zz1,zz0,zad,zhW]
 rw [this,zad]
 simpa using e
theorem zoy {n B p:Nat} {held:zaV} {x:List Int} {x0 x2 x4:Sl} (nd:(held.map (·.1)).Nodup) (hr:∀ e ∈ held,e.2.length=n/\∀ j,(fn e.2 j).natAbs < 2 ^ B) (hx:x.length=n) (hx2:∀ j,(fn x j).natAbs < 2 ^ B) (hp:p < n) (hB:B<=10000000) (hn:n<=1000) (hl:held.length + 1<=lim) :
  zbb [x0,.val (hD held),x2,.val (IR x),x4,.val (.int (p:Int))]=.ok (hD (held.map fun e=>(e.1,cleared e.2 x p)),[x0,.val (hD held),x2,.val (IR x),x4,.val (.int (p:Int))]):=by
 unfold zbb zjp
 have it:iD (eV 1) [x0,.val (hD held),x2,.val (IR x),x4,.val (.int (p:Int))]=.ok (held.map (fun e=>.int (e.1:Int)),[x0,.val (hD held),x2,.val (IR x),x4,.val (.int (p:Int))]):=by
  simp only [iD,eV,zz1,zz0,zad,zhW]
 rw [it,zad]
 obtain ⟨acc,h1,h2⟩:=zjs (k:=1) (ix:=[1,3,5]) (g:=gN 0) (t:=za5) (kf:=eV 0) (vf:=zae zex (zab (FL.e2 zjq (eV 1) (eV 0)) (zab (eV 2) (zab (eV 3) zah)))) (ρ:=[x0,.val (hD held),x2,.val (IR x),x4,.val (.int (p:Int))])
  (f:=fun e:Nat × List Int=>.int (e.1:Int)) held (fun done acc=>acc=hD (done.map fun e=>(e.1,cleared e.2 x p))) (by
  rintro done e rest acc heq rfl
  have me:e ∈ held:=by rw [heq];simp
  obtain ⟨k1,k2⟩:=hr e me
  have c:=zjv (w:=e.2) (o:=x) (p:=p) (a:=B) (b:=B) (k1.trans hx.symm) (by omega) k2 hx2 (by omega) (by show _<=1000000;omega)
  have dx:=zhm nd me
  have np:e.1 ∉ (done.map fun e=>(e.1,cleared e.2 x p)).map (·.1):=by
   rw [List.map_map]
   rw [heq,List.map_append,List.map_cons,List.nodup_append] at nd
   intro z
   exact nd.2.2 e.1 (by simpa using z) e.1 (List.mem_cons_self ..) rfl
  have pt:=zlm np (by have:=congrArg List.length heq;simp at this ⊢;omega) (cleared e.2 x p)
  refine ⟨_,rfl,fun tail=>?_⟩
  show ((gN 0 (.int (e.1:Int)) [.no,.val (hD held),.val (IR x),.val (.int (p:Int))]).bind _)=_
  rw [show gN 0 (.int (e.1:Int)) [.no,.val (hD held),.val (IR x),.val (.int (p:Int))]=.ok [.val (.int (e.1:Int)),.val (hD held),.val (IR x),.val (.int (p:Int))] from rfl,zad]
  have vf:zae zex (zab (FL.e2 zjq (eV 1) (eV 0)) (zab (eV 2) (zab (eV 3) zah))) [.val (.int (e.1:Int)),.val (hD held),.val (IR x),.val (.int (p:Int))]=.ok (IR (cleared e.2 x p),[.val (.int (e.1:Int)),.val (hD held),.val (IR x),.val (.int (p:Int))]):=by
   simp only [zae,zab,FL.e2,eV,zz1,zz0,zad,dx,zah,c]
  rw [show za5 [.val (.int (e.1:Int)),.val (hD held),.val (IR x),.val (.int (p:Int))]=.ok (true,[.val (.int (e.1:Int)),.val (hD held),.val (IR x),.val (.int (p:Int))]) from rfl,zad,if_pos rfl]
  rw [show eV 0 [.val (.int (e.1:Int)),.val (hD held),.val (IR x),.val (.int (p:Int))]=.ok (.int (e.1:Int),[.val (.int (e.1:Int)),.val (hD held),.val (IR x),.val (.int (p:Int))]) from rfl,zad,vf,zad,pt,zad]
  rw [show (done.map fun e=>(e.1,cleared e.2 x p)) ++ [(e.1,cleared e.2 x p)]=(done ++ [e]).map fun e=>(e.1,cleared e.2 x p) by simp]
  rw [za8 (cs:=List.drop 1 (IR (cleared e.2 x p),[Sl.val (.int (e.1:Int)),.val (hD held),.val (IR x),.val (.int (p:Int))]).2) trivial]) held [] (.dict []) rfl rfl
 rw [h2,zad,h1]
theorem _root_.MD.SpQ.old {ws:List Rw} {w:Rw} {v:Rq} (h:SpQ ws v):SpQ (w :: ws) v:=⟨0,v,h,fun j=>by grind⟩
theorem _root_.MD.SpQ.new (ws:List Rw) (w:Rw):SpQ (w :: ws) (fun j=>(w j:Rat)):=⟨1,_,SpQ.zero ws,fun j=>by grind⟩
structure zfw (n:Nat) (M:List (List Rat)) (ws:List Rw) (S:List Nat) (held:zaV):Prop where
 ok:zbg n ws S held
 src:∀ w ∈ ws,∃ r ∈ M,w=fn (zaM r)
 sp:∀ r ∈ M,SpQ ws (fq r)
 len:ws.length<=M.length
theorem zo4 {ws:List Rw} {r:List Rat} (h:SpQ ws (fun j=>(fn (zaM r) j:Rat))):SpQ ws (fq r):=by
 obtain ⟨q,q0,e⟩:=zlW r
 refine (h.lin (1 / q) 0 (SpQ.zero ws)).of_eq fun j=>?_
 rw [e j]
 grind
def zi0 (b n:Nat):Nat:=b * (n + 1) + 1
theorem znD {a N K:Nat} (hN:N<=15) (h:K<=(N + 1) * (2 ^ a * (N * 2 ^ a) ^ N)):K < 2 ^ ((a + 4) * (N + 1) + 1):=by
 have h1:N + 1<=2 ^ 4:=by omega
 have h2:N * 2 ^ a<=2 ^ (a + 4):=by
  rw [Nat.pow_add,Nat.mul_comm]
  exact Nat.mul_le_mul_left _ (by omega)
 have h3:(N * 2 ^ a) ^ N<=2 ^ ((a + 4) * N):=by
  rw [Nat.pow_mul]
  exact Nat.pow_le_pow_left h2 N
 have h4:(N + 1) * (2 ^ a * (N * 2 ^ a) ^ N)<=2 ^ 4 * (2 ^ a * 2 ^ ((a + 4) * N)):=Nat.mul_le_mul h1 (Nat.mul_le_mul_left _ h3)
 rw [<- Nat.pow_add,<- Nat.pow_add] at h4
 have h5:2 ^ (4 + (a + (a + 4) * N)) < 2 ^ ((a + 4) * (N + 1) + 1):=Nat.pow_lt_pow_right (by decide) (by rw [Nat.mul_succ];omega)
 omega
end FL
namespace FL
open PySem MD
def zaH (e:Nat × List Int):List Rat:=e.2.map fun x=>Rat.divInt x (fn e.2 e.1)
theorem zki (p q:Int):Rat.divInt p q=(p:Rat) / (q:Rat):=Rat.divInt_eq_div p q
theorem zel (e:Nat × List Int) (j:Nat):fq (zaH e) j=kr e j:=by
 unfold fq zaH kr fn
 simp only [List.getD_eq_getElem?_getD,List.getElem?_map]
 cases e.2[j]? with
 | none=>simp only [Option.map_none,Option.getD_none];show (0:Rat)=((0:Int):Rat) / _;grind
 | some x=>simp only [Option.map_some,Option.getD_some];exact zki _ _
theorem zlz {p q:Int} {n:Nat} (hp:p.natAbs < 2 ^ n) (hq:q.natAbs < 2 ^ n) (q0:q ≠ 0):QR.Bd n (Rat.divInt p q):=by
 have h:=QR.zqn p q
 have e:num (Rat.divInt p q)=.tuple [.int (Q1.fr p q).1,.int (Q1.fr p q).2]:=by
  rw [num_divInt p q q0]
  unfold Q1.fr
  by_cases c:q < 0
  ·rw [if_pos c,if_pos c]
  ·rw [if_neg c,if_neg c]
 unfold num at e
 have e1:=congrArg (fun d=>match d with | PyData.tuple [.int a,.int b]=>(a,b) | _=>(0,0)) e
 simp only [Prod.mk.injEq] at e1
 refine ⟨?_,?_⟩
 ·rw [e1.1];omega
 ·have:=h.2
  rw [<- e1.2,Int.natAbs_natCast] at this
  omega
theorem zkS {α β:Type} (f:α->β) {l m:List β} (p:l.Perm m):∀ xs:List α,xs.map f=m->∃ ys:List α,ys.Perm xs/\ys.map f=l:=by
 induction p with
 | nil=>intro xs h;exact ⟨xs,.refl _,h⟩
 | cons a p ih =>
  intro xs h
  match xs,h with
  | x :: xs,h =>
   rw [List.map_cons,List.cons.injEq] at h
   obtain ⟨ys,h1,h2⟩:=ih xs h.2
   exact ⟨x :: ys,h1.cons x,by rw [List.map_cons,h.1,h2]⟩
 | swap a b l =>
  intro xs h
  match xs,h with
  | x :: y :: xs,h =>
   simp only [List.map_cons,List.cons.injEq] at h
   exact ⟨y :: x :: xs,.swap x y xs,by simp only [List.map_cons,h.1,h.2.1,h.2.2]⟩
 | trans p q ih1 ih2 =>
  intro xs h
  obtain ⟨ys,h1,h2⟩:=ih2 xs h
  obtain ⟨zs,h3,h4⟩:=ih1 ys h2
  exact ⟨zs,h3.trans h1,h4⟩
theorem zo5 (held:zaV) (hl:held.length < 64):∃ K:zaV,K.Perm held/\(K.map fun e=>(e.1:Int)).Pairwise (·<=·)/\zi9 (hD held)=.ok (.list (K.map fun e=>.int (e.1:Int))):=by
 obtain ⟨K,h1,h2⟩:=zkS (fun e:Nat × List Int=>(e.1:Int)) (zfl (held.map fun e=>(e.1:Int))) held rfl
 refine ⟨K,h1,by rw [h2];exact zdt _,?_⟩
 have e:(held.map hent).map (·.1)=(held.map fun e=>(e.1:Int)).map PyData.int:=by rw [List.map_map,List.map_map];rfl
 show (R.of (intsOf ((held.map hent).map (·.1)))).bind _=_
 rw [e,zoq]
 show chk (leB ((held.map fun e=>(e.1:Int)).length + 1) 64) _=_
 rw [zay (by rw [List.length_map];exact zdk hl),<- h2,List.map_map]
 rfl
theorem zoj {n:Nat} {held:zaV} (nd:(held.map (·.1)).Nodup) (hr:∀ e ∈ held,e.2.length=n/\e.1 < n/\fn e.2 e.1 ≠ 0) (hn:n<=1000) {e:Nat × List Int} (he:e ∈ held) :
  zc2 [.val (.int (e.1:Int)),.val (hD held)]=.ok (zai (zaH e),[.val (.int (e.1:Int)),.val (hD held)]):=by
 obtain ⟨h1,h2,h3⟩:=hr e he
 have dx:=zhm nd he
 unfold zc2
 rw [zb0 (f0:=PyData.int) (xs:=e.2) (fun x=>num (Rat.divInt x (fn e.2 e.1))) (by
  simp only [iE,FL.e2,eV,zz1,zz0,zad,dx,zfV]
  rfl) (by rw [h1];show n<=1000000;omega) fun x mx=>?_]
 ·unfold zai zaH;rw [List.map_map];rfl
 ·refine ⟨[.val (.int x),.val (.int (e.1:Int)),.val (hD held)],rfl,?_,za8 trivial⟩
  have ix:=zp3 (xs:=e.2) (i:=e.1) (by omega)
  have fr:=zh7 x _ h3
  simp only [zae,zab,eV,zz0,FL.e2,zah,zad,zz1,dx,ix,fr]
structure HR (n:Nat) (held:zaV):Prop where
 nd:(held.map (·.1)).Nodup
 row:∀ e ∈ held,e.2.length=n/\e.1 < n/\fn e.2 e.1 ≠ 0
 len:held.length<=15
def zeU (f:Nat × List Int->Rat) (base:Nat->Rat) (held:zaV) (n:Nat):List Rat:=(List.range n).map fun j=>match held.find? (fun e=>decide (e.1=j)) with
 | some e=>f e
 | none=>base j
theorem zhj (f:Nat × List Int->Rat) (base:Nat->Rat) (held:zaV) (n:Nat):(zeU f base held n).length=n:=by unfold zeU;simp
theorem zhk (f:Nat × List Int->Rat) (base:Nat->Rat) (held:zaV) {n j:Nat} (h:j < n):fq (zeU f base held n) j=match held.find? (fun e=>decide (e.1=j)) with
 | some e=>f e
 | none=>base j:=by
 unfold fq zeU
 rw [List.getD_eq_getElem?_getD,List.getElem?_map,List.getElem?_range h]
 rfl
theorem zuL {f:Nat × List Int->Rat} {base:Nat->Rat} {held:zaV} {n:Nat} (nd:(held.map (·.1)).Nodup) {e:Nat × List Int} (he:e ∈ held) (h:e.1 < n):fq (zeU f base held n) e.1=f e:=by
 rw [zhk f base held h,zli nd he]
theorem zkh {f:Nat × List Int->Rat} {base:Nat->Rat} {held:zaV} {n j:Nat} (hj:j ∉ held.map (·.1)) (h:j < n):fq (zeU f base held n) j=base j:=by
 rw [zhk f base held h,find_none hj]
theorem zqp {xs:List Rat} {j:Nat} (h:xs.length<=j):fq xs j=0:=by
 unfold fq
 rw [List.getD_eq_getElem?_getD,List.getElem?_eq_none h]
 rfl
theorem zsf {f:Nat × List Int->Rat} {base:Nat->Rat} {done:zaV} {n:Nat} {e:Nat × List Int} (hn:e.1 ∉ done.map (·.1)):(zeU f base done n).set e.1 (f e)=zeU f base (done ++ [e]) n:=by
 apply List.ext_getElem?
 intro j
 unfold zeU
 rw [List.getElem?_set,List.getElem?_map,List.getElem?_map,List.length_map,List.length_range]
 by_cases c:e.1=j
 ·subst c
  rw [if_pos rfl]
  by_cases l:e.1 < n
  ·rw [if_pos l,List.getElem?_range l]
   simp only [Option.map_some,List.find?_append,find_none hn,Option.none_or]
   rw [show [e].find? (fun y=>decide (y.1=e.1))=some e by simp]
  ·rw [if_neg l,List.getElem?_eq_none (by simpa using l)];rfl
 ·rw [if_neg c]
  have:[e].find? (fun y=>decide (y.1=j))=none:=by simp [c]
  by_cases l:j < n
  ·rw [List.getElem?_range l]
   simp only [Option.map_some,List.find?_append,this,Option.or_none]
  ·rw [List.getElem?_eq_none (by simpa using l)];rfl
theorem zsg {f:Nat × List Int->Rat} {base:Nat->Rat} {held:zaV} {n:Nat} {x:Rat} (h:x ∈ zeU f base held n):(∃ e ∈ held,x=f e)\/∃ j,x=base j:=by
 unfold zeU at h
 obtain ⟨j,_,rfl⟩:=List.mem_map.mp h
 cases e:held.find? (fun e=>decide (e.1=j)) with
 | none=>exact .inr ⟨j,rfl⟩
 | some y=>exact .inl ⟨y,List.mem_of_find?_eq_some e,rfl⟩
theorem zo7 {xs:List Rat} {i:Nat} {v:Rat}:(xs.map num).set i (num v)=(xs.set i v).map num:=by rw [List.map_set]
theorem zp5 {n i:Nat} (h:i < n):ixN n (i:Int)=some i:=by
 unfold ixN
 rw [if_pos (by omega),if_pos (by omega)]
 simp
def nf (free:Nat) (e:Nat × List Int):Rat:=Rat.divInt (-(fn e.2 free)) (fn e.2 e.1)
def nb (free:Nat) (j:Nat):Rat:=if j=free then 1 else 0
def zdi (held:zaV) (n free:Nat):List Rat:=zeU (nf free) (nb free) held n
theorem zpb (n:Nat) (r:Rat):List.replicate n (num r)=(List.replicate n r).map num:=by simp
theorem zjZ {n free:Nat} {held:zaV} (h:HR n held) (hf:free < n) (hfr:free ∉ held.map (·.1)) (hn:n<=1000):zg1 [hD held,.int (free:Int),.int (n:Int)]=.ok (zai (zdi held n free)):=by
 have s1:zdd 3 (zsj (eC (.tuple [(.int 0),(.int 1)])) (eV 2)) [.val (hD held),.val (.int (free:Int)),.val (.int (n:Int)),.no,.no]=.ok (.nx,[.val (hD held),.val (.int (free:Int)),.val (.int (n:Int)),.ow false (zai (List.replicate n 0)),.no]):=by
  refine zdZ (i:=3) (x:=.no) (y:=(zai (List.replicate n 0),[.val (hD held),.val (.int (free:Int)),.val (.int (n:Int)),.no,.no])) ?_ rfl za2
  show chk (decide ((0:Int)<=(n:Int)) && leB ((n:Int).toNat) 1000000) _=_
  rw [zay (by rw [Bool.and_eq_true];exact ⟨by simp,zdk (by simp;omega)⟩)]
  show R.ok (PyData.list (List.replicate (n:Int).toNat (num 0)),_)=_
  rw [Int.toNat_natCast,zpb]
  rfl
 have s2:setM 3 (eC (.tuple [(.int 1),(.int 1)])) (eV 1) [.val (hD held),.val (.int (free:Int)),.val (.int (n:Int)),.ow false (zai (List.replicate n 0)),.no]=.ok (.nx,[.val (hD held),.val (.int (free:Int)),.val (.int (n:Int)),.ow false (zai (zdi [] n free)),.no]):=by
  show (R.of (ixN ((List.replicate n (0:Rat)).map num).length (free:Int))).bind _=_
  rw [zp5 (by simpa using hf)]
  show R.ok (Fl.nx,[Sl.val (hD held),.val (.int (free:Int)),.val (.int (n:Int)),.ow false (.list (((List.replicate n (0:Rat)).map num).set free (num 1))),.no])=_
  rw [zo7]
  have:(List.replicate n (0:Rat)).set free 1=zdi [] n free:=by
   apply List.ext_getElem?
   intro j
   unfold zdi zeU nb
   rw [List.getElem?_set,List.getElem?_map,List.length_replicate,List.getElem?_replicate]
   by_cases c:free=j
   ·subst c
    rw [if_pos rfl,if_pos hf,List.getElem?_range hf]
    simp
   ·rw [if_neg c]
    by_cases l:j < n
    ·rw [if_pos l,List.getElem?_range l]
     simp [Ne.symm c]
    ·rw [if_neg l,List.getElem?_eq_none (by simpa using l)];rfl
  rw [this]
  rfl
 obtain ⟨ρ',e,y4,g4,rfl⟩:=zbc (f:=fun e:Nat × List Int=>.int (e.1:Int)) (g:=gN 4) (b:=zeb) (fun done ρ=>∃ y4,Np y4/\ρ=[.val (hD held),.val (.int (free:Int)),.val (.int (n:Int)),.ow false (zai (zdi done n free)),y4]) held [] _ ⟨.no,za2,rfl⟩ (by
  rintro pre e post ρ heq ⟨y4,g4,rfl⟩
  rw [List.nil_append] at heq
  have me:e ∈ held:=by rw [heq];simp
  obtain ⟨h1,h2,h3⟩:=h.row e me
  have dx:=zhm h.nd me
  have i1:=zp3 (xs:=e.2) (i:=free) (by omega)
  have i2:=zp3 (xs:=e.2) (i:=e.1) (by omega)
  have fr:=zh7 (-(fn e.2 free)) _ h3
  have np:e.1 ∉ pre.map (·.1):=by
   have nd:=h.nd
   rw [heq,List.map_append,List.map_cons,List.nodup_append] at nd
   intro z
   exact nd.2.2 e.1 z e.1 (List.mem_cons_self ..) rfl
  refine ⟨_,.nx,?_,.inl rfl,.val (.int (e.1:Int)),zav _,rfl⟩
  rw [zcH (x:=y4) rfl g4,zad]
  have fe:zae zeQ (zab (FL.e1 zkY (FL.e2 ixD (FL.e2 zjq (eV 0) (eV 4)) (eV 1))) (zab (FL.e2 ixD (FL.e2 zjq (eV 0) (eV 4)) (eV 4)) zah)) [.val (hD held),.val (.int (free:Int)),.val (.int (n:Int)),.ow false (zai (zdi pre n free)),.val (.int (e.1:Int))]=.ok (num (nf free e),[.val (hD held),.val (.int (free:Int)),.val (.int (n:Int)),.ow false (zai (zdi pre n free)),.val (.int (e.1:Int))]):=by
   simp only [zae,zab,FL.e1,FL.e2,eV,zz0,zad,zz1,dx,i1,znc,zah,i2,fr]
   rfl
  show setM 3 _ (eV 4) [.val (hD held),.val (.int (free:Int)),.val (.int (n:Int)),.ow false (zai (zdi pre n free)),.val (.int (e.1:Int))]=_
  unfold setM
  rw [fe]
  show (R.of (ixN ((zdi pre n free).map num).length (e.1:Int))).bind _=_
  rw [zp5 (by rw [List.length_map,zdi,zhj];exact h2)]
  show R.ok (Fl.nx,[Sl.val (hD held),.val (.int (free:Int)),.val (.int (n:Int)),.ow false (.list (((zdi pre n free).map num).set e.1 (num (nf free e)))),.val (.int (e.1:Int))])=_
  rw [zo7,zdi,zsf np]
  rfl)
 refine zdo (ρ:=[.val (hD held),.val (.int (free:Int)),.val (.int (n:Int)),.ow false (zai (zdi held n free)),y4]) rfl ?_
 show zdu [.val (hD held),.val (.int (free:Int)),.val (.int (n:Int)),.no,.no]=_
 unfold zdu
 rw [zak s1,zak s2]
 have it:iD (eV 0) [.val (hD held),.val (.int (free:Int)),.val (.int (n:Int)),.ow false (zai (zdi [] n free)),.no]=.ok (held.map (fun e=>.int (e.1:Int)),[.val (hD held),.val (.int (free:Int)),.val (.int (n:Int)),.ow false (zai (zdi [] n free)),.no]):=by
  simp only [iD,eV,zz1,zz0,zad,zhW]
 have s3:zcF [.val (hD held),.val (.int (free:Int)),.val (.int (n:Int)),.ow false (zai (zdi [] n free)),.no]=.ok (.nx,[.val (hD held),.val (.int (free:Int)),.val (.int (n:Int)),.ow false (zai (zdi held n free)),y4]):=by
  unfold zcF zcP
  rw [it,zad]
  simpa using e
 rw [zak s3]
 rfl
def frees (held:zaV) (n:Nat):List Nat:=(List.range n).filter fun j=>decide (j ∉ held.map (·.1))
def zn6 (held:zaV) (n:Nat):List (List Rat):=(frees held n).map (zdi held n)
theorem zbU {held:zaV} {n j:Nat}:j ∈ frees held n ↔ j < n/\j ∉ held.map (·.1):=by
 unfold frees
 rw [List.mem_filter,List.mem_range,decide_eq_true_eq]
theorem zrP {n b:Nat} {held:zaV} (h:HR n held) (hB:∀ e ∈ held,∀ j,(fn e.2 j).natAbs < 2 ^ b) (hb:1<=b):∀ r ∈ zn6 held n,r.length=n/\∀ x ∈ r,QR.Bd b x:=by
 intro r hr
 obtain ⟨free,hf,rfl⟩:=List.mem_map.mp hr
 refine ⟨zhj ..,fun x hx=>?_⟩
 rcases zsg hx with ⟨e,he,rfl⟩ | ⟨j,rfl⟩
 ·exact zlz (by rw [Int.natAbs_neg];exact hB e he free) (hB e he e.1) (h.row e he).2.2
 ·unfold nb
  have o:(1:Nat) < 2 ^ b:=Nat.one_lt_two_pow (by omega)
  split
  ·exact ⟨o,o⟩
  ·exact ⟨Nat.lt_of_lt_of_le (by decide) (Nat.le_of_lt o),o⟩
end FL
namespace FL
open PySem MD
theorem zp9 {f:Nat × List Int->Rat} {base:Nat->Rat} {n:Nat} (v:Rq):∀ held:zaV,(held.map (·.1)).Nodup->(∀ e ∈ held,e.1 < n)->ip n (fq (zeU f base held n)) v=zaP ((List.range n).map fun j=>base j * v j) + zaP (held.map fun e=>(f e - base e.1) * v e.1)
 | [],_,_=>by
  unfold ip
  rw [List.map_nil,zdn,zam (g:=fun j=>base j * v j) fun j hj=>by rw [zkh (by simp) (List.mem_range.mp hj)]]
  grind
 | e :: r,nd,hl=>by
  rw [List.map_cons,List.nodup_cons] at nd
  have ih:=zp9 (f:=f) (base:=base) v r nd.2 fun y hy=>hl y (.tail _ hy)
  have h1:=zl1 v (fq (zeU f base r n)) e.1 (f e) n (hl e (.head _))
  rw [zkh nd.1 (hl e (.head _))] at h1
  unfold ip at ih ⊢
  rw [ih] at h1
  rw [List.map_cons,zaF,zam (g:=fun j=>(if e.1=j then f e else fq (zeU f base r n) j) * v j) fun j hj=>?_,h1]
  ·grind
  ·have hj:=List.mem_range.mp hj
   rw [zhk f base (e :: r) hj,zhk f base r hj]
   by_cases c:e.1=j
   ·rw [if_pos c,List.find?_cons_of_pos (by simpa using c)]
   ·rw [if_neg c,List.find?_cons_of_neg (by simpa using c)]
theorem zp8 {n free:Nat} {held:zaV} (h:HR n held) (hf:free < n) (hfr:free ∉ held.map (·.1)) (v:Rq):ip n (fq (zdi held n free)) v=v free - zaP (held.map fun e=>kr e free * v e.1):=by
 unfold zdi
 rw [zp9 v held h.nd fun e he=>(h.row e he).2.1]
 have e1:zaP ((List.range n).map fun j=>nb free j * v j)=v free:=by
  have:=zl1 v (fun _=>0) free 1 n hf
  rw [zci (f:=fun j=>(0:Rat) * v j) fun j _=>by grind] at this
  have hc:∀ j ∈ List.range n,nb free j * v j=(if free=j then 1 else 0) * v j:=fun j _=>by
   unfold nb
   by_cases c:j=free
   ·subst c;rfl
   ·rw [if_neg c,if_neg fun z=>c z.symm]
  rw [zam hc,this]
  grind
 have e2:zaP (held.map fun e=>(nf free e - nb free e.1) * v e.1)=-zaP (held.map fun e=>kr e free * v e.1):=by
  have:=zjL (-1) (fun e:Nat × List Int=>kr e free * v e.1) held
  rw [show -zaP (held.map fun e=>kr e free * v e.1)=-1 * zaP (held.map fun e=>kr e free * v e.1) by grind,<- this]
  refine zam fun e he=>?_
  have ne:e.1 ≠ free:=fun z=>hfr (z ▸ List.mem_map_of_mem (f:=(·.1)) he)
  unfold nf nb kr
  rw [if_neg ne,zki]
  push_cast
  grind
 rw [e1,e2]
 grind
theorem zfw.ind {n:Nat} {M:List (List Rat)} {ws:List Rw} {S:List Nat} {held:zaV} (E:zfw n M ws S held) {P:Rq->Prop} (h0:P fun _=>0) (hl:∀ a b u v,P u->P v->P fun j=>a * u j + b * v j) (hM:∀ r ∈ M,P (fq r)) {v:Rq} (hv:SpQ ws v):P v:=by
 refine SpQ.ind h0 hl (fun w hw=>?_) hv
 obtain ⟨r,hr,rfl⟩:=E.src w hw
 obtain ⟨q,_,e⟩:=zlW r
 have:(fun j=>(fn (zaM r) j:Rat))=fun j=>q * fq r j + 0 * (fun _=>(0:Rat)) j:=funext fun j=>by rw [e j];grind
 rw [this]
 exact hl q 0 _ _ (hM r hr) h0
theorem zpC {n free:Nat} {M:List (List Rat)} {ws:List Rw} {S:List Nat} {held:zaV} (E:zfw n M ws S held) (h:HR n held) (hf:free < n) (hfr:free ∉ held.map (·.1)) {v:Rq} (hv:SpQ ws v):ip n (fq (zdi held n free)) v=0:=by
 rw [zp8 h hf hfr,E.ok.room hv free,zam (g:=fun e=>v e.1 * kr e free) fun e _=>by grind]
 grind
theorem zkN {n:Nat} {M:List (List Rat)} {ws:List Rw} {S:List Nat} {held:zaV} (E:zfw n M ws S held) (h:HR n held) {y:Rq} (hy:∀ free,free ∈ frees held n->ip n (fq (zdi held n free)) y=0):∀ j,j < n->y j=zaP (held.map fun e=>y e.1 * kr e j):=by
 intro j hj
 by_cases c:j ∈ held.map (·.1)
 ·have ms:j ∈ S:=by
   rw [E.ok.keys] at c
   exact List.mem_reverse.mp c
  exact (zjK (f:=fun e=>y e.1 * kr e j) (v:=y j) held h.nd c (fun e he c=>by subst c;rw [E.ok.zwq he];grind) (fun e he c=>by rw [E.ok.znl he ms fun q=>c q.symm];grind)).symm
 ·have:=hy j (zbU.mpr ⟨hj,c⟩)
  rw [zp8 h hj c,zam (g:=fun e=>y e.1 * kr e j) fun e _=>by grind] at this
  grind
theorem ztl:∀ (xs ys:List Rat) (n:Nat),xs.length=n->ys.length=n->QR.dot xs ys=ip n (fq xs) (fq ys)
 | [],[],n,h,_=>by
  have:n=0:=h.symm
  subst this;rfl
 | [],_ :: _,n,h,k=>by simp at h k;omega
 | _ :: _,[],n,h,k=>by simp at h k;omega
 | x :: xs,y :: ys,n,h,k=>by
  cases n with
  | zero=>simp at h
  | succ n =>
   have ih:=ztl xs ys n (by simpa using h) (by simpa using k)
   unfold ip at ih ⊢
   rw [List.range_succ_eq_map,List.map_cons,List.map_map,zaF]
   show x * y + QR.dot xs ys=_
   rw [ih]
   rfl
theorem zxf:∀ (xs ys:List Rat),zkD (xs.map num) (ys.map num)=(xs.zip ys).map fun q=>.tuple [num q.1,num q.2]
 | [],ys=>by cases ys <;> rfl
 | x :: xs,[]=>rfl
 | x :: xs,y :: ys=>by simp only [List.map_cons,zkD,List.zip_cons_cons,zxf xs ys]
theorem zrJ (pre:List (Rat × Rat)) (q:Rat × Rat):QR.dot ((pre ++ [q]).map (·.1)) ((pre ++ [q]).map (·.2))=QR.dot (pre.map (·.1)) (pre.map (·.2)) + q.1 * q.2:=by
 induction pre with
 | nil=>show q.1 * q.2 + 0=0 + q.1 * q.2;grind
 | cons p pre ih =>
  simp only [List.cons_append,List.map_cons]
  show p.1 * p.2 + QR.dot ((pre ++ [q]).map (·.1)) ((pre ++ [q]).map (·.2))=p.1 * p.2 + QR.dot (pre.map (·.1)) (pre.map (·.2)) + q.1 * q.2
  rw [ih];grind
theorem zpw {G:List D->R D} {Gt Gp:List D->R D} {b c:Nat} {xs ys:List Rat} {x0 x1:Sl} (ht:∀ {r s:Rat} {n:Nat},QR.Bd n r->QR.Bd n s->n<=40000000->Gt [num r,num s]=.ok (num (r * s))) (hp:∀ {r s:Rat} {n:Nat},QR.Bd n r->QR.Bd n s->n<=40000000->Gp [num r,num s]=.ok (num (r + s)))
  (hx:∀ r ∈ xs,QR.Bd b r) (hy:∀ r ∈ ys,QR.Bd c r) (hb:(xs.length + 1) * (b + c + 1) + 1<=40000000) :
  ∃ y3 y4,forL (gT [(gN 3),(gN 4)]) (zaC (gN 2) (zae Gp (zab (eV 2) (zab (zae Gt (zab (eV 3) (zab (eV 4) zah))) zah)))) ((xs.zip ys).map fun q=>.tuple [num q.1,num q.2]) [x0,x1,.val (num 0),.no,.no]=.ok (.nx,[x0,x1,.val (num (QR.dot ((xs.zip ys).map (·.1)) ((xs.zip ys).map (·.2)))),y3,y4]):=by
 obtain ⟨ρ',e,y3,y4,g3,g4,rfl⟩:=zbc (f:=fun q:Rat × Rat=>.tuple [num q.1,num q.2]) (g:=gT [(gN 3),(gN 4)]) (b:=zaC (gN 2) (zae Gp (zab (eV 2) (zab (zae Gt (zab (eV 3) (zab (eV 4) zah))) zah)))) (fun done ρ=>∃ y3 y4,Np y3/\Np y4/\ρ=[x0,x1,.val (num (QR.dot (done.map (·.1)) (done.map (·.2)))),y3,y4]) (xs.zip ys) [] [x0,x1,.val (num 0),.no,.no] ⟨.no,.no,za2,za2,rfl⟩ (by
  rintro pre q post ρ heq ⟨y3,y4,g3,g4,rfl⟩
  rw [List.nil_append] at heq
  have mq:q ∈ xs.zip ys:=by rw [heq];simp
  have mp:∀ p ∈ pre,p ∈ xs.zip ys:=fun p hp=>by rw [heq];simp [hp]
  obtain ⟨m1,m2⟩:=List.of_mem_zip (a:=q.1) (b:=q.2) mq
  have lp:pre.length + 1<=xs.length:=by
   have:=congrArg List.length heq
   rw [List.length_zip,List.length_append,List.length_cons] at this
   omega
  have hb':pre.length * (b + c + 1) + (b + c + 1) + (b + c + 1)<=(xs.length + 1) * (b + c + 1):=by
   have:=Nat.mul_le_mul_right (b + c + 1) (show pre.length + 2<=xs.length + 1 by omega)
   rw [Nat.add_mul] at this
   omega
  have bd:=QR.zwR (xs:=pre.map (·.1)) (ys:=pre.map (·.2)) (n:=b) (m:=c) (by simp) (fun r hr=>by
   obtain ⟨p,hp,rfl⟩:=List.mem_map.mp hr
   exact hx _ (List.of_mem_zip (a:=p.1) (b:=p.2) (mp p hp)).1) (fun r hr=>by
   obtain ⟨p,hp,rfl⟩:=List.mem_map.mp hr
   exact hy _ (List.of_mem_zip (a:=p.1) (b:=p.2) (mp p hp)).2)
  rw [List.length_map] at bd
  have t1:=ht ((hx _ m1).mono (show b<=b + c by omega)) ((hy _ m2).mono (show c<=b + c by omega)) (by omega)
  have p1:=hp (bd.mono (show _<=pre.length * (b + c + 1) + 1 + (b + c) by omega)) (((hx _ m1).mul (hy _ m2)).mono (show _<=pre.length * (b + c + 1) + 1 + (b + c) by omega)) (by omega)
  refine ⟨_,.nx,?_,.inl rfl,.val (num q.1),.val (num q.2),zav _,zav _,rfl⟩
  have e0:gT [(gN 3),(gN 4)] (.tuple [num q.1,num q.2]) [x0,x1,.val (num (QR.dot (pre.map (·.1)) (pre.map (·.2)))),y3,y4]=.ok [x0,x1,.val (num (QR.dot (pre.map (·.1)) (pre.map (·.2)))),.val (num q.1),.val (num q.2)]:=by
   show (gN 3 (num q.1) _).bind _=_
   rw [zcH (x:=y3) rfl g3,zad]
   show (gN 4 (num q.2) [x0,x1,.val (num (QR.dot (pre.map (·.1)) (pre.map (·.2)))),.val (num q.1),y4]).bind _=_
   rw [zcH (x:=y4) rfl g4]
   rfl
  rw [e0,zad]
  simp only [zaC,zae,zab,eV,zz1,zz0,zah,zad,t1,p1,gN,List.set_cons_succ,List.set_cons_zero]
  rw [zrJ])
 exact ⟨y3,y4,by simpa using e⟩
theorem zoK:∀ {xs ys:List Rat},xs.length=ys.length->(xs.zip ys).map (·.1)=xs/\(xs.zip ys).map (·.2)=ys
 | [],[],_=>⟨rfl,rfl⟩
 | [],_ :: _,h=>by simp at h
 | _ :: _,[],h=>by simp at h
 | x :: xs,y :: ys,h=>by
  obtain ⟨h1,h2⟩:=zoK (xs:=xs) (ys:=ys) (by simpa using h)
  simp only [List.zip_cons_cons,List.map_cons,h1,h2,and_self]
theorem zmj {b c n:Nat} {xs ys:List Rat} (lx:xs.length=n) (ly:ys.length=n) (hx:∀ r ∈ xs,QR.Bd b r) (hy:∀ r ∈ ys,QR.Bd c r) (hb:(n + 1) * (b + c + 1) + 1<=40000000):zgb [zai xs,zai ys]=.ok (num (ip n (fq xs) (fq ys))):=by
 obtain ⟨y3,y4,e⟩:=zpw (G:=zw2) (Gt:=zhs) (Gp:=zeP) (x0:=.val (zai xs)) (x1:=.val (zai ys)) zs7 zng hx hy (by rw [lx];exact hb)
 obtain ⟨z1,z2⟩:=zoK (lx.trans ly.symm)
 rw [z1,z2,ztl xs ys n lx ly] at e
 refine zbd (ρ:=[.val (zai xs),.val (zai ys),.val (num (ip n (fq xs) (fq ys))),y3,y4]) rfl ?_
 show zc5 [.val (zai xs),.val (zai ys),.no,.no,.no]=_
 unfold zc5
 rw [zak (show zaC (gN 2) (zem (zab (eC (.int 0)) (zab (eC (.int 1)) zah))) [.val (zai xs),.val (zai ys),.no,.no,.no]=.ok (.nx,[.val (zai xs),.val (zai ys),.val (num 0),.no,.no]) from rfl)]
 have s2:zco [.val (zai xs),.val (zai ys),.val (num 0),.no,.no]=.ok (.nx,[.val (zai xs),.val (zai ys),.val (num (ip n (fq xs) (fq ys))),y3,y4]):=by
  unfold zco zcP
  rw [show ztf (zab (eV 0) (zab (eV 1) zah)) [.val (zai xs),.val (zai ys),.val (num 0),.no,.no]=.ok (zkD (xs.map num) (ys.map num),[.val (zai xs),.val (zai ys),.val (num 0),.no,.no]) from rfl,zad,zxf]
  exact e
 rw [zak s2]
 rfl
end FL
namespace FL
open PySem MD
theorem all_true {α:Type} (xs:List α):zwZ (.list (xs.map fun _=>PyData.bool true))=.ok (.bool true):=by
 have:=zsD (xs.map fun _=>true)
 rw [List.map_map] at this
 rw [show xs.map (fun _=>PyData.bool true)=xs.map (PyData.bool ∘ fun _=>true) from rfl,this]
 simp
theorem zp6 (xs:List Rat) (hl:xs.length<=1000):znP [zai xs]=.ok (.bool true):=by
 have q:zfm [.val (zai xs)]=.ok (.list (xs.map fun _=>PyData.bool true),[.val (zai xs)]):=by
  unfold zfm
  exact zb0 (f0:=num) (xs:=xs) (fun _=>PyData.bool true) rfl (by show _<=1000000;omega) fun r mr=>⟨[.val (num r)],rfl,by simp only [zae,zab,eV,zz0,zah,zad,zuz],za8 trivial⟩
 refine zbd (ρ:=[.val (zai xs)]) rfl ?_
 show zh6 [.val (zai xs)]=_
 unfold zh6
 have k1:zb7 "list" (zai xs)=.ok (.bool true):=rfl
 simp only [zaw,ziY,FL.e1,eV,zz0,zad,k1,q,all_true]
theorem zlf {xs:List Rat} {n:Nat} (hl:xs.length=n) (hn:n<=1000):ziC [zai xs,.int (n:Int)]=.ok (.bool true):=by
 refine zbd (ρ:=[.val (zai xs),.val (.int (n:Int))]) rfl ?_
 show zej [.val (zai xs),.val (.int (n:Int))]=_
 unfold zej
 have k1:zbD (zai xs)=.ok (.int (n:Int)):=by
  show R.ok (PyData.int ((xs.map num).length:Int))=_
  rw [List.length_map,hl]
 simp only [zaw,ziY,zae,zab,zah,FL.e1,FL.e2,eV,zz1,zz0,zad,zp6 xs (by omega),k1,zb9,decide_true]
theorem zuN:∀ (M:List (List Rat)) (i:Nat),zeV i (M.map zai)=(M.zipIdx i).map fun q=>.tuple [.int (q.2:Int),zai q.1]
 | [],_=>rfl
 | r :: M,i=>by simp only [List.map_cons,zeV,List.zipIdx_cons,zuN M (i + 1)]
theorem zfF {M:List (List Rat)} {n:Nat} (hM:∀ r ∈ M,r.length=n) (hn:n<=1000):zga [zaa M,.int (n:Int)]=.ok .none:=by
 obtain ⟨ρ',e,y2,y3,g2,g3,rfl⟩:=zbc (f:=fun q:List Rat × Nat=>.tuple [.int (q.2:Int),zai q.1]) (g:=gT [(gN 2),(gN 3)]) (b:=zcp) (fun done ρ=>∃ y2 y3,Np y2/\Np y3/\ρ=[.val (zaa M),.val (.int (n:Int)),y2,y3]) (M.zipIdx 0) [] [.val (zaa M),.val (.int (n:Int)),.no,.no] ⟨.no,.no,za2,za2,rfl⟩ (by
  rintro pre q post ρ heq ⟨y2,y3,g2,g3,rfl⟩
  rw [List.nil_append] at heq
  have mq:q ∈ M.zipIdx 0:=by rw [heq];simp
  have mr:q.1 ∈ M:=(List.mem_zipIdx' (x:=q.1) (i:=q.2) mq).2 ▸ List.getElem_mem _
  refine ⟨_,.nx,?_,.inl rfl,.val (.int (q.2:Int)),.val (zai q.1),zav _,zav _,rfl⟩
  have e0:gT [(gN 2),(gN 3)] (.tuple [.int (q.2:Int),zai q.1]) [.val (zaa M),.val (.int (n:Int)),y2,y3]=.ok [.val (zaa M),.val (.int (n:Int)),.val (.int (q.2:Int)),.val (zai q.1)]:=by
   show (gN 2 _ _).bind _=_
   rw [zcH (x:=y2) rfl g2,zad]
   show (gN 3 (zai q.1) [.val (zaa M),.val (.int (n:Int)),.val (.int (q.2:Int)),y3]).bind _=_
   rw [zcH (x:=y3) rfl g3]
   rfl
  rw [e0,zad]
  unfold zcp
  simp only [sIf,FL.zcx,tE,zae,zab,eV,zz1,zz0,zah,zad,zlf (hM _ mr) hn,zhG,Bool.not_true,znZ,sNx,Bool.false_eq_true,if_false])
 refine ztC (ρ:=[.val (zaa M),.val (.int (n:Int)),y2,y3]) rfl ?_
 show zc3 [.val (zaa M),.val (.int (n:Int)),.no,.no]=_
 unfold zc3 zdP zcP
 rw [show zr7 (zab (eV 0) zah) [.val (zaa M),.val (.int (n:Int)),.no,.no]=.ok (zeV 0 (M.map zai),[.val (zaa M),.val (.int (n:Int)),.no,.no]) from rfl,zad,zuN]
 simpa using e
def zsB (M:List (List Rat)) (y:List Rat) (p:Nat):List Rat:=M.map (fun r=>fq r p) ++ [fq y p]
def asked (M:List (List Rat)) (y:List Rat) (n:Nat):List (List Rat):=(List.range n).map (zsB M y)
theorem zyj (xs:List Rat):zbD (zai xs)=.ok (.int (xs.length:Int)):=by
 show R.ok (PyData.int ((xs.map num).length:Int))=_
 rw [List.length_map]
theorem zk4 (M:List (List Rat)):zbD (zaa M)=.ok (.int (M.length:Int)):=by
 show R.ok (PyData.int ((M.map zai).length:Int))=_
 rw [List.length_map]
inductive Told (M:List (List Rat)) (y:List Rat) (n B T:Nat):D->Prop where
 | sum (w:List Rat) (hl:w.length=M.length) (hb:∀ x ∈ w,QR.Bd B x) (h:∀ p,p < n->fq y p=zaP ((List.range M.length).map fun k=>fq w k * fq (M.getD k []) p)):Told M y n B T (.tuple [.str "sum",zai w])
 | apart (t:List Rat) (hl:t.length=n) (hb:∀ x ∈ t,QR.Bd T x) (h:∀ r ∈ M,ip n (fq t) (fq r)=0) (h1:ip n (fq t) (fq y)=1):Told M y n B T (.tuple [.str "apart",zai t])
theorem zeI (e:Nat × List Int):(zaH e).length=e.2.length:=by unfold zaH;simp
theorem zut {e:Nat × List Int} {b:Nat} (h:∀ j,(fn e.2 j).natAbs < 2 ^ b) (h0:fn e.2 e.1 ≠ 0):∀ x ∈ zaH e,QR.Bd b x:=by
 intro x hx
 obtain ⟨i,hi,rfl⟩:=List.mem_map.mp hx
 obtain ⟨j,_,rfl⟩:=znf hi
 exact zlz (h j) (h _) h0
end FL
namespace FL
open PySem MD
theorem zl4 {k:Nat} {d:D} (h:zcQ k d) (hk:k<=50000):∃ (r:Rat) (d':D),zaS [d]=.ok (num r,[d'])/\QR.Bd 15 r/\zcQ (k + 3) d':=by
 obtain ⟨w,d1,t1,w0,w5,p1⟩:=zcE h (by omega) 6 (by decide) (by decide)
 have lt3:ltD (.int w) (.int 3)=.ok (.bool (decide (w < 3))):=zhU _ _
 have lt5:ltD (.int w) (.int 5)=.ok (.bool (decide (w < 5))):=zhU _ _
 by_cases c1:w < 3
 ·have l3:leB 3 lim=true:=by decide
  have l2:leB 2 lim=true:=by decide
  have ng:zkY (.int 1)=.ok (.int (-1)):=rfl
  have c:w=0\/w=1\/w=2:=by omega
  rw [decide_eq_true c1] at lt3
  rcases c with rfl | rfl | rfl
  ·refine ⟨0,d1,?_,⟨by decide,by decide⟩,p1.mono (by omega)⟩
   simp only [zaS,FL.run,List.length_cons,List.length_nil,Nat.reduceAdd,zcC,zaq,zaC,zal,zkq,zaE,slots,if_true,Nat.reduceSub,List.replicate,List.cons_append,List.nil_append,zz0,eC,zad,zgA,ziK,bkL,bk1,t1,zg9,List.lookup_cons,List.lookup_nil,gN,zz1,List.set_cons_succ,List.set_cons_zero,sIf,tB,FL.e2,eV,zaw,zbF,zab,zem,zah,zay l2,FL.e1,ng,zay l3,sNx,zae,ze4,lt3,outs,outD]
   rfl
  ·refine ⟨1,d1,?_,⟨by decide,by decide⟩,p1.mono (by omega)⟩
   simp only [zaS,FL.run,List.length_cons,List.length_nil,Nat.reduceAdd,zcC,zaq,zaC,zal,zkq,zaE,slots,if_true,Nat.reduceSub,List.replicate,List.cons_append,List.nil_append,zz0,eC,zad,zgA,ziK,bkL,bk1,t1,zg9,List.lookup_cons,List.lookup_nil,gN,zz1,List.set_cons_succ,List.set_cons_zero,sIf,tB,FL.e2,eV,zaw,zbF,zab,zem,zah,zay l2,FL.e1,ng,zay l3,sNx,zae,ze4,lt3,outs,outD]
   rfl
  ·refine ⟨-1,d1,?_,⟨by decide,by decide⟩,p1.mono (by omega)⟩
   simp only [zaS,FL.run,List.length_cons,List.length_nil,Nat.reduceAdd,zcC,zaq,zaC,zal,zkq,zaE,slots,if_true,Nat.reduceSub,List.replicate,List.cons_append,List.nil_append,zz0,eC,zad,zgA,ziK,bkL,bk1,t1,zg9,List.lookup_cons,List.lookup_nil,gN,zz1,List.set_cons_succ,List.set_cons_zero,sIf,tB,FL.e2,eV,zaw,zbF,zab,zem,zah,zay l2,FL.e1,ng,zay l3,sNx,zae,ze4,lt3,outs,outD]
   rfl
 ·rw [decide_eq_false c1] at lt3
  by_cases c2:w < 5
  ·rw [decide_eq_true c2] at lt5
   obtain ⟨v,d2,t2,v0,v1,p2⟩:=zcE p1 (by omega) 13 (by decide) (by decide)
   obtain ⟨u,d3,t3,u0,u1,p3⟩:=zcE p2 (by omega) 4 (by decide) (by decide)
   have pr:0<=u * (w - 3)/\u * (w - 3)<=3:=by
    have:w - 3=0\/w - 3=1:=by omega
    rcases this with z | z <;> rw [z] <;> omega
   have hb:(1 + u * (w - 3)).toNat ≠ 0:=by omega
   have hl:=zs4 (v - 6) (b:=(1 + u * (w - 3)).toNat) (n:=15) hb (by omega) (by decide)
   rw [show (((1 + u * (w - 3)).toNat:Nat):Int)=1 + u * (w - 3) by omega] at hl
   refine ⟨Rat.normalize (v - 6) (1 + u * (w - 3)).toNat hb,d3,?_,?_,p3⟩
   ·have sb:ze4 (.int v) (.int 6)=.ok (.int (v - 6)):=rfl
    have sb2:ze4 (.int w) (.int 3)=.ok (.int (w - 3)):=rfl
    have ml:zcd (.int u) (.int (w - 3))=.ok (.int (u * (w - 3))):=za6 (n:=16) (m:=16) (zaL (by omega)) (zaL (by omega)) (by decide)
    have ad2:zaY (.int 1) (.int (u * (w - 3)))=.ok (.int (1 + u * (w - 3))):=rfl
    simp only [zaS,FL.run,List.length_cons,List.length_nil,Nat.reduceAdd,zcC,zaq,zaC,zal,zkq,zaE,slots,if_true,Nat.reduceSub,List.replicate,List.cons_append,List.nil_append,zz0,eC,zad,zgA,ziK,bkL,bk1,t1,zg9,List.lookup_cons,beq_self_eq_true,gN,zz1,List.set_cons_succ,List.set_cons_zero,sIf,tB,FL.e2,eV,zaw,zbF,zab,zem,zah,FL.e1,sNx,zae,ze4,lt3,Bool.false_eq_true,if_false,lt5,t2,t3,ml,ad2,hl,outs,outD,List.head?_cons]
   ·have h1:=QR.norm (t:=v - 6) hb
    have h2:=QR.zqn (v - 6) ((1 + u * (w - 3)).toNat:Int)
    rw [h1] at h2
    exact ⟨by have:=h2.1;omega,by have:=h2.2;omega⟩
  ·rw [decide_eq_false c2] at lt5
   obtain ⟨v,d2,t2,v0,v1,p2⟩:=zcE p1 (by omega) 20001 (by decide) (by decide)
   obtain ⟨u,d3,t3,u0,u1,p3⟩:=zcE p2 (by omega) 30 (by decide) (by decide)
   have hb:(1 + u).toNat ≠ 0:=by omega
   have hl:=zs4 (v - 10000) (b:=(1 + u).toNat) (n:=15) hb (by omega) (by decide)
   rw [show (((1 + u).toNat:Nat):Int)=1 + u by omega] at hl
   refine ⟨Rat.normalize (v - 10000) (1 + u).toNat hb,d3,?_,?_,p3⟩
   ·have pw:zjg (.int 10) (.int 4)=.ok (.int 10000):=rfl
    have ml:zcd (.int 2) (.int 10000)=.ok (.int 20000):=rfl
    have ad:zaY (.int 20000) (.int 1)=.ok (.int 20001):=rfl
    have ad2:zaY (.int 1) (.int u)=.ok (.int (1 + u)):=rfl
    have sb:ze4 (.int v) (.int 10000)=.ok (.int (v - 10000)):=rfl
    simp only [zaS,FL.run,List.length_cons,List.length_nil,Nat.reduceAdd,zcC,zaq,zaC,zal,zkq,zaE,slots,if_true,Nat.reduceSub,List.replicate,List.cons_append,List.nil_append,zz0,eC,zad,zgA,ziK,bkL,bk1,t1,zg9,List.lookup_cons,beq_self_eq_true,gN,zz1,List.set_cons_succ,List.set_cons_zero,sIf,tB,FL.e2,eV,zaw,zbF,zab,zem,zah,FL.e1,sNx,zae,ze4,pw,ml,ad,lt3,Bool.false_eq_true,if_false,lt5,t2,t3,ad2,hl,outs,outD,List.head?_cons]
   ·have h1:=QR.norm (t:=v - 10000) hb
    have h2:=QR.zqn (v - 10000) ((1 + u).toNat:Int)
    rw [h1] at h2
    exact ⟨by have:=h2.1;omega,by have:=h2.2;omega⟩
theorem zqK {d d':D} {p p':Bool}:∀ (ρ:En) (n i:Nat),ρ[i]?=some (.ow p d)->bkL [(n + i,.ow p' d')] n ρ=ρ.set i (.ow p d')
 | [],n,i,h=>by simp at h
 | x :: r,n,0,h=>by
  simp only [zz0,Option.some.injEq] at h
  subst h
  unfold bkL
  rw [List.set_cons_zero]
  congr 1
  ·simp [bk1,List.lookup_cons]
  ·refine zmD r (n + 1) (by omega)
 | x :: r,n,i + 1,h=>by
  unfold bkL
  rw [List.set_cons_succ,show n + (i + 1)=(n + 1) + i by omega,zqK r (n + 1) i (by simpa using h)]
  congr 1
  refine zqM ?_
  rw [List.lookup_cons]
  have:(n == n + 1 + i)=false:=by simp;omega
  rw [this]
  rfl
theorem zsl {ρ:En} {ip:Nat} {p:Bool} {d:D} {k:Nat} {it:IF} {items:List D} (hi:ρ[ip]?=some (.ow p d)) (hp:zcQ k d) (hit:it ρ=.ok (items,ρ)) (hl:items.length<=100) (hk:k + 3 * items.length<=40000) :
  ∃ (xs:List Rat) (d':D),zaW 1 [ip] it (gN 0) za5 (zal zaS [.m 1]) ρ=.ok (zai xs,ρ.set ip (.ow p d'))/\xs.length=items.length/\(∀ r ∈ xs,QR.Bd 15 r)/\zcQ (k + 3 * items.length) d':=by
 obtain ⟨acc,ρ',ec,el,xs,d',rfl,hx,hp',rfl⟩:=zlp (k:=1) (ix:=[ip]) (g:=gN 0) (t:=za5) (f:=zal zaS [.m 1])
  (fun i acc ρ'=>∃ (xs:List Rat) (d':D),acc=xs.map num/\(∀ r ∈ xs,QR.Bd 15 r)/\zcQ (k + 3 * i) d'/\ρ'=ρ.set ip (.ow p d')) items 0 [] ρ (by show 0 + _<=1000000;omega) rfl ⟨[],d,rfl,by simp,hp,(set_same hi).symm⟩ (by
   rintro x hx i acc ρ' hi' ⟨xs,d1,rfl,hxs,hp1,rfl⟩
   obtain ⟨r,d2,en,rb,hp2⟩:=zl4 hp1 (by omega)
   have g1:(ρ.set ip (.ow p d1))[ip]?=some (.ow p d1):=by
    rw [List.getElem?_set_self]
    exact (List.getElem?_eq_some_iff.mp hi).1
   have eb:blk 1 [ip] (ρ.set ip (.ow p d1))=[.no,.ow p d1]:=by
    unfold blk
    rw [List.map_cons,List.map_nil,g1]
    rfl
   refine ⟨[.val x,.ow p d1],num r,[.val x,.ow p d2],by rw [eb];rfl,rfl,zmB (i:=1) rfl en,xs ++ [r],d2,by simp,fun z hz=>?_,by rw [show k + 3 * (i + 1)=k + 3 * i + 3 by omega];exact hp2,?_⟩
   ·rcases List.mem_append.mp hz with hz | hz
    ·exact hxs z hz
    ·rw [List.mem_singleton.mp hz];exact rb
   ·show bkL [(ip,.ow p d2)] 0 (ρ.set ip (.ow p d1))=_
    have:=zqK (d':=d2) (p':=p) (ρ.set ip (.ow p d1)) 0 ip g1
    rw [Nat.zero_add] at this
    rw [this,List.set_set])
 refine ⟨xs,d',?_,by simpa using el,hx,by simpa using hp'⟩
 unfold zaW
 rw [hit,zad,ec]
 rfl
theorem znF {n:Nat} (hn:n<=1000):zca [.int (n:Int)]=.ok (zai (List.replicate n 0)):=by
 refine zdo (ρ:=[.val (.int (n:Int))]) rfl ?_
 show zeg [.val (.int (n:Int))]=_
 unfold zeg zbq zfc
 have it:iR1 (zab (eV 0) zah) [.val (.int (n:Int))]=.ok ((List.range n).map (fun i:Nat=>PyData.int (i:Int)),[.val (.int (n:Int))]):=by
  simp only [iR1,zab,zah,eV,zz0,zad]
  rw [zde (by omega) (by omega),zad,zhJ,List.map_map]
  simp
 have l2:leB 2 lim=true:=by decide
 rw [zb0 (f0:=fun i:Nat=>.int (i:Int)) (xs:=List.range n) (fun _=>num 0) it (by rw [List.length_range];show n<=1000000;omega) fun p mp=>?_]
 ·rw [zad]
  unfold zai
  rw [<- zpb]
  simp [List.map_const']
 ·exact ⟨[.val (.int (p:Int))],rfl,rfl,za8 trivial⟩
theorem zhH {c:Rat} {xs:List Rat} {b:Nat} (hc:QR.Bd b c) (hx:∀ x ∈ xs,QR.Bd b x) (hb:b<=40000000) (hl:xs.length<=1000):zcl [num c,zai xs]=.ok (zai (xs.map fun x=>c * x)):=by
 refine zdo (ρ:=[.val (num c),.val (zai xs)]) rfl ?_
 show zdv [.val (num c),.val (zai xs)]=_
 unfold zdv zbq zed
 rw [zb0 (f0:=num) (xs:=xs) (fun x=>num (c * x)) rfl (by show _<=1000000;omega) fun x mx=>?_]
 ·unfold zai;rw [List.map_map];rfl
 ·refine ⟨[.val (num x),.val (num c)],rfl,?_,za8 trivial⟩
  simp only [zae,zab,eV,zz1,zz0,zah,zad,zs7 hc (hx x mx) hb]
theorem zkr {xs ys:List Rat} {b:Nat} (hx:∀ x ∈ xs,QR.Bd b x) (hy:∀ y ∈ ys,QR.Bd b y) (hb:b<=40000000) (hl:xs.length<=1000):zcK [zai xs,zai ys]=.ok (zai (List.zipWith (· + ·) xs ys)):=by
 refine zdo (ρ:=[.val (zai xs),.val (zai ys)]) rfl ?_
 show zeh [.val (zai xs),.val (zai ys)]=_
 unfold zeh zbq zfd
 rw [zb0 (f0:=fun q:Rat × Rat=>.tuple [num q.1,num q.2]) (xs:=xs.zip ys) (fun q=>num (q.1 + q.2)) (by
  rw [<- zxf];rfl) (by rw [List.length_zip];show _<=1000000;omega) fun q mq=>?_]
 ·have:∀ (xs ys:List Rat),(xs.zip ys).map (fun q=>num (q.1 + q.2))=(List.zipWith (· + ·) xs ys).map num:=by
   intro xs
   induction xs with
   | nil=>intro ys;cases ys <;> rfl
   | cons x xs ih=>intro ys;cases ys with
    | nil=>rfl
    | cons y ys=>simp only [List.zip_cons_cons,List.map_cons,List.zipWith_cons_cons,ih]
  rw [this];rfl
 ·obtain ⟨x,y⟩:=q
  obtain ⟨m1,m2⟩:=List.of_mem_zip mq
  refine ⟨[.val (num x),.val (num y)],rfl,?_,za8 trivial⟩
  simp only [zae,zab,eV,zz0,zah,zad,zz1,zng (hx x m1) (hy y m2) hb]
theorem zqo (c:Rat) (xs:List Rat) (j:Nat):fq (xs.map fun x=>c * x) j=c * fq xs j:=by
 unfold fq
 rw [List.getD_eq_getElem?_getD,List.getD_eq_getElem?_getD,List.getElem?_map]
 cases xs[j]? with
 | none=>simp only [Option.map_none,Option.getD_none];grind
 | some x=>rfl
theorem zsd {xs ys:List Rat} (h:xs.length=ys.length) (j:Nat):fq (List.zipWith (· + ·) xs ys) j=fq xs j + fq ys j:=by
 unfold fq
 rw [List.getD_eq_getElem?_getD,List.getD_eq_getElem?_getD,List.getD_eq_getElem?_getD,List.getElem?_zipWith]
 by_cases l:j < xs.length
 ·rw [List.getElem?_eq_getElem l,List.getElem?_eq_getElem (h ▸ l)];rfl
 ·rw [List.getElem?_eq_none (by omega),List.getElem?_eq_none (by omega)]
  simp only [Option.getD_none]
  grind
theorem zwG {xs ys:List Rat} {n:Nat} (hx:xs.length=n) (hy:ys.length=n) (h:∀ j,j < n->fq xs j=fq ys j):xs=ys:=by
 apply List.ext_getElem?
 intro j
 by_cases l:j < n
 ·have:=h j l
  unfold fq at this
  rw [List.getD_eq_getElem?_getD,List.getD_eq_getElem?_getD,List.getElem?_eq_getElem (by omega),List.getElem?_eq_getElem (by omega)] at this
  rw [List.getElem?_eq_getElem (by omega),List.getElem?_eq_getElem (by omega)]
  exact congrArg some this
 ·rw [List.getElem?_eq_none (by omega),List.getElem?_eq_none (by omega)]
theorem zf1 {c:Rat} {xs:List Rat} {b b':Nat} (hc:QR.Bd b c) (hx:∀ x ∈ xs,QR.Bd b' x):∀ x ∈ xs.map (fun x=>c * x),QR.Bd (b + b') x:=by
 intro x h
 obtain ⟨z,hz,rfl⟩:=List.mem_map.mp h
 exact hc.mul (hx z hz)
theorem zne {f:Rat->Rat->Rat}:∀ {xs ys:List Rat} {z:Rat},z ∈ List.zipWith f xs ys->∃ x ∈ xs,∃ y ∈ ys,z=f x y
 | [],ys,z,h=>by cases ys <;> simp at h
 | x :: xs,[],z,h=>by simp at h
 | x :: xs,y :: ys,z,h=>by
  rw [List.zipWith_cons_cons] at h
  rcases List.mem_cons.mp h with rfl | h
  ·exact ⟨x,by simp,y,by simp,rfl⟩
  ·obtain ⟨a,ha,b,hb,e⟩:=zne h
   exact ⟨a,.tail _ ha,b,.tail _ hb,e⟩
theorem zkn {xs ys:List Rat} {b b':Nat} (hx:∀ x ∈ xs,QR.Bd b x) (hy:∀ x ∈ ys,QR.Bd b' x):∀ x ∈ List.zipWith (· + ·) xs ys,QR.Bd (b + b' + 1) x:=by
 intro z h
 obtain ⟨x,h1,y,h2,rfl⟩:=zne h
 exact (hx x h1).add (hy y h2)
theorem zoc {r:Rat} {b:Nat} (h:QR.Bd b r) (hb:b<=40000000):zew [num r]=.ok (.bool true):=by
 have k1:zb7 "tuple" (num r)=.ok (.bool true):=rfl
 have wh:∀ i:Int,zbu [.int i]=.ok (.bool true):=fun _=>rfl
 have l2:zbD (num r)=.ok (.int 2):=rfl
 have k3:geD (.int (r.den:Int)) (.int 1)=.ok (.bool true):=by
  rw [zuG];congr 2
  have:=r.den_nz
  exact decide_eq_true (by omega)
 have k4:zbt [.int r.num,.int (r.den:Int)]=.ok (num r):=by
  rw [zj3 r.num r.den_nz h.2 (by omega),Q1.zwm (QR.low r)]
  rfl
 have k5:eqD (num r) (num r)=.ok (.bool true):=by
  have:=zsZ r r
  unfold neD at this
  unfold eqD
  cases c:(SeqAt.shaped (num r) && SeqAt.shaped (num r)) with
  | false=>rw [c] at this;cases this
  | true =>
   rw [c] at this
   have e:(!PyData.eqv (num r) (num r))=!decide (r=r):=by
    have t2:R.ok (PyData.bool (!PyData.eqv (num r) (num r)))=R.ok (PyData.bool (!decide (r=r))):=this
    injection t2 with t3
    injection t3
   rw [zay rfl]
   simp at e
   rw [e]
 have k6:neD (.int 2) (.int 2)=.ok (.bool false):=by rw [zbT];rfl
 refine zbd (ρ:=[.val (num r)]) rfl ?_
 show zcs [.val (num r)]=_
 unfold zcs
 have i0:ixD (num r) (.int 0)=.ok (.int r.num):=rfl
 have i1:ixD (num r) (.int 1)=.ok (.int (r.den:Int)):=rfl
 have s1:sIf (FL.tOr (FL.zcx (tE (FL.e1 (zb7 "tuple") (eV 0)))) (tB (FL.e2 neD (FL.e1 zbD (eV 0)) (eC (.int 2))))) (zaw (eC (.bool false))) sNx [.val (num r)]=.ok (.nx,[.val (num r)]):=by
  simp only [sIf,FL.tOr,FL.zcx,tE,tB,FL.e1,FL.e2,eV,eC,sNx,zad,zz0,k1,l2,k6,zhG,Bool.not_true,Bool.false_eq_true,if_false,if_true]
 have s2:sIf (FL.tOr (FL.zcx (tE (zae zbu (zab (FL.e2 ixD (eV 0) (eC (.int 0))) zah)))) (FL.zcx (tE (zae zbu (zab (FL.e2 ixD (eV 0) (eC (.int 1))) zah))))) (zaw (eC (.bool false))) sNx [.val (num r)]=.ok (.nx,[.val (num r)]):=by
  simp only [sIf,FL.tOr,FL.zcx,tE,zae,zab,zah,FL.e2,eV,eC,sNx,zad,zz0,i0,i1,wh,zhG,Bool.not_true,Bool.false_eq_true,if_false,if_true]
 rw [zak s1,zak s2]
 simp only [zaw,ziY,FL.e2,zae,zab,zah,eV,eC,zad,zz0,i0,i1,k3,k4,k5]
theorem eq_nil:eqD (.list []) (.list [])=.ok (.bool true):=rfl
theorem zun {xs:List Rat} {n b:Nat} (hl:xs.length=n) (hx:∀ x ∈ xs,QR.Bd b x) (hb:b<=40000000) (hn:n<=1000):zg2 [zai xs,.int (n:Int)]=.ok (.bool true):=by
 have k1:zb7 "list" (zai xs)=.ok (.bool true):=rfl
 have k2:neD (.int (n:Int)) (.int (n:Int))=.ok (.bool false):=by rw [zbT];simp
 have q:zcG [.val (zai xs),.val (.int (n:Int))]=.ok (.list [],[.val (zai xs),.val (.int (n:Int))]):=by
  unfold zcG
  rw [zcI (f0:=num) (xs:=xs) (fun _=>false) num rfl (by show _<=1000000;omega) fun x mx=>?_]
  ·simp
  ·refine ⟨[.val (num x)],rfl,?_,(fun c=>by cases c),za8 trivial⟩
   simp only [FL.zcx,tE,zae,zab,zah,eV,zz0,zad,zoc (hx x mx) hb,zhG,Bool.not_true]
 refine zbd (ρ:=[.val (zai xs),.val (.int (n:Int))]) rfl ?_
 show zdw [.val (zai xs),.val (.int (n:Int))]=_
 unfold zdw
 have s1:sIf (FL.tOr (FL.zcx (tE (FL.e1 (zb7 "list") (eV 0)))) (tB (FL.e2 neD (FL.e1 zbD (eV 0)) (eV 1)))) (zaw (eC (.bool false))) sNx [.val (zai xs),.val (.int (n:Int))]=.ok (.nx,[.val (zai xs),.val (.int (n:Int))]):=by
  simp only [sIf,FL.tOr,FL.zcx,tE,tB,FL.e1,FL.e2,eV,eC,sNx,zad,zz0,zz1,k1,zyj,hl,k2,zhG,Bool.not_true,Bool.false_eq_true,if_false,if_true]
 rw [zak s1]
 have l0:leB 0 lim=true:=by decide
 simp only [zaw,FL.e2,q,zbF,zah,zad,List.length_nil,zay l0,eq_nil]
end FL
namespace FL
open PySem MD
def zhi (m:Int):SF:=(zcP (iR1 (zab (zal zb4 [.m 0,.v (eC (.int m))]) zah)) (gN 3) zbr)
def zq0 (m:Int):List D->R (D × List D):=FL.run [true,false] true 6 (zaq (zdd 2 (zbF zah)) (zaq (zhi m) (zg4 2)))
structure Drw (n:Nat) (M:List (List Rat)):Prop where
 row:∀ r ∈ M,r.length=n/\∀ x ∈ r,QR.Bd (15 + 31 * M.length) x
 hd:∀ r,M.head?=some r->∀ x ∈ r,QR.Bd 15 x
theorem Drw.add {n:Nat} {M:List (List Rat)} {r:List Rat} (h:Drw n M) (hl:r.length=n) (hb:∀ x ∈ r,QR.Bd (15 + 31 * (M.length + 1)) x) (h0:M=[]->∀ x ∈ r,QR.Bd 15 x):Drw n (M ++ [r]):=by
 refine ⟨fun q hq=>?_,fun q hq=>?_⟩
 ·rw [List.length_append,List.length_singleton]
  rcases List.mem_append.mp hq with hq | hq
  ·exact ⟨(h.row q hq).1,fun x hx=>((h.row q hq).2 x hx).mono (by omega)⟩
  ·rw [List.mem_singleton.mp hq];exact ⟨hl,hb⟩
 ·cases M with
  | nil =>
   simp only [List.nil_append,List.head?_cons,Option.some.injEq] at hq
   subst hq;exact h0 rfl
  | cons a M=>exact h.hd q hq
theorem zvt {n:Nat} (hn:n<=1000) {i:Nat} {ρ:En} (h:ρ[i]?=some (.val (.int (n:Int)))):iR1 (zab (eV i) zah) ρ=.ok (rng 0 (n:Int),ρ)/\(rng 0 (n:Int)).length=n:=by
 refine ⟨?_,by rw [zhJ];simp⟩
 simp only [iR1,zab,zah,eV,h,zad]
 rw [zde (by omega) (by omega)]
 rfl
theorem zp2 (a:D) (l:List D):ixD (.list (a :: l)) (.int 0)=.ok a:=by
 show R.of (atI (a :: l) 0)=_
 unfold atI ixN
 rw [if_pos (by decide),if_pos (by rw [List.length_cons];omega)]
 rfl
theorem zqu {M:List (List Rat)} (h:M ≠ []):∃ r ∈ M,M.head?=some r/\ixD (zaa M) (.int 0)=.ok (zai r):=by
 cases M with
 | nil=>exact absurd rfl h
 | cons a M=>exact ⟨a,by simp,rfl,zp2 _ _⟩
theorem zrZ {M:List (List Rat)} (h:M ≠ []):∃ r ∈ M,ixD (zaa M) (.int (-1))=.ok (zai r):=by
 refine ⟨M.getLast h,List.getLast_mem h,?_⟩
 have hl:M.length=M.dropLast.length + 1:=by rw [List.length_dropLast];have:=List.length_pos_iff.mpr h;omega
 show R.of (atI (M.map zai) (-1))=_
 unfold atI ixN
 rw [if_neg (by omega),if_pos (by rw [List.length_map];omega),Option.bind_some,List.length_map,show ((-1:Int) + (M.length:Int)).toNat=M.length - 1 by omega,List.getElem?_map,List.getLast_eq_getElem,List.getElem?_eq_getElem (by omega)]
 rfl
theorem Drw.one {n:Nat} {M:List (List Rat)} {xs:List Rat} (hM:Drw n M) (lx:xs.length=n) (bx:∀ x ∈ xs,QR.Bd 15 x):∃ q,ixD (zaa (M ++ [xs])) (.int 0)=.ok (zai q)/\q.length=n/\∀ x ∈ q,QR.Bd 15 x:=by
 cases M with
 | nil=>exact ⟨xs,rfl,lx,bx⟩
 | cons r0 M'=>exact ⟨r0,zp2 _ _,(hM.row r0 (by simp)).1,hM.hd r0 rfl⟩
set_option maxHeartbeats 2000000 in
theorem zov {k n:Nat} {d:D} (hp:zcQ k d) (hk:k + 3 * n + 10<=30000) (hn:n<=100) {M:List (List Rat)} (hM:Drw n M) (hl:M.length<=100) {x3 y4 y5:Sl} (g4:Np y4) (g5:Np y5) :
  ∃ r d' z4 z5,Np z4/\Np z5/\zbr [.ow true d,.val (.int (n:Int)),.ow false (zaa M),x3,y4,y5]=.ok (.nx,[.ow true d',.val (.int (n:Int)),.ow false (zaa (M ++ [r])),x3,z4,z5])/\Drw n (M ++ [r])/\zcQ (k + 3 * n + 5) d':=by
 obtain ⟨w,d1,t1,w0,w6,p1⟩:=zcE hp (by omega) 6 (by decide) (by decide)
 have s1:zaC (gN 4) (zal zb4 [.m 0,.v (eC (.int 6))]) [.ow true d,.val (.int (n:Int)),.ow false (zaa M),x3,y4,y5]=.ok (.nx,[.ow true d1,.val (.int (n:Int)),.ow false (zaa M),x3,.val (.int w),y5]) :=
  zbQ (i:=4) (y:=(.int w,[.ow true d1,.val (.int (n:Int)),.ow false (zaa M),x3,y4,y5])) (zdA (p:=true) (d:=d) rfl rfl t1) rfl g4
 obtain ⟨it,il⟩:=zvt (n:=n) (by omega) (i:=1) (ρ:=[.ow true d1,.val (.int (n:Int)),.ow false (zaa M),x3,.val (.int w),y5]) rfl
 obtain ⟨xs,d2,eq,lx,bx,p2⟩:=zsl (ip:=0) (p:=true) (d:=d1) (ρ:=[.ow true d1,.val (.int (n:Int)),.ow false (zaa M),x3,.val (.int w),y5]) rfl p1 it (by omega) (by omega)
 rw [il] at lx p2
 have s2:zcy 5 (zdd 5 zc0) [.ow true d1,.val (.int (n:Int)),.ow false (zaa M),x3,.val (.int w),y5]=.ok (.nx,[.ow true d2,.val (.int (n:Int)),.ow false (zaa M),x3,.val (.int w),.val (zai xs)]):=by
  unfold zcy zc0
  rw [zdZ (i:=5) (x:=y5) eq rfl g5]
  rfl
 have l2:leB 2 lim=true:=by decide
 have l1:leB 1 lim=true:=by decide
 have fin:∀ (r:List Rat) (d':D),zre 2 zoH (FL.e1 zfS (eV 5)) [.ow true d',.val (.int (n:Int)),.ow false (zaa M),x3,.val (.int w),.val (zai r)]=.ok (.nx,[.ow true d',.val (.int (n:Int)),.ow false (zaa (M ++ [r])),x3,.val (.int w),.val (zai r)]):=fun r d'=>by
  have ap:zoH (M.map zai) (zai r)=.ok ((M ++ [r]).map zai):=by
   unfold zoH
   rw [zay (zdk (by rw [List.length_map];show _<=1000000;omega)),List.map_append]
   rfl
  show (zoH (M.map zai) (zai r)).bind _=_
  rw [ap]
  rfl
 have main:∀ (r:List Rat) (d':D),sIf (FL.zfi (tB (FL.e2 eqD (eV 4) (eC (.int 0)))) (tB (FL.e2 gtD (m1 zbD 2) (eC (.int 1))))) (zaC (gN 5) (zae zcK (zab (zae zcl (zab (zal zaS [.m 0]) (zab (m2 ixD 2 (eC (.int 0))) zah))) (zab (m2 ixD 2 (FL.e1 zkY (eC (.int 1)))) zah)))) (sIf (tB (FL.e2 eqD (eV 4) (eC (.int 1)))) (zaC (gN 5) (FL.e2 ixD (zbF (zab (zae zca (zab (eV 1) zah)) (zab (FL.e2 ixD (m2 zaY 2 (zbF (zab (eV 5) zah))) (eC (.int 0))) zah))) (zal zb4 [.m 0,.v (eC (.int 2))]))) sNx) [.ow true d2,.val (.int (n:Int)),.ow false (zaa M),x3,.val (.int w),.val (zai xs)]=.ok (.nx,[.ow true d',.val (.int (n:Int)),.ow false (zaa M),x3,.val (.int w),.val (zai r)]) ->
   r.length=n->(∀ x ∈ r,QR.Bd (15 + 31 * (M.length + 1)) x)->(M=[]->∀ x ∈ r,QR.Bd 15 x)->zcQ (k + 3 * n + 5) d'->∃ r d' z4 z5,Np z4/\Np z5/\zbr [.ow true d,.val (.int (n:Int)),.ow false (zaa M),x3,y4,y5]=.ok (.nx,[.ow true d',.val (.int (n:Int)),.ow false (zaa (M ++ [r])),x3,z4,z5])/\Drw n (M ++ [r])/\zcQ (k + 3 * n + 5) d':=fun r d' e h1 h2 h3 h4=>by
  refine ⟨r,d',.val (.int w),.val (zai r),zav _,zav _,?_,hM.add h1 h2 h3,h4⟩
  unfold zbr
  rw [zak s1,zak s2,zak e]
  exact fin r d'
 have plain:∀ x ∈ xs,QR.Bd (15 + 31 * (M.length + 1)) x:=fun x hx=>(bx x hx).mono (by omega)
 have e0:eqD (.int w) (.int 0)=.ok (.bool (decide (w=0))):=zb9 _ _
 have e1':eqD (.int w) (.int 1)=.ok (.bool (decide (w=1))):=zb9 _ _
 have lM:zbD (zaa M)=.ok (.int (M.length:Int)):=zk4 M
 have gt:gtD (.int (M.length:Int)) (.int 1)=.ok (.bool (decide ((1:Int) < (M.length:Int)))):=zqc _ _
 by_cases c0:w=0
 ·rw [decide_eq_true c0] at e0
  rw [decide_eq_false (show ¬ w=1 by omega)] at e1'
  by_cases cl:(1:Int) < (M.length:Int)
  ·rw [decide_eq_true cl] at gt
   obtain ⟨c,d3,en,cb,p3⟩:=zl4 p2 (by omega)
   have ne:M ≠ []:=fun z=>by rw [z] at cl;simp at cl
   obtain ⟨r0,m0,hh,i0⟩:=zqu ne
   obtain ⟨rl,ml,il⟩:=zrZ ne
   have h0:=hM.hd r0 hh
   have hr0:=hM.row r0 m0
   have hl':=hM.row rl ml
   have sc:=zhH (c:=c) (xs:=r0) cb h0 (by decide) (by omega)
   have ad:=zkr (xs:=r0.map fun x=>c * x) (ys:=rl) (b:=15 + 31 * M.length + 30) (fun x hx=>(zf1 cb h0 x hx).mono (by omega)) (fun x hx=>(hl'.2 x hx).mono (by omega)) (by omega) (by rw [List.length_map];omega)
   refine main _ d3 ?_ ?_ (fun x hx=>(zkn (zf1 cb h0) hl'.2 x hx).mono (by omega)) (fun z=>absurd z ne) (p3.mono (by omega))
   ·have ng:zkY (.int 1)=.ok (.int (-1)):=rfl
    have cn:zal zaS [.m 0] [.ow true d2,.val (.int (n:Int)),.ow false (zaa M),x3,.val (.int w),.val (zai xs)]=.ok (num c,[.ow true d3,.val (.int (n:Int)),.ow false (zaa M),x3,.val (.int w),.val (zai xs)]):=zmB (p:=true) (d:=d2) rfl en
    have t1:FL.zfi (tB (FL.e2 eqD (eV 4) (eC (.int 0)))) (tB (FL.e2 gtD (m1 zbD 2) (eC (.int 1)))) [.ow true d2,.val (.int (n:Int)),.ow false (zaa M),x3,.val (.int w),.val (zai xs)]=.ok (true,[.ow true d2,.val (.int (n:Int)),.ow false (zaa M),x3,.val (.int w),.val (zai xs)]):=by
     simp only [FL.zfi,tB,FL.e2,m1,zaE,eV,eC,zad,zz0,zz1,e0,lM,gt,if_true]
    unfold sIf
    rw [t1,zad,if_pos rfl]
    refine zbQ (i:=5) (y:=(_,[.ow true d3,.val (.int (n:Int)),.ow false (zaa M),x3,.val (.int w),.val (zai xs)])) (x:=.val (zai xs)) ?_ rfl (zav _)
    simp only [zae,zab,zah,cn,m2,zaE,FL.e1,eC,zad,zz0,zz1,i0,ng,il,sc,ad]
    rfl
   ·rw [List.length_zipWith,List.length_map,hr0.1,hl'.1];omega
  ·rw [decide_eq_false cl] at gt
   refine main xs d2 ?_ lx plain (fun _=>bx) (p2.mono (by omega))
   have t1:FL.zfi (tB (FL.e2 eqD (eV 4) (eC (.int 0)))) (tB (FL.e2 gtD (m1 zbD 2) (eC (.int 1)))) [.ow true d2,.val (.int (n:Int)),.ow false (zaa M),x3,.val (.int w),.val (zai xs)]=.ok (false,[.ow true d2,.val (.int (n:Int)),.ow false (zaa M),x3,.val (.int w),.val (zai xs)]):=by
    simp only [FL.zfi,tB,FL.e2,m1,zaE,eV,eC,zad,zz0,zz1,e0,lM,gt,if_true]
   have t2:tB (FL.e2 eqD (eV 4) (eC (.int 1))) [.ow true d2,.val (.int (n:Int)),.ow false (zaa M),x3,.val (.int w),.val (zai xs)]=.ok (false,[.ow true d2,.val (.int (n:Int)),.ow false (zaa M),x3,.val (.int w),.val (zai xs)]):=by
    simp only [tB,FL.e2,eV,eC,zad,zz0,zz1,e1']
   unfold sIf
   rw [t1,zad,if_neg (by simp),t2,zad,if_neg (by simp)]
   rfl
 ·rw [decide_eq_false c0] at e0
  have t1:FL.zfi (tB (FL.e2 eqD (eV 4) (eC (.int 0)))) (tB (FL.e2 gtD (m1 zbD 2) (eC (.int 1)))) [.ow true d2,.val (.int (n:Int)),.ow false (zaa M),x3,.val (.int w),.val (zai xs)]=.ok (false,[.ow true d2,.val (.int (n:Int)),.ow false (zaa M),x3,.val (.int w),.val (zai xs)]):=by
   simp only [FL.zfi,tB,FL.e2,m1,zaE,eV,eC,zad,zz0,zz1,e0,Bool.false_eq_true,if_false]
  by_cases c1:w=1
  ·rw [decide_eq_true c1] at e1'
   have t2:tB (FL.e2 eqD (eV 4) (eC (.int 1))) [.ow true d2,.val (.int (n:Int)),.ow false (zaa M),x3,.val (.int w),.val (zai xs)]=.ok (true,[.ow true d2,.val (.int (n:Int)),.ow false (zaa M),x3,.val (.int w),.val (zai xs)]):=by
    simp only [tB,FL.e2,eV,eC,zad,zz0,zz1,e1']
   obtain ⟨v,d3,t3,v0,v2,p3⟩:=zcE p2 (by omega) 2 (by decide) (by decide)
   have cm:zal zb4 [.m 0,.v (eC (.int 2))] [.ow true d2,.val (.int (n:Int)),.ow false (zaa M),x3,.val (.int w),.val (zai xs)]=.ok (.int v,[.ow true d3,.val (.int (n:Int)),.ow false (zaa M),x3,.val (.int w),.val (zai xs)]):=zdA (p:=true) (d:=d2) rfl rfl t3
   have ad:zaY (zaa M) (.list [zai xs])=.ok (zaa (M ++ [xs])):=by
    show chk (leB ((M.map zai).length + 1) lim) _=_
    rw [zay (zdk (by rw [List.length_map];show _<=1000000;omega))]
    unfold zaa
    rw [List.map_append]
    rfl
   obtain ⟨q,hq,lq,bq⟩:=hM.one lx bx
   have ex:∀ (a b:D),(ixD (.list [a,b]) (.int v))=.ok (if v=0 then a else b):=fun a b=>by
    have:v=0\/v=1:=by omega
    rcases this with z | z <;> subst z <;> rfl
   have ee:FL.e2 ixD (zbF (zab (zae zca (zab (eV 1) zah)) (zab (FL.e2 ixD (m2 zaY 2 (zbF (zab (eV 5) zah))) (eC (.int 0))) zah))) (zal zb4 [.m 0,.v (eC (.int 2))]) [.ow true d2,.val (.int (n:Int)),.ow false (zaa M),x3,.val (.int w),.val (zai xs)]=.ok (if v=0 then zai (List.replicate n 0) else zai q,[.ow true d3,.val (.int (n:Int)),.ow false (zaa M),x3,.val (.int w),.val (zai xs)]):=by
    simp only [FL.e2,zbF,zae,zab,zah,m2,zaE,eV,eC,zad,zz0,zz1,znF (show n<=1000 by omega),List.length_cons,List.length_nil,Nat.reduceAdd,zay l1,zay l2,ad,hq,cm,ex]
   have s3:∀ r,(if v=0 then zai (List.replicate n 0) else zai q)=zai r->sIf (FL.zfi (tB (FL.e2 eqD (eV 4) (eC (.int 0)))) (tB (FL.e2 gtD (m1 zbD 2) (eC (.int 1))))) (zaC (gN 5) (zae zcK (zab (zae zcl (zab (zal zaS [.m 0]) (zab (m2 ixD 2 (eC (.int 0))) zah))) (zab (m2 ixD 2 (FL.e1 zkY (eC (.int 1)))) zah)))) (sIf (tB (FL.e2 eqD (eV 4) (eC (.int 1)))) (zaC (gN 5) (FL.e2 ixD (zbF (zab (zae zca (zab (eV 1) zah)) (zab (FL.e2 ixD (m2 zaY 2 (zbF (zab (eV 5) zah))) (eC (.int 0))) zah))) (zal zb4 [.m 0,.v (eC (.int 2))]))) sNx) [.ow true d2,.val (.int (n:Int)),.ow false (zaa M),x3,.val (.int w),.val (zai xs)]=.ok (.nx,[.ow true d3,.val (.int (n:Int)),.ow false (zaa M),x3,.val (.int w),.val (zai r)]):=fun r e=>by
    unfold sIf
    rw [t1,zad,if_neg (by simp),t2,zad,if_pos rfl]
    rw [e] at ee
    exact zbQ (i:=5) (y:=(zai r,[.ow true d3,.val (.int (n:Int)),.ow false (zaa M),x3,.val (.int w),.val (zai xs)])) (x:=.val (zai xs)) ee rfl (zav _)
   by_cases cv:v=0
   ·have z:∀ x ∈ List.replicate n (0:Rat),QR.Bd 15 x:=fun x hx=>by rw [List.eq_of_mem_replicate hx];exact ⟨by decide,by decide⟩
    exact main (List.replicate n 0) d3 (s3 _ (if_pos cv)) (by simp) (fun x hx=>(z x hx).mono (by omega)) (fun _=>z) (p3.mono (by omega))
   ·exact main q d3 (s3 _ (if_neg cv)) lq (fun x hx=>(bq x hx).mono (by omega)) (fun _=>bq) (p3.mono (by omega))
  ·rw [decide_eq_false c1] at e1'
   refine main xs d2 ?_ lx plain (fun _=>bx) (p2.mono (by omega))
   have t2:tB (FL.e2 eqD (eV 4) (eC (.int 1))) [.ow true d2,.val (.int (n:Int)),.ow false (zaa M),x3,.val (.int w),.val (zai xs)]=.ok (false,[.ow true d2,.val (.int (n:Int)),.ow false (zaa M),x3,.val (.int w),.val (zai xs)]):=by
    simp only [tB,FL.e2,eV,eC,zad,zz0,zz1,e1']
   unfold sIf
   rw [t1,zad,if_neg (by simp),t2,zad,if_neg (by simp)]
   rfl
theorem znx {k n m:Nat} {d:D} (hp:zcQ k d) (hk:k<=10000) (hn:n<=10) (m1:1<=m) (hm:m<=10):∃ (M:List (List Rat)) (d':D),zq0 (m:Int) [d,.int (n:Int)]=.ok (zaa M,[d',.int (n:Int)])/\M.length < m/\Drw n M/\zcQ (k + 1 + 35 * 10) d':=by
 obtain ⟨c,d0,t0,c0,c1,p0⟩:=zcE hp (by omega) (m:Int) (by omega) (by omega)
 have hr:zl5 [.int c]=.ok (rng 0 c):=zde (by omega) (by omega)
 have hlen:(rng 0 c).length=c.toNat:=by rw [zhJ];simp
 obtain ⟨ρ',e,M,d',y3,y4,y5,h3,h4,h5,lM,rfl,dr,pp⟩:=zbc (f:=fun x:D=>x) (g:=gN 3) (b:=zbr)
  (fun done ρ=>∃ (M:List (List Rat)) (d':D) (y3 y4 y5:Sl),Np y3/\Np y4/\Np y5/\M.length=done.length/\ρ=[.ow true d',.val (.int (n:Int)),.ow false (zaa M),y3,y4,y5]/\Drw n M/\zcQ (k + 1 + 35 * done.length) d')
  (rng 0 c) [] [.ow true d0,.val (.int (n:Int)),.ow false (zaa []),.no,.no,.no] ⟨[],d0,.no,.no,.no,za2,za2,za2,rfl,rfl,⟨(fun _ h=>nomatch h),(fun _ h=>nomatch h)⟩,p0⟩ (by
   rintro pre x post ρ heq ⟨M,d1,y3,y4,y5,h3,h4,h5,lM,rfl,dr,pp⟩
   rw [List.nil_append] at heq
   have lp:pre.length + 1<=c.toNat:=by rw [<- hlen,heq];simp
   obtain ⟨r,d2,z4,z5,g4,g5,es,dr',pp'⟩:=zov (x3:=.val x) pp (by omega) (by omega) dr (by omega) h4 h5
   refine ⟨_,.nx,by rw [zcH (x:=y3) rfl h3,zad];exact es,.inl rfl,M ++ [r],d2,.val x,z4,z5,zav _,g4,g5,by simp [lM],rfl,dr',pp'.mono (by simp;omega)⟩)
 refine ⟨M,d',?_,?_,dr,pp.mono (by simp [hlen];omega)⟩
 ·have s2:zhi (m:Int) [.ow true d,.val (.int (n:Int)),.ow false (zaa []),.no,.no,.no]=.ok (.nx,[.ow true d',.val (.int (n:Int)),.ow false (zaa M),y3,y4,y5]):=by
   unfold zhi zcP
   have cm:zal zb4 [.m 0,.v (eC (.int (m:Int)))] [.ow true d,.val (.int (n:Int)),.ow false (zaa []),.no,.no,.no]=.ok (.int c,[.ow true d0,.val (.int (n:Int)),.ow false (zaa []),.no,.no,.no]):=zdA (p:=true) (d:=d) rfl rfl t0
   have hi:iR1 (zab (zal zb4 [.m 0,.v (eC (.int (m:Int)))]) zah) [.ow true d,.val (.int (n:Int)),.ow false (zaa []),.no,.no,.no]=.ok (rng 0 c,[.ow true d0,.val (.int (n:Int)),.ow false (zaa []),.no,.no,.no]):=by
    simp only [iR1,zab,zah,zad,cm,hr]
   rw [hi,zad]
   simpa using e
  show ((zaq (zdd 2 (zbF zah)) (zaq (zhi (m:Int)) (zg4 2)) [.ow true d,.val (.int (n:Int)),.no,.no,.no,.no]).bind _)=_
  rw [zak (show zdd 2 (zbF zah) [.ow true d,.val (.int (n:Int)),.no,.no,.no,.no]=.ok (.nx,[.ow true d,.val (.int (n:Int)),.ow false (zaa []),.no,.no,.no]) from rfl),zak s2]
  rfl
 ·rw [lM]
  simp only [List.nil_append,hlen]
  omega
end FL
namespace FL
open PySem MD
theorem zm5 (r:Rat):Pl 1 (num r):=zm4 fun d h=>by
 simp only [List.mem_cons,List.not_mem_nil,or_false] at h
 rcases h with rfl | rfl <;> exact zjh _
theorem zt2 (xs:List Rat):Pl 2 (zai xs):=zpp fun d h=>by
 obtain ⟨r,_,rfl⟩:=List.mem_map.mp h
 exact zm5 r
theorem zeG (M:List (List Rat)):Pl 3 (zaa M):=zpp fun d h=>by
 obtain ⟨r,_,rfl⟩:=List.mem_map.mp h
 exact zt2 r
theorem zk0 {n:Nat} {a:D} (h:Pl n a) (hn:n<=64:=by decide):neD a a=.ok (.bool false):=by
 rw [zk1 h h hn hn,SeqAt.eqv_refl a h.1];rfl
theorem zpA (r:Rat):ixD (num r) (.int 0)=.ok (.int r.num):=rfl
theorem zv8 (r:Rat):ixD (num r) (.int 1)=.ok (.int (r.den:Int)):=rfl
end FL
namespace FL
open PySem
end FL
namespace FL
open PySem MD
structure Sq (n b:Nat) (A:List (List Rat)):Prop where
 len:A.length=n
 row:∀ r ∈ A,r.length=n/\∀ x ∈ r,QR.Bd b x
theorem zuM (a b:Rat):PyData.eqv (num a) (num b)=decide (a=b):=by
 have h:=zsZ a b
 rw [zk1 (zm5 a) (zm5 b)] at h
 have t2:R.ok (PyData.bool (!PyData.eqv (num a) (num b)))=R.ok (PyData.bool (!decide (a=b))):=h
 injection t2 with t3
 injection t3 with t4
 have:=congrArg Bool.not t4
 simpa using this
theorem zsi (a b:List Rat):PyData.eqv (zai a) (zai b)=decide (a=b):=by
 show PyData.eqvAll _ _=_
 exact zeK _ zuM a b
theorem zqw (a b:List (List Rat)):PyData.eqv (zaa a) (zaa b)=decide (a=b):=by
 show PyData.eqvAll _ _=_
 exact zeK _ zsi a b
end FL
namespace FL
open PySem MD
theorem zoY {l m:List Rat} (h:l.Perm m):zaP l=zaP m:=by
 induction h with
 | nil=>rfl
 | cons x _ ih=>rw [zaF,zaF,ih]
 | swap x y l=>simp only [zaF];grind
 | trans _ _ h1 h2=>rw [h1,h2]
def bas (K:zaV):Bas:=K.map fun e=>(e.1,kr e)
theorem zvu (ws:List Rw):Rm (SpQ ws):=⟨SpQ.zero ws,fun a b _ _ h1 h2=>h1.lin a b h2⟩
theorem zwo {n:Nat} {e:Nat × List Int} (h:e.2.length=n) {j:Nat} (hj:n<=j):kr e j=0:=by
 have:fn e.2 j=0:=by
  unfold fn
  rw [List.getD_eq_getElem?_getD,List.getElem?_eq_none (by omega)]
  rfl
 unfold kr
 rw [this]
 show ((0:Int):Rat) / _=0
 grind
theorem zfw.rd {n:Nat} {M:List (List Rat)} {ws:List Rw} {S:List Nat} {held K:zaV} (E:zfw n M ws S held) (p:K.Perm held) (srt:(K.map fun e=>(e.1:Int)).Pairwise (·<=·)):Rd (SpQ ws) (bas K):=by
 have nd:(K.map (·.1)).Nodup:=((p.map (·.1)).nodup_iff).mpr (zd5 E.ok)
 refine ⟨⟨fun q hq=>?_,fun q hq=>?_,fun v hv j=>?_⟩,fun q hq r hr ne=>?_,fun q hq j hj=>?_,?_⟩
 ·obtain ⟨e,he,rfl⟩:=List.mem_map.mp hq
  exact E.ok.zwp (p.subset he)
 ·obtain ⟨e,he,rfl⟩:=List.mem_map.mp hq
  exact E.ok.zwq (p.subset he)
 ·rw [E.ok.room hv j]
  unfold bas
  rw [List.map_map]
  exact (zoY (p.map _)).symm
 ·obtain ⟨e,he,rfl⟩:=List.mem_map.mp hq
  obtain ⟨f,hf,rfl⟩:=List.mem_map.mp hr
  exact E.ok.znl (p.subset he) (E.ok.mem (p.subset hf)) ne
 ·obtain ⟨e,he,rfl⟩:=List.mem_map.mp hq
  show kr e j=0
  unfold kr
  rw [(E.ok.row e (p.subset he)).low j hj]
  show ((0:Int):Rat) / _=0
  grind
 ·unfold bas
  rw [List.map_map]
  show (K.map (·.1)).Pairwise (· < ·)
  have h1:(K.map (·.1)).Pairwise (·<=·):=by
   rw [List.pairwise_map] at srt ⊢
   exact srt.imp fun h=>Int.ofNat_le.mp h
  exact (h1.and nd).imp fun h=>by have:=h.1;have:=h.2;omega
theorem zfw.zyF {n:Nat} {M:List (List Rat)} {ws:List Rw} {S:List Nat} {held:zaV} (E:zfw n M ws S held) (hM:∀ r ∈ M,r.length=n) {v:Rq} (hv:SpQ ws v):∀ j,n<=j->v j=0 :=
 E.ind (P:=fun v=>∀ j,n<=j->v j=0) (fun _ _=>rfl) (fun a b u v h1 h2 j hj=>by show a * u j + b * v j=0;rw [h1 j hj,h2 j hj];grind) (fun r hr j hj=>zqp (by rw [hM r hr];exact hj)) hv
def An (n:Nat) (V:Rq->Prop) (t:Rq):Prop:=(∀ j,n<=j->t j=0)/\∀ v,V v->ip n t v=0
theorem zuB (n:Nat) (t:Rq) (a b:Rat) (u v:Rq):ip n (fun j=>a * u j + b * v j) t=a * ip n u t + b * ip n v t:=by
 rw [zgo,zte,zgo n t u,zgo n t v]
theorem An.rm (n:Nat) (V:Rq->Prop):Rm (An n V):=⟨⟨fun _ _=>rfl,fun v _=>by rw [zgo];exact zp7 n v⟩,fun a b u v hu hv=>⟨fun j hj=>by show a * u j + b * v j=0;rw [hu.1 j hj,hv.1 j hj];grind,fun w hw=>by rw [zuB,hu.2 w hw,hv.2 w hw];grind⟩⟩
theorem An.congr {n:Nat} {V W:Rq->Prop} (h:∀ v,V v ↔ W v) (t:Rq):An n V t ↔ An n W t:=⟨fun z=>⟨z.1,fun v hv=>z.2 v ((h v).mpr hv)⟩,fun z=>⟨z.1,fun v hv=>z.2 v ((h v).mp hv)⟩⟩
theorem zfP {held:zaV} {n f g:Nat} (hg:g ∈ frees held n):fq (zdi held n f) g=if g=f then 1 else 0:=by
 obtain ⟨h1,h2⟩:=zbU.mp hg
 unfold zdi
 rw [zkh h2 h1]
 rfl
theorem znt (held:zaV) (n:Nat):(frees held n).Nodup:=List.Pairwise.filter _ List.nodup_range
theorem zqm {held:zaV} {n:Nat} (h:HR n held):(frees held n).length + held.length=n:=by
 have p:(frees held n ++ held.map (·.1)).Perm (List.range n):=by
  refine (List.perm_ext_iff_of_nodup ?_ List.nodup_range).mpr fun j=>?_
  ·refine List.nodup_append.mpr ⟨znt held n,h.nd,fun a ha b hb e=>?_⟩
   subst e
   exact (zbU.mp ha).2 hb
  ·rw [List.mem_append,zbU,List.mem_range]
   constructor
   ·rintro (z | z)
    ·exact z.1
    ·obtain ⟨e,he,rfl⟩:=List.mem_map.mp z
     exact (h.row e he).2.1
   ·intro z
    by_cases c:j ∈ held.map (·.1)
    ·exact .inr c
    ·exact .inl ⟨z,c⟩
 have:=p.length_eq
 rw [List.length_append,List.length_map,List.length_range] at this
 exact this
theorem zxP {n:Nat} {M:List (List Rat)} {ws:List Rw} {S:List Nat} {held:zaV} (E:zfw n M ws S held) (h:HR n held) {t:Rq} (hz:∀ f ∈ frees held n,t f=0) {e:Nat × List Int} (he:e ∈ held):ip n t (kr e)=t e.1:=by
 refine zmY (k:=fun j=>j) (s:=e.1) (List.range n) (by simpa using List.nodup_range) (by simpa using (h.row e he).2.1) (fun j _ ej=>by subst ej;rw [E.ok.zwq he];grind) (fun j hj ne=>?_)
 have jn:=List.mem_range.mp hj
 by_cases c:j ∈ held.map (·.1)
 ·obtain ⟨g,hg,rfl⟩:=List.mem_map.mp c
  rw [E.ok.znl he (E.ok.mem hg) ne];grind
 ·rw [hz j (zbU.mpr ⟨jn,c⟩)];grind
theorem zpB {n:Nat} {M:List (List Rat)} {ws:List Rw} {S:List Nat} {held:zaV} (E:zfw n M ws S held) (h:HR n held):Co (An n (SpQ ws)) ((frees held n).map fun f=>(f,fq (zdi held n f))):=by
 have mem:∀ f ∈ frees held n,An n (SpQ ws) (fq (zdi held n f)):=fun f hf=>⟨fun j hj=>zqp (by unfold zdi;rw [zhj];exact hj),fun v hv=>zpC E h (zbU.mp hf).1 (zbU.mp hf).2 hv⟩
 refine ⟨fun q hq=>?_,fun q hq=>?_,fun t ht j=>?_⟩
 ·obtain ⟨f,hf,rfl⟩:=List.mem_map.mp hq
  exact mem f hf
 ·obtain ⟨f,hf,rfl⟩:=List.mem_map.mp hq
  show fq (zdi held n f) f=1
  rw [zfP hf,if_pos rfl]
 ·rw [List.map_map]
  have hs:=(An.rm n (SpQ ws)).sum (fun f=>t f) (fun f=>fq (zdi held n f)) (frees held n) mem
  have hz:=(An.rm n (SpQ ws)).lin 1 (-1) _ _ ht hs
  have fz:∀ g ∈ frees held n,(1 * t g + -1 * zaP ((frees held n).map fun f=>t f * fq (zdi held n f) g))=0:=fun g hg=>by
   rw [zmY (k:=fun j=>j) (s:=g) (v:=t g) (frees held n) (by simpa using znt held n) (by simpa using hg) (fun f hf ef=>by subst ef;rw [zfP hg,if_pos rfl];grind) (fun f hf ef=>by rw [zfP hg,if_neg fun z=>ef z.symm];grind)]
   grind
  have key:1 * t j + -1 * zaP ((frees held n).map fun f=>t f * fq (zdi held n f) j)=0:=by
   rcases Nat.lt_or_ge j n with l | l
   ·by_cases c:j ∈ held.map (·.1)
    ·obtain ⟨e,he,rfl⟩:=List.mem_map.mp c
     have:=zxP E h (t:=fun j=>1 * t j + -1 * zaP ((frees held n).map fun f=>t f * fq (zdi held n f) j)) fz he
     rw [hz.2 _ (E.ok.zwp he)] at this
     exact this.symm
    ·exact fz j (zbU.mpr ⟨l,c⟩)
   ·exact hz.1 j l
  show t j=zaP ((frees held n).map fun f=>t f * fq (zdi held n f) j)
  grind
theorem zv9 {n:Nat} {M:List (List Rat)} {ws ws2:List Rw} {S S2:List Nat} {held held2:zaV} (E:zfw n M ws S held) (h:HR n held) (E2:zfw n (zn6 held n) ws2 S2 held2) (v:Rq):SpQ ws2 v ↔ An n (SpQ ws) v:=by
 have c:=zpB E h
 have mem:∀ f ∈ frees held n,An n (SpQ ws) (fq (zdi held n f)):=fun f hf=>c.mem _ (List.mem_map_of_mem (f:=fun f=>(f,fq (zdi held n f))) hf)
 constructor
 ·exact fun hv=>E2.ind (An.rm n _).zero (An.rm n _).lin (fun r hr=>by
   obtain ⟨f,hf,rfl⟩:=List.mem_map.mp hr
   exact mem f hf) hv
 ·intro hv
  have:=(zvu ws2).sum (fun f=>v f) (fun f=>fq (zdi held n f)) (frees held n) fun f hf=>E2.sp _ (List.mem_map_of_mem (f:=zdi held n) hf)
  refine this.of_eq fun j=>?_
  have e:=c.rep v hv j
  rw [List.map_map] at e
  exact e.symm
theorem nn {n:Nat} {M:List (List Rat)} {ws:List Rw} {S:List Nat} {held:zaV} (E:zfw n M ws S held) (h:HR n held) (hM:∀ r ∈ M,r.length=n) (v:Rq):An n (An n (SpQ ws)) v ↔ SpQ ws v:=by
 constructor
 ·intro hv
  have c:=zpB E h
  have ro:=zkN E h (y:=v) fun f hf=>by
   rw [zgo]
   exact hv.2 _ (c.mem _ (List.mem_map_of_mem (f:=fun f=>(f,fq (zdi held n f))) hf))
  refine (SpQ.sum held (fun e=>v e.1) fun e he=>E.ok.zwp he).of_eq fun j=>?_
  rcases Nat.lt_or_ge j n with l | l
  ·exact (ro j l).symm
  ·rw [hv.1 j l]
   exact zci fun e he=>by rw [zwo (h.row e he).1 l];grind
 ·exact fun hv=>⟨E.zyF hM hv,fun t ht=>by rw [zgo];exact ht.2 v hv⟩
theorem fqk (e:Nat × List Int):fq (zaH e)=kr e:=funext (zel e)
theorem zl3 {n:Nat} {K K':zaV} (h:bas K=bas K') (l:∀ e ∈ K,e.2.length=n) (l':∀ e ∈ K',e.2.length=n):K.map zaH=K'.map zaH:=by
 have f:∀ K:zaV,(∀ e ∈ K,e.2.length=n)->K.map zaH=(bas K).map fun q=>(List.range n).map q.2:=fun K l=>by
  unfold bas
  rw [List.map_map]
  refine List.map_congr_left fun e he=>?_
  show zaH e=(List.range n).map (kr e)
  refine zwG (n:=n) (by rw [zeI];exact l e he) (by simp) fun j hj=>?_
  rw [zel]
  unfold fq
  rw [List.getD_eq_getElem?_getD,List.getElem?_map,List.getElem?_range hj]
  rfl
 rw [f K l,f K' l',h]
end FL
namespace FL
open PySem MD
theorem ztZ {h z:Rw} (P:Prim h) {a b:Int} (a0:a ≠ 0) (b0:b ≠ 0) (e:∀ j,a * h j=b * z j) (j:Nat):(h j).natAbs<=(z j).natAbs:=by
 have e':∀ j,a.natAbs * (h j).natAbs=b.natAbs * (z j).natAbs:=fun j=>by rw [<- Int.natAbs_mul,<- Int.natAbs_mul,e j]
 have ap:0 < a.natAbs:=Int.natAbs_pos.mpr a0
 have gp:=Nat.gcd_pos_of_pos_left b.natAbs ap
 have cop:=Nat.coprime_div_gcd_div_gcd gp
 have hA:=Nat.div_mul_cancel (Nat.gcd_dvd_left a.natAbs b.natAbs)
 have hB:=Nat.div_mul_cancel (Nat.gcd_dvd_right a.natAbs b.natAbs)
 generalize a.natAbs / a.natAbs.gcd b.natAbs=A at cop hA
 generalize b.natAbs / a.natAbs.gcd b.natAbs=B at cop hB
 have e2:∀ j,A * (h j).natAbs=B * (z j).natAbs:=fun j=>by
  have h2:a.natAbs.gcd b.natAbs * (A * (h j).natAbs)=a.natAbs.gcd b.natAbs * (B * (z j).natAbs):=by
   rw [<- Nat.mul_assoc,<- Nat.mul_assoc,Nat.mul_comm _ A,Nat.mul_comm _ B]
   rw [hA,hB]
   exact e' j
  exact Nat.eq_of_mul_eq_mul_left gp h2
 have B1:B=1:=by
  have d:(B:Int) ∣ 1:=P B fun j=>by
   rw [<- Int.natAbs_dvd_natAbs,Int.natAbs_natCast]
   exact Nat.Coprime.dvd_of_dvd_mul_left cop.symm ⟨_,e2 j⟩
  rw [<- Int.natAbs_dvd_natAbs,Int.natAbs_natCast] at d
  exact Nat.dvd_one.mp d
 have:=e2 j
 rw [B1,Nat.one_mul] at this
 rw [<- this]
 refine Nat.le_mul_of_pos_left _ (Nat.pos_of_ne_zero fun z=>?_)
 rw [z,Nat.zero_mul] at hA
 omega
theorem zgL {α:Type} {k:α->Nat}:∀ {l:List α},(l.map k).Nodup->∀ {x y:α},x ∈ l->y ∈ l->k x=k y->x=y
 | [],_,_,_,h,_,_=>nomatch h
 | a :: l,nd,x,y,hx,hy,e=>by
  rw [List.map_cons,List.nodup_cons] at nd
  rcases List.mem_cons.mp hx with h1 | h1
  ·rcases List.mem_cons.mp hy with h2 | h2
   ·rw [h1,h2]
   ·exact absurd (by rw [<- h1,e];exact List.mem_map_of_mem h2) nd.1
  ·rcases List.mem_cons.mp hy with h2 | h2
   ·exact absurd (by rw [<- h2,<- e];exact List.mem_map_of_mem h1) nd.1
   ·exact zgL nd.2 h1 h2 e
theorem zmT {r:List Rat} {c:Rat} {B:Nat} (c0:c ≠ 0) (h:∀ j,∃ m:Int,(m:Rat)=c * fq r j/\m.natAbs<=B) (j:Nat):(fn (zaM r) j).natAbs<=B:=by
 obtain ⟨z,hz⟩:=Classical.axiomOfChoice h
 obtain ⟨q,q0,e⟩:=zlW r
 rcases zkE r with w | w
 ·rw [w j];exact Nat.zero_le _
 ·refine Nat.le_trans (ztZ w (z:=z) (a:=((q / c).den:Int)) (b:=(q / c).num) (by have:=(q / c).den_nz;omega) (fun z=>?_) (fun i=>?_) j) (hz j).2
  ·have:q / c=0:=Rat.num_eq_zero.mp z
   have:q=0:=by grind
   exact q0 this
  ·have h1:=e i
   have h2:=(hz i).1
   have h3:=den_mul (q / c)
   have:(((q / c).den:Int):Rat) * ((fn (zaM r) i:Int):Rat)=((q / c).num:Rat) * ((z i:Int):Rat):=by
    rw [h1,h2,<- h3]
    have:(((q / c).den:Int):Rat)=((q / c).den:Rat):=rfl
    rw [this]
    grind
   rw [<- Rat.intCast_mul,<- Rat.intCast_mul] at this
   exact Rat.intCast_inj.mp this
theorem zoi {e:Nat × List Int} {B:Nat} (h0:fn e.2 e.1 ≠ 0) (h:∀ j,(fn e.2 j).natAbs<=B) (j:Nat):(fn (zaM (zaH e)) j).natAbs<=B:=by
 have h0':((fn e.2 e.1:Int):Rat) ≠ 0:=by simpa using h0
 refine zmT (c:=((fn e.2 e.1:Int):Rat)) h0' (fun i=>⟨fn e.2 i,?_,h i⟩) j
 rw [zel]
 unfold kr
 grind
theorem zfw.zw8 {n:Nat} {M:List (List Rat)} {ws:List Rw} {S:List Nat} {held:zaV} (E:zfw n M ws S held):ws.length<=n:=by
 have l1:=zfT E.ok
 have l2:=zgw E.ok.det
 have nd:=zd5 E.ok
 have:=List.Nodup.length_le_of_subset nd (l₂:=List.range n) fun x hx=>by
  obtain ⟨e,he,rfl⟩:=List.mem_map.mp hx
  exact List.mem_range.mpr (E.ok.row e he).lt
 rw [List.length_map,List.length_range] at this
 omega
theorem zfw.hrG {n:Nat} {M:List (List Rat)} {ws:List Rw} {S:List Nat} {held:zaV} (E:zfw n M ws S held) (hN:n<=15):HR n held:=by
 refine ⟨zd5 E.ok,fun e he=>⟨(E.ok.row e he).len,(E.ok.row e he).lt,(E.ok.row e he).ne⟩,?_⟩
 have l1:=zfT E.ok
 have l2:=zgw E.ok.det
 have:=E.zw8
 omega
theorem zfw.bdG {n a:Nat} {M:List (List Rat)} {ws:List Rw} {S:List Nat} {held:zaV} (E:zfw n M ws S held) (hW:∀ r ∈ M,∀ j,(fn (zaM r) j).natAbs<=2 ^ a) (h15:n<=15) {e:Nat × List Int} (he:e ∈ held) (j:Nat):(fn e.2 j).natAbs < 2 ^ ((a + 4) * (n + 1) + 1):=by
 refine znD h15 (zuE E.ok (fun v hv j=>?_) E.zw8 Nat.one_le_two_pow he j)
 obtain ⟨r,hr,rfl⟩:=E.src v hv
 exact hW r hr j
theorem minor {n:Nat} {ws:List Rw} {S:List Nat} {held:zaV} (H:zbg n ws S held) {e:Nat × List Int} (he:e ∈ held) (j:Nat):∃ cs:List Nat,cs.length=S.length/\((det ws cs:Int):Rat)=((det ws S:Int):Rat) * kr e j:=by
 obtain ⟨pre,post,hS⟩:=List.append_of_mem (H.mem he)
 refine ⟨pre ++ j :: post,by rw [hS];simp,?_⟩
 have sp:=SpQ.of (ztq ws pre post)
 have ro:=H.room sp j
 show ((adj ws pre post j:Int):Rat)=_
 rw [ro]
 refine zjK (s:=e.1) held (zd5 H) (List.mem_map_of_mem he) (fun g hg eg=>?_) (fun g hg ng=>?_)
 ·have:g=e:=by
   have nd:=zd5 H
   exact zgL nd hg he eg
  subst this
  show ((det ws (pre ++ g.1 :: post):Int):Rat) * kr g j=_
  rw [<- hS]
 ·have gS:=H.mem hg
  rw [hS] at gS
  have gm:g.1 ∈ pre ++ post:=by
   rcases List.mem_append.mp gS with z | z
   ·exact List.mem_append_left _ z
   ·exact List.mem_append_right _ ((List.mem_cons.mp z).resolve_left ng)
  show ((det ws (pre ++ g.1 :: post):Int):Rat) * kr g j=0
  rw [zgv (l:=0) gm]
  show ((0:Int):Rat) * _=0
  grind
theorem zrV {a N:Nat} (hN:N<=15) {K m:Nat} (hm:m<=N) (h:K<=(N * 2 ^ a) ^ m):K<=2 ^ ((a + 4) * N):=by
 have h2:N * 2 ^ a<=2 ^ (a + 4):=by
  rw [Nat.pow_add,Nat.mul_comm]
  exact Nat.mul_le_mul_left _ (by omega)
 have h3:(N * 2 ^ a) ^ m<=(2 ^ (a + 4)) ^ m:=Nat.pow_le_pow_left h2 m
 rw [<- Nat.pow_mul] at h3
 exact Nat.le_trans h (Nat.le_trans h3 (Nat.pow_le_pow_right (by decide) (Nat.mul_le_mul_left _ hm)))
theorem zmd {n a:Nat} {M:List (List Rat)} {ws:List Rw} {S:List Nat} {held:zaV} (E:zfw n M ws S held) (h:HR n held) (hW:∀ r ∈ M,∀ j,(fn (zaM r) j).natAbs<=2 ^ a) (h15:n<=15):∀ r ∈ zn6 held n,∀ j,(fn (zaM r) j).natAbs<=2 ^ ((a + 4) * n):=by
 intro r hr j
 obtain ⟨f,hf,rfl⟩:=List.mem_map.mp hr
 have hA:∀ w ∈ ws,∀ j,(w j).natAbs<=2 ^ a:=fun v hv j=>by
  obtain ⟨r,hr,rfl⟩:=E.src v hv
  exact hW r hr j
 have lS:=zgw E.ok.det
 have lN:=E.zw8
 have bd:∀ cs:List Nat,cs.length=S.length->(det ws cs).natAbs<=2 ^ ((a + 4) * n):=fun cs hc=>zrV h15 lN (zny (N:=n) ws cs hA (by omega))
 refine zmT (c:=((det ws S:Int):Rat)) (by simpa using E.ok.det) (fun i=>?_) j
 rcases Nat.lt_or_ge i n with l | l
 ·by_cases c:i ∈ held.map (·.1)
  ·obtain ⟨e,he,rfl⟩:=List.mem_map.mp c
   obtain ⟨cs,hc,em⟩:=minor E.ok he f
   refine ⟨-det ws cs,?_,by rw [Int.natAbs_neg];exact bd cs hc⟩
   unfold zdi
   rw [zuL h.nd he l]
   unfold nf
   rw [zki,Rat.intCast_neg,em,Rat.intCast_neg]
   unfold kr
   grind
  ·have hi:=zbU.mpr ⟨l,c⟩
   rw [zfP hi]
   split
   ·exact ⟨det ws S,by grind,bd S rfl⟩
   ·exact ⟨0,by rw [show ((0:Int):Rat)=0 from rfl];grind,Nat.zero_le _⟩
 ·refine ⟨0,?_,Nat.zero_le _⟩
  rw [zqp (by unfold zdi;rw [zhj];exact l),show ((0:Int):Rat)=0 from rfl]
  grind
theorem zlu {n b a:Nat} {M:List (List Rat)} (hM:∀ r ∈ M,r.length=n/\∀ x ∈ r,QR.Bd b x) (hW:∀ r ∈ M,∀ j,(fn (zaM r) j).natAbs<=2 ^ a) (hN:n<=15) (hB:(a + 4) * (n + 1) + 1<=10000000) (hb:zi0 b n<=9000000) :
  ∃ ws S held,zbh [zaa M]=.ok (hD held)/\zfw n M ws S held:=by
 have start:∃ ρ',zbW [.val (zaa M),.val (hD []),.no,.no,.no,.no]=.ok (.nx,ρ')/\∃ ws S held x2 x3 x4 x5,Np x2/\Np x3/\Np x4/\Np x5/\ρ'=[.val (zaa M),.val (hD held),x2,x3,x4,x5]/\zfw n M ws S held:=by
  refine zbc (f:=zai) (g:=gN 2) (b:=zbY) (fun done ρ=>∃ ws S held x2 x3 x4 x5,Np x2/\Np x3/\Np x4/\Np x5/\ρ=[.val (zaa M),.val (hD held),x2,x3,x4,x5]/\zfw n done ws S held) M [] _ ⟨[],[],[],.no,.no,.no,.no,za2,za2,za2,za2,rfl,zsa n,(fun _ h=>nomatch h),(fun _ h=>nomatch h),Nat.le_refl _⟩ ?_
  rintro pre r post ρ heq ⟨ws,S,held,x2,x3,x4,x5,n2,n3,n4,n5,rfl,E⟩
  rw [List.nil_append] at heq
  have mr:r ∈ M:=by rw [heq];simp
  have mp:∀ q ∈ pre,q ∈ M:=fun q hq=>by rw [heq];simp [hq]
  have lp:pre.length + 1<=M.length:=by rw [heq];simp
  obtain ⟨lr,br⟩:=hM r mr
  have hMp:∀ r ∈ pre,r.length=n/\∀ x ∈ r,QR.Bd b x:=fun q hq=>hM q (mp q hq)
  have e0:gN 2 (zai r) [.val (zaa M),.val (hD held),x2,x3,x4,x5]=.ok [.val (zaa M),.val (hD held),.val (zai r),x3,x4,x5]:=zcH (x:=x2) rfl n2
  have wo:=zq9 br (by rw [lr];exact hb) (by rw [lr];show n<=1000000;omega)
  have s1:zaC (gN 3) (zae zft (zab (eV 2) zah)) [.val (zaa M),.val (hD held),.val (zai r),x3,x4,x5]=.ok (.nx,[.val (zaa M),.val (hD held),.val (zai r),.val (IR (zaM r)),x4,x5]):=by
   refine zbQ (i:=3) (y:=(IR (zaM r),[.val (zaa M),.val (hD held),.val (zai r),x3,x4,x5])) (x:=x3) ?_ rfl n3
   simp only [zae,zab,zah,eV,zz1,zz0,zad,wo]
  have lw:(zaM r).length=n:=(znR r).trans lr
  have pz:=zkE r
  have hwA:∀ j,(fn (zaM r) j).natAbs<=2 ^ a:=hW r mr
  have hn:n<=1000:=by omega
  have El:=E.zw8
  have hA:∀ v ∈ ws,∀ j,(v j).natAbs<=2 ^ a:=fun v hv j=>by
   obtain ⟨q,hq,rfl⟩:=E.src v hv
   exact hW q (mp q hq) j
  have nd:=zd5 E.ok
  have hh:∀ e ∈ held,e.2.length=n/\e.1 < n/\∀ j,(fn e.2 j).natAbs < 2 ^ ((a + 4) * (n + 1) + 1):=fun e he=>⟨(E.ok.row e he).len,(E.ok.row e he).lt,E.bdG (fun q hq=>hW q (mp q hq)) hN he⟩
  have hc:∀ i,(clears (held.take i) (zaM r)).length=n/\∀ j,(fn (clears (held.take i) (zaM r)) j).natAbs < 2 ^ ((a + 4) * (n + 1) + 1):=fun i=>by
   obtain ⟨p1,p2⟩:=zvL (N:=n) E.ok lw pz hA hwA El Nat.one_le_two_pow i
   exact ⟨p1,fun j=>znD hN (p2 j)⟩
  obtain ⟨y4,g4,s2⟩:=zst (x0:=.val (zaa M)) (x2:=.val (zai r)) (x5:=x5) nd hh hc hB hn n4
  have full:=hc held.length
  rw [List.take_length] at full
  have hx:=full
  generalize hxx:clears held (zaM r)=x at s2 hx
  have s3:zaC (gN 5) (zae ziB (zab (eV 3) zah)) [.val (zaa M),.val (hD held),.val (zai r),.val (IR x),y4,x5]=.ok (.nx,[.val (zaa M),.val (hD held),.val (zai r),.val (IR x),y4,.val (zxC (zds x))]):=by
   refine zbQ (i:=5) (y:=(zxC (zds x),[.val (zaa M),.val (hD held),.val (zai r),.val (IR x),y4,x5])) (x:=x5) ?_ rfl n5
   simp only [zae,zab,zah,eV,zz1,zz0,zad,zup]
  rw [e0,zad]
  unfold zbY
  rw [zak s1,zak s2,zak s3]
  cases hl:zds x with
  | none =>
   refine ⟨_,.nx,rfl,.inl rfl,ws,S,held,_,_,_,_,zav _,zav _,g4,zav _,rfl,E.ok,fun w hw=>?_,fun q hq=>?_,?_⟩
   ·obtain ⟨q,hq,e⟩:=E.src w hw
    exact ⟨q,List.mem_append_left _ hq,e⟩
   ·rcases List.mem_append.mp hq with hq | hq
    ·exact E.sp q hq
    ·rw [List.mem_singleton.mp hq]
     obtain ⟨k,k0,h⟩:=zsF E.ok lw pz (by rw [hxx];exact zgk hl)
     exact zo4 (SpQ.ofk k0 h)
   ·rw [List.length_append];have:=E.len;omega
  | some p =>
   obtain ⟨hp,lo⟩:=zgj hl
   have AS:=zsE E.ok lw pz hxx.symm hp lo
   have pn:p < n:=Nat.lt_of_not_le fun c=>hp (zlh (hx.1 ▸ c))
   have lh:held.length<=15:=by
    have l1:=zfT E.ok
    have l2:=zgw E.ok.det
    omega
   have dc:=zoy (x0:=.val (zaa M)) (x2:=.val (zai r)) (x4:=y4) nd (fun e he=>⟨(hh e he).1,(hh e he).2.2⟩) hx.1 hx.2 pn hB hn (by show _<=1000000;omega)
   have s4:zdd 1 zbb [.val (zaa M),.val (hD held),.val (zai r),.val (IR x),y4,.val (.int (p:Int))]=.ok (.nx,[.val (zaa M),.ow false (hD (held.map fun e=>(e.1,cleared e.2 x p))),.val (zai r),.val (IR x),y4,.val (.int (p:Int))]):=zdZ (x:=.val (hD held)) dc rfl (zav _)
   have np:p ∉ (held.map fun e=>(e.1,cleared e.2 x p)).map (·.1):=by
    have k:=AS.keys
    have nd':=zd5 AS
    rw [List.map_append,List.nodup_append] at nd'
    intro z
    exact nd'.2.2 p z p (by simp) rfl
   have pt:=zlm np (by rw [List.length_map];show _<=1000000;omega) x
   refine ⟨_,.nx,?_,.inl rfl,fn (zaM r) :: ws,p :: S,_,.val (zai r),.val (IR x),y4,.val (.int (p:Int)),zav _,zav _,g4,zav _,rfl,AS,fun w hw=>?_,fun q hq=>?_,?_⟩
   ·show sIf (tB (FL.e2 zwc (eV 5) (eC .none))) _ sNx [.val (zaa M),.val (hD held),.val (zai r),.val (IR x),y4,.val (.int (p:Int))]=_
    unfold sIf
    rw [show tB (FL.e2 zwc (eV 5) (eC .none)) [.val (zaa M),.val (hD held),.val (zai r),.val (IR x),y4,.val (.int (p:Int))]=.ok (true,[.val (zaa M),.val (hD held),.val (zai r),.val (IR x),y4,.val (.int (p:Int))]) from rfl,zad,if_pos rfl,zak s4]
    simp only [FL.run,zaU,slots,outs,outD,List.replicate,List.length_cons,List.length_nil,zaw,zaq,sIf,zaC,sE,sNx,zdd,zcy,znY,zbq,zg4,zo9,zjO,zq3,zvr,znZ,eC,eV,FL.e1,FL.e2,ziY,eOr,zq6,eIf,zll,zah,zab,zem,zbF,zae,zsj,zjY,zjX,eSl,zaE,zdj,m1,m2,m2r,m2m,mSl,zpJ,tE,tB,FL.zfi,FL.tOr,FL.zcx,tM,za5,gN,gT,zoG,zre,zoQ,setM,zbo,zoH,zad,zf0,zfZ,zz0,zz1,List.set_cons_zero,List.set_cons_succ,List.nil_append,List.cons_append,List.head?_cons,List.tail_cons,Bool.false_eq_true,if_false,if_true,Nat.sub_self,Nat.reduceSub,Nat.reduceAdd,reduceCtorEq,ze4,zfE,zbD,zhG,zfS,zkH,zal,zkq,ziK,zgA,zg9,bkL,bk1,List.lookup_cons,List.lookup_nil,blk,back,List.zip_cons_cons,List.zip_nil_left,List.zip_nil_right,List.map_cons,List.map_nil,List.drop_succ_cons,List.drop_zero,Option.getD_some,Option.getD_none,zcP,iE,zfV,Bool.not_true,Bool.not_false,iD,zk6,zfX,zlk,zpK,e3,zlo,zqC,zpa,iR1,iR2,pt]
   ·rcases List.mem_cons.mp hw with rfl | hw
    ·exact ⟨r,by simp,rfl⟩
    ·obtain ⟨q,hq,e⟩:=E.src w hw
     exact ⟨q,List.mem_append_left _ hq,e⟩
   ·rcases List.mem_append.mp hq with hq | hq
    ·exact (E.sp q hq).old
    ·rw [List.mem_singleton.mp hq]
     exact zo4 (SpQ.new ws _)
   ·rw [List.length_append,List.length_cons];have:=E.len;simp;omega
 obtain ⟨ρ',e,ws,S,held,x2,x3,x4,x5,_,_,_,_,rfl,E⟩:=start
 refine ⟨ws,S,held,?_,E⟩
 refine zbd (ρ:=[.val (zaa M),.val (hD held),x2,x3,x4,x5]) rfl ?_
 show zcr [.val (zaa M),.no,.no,.no,.no,.no]=_
 unfold zcr
 rw [zak (show zdd 1 zfX [.val (zaa M),.no,.no,.no,.no,.no]=.ok (.nx,[.val (zaa M),.ow false (hD []),.no,.no,.no,.no]) from rfl)]
 rw [zak (show znY 1 zbW [.val (zaa M),.ow false (hD []),.no,.no,.no,.no]=.ok (.nx,_) from e)]
 rfl
theorem zno {n b a:Nat} {M:List (List Rat)} (hM:∀ r ∈ M,r.length=n/\∀ x ∈ r,QR.Bd b x) (hW:∀ r ∈ M,∀ j,(fn (zaM r) j).natAbs<=2 ^ a) (hN:n<=15) (hB:(a + 4) * (n + 1) + 1<=10000000) (hb:zi0 b n<=9000000) :
  ∃ (ws:List Rw) (S:List Nat) (held K:zaV),zdH [zaa M]=.ok (zaa (K.map zaH))/\zfw n M ws S held/\K.Perm held/\(K.map fun e=>(e.1:Int)).Pairwise (·<=·):=by
 obtain ⟨ws,S,held,e,E⟩:=zlu hM hW hN hB hb
 have h:=E.hrG hN
 obtain ⟨K,p,srt,es⟩:=zo5 held (by have:=h.len;omega)
 refine ⟨ws,S,held,K,?_,E,p,srt⟩
 have s1:zaC (gN 1) (zae zbh (zab (eV 0) zah)) [.val (zaa M),.no]=.ok (.nx,[.val (zaa M),.val (hD held)]):=by
  simp only [FL.run,zaU,slots,outs,outD,List.replicate,List.length_cons,List.length_nil,zaw,zaq,sIf,zaC,sE,sNx,zdd,zcy,znY,zbq,zg4,zo9,zjO,zq3,zvr,znZ,eC,eV,FL.e1,FL.e2,ziY,eOr,zq6,eIf,zll,zah,zab,zem,zbF,zae,zsj,zjY,zjX,eSl,zaE,zdj,m1,m2,m2r,m2m,mSl,zpJ,tE,tB,FL.zfi,FL.tOr,FL.zcx,tM,za5,gN,gT,zoG,zre,zoQ,setM,zbo,zoH,zad,zf0,zfZ,zz0,zz1,List.set_cons_zero,List.set_cons_succ,List.nil_append,List.cons_append,List.head?_cons,List.tail_cons,Bool.false_eq_true,if_false,if_true,Nat.sub_self,Nat.reduceSub,Nat.reduceAdd,reduceCtorEq,ze4,zfE,zbD,zhG,zfS,zkH,zal,zkq,ziK,zgA,zg9,bkL,bk1,List.lookup_cons,List.lookup_nil,blk,back,List.zip_cons_cons,List.zip_nil_left,List.zip_nil_right,List.map_cons,List.map_nil,List.drop_succ_cons,List.drop_zero,Option.getD_some,Option.getD_none,zcP,iE,zfV,Bool.not_true,Bool.not_false,iD,zk6,zfX,zlk,zpK,e3,zlo,zqC,zpa,iR1,iR2,e]
 have q:zc1 [.val (zaa M),.val (hD held)]=.ok (zaa (K.map zaH),[.val (zaa M),.val (hD held)]):=by
  unfold zc1
  rw [zb0 (f0:=fun e:Nat × List Int=>.int (e.1:Int)) (xs:=K) (fun e=>zai (zaH e)) (by
   simp only [FL.run,zaU,slots,outs,outD,List.replicate,List.length_cons,List.length_nil,zaw,zaq,sIf,zaC,sE,sNx,zdd,zcy,znY,zbq,zg4,zo9,zjO,zq3,zvr,znZ,eC,eV,FL.e1,FL.e2,ziY,eOr,zq6,eIf,zll,zah,zab,zem,zbF,zae,zsj,zjY,zjX,eSl,zaE,zdj,m1,m2,m2r,m2m,mSl,zpJ,tE,tB,FL.zfi,FL.tOr,FL.zcx,tM,za5,gN,gT,zoG,zre,zoQ,setM,zbo,zoH,zad,zf0,zfZ,zz0,zz1,List.set_cons_zero,List.set_cons_succ,List.nil_append,List.cons_append,List.head?_cons,List.tail_cons,Bool.false_eq_true,if_false,if_true,Nat.sub_self,Nat.reduceSub,Nat.reduceAdd,reduceCtorEq,ze4,zfE,zbD,zhG,zfS,zkH,zal,zkq,ziK,zgA,zg9,bkL,bk1,List.lookup_cons,List.lookup_nil,blk,back,List.zip_cons_cons,List.zip_nil_left,List.zip_nil_right,List.map_cons,List.map_nil,List.drop_succ_cons,List.drop_zero,Option.getD_some,Option.getD_none,zcP,iE,zfV,Bool.not_true,Bool.not_false,iD,zk6,zfX,zlk,zpK,e3,zlo,zqC,zpa,iR1,iR2,es]) (by rw [p.length_eq];have:=h.len;show _<=1000000;omega) fun x mx=>?_]
  ·unfold zaa;rw [List.map_map];rfl
  ·exact ⟨[.val (.int (x.1:Int)),.val (hD held)],rfl,zoj h.nd h.row (by omega) (p.subset mx),za8 trivial⟩
 refine zdo (ρ:=[.val (zaa M),.val (hD held)]) rfl ?_
 show zei [.val (zaa M),.no]=_
 unfold zei
 rw [zak s1]
 unfold zbq
 rw [q]
 rfl
theorem zme {n b a:Nat} {M:List (List Rat)} (hM:∀ r ∈ M,r.length=n/\∀ x ∈ r,QR.Bd b x) (hW:∀ r ∈ M,∀ j,(fn (zaM r) j).natAbs<=2 ^ a) (hn:n<=15) (hB:(a + 4) * (n + 1) + 1<=10000000) (hb:zi0 b n<=9000000) (hB2:(((a + 4) * n) + 4) * (n + 1) + 1<=10000000) (hb2:zi0 ((a + 4) * (n + 1) + 1) n<=9000000) :
  ∃ (ws:List Rw) (S:List Nat) (held:zaV) (ws2:List Rw) (S2:List Nat) (held2 K:zaV),zbk [zaa M,.int (n:Int)]=.ok (zaa (K.map zaH))/\zfw n M ws S held/\zfw n (zn6 held n) ws2 S2 held2/\K.Perm held2/\(K.map fun e=>(e.1:Int)).Pairwise (·<=·)/\(∀ e ∈ K,∀ j,(fn e.2 j).natAbs < 2 ^ ((((a + 4) * n) + 4) * (n + 1) + 1)):=by
 obtain ⟨ws,S,held,e,E⟩:=zlu hM hW hn hB hb
 have h:=E.hrG hn
 have nB:=zrP h (fun e he j=>E.bdG hW hn he j) (by omega)
 have nW:=zmd E h hW hn
 obtain ⟨ws2,S2,held2,K,e2,E2,p,srt⟩:=zno nB nW hn hB2 hb2
 refine ⟨ws,S,held,ws2,S2,held2,K,?_,E,E2,p,srt,fun e he j=>E2.bdG nW hn (p.subset he) j⟩
 have s1:zaC (gN 2) (zae zbh (zab (eV 0) zah)) [.val (zaa M),.val (.int (n:Int)),.no]=.ok (.nx,[.val (zaa M),.val (.int (n:Int)),.val (hD held)]):=by
  simp only [FL.run,zaU,slots,outs,outD,List.replicate,List.length_cons,List.length_nil,zaw,zaq,sIf,zaC,sE,sNx,zdd,zcy,znY,zbq,zg4,zo9,zjO,zq3,zvr,znZ,eC,eV,FL.e1,FL.e2,ziY,eOr,zq6,eIf,zll,zah,zab,zem,zbF,zae,zsj,zjY,zjX,eSl,zaE,zdj,m1,m2,m2r,m2m,mSl,zpJ,tE,tB,FL.zfi,FL.tOr,FL.zcx,tM,za5,gN,gT,zoG,zre,zoQ,setM,zbo,zoH,zad,zf0,zfZ,zz0,zz1,List.set_cons_zero,List.set_cons_succ,List.nil_append,List.cons_append,List.head?_cons,List.tail_cons,Bool.false_eq_true,if_false,if_true,Nat.sub_self,Nat.reduceSub,Nat.reduceAdd,reduceCtorEq,ze4,zfE,zbD,zhG,zfS,zkH,zal,zkq,ziK,zgA,zg9,bkL,bk1,List.lookup_cons,List.lookup_nil,blk,back,List.zip_cons_cons,List.zip_nil_left,List.zip_nil_right,List.map_cons,List.map_nil,List.drop_succ_cons,List.drop_zero,Option.getD_some,Option.getD_none,zcP,iE,zfV,Bool.not_true,Bool.not_false,iD,zk6,zfX,zlk,zpK,e3,zlo,zqC,zpa,iR1,iR2,e]
 have q:zcq [.val (zaa M),.val (.int (n:Int)),.val (hD held)]=.ok (zaa (zn6 held n),[.val (zaa M),.val (.int (n:Int)),.val (hD held)]):=by
  unfold zcq
  have it:iR1 (zab (eV 1) zah) [.val (zaa M),.val (.int (n:Int)),.val (hD held)]=.ok ((List.range n).map (fun i:Nat=>PyData.int (i:Int)),[.val (zaa M),.val (.int (n:Int)),.val (hD held)]):=by
   simp only [iR1,zab,zah,eV,zz1,zz0,zad]
   rw [zde (by omega) (by omega),zad,zhJ,List.map_map]
   simp
  rw [zcI (f0:=fun i:Nat=>.int (i:Int)) (xs:=List.range n) (fun j=>decide (j ∉ held.map (·.1))) (fun j=>zai (zdi held n j)) it (by rw [List.length_range];show n<=1000000;omega) fun j mj=>?_]
  ·unfold zaa zn6 frees;rw [List.map_map];rfl
  ·refine ⟨[.val (.int (j:Int)),.val (.int (n:Int)),.val (hD held)],rfl,?_,fun c=>?_,za8 trivial⟩
   ·simp only [tB,FL.e2,eV,zz1,zz0,zad,zrR]
   ·have nr:=zjZ h (List.mem_range.mp mj) (of_decide_eq_true c) (by omega)
    simp only [FL.run,zaU,slots,outs,outD,List.replicate,List.length_cons,List.length_nil,zaw,zaq,sIf,zaC,sE,sNx,zdd,zcy,znY,zbq,zg4,zo9,zjO,zq3,zvr,znZ,eC,eV,FL.e1,FL.e2,ziY,eOr,zq6,eIf,zll,zah,zab,zem,zbF,zae,zsj,zjY,zjX,eSl,zaE,zdj,m1,m2,m2r,m2m,mSl,zpJ,tE,tB,FL.zfi,FL.tOr,FL.zcx,tM,za5,gN,gT,zoG,zre,zoQ,setM,zbo,zoH,zad,zf0,zfZ,zz0,zz1,List.set_cons_zero,List.set_cons_succ,List.nil_append,List.cons_append,List.head?_cons,List.tail_cons,Bool.false_eq_true,if_false,if_true,Nat.sub_self,Nat.reduceSub,Nat.reduceAdd,reduceCtorEq,ze4,zfE,zbD,zhG,zfS,zkH,zal,zkq,ziK,zgA,zg9,bkL,bk1,List.lookup_cons,List.lookup_nil,blk,back,List.zip_cons_cons,List.zip_nil_left,List.zip_nil_right,List.map_cons,List.map_nil,List.drop_succ_cons,List.drop_zero,Option.getD_some,Option.getD_none,zcP,iE,zfV,Bool.not_true,Bool.not_false,iD,zk6,zfX,zlk,zpK,e3,zlo,zqC,zpa,iR1,iR2,nr]
 refine zdo (ρ:=[.val (zaa M),.val (.int (n:Int)),.val (hD held)]) rfl ?_
 show zc4 [.val (zaa M),.val (.int (n:Int)),.no]=_
 unfold zc4
 rw [zak s1]
 unfold zbq zae zab zah
 rw [q]
 simp only [zad,e2]
end FL
namespace FL
open PySem MD
def za9 (M:List (List Rat)) (v:Rq):Prop:=∀ P:Rq->Prop,Rm P->(∀ r ∈ M,P (fq r))->P v
theorem zfw.room {n:Nat} {M:List (List Rat)} {ws:List Rw} {S:List Nat} {held:zaV} (E:zfw n M ws S held) (v:Rq):SpQ ws v ↔ za9 M v :=
 ⟨fun hv P hP hM=>E.ind hP.zero hP.lin hM hv,fun h=>h _ (zvu ws) E.sp⟩
theorem za9.rm (M:List (List Rat)):Rm (za9 M):=⟨fun P hP _=>hP.zero,fun a b u v hu hv P hP hM=>hP.lin a b u v (hu P hP hM) (hv P hP hM)⟩
theorem za9.mem {M:List (List Rat)} {r:List Rat} (h:r ∈ M):za9 M (fq r):=fun P _ hM=>hM r h
structure Res (n:Nat) (V:Rq->Prop) (H:Nat) (R:List (List Rat)):Prop where
 ex:∃ K:zaV,R=K.map zaH/\Rd V (bas K)/\∀ e ∈ K,e.2.length=n/\e.1 < n/\fn e.2 e.1 ≠ 0/\∀ j,(fn e.2 j).natAbs < 2 ^ H
theorem Res.congr {n H:Nat} {V W:Rq->Prop} {R:List (List Rat)} (r:Res n V H R) (h:∀ v,V v ↔ W v):Res n W H R:=by
 obtain ⟨K,e,d,k⟩:=r.ex
 exact ⟨K,e,d.congr h,k⟩
theorem Res.row {n H:Nat} {V:Rq->Prop} {R:List (List Rat)} (r:Res n V H R):∀ x ∈ R,x.length=n/\∀ q ∈ x,QR.Bd H q:=by
 obtain ⟨K,rfl,d,k⟩:=r.ex
 intro x hx
 obtain ⟨e,he,rfl⟩:=List.mem_map.mp hx
 exact ⟨by rw [zeI];exact (k e he).1,zut (k e he).2.2.2 (k e he).2.2.1⟩
theorem Res.whole {n H:Nat} {V:Rq->Prop} {R:List (List Rat)} (r:Res n V H R):∀ x ∈ R,∀ j,(fn (zaM x) j).natAbs<=2 ^ H:=by
 obtain ⟨K,rfl,d,k⟩:=r.ex
 intro x hx
 obtain ⟨e,he,rfl⟩:=List.mem_map.mp hx
 exact zoi (k e he).2.2.1 fun j=>Nat.le_of_lt ((k e he).2.2.2 j)
theorem Res.uniq {n H H':Nat} {V:Rq->Prop} {R R':List (List Rat)} (r:Res n V H R) (r':Res n V H' R'):R=R':=by
 obtain ⟨K,rfl,d,k⟩:=r.ex
 obtain ⟨K',rfl,d',k'⟩:=r'.ex
 exact zl3 (d.uniq d') (fun e he=>(k e he).1) (fun e he=>(k' e he).1)
theorem Res.mem {n H:Nat} {V:Rq->Prop} {R:List (List Rat)} (r:Res n V H R):∀ x ∈ R,V (fq x):=by
 obtain ⟨K,rfl,d,k⟩:=r.ex
 intro x hx
 obtain ⟨e,he,rfl⟩:=List.mem_map.mp hx
 rw [fqk]
 exact d.mem _ (List.mem_map_of_mem (f:=fun e:Nat × List Int=>(e.1,kr e)) he)
theorem Res.room {n H:Nat} {V:Rq->Prop} {R:List (List Rat)} (r:Res n V H R) (hV:Rm V) (v:Rq):za9 R v ↔ V v:=by
 refine ⟨fun h=>h V hV r.mem,fun h P hP hR=>?_⟩
 obtain ⟨K,rfl,d,k⟩:=r.ex
 have e:=d.rep v h
 have:=hP.sum (fun q:Nat × Rq=>v q.1) (fun q=>q.2) (bas K) fun q hq=>by
  obtain ⟨x,hx,rfl⟩:=List.mem_map.mp hq
  have:=hR (zaH x) (List.mem_map_of_mem hx)
  rw [fqk] at this
  exact this
 rw [show v=fun j=>zaP ((bas K).map fun q=>v q.1 * q.2 j) from funext e]
 exact this
theorem zmG (K:zaV):(bas K).length=K.length:=by unfold bas;rw [List.length_map]
theorem Res.dim {n H:Nat} {V:Rq->Prop} {R:List (List Rat)} (r:Res n V H R):∃ B,Co V B/\B.length=R.length:=by
 obtain ⟨K,rfl,d,k⟩:=r.ex
 exact ⟨bas K,d.toCo,by rw [zmG,List.length_map]⟩
theorem Res.len {n H:Nat} {V:Rq->Prop} {R:List (List Rat)} (r:Res n V H R):R.length<=n:=by
 obtain ⟨K,rfl,d,k⟩:=r.ex
 have nd:=zsP d.srt
 have:=List.Nodup.length_le_of_subset nd (l₂:=List.range n) fun x hx=>by
  obtain ⟨q,hq,rfl⟩:=List.mem_map.mp hx
  obtain ⟨e,he,rfl⟩:=List.mem_map.mp hq
  exact List.mem_range.mpr (k e he).2.1
 rw [List.length_map,zmG,List.length_range] at this
 rw [List.length_map]
 exact this
structure Facts (n:Nat) (M:List (List Rat)):Prop where
 nn:∀ v,An n (An n (za9 M)) v ↔ za9 M v
 dim:∀ B C,Co (za9 M) B->Co (An n (za9 M)) C->C.length + B.length=n
theorem zfw.facts {n:Nat} {M:List (List Rat)} {ws:List Rw} {S:List Nat} {held:zaV} (E:zfw n M ws S held) (h:HR n held) (hM:∀ r ∈ M,r.length=n):Facts n M:=by
 refine ⟨fun v=>?_,fun B C b c=>?_⟩
 ·rw [An.congr (An.congr fun v=>(E.room v).symm) v,nn E h hM v,E.room v]
 ·have c':=(zpB E h).congr (An.congr E.room)
  have b':Co (za9 M) (bas held):=(show Co (SpQ ws) (bas held) from ⟨fun q hq=>by
    obtain ⟨e,he,rfl⟩:=List.mem_map.mp hq
    exact E.ok.zwp he,fun q hq=>by
    obtain ⟨e,he,rfl⟩:=List.mem_map.mp hq
    exact E.ok.zwq he,fun v hv j=>by
    rw [E.ok.room hv j]
    unfold bas
    rw [List.map_map]
    rfl⟩).congr E.room
  rw [c.dim c',b.dim b',zmG,List.length_map]
  exact zqm h
theorem zr2 {n b a:Nat} {M:List (List Rat)} (hM:∀ r ∈ M,r.length=n/\∀ x ∈ r,QR.Bd b x) (hW:∀ r ∈ M,∀ j,(fn (zaM r) j).natAbs<=2 ^ a) (hN:n<=15) (hB:(a + 4) * (n + 1) + 1<=10000000) (hb:zi0 b n<=9000000) :
  ∃ R,zdH [zaa M]=.ok (zaa R)/\Res n (za9 M) ((a + 4) * (n + 1) + 1) R/\Facts n M:=by
 obtain ⟨ws,S,held,K,e,E,p,srt⟩:=zno hM hW hN hB hb
 have h:=E.hrG hN
 exact ⟨_,e,⟨K,rfl,(E.rd p srt).congr E.room,fun x hx=>⟨(h.row x (p.subset hx)).1,(h.row x (p.subset hx)).2.1,(h.row x (p.subset hx)).2.2,fun j=>E.bdG hW hN (p.subset hx) j⟩⟩,E.facts h fun r hr=>(hM r hr).1⟩
theorem zhP {n b a:Nat} {M:List (List Rat)} (hM:∀ r ∈ M,r.length=n/\∀ x ∈ r,QR.Bd b x) (hW:∀ r ∈ M,∀ j,(fn (zaM r) j).natAbs<=2 ^ a) (hn:n<=15) (hB:(a + 4) * (n + 1) + 1<=10000000) (hb:zi0 b n<=9000000) (hB2:(((a + 4) * n) + 4) * (n + 1) + 1<=10000000) (hb2:zi0 ((a + 4) * (n + 1) + 1) n<=9000000) :
  ∃ R,zbk [zaa M,.int (n:Int)]=.ok (zaa R)/\Res n (An n (za9 M)) ((((a + 4) * n) + 4) * (n + 1) + 1) R/\Facts n M:=by
 obtain ⟨ws,S,held,ws2,S2,held2,K,e,E,E2,p,srt,bd⟩:=zme hM hW hn hB hb hB2 hb2
 have h:=E.hrG hn
 have h2:=E2.hrG hn
 exact ⟨_,e,⟨K,rfl,(E2.rd p srt).congr fun v=>(zv9 E h E2 v).trans (An.congr E.room v),fun x hx=>⟨(h2.row x (p.subset hx)).1,(h2.row x (p.subset hx)).2.1,(h2.row x (p.subset hx)).2.2,bd x hx⟩⟩,E.facts h fun r hr=>(hM r hr).1⟩
theorem zsu {n H H':Nat} {A B:Rq->Prop} {R R':List (List Rat)} (r:Res n (An n A) H R) (r':Res n (An n B) H' R') (a:∀ v,An n (An n A) v ↔ A v) (b:∀ v,An n (An n B) v ↔ B v) (v:Rq):An n (za9 (R ++ R')) v ↔ A v/\B v:=by
 have in1:∀ t,An n A t->za9 (R ++ R') t:=fun t ht P hP hM=>(r.room (An.rm n A) t).mpr ht P hP fun x hx=>hM x (List.mem_append_left _ hx)
 have in2:∀ t,An n B t->za9 (R ++ R') t:=fun t ht P hP hM=>(r'.room (An.rm n B) t).mpr ht P hP fun x hx=>hM x (List.mem_append_right _ hx)
 constructor
 ·exact fun hv=>⟨(a v).mp ⟨hv.1,fun t ht=>hv.2 t (in1 t ht)⟩,(b v).mp ⟨hv.1,fun t ht=>hv.2 t (in2 t ht)⟩⟩
 ·rintro ⟨ha,hb⟩
  have ha:=(a v).mpr ha
  have hb:=(b v).mpr hb
  refine ⟨ha.1,fun x hx=>hx (fun x=>ip n v x=0) ⟨zp7 n v,fun a b u w hu hw=>by rw [zte,hu,hw];grind⟩ fun y hy=>?_⟩
  rcases List.mem_append.mp hy with z | z
  ·exact ha.2 _ (r.mem y z)
  ·exact hb.2 _ (r'.mem y z)
theorem zp1 {A B:List (List Rat)} (v:Rq):za9 (A ++ B) v ↔ ∃ x y,za9 A x/\za9 B y/\∀ j,v j=x j + y j:=by
 constructor
 ·intro h
  refine h (fun v=>∃ x y,za9 A x/\za9 B y/\∀ j,v j=x j + y j) ⟨⟨_,_,(za9.rm A).zero,(za9.rm B).zero,fun j=>by grind⟩,fun a b u v ⟨x,y,hx,hy,e⟩ ⟨x',y',hx',hy',e'⟩=>⟨_,_,(za9.rm A).lin a b _ _ hx hx',(za9.rm B).lin a b _ _ hy hy',fun j=>by show a * u j + b * v j=_;rw [e j,e' j];grind⟩⟩ fun r hr=>?_
  rcases List.mem_append.mp hr with z | z
  ·exact ⟨_,_,za9.mem z,(za9.rm B).zero,fun j=>by grind⟩
  ·exact ⟨_,_,(za9.rm A).zero,za9.mem z,fun j=>by grind⟩
 ·rintro ⟨x,y,hx,hy,e⟩ P hP hM
  have h1:=hx P hP fun r hr=>hM r (List.mem_append_left _ hr)
  have h2:=hy P hP fun r hr=>hM r (List.mem_append_right _ hr)
  have:=hP.lin 1 1 _ _ h1 h2
  rw [show v=fun j=>1 * x j + 1 * y j from funext fun j=>by rw [e j];grind]
  exact this
end FL
namespace K04
open PySem FL
def zjz:SF:=(zaw (ziY (e1 (zb7 "int") (eV 0)) (zq6 (e1 (zb7 "bool") (eV 0)))))
def zgE:List D->R D:=zaU false 1 1 zjz
def zcS:SF:=(zhI (zdY 3) (tB (e2 neD (eV 3) (eC (.int 0)))) (zjO 2 3 (eV 3) (e2 zj1 (eV 2) (eV 3))))
def zdQ:SF:=(zaq (zjO 2 3 (e1 zqR (eV 0)) (e1 zqR (eV 1)))
  (zaq zcS
  (zaw (eV 2))))
def za4:List D->R D:=zaU false 2 4 zdQ
def zhA:SF:=(sIf (tB (e2 neD (eV 2) (eC (.int 0)))) (zaw (eV 1)) sNx)
def zhv:SF:=(zcP (zr7 (zab (eV 0) zah)) (gT [(gN 1),(gN 2)]) zhA)
def zlB:SF:=(zaq zhv
  (zaw (eC .none)))
def zlQ:List D->R D:=zaU false 1 3 zlB
def zgU:SF:=(zaq (zaC (gN 2) (e2 zaY (e2 zaY (e2 zcd (e2 zaY (e2 zj1 (eV 0) (e2 zaY (e2 zjg (eC (.int 10)) (eC (.int 18))) (eC (.int 9)))) (e2 zcd (eC (.int 7)) (eV 1))) (eC (.int 739108512309184756019283746561))) (e2 zcd (eC (.int 7919)) (eV 1))) (eC (.int 1))))
  (zaq (zaC (gN 2) (e2 zj1 (e2 zcd (eV 2) (eV 2)) (e2 zaY (e2 zjg (eC (.int 10)) (eC (.int 60))) (eC (.int 7)))))
  (zaw (e2 zj1 (e2 zcd (e2 zaY (eV 2) (eC (.int 40503))) (e2 zaY (eV 2) (eC (.int 57)))) (e2 zaY (e2 zjg (eC (.int 10)) (eC (.int 60))) (eC (.int 7)))))))
def zeA:List D->R D:=zaU false 2 3 zgU
def zlE:SF:=(zaq (sIf (tB (e2 ltD (eV 1) (e1 zbD (eV 0)))) (zaw (e2 ixD (eV 0) (eV 1))) sNx)
  (zaw (e2 zaY (e2 zcd (eC (.int 3)) (eV 1)) (eC (.int 1)))))
def zgc:List D->R D:=zaU false 2 2 zlE
def zgH:SF:=(zhI (zdY 3) (tB (e2 neD (eV 3) (eC (.int 0)))) (zjO 2 3 (eV 3) (e2 zj1 (eV 2) (eV 3))))
def zjB:SF:=(zaq (zaC (gN 2) (e1 zqR (eV 0)))
  (zaq (zaC (gN 3) (eV 1))
  (zaq zgH
  (zaw (zem (zab (e2 zbM (eV 0) (eV 2)) (zab (e2 zbM (eV 1) (eV 2)) zah)))))))
def zcD:List D->R D:=zaU false 2 4 zjB
def zeM:SF:=(zaw (zem (zab (e2 ze4 (eC (.int 0)) (e2 ixD (eV 0) (eC (.int 0)))) (zab (e2 ixD (eV 0) (eC (.int 1))) zah))))
def zeR:List D->R D:=zaU false 1 1 zeM
def zep:SF:=(zaw (ziY (e1 (zb7 "int") (eV 0)) (zq6 (e1 (zb7 "bool") (eV 0)))))
def zcN:List D->R D:=zaU false 1 1 zep
def ze6:EF:=(zaW 1 [] (iR1 (zab (eV 0) zah)) (gN 0) za5 (zem (zab (eC (.int 0)) (zab (eC (.int 1)) zah))))
def zgW:SF:=(zbq ze6)
def zbi:List D->R D:=zaU true 1 1 zgW
def zbj:EF:=(zaW 1 [] (iE (eV 0)) (gN 0) (tB (e2 neD (e2 ixD (eV 0) (eC (.int 0))) (eC (.int 0)))) (eV 0))
def zb2:SF:=(zaw (e2 eqD zbj (zbF zah)))
def zcO:List D->R D:=zaU false 1 1 zb2
def zaZ:SF:=(sIf (tB (e2 neD (e2 ixD (eV 2) (eC (.int 0))) (eC (.int 0)))) (zaw (eV 1)) sNx)
def zdm:SF:=(zcP (zr7 (zab (eV 0) zah)) (gT [(gN 1),(gN 2)]) zaZ)
def zdC:SF:=(zaq zdm
  (zaw (e1 zbD (eV 0))))
def zcb:List D->R D:=zaU false 1 3 zdC
def zin:SF:=(zaq (sIf (FL.tOr (FL.zcx (tE (e1 (zb7 "tuple") (eV 0)))) (tB (e2 neD (e1 zbD (eV 0)) (eC (.int 2))))) (zaw (eC (.bool false))) sNx)
  (zaq (zaC (gT [(gN 1),(gN 2)]) (eV 0))
  (zaq (sIf (FL.tOr (FL.zcx (tE (zae zgE (zab (eV 1) zah)))) (FL.tOr (FL.zcx (tE (zae zgE (zab (eV 2) zah)))) (tB (e2 ltD (eV 2) (eC (.int 1)))))) (zaw (eC (.bool false))) sNx)
  (zaw (e2 eqD (zae za4 (zab (eV 1) (zab (eV 2) zah))) (eC (.int 1)))))))
def ziH:List D->R D:=zaU false 1 3 zin
def zjA:SF:=(zaq (sIf (tB (e2 eqD (eV 1) (eC (.int 0)))) znZ sNx)
  (zaq (zaC (gN 2) (zae za4 (zab (eV 0) (zab (eV 1) zah))))
  (zaq (sIf (tB (e2 ltD (eV 1) (eC (.int 0)))) (zaC (gN 2) (e1 zkY (eV 2))) sNx)
  (zaw (zem (zab (e2 zbM (eV 0) (eV 2)) (zab (e2 zbM (eV 1) (eV 2)) zah)))))))
def zgF:List D->R D:=zaU false 2 3 zjA
def zhz:SF:=(zaq (zaC (gN 1) (zae za4 (zab (eV 1) (zab (eV 2) zah))))
  (sIf (tB (e2 eqD (eV 1) (eC (.int 1)))) zq3 sNx))
def zhu:SF:=(zcP (iE (eV 0)) (gN 2) zhz)
def zhK:EF:=(zaW 1 [1] (iE (eV 0)) (gN 0) za5 (e2 zbM (eV 0) (eV 1)))
def zlA:SF:=(zaq (zaC (gN 1) (eC (.int 0)))
  (zaq zhu
  (zaq (sIf (tB (e2 eqD (eV 1) (eC (.int 0)))) (zaw (eV 0)) sNx)
  (zaw zhK))))
def ziF:List D->R D:=zaU false 1 3 zlA
def zgT:SF:=(zaq (sIf (tB (e2 geD (eV 0) (e2 zjg (eC (.int 10)) (eC (.int 18))))) (zbq (zbF (zab (e2 ze4 (eV 0) (e2 zjg (eC (.int 10)) (eC (.int 18)))) (zab (eC (.int 0)) (zab (eV 1) zah))))) sNx)
  (zbq (zbF (zab (zae zeA (zab (eV 0) (zab (eV 1) zah))) (zab (eC (.int 0)) (zab (e2 zaY (e2 zj1 (eV 0) (e2 zaY (e2 zjg (eC (.int 10)) (eC (.int 18))) (eC (.int 9)))) (eV 1)) zah))))))
def zcX:List D->R D:=zaU true 2 2 zgT
def zio:SF:=(zaq (sIf (tB (e2 ltD (m2 ixD 0 (eC (.int 0))) (eV 1))) (zaq (setM 0 (e2 zaY (m2 ixD 0 (eC (.int 1))) (eC (.int 1))) (eC (.int 1)))
  (setM 0 (e2 zaY (m2 ixD 0 (eC (.int 0))) (e2 zcd (eV 1) (zae zeA (zab (m2 ixD 0 (eC (.int 2))) (zab (e2 zaY (e2 zcd (eC (.int 11)) (m2 ixD 0 (eC (.int 1)))) (eC (.int 5))) zah))))) (eC (.int 0)))) sNx)
  (zaq (zaC (gN 2) (e2 zj1 (m2 ixD 0 (eC (.int 0))) (eV 1)))
  (zaq (setM 0 (e2 zbM (m2 ixD 0 (eC (.int 0))) (eV 1)) (eC (.int 0)))
  (zaw (eV 2)))))
def zao:List D->R (D × List D):=run [true,false] false 3 zio
def ziq:SF:=(zaw (zae zcD (zab (e2 zaY (e2 zcd (e2 ixD (eV 0) (eC (.int 0))) (e2 ixD (eV 1) (eC (.int 1)))) (e2 zcd (e2 ixD (eV 1) (eC (.int 0))) (e2 ixD (eV 0) (eC (.int 1))))) (zab (e2 zcd (e2 ixD (eV 0) (eC (.int 1))) (e2 ixD (eV 1) (eC (.int 1)))) zah))))
def zfu:List D->R D:=zaU false 2 2 ziq
def zlD:SF:=(zaw (zae zcD (zab (e2 zcd (e2 ixD (eV 0) (eC (.int 0))) (e2 ixD (eV 1) (eC (.int 0)))) (zab (e2 zcd (e2 ixD (eV 0) (eC (.int 1))) (e2 ixD (eV 1) (eC (.int 1)))) zah))))
def ziJ:List D->R D:=zaU false 2 2 zlD
def zdR:SF:=(zaq (sIf (FL.tOr (FL.zcx (tE (e1 (zb7 "tuple") (eV 0)))) (tB (e2 neD (e1 zbD (eV 0)) (eC (.int 2))))) (zaw (eC (.bool false))) sNx)
  (zaq (sIf (FL.tOr (FL.zcx (tE (zae zcN (zab (e2 ixD (eV 0) (eC (.int 0))) zah)))) (FL.zcx (tE (zae zcN (zab (e2 ixD (eV 0) (eC (.int 1))) zah))))) (zaw (eC (.bool false))) sNx)
  (zaw (ziY (e2 geD (e2 ixD (eV 0) (eC (.int 1))) (eC (.int 1))) (e2 eqD (zae zcD (zab (e2 ixD (eV 0) (eC (.int 0))) (zab (e2 ixD (eV 0) (eC (.int 1))) zah))) (eV 0))))))
def zdT:List D->R D:=zaU false 1 1 zdR
def za1:EF:=(zaW 1 [] (iE (eV 0)) (gN 0) za5 (zae zcb (zab (eV 0) zah)))
def za0:SF:=(sIf (FL.zfi (tB (e2 neD (eV 4) (eV 2))) (tB (e2 neD (e2 ixD (e2 ixD (e2 ixD (eV 0) (eV 4)) (e2 ixD (eV 1) (eV 2))) (eC (.int 0))) (eC (.int 0))))) (zaw (eC (.bool false))) sNx)
def zby:SF:=(zcP (iR1 (zab (e1 zbD (eV 0)) zah)) (gN 4) za0)
def zbz:SF:=(zaq (sIf (FL.tOr (tB (e2 eqD (e2 ixD (eV 1) (eV 2)) (e1 zbD (eV 3)))) (tB (e2 neD (e2 ixD (eV 3) (e2 ixD (eV 1) (eV 2))) (zem (zab (eC (.int 1)) (zab (eC (.int 1)) zah)))))) (zaw (eC (.bool false))) sNx)
  (zaq (sIf (FL.zfi (tB (e2 gtD (eV 2) (eC (.int 0)))) (tB (e2 leD (e2 ixD (eV 1) (eV 2)) (e2 ixD (eV 1) (e2 ze4 (eV 2) (eC (.int 1))))))) (zaw (eC (.bool false))) sNx)
  zby))
def zbx:SF:=(zcP (zr7 (zab (eV 0) zah)) (gT [(gN 2),(gN 3)]) zbz)
def zcg:SF:=(zaq (zcy 1 (zdd 1 za1))
  (zaq zbx
  (zaw (eC (.bool true)))))
def zbw:List D->R D:=zaU false 1 5 zcg
def zjb:EF:=(zaW 1 [] (iE (eV 0)) (gN 0) za5 (zae ziH (zab (eV 0) zah)))
def znJ:SF:=(zaw (ziY (e1 (zb7 "list") (eV 0)) (e1 zwZ zjb)))
def znQ:List D->R D:=zaU false 1 1 znJ
def zfC:SF:=(zaC (gN 1) (e2 zcd (e2 zbM (eV 1) (zae za4 (zab (eV 1) (zab (e2 ixD (eV 2) (eC (.int 1))) zah)))) (e2 ixD (eV 2) (eC (.int 1)))))
def zfy:SF:=(zcP (iE (eV 0)) (gN 2) zfC)
def zfG:EF:=(zaW 1 [1] (iE (eV 0)) (gN 0) za5 (e2 zcd (e2 ixD (eV 0) (eC (.int 0))) (e2 zbM (eV 1) (e2 ixD (eV 0) (eC (.int 1))))))
def zij:SF:=(zaq (zaC (gN 1) (eC (.int 1)))
  (zaq zfy
  (zaw (zae ziF (zab zfG zah)))))
def ziE:List D->R D:=zaU false 1 3 zij
def zhM:EF:=(zaW 2 [0,1,2] (ztf (zab (eV 0) (zab (eV 1) zah))) (gT [(gN 0),(gN 1)]) za5 (e2 ze4 (e2 zcd (e2 ixD (eV 3) (eV 4)) (eV 0)) (e2 zcd (e2 ixD (eV 2) (eV 4)) (eV 1))))
def zlC:SF:=(zaq (sIf (tB (e2 eqD (e2 ixD (eV 0) (eV 2)) (eC (.int 0)))) (zaw (eV 0)) sNx)
  (zaw (zae ziF (zab zhM zah))))
def ziI:List D->R D:=zaU false 3 3 zlC
def ze2:SF:=(setM 3 (zae zgF (zab (e1 zkY (e2 ixD (e2 zjq (eV 0) (eV 4)) (eV 1))) (zab (e2 ixD (e2 zjq (eV 0) (eV 4)) (eV 4)) zah))) (eV 4))
def ze0:SF:=(zcP (iD (eV 0)) (gN 4) ze2)
def zgS:SF:=(zaq (zdd 3 (zsj (eC (.tuple [(.int 0),(.int 1)])) (eV 2)))
  (zaq (setM 3 (eC (.tuple [(.int 1),(.int 1)])) (eV 1))
  (zaq ze0
  (zg4 3))))
def zg3:List D->R D:=zaU true 3 5 zgS
def zf6:SF:=(zaq (zaC (gN 1) (zal zao [.m 0,.v (eC (.int 6))]))
  (zaq (sIf (tB (e2 ltD (eV 1) (eC (.int 3)))) (zaw (e2 ixD (zbF (zab (zem (zab (eC (.int 0)) (zab (eC (.int 1)) zah))) (zab (zem (zab (eC (.int 1)) (zab (eC (.int 1)) zah))) (zab (zem (zab (e1 zkY (eC (.int 1))) (zab (eC (.int 1)) zah))) zah)))) (eV 1))) sNx)
  (zaq (sIf (tB (e2 ltD (eV 1) (eC (.int 5)))) (zaw (zae zcD (zab (e2 ze4 (zal zao [.m 0,.v (eC (.int 13))]) (eC (.int 6))) (zab (e2 zaY (eC (.int 1)) (e2 zcd (zal zao [.m 0,.v (eC (.int 4))]) (e2 ze4 (eV 1) (eC (.int 3))))) zah)))) sNx)
  (zaw (zae zcD (zab (e2 ze4 (zal zao [.m 0,.v (e2 zaY (e2 zcd (eC (.int 2)) (e2 zjg (eC (.int 10)) (eC (.int 4)))) (eC (.int 1)))]) (e2 zjg (eC (.int 10)) (eC (.int 4)))) (zab (e2 zaY (eC (.int 1)) (zal zao [.m 0,.v (eC (.int 30))])) zah)))))))
def zbn:List D->R (D × List D):=run [true] false 2 zf6
def zd2:EF:=(zaW 1 [] (iE (eV 0)) (gN 0) (FL.zcx (tE (zae zdT (zab (eV 0) zah)))) (eV 0))
def zf7:SF:=(zaq (sIf (FL.tOr (FL.zcx (tE (e1 (zb7 "list") (eV 0)))) (tB (e2 neD (e1 zbD (eV 0)) (eV 1)))) (zaw (eC (.bool false))) sNx)
  (zaw (e2 eqD zd2 (zbF zah))))
def zdJ:List D->R D:=zaU false 2 2 zf7
def ze7:EF:=(zaW 2 [] (ztf (zab (eV 0) (zab (eV 1) zah))) (gT [(gN 0),(gN 1)]) za5 (zae zfu (zab (eV 0) (zab (eV 1) zah))))
def zgX:SF:=(zbq ze7)
def zbL:List D->R D:=zaU true 2 2 zgX
def zd1:EF:=(zaW 1 [0] (iE (eV 1)) (gN 0) za5 (zae ziJ (zab (eV 1) (zab (eV 0) zah))))
def zf5:SF:=(zbq zd1)
def zbm:List D->R D:=zaU true 2 2 zf5
def zdL:SF:=(zaC (gN 2) (zae zfu (zab (eV 2) (zab (zae ziJ (zab (eV 3) (zab (eV 4) zah))) zah))))
def zdK:SF:=(zcP (ztf (zab (eV 0) (zab (eV 1) zah))) (gT [(gN 3),(gN 4)]) zdL)
def zfe:SF:=(zaq (zaC (gN 2) (zem (zab (eC (.int 0)) (zab (eC (.int 1)) zah))))
  (zaq zdK
  (zaw (eV 2))))
def zc6:List D->R D:=zaU false 2 5 zfe
def zim:SF:=(zaw (ziY (zae znQ (zab (eV 0) zah)) (e2 eqD (e1 zbD (eV 0)) (eV 1))))
def ziG:List D->R D:=zaU false 2 2 zim
def zdb:SF:=(zaC (gN 3) (zae ziI (zab (eV 3) (zab (e2 zjq (eV 1) (eV 4)) (zab (eV 4) zah)))))
def zc9:SF:=(zcP (iD (eV 1)) (gN 4) zdb)
def zdf:EF:=(zjp 1 [1,3,5] (iD (eV 1)) (gN 0) za5 (eV 0) (zae ziI (zab (e2 zjq (eV 1) (eV 0)) (zab (eV 2) (zab (eV 3) zah)))))
def zda:SF:=(zaq (zaC (gN 3) (zae ziE (zab (eV 2) zah)))
  (zaq zc9
  (zaq (zaC (gN 5) (zae zlQ (zab (eV 3) zah)))
  (sIf (tB (e2 zwc (eV 5) (eC .none))) (zaq (zdd 1 zdf)
  (zcy 1 (zlo 1 (eV 5) (eV 3)))) sNx))))
def zc8:SF:=(zcP (iE (eV 0)) (gN 2) zda)
def zeo:SF:=(zaq (zdd 1 zfX)
  (zaq (znY 1 zc8)
  (zaw (eV 1))))
def zcL:List D->R D:=zaU false 1 6 zeo
def zbA:EF:=(zaW 1 [1] (iE (eV 0)) (gN 0) (FL.zcx (tE (zae zdJ (zab (eV 0) (zab (eV 1) zah))))) (eV 0))
def zcf:SF:=(zaw (ziY (e1 (zb7 "list") (eV 0)) (e2 eqD zbA (zbF zah))))
def zbv:List D->R D:=zaU false 2 2 zcf
def zbP:SF:=(zaq (zaC (gN 4) (e2 ixD (eV 2) (zae zcb (zab (eV 3) zah))))
  (zaC (gN 2) (zae zbL (zab (eV 2) (zab (zae zbm (zab (zae zeR (zab (eV 4) zah)) (zab (eV 3) zah))) zah)))))
def zcw:SF:=(zcP (iE (eV 0)) (gN 3) zbP)
def zdB:SF:=(zaq (zaC (gN 2) (e1 zfS (eV 1)))
  (zaq zcw
  (zaw (zae zcO (zab (eV 2) zah)))))
def zcM:List D->R D:=zaU false 2 5 zdB
def ze5:EF:=(zaW 1 [0] (iR1 (zab (eV 1) zah)) (gN 0) za5 (zal zbn [.m 1]))
def ze3:SF:=(zaq (zaC (gN 4) (zal zao [.m 0,.v (eC (.int 6))]))
  (zaq (zcy 5 (zdd 5 ze5))
  (zaq (sIf (FL.zfi (tB (e2 eqD (eV 4) (eC (.int 0)))) (tB (e2 gtD (m1 zbD 2) (eC (.int 1))))) (zaC (gN 5) (zae zbL (zab (zae zbm (zab (zal zbn [.m 0]) (zab (m2 ixD 2 (eC (.int 0))) zah))) (zab (m2 ixD 2 (e1 zkY (eC (.int 1)))) zah)))) (sIf (tB (e2 eqD (eV 4) (eC (.int 1)))) (zaC (gN 5) (e2 ixD (zbF (zab (zae zbi (zab (eV 1) zah)) (zab (e2 ixD (m2 zaY 2 (zbF (zab (eV 5) zah))) (eC (.int 0))) zah))) (zal zao [.m 0,.v (eC (.int 2))]))) sNx))
  (zre 2 zoH (e1 zfS (eV 5))))))
def ze1:SF:=(zcP (iR1 (zab (zal zao [.m 0,.v (eC (.int 5))]) zah)) (gN 3) ze3)
def zgV:SF:=(zaq (zdd 2 (zbF zah))
  (zaq ze1
  (zg4 2)))
def zbK:List D->R (D × List D):=run [true,false] true 6 zgV
def zdW:SF:=(sIf (FL.zcx (tE (zae ziG (zab (eV 3) (zab (eV 1) zah))))) znZ sNx)
def zdV:SF:=(zcP (zr7 (zab (eV 0) zah)) (gT [(gN 2),(gN 3)]) zdW)
def zf2:SF:=zdV
def zaI:List D->R D:=zaU false 2 4 zf2
def zfI:EF:=(zaW 1 [0,1] (iE (e2 zjq (eV 1) (eV 0))) (gN 0) za5 (zae zgF (zab (eV 0) (zab (e2 ixD (e2 zjq (eV 2) (eV 1)) (eV 1)) zah))))
def zfH:EF:=(zaW 1 [1] (iE (e1 zi9 (eV 1))) (gN 0) za5 zfI)
def zil:SF:=(zaq (zaC (gN 1) (zae zcL (zab (eV 0) zah)))
  (zbq zfH))
def zdI:List D->R D:=zaU true 1 2 zil
def zd0:EF:=(zaW 1 [1,2] (iR1 (zab (eV 1) zah)) (gN 0) (tB (e2 zu7 (eV 0) (eV 2))) (zae zg3 (zab (eV 2) (zab (eV 0) (zab (eV 1) zah)))))
def zf4:SF:=(zaq (zaC (gN 2) (zae zcL (zab (eV 0) zah)))
  (zbq (zae zdI (zab zd0 zah))))
def zbl:List D->R D:=zaU true 2 3 zf4
def znI:SF:=(zaq (sE (zae zaI (zab (eV 0) (zab (eV 1) zah))))
  (zbq (zae zdI (zab (eV 0) zah))))
def zez:List D->R D:=zaU true 2 2 znI
def zf3:SF:=(zaq (sE (zae zaI (zab (eV 0) (zab (eV 1) zah))))
  (zbq (zae zbl (zab (eV 0) (zab (eV 1) zah)))))
def zcm:List D->R D:=zaU true 2 2 zf3
def zhq:SF:=(zaq (sE (zae zaI (zab (eV 0) (zab (eV 2) zah))))
  (zaq (sE (zae zaI (zab (eV 1) (zab (eV 2) zah))))
  (zbq (zae zbl (zab (e2 zaY (zae zbl (zab (eV 0) (zab (eV 2) zah))) (zae zbl (zab (eV 1) (zab (eV 2) zah)))) (zab (eV 2) zah))))))
def zcW:List D->R D:=zaU true 3 3 zhq
def zhE:SF:=(zaC (gN 6) (zae zbL (zab (eV 6) (zab (zae zbm (zab (zal zbn [.m 2]) (zab (eV 7) zah))) zah))))
def zge:SF:=(zcP (iE (eV 4)) (gN 7) zhE)
def zhL:EF:=(zaW 1 [] (iE (eV 4)) (gN 0) za5 (e1 zfS (eV 0)))
def zgg:EF:=(zaW 1 [] (iE (eV 5)) (gN 0) za5 (e1 zfS (eV 0)))
def zhD:SF:=(sIf (FL.tOr (FL.zcx (tE (zae zbv (zab (eV 13) (zab (eV 3) zah))))) (FL.zcx (tE (zae zbw (zab (eV 13) zah))))) (zaw (eC (.bool false))) sNx)
def zhx:SF:=(zcP (iE (e2 zaY (eV 10) (zbF (zab (eV 11) (zab (eV 12) zah))))) (gN 13) zhD)
def zjP:EF:=(zaW 1 [6] (iE (eV 11)) (gN 0) (tB (e2 neD (e2 ixD (zae zc6 (zab (eV 0) (zab (eV 1) zah))) (eC (.int 0))) (eC (.int 0)))) (eV 0))
def zhC:SF:=(sIf (tB (e2 neD zjP (zbF zah))) (zaw (eC (.bool false))) sNx)
def zhw:SF:=(zcP (iE (eV 4)) (gN 6) zhC)
def zgf:EF:=(zaW 1 [10] (iE (eV 12)) (gN 0) (FL.tOr (FL.zcx (tE (zae zcM (zab (e2 ixD (eV 1) (eC (.int 0))) (zab (eV 0) zah))))) (FL.zcx (tE (zae zcM (zab (e2 ixD (eV 1) (eC (.int 1))) (zab (eV 0) zah)))))) (eV 0))
def zhB:SF:=(zaq (zdd 2 (zae zcX (zab (eV 1) (zab (eC (.int 4)) zah))))
  (zaq (zaC (gN 3) (zal zao [.m 2,.v (eC (.int 6))]))
  (zaq (zaC (gN 4) (zal zbK [.m 2,.v (eV 3)]))
  (zaq (zdd 5 (zal zbK [.m 2,.v (eV 3)]))
  (zaq (sIf (FL.zfi (tB (e2 neD (eV 4) (zbF zah))) (tB (e2 eqD (zal zao [.m 2,.v (eC (.int 2))]) (eC (.int 0))))) (zaq (zaC (gN 6) (zae zbi (zab (eV 3) zah)))
  (zaq zge
  (zu8 5 (zal zao [.m 2,.v (e2 zaY (m1 zbD 5) (eC (.int 1)))]) (eV 6)))) sNx)
  (zaq (zcy 8 (zdd 8 zhL))
  (zaq (znY 5 (zcy 9 (zdd 9 zgg)))
  (zaq (zaC (gN 10) (zbF (zab (zae zez (zab (eV 8) (zab (eV 3) zah))) (zab (zae zez (zab (eV 9) (zab (eV 3) zah))) zah))))
  (zaq (zaC (gN 11) (zae zcm (zab (eV 8) (zab (eV 3) zah))))
  (zaq (zaC (gN 12) (zae zcW (zab (eV 8) (zab (eV 9) (zab (eV 3) zah)))))
  (zaq zhx
  (zaq zhw
  (zaq (sIf (FL.tOr (tB (e2 neD (e2 zaY (e1 zbD (eV 11)) (e1 zbD (e2 ixD (eV 10) (eC (.int 0))))) (eV 3))) (tB (e2 neD (zae zcm (zab (eV 11) (zab (eV 3) zah))) (e2 ixD (eV 10) (eC (.int 0)))))) (zaw (eC (.bool false))) sNx)
  (zaq (sIf (tB (e2 neD zgf (zbF zah))) (zaw (eC (.bool false))) sNx)
  (zaq (sIf (tB (e2 neD (e2 zaY (e1 zbD (eV 12)) (e1 zbD (zae zez (zab (e2 zaY (eV 8) (eV 9)) (zab (eV 3) zah))))) (e2 zaY (e1 zbD (e2 ixD (eV 10) (eC (.int 0)))) (e1 zbD (e2 ixD (eV 10) (eC (.int 1))))))) (zaw (eC (.bool false))) sNx)
  (sIf (FL.tOr (tB (e2 neD (zae zcW (zab (eV 9) (zab (eV 8) (zab (eV 3) zah)))) (eV 12))) (FL.tOr (tB (e2 neD (eV 8) (eV 4))) (tB (e2 neD (eV 9) (eV 5))))) (zaw (eC (.bool false))) sNx))))))))))))))))
def zjE:SF:=(zcP (iE (e2 zaY (eSl (eV 0) zjY (zjX (eC (.int 2)))) (zbF (zab (zae zgc (zab (eV 0) (zab (eC (.int 2)) zah))) zah)))) (gN 1) zhB)
def zsA:SF:=(zaq zjE
  (zaw (eC (.bool true))))
def zq1:List D->R D:=zaU false 1 14 zsA
end K04
namespace K04
open PySem L2 PySem.Spec FL
open PyProof.Rows hiding St
def top (i:Nat):Stmt:=PySem.Challenge.pw_swaprest_k04_noughts_and_common.main.body.getD i (.Pass ⟨0,0,0,0⟩)
variable [Cs]
structure Cst (mg:Str->Option Value) (zch:Addr) (zi1:Addr):Prop where
  zj2:mg "NOUGHT"=some (.ref zch)
  v_NOUGHT:∃ o,Cs.C zch=some (.frz o (.tup [.int 0,.int 1]))
  zum:mg "ONE"=some (.ref zi1)
  v_ONE:∃ o,Cs.C zi1=some (.frz o (.tup [.int 1,.int 1]))
section
variable {P:Program} {w:World} {K:PySem.W.Frag} {mg:Str->Option Value} {base:Heap}
abbrev zjC:=CT "is_whole" 1 ["one"] 1 false zgE
abbrev za3:=CT "common_divisor" 1 ["one","other"] 2 false za4
abbrev zlH:=CT "lead_of" 1 ["whole"] 1 false zlQ
abbrev zeq:=CT "_law_mixed" 1 ["_law_cell","_law_k"] 2 false zeA
abbrev zlJ:=CT "_law_at" 1 ["_law_script","_law_k"] 2 false zgc
abbrev zdl:=CT "_law_low" 1 ["_law_top","_law_bottom"] 2 false zcD
abbrev zjD:=CT "_law_not" 1 ["_law_one"] 1 false zeR
abbrev zes:=CT "_law_is_whole" 1 ["_law_told"] 1 false zcN
abbrev zeu:=CT "_law_blank" 1 ["_law_width"] 1 true zbi
abbrev zet:=CT "_law_is_blank" 1 ["_law_row"] 1 false zcO
abbrev zfs:=CT "_law_lead" 1 ["_law_row"] 1 false zcb
abbrev ziu:=CT "is_number" 2 ["one"] 1 false ziH
abbrev zgB:=CT "fraction" 2 ["top","bottom"] 2 false zgF
abbrev zis:=CT "thinned" 2 ["wholes"] 1 false ziF
abbrev zgZ:=CT "_law_purse" 2 ["_law_cell","_law_k"] 2 true zcX
abbrev zdF:=CTM "_law_take" 2 ["_law_purse_here","_law_many"] [true,false] false zao
abbrev zfr:=CT "_law_plus" 2 ["_law_one","_law_other"] 2 false zfu
abbrev ziw:=CT "_law_by" 2 ["_law_one","_law_other"] 2 false ziJ
abbrev zdS:=CT "_law_is_number" 2 ["_law_told"] 1 false zdT
abbrev zfh:=CT "_law_is_kept" 2 ["_law_rows"] 1 false zbw
abbrev znN:=CT "is_row" 3 ["row"] 1 false znQ
abbrev zir:=CT "whole_row" 3 ["row"] 1 false ziE
abbrev zlI:=CT "cleared" 3 ["whole","other","place"] 3 false ziI
abbrev zgY:=CT "nought_row" 3 ["held","free","width"] 3 true zg3
abbrev zdG:=CTM "_law_number" 3 ["_law_purse_here"] [true] false zbn
abbrev zf9:=CT "_law_is_row" 3 ["_law_told","_law_width"] 2 false zdJ
abbrev zcV:=CT "_law_added" 3 ["_law_one","_law_other"] 2 true zbL
abbrev zcB:=CT "_law_scaled" 3 ["_law_number_here","_law_row"] 2 true zbm
abbrev zff:=CT "_law_pairing" 3 ["_law_one","_law_other"] 2 false zc6
abbrev zit:=CT "is_row_of" 4 ["row","width"] 2 false ziG
abbrev zcJ:=CT "rows_by_leads" 4 ["rows"] 1 false zcL
abbrev zfg:=CT "_law_is_rows" 4 ["_law_told","_law_width"] 2 false zbv
abbrev ziv:=CT "_law_lies" 4 ["_law_rows","_law_row"] 2 false zcM
abbrev zg0:=CTM "_law_drawn" 4 ["_law_purse_here","_law_width"] [true,false] true zbK
abbrev zcA:=CT "refuse_rows" 5 ["rows","width"] 2 false zaI
abbrev zfq:=CT "kept_rows" 5 ["rows"] 1 true zdI
abbrev zdE:=CT "nought_rows" 6 ["rows","width"] 2 true zbl
abbrev ztr:=CT "kept" 6 ["rows","width"] 2 true zez
abbrev zlG:=CT "noughts" 7 ["rows","width"] 2 true zcm
abbrev znO:=CT "common" 7 ["one","other","width"] 3 true zcW
variable {zch:Addr} {zi1:Addr} (B:Blt mg) (C:Cst mg zch zi1)
include B C
theorem zok (h:Has K mg "is_whole" (top 7)):zjC P w K mg base:=fnP ["one"] h fun hr nd=>by
  unfold zjz
  exact (zaJ (zje (zjU zpQ B.zaD B.zpF Bt.int (zac 0)) (zjd (zsR (zjU znn B.zaD B.zk2 Bt.bool (zac 0))))))
theorem zg6 (h:Has K mg "common_divisor" (top 8)):za3 P w K mg base:=fnP ["one","other","high","low"] h fun hr nd=>by
  unfold zdQ zcS
  exact (zag (zpf 2 3 nd (zdU zuZ B.zn9 Bt.abs (zac 0)) (zdU zuZ B.zn9 Bt.abs (zac 1)))
      (zag (zkP (zdY 3) PassesOwn.never (zaA (ziL hr) (zac 3) zaf) (zar (zpf 2 3 nd (zac 3) (zau zmc (zac 2) (zac 3)))))
      (zaJ (zac 2))))
theorem zpX (h:Has K mg "lead_of" (top 17)):zlH P w K mg base:=fnP ["whole","place","one"] h fun hr nd=>by
  unfold zlB zhv zhA
  exact (zag (zck (zhg rfl B.zbC (a1 (zac 0))) (zd3 rfl (zaK (g_n 1 nd) (zaK (g_n 2 nd) zcT))) (zar (zaQ (zaA (ziL hr) (zac 2) zaf) (zaJ (zac 1)) zaB)))
      (zaJ zsS))
theorem zla (h:Has K mg "_law_mixed" (top 27)):zeq P w K mg base:=fnP ["_law_cell","_law_k","_law_number_here"] h fun hr nd=>by
  unfold zgU
  exact (zag (zaN 2 nd (zau zb5 (zau zb5 (zau zdp (zau zb5 (zau zmc (zac 0) (zau zb5 (zau zkV zaf zaf) zaf)) (zau zdp zaf (zac 1))) zaf) (zau zdp zaf (zac 1))) zaf))
      (zag (zaN 2 nd (zau zmc (zau zdp (zac 2) (zac 2)) (zau zb5 (zau zkV zaf zaf) zaf)))
      (zaJ (zau zmc (zau zdp (zau zb5 (zac 2) zaf) (zau zb5 (zac 2) zaf)) (zau zb5 (zau zkV zaf zaf) zaf)))))
theorem zp0 (h:Has K mg "_law_at" (top 30)):zlJ P w K mg base:=fnP ["_law_script","_law_k"] h fun hr nd=>by
  unfold zlE
  exact (zag (zaQ (zaA (zu5 hr) (zac 1) (zdU zeY B.zdq Bt.len (zac 0))) (zaJ (zaG zbO (zac 0) (zac 1))) zaB)
      (zaJ (zau zb5 (zau zdp zaf (zac 1)) zaf)))
theorem zon (h:Has K mg "_law_low" (top 31)):zdl P w K mg base:=fnP ["_law_top","_law_bottom","_law_one","_law_other"] h fun hr nd=>by
  unfold zjB zgH
  exact (zag (zaN 2 nd (zdU zuZ B.zn9 Bt.abs (zac 0)))
      (zag (zaN 3 nd (zac 1))
      (zag (zkP (zdY 3) PassesOwn.never (zaA (ziL hr) (zac 3) zaf) (zar (zpf 2 3 nd (zac 3) (zau zmc (zac 2) (zac 3)))))
      (zaJ (zfL (a2 (zau (zgK hr) (zac 0) (zac 2)) (zau (zgK hr) (zac 1) (zac 2))))))))
theorem zom (h:Has K mg "_law_not" (top 34)):zjD P w K mg base:=fnP ["_law_one"] h fun hr nd=>by
  unfold zeM
  exact (zaJ (zfL (a2 (zau zmb zaf (zaG zbO (zac 0) zaf)) (zaG zbO (zac 0) zaf))))
theorem zhY (h:Has K mg "_law_is_whole" (top 36)):zes P w K mg base:=fnP ["_law_told"] h fun hr nd=>by
  unfold zep
  exact (zaJ (zje (zjU zpQ B.zaD B.zpF Bt.int (zac 0)) (zjd (zsR (zjU znn B.zaD B.zk2 Bt.bool (zac 0))))))
theorem zlc (h:Has K mg "_law_blank" (top 44)):zeu P w K mg base:=fnP ["_law_width"] h fun hr nd=>by
  unfold zgW ze6
  exact (zar (zcc (cp ["_law_place"] [] ["_law_place"] (zdg rfl B.zd6 (a1 (zac 0))) (fun nd=>(g_n 0 nd)) zba (zfL (a2 zaf zaf)))))
theorem zhZ (h:Has K mg "_law_is_blank" (top 45)):zet P w K mg base:=fnP ["_law_row"] h fun hr nd=>by
  unfold zb2 zbj
  exact (zaJ (zl8 (zm1 hr) (PVN.pv (cp ["_law_one"] [] ["_law_one"] (zaR (zac 0)) (fun nd=>(g_n 0 nd)) (zeF (zaA (ziL hr) (zaG zbO (zac 0) zaf) zaf)) (zac 0))) (PVN.pv (zbB zd4))))
theorem zmu (h:Has K mg "_law_lead" (top 46)):zfs P w K mg base:=fnP ["_law_row","_law_place","_law_one"] h fun hr nd=>by
  unfold zdC zdm zaZ
  exact (zag (zck (zhg rfl B.zbC (a1 (zac 0))) (zd3 rfl (zaK (g_n 1 nd) (zaK (g_n 2 nd) zcT))) (zar (zaQ (zaA (ziL hr) (zaG zbO (zac 2) zaf) zaf) (zaJ (zac 1)) zaB)))
      (zaJ (zdU zeY B.zdq Bt.len (zac 0))))
theorem zmq (h:Has K mg "is_number" (top 9)) (c_common_divisor:za3 P w K mg base) (c_is_whole:zjC P w K mg base):ziu P w K mg base:=fnP ["one","top","bottom"] h fun hr nd=>by
  unfold zin
  exact (zag (zaQ (PVW.pvt (zdN (zbS (zbR zfB (zjU kit_tuple B.zaD B.zhQ Bt.tuple (zac 0)))) (zcY (zaA (ziL hr) (zdU zeY B.zdq Bt.len (zac 0)) zaf)))) (zaJ zeT) zaB)
      (zag (ztO (zac 0) (zd3 rfl (zaK (g_n 1 nd) (zaK (g_n 2 nd) zcT))))
      (zag (zaQ (PVW.pvt (zdN (zbS (zbR zfB (zaO c_is_whole hr (a1 (zac 1))))) (zdN (zbS (zbR zfB (zaO c_is_whole hr (a1 (zac 2))))) (zcY (zaA (zu5 hr) (zac 2) zaf))))) (zaJ zeT) zaB)
      (zaJ (zl8 (zm1 hr) (zaO c_common_divisor hr (a2 (zac 1) (zac 2))) zaf)))))
theorem zol (h:Has K mg "fraction" (top 10)) (c_common_divisor:za3 P w K mg base):zgB P w K mg base:=fnP ["top","bottom","shared"] h fun hr nd=>by
  unfold zjA
  exact (zag (zaQ (zaA (zm1 hr) (zac 1) zaf) (zar zkQ) zaB)
      (zag (zaN 2 nd (zaO c_common_divisor hr (a2 (zac 0) (zac 1))))
      (zag (zaQ (zaA (zu5 hr) (zac 1) zaf) (zar (zaN 2 nd (zrt zrf (zac 2)))) zaB)
      (zaJ (zfL (a2 (zau (zgK hr) (zac 0) (zac 2)) (zau (zgK hr) (zac 1) (zac 2))))))))
theorem zpV (h:Has K mg "thinned" (top 15)) (c_common_divisor:za3 P w K mg base):zis P w K mg base:=fnP ["wholes","shared","one"] h fun hr nd=>by
  unfold zlA zhK zhu zhz
  exact (zag (zaN 1 nd zaf)
      (zag (zck (zaR (zac 0)) (g_n 2 nd) (zag (zaN 1 nd (zaO c_common_divisor hr (a2 (zac 1) (zac 2))))
      (zar (zaQ (zaA (zm1 hr) (zac 1) zaf) (zar zpi) zaB))))
      (zag (zaQ (zaA (zm1 hr) (zac 1) zaf) (zaJ (zac 0)) zaB)
      (zaJ (PVN.pv (cp ["one"] [1] ["one","shared"] (zaR (zac 0)) (fun nd=>(g_n 0 nd)) zba (zau (zgK hr) (zac 0) (zac 1))))))))
theorem zk9 (h:Has K mg "_law_purse" (top 28)) (c__law_mixed:zeq P w K mg base):zgZ P w K mg base:=fnP ["_law_cell","_law_k"] h fun hr nd=>by
  unfold zgT
  exact (zag (zaQ (zaA (zyf hr) (zac 0) (zau zkV zaf zaf)) (zar (zcc (zbB (a3 (zau zmb (zac 0) (zau zkV zaf zaf)) zaf (zac 1))))) zaB)
      (zar (zcc (zbB (a3 (zaO c__law_mixed hr (a2 (zac 0) (zac 1))) zaf (zau zb5 (zau zmc (zac 0) (zau zb5 (zau zkV zaf zaf) zaf)) (zac 1)))))))
theorem zmr (h:Has K mg "_law_take" (top 29)) (c__law_mixed:zeq P w K mg base):zdF P w K mg base:=fnM [true,false] ["_law_purse_here","_law_many","_law_got"] h fun hr nd=>by
  unfold zio
  exact (zag (zaQ (zaA (zu5 hr) (zjT 0 zbO zaf) (zac 1)) (zag (zfK 0 (pv 0) (zau zb5 (zjT 0 zbO zaf) zaf) zaf)
      (zar (zfK 0 (pv 0) (zau zb5 (zjT 0 zbO zaf) (zau zdp (zac 1) (zaO c__law_mixed hr (a2 (zjT 0 zbO zaf) (zau zb5 (zau zdp zaf (zjT 0 zbO zaf)) zaf))))) zaf))) zaB)
      (zag (zaN 2 nd (zau zmc (zjT 0 zbO zaf) (zac 1)))
      (zag (zfK 0 (pv 0) (zau (zgK hr) (zjT 0 zbO zaf) (zac 1)) zaf)
      (zaJ (zac 2)))))
theorem zms (h:Has K mg "_law_plus" (top 32)) (c__law_low:zdl P w K mg base):zfr P w K mg base:=fnP ["_law_one","_law_other"] h fun hr nd=>by
  unfold ziq
  exact (zaJ (zaO c__law_low hr (a2 (zau zb5 (zau zdp (zaG zbO (zac 0) zaf) (zaG zbO (zac 1) zaf)) (zau zdp (zaG zbO (zac 1) zaf) (zaG zbO (zac 0) zaf))) (zau zdp (zaG zbO (zac 0) zaf) (zaG zbO (zac 1) zaf)))))
theorem zpZ (h:Has K mg "_law_by" (top 33)) (c__law_low:zdl P w K mg base):ziw P w K mg base:=fnP ["_law_one","_law_other"] h fun hr nd=>by
  unfold zlD
  exact (zaJ (zaO c__law_low hr (a2 (zau zdp (zaG zbO (zac 0) zaf) (zaG zbO (zac 1) zaf)) (zau zdp (zaG zbO (zac 0) zaf) (zaG zbO (zac 1) zaf)))))
theorem zg7 (h:Has K mg "_law_is_number" (top 37)) (c__law_is_whole:zes P w K mg base) (c__law_low:zdl P w K mg base):zdS P w K mg base:=fnP ["_law_told"] h fun hr nd=>by
  unfold zdR
  exact (zag (zaQ (PVW.pvt (zdN (zbS (zbR zfB (zjU kit_tuple B.zaD B.zhQ Bt.tuple (zac 0)))) (zcY (zaA (ziL hr) (zdU zeY B.zdq Bt.len (zac 0)) zaf)))) (zaJ zeT) zaB)
      (zag (zaQ (PVW.pvt (zdN (zbS (zbR zfB (zaO c__law_is_whole hr (a1 (zaG zbO (zac 0) zaf))))) (zcY (zbS (zbR zfB (zaO c__law_is_whole hr (a1 (zaG zbO (zac 0) zaf)))))))) (zaJ zeT) zaB)
      (zaJ (zje (zl8 (zyf hr) (zaG zbO (zac 0) zaf) zaf) (zjd (zl8 (zm1 hr) (zaO c__law_low hr (a2 (zaG zbO (zac 0) zaf) (zaG zbO (zac 0) zaf))) (zac 0)))))))
theorem ziW (h:Has K mg "_law_is_kept" (top 47)) (c__law_lead:zfs P w K mg base):zfh P w K mg base:=fnP ["_law_rows","_law_places","_law_at_here","_law_row","_law_other"] h fun hr nd=>by
  unfold zcg zbx zbz zby za0 za1
  exact (zag (zfJ 1 (cpS 1 ["_law_row"] [] ["_law_row"] nd (zaR (zac 0)) (fun nd=>(g_n 0 nd)) zba (zaO c__law_lead hr (a1 (zac 0)))))
      (zag (zck (zhg rfl B.zbC (a1 (zac 0))) (zd3 rfl (zaK (g_n 2 nd) (zaK (g_n 3 nd) zcT))) (zag (zaQ (PVW.pvt (zdN (zaA (zm1 hr) (zaG zbO (zac 1) (zac 2)) (zdU zeY B.zdq Bt.len (zac 3))) (zcY (zaA (ziL hr) (zaG zbO (zac 3) (zaG zbO (zac 1) (zac 2))) (zfL (a2 zaf zaf)))))) (zaJ zeT) zaB)
      (zag (zaQ (PVW.pvt (zjQ (zaA (zye hr) (zac 2) zaf) (zhe (zaA (zyO hr) (zaG zbO (zac 1) (zac 2)) (zaG zbO (zac 1) (zau zmb (zac 2) zaf)))))) (zaJ zeT) zaB)
      (zar (zck (zdg rfl B.zd6 (a1 (zdU zeY B.zdq Bt.len (zac 0)))) (g_n 4 nd) (zar (zaQ (PVW.pvt (zjQ (zaA (ziL hr) (zac 4) (zac 2)) (zhe (zaA (ziL hr) (zaG zbO (zaG zbO (zaG zbO (zac 0) (zac 4)) (zaG zbO (zac 1) (zac 2))) zaf) zaf)))) (zaJ zeT) zaB)))))))
      (zaJ zeT)))
theorem zr3 (h:Has K mg "is_row" (top 12)) (c_is_number:ziu P w K mg base):znN P w K mg base:=fnP ["row"] h fun hr nd=>by
  unfold znJ zjb
  exact (zaJ (zje (zjU zj9 B.zaD B.ze8 Bt.list (zac 0)) (zjd (zdU (zx2 rfl) B.zrS Bt.all (PVN.pv (cp ["one"] [] ["one"] (zaR (zac 0)) (fun nd=>(g_n 0 nd)) zba (zaO c_is_number hr (a1 (zac 0)))))))))
theorem zmn (h:Has K mg "whole_row" (top 16)) (c_thinned:zis P w K mg base) (c_common_divisor:za3 P w K mg base):zir P w K mg base:=fnP ["row","shared","one"] h fun hr nd=>by
  unfold zij zfG zfy zfC
  exact (zag (zaN 1 nd zaf)
      (zag (zck (zaR (zac 0)) (g_n 2 nd) (zar (zaN 1 nd (zau zdp (zau (zgK hr) (zac 1) (zaO c_common_divisor hr (a2 (zac 1) (zaG zbO (zac 2) zaf)))) (zaG zbO (zac 2) zaf)))))
      (zaJ (zaO c_thinned hr (a1 (PVN.pv (cp ["one"] [1] ["one","shared"] (zaR (zac 0)) (fun nd=>(g_n 0 nd)) zba (zau zdp (zaG zbO (zac 0) zaf) (zau (zgK hr) (zac 1) (zaG zbO (zac 0) zaf))))))))))
theorem zpY (h:Has K mg "cleared" (top 18)) (c_thinned:zis P w K mg base):zlI P w K mg base:=fnP ["whole","other","place"] h fun hr nd=>by
  unfold zlC zhM
  exact (zag (zaQ (zaA (zm1 hr) (zaG zbO (zac 0) (zac 2)) zaf) (zaJ (zac 0)) zaB)
      (zaJ (zaO c_thinned hr (a1 (PVN.pv (cp ["mine","its"] [0,1,2] ["mine","its","whole","other","place"] (zl6 rfl B.zn8 (a2 (zac 0) (zac 1))) (fun nd=>(zd3 rfl (zaK (g_n 0 nd) (zaK (g_n 1 nd) zcT)))) zba (zau zmb (zau zdp (zaG zbO (zac 3) (zac 4)) (zac 0)) (zau zdp (zaG zbO (zac 2) (zac 4)) (zac 1)))))))))
theorem zk8 (h:Has K mg "nought_row" (top 21)) (c_fraction:zgB P w K mg base):zgY P w K mg base:=fnP ["held","free","width","row","lead"] h fun hr nd=>by
  unfold zgS ze0 ze2
  exact (zag (zjc 3 nd (ztP (zsT rfl C.zj2 C.v_NOUGHT (fun _=>by simp [zaj,Fz])) (zac 2)))
      (zag (zfK 3 (pv 3) (zsT rfl C.zum C.v_ONE (fun _=>by simp [zaj,Fz])) (zac 1))
      (zag (zck (zjR (zac 0)) (g_n 4 nd) (zar (zfK 3 (pv 3) (zaO c_fraction hr (a2 (zrt zrf (zaG zbO (zaG (zu6 hr) (zac 0) (zac 4)) (zac 1))) (zaG zbO (zaG (zu6 hr) (zac 0) (zac 4)) (zac 4)))) (zac 4))))
      (zar (zm2 3 (pv 3))))))
theorem zkd (h:Has K mg "_law_number" (top 35)) (c__law_take:zdF P w K mg base) (c__law_low:zdl P w K mg base):zdG P w K mg base:=fnM [true] ["_law_purse_here","_law_way"] h fun hr nd=>by
  unfold zf6
  exact (zag (zaN 1 nd (zfM c__law_take hr (zlU 0 (zdh zaf zaX))))
      (zag (zaQ (zaA (zu5 hr) (zac 1) zaf) (zaJ (zaG zbO (PVN.pv (zbB (a3 (zfL (a2 zaf zaf)) (zfL (a2 zaf zaf)) (zfL (a2 (zrt zrf zaf) zaf))))) (zac 1))) zaB)
      (zag (zaQ (zaA (zu5 hr) (zac 1) zaf) (zaJ (zaO c__law_low hr (a2 (zau zmb (zfM c__law_take hr (zlU 0 (zdh zaf zaX))) zaf) (zau zb5 zaf (zau zdp (zfM c__law_take hr (zlU 0 (zdh zaf zaX))) (zau zmb (zac 1) zaf)))))) zaB)
      (zaJ (zaO c__law_low hr (a2 (zau zmb (zfM c__law_take hr (zlU 0 (zdh (zau zb5 (zau zdp zaf (zau zkV zaf zaf)) zaf) zaX))) (zau zkV zaf zaf)) (zau zb5 zaf (zfM c__law_take hr (zlU 0 (zdh zaf zaX))))))))))
theorem zke (h:Has K mg "_law_is_row" (top 38)) (c__law_is_number:zdS P w K mg base):zf9 P w K mg base:=fnP ["_law_told","_law_width"] h fun hr nd=>by
  unfold zf7 zd2
  exact (zag (zaQ (PVW.pvt (zdN (zbS (zbR zfB (zjU zj9 B.zaD B.ze8 Bt.list (zac 0)))) (zcY (zaA (ziL hr) (zdU zeY B.zdq Bt.len (zac 0)) (zac 1))))) (zaJ zeT) zaB)
      (zaJ (zl8 (zm1 hr) (PVN.pv (cp ["_law_one"] [] ["_law_one"] (zaR (zac 0)) (fun nd=>(g_n 0 nd)) (zeF (zbS (zbR zfB (zaO c__law_is_number hr (a1 (zac 0)))))) (zac 0))) (PVN.pv (zbB zd4)))))
theorem zld (h:Has K mg "_law_added" (top 40)) (c__law_plus:zfr P w K mg base):zcV P w K mg base:=fnP ["_law_one","_law_other"] h fun hr nd=>by
  unfold zgX ze7
  exact (zar (zcc (cp ["_law_a","_law_b"] [] ["_law_a","_law_b"] (zl6 rfl B.zn8 (a2 (zac 0) (zac 1))) (fun nd=>(zd3 rfl (zaK (g_n 0 nd) (zaK (g_n 1 nd) zcT)))) zba (zaO c__law_plus hr (a2 (zac 0) (zac 1))))))
theorem zkc (h:Has K mg "_law_scaled" (top 41)) (c__law_by:ziw P w K mg base):zcB P w K mg base:=fnP ["_law_number_here","_law_row"] h fun hr nd=>by
  unfold zf5 zd1
  exact (zar (zcc (cp ["_law_one"] [0] ["_law_one","_law_number_here"] (zaR (zac 1)) (fun nd=>(g_n 0 nd)) zba (zaO c__law_by hr (a2 (zac 1) (zac 0))))))
theorem ziU (h:Has K mg "_law_pairing" (top 42)) (c__law_plus:zfr P w K mg base) (c__law_by:ziw P w K mg base):zff P w K mg base:=fnP ["_law_one","_law_other","_law_total","_law_a","_law_b"] h fun hr nd=>by
  unfold zfe zdK zdL
  exact (zag (zaN 2 nd (zfL (a2 zaf zaf)))
      (zag (zck (zl6 rfl B.zn8 (a2 (zac 0) (zac 1))) (zd3 rfl (zaK (g_n 3 nd) (zaK (g_n 4 nd) zcT))) (zar (zaN 2 nd (zaO c__law_plus hr (a2 (zac 2) (zaO c__law_by hr (a2 (zac 3) (zac 4))))))))
      (zaJ (zac 2))))
theorem zmp (h:Has K mg "is_row_of" (top 13)) (c_is_row:znN P w K mg base):zit P w K mg base:=fnP ["row","width"] h fun hr nd=>by
  unfold zim
  exact (zaJ (zje (zaO c_is_row hr (a1 (zac 0))) (zjd (zl8 (zm1 hr) (zdU zeY B.zdq Bt.len (zac 0)) (zac 1)))))
theorem zhX (h:Has K mg "rows_by_leads" (top 19)) (c_whole_row:zir P w K mg base) (c_lead_of:zlH P w K mg base) (c_cleared:zlI P w K mg base):zcJ P w K mg base:=fnP ["rows","held","row","whole","place","lead"] h fun hr nd=>by
  unfold zeo zc8 zda zdf zc9 zdb
  exact (zag (zjc 1 nd zpj)
      (zag (zph 1 (zck (zaR (zac 0)) (g_n 2 nd) (zag (zaN 3 nd (zaO c_whole_row hr (a1 (zac 2))))
      (zag (zck (zjR (zac 1)) (g_n 4 nd) (zar (zaN 3 nd (zaO c_cleared hr (a3 (zac 3) (zaG (zu6 hr) (zac 1) (zac 4)) (zac 4))))))
      (zag (zaN 5 nd (zaO c_lead_of hr (a1 (zac 3))))
      (zar (zaQ (zaA zv7 (zac 5) zsS) (zag (zjc 1 nd (dcp ["at"] [1,3,5] ["at","held","whole","lead"] hr (zjR (zac 1)) (fun nd=>(g_n 0 nd)) zba (zac 0) (zaO c_cleared hr (a3 (zaG (zu6 hr) (zac 1) (zac 0)) (zac 2) (zac 3)))))
      (zar (zfJ 1 (zrn 1 (zmV hr) (pv 1) (zac 3) (zac 5))))) zaB)))))))
      (zaJ (zac 1))))
theorem ziV (h:Has K mg "_law_is_rows" (top 39)) (c__law_is_row:zf9 P w K mg base):zfg P w K mg base:=fnP ["_law_told","_law_width"] h fun hr nd=>by
  unfold zcf zbA
  exact (zaJ (zje (zjU zj9 B.zaD B.ze8 Bt.list (zac 0)) (zjd (zl8 (zm1 hr) (PVN.pv (cp ["_law_row"] [1] ["_law_row","_law_width"] (zaR (zac 0)) (fun nd=>(g_n 0 nd)) (zeF (zbS (zbR zfB (zaO c__law_is_row hr (a2 (zac 0) (zac 1)))))) (zac 0))) (PVN.pv (zbB zd4))))))
theorem zmt (h:Has K mg "_law_lies" (top 48)) (c__law_is_blank:zet P w K mg base) (c__law_added:zcV P w K mg base) (c__law_lead:zfs P w K mg base) (c__law_scaled:zcB P w K mg base) (c__law_not:zjD P w K mg base):ziv P w K mg base:=fnP ["_law_rows","_law_row","_law_rest","_law_one","_law_much"] h fun hr nd=>by
  unfold zdB zcw zbP
  exact (zag (zaN 2 nd (zru znC B.ze8 Bt.list (zac 1)))
      (zag (zck (zaR (zac 0)) (g_n 3 nd) (zag (zaN 4 nd (zaG zbO (zac 2) (zaO c__law_lead hr (a1 (zac 3)))))
      (zar (zaN 2 nd (PVN.pv (zbf c__law_added hr (a2 (zac 2) (PVN.pv (zbf c__law_scaled hr (a2 (zaO c__law_not hr (a1 (zac 4))) (zac 3)))))))))))
      (zaJ (zaO c__law_is_blank hr (a1 (zac 2))))))
theorem zlb (h:Has K mg "_law_drawn" (top 49)) (c__law_take:zdF P w K mg base) (c__law_number:zdG P w K mg base) (c__law_added:zcV P w K mg base) (c__law_scaled:zcB P w K mg base) (c__law_blank:zeu P w K mg base):zg0 P w K mg base:=fnM [true,false] ["_law_purse_here","_law_width","_law_rows","_law_k","_law_way","_law_row"] h fun hr nd=>by
  unfold zgV ze1 ze3 ze5
  exact (zag (zjc 2 nd (zbB zd4))
      (zag (zck (zdg rfl B.zd6 (a1 (zfM c__law_take hr (zlU 0 (zdh zaf zaX))))) (g_n 3 nd) (zag (zaN 4 nd (zfM c__law_take hr (zlU 0 (zdh zaf zaX))))
      (zag (zfJ 5 (cpS 5 ["_law_place"] [0] ["_law_place","_law_purse_here"] nd (zdg rfl B.zd6 (a1 (zac 1))) (fun nd=>(g_n 0 nd)) zba (zfM c__law_number hr (zlU 1 zaX))))
      (zag (zaQ (PVW.pvt (zjQ (zaA (zm1 hr) (zac 4) zaf) (zhe (zaA (zye hr) (zvC 2 zeY B.zdq Bt.len) zaf)))) (zar (zaN 5 nd (PVN.pv (zbf c__law_added hr (a2 (PVN.pv (zbf c__law_scaled hr (a2 (zfM c__law_number hr (zlU 0 zaX)) (zjT 2 zbO zaf)))) (zjT 2 zbO (zrt zrf zaf))))))) (zar (zaQ (zaA (zm1 hr) (zac 4) zaf) (zar (zaN 5 nd (zaG zbO (PVN.pv (zbB (a2 (PVN.pv (zbf c__law_blank hr (a1 (zac 1)))) (zaG zbO (zxt 2 zb5 (PVN.pv (zbB (a1 (zac 5))))) zaf)))) (zfM c__law_take hr (zlU 0 (zdh zaf zaX)))))) zaB)))
      (zar (zn2 2 rfl (pv 2) (zru znC B.ze8 Bt.list (zac 5))))))))
      (zar (zm2 2 (pv 2)))))
theorem zka (h:Has K mg "refuse_rows" (top 14)) (c_is_row_of:zit P w K mg base):zcA P w K mg base:=fnP ["rows","width","place","row"] h fun hr nd=>by
  unfold zf2 zdV zdW
  exact (zar (zck (zhg rfl B.zbC (a1 (zac 0))) (zd3 rfl (zaK (g_n 2 nd) (zaK (g_n 3 nd) zcT))) (zar (zaQ (zbS (zbR zfB (zaO c_is_row_of hr (a2 (zac 3) (zac 1))))) (zar zkQ) zaB))))
theorem zmo (h:Has K mg "kept_rows" (top 20)) (c_rows_by_leads:zcJ P w K mg base) (c_fraction:zgB P w K mg base):zfq P w K mg base:=fnP ["rows","held"] h fun hr nd=>by
  unfold zil zfH zfI
  exact (zag (zaN 1 nd (zaO c_rows_by_leads hr (a1 (zac 0))))
      (zar (zcc (cp ["lead"] [1] ["lead","held"] (zaR (zl7 (zm3 (zuY rfl) rfl B.zj0 Bt.sorted (a1 (zac 1))))) (fun nd=>(g_n 0 nd)) zba (PVN.pv (cp ["one"] [0,1] ["one","lead","held"] (zaR (zaG (zu6 hr) (zac 1) (zac 0))) (fun nd=>(g_n 0 nd)) zba (zaO c_fraction hr (a2 (zac 0) (zaG zbO (zaG (zu6 hr) (zac 2) (zac 1)) (zac 1))))))))))
theorem zkb (h:Has K mg "nought_rows" (top 22)) (c_rows_by_leads:zcJ P w K mg base) (c_kept_rows:zfq P w K mg base) (c_nought_row:zgY P w K mg base):zdE P w K mg base:=fnP ["rows","width","held"] h fun hr nd=>by
  unfold zf4 zd0
  exact (zag (zaN 2 nd (zaO c_rows_by_leads hr (a1 (zac 0))))
      (zar (zcc (zbf c_kept_rows hr (a1 (PVN.pv (cp ["free"] [1,2] ["free","width","held"] (zdg rfl B.zd6 (a1 (zac 1))) (fun nd=>(g_n 0 nd)) (zeF (zaA (zvy hr) (zac 0) (zac 2))) (PVN.pv (zbf c_nought_row hr (a3 (zac 2) (zac 0) (zac 1)))))))))))
theorem zwv (h:Has K mg "kept" (top 23)) (c_refuse_rows:zcA P w K mg base) (c_kept_rows:zfq P w K mg base):ztr P w K mg base:=fnP ["rows","width"] h fun hr nd=>by
  unfold znI
  exact (zag (zhf (zaO c_refuse_rows hr (a2 (zac 0) (zac 1))))
      (zar (zcc (zbf c_kept_rows hr (a1 (zac 0))))))
theorem zpW (h:Has K mg "noughts" (top 24)) (c_refuse_rows:zcA P w K mg base) (c_nought_rows:zdE P w K mg base):zlG P w K mg base:=fnP ["rows","width"] h fun hr nd=>by
  unfold zf3
  exact (zag (zhf (zaO c_refuse_rows hr (a2 (zac 0) (zac 1))))
      (zar (zcc (zbf c_nought_rows hr (a2 (zac 0) (zac 1))))))
theorem zr4 (h:Has K mg "common" (top 25)) (c_refuse_rows:zcA P w K mg base) (c_nought_rows:zdE P w K mg base):znO P w K mg base:=fnP ["one","other","width"] h fun hr nd=>by
  unfold zhq
  exact (zag (zhf (zaO c_refuse_rows hr (a2 (zac 0) (zac 2))))
      (zag (zhf (zaO c_refuse_rows hr (a2 (zac 1) (zac 2))))
      (zar (zcc (zbf c_nought_rows hr (a2 (zau zb5 (PVN.pv (zbf c_nought_rows hr (a2 (zac 0) (zac 2)))) (PVN.pv (zbf c_nought_rows hr (a2 (zac 1) (zac 2))))) (zac 2)))))))
set_option maxHeartbeats 0 in
theorem zxN {fa:Addr} {fd:FuncData} (h:Fun K "law" "law" (top 50) fa fd) (c__law_purse:zgZ P w K mg base) (c__law_take:zdF P w K mg base) (c__law_drawn:zg0 P w K mg base) (c_noughts:zlG P w K mg base) (c_common:znO P w K mg base) (c__law_at:zlJ P w K mg base) (c__law_blank:zeu P w K mg base) (c_kept:ztr P w K mg base) (c__law_added:zcV P w K mg base) (c__law_scaled:zcB P w K mg base) (c__law_is_rows:zfg P w K mg base) (c__law_is_kept:zfh P w K mg base) (c__law_number:zdG P w K mg base) (c__law_lies:ziv P w K mg base) (c__law_pairing:zff P w K mg base):zkB P w K mg base (CXe P w) 8 fa fd ["_law_script"] (spP K 1 false zq1):=by
  have S:zey ["_law_script","_law_cell","_law_purse_here","_law_width","_law_one","_law_other","_law_row","_law_each","_law_first","_law_second","_law_rooms","_law_tests","_law_shared","_law_told"] ["_law_script"] (zaz (top 50)):=⟨rfl,rfl,rfl,by decide +kernel,rfl,by decide +kernel,by decide +kernel⟩
  refine zkB.pure (zqs (List.replicate 1 false) false h S rfl (by decide) fun cdv A outer s H E hr=>?_)
  have nd:=S.nd
  refine zpg ?_
  unfold zsA zjE zhB zgf zhw zhC zjP zhx zhD zgg zhL zge zhE
  exact (zag (zck (zaR (zau zb5 (zrv zxn (zac 0) zrp (zro zaf)) (PVN.pv (zbB (a1 (zaO c__law_at hr (a2 (zac 0) zaf))))))) (g_n 1 nd) (zag (zjc 2 nd (zbf c__law_purse hr (a2 (zac 1) zaf)))
      (zag (zaN 3 nd (zfM c__law_take hr (zlU 2 (zdh zaf zaX))))
      (zag (zaN 4 nd (PVN.pv (zsQ c__law_drawn hr (zlU 2 (zdh (zac 3) zaX)))))
      (zag (zjc 5 nd (zsQ c__law_drawn hr (zlU 2 (zdh (zac 3) zaX))))
      (zag (zaQ (PVW.pvt (zjQ (zaA (ziL hr) (zac 4) (PVN.pv (zbB zd4))) (zhe (zaA (zm1 hr) (zfM c__law_take hr (zlU 2 (zdh zaf zaX))) zaf)))) (zag (zaN 6 nd (PVN.pv (zbf c__law_blank hr (a1 (zac 3)))))
      (zag (zck (zaR (zac 4)) (g_n 7 nd) (zar (zaN 6 nd (PVN.pv (zbf c__law_added hr (a2 (zac 6) (PVN.pv (zbf c__law_scaled hr (a2 (zfM c__law_number hr (zlU 2 zaX)) (zac 7))))))))))
      (zar (zn1 5 rfl (pv 5) (zfM c__law_take hr (zlU 2 (zdh (zau zb5 (zvC 5 zeY B.zdq Bt.len) zaf) zaX))) (zac 6))))) zaB)
      (zag (zfJ 8 (cpS 8 ["_law_row"] [] ["_law_row"] nd (zaR (zac 4)) (fun nd=>(g_n 0 nd)) zba (zru znC B.ze8 Bt.list (zac 0))))
      (zag (zph 5 (zfJ 9 (cpS 9 ["_law_row"] [] ["_law_row"] nd (zaR (zac 5)) (fun nd=>(g_n 0 nd)) zba (zru znC B.ze8 Bt.list (zac 0)))))
      (zag (zaN 10 nd (PVN.pv (zbB (a2 (PVN.pv (zbf c_kept hr (a2 (zac 8) (zac 3)))) (PVN.pv (zbf c_kept hr (a2 (zac 9) (zac 3))))))))
      (zag (zaN 11 nd (PVN.pv (zbf c_noughts hr (a2 (zac 8) (zac 3)))))
      (zag (zaN 12 nd (PVN.pv (zbf c_common hr (a3 (zac 8) (zac 9) (zac 3)))))
      (zag (zck (zaR (zau zb5 (zac 10) (PVN.pv (zbB (a2 (zac 11) (zac 12)))))) (g_n 13 nd) (zar (zaQ (PVW.pvt (zdN (zbS (zbR zfB (zaO c__law_is_rows hr (a2 (zac 13) (zac 3))))) (zcY (zbS (zbR zfB (zaO c__law_is_kept hr (a1 (zac 13)))))))) (zaJ zeT) zaB)))
      (zag (zck (zaR (zac 4)) (g_n 6 nd) (zar (zaQ (zaA (ziL hr) (PVN.pv (cp ["_law_test"] [6] ["_law_test","_law_row"] (zaR (zac 11)) (fun nd=>(g_n 0 nd)) (zeF (zaA (ziL hr) (zaG zbO (zaO c__law_pairing hr (a2 (zac 0) (zac 1))) zaf) zaf)) (zac 0))) (PVN.pv (zbB zd4))) (zaJ zeT) zaB)))
      (zag (zaQ (PVW.pvt (zdN (zaA (ziL hr) (zau zb5 (zdU zeY B.zdq Bt.len (zac 11)) (zdU zeY B.zdq Bt.len (zaG zbO (zac 10) zaf))) (zac 3)) (zcY (zaA (ziL hr) (PVN.pv (zbf c_noughts hr (a2 (zac 11) (zac 3)))) (zaG zbO (zac 10) zaf))))) (zaJ zeT) zaB)
      (zag (zaQ (zaA (ziL hr) (PVN.pv (cp ["_law_row"] [10] ["_law_row","_law_rooms"] (zaR (zac 12)) (fun nd=>(g_n 0 nd)) (zeF (PVW.pvt (zdN (zbS (zbR zfB (zaO c__law_lies hr (a2 (zaG zbO (zac 1) zaf) (zac 0))))) (zcY (zbS (zbR zfB (zaO c__law_lies hr (a2 (zaG zbO (zac 1) zaf) (zac 0))))))))) (zac 0))) (PVN.pv (zbB zd4))) (zaJ zeT) zaB)
      (zag (zaQ (zaA (ziL hr) (zau zb5 (zdU zeY B.zdq Bt.len (zac 12)) (zdU zeY B.zdq Bt.len (PVN.pv (zbf c_kept hr (a2 (zau zb5 (zac 8) (zac 9)) (zac 3)))))) (zau zb5 (zdU zeY B.zdq Bt.len (zaG zbO (zac 10) zaf)) (zdU zeY B.zdq Bt.len (zaG zbO (zac 10) zaf)))) (zaJ zeT) zaB)
      (zar (zaQ (PVW.pvt (zdN (zaA (ziL hr) (PVN.pv (zbf c_common hr (a3 (zac 9) (zac 8) (zac 3)))) (zac 12)) (zdN (zaA (ziL hr) (zac 8) (zac 4)) (zcY (zaA (ziL hr) (zac 9) (zac 5)))))) (zaJ zeT) zaB))))))))))))))))))
      (zaJ zeT))
end
end K04
namespace K04
open PySem L2 PySem.Spec FL
open PyProof.Rows hiding St
theorem all_mk {l:PySem.W.OpenLaw} {w:World} {K:PySem.W.Frag} {h:Heap} {mg:Str->Option Value} {fa:Addr} (X:K.In h) (G:h.Ns mainGlobals mg) (hfa:mg "law"=some (.ref fa))
  {zch:Addr} {zi1:Addr}
  {ou_NOUGHT:Option Addr} {nn_NOUGHT:Nat} {su_NOUGHT:Array (Option Value)} {k0_NOUGHT k1_NOUGHT:Tok}
  {ou_ONE:Option Addr} {nn_ONE:Nat} {su_ONE:Array (Option Value)} {k0_ONE k1_ONE:Tok}
  (zoC:Has K mg "is_whole" (top 7))
  (zha:Has K mg "common_divisor" (top 8))
  (zqW:Has K mg "lead_of" (top 17))
  (zlM:Has K mg "_law_mixed" (top 27))
  (zqZ:Has K mg "_law_at" (top 30))
  (zoF:Has K mg "_law_low" (top 31))
  (zoE:Has K mg "_law_not" (top 34))
  (ziy:Has K mg "_law_is_whole" (top 36))
  (zlO:Has K mg "_law_blank" (top 44))
  (ziz:Has K mg "_law_is_blank" (top 45))
  (zmQ:Has K mg "_law_lead" (top 46))
  (zmM:Has K mg "is_number" (top 9))
  (zoD:Has K mg "fraction" (top 10))
  (zqU:Has K mg "thinned" (top 15))
  (zlL:Has K mg "_law_purse" (top 28))
  (zmN:Has K mg "_law_take" (top 29))
  (zmO:Has K mg "_law_plus" (top 32))
  (zqY:Has K mg "_law_by" (top 33))
  (zhb:Has K mg "_law_is_number" (top 37))
  (zi4:Has K mg "_law_is_kept" (top 47))
  (zsI:Has K mg "is_row" (top 12))
  (zmJ:Has K mg "whole_row" (top 16))
  (zqX:Has K mg "cleared" (top 18))
  (zlK:Has K mg "nought_row" (top 21))
  (zkx:Has K mg "_law_number" (top 35))
  (zky:Has K mg "_law_is_row" (top 38))
  (zlP:Has K mg "_law_added" (top 40))
  (zkw:Has K mg "_law_scaled" (top 41))
  (zi2:Has K mg "_law_pairing" (top 42))
  (zmL:Has K mg "is_row_of" (top 13))
  (zix:Has K mg "rows_by_leads" (top 19))
  (zi3:Has K mg "_law_is_rows" (top 39))
  (zmP:Has K mg "_law_lies" (top 48))
  (zlN:Has K mg "_law_drawn" (top 49))
  (zku:Has K mg "refuse_rows" (top 14))
  (zmK:Has K mg "kept_rows" (top 20))
  (zkv:Has K mg "nought_rows" (top 22))
  (zw1:Has K mg "kept" (top 23))
  (zqV:Has K mg "noughts" (top 24))
  (zsJ:Has K mg "common" (top 25))
  (zya:Has K mg "law" (top 50))
  (zj2:PySem.W.nsIn K mainGlobals "NOUGHT"=some (some (.ref zch)))
  (zr0:K.lookup zch=some ⟨.type "tuple",ou_NOUGHT,.seq #[.int 0 k0_NOUGHT,.int 1 k1_NOUGHT] nn_NOUGHT,su_NOUGHT⟩)
  (zum:PySem.W.nsIn K mainGlobals "ONE"=some (some (.ref zi1)))
  (zxM:K.lookup zi1=some ⟨.type "tuple",ou_ONE,.seq #[.int 1 k0_ONE,.int 1 k1_ONE] nn_ONE,su_ONE⟩)
  (zn9:PySem.W.nsIn K mainGlobals "abs"=some none)
  (zaD:PySem.W.nsIn K mainGlobals "isinstance"=some none)
  (zpF:PySem.W.nsIn K mainGlobals "int"=some none)
  (zk2:PySem.W.nsIn K mainGlobals "bool"=some none)
  (zhQ:PySem.W.nsIn K mainGlobals "tuple"=some none)
  (ze8:PySem.W.nsIn K mainGlobals "list"=some none)
  (zwg:PySem.W.nsIn K mainGlobals "str"=some none)
  (zdq:PySem.W.nsIn K mainGlobals "len"=some none)
  (zrS:PySem.W.nsIn K mainGlobals "all"=some none)
  (zd6:PySem.W.nsIn K mainGlobals "range"=some none)
  (zn8:PySem.W.nsIn K mainGlobals "zip"=some none)
  (zbC:PySem.W.nsIn K mainGlobals "enumerate"=some none)
  (zwi:PySem.W.nsIn K mainGlobals "max"=some none)
  (zwh:PySem.W.nsIn K mainGlobals "min"=some none)
  (zwf:PySem.W.nsIn K mainGlobals "sum"=some none)
  (zj0:PySem.W.nsIn K mainGlobals "sorted"=some none)
  (zs1:PySem.W.nsIn K mainGlobals "dict"=some none)
  (zwj:PySem.W.nsIn K mainGlobals "any"=some none) :
  ∃ (cl:CL) (fd:FuncData),zlR cl K/\(∀ (s:Shared) (v:Value),BindsTo s fd ⟨[v],[]⟩ [("_law_script",v)])/\∀ base:Heap,(zgd (cl.map (·.1)) K).In base->base.Ns mainGlobals mg->zkB l.prog w (zgd (cl.map (·.1)) K) mg base (CXe l.prog w) 8 fa fd ["_law_script"] (@spP (zva cl) (zgd (cl.map (·.1)) K) 1 false zq1):=by
 obtain ⟨f,fd,hm,Fl⟩:=id zya
 have e:=hfa.symm.trans hm
 cases e
 obtain ⟨oc,od,kV,dc,pm,an,cd,ct,sl,rfl,lk,hcd⟩:=id Fl.ex
 have hC:zlR [(zch,⟨.type "tuple",ou_NOUGHT,.seq #[.int 0 k0_NOUGHT,.int 1 k1_NOUGHT] nn_NOUGHT,su_NOUGHT⟩,[.int 0,.int 1]),(zi1,⟨.type "tuple",ou_ONE,.seq #[.int 1 k0_ONE,.int 1 k1_ONE] nn_ONE,su_ONE⟩,[.int 1,.int 1])] K:=(zlR.cons zr0 (.cons ⟨_,rfl⟩ (.cons ⟨_,rfl⟩ (.nil))) (by decide) (zlR.cons zxM (.cons ⟨_,rfl⟩ (.cons ⟨_,rfl⟩ (.nil))) (by decide) zlR.nil))
 refine ⟨_,PySem.W.fnOf "law" "law" (zdy (top 50)) (zb1 (top 50)) (zaz (top 50)) .none kV dc pm an cd ct,hC,fun s v=>.of_eq rfl,fun base _ _=>?_⟩
 have B:Blt mg:=⟨PySem.W.mg_none_of X G zn9,PySem.W.mg_none_of X G zaD,PySem.W.mg_none_of X G zpF,PySem.W.mg_none_of X G zk2,PySem.W.mg_none_of X G zhQ,PySem.W.mg_none_of X G ze8,PySem.W.mg_none_of X G zwg,PySem.W.mg_none_of X G zdq,PySem.W.mg_none_of X G zrS,PySem.W.mg_none_of X G zd6,PySem.W.mg_none_of X G zn8,PySem.W.mg_none_of X G zbC,PySem.W.mg_none_of X G zwi,PySem.W.mg_none_of X G zwh,PySem.W.mg_none_of X G zwf,PySem.W.mg_none_of X G zj0,PySem.W.mg_none_of X G zs1,PySem.W.mg_none_of X G zwj⟩
 letI:Cs:=zva [(zch,⟨.type "tuple",ou_NOUGHT,.seq #[.int 0 k0_NOUGHT,.int 1 k1_NOUGHT] nn_NOUGHT,su_NOUGHT⟩,[.int 0,.int 1]),(zi1,⟨.type "tuple",ou_ONE,.seq #[.int 1 k0_ONE,.int 1 k1_ONE] nn_ONE,su_ONE⟩,[.int 1,.int 1])]
 have C:Cst mg zch zi1:=⟨PySem.W.mg_of X G zj2,ztg hC (List.Mem.head _),PySem.W.mg_of X G zum,ztg hC (List.Mem.tail _ (List.Mem.head _))⟩
 have d_is_whole:=zok (P:=l.prog) (w:=w) (base:=base) B C (zoC.cut hC.seqs)
 have d_common_divisor:=zg6 (P:=l.prog) (w:=w) (base:=base) B C (zha.cut hC.seqs)
 have d_lead_of:=zpX (P:=l.prog) (w:=w) (base:=base) B C (zqW.cut hC.seqs)
 have d__law_mixed:=zla (P:=l.prog) (w:=w) (base:=base) B C (zlM.cut hC.seqs)
 have d__law_at:=zp0 (P:=l.prog) (w:=w) (base:=base) B C (zqZ.cut hC.seqs)
 have d__law_low:=zon (P:=l.prog) (w:=w) (base:=base) B C (zoF.cut hC.seqs)
 have d__law_not:=zom (P:=l.prog) (w:=w) (base:=base) B C (zoE.cut hC.seqs)
 have d__law_is_whole:=zhY (P:=l.prog) (w:=w) (base:=base) B C (ziy.cut hC.seqs)
 have d__law_blank:=zlc (P:=l.prog) (w:=w) (base:=base) B C (zlO.cut hC.seqs)
 have d__law_is_blank:=zhZ (P:=l.prog) (w:=w) (base:=base) B C (ziz.cut hC.seqs)
 have d__law_lead:=zmu (P:=l.prog) (w:=w) (base:=base) B C (zmQ.cut hC.seqs)
 have d_is_number:=zmq (P:=l.prog) (w:=w) (base:=base) B C (zmM.cut hC.seqs) d_common_divisor d_is_whole
 have d_fraction:=zol (P:=l.prog) (w:=w) (base:=base) B C (zoD.cut hC.seqs) d_common_divisor
 have d_thinned:=zpV (P:=l.prog) (w:=w) (base:=base) B C (zqU.cut hC.seqs) d_common_divisor
 have d__law_purse:=zk9 (P:=l.prog) (w:=w) (base:=base) B C (zlL.cut hC.seqs) d__law_mixed
 have d__law_take:=zmr (P:=l.prog) (w:=w) (base:=base) B C (zmN.cut hC.seqs) d__law_mixed
 have d__law_plus:=zms (P:=l.prog) (w:=w) (base:=base) B C (zmO.cut hC.seqs) d__law_low
 have d__law_by:=zpZ (P:=l.prog) (w:=w) (base:=base) B C (zqY.cut hC.seqs) d__law_low
 have d__law_is_number:=zg7 (P:=l.prog) (w:=w) (base:=base) B C (zhb.cut hC.seqs) d__law_is_whole d__law_low
 have d__law_is_kept:=ziW (P:=l.prog) (w:=w) (base:=base) B C (zi4.cut hC.seqs) d__law_lead
 have d_is_row:=zr3 (P:=l.prog) (w:=w) (base:=base) B C (zsI.cut hC.seqs) d_is_number
 have d_whole_row:=zmn (P:=l.prog) (w:=w) (base:=base) B C (zmJ.cut hC.seqs) d_thinned d_common_divisor
 have d_cleared:=zpY (P:=l.prog) (w:=w) (base:=base) B C (zqX.cut hC.seqs) d_thinned
 have d_nought_row:=zk8 (P:=l.prog) (w:=w) (base:=base) B C (zlK.cut hC.seqs) d_fraction
 have d__law_number:=zkd (P:=l.prog) (w:=w) (base:=base) B C (zkx.cut hC.seqs) d__law_take d__law_low
 have d__law_is_row:=zke (P:=l.prog) (w:=w) (base:=base) B C (zky.cut hC.seqs) d__law_is_number
 have d__law_added:=zld (P:=l.prog) (w:=w) (base:=base) B C (zlP.cut hC.seqs) d__law_plus
 have d__law_scaled:=zkc (P:=l.prog) (w:=w) (base:=base) B C (zkw.cut hC.seqs) d__law_by
 have d__law_pairing:=ziU (P:=l.prog) (w:=w) (base:=base) B C (zi2.cut hC.seqs) d__law_plus d__law_by
 have d_is_row_of:=zmp (P:=l.prog) (w:=w) (base:=base) B C (zmL.cut hC.seqs) d_is_row
 have d_rows_by_leads:=zhX (P:=l.prog) (w:=w) (base:=base) B C (zix.cut hC.seqs) d_whole_row d_lead_of d_cleared
 have d__law_is_rows:=ziV (P:=l.prog) (w:=w) (base:=base) B C (zi3.cut hC.seqs) d__law_is_row
 have d__law_lies:=zmt (P:=l.prog) (w:=w) (base:=base) B C (zmP.cut hC.seqs) d__law_is_blank d__law_added d__law_lead d__law_scaled d__law_not
 have d__law_drawn:=zlb (P:=l.prog) (w:=w) (base:=base) B C (zlN.cut hC.seqs) d__law_take d__law_number d__law_added d__law_scaled d__law_blank
 have d_refuse_rows:=zka (P:=l.prog) (w:=w) (base:=base) B C (zku.cut hC.seqs) d_is_row_of
 have d_kept_rows:=zmo (P:=l.prog) (w:=w) (base:=base) B C (zmK.cut hC.seqs) d_rows_by_leads d_fraction
 have d_nought_rows:=zkb (P:=l.prog) (w:=w) (base:=base) B C (zkv.cut hC.seqs) d_rows_by_leads d_kept_rows d_nought_row
 have d_kept:=zwv (P:=l.prog) (w:=w) (base:=base) B C (zw1.cut hC.seqs) d_refuse_rows d_kept_rows
 have d_noughts:=zpW (P:=l.prog) (w:=w) (base:=base) B C (zqV.cut hC.seqs) d_refuse_rows d_nought_rows
 have d_common:=zr4 (P:=l.prog) (w:=w) (base:=base) B C (zsJ.cut hC.seqs) d_refuse_rows d_nought_rows
 have d_law:=zxN (P:=l.prog) (w:=w) (base:=base) B C (Fun.cut hC.seqs Fl) d__law_purse d__law_take d__law_drawn d_noughts d_common d__law_at d__law_blank d_kept d__law_added d__law_scaled d__law_is_rows d__law_is_kept d__law_number d__law_lies d__law_pairing
 exact d_law
theorem walk {l:PySem.W.OpenLaw} {q:Program} {loose:List Str} {XP:(Str->Option Value)->Heap->Prop} {YP:World->Heap->Prop} {d:DefRec} {K:Params->PySem.W.Frag} (hlaw:∀ ns:List Int,ns.length<=63->zq1 [.list (ns.map PyData.int)]=.ok (.bool true)) (hn:l.most=some 63) (hdf:d.params.defaults=[]) (hi:importsNone q=true) (htr:l.prog.given.tree=none)
  (hY:∀ (w:World) (h:Heap),YP w h->(K w.params).In h)
  (F:∀ (w:World) (mg:Str->Option Value) (fa:Addr) (h:Heap),(K w.params).In h->h.Ns mainGlobals mg->mg d.name=some (.ref fa) ->
   ∃ (cl:CL) (fd:FuncData),zlR cl (K w.params)/\(∀ (s:Shared) (u:Value),BindsTo s fd ⟨[u],[]⟩ [("_law_script",u)])/\∀ base:Heap,(zgd (cl.map (·.1)) (K w.params)).In base->base.Ns mainGlobals mg->zkB l.prog w (zgd (cl.map (·.1)) (K w.params)) mg base (CXe l.prog w) 8 fa fd ["_law_script"] (@spP (zva cl) (zgd (cl.map (·.1)) (K w.params)) 1 false zq1)) :
  PySem.W.WalkO q loose XP YP l.row.toRowW d [] (fun f vs=>PySem.call f vs) :=
 zrd (k:=8) (x:="_law_script") hlaw hn hdf hi htr ⟨rfl,by decide,by decide,rfl⟩ hY F
end K04
namespace K04
open PySem FL MD
theorem zlZ:zao=zb4:=rfl
theorem zry:zcX=zkz:=rfl
theorem zx6:zgc=zxc:=rfl
theorem zsm:zbK=zq0 ((5:Nat):Int):=rfl
theorem zpz:zbn=zaS:=rfl
theorem zn5:zc6=zgb:=rfl
theorem zr5:zdJ=zg2:=rfl
theorem zr1:zdI=zdH:=rfl
theorem zji:zbl=zbk:=rfl
theorem refuse_eq:zaI=zga:=rfl
theorem znL:zbL=zcK:=rfl
theorem zkM:zbm=zcl:=rfl
theorem blank_eq:zbi=zca:=rfl
theorem zgn {l:List D} {i:Nat} {d:D} (h:l[i]?=some d):ixD (.list l) (.int (i:Int))=.ok d:=by
  obtain ⟨hl,_⟩:=List.getElem?_eq_some_iff.mp h
  show R.of (atI l (i:Int))=_
  rw [zqN hl,h]
  rfl
theorem zd9 (x0:Sl):∀ (xs:List Rat) (i:Nat) (x1 x2:Sl),Np x1->Np x2->∃ y1 y2,Np y1/\Np y2/\forL (gT [(gN 1),(gN 2)]) zaZ (zeV i (xs.map num)) [x0,x1,x2]=.ok (match zds (xs.map (·.num)) with
    | none=>.nx
    | some p=>.rt (.int ((i + p:Nat):Int)),[x0,y1,y2])
  | [],i,x1,x2,h1,h2=>⟨x1,x2,h1,h2,rfl⟩
  | x :: xs,i,x1,x2,h1,h2=>by
    have e0:gT [(gN 1),(gN 2)] (.tuple [.int (i:Int),num x]) [x0,x1,x2]=.ok [x0,.val (.int (i:Int)),.val (num x)]:=by
      show (gN 1 (.int (i:Int)) [x0,x1,x2]).bind _=_
      rw [zcH (x:=x1) rfl h1,zad]
      show (gN 2 (num x) [x0,.val (.int (i:Int)),x2]).bind _=_
      rw [zcH (x:=x2) rfl h2]
      rfl
    rw [List.map_cons,List.map_cons]
    unfold zeV forL
    rw [e0,zad]
    unfold zds
    by_cases c:x.num=0
    · have s1:zaZ [x0,.val (.int (i:Int)),.val (num x)]=.ok (.nx,[x0,.val (.int (i:Int)),.val (num x)]):=by
        unfold zaZ
        simp only [sIf,tB,FL.e2,eV,eC,sNx,zaw,zad,zz0,zz1,zpA,zbT,decide_eq_true c,Bool.not_true,Bool.false_eq_true,if_false]
      rw [s1,zad,if_pos c]
      obtain ⟨y1,y2,g1,g2,e⟩:=zd9 x0 xs (i + 1) (.val (.int (i:Int))) (.val (num x)) (zav _) (zav _)
      refine ⟨y1,y2,g1,g2,e.trans ?_⟩
      cases zds (xs.map (·.num)) with
      | none=>rfl
      | some p=>simp only [Option.map_some];rw [show i + 1 + p=i + (p + 1) by omega]
    · have s1:zaZ [x0,.val (.int (i:Int)),.val (num x)]=.ok (.rt (.int (i:Int)),[x0,.val (.int (i:Int)),.val (num x)]):=by
        unfold zaZ
        simp only [sIf,tB,FL.e2,eV,eC,sNx,zaw,zad,zz0,zz1,zpA,zbT,decide_eq_false c,Bool.not_false,if_true]
      rw [s1,zad,if_neg c]
      exact ⟨_,_,zav _,zav _,rfl⟩
theorem zuq {xs:List Rat} {p:Nat} (h0:fq xs p ≠ 0) (hl:∀ j,j < p->fq xs j=0):zcb [zai xs]=.ok (.int (p:Int)):=by
  have hn:∀ j,fn (xs.map (·.num)) j=(fq xs j).num:=fun j=>zh8 (fun r=>r.num) rfl j
  have hp:zds (xs.map (·.num))=some p:=by
    cases h:zds (xs.map (·.num)) with
    | none =>
      have:=zgk h p
      rw [hn] at this
      exact absurd (Rat.num_eq_zero.mp this) h0
    | some q =>
      obtain ⟨h1,h2⟩:=zgj h
      rw [hn] at h1
      rcases Nat.lt_trichotomy p q with l | l | l
      · have:=h2 p l
        rw [hn] at this
        exact absurd (Rat.num_eq_zero.mp this) h0
      · rw [l]
      · rw [hl q l] at h1
        exact absurd rfl h1
  obtain ⟨y1,y2,_,_,e⟩:=zd9 (.val (zai xs)) xs 0 .no .no za2 za2
  rw [hp] at e
  have s1:zdm [.val (zai xs),.no,.no]=.ok (.rt (.int ((0 + p:Nat):Int)),[.val (zai xs),y1,y2]):=e
  refine zbd (ρ:=[.val (zai xs),y1,y2]) rfl ?_
  show zdC [.val (zai xs),.no,.no]=_
  unfold zdC zaq
  rw [s1,Nat.zero_add]
  rfl
structure KR (n:Nat) (K:zaV):Prop where
  row:∀ e ∈ K,e.2.length=n/\e.1 < n/\fn e.2 e.1 ≠ 0
  one:∀ e ∈ K,kr e e.1=1
  zer:∀ e ∈ K,∀ f ∈ K,f.1 ≠ e.1->kr e f.1=0
  low:∀ e ∈ K,∀ j,j < e.1->kr e j=0
  srt:(K.map (·.1)).Pairwise (· < ·)
theorem zts {n H:Nat} {V:Rq->Prop} {R:List (List Rat)} (r:Res n V H R):∃ K,R=K.map zaH/\KR n K/\∀ v,V v->∀ j,v j=zaP (K.map fun e=>v e.1 * kr e j):=by
  obtain ⟨K,e,d,k⟩:=r.ex
  have mm:∀ {e:Nat × List Int},e ∈ K->(e.1,kr e) ∈ bas K:=fun h=>List.mem_map_of_mem (f:=fun e:Nat × List Int=>(e.1,kr e)) h
  refine ⟨K,e,⟨fun e he=>⟨(k e he).1,(k e he).2.1,(k e he).2.2.1⟩,fun e he=>d.one _ (mm he),fun e he f hf ne=>d.zer _ (mm he) _ (mm hf) ne,fun e he j hj=>d.low _ (mm he) j hj,?_⟩,fun v hv j=>?_⟩
  · have:=d.srt
    unfold bas at this
    rw [List.map_map] at this
    exact this
  · have:=d.rep v hv j
    unfold bas at this
    rw [List.map_map] at this
    exact this
theorem KR.lead {n:Nat} {K:zaV} (k:KR n K) {e:Nat × List Int} (he:e ∈ K):zcb [zai (zaH e)]=.ok (.int (e.1:Int)) :=
  zuq (by rw [zel,k.one e he];decide) fun j hj=>by rw [zel,k.low e he j hj]
theorem KR.inj {n:Nat} {K:zaV} (k:KR n K) {i j:Nat} {e f:Nat × List Int} (hi:K[i]?=some e) (hj:K[j]?=some f) (h:i < j):e.1 < f.1:=by
  have s:=k.srt
  rw [List.pairwise_map,List.pairwise_iff_getElem] at s
  obtain ⟨l1,rfl⟩:=List.getElem?_eq_some_iff.mp hi
  obtain ⟨l2,rfl⟩:=List.getElem?_eq_some_iff.mp hj
  exact s i j l1 l2 h
theorem zr6 {n:Nat} {K:zaV} (k:KR n K) {i:Nat} {e:Nat × List Int} (hi:K[i]?=some e) (hl:K.length<=1000) {x3 x4:Sl} (n4:Np x4) :
    ∃ y4,Np y4/\zby [.val (zaa (K.map zaH)),.val (.list (K.map fun e=>.int (e.1:Int))),.val (.int (i:Int)),x3,x4]=.ok (.nx,[.val (zaa (K.map zaH)),.val (.list (K.map fun e=>.int (e.1:Int))),.val (.int (i:Int)),x3,y4]):=by
  have he:=List.mem_of_getElem? hi
  have xp:ixD (.list (K.map fun e=>.int (e.1:Int))) (.int (i:Int))=.ok (.int (e.1:Int)):=zgn (by rw [List.getElem?_map,hi];rfl)
  obtain ⟨ρ',e',y4,g4,rfl⟩:=zbc (f:=fun i:Nat=>PyData.int (i:Int)) (g:=gN 4) (b:=za0)
    (fun _ ρ=>∃ y4,Np y4/\ρ=[.val (zaa (K.map zaH)),.val (.list (K.map fun e=>.int (e.1:Int))),.val (.int (i:Int)),x3,y4])
    (List.range K.length) [] [.val (zaa (K.map zaH)),.val (.list (K.map fun e=>.int (e.1:Int))),.val (.int (i:Int)),x3,x4] ⟨x4,n4,rfl⟩ (by
      rintro pre o post ρ eq ⟨y4,h4,rfl⟩
      have ho:o < K.length:=List.mem_range.mp (by rw [show List.range K.length=pre ++ o :: post from eq];simp)
      obtain ⟨f,hf⟩:∃ f,K[o]?=some f:=⟨_,List.getElem?_eq_getElem ho⟩
      have hfm:=List.mem_of_getElem? hf
      refine ⟨_,.nx,?_,.inl rfl,.val (.int (o:Int)),zav _,rfl⟩
      rw [zcH (x:=y4) rfl h4,zad]
      show za0 [.val (zaa (K.map zaH)),.val (.list (K.map fun e=>.int (e.1:Int))),.val (.int (i:Int)),x3,.val (.int (o:Int))]=_
      have n1:neD (.int (o:Int)) (.int (i:Int))=.ok (.bool (!decide ((o:Int)=(i:Int)))):=zbT _ _
      unfold za0
      by_cases c:o=i
      · rw [decide_eq_true (by omega)] at n1
        simp only [sIf,FL.zfi,tB,FL.e2,eV,sNx,zad,zz0,zz1,n1,Bool.not_true,Bool.false_eq_true,if_false]
      · rw [decide_eq_false (by omega)] at n1
        have xr:ixD (zaa (K.map zaH)) (.int (o:Int))=.ok (zai (zaH f)):=zgn (by rw [List.map_map,List.getElem?_map,hf];rfl)
        have ne:f.1 ≠ e.1:=by
          rcases Nat.lt_or_gt_of_ne c with l | l
          · have:=k.inj hf hi l;omega
          · have:=k.inj hi hf l;omega
        have xx:=zuw (xs:=zaH f) (i:=e.1) (by rw [zeI,(k.row f hfm).1];exact (k.row e he).2.1)
        rw [zel,k.zer f hfm e he fun z=>ne z.symm] at xx
        have z0:ixD (num 0) (.int 0)=.ok (.int 0):=rfl
        have n00:neD (.int 0) (.int 0)=.ok (.bool false):=by rw [zbT];rfl
        simp only [sIf,FL.zfi,tB,FL.e2,eV,eC,sNx,zad,zz0,zz1,n1,Bool.not_false,if_true,xr,xp,xx,z0,n00,Bool.false_eq_true,if_false])
  refine ⟨y4,g4,?_⟩
  unfold zby zcP
  have it:iR1 (zab (e1 zbD (eV 0)) zah) [.val (zaa (K.map zaH)),.val (.list (K.map fun e=>.int (e.1:Int))),.val (.int (i:Int)),x3,x4]=.ok ((List.range K.length).map (fun i:Nat=>PyData.int (i:Int)),[.val (zaa (K.map zaH)),.val (.list (K.map fun e=>.int (e.1:Int))),.val (.int (i:Int)),x3,x4]):=by
    have lM:=zk4 (K.map zaH)
    rw [List.length_map] at lM
    simp only [iR1,zab,zah,FL.e1,eV,zz1,zz0,zad,lM]
    rw [zde (by omega) (by omega),zad,zhJ,List.map_map]
    simp
  rw [it,zad]
  exact e'
theorem zuA {n:Nat} {K:zaV} (k:KR n K) (hl:K.length<=1000) (hn:n<=1000):zbw [zaa (K.map zaH)]=.ok (.bool true):=by
  have q:za1 [.val (zaa (K.map zaH)),.no,.no,.no,.no]=.ok (.list (K.map fun e=>.int (e.1:Int)),[.val (zaa (K.map zaH)),.no,.no,.no,.no]):=by
    unfold za1
    rw [zb0 (f0:=fun e=>zai (zaH e)) (xs:=K) (fun e=>.int (e.1:Int)) (by
      show R.ok ((K.map zaH).map zai,_)=_
      rw [List.map_map];rfl) (by show _<=1000000;omega) fun e me=>?_]
    exact ⟨[.val (zai (zaH e))],rfl,by simp only [zae,zab,zah,eV,zz0,zad,k.lead me],za8 trivial⟩
  have s1:zcy 1 (zdd 1 za1) [.val (zaa (K.map zaH)),.no,.no,.no,.no]=.ok (.nx,[.val (zaa (K.map zaH)),.val (.list (K.map fun e=>.int (e.1:Int))),.no,.no,.no]):=by
    unfold zcy
    rw [zdZ (i:=1) (x:=.no) q rfl za2]
    rfl
  obtain ⟨ρ',e',y2,y3,y4,g2,g3,g4,rfl⟩:=zbc (f:=fun q:List Rat × Nat=>PyData.tuple [.int (q.2:Int),zai q.1]) (g:=gT [(gN 2),(gN 3)]) (b:=zbz)
    (fun _ ρ=>∃ y2 y3 y4,Np y2/\Np y3/\Np y4/\ρ=[.val (zaa (K.map zaH)),.val (.list (K.map fun e=>.int (e.1:Int))),y2,y3,y4])
    ((K.map zaH).zipIdx 0) [] [.val (zaa (K.map zaH)),.val (.list (K.map fun e=>.int (e.1:Int))),.no,.no,.no] ⟨.no,.no,.no,za2,za2,za2,rfl⟩ (by
      rintro pre q post ρ eq ⟨y2,y3,y4,h2,h3,h4,rfl⟩
      have mq:q ∈ (K.map zaH).zipIdx 0:=by rw [show (K.map zaH).zipIdx 0=pre ++ q :: post from eq];simp
      obtain ⟨r,i⟩:=q
      have hri:(K.map zaH)[i]?=some r:=by have:=List.mem_zipIdx_iff_getElem?.mp mq;simpa using this
      rw [List.getElem?_map,Option.map_eq_some_iff] at hri
      obtain ⟨e,hi,rfl⟩:=hri
      have he:=List.mem_of_getElem? hi
      have e0:gT [(gN 2),(gN 3)] (.tuple [.int (i:Int),zai (zaH e)]) [.val (zaa (K.map zaH)),.val (.list (K.map fun e=>.int (e.1:Int))),y2,y3,y4]=.ok [.val (zaa (K.map zaH)),.val (.list (K.map fun e=>.int (e.1:Int))),.val (.int (i:Int)),.val (zai (zaH e)),y4]:=by
        show (gN 2 (.int (i:Int)) [.val (zaa (K.map zaH)),.val (.list (K.map fun e=>.int (e.1:Int))),y2,y3,y4]).bind _=_
        rw [zcH (x:=y2) rfl h2,zad]
        show (gN 3 (zai (zaH e)) [.val (zaa (K.map zaH)),.val (.list (K.map fun e=>.int (e.1:Int))),.val (.int (i:Int)),y3,y4]).bind _=_
        rw [zcH (x:=y3) rfl h3]
        rfl
      obtain ⟨z4,m4,ei⟩:=zr6 k hi hl (x3:=.val (zai (zaH e))) h4
      refine ⟨_,.nx,?_,.inl rfl,.val (.int (i:Int)),.val (zai (zaH e)),z4,zav _,zav _,m4,rfl⟩
      rw [e0,zad]
      have xp:ixD (.list (K.map fun e=>.int (e.1:Int))) (.int (i:Int))=.ok (.int (e.1:Int)):=zgn (by rw [List.getElem?_map,hi];rfl)
      have ln:=zyj (zaH e)
      rw [zeI,(k.row e he).1] at ln
      have ne1:eqD (.int (e.1:Int)) (.int (n:Int))=.ok (.bool false):=by rw [zb9,decide_eq_false (by have:=(k.row e he).2.1;omega)]
      have xx:=zuw (xs:=zaH e) (i:=e.1) (by rw [zeI,(k.row e he).1];exact (k.row e he).2.1)
      rw [zel,k.one e he] at xx
      have n11:neD (num 1) (.tuple [.int 1,.int 1])=.ok (.bool false):=zk0 (zm5 1)
      have l2:leB 2 lim=true:=by decide
      have u1:sIf (FL.tOr (tB (e2 eqD (e2 ixD (eV 1) (eV 2)) (e1 zbD (eV 3)))) (tB (e2 neD (e2 ixD (eV 3) (e2 ixD (eV 1) (eV 2))) (zem (zab (eC (.int 1)) (zab (eC (.int 1)) zah)))))) (zaw (eC (.bool false))) sNx [.val (zaa (K.map zaH)),.val (.list (K.map fun e=>.int (e.1:Int))),.val (.int (i:Int)),.val (zai (zaH e)),y4]=.ok (.nx,[.val (zaa (K.map zaH)),.val (.list (K.map fun e=>.int (e.1:Int))),.val (.int (i:Int)),.val (zai (zaH e)),y4]):=by
        simp only [sIf,FL.tOr,tB,FL.e1,FL.e2,zem,zab,zah,eV,eC,sNx,zad,zz0,zz1,xp,ln,ne1,xx,List.length_cons,List.length_nil,Nat.reduceAdd,zay l2,n11,Bool.false_eq_true,if_false]
      have g0:gtD (.int (i:Int)) (.int 0)=.ok (.bool (decide ((0:Int) < (i:Int)))):=zqc _ _
      have u2:sIf (FL.zfi (tB (e2 gtD (eV 2) (eC (.int 0)))) (tB (e2 leD (e2 ixD (eV 1) (eV 2)) (e2 ixD (eV 1) (e2 ze4 (eV 2) (eC (.int 1))))))) (zaw (eC (.bool false))) sNx [.val (zaa (K.map zaH)),.val (.list (K.map fun e=>.int (e.1:Int))),.val (.int (i:Int)),.val (zai (zaH e)),y4]=.ok (.nx,[.val (zaa (K.map zaH)),.val (.list (K.map fun e=>.int (e.1:Int))),.val (.int (i:Int)),.val (zai (zaH e)),y4]):=by
        by_cases c:(0:Int) < (i:Int)
        · rw [decide_eq_true c] at g0
          have sb:ze4 (.int (i:Int)) (.int 1)=.ok (.int ((i - 1:Nat):Int)):=by
            show R.ok (PyData.int ((i:Int) - 1))=_
            rw [show ((i:Int) - 1)=((i - 1:Nat):Int) by omega]
          obtain ⟨li,_⟩:=List.getElem?_eq_some_iff.mp hi
          obtain ⟨f,hf⟩:∃ f,K[i - 1]?=some f:=⟨_,List.getElem?_eq_getElem (by omega)⟩
          have xq:ixD (.list (K.map fun e=>.int (e.1:Int))) (.int ((i - 1:Nat):Int))=.ok (.int (f.1:Int)):=zgn (by rw [List.getElem?_map,hf];rfl)
          have le:leD (.int (e.1:Int)) (.int (f.1:Int))=.ok (.bool false):=by
            have:=k.inj hf hi (by omega)
            rw [zur,decide_eq_false (by omega)]
          simp only [sIf,FL.zfi,tB,FL.e2,eV,eC,sNx,zad,zz0,zz1,g0,xp,sb,xq,le,Bool.false_eq_true,if_false,if_true]
        · rw [decide_eq_false c] at g0
          simp only [sIf,FL.zfi,tB,FL.e2,eV,eC,sNx,zad,zz0,zz1,g0,Bool.false_eq_true,if_false]
      unfold zbz
      rw [zak u1,zak u2]
      exact ei)
  have s2:zbx [.val (zaa (K.map zaH)),.val (.list (K.map fun e=>.int (e.1:Int))),.no,.no,.no]=.ok (.nx,[.val (zaa (K.map zaH)),.val (.list (K.map fun e=>.int (e.1:Int))),y2,y3,y4]):=by
    unfold zbx zcP
    have it:zr7 (zab (eV 0) zah) [.val (zaa (K.map zaH)),.val (.list (K.map fun e=>.int (e.1:Int))),.no,.no,.no]=.ok (((K.map zaH).zipIdx 0).map (fun q:List Rat × Nat=>PyData.tuple [.int (q.2:Int),zai q.1]),[.val (zaa (K.map zaH)),.val (.list (K.map fun e=>.int (e.1:Int))),.no,.no,.no]):=by
      rw [<- zuN]
      rfl
    rw [it,zad]
    exact e'
  refine zbd (ρ:=[.val (zaa (K.map zaH)),.val (.list (K.map fun e=>.int (e.1:Int))),y2,y3,y4]) rfl ?_
  show zcg [.val (zaa (K.map zaH)),.no,.no,.no,.no]=_
  unfold zcg
  rw [zak s1,zak s2]
  rfl
theorem zlg {xs:List Rat} (hl:xs.length<=1000) (h:∀ x ∈ xs,x=0):zcO [zai xs]=.ok (.bool true):=by
  have q:zbj [.val (zai xs)]=.ok (.list [],[.val (zai xs)]):=by
    unfold zbj
    rw [zcI (f0:=num) (xs:=xs) (fun _=>false) num rfl (by show _<=1000000;omega) fun x mx=>?_]
    · simp
    · refine ⟨[.val (num x)],rfl,?_,(fun c=>by cases c),za8 trivial⟩
      have e:=h x mx
      subst e
      have z0:ixD (num 0) (.int 0)=.ok (.int 0):=rfl
      have n00:neD (.int 0) (.int 0)=.ok (.bool false):=by rw [zbT];rfl
      simp only [tB,FL.e2,eV,eC,zz0,zad,z0,n00]
  refine zbd (ρ:=[.val (zai xs)]) rfl ?_
  show zb2 [.val (zai xs)]=_
  unfold zb2
  have l0:leB 0 lim=true:=by decide
  simp only [zaw,FL.e2,q,zbF,zah,zad,List.length_nil,zay l0,eq_nil]
theorem zwb (r:Rat):zeR [num r]=.ok (num (-r)):=by
  refine zbd (ρ:=[.val (num r)]) rfl ?_
  show zeM [.val (num r)]=_
  unfold zeM
  have l2:leB 2 lim=true:=by decide
  have sb:ze4 (.int 0) (.int r.num)=.ok (.int (0 - r.num)):=rfl
  simp only [zaw,zem,zab,zah,FL.e2,eV,eC,zz0,zad,zpA,zv8,sb,List.length_cons,List.length_nil,Nat.reduceAdd,zay l2]
  rw [show num (-r)=.tuple [.int (0 - r.num),.int (r.den:Int)] by unfold num;rw [show (-r).num=-r.num from rfl,show (-r).den=r.den from rfl,Int.zero_sub]]
theorem ztp {b:Nat} {r:Rat} (h:QR.Bd b r):QR.Bd b (-r):=⟨by rw [show (-r).num=-r.num from rfl,Int.natAbs_neg];exact h.1,h.2⟩
theorem zx4 {b:Nat} {xs:List Rat} (h:∀ x ∈ xs,QR.Bd b x) (hb:1<=b) (k:Nat):QR.Bd b (fq xs k):=by
  rcases zqq (xs:=xs) k with z | z
  · rw [z];exact (QR.Bd.zero 0).mono hb
  · exact h _ z
theorem zuo {n H B:Nat} {K:zaV} (k:KR n K) (hH:∀ e ∈ K,∀ x ∈ zaH e,QR.Bd H x) (hK:K.length<=1000) (hn:n<=1000) {xs:List Rat} (lx:xs.length=n) (bx:∀ x ∈ xs,QR.Bd B x) (rep:∀ j,fq xs j=zaP (K.map fun e=>fq xs e.1 * kr e j)) (hB:1<=B) (hb:B + (K.length + 1) * (B + H + 1)<=40000000) :
    zcM [zaa (K.map zaH),zai xs]=.ok (.bool true):=by
  obtain ⟨ρ',e',ys,y3,y4,g3,g4,rfl,ly,by',ry⟩:=zbc (f:=fun e=>zai (zaH e)) (g:=gN 3) (b:=zbP)
    (fun done ρ=>∃ ys y3 y4,Np y3/\Np y4/\ρ=[.val (zaa (K.map zaH)),.val (zai xs),.val (zai ys),y3,y4]/\ys.length=n/\(∀ x ∈ ys,QR.Bd (B + done.length * (B + H + 1)) x)/\∀ j,fq ys j=fq xs j - zaP (done.map fun e=>fq xs e.1 * kr e j))
    K [] [.val (zaa (K.map zaH)),.val (zai xs),.val (zai xs),.no,.no] ⟨xs,.no,.no,za2,za2,rfl,lx,fun x hx=>(bx x hx).mono (by omega),fun j=>by rw [List.map_nil,zdn];grind⟩ (by
      rintro pre e post ρ eq ⟨ys,y3,y4,h3,h4,rfl,ly,by',ry⟩
      have eq:K=pre ++ e :: post:=eq
      have he:e ∈ K:=by rw [eq];simp
      have hp:∀ f ∈ pre,f.1 < e.1:=fun f hf=>by
        have s:=k.srt
        rw [eq,List.map_append,List.pairwise_append] at s
        exact s.2.2 f.1 (List.mem_map_of_mem hf) e.1 (List.mem_map_of_mem (by simp))
      have pl:pre.length + 1<=K.length:=by rw [eq];simp
      have ml:(pre.length + 1) * (B + H + 1)<=(K.length + 1) * (B + H + 1):=Nat.mul_le_mul_right _ (by omega)
      have ms:(pre.length + 1) * (B + H + 1)=pre.length * (B + H + 1) + (B + H + 1):=Nat.succ_mul _ _
      have at1:fq ys e.1=fq xs e.1:=by
        rw [ry,zci fun f hf=>by rw [k.zer f (by rw [eq];simp [hf]) e he (by have:=hp f hf;omega)];grind]
        grind
      have x1:=zuw (xs:=ys) (i:=e.1) (by rw [ly];exact (k.row e he).2.1)
      rw [at1] at x1
      have bm:=zx4 bx hB e.1
      have lk:(zaH e).length=n:=by rw [zeI];exact (k.row e he).1
      have sc:=zhH (c:=-fq xs e.1) (xs:=zaH e) (b:=B + H) ((ztp bm).mono (by omega)) (fun x hx=>(hH e he x hx).mono (by omega)) (by omega) (by omega)
      have bs:=zf1 (ztp bm) (hH e he)
      have ad:=zkr (xs:=ys) (ys:=(zaH e).map fun x=>-fq xs e.1 * x) (b:=B + (pre.length + 1) * (B + H + 1)) (fun x hx=>(by' x hx).mono (by omega)) (fun x hx=>(bs x hx).mono (by omega)) (by omega) (by omega)
      rw [<- zkM] at sc
      rw [<- znL] at ad
      refine ⟨[.val (zaa (K.map zaH)),.val (zai xs),.val (zai (List.zipWith (· + ·) ys ((zaH e).map fun x=>-fq xs e.1 * x))),.val (zai (zaH e)),.val (num (fq xs e.1))],.nx,?_,.inl rfl,_,_,_,zav _,zav _,rfl,?_,?_,?_⟩
      · rw [zcH (x:=y3) rfl h3,zad]
        have s1:zaC (gN 4) (e2 ixD (eV 2) (zae zcb (zab (eV 3) zah))) [.val (zaa (K.map zaH)),.val (zai xs),.val (zai ys),.val (zai (zaH e)),y4]=.ok (.nx,[.val (zaa (K.map zaH)),.val (zai xs),.val (zai ys),.val (zai (zaH e)),.val (num (fq xs e.1))]):=by
          refine zbQ (i:=4) (y:=(num (fq xs e.1),[.val (zaa (K.map zaH)),.val (zai xs),.val (zai ys),.val (zai (zaH e)),y4])) ?_ rfl h4
          simp only [FL.e2,zae,zab,zah,eV,zz0,zz1,zad,k.lead he,x1]
        have s2:zaC (gN 2) (zae zbL (zab (eV 2) (zab (zae zbm (zab (zae zeR (zab (eV 4) zah)) (zab (eV 3) zah))) zah))) [.val (zaa (K.map zaH)),.val (zai xs),.val (zai ys),.val (zai (zaH e)),.val (num (fq xs e.1))]=.ok (.nx,[.val (zaa (K.map zaH)),.val (zai xs),.val (zai (List.zipWith (· + ·) ys ((zaH e).map fun x=>-fq xs e.1 * x))),.val (zai (zaH e)),.val (num (fq xs e.1))]):=by
          refine zbQ (i:=2) (x:=.val (zai ys)) (y:=(zai (List.zipWith (· + ·) ys ((zaH e).map fun x=>-fq xs e.1 * x)),[.val (zaa (K.map zaH)),.val (zai xs),.val (zai ys),.val (zai (zaH e)),.val (num (fq xs e.1))])) ?_ rfl (zav _)
          simp only [zae,zab,zah,eV,zz0,zz1,zad,zwb,sc,ad]
        show zbP [.val (zaa (K.map zaH)),.val (zai xs),.val (zai ys),.val (zai (zaH e)),y4]=_
        unfold zbP
        rw [zak s1]
        exact s2
      · rw [List.length_zipWith,List.length_map,ly,lk,Nat.min_self]
      · intro x hx
        refine (zkn by' bs x hx).mono ?_
        rw [List.length_append,List.length_singleton]
        omega
      · intro j
        rw [zsd (by rw [List.length_map,ly,lk]),zqo,ry,zel,List.map_append,zjM,List.map_cons,List.map_nil,zaF,zdn]
        grind)
  have s1:zaC (gN 2) (e1 zfS (eV 1)) [.val (zaa (K.map zaH)),.val (zai xs),.no,.no,.no]=.ok (.nx,[.val (zaa (K.map zaH)),.val (zai xs),.val (zai xs),.no,.no]):=rfl
  have s2:zcw [.val (zaa (K.map zaH)),.val (zai xs),.val (zai xs),.no,.no]=.ok (.nx,[.val (zaa (K.map zaH)),.val (zai xs),.val (zai ys),y3,y4]):=by
    unfold zcw zcP
    have it:iE (eV 0) [.val (zaa (K.map zaH)),.val (zai xs),.val (zai xs),.no,.no]=.ok (K.map (fun e=>zai (zaH e)),[.val (zaa (K.map zaH)),.val (zai xs),.val (zai xs),.no,.no]):=by
      show R.ok ((K.map zaH).map zai,_)=_
      rw [List.map_map];rfl
    rw [it,zad]
    exact e'
  have bl:=zlg (xs:=ys) (by omega) fun x hx=>by
    obtain ⟨i,hi,rfl⟩:=List.getElem_of_mem hx
    have:=ry i
    rw [show fq ys i=ys[i] by unfold fq;rw [List.getD_eq_getElem?_getD,List.getElem?_eq_getElem hi];rfl] at this
    rw [this,List.nil_append,<- rep i]
    grind
  refine zbd (ρ:=[.val (zaa (K.map zaH)),.val (zai xs),.val (zai ys),y3,y4]) rfl ?_
  show zdB [.val (zaa (K.map zaH)),.val (zai xs),.no,.no,.no]=_
  unfold zdB
  rw [zak s1,zak s2]
  simp only [zaw,zae,zab,zah,eV,zz0,zz1,zad,bl]
theorem zks {n H H':Nat} {V:Rq->Prop} {R:List (List Rat)} (r:Res n V H R) (h:H<=H'):Res n V H' R:=by
  obtain ⟨K,e,d,k⟩:=r.ex
  exact ⟨K,e,d,fun e he=>⟨(k e he).1,(k e he).2.1,(k e he).2.2.1,fun j=>Nat.lt_of_lt_of_le ((k e he).2.2.2 j) (Nat.pow_le_pow_right (by decide) h)⟩⟩
abbrev Rows (n b:Nat) (M:List (List Rat)):Prop:=∀ r ∈ M,r.length=n/\∀ x ∈ r,QR.Bd b x
theorem zoL {n b a:Nat} {M:List (List Rat)} (h:Rows n b M) (ha:b * (n + 1) + 1<=a):∀ r ∈ M,∀ j,(fn (zaM r) j).natAbs<=2 ^ a:=fun r hr j=>by
  have:=zoM (h r hr).2 j
  rw [(h r hr).1] at this
  exact Nat.le_trans (Nat.le_of_lt this) (Nat.pow_le_pow_right (by decide) ha)
theorem n5 {n:Nat} (h:n<=5):n=0\/n=1\/n=2\/n=3\/n=4\/n=5:=by omega
theorem zpU {n:Nat} {M:List (List Rat)} (h:Rows n 800 M) (hn:n<=5):∃ R,zez [zaa M,.int (n:Int)]=.ok (zaa R)/\Res n (za9 M) 28831 R/\Facts n M:=by
  obtain ⟨R,e,r,f⟩:=zr2 (a:=4801) h (zoL h (by omega)) (by omega) (by omega) (by unfold zi0;omega)
  refine ⟨R,?_,zks r (by omega),f⟩
  rw [<- zr1] at e
  have rf:=zfF (fun r hr=>(h r hr).1) (show n<=1000 by omega)
  rw [<- refuse_eq] at rf
  refine zdo (ρ:=[.val (zaa M),.val (.int (n:Int))]) rfl ?_
  show znI [.val (zaa M),.val (.int (n:Int))]=_
  unfold znI
  rw [zak (show sE (zae zaI (zab (eV 0) (zab (eV 1) zah))) [.val (zaa M),.val (.int (n:Int))]=.ok (.nx,[.val (zaa M),.val (.int (n:Int))]) by simp only [sE,zae,zab,zah,eV,zz0,zz1,zad,rf])]
  simp only [zbq,zae,zab,zah,eV,zz0,zz1,zad,e]
theorem zkX {n:Nat} {M R:List (List Rat)} (hM:∀ r ∈ M,r.length=n) (hn:n<=5) (e:zbk [zaa M,.int (n:Int)]=.ok (zaa R)):zcm [zaa M,.int (n:Int)]=.ok (zaa R):=by
  rw [<- zji] at e
  have rf:=zfF hM (show n<=1000 by omega)
  rw [<- refuse_eq] at rf
  refine zdo (ρ:=[.val (zaa M),.val (.int (n:Int))]) rfl ?_
  show zf3 [.val (zaa M),.val (.int (n:Int))]=_
  unfold zf3
  rw [zak (show sE (zae zaI (zab (eV 0) (zab (eV 1) zah))) [.val (zaa M),.val (.int (n:Int))]=.ok (.nx,[.val (zaa M),.val (.int (n:Int))]) by simp only [sE,zae,zab,zah,eV,zz0,zz1,zad,rf])]
  simp only [zbq,zae,zab,zah,eV,zz0,zz1,zad,e]
theorem zuj {n:Nat} {M:List (List Rat)} (h:Rows n 800 M) (hn:n<=5):∃ R,zbk [zaa M,.int (n:Int)]=.ok (zaa R)/\Res n (An n (za9 M)) 144175 R/\Facts n M:=by
  obtain ⟨R,e,r,f⟩:=zhP (a:=4801) h (zoL h (by omega)) (by omega) (by omega) (by unfold zi0;omega) (by rcases n5 hn with z | z | z | z | z | z <;> subst z <;> decide) (by rcases n5 hn with z | z | z | z | z | z <;> subst z <;> decide)
  exact ⟨R,e,zks r (by rcases n5 hn with z | z | z | z | z | z <;> subst z <;> decide),f⟩
theorem zwa {n:Nat} {M:List (List Rat)} (h:Rows n 144175 M) (hw:∀ r ∈ M,∀ j,(fn (zaM r) j).natAbs<=2 ^ 144175) (hn:n<=5):∃ R,zbk [zaa M,.int (n:Int)]=.ok (zaa R)/\Res n (An n (za9 M)) 4325395 R/\Facts n M:=by
  obtain ⟨R,e,r,f⟩:=zhP (a:=144175) h hw (by omega) (by omega) (by unfold zi0;omega) (by rcases n5 hn with z | z | z | z | z | z <;> subst z <;> decide) (by rcases n5 hn with z | z | z | z | z | z <;> subst z <;> decide)
  exact ⟨R,e,zks r (by rcases n5 hn with z | z | z | z | z | z <;> subst z <;> decide),f⟩
theorem znA {n:Nat} {A B:List (List Rat)} (hA:Rows n 800 A) (hB:Rows n 800 B) (hn:n<=5):∃ R,zcW [zaa A,zaa B,.int (n:Int)]=.ok (zaa R)/\Res n (fun v=>za9 A v/\za9 B v) 4325395 R:=by
  obtain ⟨R1,e1',r1,f1⟩:=zuj hA hn
  obtain ⟨R2,e2',r2,f2⟩:=zuj hB hn
  obtain ⟨R,e3,r3,_⟩:=zwa (M:=R1 ++ R2) (fun r hr=>(List.mem_append.mp hr).elim (r1.row r) (r2.row r)) (fun r hr=>(List.mem_append.mp hr).elim (r1.whole r) (r2.whole r)) hn
  refine ⟨R,?_,r3.congr fun v=>zsu r1 r2 f1.nn f2.nn v⟩
  rw [<- zji] at e1' e2' e3
  have rA:=zfF (fun r hr=>(hA r hr).1) (show n<=1000 by omega)
  have rB:=zfF (fun r hr=>(hB r hr).1) (show n<=1000 by omega)
  rw [<- refuse_eq] at rA rB
  have ad:zaY (zaa R1) (zaa R2)=.ok (zaa (R1 ++ R2)):=by
    show chk (leB ((R1.map zai).length + (R2.map zai).length) lim) _=_
    have l1:=r1.len
    have l2:=r2.len
    rw [zay (zdk (by rw [List.length_map,List.length_map];show _<=1000000;omega))]
    unfold zaa
    rw [List.map_append]
  refine zdo (ρ:=[.val (zaa A),.val (zaa B),.val (.int (n:Int))]) rfl ?_
  show zhq [.val (zaa A),.val (zaa B),.val (.int (n:Int))]=_
  unfold zhq
  rw [zak (show sE (zae zaI (zab (eV 0) (zab (eV 2) zah))) [.val (zaa A),.val (zaa B),.val (.int (n:Int))]=.ok (.nx,[.val (zaa A),.val (zaa B),.val (.int (n:Int))]) by simp only [sE,zae,zab,zah,eV,zz0,zz1,zad,rA])]
  rw [zak (show sE (zae zaI (zab (eV 1) (zab (eV 2) zah))) [.val (zaa A),.val (zaa B),.val (.int (n:Int))]=.ok (.nx,[.val (zaa A),.val (zaa B),.val (.int (n:Int))]) by simp only [sE,zae,zab,zah,eV,zz0,zz1,zad,rB])]
  simp only [zbq,zae,zab,zah,FL.e2,eV,zz0,zz1,zad,e1',e2',ad,e3]
theorem zrX {A:List (List Rat)} {n b:Nat} (h:Rows n b A) (hl:A.length<=1000) (hb:b<=40000000) (hn:n<=1000):zbv [zaa A,.int (n:Int)]=.ok (.bool true):=by
  have k1:zb7 "list" (zaa A)=.ok (.bool true):=rfl
  have q:zbA [.val (zaa A),.val (.int (n:Int))]=.ok (.list [],[.val (zaa A),.val (.int (n:Int))]):=by
    unfold zbA
    rw [zcI (f0:=zai) (xs:=A) (fun _=>false) zai rfl (by show _<=1000000;omega) fun r mr=>?_]
    · simp
    · refine ⟨[.val (zai r),.val (.int (n:Int))],rfl,?_,(fun c=>by cases c),za8 trivial⟩
      have ir:=zun (h r mr).1 (h r mr).2 hb hn
      rw [<- zr5] at ir
      simp only [FL.zcx,tE,zae,zab,zah,eV,zz0,zz1,zad,ir,zhG,Bool.not_true]
  refine zbd (ρ:=[.val (zaa A),.val (.int (n:Int))]) rfl ?_
  show zcf [.val (zaa A),.val (.int (n:Int))]=_
  unfold zcf
  have l0:leB 0 lim=true:=by decide
  simp only [zaw,ziY,FL.e1,FL.e2,eV,k1,q,zbF,zah,zad,zz0,zz1,List.length_nil,zay l0,eq_nil]
end K04
namespace K04
open PySem FL MD
abbrev E (a0 a1 a2 a3 a4 a5 a6 a7 a8 a9 a10 a11 a12 a13:Sl):En:=[a0,a1,a2,a3,a4,a5,a6,a7,a8,a9,a10,a11,a12,a13]
theorem zy0 (a b:List (List Rat)):neD (zaa a) (zaa b)=.ok (.bool (!decide (a=b))):=by rw [zk1 (zeG a) (zeG b),zqw]
theorem zrh {n k:Nat} {A:List (List Rat)} {S c x5 x6 x7 x8 x9 x10 x11 x12 x13:Sl} {d:D} (hp:zcQ k d) (hk:k<=5000) (hA:Rows n 139 A) (hl:A.length<=4) (hn:n<=5) (n7:Np x7) (B0:List (List Rat)) :
    ∃ ys d' y7,Np y7/\zge (E S c (.ow false d) (.val (.int (n:Int))) (.val (zaa A)) (.ow false (zaa B0)) (.val (zai (List.replicate n 0))) x7 x8 x9 x10 x11 x12 x13)=.ok (.nx,E S c (.ow false d') (.val (.int (n:Int))) (.val (zaa A)) (.ow false (zaa B0)) (.val (zai ys)) y7 x8 x9 x10 x11 x12 x13)/\ys.length=n/\(∀ x ∈ ys,QR.Bd 800 x)/\zcQ (k + 12) d':=by
  obtain ⟨ρ',e',ys,d',y7,g7,rfl,ly,by',pp⟩:=zbc (f:=zai) (g:=gN 7) (b:=zhE)
    (fun done ρ=>∃ ys d' y7,Np y7/\ρ=E S c (.ow false d') (.val (.int (n:Int))) (.val (zaa A)) (.ow false (zaa B0)) (.val (zai ys)) y7 x8 x9 x10 x11 x12 x13/\ys.length=n/\(∀ x ∈ ys,QR.Bd (1 + done.length * 155) x)/\zcQ (k + 3 * done.length) d')
    A [] (E S c (.ow false d) (.val (.int (n:Int))) (.val (zaa A)) (.ow false (zaa B0)) (.val (zai (List.replicate n 0))) x7 x8 x9 x10 x11 x12 x13) ⟨List.replicate n 0,d,x7,n7,rfl,by simp,fun x hx=>by rw [List.eq_of_mem_replicate hx];exact (QR.Bd.zero 0).mono (by omega),hp⟩ (by
      rintro pre r post ρ eq ⟨ys,d1,y7,h7,rfl,ly,by',p1⟩
      have eq:A=pre ++ r :: post:=eq
      have hr:=hA r (by rw [eq];simp)
      have pl:pre.length + 1<=A.length:=by rw [eq];simp
      obtain ⟨q,d2,t2,qb,p2⟩:=zl4 p1 (by omega)
      have sc:=zhH (c:=q) (xs:=r) (b:=139) (qb.mono (by decide)) hr.2 (by decide) (by rw [hr.1];omega)
      have bs:=zf1 qb hr.2
      have ad:=zkr (xs:=ys) (ys:=r.map fun x=>q * x) (b:=1 + (pre.length + 1) * 155) (fun x hx=>(by' x hx).mono (by omega)) (fun x hx=>(bs x hx).mono (by omega)) (by omega) (by omega)
      rw [<- zkM] at sc
      rw [<- znL] at ad
      rw [<- zpz] at t2
      refine ⟨E S c (.ow false d2) (.val (.int (n:Int))) (.val (zaa A)) (.ow false (zaa B0)) (.val (zai (List.zipWith (· + ·) ys (r.map fun x=>q * x)))) (.val (zai r)) x8 x9 x10 x11 x12 x13,.nx,?_,.inl rfl,_,_,_,zav _,rfl,by rw [List.length_zipWith,List.length_map,ly,hr.1,Nat.min_self],fun x hx=>(zkn by' bs x hx).mono (by rw [List.length_append,List.length_singleton];omega),p2.mono (by rw [List.length_append,List.length_singleton];omega)⟩
      rw [zcH (x:=y7) rfl h7,zad]
      have cn:zal zbn [.m 2] (E S c (.ow false d1) (.val (.int (n:Int))) (.val (zaa A)) (.ow false (zaa B0)) (.val (zai ys)) (.val (zai r)) x8 x9 x10 x11 x12 x13)=.ok (num q,E S c (.ow false d2) (.val (.int (n:Int))) (.val (zaa A)) (.ow false (zaa B0)) (.val (zai ys)) (.val (zai r)) x8 x9 x10 x11 x12 x13):=zmB (i:=2) (p:=false) (d:=d1) rfl t2
      show zhE (E S c (.ow false d1) (.val (.int (n:Int))) (.val (zaa A)) (.ow false (zaa B0)) (.val (zai ys)) (.val (zai r)) x8 x9 x10 x11 x12 x13)=_
      unfold zhE
      refine zbQ (i:=6) (x:=.val (zai ys)) (y:=(zai (List.zipWith (· + ·) ys (r.map fun x=>q * x)),E S c (.ow false d2) (.val (.int (n:Int))) (.val (zaa A)) (.ow false (zaa B0)) (.val (zai ys)) (.val (zai r)) x8 x9 x10 x11 x12 x13)) ?_ rfl (zav _)
      simp only [zae,zab,zah,eV,zz0,zz1,zad,cn,sc,ad])
  refine ⟨ys,d',y7,g7,?_,ly,fun x hx=>(by' x hx).mono (by rw [List.nil_append];omega),pp.mono (by rw [List.nil_append];omega)⟩
  unfold zge zcP
  exact e'
theorem zrK {n k:Nat} {A B0:List (List Rat)} {S c x6 x7 x8 x9 x10 x11 x12 x13:Sl} {d:D} (hp:zcQ k d) (hk:k<=4000) (hA:Rows n 139 A) (hl:A.length<=4) (hB:Rows n 139 B0) (hlB:B0.length<=4) (hn:n<=5) (n6:Np x6) (n7:Np x7) :
    ∃ B d' y6 y7,Np y6/\Np y7/\Rows n 800 B/\B.length<=5/\(sIf (FL.zfi (tB (e2 neD (eV 4) (zbF zah))) (tB (e2 eqD (zal zao [.m 2,.v (eC (.int 2))]) (eC (.int 0))))) (zaq (zaC (gN 6) (zae zbi (zab (eV 3) zah)))
    (zaq zge
    (zu8 5 (zal zao [.m 2,.v (e2 zaY (m1 zbD 5) (eC (.int 1)))]) (eV 6)))) sNx) (E S c (.ow false d) (.val (.int (n:Int))) (.val (zaa A)) (.ow false (zaa B0)) x6 x7 x8 x9 x10 x11 x12 x13)=.ok (.nx,E S c (.ow false d') (.val (.int (n:Int))) (.val (zaa A)) (.ow false (zaa B)) y6 y7 x8 x9 x10 x11 x12 x13):=by
  have l0:leB 0 lim=true:=by decide
  have hB8:Rows n 800 B0:=fun r hr=>⟨(hB r hr).1,fun x hx=>((hB r hr).2 x hx).mono (by decide)⟩
  have nq:neD (zaa A) (.list [])=.ok (.bool (!decide (A=[]))):=zy0 A []
  by_cases cA:A=[]
  · rw [decide_eq_true cA] at nq
    refine ⟨B0,d,x6,x7,n6,n7,hB8,by omega,?_⟩
    rw [sIf,show (FL.zfi (tB (e2 neD (eV 4) (zbF zah))) (tB (e2 eqD (zal zao [.m 2,.v (eC (.int 2))]) (eC (.int 0))))) (E S c (.ow false d) (.val (.int (n:Int))) (.val (zaa A)) (.ow false (zaa B0)) x6 x7 x8 x9 x10 x11 x12 x13)=.ok (false,E S c (.ow false d) (.val (.int (n:Int))) (.val (zaa A)) (.ow false (zaa B0)) x6 x7 x8 x9 x10 x11 x12 x13) by simp only [FL.zfi,tB,FL.e2,eV,zbF,zah,zad,zz0,zz1,List.length_nil,zay l0,nq,Bool.not_true,Bool.false_eq_true,if_false],zad,if_neg (by simp)]
    rfl
  · rw [decide_eq_false cA] at nq
    obtain ⟨w,d1,t1,w0,w2,p1⟩:=zcE hp (by omega) 2 (by decide) (by decide)
    rw [<- zlZ] at t1
    have cm:zal zao [.m 2,.v (eC (.int 2))] (E S c (.ow false d) (.val (.int (n:Int))) (.val (zaa A)) (.ow false (zaa B0)) x6 x7 x8 x9 x10 x11 x12 x13)=.ok (.int w,E S c (.ow false d1) (.val (.int (n:Int))) (.val (zaa A)) (.ow false (zaa B0)) x6 x7 x8 x9 x10 x11 x12 x13):=zdA (i:=2) (p:=false) (d:=d) rfl rfl t1
    have ew:eqD (.int w) (.int 0)=.ok (.bool (decide (w=0))):=zb9 _ _
    have tt:(FL.zfi (tB (e2 neD (eV 4) (zbF zah))) (tB (e2 eqD (zal zao [.m 2,.v (eC (.int 2))]) (eC (.int 0))))) (E S c (.ow false d) (.val (.int (n:Int))) (.val (zaa A)) (.ow false (zaa B0)) x6 x7 x8 x9 x10 x11 x12 x13)=.ok (decide (w=0),E S c (.ow false d1) (.val (.int (n:Int))) (.val (zaa A)) (.ow false (zaa B0)) x6 x7 x8 x9 x10 x11 x12 x13):=by
      simp only [FL.zfi,tB,FL.e2,eV,zbF,zah,show ∀ z ρ,eC (.int z) ρ=.ok (.int z,ρ) from fun _ _=>rfl,zad,zz0,zz1,List.length_nil,zay l0,nq,Bool.not_false,if_true,cm,ew]
    by_cases cw:w=0
    · obtain ⟨ys,d2,y7,g7,el,ly,by',p2⟩:=zrh (S:=S) (c:=c) (x5:=.no) (x6:=.no) (x8:=x8) (x9:=x9) (x10:=x10) (x11:=x11) (x12:=x12) (x13:=x13) p1 (by omega) hA hl hn n7 B0
      obtain ⟨i',d3,t3,i0,i1,p3⟩:=zcE p2 (by omega) ((B0.length + 1:Nat):Int) (by omega) (by omega)
      obtain ⟨i,rfl⟩:∃ i:Nat,i'=(i:Int):=⟨i'.toNat,by omega⟩
      rw [<- zlZ] at t3
      refine ⟨B0.take i ++ ys :: B0.drop i,d3,.val (zai ys),y7,zav _,g7,fun r hr=>?_,by rw [List.length_append,List.length_cons,List.length_take,List.length_drop];omega,?_⟩
      · rcases List.mem_append.mp hr with h | h
        · exact hB8 r (List.mem_of_mem_take h)
        · rcases List.mem_cons.mp h with h | h
          · subst h;exact ⟨ly,by'⟩
          · exact hB8 r (List.mem_of_mem_drop h)
      · rw [sIf,tt,zad,if_pos (decide_eq_true cw)]
        have bl:=znF (n:=n) (by omega)
        rw [<- blank_eq] at bl
        have s1:zaC (gN 6) (zae zbi (zab (eV 3) zah)) (E S c (.ow false d1) (.val (.int (n:Int))) (.val (zaa A)) (.ow false (zaa B0)) x6 x7 x8 x9 x10 x11 x12 x13)=.ok (.nx,E S c (.ow false d1) (.val (.int (n:Int))) (.val (zaa A)) (.ow false (zaa B0)) (.val (zai (List.replicate n 0))) x7 x8 x9 x10 x11 x12 x13):=by
          refine zbQ (i:=6) (y:=(zai (List.replicate n 0),E S c (.ow false d1) (.val (.int (n:Int))) (.val (zaa A)) (.ow false (zaa B0)) x6 x7 x8 x9 x10 x11 x12 x13)) ?_ rfl n6
          simp only [zae,zab,zah,eV,zz0,zz1,zad,bl]
        have ll:zbD (zaa B0)=.ok (.int (B0.length:Int)):=zk4 B0
        have ad:zaY (.int (B0.length:Int)) (.int 1)=.ok (.int ((B0.length + 1:Nat):Int)):=rfl
        have c3:zal zao [.m 2,.v (e2 zaY (m1 zbD 5) (eC (.int 1)))] (E S c (.ow false d2) (.val (.int (n:Int))) (.val (zaa A)) (.ow false (zaa B0)) (.val (zai ys)) y7 x8 x9 x10 x11 x12 x13)=.ok (.int (i:Int),E S c (.ow false d3) (.val (.int (n:Int))) (.val (zaa A)) (.ow false (zaa B0)) (.val (zai ys)) y7 x8 x9 x10 x11 x12 x13):=by
          refine zdA (i:=2) (p:=false) (d:=d2) (v:=.int ((B0.length + 1:Nat):Int)) rfl ?_ t3
          simp only [FL.e2,m1,zaE,show ∀ z ρ,eC (.int z) ρ=.ok (.int z,ρ) from fun _ _=>rfl,zad,zz0,zz1,ll,ad]
        have s3:(zu8 5 (zal zao [.m 2,.v (e2 zaY (m1 zbD 5) (eC (.int 1)))]) (eV 6)) (E S c (.ow false d2) (.val (.int (n:Int))) (.val (zaa A)) (.ow false (zaa B0)) (.val (zai ys)) y7 x8 x9 x10 x11 x12 x13)=.ok (.nx,E S c (.ow false d3) (.val (.int (n:Int))) (.val (zaa A)) (.ow false (zaa (B0.take i ++ ys :: B0.drop i))) (.val (zai ys)) y7 x8 x9 x10 x11 x12 x13):=by
          have lB:zdj (E S c (.ow false d3) (.val (.int (n:Int))) (.val (zaa A)) (.ow false (zaa B0)) (.val (zai ys)) y7 x8 x9 x10 x11 x12 x13) 5=.ok (B0.map zai):=rfl
          have lB2:zdj (E S c (.ow false d2) (.val (.int (n:Int))) (.val (zaa A)) (.ow false (zaa B0)) (.val (zai ys)) y7 x8 x9 x10 x11 x12 x13) 5=.ok (B0.map zai):=rfl
          have v6:eV 6 (E S c (.ow false d3) (.val (.int (n:Int))) (.val (zaa A)) (.ow false (zaa B0)) (.val (zai ys)) y7 x8 x9 x10 x11 x12 x13)=.ok (zai ys,E S c (.ow false d3) (.val (.int (n:Int))) (.val (zaa A)) (.ow false (zaa B0)) (.val (zai ys)) y7 x8 x9 x10 x11 x12 x13):=rfl
          have ii:zyl (B0.map zai) (.int (i:Int)) (zai ys)=.ok ((B0.take i ++ ys :: B0.drop i).map zai):=by
            show chk _ _=_
            rw [zay (by simp only [Bool.and_eq_true,decide_eq_true_eq];exact ⟨⟨by omega,zdk (by rw [List.length_map];omega)⟩,zdk (by rw [List.length_map];show _<=1000000;omega)⟩)]
            rw [Int.toNat_natCast,List.map_append,List.map_cons,List.map_take,List.map_drop]
          unfold zu8
          rw [lB2,zad,c3,zad,v6,zad,lB,zad,ii,zad]
          rfl
        show (zaq (zaC (gN 6) (zae zbi (zab (eV 3) zah)))
    (zaq zge
    (zu8 5 (zal zao [.m 2,.v (e2 zaY (m1 zbD 5) (eC (.int 1)))]) (eV 6)))) (E S c (.ow false d1) (.val (.int (n:Int))) (.val (zaa A)) (.ow false (zaa B0)) x6 x7 x8 x9 x10 x11 x12 x13)=_
        rw [zak s1,zak el]
        exact s3
    · refine ⟨B0,d1,x6,x7,n6,n7,hB8,by omega,?_⟩
      rw [sIf,tt,zad,if_neg (by simpa using cw)]
      rfl
theorem zqE {M:List (List Rat)} {i:Nat} {ρ:En} (h:ρ[i]?=some (.val (zaa M))) (hl:M.length<=1000):zaW 1 [] (iE (eV i)) (gN 0) za5 (e1 zfS (eV 0)) ρ=.ok (zaa M,ρ):=by
  rw [zb0 (f0:=zai) (xs:=M) zai (by simp only [iE,eV,h,zad];rfl) (by show _<=1000000;omega) fun r mr=>?_]
  · rfl
  · exact ⟨[.val (zai r)],rfl,rfl,za8 trivial⟩
theorem zjJ {n H:Nat} {V:Rq->Prop} {R:List (List Rat)} (r:Res n V H R) (hH:H<=40000000) (hn:n<=5):zbv [zaa R,.int (n:Int)]=.ok (.bool true)/\zbw [zaa R]=.ok (.bool true):=by
  have l:=r.len
  have ir:=zrX r.row (by omega) hH (show n<=1000 by omega)
  obtain ⟨K,e,k,_⟩:=zts r
  refine ⟨ir,?_⟩
  rw [e]
  rw [e,List.length_map] at l
  exact zuA k (by omega) (by omega)
theorem znh {n H B:Nat} {V:Rq->Prop} {R:List (List Rat)} (r:Res n V H R) {xs:List Rat} (lx:xs.length=n) (bx:∀ x ∈ xs,QR.Bd B x) (hx:V (fq xs)) (hn:n<=5) (hB:1<=B) (hb:B + 6 * (B + H + 1)<=40000000):zcM [zaa R,zai xs]=.ok (.bool true):=by
  have l:=r.len
  have rr:=r.row
  obtain ⟨K,e,k,rep⟩:=zts r
  rw [e,List.length_map] at l
  rw [e] at rr ⊢
  refine zuo k (fun x hx=>(rr _ (List.mem_map_of_mem hx)).2) (by omega) (by omega) lx bx (rep _ hx) hB (Nat.le_trans (Nat.add_le_add_left (Nat.mul_le_mul_right _ (by omega)) _) hb)
set_option maxHeartbeats 4000000 in
theorem zty {n:Nat} {A B:List (List Rat)} {S c P x6 x7 x8 x9 x10 x11 x12 x13:Sl} (hA:Rows n 800 A) (lA:A.length<=4) (hB:Rows n 800 B) (lB:B.length<=5) (hn:n<=5) (n6:Np x6) (n8:Np x8) (n9:Np x9) (n10:Np x10) (n11:Np x11) (n12:Np x12) (n13:Np x13) :
    ∃ y6 y8 y9 y10 y11 y12 y13,Np y6/\Np y8/\Np y9/\Np y10/\Np y11/\Np y12/\Np y13/\(zaq (zcy 8 (zdd 8 zhL))
    (zaq (znY 5 (zcy 9 (zdd 9 zgg)))
    (zaq (zaC (gN 10) (zbF (zab (zae zez (zab (eV 8) (zab (eV 3) zah))) (zab (zae zez (zab (eV 9) (zab (eV 3) zah))) zah))))
    (zaq (zaC (gN 11) (zae zcm (zab (eV 8) (zab (eV 3) zah))))
    (zaq (zaC (gN 12) (zae zcW (zab (eV 8) (zab (eV 9) (zab (eV 3) zah)))))
    (zaq zhx
    (zaq zhw
    (zaq (sIf (FL.tOr (tB (e2 neD (e2 zaY (e1 zbD (eV 11)) (e1 zbD (e2 ixD (eV 10) (eC (.int 0))))) (eV 3))) (tB (e2 neD (zae zcm (zab (eV 11) (zab (eV 3) zah))) (e2 ixD (eV 10) (eC (.int 0)))))) (zaw (eC (.bool false))) sNx)
    (zaq (sIf (tB (e2 neD zgf (zbF zah))) (zaw (eC (.bool false))) sNx)
    (zaq (sIf (tB (e2 neD (e2 zaY (e1 zbD (eV 12)) (e1 zbD (zae zez (zab (e2 zaY (eV 8) (eV 9)) (zab (eV 3) zah))))) (e2 zaY (e1 zbD (e2 ixD (eV 10) (eC (.int 0)))) (e1 zbD (e2 ixD (eV 10) (eC (.int 1))))))) (zaw (eC (.bool false))) sNx)
    (sIf (FL.tOr (tB (e2 neD (zae zcW (zab (eV 9) (zab (eV 8) (zab (eV 3) zah)))) (eV 12))) (FL.tOr (tB (e2 neD (eV 8) (eV 4))) (tB (e2 neD (eV 9) (eV 5))))) (zaw (eC (.bool false))) sNx))))))))))) (E S c P (.val (.int (n:Int))) (.val (zaa A)) (.ow false (zaa B)) x6 x7 x8 x9 x10 x11 x12 x13)=.ok (.nx,E S c P (.val (.int (n:Int))) (.val (zaa A)) (.val (zaa B)) y6 x7 y8 y9 y10 y11 y12 y13):=by
  obtain ⟨R0,k0,r0,f0⟩:=zpU hA hn
  obtain ⟨R1,k1,r1,f1⟩:=zpU hB hn
  obtain ⟨T,kT,rT,_⟩:=zuj hA hn
  have kT:=zkX (fun r hr=>(hA r hr).1) hn kT
  obtain ⟨W,kW,rW⟩:=znA hA hB hn
  obtain ⟨W',kW',rW'⟩:=znA hB hA hn
  have eW:W=W':=rW.uniq (rW'.congr fun v=>And.comm)
  subst eW
  obtain ⟨T',kT',rT',_⟩:=zwa rT.row rT.whole hn
  have kT':=zkX (fun r hr=>(rT.row r hr).1) hn kT'
  have eT:R0=T':=r0.uniq (rT'.congr fun v=>(An.congr (rT.room (An.rm n _)) v).trans (f0.nn v))
  subst eT
  have hAB:Rows n 800 (A ++ B):=fun r hr=>(List.mem_append.mp hr).elim (hA r) (hB r)
  obtain ⟨J,kJ,rJ,_⟩:=zpU hAB hn
  obtain ⟨b0,c0,e0⟩:=r0.dim
  obtain ⟨b1,c1,e1'⟩:=r1.dim
  obtain ⟨bT,cT,eT'⟩:=rT.dim
  obtain ⟨bW,cW,eW'⟩:=rW.dim
  obtain ⟨bJ,cJ,eJ⟩:=rJ.dim
  have d1:=f0.dim b0 bT c0 cT
  have d2:=zuR c0 c1 cW cJ (za9.rm A) (za9.rm B) (fun v=>Iff.rfl) zp1
  have s6:zcy 8 (zdd 8 zhL) (E S c P (.val (.int (n:Int))) (.val (zaa A)) (.ow false (zaa B)) x6 x7 x8 x9 x10 x11 x12 x13)=.ok (.nx,E S c P (.val (.int (n:Int))) (.val (zaa A)) (.ow false (zaa B)) x6 x7 (.val (zaa A)) x9 x10 x11 x12 x13):=by
    unfold zcy
    rw [zdZ (i:=8) (f:=zhL) (x:=x8) (zqE (M:=A) (i:=4) rfl (by omega)) rfl n8]
    rfl
  have s7:znY 5 (zcy 9 (zdd 9 zgg)) (E S c P (.val (.int (n:Int))) (.val (zaa A)) (.ow false (zaa B)) x6 x7 (.val (zaa A)) x9 x10 x11 x12 x13)=.ok (.nx,E S c P (.val (.int (n:Int))) (.val (zaa A)) (.val (zaa B)) x6 x7 (.val (zaa A)) (.val (zaa B)) x10 x11 x12 x13):=by
    show zcy 9 (zdd 9 zgg) (E S c P (.val (.int (n:Int))) (.val (zaa A)) (.val (zaa B)) x6 x7 (.val (zaa A)) x9 x10 x11 x12 x13)=_
    unfold zcy
    rw [zdZ (i:=9) (f:=zgg) (x:=x9) (zqE (M:=B) (i:=5) rfl (by omega)) rfl n9]
    rfl
  have l2:leB 2 lim=true:=by decide
  have l0:leB 0 lim=true:=by decide
  have s8:(zaC (gN 10) (zbF (zab (zae zez (zab (eV 8) (zab (eV 3) zah))) (zab (zae zez (zab (eV 9) (zab (eV 3) zah))) zah)))) (E S c P (.val (.int (n:Int))) (.val (zaa A)) (.val (zaa B)) x6 x7 (.val (zaa A)) (.val (zaa B)) x10 x11 x12 x13)=.ok (.nx,E S c P (.val (.int (n:Int))) (.val (zaa A)) (.val (zaa B)) x6 x7 (.val (zaa A)) (.val (zaa B)) (.val (.list [zaa R0,zaa R1])) x11 x12 x13):=by
    refine zbQ (i:=10) (y:=(.list [zaa R0,zaa R1],E S c P (.val (.int (n:Int))) (.val (zaa A)) (.val (zaa B)) x6 x7 (.val (zaa A)) (.val (zaa B)) x10 x11 x12 x13)) ?_ rfl n10
    simp only [zbF,zae,zab,zah,eV,zz0,zz1,zad,k0,k1,List.length_cons,List.length_nil,Nat.reduceAdd,zay l2]
  have s9:zaC (gN 11) (zae zcm (zab (eV 8) (zab (eV 3) zah))) (E S c P (.val (.int (n:Int))) (.val (zaa A)) (.val (zaa B)) x6 x7 (.val (zaa A)) (.val (zaa B)) (.val (.list [zaa R0,zaa R1])) x11 x12 x13)=.ok (.nx,E S c P (.val (.int (n:Int))) (.val (zaa A)) (.val (zaa B)) x6 x7 (.val (zaa A)) (.val (zaa B)) (.val (.list [zaa R0,zaa R1])) (.val (zaa T)) x12 x13):=by
    refine zbQ (i:=11) (y:=(zaa T,E S c P (.val (.int (n:Int))) (.val (zaa A)) (.val (zaa B)) x6 x7 (.val (zaa A)) (.val (zaa B)) (.val (.list [zaa R0,zaa R1])) x11 x12 x13)) ?_ rfl n11
    simp only [zae,zab,zah,eV,zz0,zz1,zad,kT]
  have s10:zaC (gN 12) (zae zcW (zab (eV 8) (zab (eV 9) (zab (eV 3) zah)))) (E S c P (.val (.int (n:Int))) (.val (zaa A)) (.val (zaa B)) x6 x7 (.val (zaa A)) (.val (zaa B)) (.val (.list [zaa R0,zaa R1])) (.val (zaa T)) x12 x13)=.ok (.nx,E S c P (.val (.int (n:Int))) (.val (zaa A)) (.val (zaa B)) x6 x7 (.val (zaa A)) (.val (zaa B)) (.val (.list [zaa R0,zaa R1])) (.val (zaa T)) (.val (zaa W)) x13):=by
    refine zbQ (i:=12) (y:=(zaa W,E S c P (.val (.int (n:Int))) (.val (zaa A)) (.val (zaa B)) x6 x7 (.val (zaa A)) (.val (zaa B)) (.val (.list [zaa R0,zaa R1])) (.val (zaa T)) x12 x13)) ?_ rfl n12
    simp only [zae,zab,zah,eV,zz0,zz1,zad,kW]
  obtain ⟨y13,g13,s11⟩:∃ y13,Np y13/\zhx (E S c P (.val (.int (n:Int))) (.val (zaa A)) (.val (zaa B)) x6 x7 (.val (zaa A)) (.val (zaa B)) (.val (.list [zaa R0,zaa R1])) (.val (zaa T)) (.val (zaa W)) x13)=.ok (.nx,E S c P (.val (.int (n:Int))) (.val (zaa A)) (.val (zaa B)) x6 x7 (.val (zaa A)) (.val (zaa B)) (.val (.list [zaa R0,zaa R1])) (.val (zaa T)) (.val (zaa W)) y13):=by
    have all:∀ Q ∈ [R0,R1,T,W],zbv [zaa Q,.int (n:Int)]=.ok (.bool true)/\zbw [zaa Q]=.ok (.bool true):=fun Q hQ=>by
      simp only [List.mem_cons,List.not_mem_nil,or_false] at hQ
      rcases hQ with h | h | h | h
      · rw [h];exact zjJ r0 (by decide) hn
      · rw [h];exact zjJ r1 (by decide) hn
      · rw [h];exact zjJ rT (by decide) hn
      · rw [h];exact zjJ rW (by decide) hn
    obtain ⟨ρ',e',y13,g13,rfl⟩:=zbc (f:=zaa) (g:=gN 13) (b:=zhD)
      (fun _ ρ=>∃ y13,Np y13/\ρ=E S c P (.val (.int (n:Int))) (.val (zaa A)) (.val (zaa B)) x6 x7 (.val (zaa A)) (.val (zaa B)) (.val (.list [zaa R0,zaa R1])) (.val (zaa T)) (.val (zaa W)) y13) [R0,R1,T,W] [] (E S c P (.val (.int (n:Int))) (.val (zaa A)) (.val (zaa B)) x6 x7 (.val (zaa A)) (.val (zaa B)) (.val (.list [zaa R0,zaa R1])) (.val (zaa T)) (.val (zaa W)) x13) ⟨x13,n13,rfl⟩ (by
        rintro pre Q post ρ eq ⟨y13,h13,rfl⟩
        obtain ⟨q1,q2⟩:=all Q (by rw [show [R0,R1,T,W]=pre ++ Q :: post from eq];simp)
        refine ⟨_,.nx,?_,.inl rfl,.val (zaa Q),zav _,rfl⟩
        rw [zcH (x:=y13) rfl h13,zad]
        show zhD (E S c P (.val (.int (n:Int))) (.val (zaa A)) (.val (zaa B)) x6 x7 (.val (zaa A)) (.val (zaa B)) (.val (.list [zaa R0,zaa R1])) (.val (zaa T)) (.val (zaa W)) (.val (zaa Q)))=_
        unfold zhD
        simp only [sIf,sNx,FL.tOr,FL.zcx,tE,tB,zae,zab,zah,FL.e1,FL.e2,eV,eC,zad,zz0,zz1,zhG,Bool.not_true,Bool.not_false,Bool.false_eq_true,if_false,if_true,q1,q2])
    refine ⟨y13,g13,?_⟩
    unfold zhx zcP
    have ad:zaY (.list [zaa R0,zaa R1]) (.list [zaa T,zaa W])=.ok (.list [zaa R0,zaa R1,zaa T,zaa W]):=rfl
    have it:iE (e2 zaY (eV 10) (zbF (zab (eV 11) (zab (eV 12) zah)))) (E S c P (.val (.int (n:Int))) (.val (zaa A)) (.val (zaa B)) x6 x7 (.val (zaa A)) (.val (zaa B)) (.val (.list [zaa R0,zaa R1])) (.val (zaa T)) (.val (zaa W)) x13)=.ok ([R0,R1,T,W].map zaa,E S c P (.val (.int (n:Int))) (.val (zaa A)) (.val (zaa B)) x6 x7 (.val (zaa A)) (.val (zaa B)) (.val (.list [zaa R0,zaa R1])) (.val (zaa T)) (.val (zaa W)) x13):=by
      simp only [iE,FL.e2,zbF,zab,zah,eV,zz0,zz1,zad,List.length_cons,List.length_nil,Nat.reduceAdd,zay l2,ad,zfV]
      rfl
    rw [it,zad]
    exact e'
  have n00:neD (.int 0) (.int 0)=.ok (.bool false):=by rw [zbT];rfl
  have nnil:neD (.list []) (.list [])=.ok (.bool false):=rfl
  obtain ⟨y6,g6,s12⟩:∃ y6,Np y6/\zhw (E S c P (.val (.int (n:Int))) (.val (zaa A)) (.val (zaa B)) x6 x7 (.val (zaa A)) (.val (zaa B)) (.val (.list [zaa R0,zaa R1])) (.val (zaa T)) (.val (zaa W)) y13)=.ok (.nx,E S c P (.val (.int (n:Int))) (.val (zaa A)) (.val (zaa B)) y6 x7 (.val (zaa A)) (.val (zaa B)) (.val (.list [zaa R0,zaa R1])) (.val (zaa T)) (.val (zaa W)) y13):=by
    obtain ⟨ρ',e',y6,g6,rfl⟩:=zbc (f:=zai) (g:=gN 6) (b:=zhC)
      (fun _ ρ=>∃ y6,Np y6/\ρ=E S c P (.val (.int (n:Int))) (.val (zaa A)) (.val (zaa B)) y6 x7 (.val (zaa A)) (.val (zaa B)) (.val (.list [zaa R0,zaa R1])) (.val (zaa T)) (.val (zaa W)) y13) A [] (E S c P (.val (.int (n:Int))) (.val (zaa A)) (.val (zaa B)) x6 x7 (.val (zaa A)) (.val (zaa B)) (.val (.list [zaa R0,zaa R1])) (.val (zaa T)) (.val (zaa W)) y13) ⟨x6,n6,rfl⟩ (by
        rintro pre r post ρ eq ⟨y6,h6,rfl⟩
        have hr:r ∈ A:=by rw [show A=pre ++ r :: post from eq];simp
        refine ⟨_,.nx,?_,.inl rfl,.val (zai r),zav _,rfl⟩
        rw [zcH (x:=y6) rfl h6,zad]
        show zhC (E S c P (.val (.int (n:Int))) (.val (zaa A)) (.val (zaa B)) (.val (zai r)) x7 (.val (zaa A)) (.val (zaa B)) (.val (.list [zaa R0,zaa R1])) (.val (zaa T)) (.val (zaa W)) y13)=_
        have q2:zjP (E S c P (.val (.int (n:Int))) (.val (zaa A)) (.val (zaa B)) (.val (zai r)) x7 (.val (zaa A)) (.val (zaa B)) (.val (.list [zaa R0,zaa R1])) (.val (zaa T)) (.val (zaa W)) y13)=.ok (.list [],E S c P (.val (.int (n:Int))) (.val (zaa A)) (.val (zaa B)) (.val (zai r)) x7 (.val (zaa A)) (.val (zaa B)) (.val (.list [zaa R0,zaa R1])) (.val (zaa T)) (.val (zaa W)) y13):=by
          unfold zjP
          rw [zcI (f0:=zai) (xs:=T) (fun _=>false) zai rfl (by have:=rT.len;show _<=1000000;omega) fun t mt=>?_]
          · simp
          · refine ⟨[.val (zai t),.val (zai r)],rfl,?_,(fun c=>by cases c),za8 trivial⟩
            have pr:=zmj (rT.row t mt).1 (hA r hr).1 (rT.row t mt).2 (hA r hr).2 (Nat.le_trans (Nat.add_le_add_right (Nat.mul_le_mul_right _ (show n + 1<=6 by omega)) 1) (by decide))
            rw [(rT.mem t mt).2 _ (za9.mem hr),<- zn5] at pr
            have iz:ixD (num 0) (.int 0)=.ok (.int 0):=rfl
            simp only [tB,FL.e2,zae,zab,zah,eV,eC,zad,zz0,zz1,pr,iz,n00]
        unfold zhC
        simp only [sIf,tB,FL.e2,q2,zbF,zah,sNx,zad,List.length_nil,zay l0,nnil,Bool.false_eq_true,if_false])
    refine ⟨y6,g6,?_⟩
    unfold zhw zcP
    exact e'
  have i0:ixD (.list [zaa R0,zaa R1]) (.int 0)=.ok (zaa R0):=rfl
  have i1:ixD (.list [zaa R0,zaa R1]) (.int 1)=.ok (zaa R1):=rfl
  have adn:∀ a b:Nat,zaY (.int (a:Int)) (.int (b:Int))=.ok (.int ((a + b:Nat):Int)):=fun _ _=>rfl
  have nen:∀ a b:Nat,a=b->neD (.int (a:Int)) (.int (b:Int))=.ok (.bool false):=fun a b e=>by rw [zbT,decide_eq_true (by omega)];rfl
  have nd1:=nen (T.length + R0.length) n (by omega)
  have nd2:=nen (W.length + J.length) (R0.length + R1.length) (by omega)
  have ne0:=zk0 (zeG R0)
  have neA:=zk0 (zeG A)
  have neB:=zk0 (zeG B)
  have neW:=zk0 (zeG W)
  have lT:=zk4 T
  have lR0:=zk4 R0
  have lR1:=zk4 R1
  have lW:=zk4 W
  have lJ:=zk4 J
  have adAB:zaY (zaa A) (zaa B)=.ok (zaa (A ++ B)):=by
    show chk (leB ((A.map zai).length + (B.map zai).length) lim) _=_
    rw [zay (zdk (by rw [List.length_map,List.length_map];show _<=1000000;omega))]
    unfold zaa
    rw [List.map_append]
  have s13:sIf (FL.tOr (tB (e2 neD (e2 zaY (e1 zbD (eV 11)) (e1 zbD (e2 ixD (eV 10) (eC (.int 0))))) (eV 3))) (tB (e2 neD (zae zcm (zab (eV 11) (zab (eV 3) zah))) (e2 ixD (eV 10) (eC (.int 0)))))) (zaw (eC (.bool false))) sNx (E S c P (.val (.int (n:Int))) (.val (zaa A)) (.val (zaa B)) y6 x7 (.val (zaa A)) (.val (zaa B)) (.val (.list [zaa R0,zaa R1])) (.val (zaa T)) (.val (zaa W)) y13)=.ok (.nx,E S c P (.val (.int (n:Int))) (.val (zaa A)) (.val (zaa B)) y6 x7 (.val (zaa A)) (.val (zaa B)) (.val (.list [zaa R0,zaa R1])) (.val (zaa T)) (.val (zaa W)) y13):=by
    simp only [sIf,sNx,FL.tOr,FL.zcx,tE,tB,zae,zab,zah,FL.e1,FL.e2,eV,eC,zad,zz0,zz1,zhG,Bool.not_true,Bool.not_false,Bool.false_eq_true,if_false,if_true,lT,i0,lR0,adn,nd1,kT',ne0]
  have q3:zgf (E S c P (.val (.int (n:Int))) (.val (zaa A)) (.val (zaa B)) y6 x7 (.val (zaa A)) (.val (zaa B)) (.val (.list [zaa R0,zaa R1])) (.val (zaa T)) (.val (zaa W)) y13)=.ok (.list [],E S c P (.val (.int (n:Int))) (.val (zaa A)) (.val (zaa B)) y6 x7 (.val (zaa A)) (.val (zaa B)) (.val (.list [zaa R0,zaa R1])) (.val (zaa T)) (.val (zaa W)) y13):=by
    unfold zgf
    rw [zcI (f0:=zai) (xs:=W) (fun _=>false) zai rfl (by have:=rW.len;show _<=1000000;omega) fun w mw=>?_]
    · simp
    · refine ⟨[.val (zai w),.val (.list [zaa R0,zaa R1])],rfl,?_,(fun c=>by cases c),za8 trivial⟩
      have rw':=rW.row w mw
      have m:=rW.mem w mw
      have a1:=znh r0 rw'.1 rw'.2 m.1 hn (by decide) (by decide)
      have a2:=znh r1 rw'.1 rw'.2 m.2 hn (by decide) (by decide)
      simp only [FL.tOr,FL.zcx,tE,tB,zae,zab,zah,FL.e1,FL.e2,eV,eC,zad,zz0,zz1,zhG,Bool.not_true,Bool.not_false,Bool.false_eq_true,if_false,if_true,i0,i1,a1,a2]
  have s14:sIf (tB (e2 neD zgf (zbF zah))) (zaw (eC (.bool false))) sNx (E S c P (.val (.int (n:Int))) (.val (zaa A)) (.val (zaa B)) y6 x7 (.val (zaa A)) (.val (zaa B)) (.val (.list [zaa R0,zaa R1])) (.val (zaa T)) (.val (zaa W)) y13)=.ok (.nx,E S c P (.val (.int (n:Int))) (.val (zaa A)) (.val (zaa B)) y6 x7 (.val (zaa A)) (.val (zaa B)) (.val (.list [zaa R0,zaa R1])) (.val (zaa T)) (.val (zaa W)) y13):=by
    simp only [sIf,tB,FL.e2,q3,zbF,zah,sNx,zad,List.length_nil,zay l0,nnil,Bool.false_eq_true,if_false]
  have s15:sIf (tB (e2 neD (e2 zaY (e1 zbD (eV 12)) (e1 zbD (zae zez (zab (e2 zaY (eV 8) (eV 9)) (zab (eV 3) zah))))) (e2 zaY (e1 zbD (e2 ixD (eV 10) (eC (.int 0)))) (e1 zbD (e2 ixD (eV 10) (eC (.int 1))))))) (zaw (eC (.bool false))) sNx (E S c P (.val (.int (n:Int))) (.val (zaa A)) (.val (zaa B)) y6 x7 (.val (zaa A)) (.val (zaa B)) (.val (.list [zaa R0,zaa R1])) (.val (zaa T)) (.val (zaa W)) y13)=.ok (.nx,E S c P (.val (.int (n:Int))) (.val (zaa A)) (.val (zaa B)) y6 x7 (.val (zaa A)) (.val (zaa B)) (.val (.list [zaa R0,zaa R1])) (.val (zaa T)) (.val (zaa W)) y13):=by
    simp only [sIf,sNx,FL.tOr,FL.zcx,tE,tB,zae,zab,zah,FL.e1,FL.e2,eV,eC,zad,zz0,zz1,zhG,Bool.not_true,Bool.not_false,Bool.false_eq_true,if_false,if_true,lW,adAB,kJ,lJ,i0,i1,lR0,lR1,adn,nd2]
  have s16:sIf (FL.tOr (tB (e2 neD (zae zcW (zab (eV 9) (zab (eV 8) (zab (eV 3) zah)))) (eV 12))) (FL.tOr (tB (e2 neD (eV 8) (eV 4))) (tB (e2 neD (eV 9) (eV 5))))) (zaw (eC (.bool false))) sNx (E S c P (.val (.int (n:Int))) (.val (zaa A)) (.val (zaa B)) y6 x7 (.val (zaa A)) (.val (zaa B)) (.val (.list [zaa R0,zaa R1])) (.val (zaa T)) (.val (zaa W)) y13)=.ok (.nx,E S c P (.val (.int (n:Int))) (.val (zaa A)) (.val (zaa B)) y6 x7 (.val (zaa A)) (.val (zaa B)) (.val (.list [zaa R0,zaa R1])) (.val (zaa T)) (.val (zaa W)) y13):=by
    simp only [sIf,sNx,FL.tOr,FL.zcx,tE,tB,zae,zab,zah,FL.e1,FL.e2,eV,eC,zad,zz0,zz1,zhG,Bool.not_true,Bool.not_false,Bool.false_eq_true,if_false,if_true,kW',neW,neA,neB]
  refine ⟨y6,.val (zaa A),.val (zaa B),.val (.list [zaa R0,zaa R1]),.val (zaa T),.val (zaa W),y13,g6,zav _,zav _,zav _,zav _,zav _,g13,?_⟩
  rw [zak s6,zak s7,zak s8,zak s9,zak s10,zak s11,zak s12,zak s13,zak s14,zak s15]
  exact s16
theorem zuW (S:Sl) (a:Int) {x2 x3 x4 x5 x6 x7 x8 x9 x10 x11 x12 x13:Sl} (n2:Np x2) (n3:Np x3) (n4:Np x4) (n5:Np x5) (n6:Np x6) (n7:Np x7) (n8:Np x8) (n9:Np x9) (n10:Np x10) (n11:Np x11) (n12:Np x12) (n13:Np x13) :
    ∃ y2 y3 y4 y5 y6 y7 y8 y9 y10 y11 y12 y13,Np y2/\Np y3/\Np y4/\Np y5/\Np y6/\Np y7/\Np y8/\Np y9/\Np y10/\Np y11/\Np y12/\Np y13/\zhB (E S (.val (.int a)) x2 x3 x4 x5 x6 x7 x8 x9 x10 x11 x12 x13)=.ok (.nx,E S (.val (.int a)) y2 y3 y4 y5 y6 y7 y8 y9 y10 y11 y12 y13):=by
  obtain ⟨d,ed,pd⟩:=zrx a 4 (by decide)
  obtain ⟨n',d1,t1,n0,n1,p1⟩:=zcE pd (by decide) 6 (by decide) (by decide)
  obtain ⟨n,rfl⟩:∃ n:Nat,n'=(n:Int):=⟨n'.toNat,by omega⟩
  obtain ⟨A,d2,eA,lA,hA,p2⟩:=znx (m:=5) p1 (by decide) (n:=n) (by omega) (by decide) (by decide)
  obtain ⟨B0,d3,eB,lB,hB,p3⟩:=znx (m:=5) p2 (by decide) (n:=n) (by omega) (by decide) (by decide)
  have rA:Rows n 139 A:=fun r hr=>⟨(hA.row r hr).1,fun x hx=>((hA.row r hr).2 x hx).mono (by omega)⟩
  have rB:Rows n 139 B0:=fun r hr=>⟨(hB.row r hr).1,fun x hx=>((hB.row r hr).2 x hx).mono (by omega)⟩
  rw [<- zry] at ed
  rw [<- zlZ] at t1
  rw [<- zsm] at eA eB
  have s1:zdd 2 (zae zcX (zab (eV 1) (zab (eC (.int 4)) zah))) (E S (.val (.int a)) x2 x3 x4 x5 x6 x7 x8 x9 x10 x11 x12 x13)=.ok (.nx,E S (.val (.int a)) (.ow false d) x3 x4 x5 x6 x7 x8 x9 x10 x11 x12 x13) :=
    zdZ (i:=2) (y:=(d,E S (.val (.int a)) x2 x3 x4 x5 x6 x7 x8 x9 x10 x11 x12 x13)) (by simp only [zae,zab,zah,eV,eC,zad,zz0,zz1,ed]) rfl n2
  have s2:zaC (gN 3) (zal zao [.m 2,.v (eC (.int 6))]) (E S (.val (.int a)) (.ow false d) x3 x4 x5 x6 x7 x8 x9 x10 x11 x12 x13)=.ok (.nx,E S (.val (.int a)) (.ow false d1) (.val (.int (n:Int))) x4 x5 x6 x7 x8 x9 x10 x11 x12 x13) :=
    zbQ (i:=3) (y:=(.int (n:Int),E S (.val (.int a)) (.ow false d1) x3 x4 x5 x6 x7 x8 x9 x10 x11 x12 x13)) (zdA (i:=2) (p:=false) (d:=d) rfl rfl t1) rfl n3
  have s3:zaC (gN 4) (zal zbK [.m 2,.v (eV 3)]) (E S (.val (.int a)) (.ow false d1) (.val (.int (n:Int))) x4 x5 x6 x7 x8 x9 x10 x11 x12 x13)=.ok (.nx,E S (.val (.int a)) (.ow false d2) (.val (.int (n:Int))) (.val (zaa A)) x5 x6 x7 x8 x9 x10 x11 x12 x13) :=
    zbQ (i:=4) (y:=(zaa A,E S (.val (.int a)) (.ow false d2) (.val (.int (n:Int))) x4 x5 x6 x7 x8 x9 x10 x11 x12 x13)) (zdA (i:=2) (p:=false) (d:=d1) rfl rfl eA) rfl n4
  have s4:zdd 5 (zal zbK [.m 2,.v (eV 3)]) (E S (.val (.int a)) (.ow false d2) (.val (.int (n:Int))) (.val (zaa A)) x5 x6 x7 x8 x9 x10 x11 x12 x13)=.ok (.nx,E S (.val (.int a)) (.ow false d3) (.val (.int (n:Int))) (.val (zaa A)) (.ow false (zaa B0)) x6 x7 x8 x9 x10 x11 x12 x13) :=
    zdZ (i:=5) (y:=(zaa B0,E S (.val (.int a)) (.ow false d3) (.val (.int (n:Int))) (.val (zaa A)) x5 x6 x7 x8 x9 x10 x11 x12 x13)) (zdA (i:=2) (p:=false) (d:=d2) rfl rfl eB) rfl n5
  obtain ⟨B,d4,y6,y7,g6,g7,hB8,lB5,s5⟩:=zrK (S:=S) (c:=.val (.int a)) (x8:=x8) (x9:=x9) (x10:=x10) (x11:=x11) (x12:=x12) (x13:=x13) p3 (by decide) rA (by omega) rB (by omega) (by omega) n6 n7
  have hA8:Rows n 800 A:=fun r hr=>⟨(rA r hr).1,fun x hx=>((rA r hr).2 x hx).mono (by decide)⟩
  obtain ⟨z6,z8,z9,z10,z11,z12,z13,m6,m8,m9,m10,m11,m12,m13,et⟩:=zty (S:=S) (c:=.val (.int a)) (P:=.ow false d4) (x7:=y7) hA8 (by omega) hB8 lB5 (by omega) g6 n8 n9 n10 n11 n12 n13
  refine ⟨.ow false d4,.val (.int (n:Int)),.val (zaa A),.val (zaa B),z6,y7,z8,z9,z10,z11,z12,z13,zxH _,zav _,zav _,zav _,m6,g7,m8,m9,m10,m11,m12,m13,?_⟩
  unfold zhB
  rw [zak s1,zak s2,zak s3,zak s4,zak s5]
  exact et
theorem zrY (ns:List Int) (hl:ns.length<=63):zq1 [.list (ns.map PyData.int)]=.ok (.bool true):=by
  obtain ⟨a,ea⟩:=zx5 ns 2 (by decide) (by decide)
  rw [<- zx6] at ea
  obtain ⟨ρ',e,_⟩:=zbc (f:=fun i:Int=>PyData.int i) (g:=gN 1) (b:=zhB)
    (fun done ρ=>∃ y1 y2 y3 y4 y5 y6 y7 y8 y9 y10 y11 y12 y13,Np y1/\Np y2/\Np y3/\Np y4/\Np y5/\Np y6/\Np y7/\Np y8/\Np y9/\Np y10/\Np y11/\Np y12/\Np y13/\ρ=E (.val (.list (ns.map PyData.int))) y1 y2 y3 y4 y5 y6 y7 y8 y9 y10 y11 y12 y13)
    (cut ns none (some 2) ++ [a]) [] (E (.val (.list (ns.map PyData.int))) .no .no .no .no .no .no .no .no .no .no .no .no .no) ⟨.no,.no,.no,.no,.no,.no,.no,.no,.no,.no,.no,.no,.no,za2,za2,za2,za2,za2,za2,za2,za2,za2,za2,za2,za2,za2,rfl⟩ (by
      rintro pre i post ρ e ⟨y1,y2,y3,y4,y5,y6,y7,y8,y9,y10,y11,y12,y13,h1,h2,h3,h4,h5,h6,h7,h8,h9,h10,h11,h12,h13,rfl⟩
      obtain ⟨z2,z3,z4,z5,z6,z7,z8,z9,z10,z11,z12,z13,m2,m3,m4,m5,m6,m7,m8,m9,m10,m11,m12,m13,et⟩:=zuW (.val (.list (ns.map PyData.int))) i h2 h3 h4 h5 h6 h7 h8 h9 h10 h11 h12 h13
      exact ⟨_,.nx,by rw [zcH (x:=y1) rfl h1,zad];exact et,.inl rfl,_,z2,z3,z4,z5,z6,z7,z8,z9,z10,z11,z12,z13,zav _,m2,m3,m4,m5,m6,m7,m8,m9,m10,m11,m12,m13,rfl⟩)
  have l1:leB 1 lim=true:=by decide
  have sl:zfE (.list (ns.map PyData.int)) none (some 2)=.ok (.list ((cut ns none (some 2)).map PyData.int)):=by
    show R.ok (PyData.list (cut (ns.map PyData.int) none (some 2)))=_
    rw [zul]
  have ad:zaY (.list ((cut ns none (some 2)).map PyData.int)) (.list [.int a])=.ok (.list ((cut ns none (some 2) ++ [a]).map PyData.int)):=by
    show chk (leB (((cut ns none (some 2)).map PyData.int).length + 1) lim) _=_
    rw [zay (zdk (by
      rw [List.length_map]
      have:(cut ns none (some 2)).length<=ns.length:=by unfold cut;rw [List.length_take,List.length_drop];omega
      show _<=1000000;omega)),List.map_append]
    rfl
  have s1:zjE (E (.val (.list (ns.map PyData.int))) .no .no .no .no .no .no .no .no .no .no .no .no .no)=.ok (.nx,ρ'):=by
    unfold zjE zcP
    have hi:iE (e2 zaY (eSl (eV 0) zjY (zjX (eC (.int 2)))) (zbF (zab (zae zgc (zab (eV 0) (zab (eC (.int 2)) zah))) zah))) (E (.val (.list (ns.map PyData.int))) .no .no .no .no .no .no .no .no .no .no .no .no .no)=.ok ((cut ns none (some 2) ++ [a]).map PyData.int,E (.val (.list (ns.map PyData.int))) .no .no .no .no .no .no .no .no .no .no .no .no .no):=by
      simp only [iE,FL.e2,eSl,zjY,zjX,zbF,zae,zab,zah,eV,eC,zad,zz0,sl,ea,List.length_cons,List.length_nil,Nat.reduceAdd,zay l1,ad,zfV]
    rw [hi,zad]
    exact e
  refine zbd (ρ:=ρ') rfl ?_
  show zsA (E (.val (.list (ns.map PyData.int))) .no .no .no .no .no .no .no .no .no .no .no .no .no)=_
  unfold zsA
  rw [zak s1]
  rfl
end K04
open PySem PySem.W PyProof.Rows
theorem PySem.W.Fast.tw2545037253750484929 : True := trivial
theorem PySem.W.Fast.tw3810285318446438889 : True := trivial
theorem PySem.W.Fast.tw3756567735595097421 : True := trivial
theorem PySem.W.Fast.tw5538376434369481363 : True := trivial
theorem PySem.W.Fast.tw9357960965564576598 : True := trivial
theorem PySem.W.Fast.tw7847616631762440023 : True := trivial
theorem PySem.W.Fast.tw4807565429164573272 : True := trivial
theorem PySem.W.Fast.tw17519810990924881242 : True := trivial
theorem PySem.W.Fast.tw5945792583829204826 : True := trivial
theorem PySem.W.Fast.tw14392702185322471583 : True := trivial
set_option maxRecDepth 100000 in
set_option maxHeartbeats 0 in
theorem PySem.Challenge.cw_swaprest_k04_noughts_and_common_holds : PySem.Challenge.rw_swaprest_k04_noughts_and_common.Holds := by
 w_on; o_law; k_head; (case hw => w_witness2)
 k_fill
 refine K04.walk (l:=PySem.Challenge.rw_swaprest_k04_noughts_and_common) K04.zrY rfl rfl (by decide +kernel) rfl (fun w h Y => PySem.W.kIn_of Y) ?F
 case F =>
  intro w mg fa h KX G hmg
  refine' K04.all_mk KX G hmg ?oo0 ?oo1 ?oo2 ?oo3 ?oo4 ?oo5 ?oo6 ?oo7 ?oo8 ?oo9 ?oo10 ?oo11 ?oo12 ?oo13 ?oo14 ?oo15 ?oo16 ?oo17 ?oo18 ?oo19 ?oo20 ?oo21 ?oo22 ?oo23 ?oo24 ?oo25 ?oo26 ?oo27 ?oo28 ?oo29 ?oo30 ?oo31 ?oo32 ?oo33 ?oo34 ?oo35 ?oo36 ?oo37 ?oo38 ?oo39 ?oo40 ?oo41 ?oo42 ?oo43 ?oo44 ?oo45 ?oo46 ?oo47 ?oo48 ?oo49 ?oo50 ?oo51 ?oo52 ?oo53 ?oo54 ?oo55 ?oo56 ?oo57 ?oo58 ?oo59 ?oo60 ?oo61 ?oo62
  (case oo0 | oo1 | oo2 | oo3 | oo4 | oo5 | oo6 | oo7 | oo8 | oo9 | oo10 | oo11 | oo12 | oo13 | oo14 | oo15 | oo16 | oo17 | oo18 | oo19 | oo20 | oo21 | oo22 | oo23 | oo24 | oo25 | oo26 | oo27 | oo28 | oo29 | oo30 | oo31 | oo32 | oo33 | oo34 | oo35 | oo36 | oo37 | oo38 | oo39 | oo40 => refine' FL.zwA KX G ?Zq ?Zl ?Zc ?Zk; (case Zq => k_is); (case Zl => k_is); (case Zc => k_is); (case Zk => k_is))
  (case oo41 | oo42 | oo43 | oo44 | oo45 | oo46 | oo47 | oo48 | oo49 | oo50 | oo51 | oo52 | oo53 | oo54 | oo55 | oo56 | oo57 | oo58 | oo59 | oo60 | oo61 | oo62 => k_is)
