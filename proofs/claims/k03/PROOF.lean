import PyProof.Rows.All
import Wide.All
import OpenK.AllK
import Wide.FinOn
import Lean
import PyProof.EqAt
import PyProof.EqKinds
import PyProof.TupleCall
import PyProof.EqLayable
import PyProof.StationsW
import PyProof.NsDelKeeps
import PyProof.ExcArgsOwn
import PyProof.ExcAttrAll.ValueError
import PyProof.ZipIter
import PyProof.EnumFor
import PyProof.EnumStmt
import PyProof.EnumMake
import PyProof.ConsumeWalk
import PyProof.Cells
import PyProof.CompUse
import PyProof.DictIter
import PyProof.DictWalks
import PyProof.CollectWalk
import PyProof.WalksS
import PyProof.DictRoadsH
import KE.KSortTup
import PyProof.P3In
import KE.KRevSl
import PyProof.P3Statements
import KE.KMinKey
import PyProof.ReprReads
import PyProof.ReprRoads
import PyProof.Conv_int_bool
import PySem.Challenge.RW_swaprest_k03_sums_or_tests
set_option Elab.async false
set_option linter.all false
set_option maxRecDepth 100000
set_option maxHeartbeats 4000000
namespace L2
open PySem PySem.Spec PyProof.Rows
abbrev Key:=Sum Int Str
def zmc:Key->Value->Bool
 | .inl k,v=>Value.isInt k v
 | .inr x,v=>Value.isStrOf x v
def zyA (w:World):Key->Int
 | .inl k=>hashInt k
 | .inr x=>hashStr w x
theorem zaY:∀ {k:Key} {v:Value},zmc k v=true->(∃ i t,k=Sum.inl i/\v=Value.int i t)\/(∃ x t,k=Sum.inr x/\v=Value.str x t)
 | .inl i,v,h=>by
  obtain ⟨t,e⟩:=Value.isInt_shape (k:=i) (v:=v) h
  exact .inl ⟨i,t,rfl,e⟩
 | .inr x,v,h=>by
  obtain ⟨t,e⟩:=Value.isStrOf_shape (x:=x) (v:=v) h
  exact .inr ⟨x,t,rfl,e⟩
theorem zpF (i:Int) (t:Tok):zmc (.inl i) (.int i t)=true:=by simp [zmc,Value.isInt]
theorem zpE (x:Str) (t:Tok):zmc (.inr x) (.str x t)=true:=by simp [zmc,Value.isStrOf]
theorem zv0 (a b:Int):decide ((Sum.inl a:Key)=Sum.inl b)=(a == b):=by
 by_cases e:a=b
 ·subst e;simp
 ·have h:¬ (Sum.inl a:Key)=Sum.inl b:=fun q=>e (Sum.inl.inj q)
  rw [decide_eq_false h]
  exact (beq_eq_false_iff_ne.mpr e).symm
theorem zvX (a b:Str):decide ((Sum.inr a:Key)=Sum.inr b)=decide (a=b):=by
 by_cases e:a=b
 ·subst e;simp
 ·have h:¬ (Sum.inr a:Key)=Sum.inr b:=fun q=>e (Sum.inr.inj q)
  rw [decide_eq_false h,decide_eq_false e]
theorem zvZ (a:Int) (b:Str):decide ((Sum.inl a:Key)=Sum.inr b)=false:=decide_eq_false (fun q=>nomatch q)
theorem zvY (a:Str) (b:Int):decide ((Sum.inr a:Key)=Sum.inl b)=false:=decide_eq_false (fun q=>nomatch q)
def za3 (prog:Program) (w:World):PySem.KeyKind prog w Key where
 is:=zmc
 hash:=zyA w
 inj:=fun v a b ha hb=>by
  rcases zaY ha with ⟨i,t,rfl,rfl⟩ | ⟨x,t,rfl,rfl⟩
  ·rcases zaY hb with ⟨j,u,rfl,e⟩ | ⟨y,u,rfl,e⟩
   ·injection e with e1 _;rw [e1]
   ·exact nomatch e
  ·rcases zaY hb with ⟨j,u,rfl,e⟩ | ⟨y,u,rfl,e⟩
   ·exact nomatch e
   ·injection e with e1 _;rw [e1]
 byValue:=fun k v h=>by
  rcases zaY h with ⟨i,t,rfl,rfl⟩ | ⟨x,t,rfl,rfl⟩ <;> rfl
 pyHash:=fun hv h=>by
  rcases zaY hv with ⟨i,t,rfl,rfl⟩ | ⟨x,t,rfl,rfl⟩
  ·exact wpAny_pyHash_int h
  ·exact wpAny_pyHash_str h
 eqBool:=fun hu hv h=>by
  rcases zaY hu with ⟨i,t,rfl,rfl⟩ | ⟨x,t,rfl,rfl⟩
  ·rcases zaY hv with ⟨j,u,rfl,rfl⟩ | ⟨y,u,rfl,rfl⟩
   ·rw [zv0] at h;exact wpAny_eqBool_int h
   ·rw [zvZ] at h;exact SeqAt.EqAt.int_str i t y u _ _ _ _ h
  ·rcases zaY hv with ⟨j,u,rfl,rfl⟩ | ⟨y,u,rfl,rfl⟩
   ·rw [zvY] at h;exact SeqAt.EqAt.str_int x t j u _ _ _ _ h
   ·rw [zvX] at h;exact wpAny_eqBool_str h
 «strs»:=fun k x t v h=>by
  rcases zaY h with ⟨i,u,rfl,e⟩ | ⟨y,u,rfl,e⟩
  ·exact nomatch e
  ·injection e with e1 _
   subst e1
   cases v <;> rfl
theorem zl9 (prog:Program) (w:World) (i:Int) (t:Tok):(za3 prog w).is (.inl i) (.int i t)=true:=zpF i t
theorem zl8 (prog:Program) (w:World) (x:Str) (t:Tok):(za3 prog w).is (.inr x) (.str x t)=true:=zpE x t
end L2
namespace L2
open PySem PySem.Spec PyProof.Rows
inductive V where
 | non | bl (b:Bool) | int (i:Int) | str (x:Str) | byt (b:Array UInt8) | flt (b:UInt64) | ref (a:Addr) | ty (n:String)
 deriving DecidableEq
def RelV:V->Value->Prop
 | .non,u=>u=Value.none
 | .bl b,u=>u=Value.bool b
 | .int i,u=>∃ t,u=Value.int i t
 | .str x,u=>∃ t,u=Value.str x t
 | .byt b,u=>∃ t,u=Value.bytes b t
 | .flt b,u=>∃ t,u=Value.float b t
 | .ref a,u=>u=Value.ref a
 | .ty n,u=>u=Value.type n
abbrev Vals:List V->List Value->Prop:=Paired RelV
theorem Vals.length {xs:List V} {us:List Value} (r:Vals xs us):xs.length=us.length:=Paired.length r
theorem Vals.get:∀ {xs:List V} {us:List Value} {i:Nat} {x:V},Vals xs us->xs[i]?=some x->∃ u,us[i]?=some u/\RelV x u
 | _,_,_,_,.nil,e=>by simp at e
 | _,_,0,_,.cons r _,e=>by simp at e;subst e;exact ⟨_,rfl,r⟩
 | _,_,i + 1,x,.cons _ t,e=>by
  obtain ⟨u,h1,h2⟩:=Vals.get (i:=i) (x:=x) t (by simpa using e)
  exact ⟨u,by simpa using h1,h2⟩
theorem Vals.set {x:V} {u:Value} (r:RelV x u):∀ {xs:List V} {us:List Value} (i:Nat),Vals xs us->Vals (xs.set i x) (us.set i u)
 | _,_,_,.nil=>.nil
 | _,_,0,.cons _ t=>.cons r t
 | _,_,i + 1,.cons q t=>.cons q (Vals.set r i t)
theorem Vals.append:∀ {xs ys:List V} {us ws:List Value},Vals xs us->Vals ys ws->Vals (xs ++ ys) (us ++ ws)
 | _,_,_,_,.nil,s=>s
 | _,_,_,_,.cons r t,s=>.cons r (Vals.append t s)
theorem Vals.take:∀ {xs:List V} {us:List Value} (n:Nat),Vals xs us->Vals (xs.take n) (us.take n)
 | _,_,0,_=>.nil
 | _,_,_ + 1,.nil=>.nil
 | _,_,n + 1,.cons r t=>.cons r (Vals.take n t)
theorem Vals.drop:∀ {xs:List V} {us:List Value} (n:Nat),Vals xs us->Vals (xs.drop n) (us.drop n)
 | _,_,0,r=>r
 | _,_,_ + 1,.nil=>.nil
 | _,_,n + 1,.cons _ t=>Vals.drop n t
def zqM:Option V->Option Value->Prop
 | some v,some u=>RelV v u
 | none,none=>True
 | _,_=>False
def KV {κ:Type}:List (κ × V)->List (κ × Value)->Prop:=Paired fun (p:κ × V) (q:κ × Value)=>p.1=q.1/\RelV p.2 q.2
def kV:Key->V
 | .inl i=>.int i
 | .inr x=>.str x
inductive HO where
 /-- a list -/
 | lst (xs:List V)
 /-- a tuple (never changes) -/
 | tup (xs:List V)
 /-- a dict whose keys are ints and texts;one whose keys are tuples of ints and texts (the empty one is both) -/
 | dK (kvs:List (Key × V)) | dT (kvs:List (List Key × V))
 /-- a set of ints: its members,its size -/
 | set (S:Int->Bool) (n:Nat)
 /-- an instance of the class at C,its dict at dx,its attributes -/
 | ins (C dx:Addr) (fs:List (Str × V))
 /-- the dict of the instance at x -/
 | own (x:Addr)
 /-- the dict of an exception -/
 | xd (fs:List (Str × V))
 /-- a bound method,f of x -/
 | met (f x:Addr)
 /-- a range object lo,lo + 1,.. below hi -/
 | rng (lo hi:Int)
 /-- a thing that is known to the object (the script;a dict while a loop walks it): read,never written while it is so -/
 | frz (o:Obj) (u:HO)
 /-- a code object's table -/
 | tbl (ps:Array Value)
 /-- any other thing,by what is true of its one object (a def of one's own: SetO a S n:=HO.ext fun h=>..) -/
 | ext (φ:Heap->Prop)
abbrev Hp:=Addr->Option HO
def upd (H:Hp) (a:Addr) (o:HO):Hp:=fun b=>if b=a then some o else H b
theorem zap {H:Hp} {a:Addr} {o:HO}:upd H a o a=some o:=by unfold upd;rw [if_pos rfl]
theorem zau {H:Hp} {a b:Addr} {o:HO} (h:b ≠ a):upd H a o b=H b:=by unfold upd;rw [if_neg h]
theorem zhc {H:Hp} {a:Addr} {o u:HO}:upd (upd H a o) a u=upd H a u:=by
 funext b;unfold upd;split <;> rfl
theorem zkK {H:Hp} {a b:Addr} {o u:HO} (h:H a=some o) (h':H b=some u) (d:o ≠ u):a ≠ b:=by
 intro e;subst e;rw [h] at h';exact d (Option.some.inj h')
theorem zbR {H:Hp} {a b:Addr} {o:HO} (h:H a=some o) (h':H b=none):a ≠ b:=by
 intro e;subst e;rw [h] at h';cases h'
def TAt (H:Hp) (b:Addr) (xs:List V):Prop:=H b=some (.tup xs)\/∃ o,H b=some (.frz o (.tup xs))
theorem TAt.upd {H:Hp} {a b:Addr} {u:HO} {xs:List V} (q:TAt H b xs) (n1:∀ ys,H b=some (.tup ys)->b ≠ a) (n2:∀ o ys,H b=some (.frz o (.tup ys))->b ≠ a):TAt (upd H a u) b xs:=by
 rcases q with q | ⟨o,q⟩
 ·left;rw [zau (n1 _ q)];exact q
 ·right;exact ⟨o,by rw [zau (n2 _ _ q)];exact q⟩
section
variable (P:Program) (w:World)
def zbx (H:Hp) (h:Heap) (a:Addr):HO->Prop
 | .lst xs=>xs.length<=sizeLine/\∃ (its:List Value) (n:Nat),Vals xs its/\h.get? a=some { cls:=.type "list",data:=.seq its.toArray n }
 | .tup xs=>xs.length<=sizeLine/\∃ its:List Value,Vals xs its/\IsTup h a its.toArray
 | .dK kvs=>kvs.length<=sizeLine/\(a == sysModules)=false/\∃ vs,KV kvs vs/\h.DictOf (za3 P w) a vs
 | .dT kvs=>kvs.length<=sizeLine/\(a == sysModules)=false/\∃ xs:List (List Key × Addr × Value),
   Paired (fun (p:List Key × V) (q:List Key × Addr × Value)=>p.1=q.1/\TAt H q.2.1 (p.1.map kV)/\RelV p.2 q.2.2) kvs xs /\
   ∃ o es ep,h.get? a=some o/\o.ExactDict/\o.data=.dict es ep/\es.toList=xs.map (entryOfKey (tupleKind (za3 P w)))/\(xs.map (·.1)).Nodup
 | .set S n=>h.SetOf (intKind P w) a S n
 | .ins C dx fs=>H dx=some (.own a)/\fs.length<=1000/\dx ≠ a/\h.get? a=some (PySem.W.instObj C dx) /\
   ∃ mA,h.Ns1 dx mA/\(∀ f,zqM (fs.lookup f) (mA f))/\PySem.Within mA (fs.map (·.1))
 | .own _=>∃ o,h.get? a=some o
 | .xd fs=>∃ mA,h.Ns1 a mA/\∀ f,zqM (fs.lookup f) (mA f)
 | .rng lo hi=>∃ t u v,h.get? a=some { cls:=.type "range",data:=.fields #[.int lo t,.int hi u,.int 1 v] }
 | .frz o u=>h.get? a=some o/\zbx H h a u
 | .tbl ps=>h.get? a=some { cls:=.none,data:=.fields ps }
 | .met f x=>h.get? a=some (PySem.W.methodObj (.ref f) (.ref x))
 | .ext φ=>φ h/\(∃ o,h.get? a=some o)/\∀ h1 h2:Heap,φ h1->(∀ o,h1.get? a=some o->h2.get? a=some o)->φ h2
def HOk (H:Hp) (h:Heap):Prop:=∀ a o,H a=some o->zbx P w H h a o
end
section
variable {P:Program} {w:World} {H H':Hp} {h h':Heap} {a:Addr} {o:HO}
theorem zbx.lt (x:zbx P w H h a o):a < h.objs.size:=by
 cases o with
 | lst xs=>obtain ⟨_,_,_,_,e⟩:=x;exact Heap.lt_size e
 | tup xs=>obtain ⟨_,_,_,p⟩:=x;exact p.lt
 | dK kvs=>obtain ⟨_,_,_,_,o,_,_,e,_⟩:=x;exact Heap.lt_size e
 | dT kvs=>obtain ⟨_,_,_,_,o,_,_,e,_⟩:=x;exact Heap.lt_size e
 | set S n=>obtain ⟨o,_,_,_,e,_⟩:=x;exact Heap.lt_size e
 | ins C dx fs=>obtain ⟨_,_,_,e,_⟩:=x;exact Heap.lt_size e
 | own y=>obtain ⟨_,e⟩:=x;exact Heap.lt_size e
 | xd fs=>obtain ⟨_,⟨_,_,_,e,_⟩,_⟩:=x;exact Heap.lt_size e
 | rng lo hi=>obtain ⟨_,_,_,e⟩:=x;exact Heap.lt_size e
 | frz ob u=>obtain ⟨e,_⟩:=x;exact Heap.lt_size e
 | tbl ps=>exact Heap.lt_size (show h.get? a=some _ from x)
 | met f y=>exact Heap.lt_size (show h.get? a=some _ from x)
 | ext φ=>obtain ⟨_,⟨_,e⟩,_⟩:=x;exact Heap.lt_size e
theorem Paired.zxm {α β:Type} {F G:α->β->Prop}:∀ {l₁:List α} {l₂:List β},Paired F l₁ l₂->(∀ a b,F a b->G a b)->Paired G l₁ l₂
 | _,_,.nil,_=>.nil
 | _,_,.cons r t,f=>.cons (f _ _ r) (Paired.zxm t f)
theorem zbx.stay (x:zbx P w H h a o) (k:∀ b u,(b=a\/H b=some (.own a))->h.get? b=some u->h'.get? b=some u)
  (ho:∀ b,H b=some (.own a)->H' b=some (.own a)) (ht:∀ b xs,TAt H b xs->TAt H' b xs):zbx P w H' h' a o:=by
 induction o with
 | lst xs=>obtain ⟨z,its,n,r,e⟩:=x;exact ⟨z,its,n,r,k _ _ (.inl rfl) e⟩
 | tup xs=>obtain ⟨z,its,r,ob,e,c⟩:=x;exact ⟨z,its,r,ob,k _ _ (.inl rfl) e,c⟩
 | dK kvs=>obtain ⟨z,y,vs,r,ob,es,ep,e,c⟩:=x;exact ⟨z,y,vs,r,ob,es,ep,k _ _ (.inl rfl) e,c⟩
 | dT kvs =>
  obtain ⟨z,y,xs,r,ob,es,ep,e,c⟩:=x
  exact ⟨z,y,xs,Paired.zxm r fun p q z=>⟨z.1,ht _ _ z.2.1,z.2.2⟩,ob,es,ep,k _ _ (.inl rfl) e,c⟩
 | set S n=>obtain ⟨ob,es,ep,t,e,c⟩:=x;exact ⟨ob,es,ep,t,k _ _ (.inl rfl) e,c⟩
 | ins C dx fs =>
  obtain ⟨d,z,ne,e,mA,⟨od,es,ep,e2,c⟩,r⟩:=x
  exact ⟨ho _ d,z,ne,k _ _ (.inl rfl) e,mA,⟨od,es,ep,k _ _ (.inr d) e2,c⟩,r⟩
 | own y=>obtain ⟨ob,e⟩:=x;exact ⟨ob,k _ _ (.inl rfl) e⟩
 | xd fs=>obtain ⟨mA,⟨od,es,ep,e,c⟩,r⟩:=x;exact ⟨mA,⟨od,es,ep,k _ _ (.inl rfl) e,c⟩,r⟩
 | rng lo hi=>obtain ⟨t,u,v,e⟩:=x;exact ⟨t,u,v,k _ _ (.inl rfl) e⟩
 | frz ob u ih=>obtain ⟨e,q⟩:=x;exact ⟨k _ _ (.inl rfl) e,ih q⟩
 | tbl ps =>
  have e:h.get? a=some { cls:=.none,data:=.fields ps }:=x
  show h'.get? a=some { cls:=.none,data:=.fields ps }
  exact k a _ (.inl rfl) e
 | met f y =>
  have e:h.get? a=some (PySem.W.methodObj (.ref f) (.ref y)):=x
  show h'.get? a=some (PySem.W.methodObj (.ref f) (.ref y))
  exact k a _ (.inl rfl) e
 | ext φ=>obtain ⟨p,⟨o,e⟩,st⟩:=x;exact ⟨st _ _ p fun o q=>k _ _ (.inl rfl) q,⟨o,k _ _ (.inl rfl) e⟩,st⟩
theorem HOk.lt (x:HOk P w H h) (e:H a=some o):a < h.objs.size:=(x a o e).lt
theorem HOk.fresh (x:HOk P w H h) (e:h.objs.size<=a):H a=none:=by
 cases q:H a with
 | none=>rfl
 | some u=>exact absurd (Nat.lt_of_lt_of_le (x.lt q) e) (Nat.lt_irrefl _)
theorem HOk.kept (x:HOk P w H h) (k:∀ b u,h.get? b=some u->h'.get? b=some u):HOk P w H h':=fun a o e =>
 (x a o e).stay (fun b u _ q=>k b u q) (fun _ q=>q) fun _ _ q=>q
theorem HOk.laid (x:HOk P w H h) (k:∀ b u,h.get? b=some u->h'.get? b=some u) (hp:h.objs.size<=a) (new:zbx P w (upd H a o) h' a o):HOk P w (upd H a o) h':=fun b u e=>by
 have hn:=x.fresh hp
 by_cases hb:b=a
 ·subst hb;rw [zap] at e;cases e;exact new
 ·rw [zau hb] at e
  exact (x b u e).stay (fun c v _ q=>k c v q) (fun c q=>by rw [zau (zbR q hn)];exact q) fun c xs q=>q.upd (fun _ r=>zbR r hn) fun _ _ r=>zbR r hn
end
def Rd (H:Hp) (a:Addr) (u:HO):Prop:=H a=some u\/∃ o,H a=some (.frz o u)
theorem Rd.ok {P:Program} {w:World} {H:Hp} {h:Heap} {a:Addr} {u:HO} (r:Rd H a u) (x:HOk P w H h):zbx P w H h a u:=by
 rcases r with r | ⟨o,r⟩
 ·exact x a u r
 ·obtain ⟨_,q⟩:=x a _ r
  exact q
def Mut:Option HO->Prop
 | some (.lst _)=>True
 | some (.dK _)=>True
 | some (.dT _)=>True
 | some (.set _ _)=>True
 | some (.ins _ _ _)=>True
 | some (.ext _)=>True
 | _=>False
section
variable {P:Program} {w:World} {H:Hp} {h h':Heap} {x e:Addr} {o':HO}
theorem HOk.write (ok:HOk P w H h) (mu:Mut (H x)) (he:e=x\/H e=some (.own x)) (k:∀ b u,b ≠ e->h.get? b=some u->h'.get? b=some u) (heo:∃ u,h'.get? e=some u)
  (new:zbx P w (upd H x o') h' x o'):HOk P w (upd H x o') h':=fun b u q=>by
 have nown:∀ c y,H c=some (.own y)->c ≠ x:=fun c y r z=>by subst z;rw [r] at mu;exact mu
 have ntup:∀ c xs,H c=some (.tup xs)->c ≠ x:=fun c xs r z=>by subst z;rw [r] at mu;exact mu
 by_cases hb:b=x
 ·subst hb;rw [zap] at q;cases q;exact new
 ·rw [zau hb] at q
  by_cases hbe:b=e
  ·have q':H b=some (.own x):=by
    rcases he with z | z
    ·exact absurd (hbe.trans z) hb
    ·rw [hbe];exact z
   rw [q] at q';cases q'
   obtain ⟨v,hv⟩:=heo
   exact ⟨v,by rw [hbe];exact hv⟩
  ·refine (ok b u q).stay (fun c v hc r=>k c v ?_ r) (fun c r=>by rw [zau (nown c b r)];exact r) fun c xs r=>r.upd (fun ys z=>ntup c ys z) fun o ys z e=>by subst e;rw [z] at mu;exact mu
   rcases hc with rfl | hc
   ·exact hbe
   ·rintro rfl
    rcases he with z | z
    ·exact nown c b hc z
    ·rw [hc] at z;cases z;exact hb rfl
end
structure Un (fs ex:List Addr) (H H':Hp) (h h':Heap):Prop where
 keep:∀ b o,h.get? b=some o->H b=none->b ∉ fs->b ∉ ex->h'.get? b=some o
 slot:∀ b o,h.get? b=some o->H b=none->b ∈ fs->b ∉ ex->∃ sl,h'.get? b=some { o with slots:=sl }
 free:∀ b o,h.get? b=some o->H b=none->b ∉ ex->H' b=none
 there:∀ b o,h.get? b=some o->b ∉ ex->∃ o',h'.get? b=some o'
 tups:∀ b xs,H b=some (.tup xs)->H' b=some (.tup xs)
 frzs:∀ b o u,H b=some (.frz o u)->H' b=some (.frz o u)
 tbls:∀ b ps,H b=some (.tbl ps)->∃ more,H' b=some (.tbl (ps ++ more))
section
variable {fs fs' ex ex':List Addr} {H H1 H2:Hp} {h h1 h2 h':Heap} {a x e:Addr} {o:HO}
theorem Un.any (u:Un fs ex H H1 h h1) {b:Addr} {ob:Obj} (q:h.get? b=some ob) (n:H b=none) (hx:b ∉ ex):∃ sl,h1.get? b=some { ob with slots:=sl }:=by
 by_cases hb:b ∈ fs
 ·exact u.slot b ob q n hb hx
 ·exact ⟨ob.slots,u.keep b ob q n hb hx⟩
theorem Un.kept (k:∀ b u,h.get? b=some u->h'.get? b=some u):Un fs ex H H h h' :=
 ⟨fun b ob q _ _ _=>k b ob q,fun b ob q _ _ _=>⟨ob.slots,k b ob q⟩,fun _ _ _ n _=>n,fun b ob q _=>⟨ob,k b ob q⟩,fun _ _ q=>q,fun _ _ _ q=>q,fun _ ps q=>⟨#[],by rw [q];simp⟩⟩
theorem Un.refl:Un fs ex H H h h:=Un.kept fun _ _ q=>q
theorem Un.laid (k:∀ b u,h.get? b=some u->h'.get? b=some u) (hp:h.objs.size<=a) (hn:H a=none):Un fs ex H (upd H a o) h h' where
 keep:=fun b u q _ _ _=>k b u q
 slot:=fun b u q _ _ _=>⟨u.slots,k b u q⟩
 free:=fun b u q n _=>by rw [zau (Nat.ne_of_lt (Nat.lt_of_lt_of_le (Heap.lt_size q) hp))];exact n
 there:=fun b u q _=>⟨u,k b u q⟩
 tups:=fun b xs q=>by rw [zau (zbR q hn)];exact q
 frzs:=fun b u xs q=>by rw [zau (zbR q hn)];exact q
 tbls:=fun b ps q=>⟨#[],by rw [zau (zbR q hn),q];simp⟩
theorem Un.write (mu:Mut (H x)) (he:e=x\/H e=some (.own x)) (k:∀ b u,b ≠ e->h.get? b=some u->h'.get? b=some u) (heo:∃ u,h'.get? e=some u):Un fs ex H (upd H x o) h h':=by
 have hx:∀ b,H b=none->b ≠ x:=fun b n z=>by subst z;rw [n] at mu;exact mu
 have hb:∀ b,H b=none->b ≠ e:=fun b n z=>by
  subst z
  rcases he with r | r
  ·exact hx b n r
  ·rw [n] at r;cases r
 have hm:∀ b u,H b=some u->¬ Mut (some u)->b ≠ x:=fun b u q nm z=>by subst z;rw [q] at mu;exact nm mu
 refine ⟨fun b u q n _ _=>k b u (hb b n) q,fun b u q n _ _=>⟨u.slots,k b u (hb b n) q⟩,fun b u q n _=>by rw [zau (hx b n)];exact n,fun b u q _=>?_,
  fun b xs q=>by rw [zau (hm b _ q fun z=>z)];exact q,fun b u xs q=>by rw [zau (hm b _ q fun z=>z)];exact q,fun b ps q=>⟨#[],by rw [zau (hm b _ q fun z=>z),q];simp⟩⟩
 by_cases hbe:b=e
 ·subst hbe;exact heo
 ·exact ⟨u,k b u hbe q⟩
end
def trk (h:Heap) (H:Hp):List Addr:=(List.range h.objs.size).filter fun a=>(H a).isSome
def zrK (h:Heap) (H:Hp):Heap:=PySem.W.hideAll h (trk h H)
theorem zpS (h:Heap) (H:Hp):(zrK h H).objs.size=h.objs.size:=PySem.W.hideAll_size _ _
theorem zrJ {h:Heap} {H:Hp} {b:Addr} {o:Obj} (e:h.get? b=some o) (n:H b=none):(zrK h H).get? b=some o :=
 PySem.W.hideAll_get _ e fun hm=>by
  have q:(H b).isSome=true:=(List.mem_filter.mp hm).2
  rw [n] at q;simp at q
theorem ztU {h:Heap} {H:Hp} {b:Addr} {o:Obj} (e:(zrK h H).get? b=some o):h.get? b=some o/\H b=none:=by
 have e':h.get? b=some o:=PySem.W.of_hideAll (trk h H) e
 refine ⟨e',?_⟩
 cases q:H b with
 | none=>rfl
 | some x =>
  have hm:b ∈ trk h H:=List.mem_filter.mpr ⟨List.mem_range.mpr (Heap.lt_size e'),by simp [q]⟩
  have z:(zrK h H).get? b=none:=PySem.W.hideAll_none (trk h H) hm
  rw [z] at e;cases e
def zux (g h:Heap) (L:Addr):List (Addr × Obj):=(List.range h.objs.size).filterMap fun a=>if a=L\/(g.get? a).isSome=true then none else (h.get? a).map fun o=>(a,o)
def rest (g h:Heap) (L d:Addr):List (Addr × Obj):=(zux g h L).filter fun p=>decide (p.1 ≠ d)
end L2
namespace L2
open PySem PySem.Spec PyProof.Rows
structure Mod (K:PySem.W.Frag) (mg:Str->Option Value) (base:Heap):Prop where
 kin:K.In base
 glob:base.Ns mainGlobals mg
 blt:∃ mb,base.Ns builtinsNs mb/\∀ x:Str,x ≠ "__name__"->mb x=bootBuiltins x
 nolimit:base.NoLimit
 seer:base.NoSeer
def zyJ (l:List Env):Prop:=∃ env r,l=env :: r/\env.scope.isGenerator=false/\env.scope.isCoroutine=false/\env.builtins=builtinsNs/\env.globals=mainGlobals
structure Cx where
 prog:Program
 w:World
 K:PySem.W.Frag
 mg:Str->Option Value
 base:Heap
 A:Around
 N:List Str
 s₀:Shared
 H₀:Hp
 env:Env
 outer:List Env
 stack:List Env
 ex:List Addr
 fn:Str->Bool
 calm:Bool
 pn:List (Addr × Obj)
 xe:Value->Shared->Prop
def frs (l:List Env):List Addr:=l.filterMap (·.frame)
abbrev Cx.fs (X:Cx):List Addr:=frs X.outer
def Vis (sc:Scope) (x:Str):Prop:=sc.names.lookup x=some .local\/sc.names.lookup x=some .cell\/sc.names.lookup x=some .free
def Loc (sc:Scope) (x:Str):Prop:=sc.names.lookup x=some .local\/sc.names.lookup x=some .cell
def Look (env:Env) (h:Heap) (m:Str->Option Value) (x:Str) (u:Value):Prop :=
 (env.kindOf x=some .local/\m x=some u)\/((env.kindOf x=some .cell\/env.kindOf x=some .free)/\∃ c,env.cells.lookup x=some c/\h.IsCell c (some u))
structure Cx.Ok (X:Cx):Prop where
 mod:Mod X.K X.mg X.base
 kind:X.env.scope.kind=.function
 glob:X.env.globals=mainGlobals
 blt:X.env.builtins=builtinsNs
 above:X.s₀.heap.objs.size<=X.env.locals
 inj:∀ x y c,X.env.cells.lookup x=some c->X.env.cells.lookup y=some c->x=y
 has:∀ x,(X.env.kindOf x=some .cell\/X.env.kindOf x=some .free)->∃ c,X.env.cells.lookup x=some c
 cab:∀ x c,X.fn x=true->X.env.cells.lookup x=some c->X.s₀.heap.objs.size<=c
 hd:X.calm=true->X.A.handled=none
 frames:X.A.frames=some X.stack
 stk:X.stack=X.outer\/(X.stack=X.env :: X.outer/\X.env.frame=some X.env.locals)
 exf:∀ b ∈ X.ex,b ≠ X.env.locals/\∀ x c,X.env.cells.lookup x=some c->c ≠ b
 bs:∀ b o,X.base.get? b=some o->X.s₀.heap.get? b=some o/\X.H₀ b=none
 bsz:X.base.objs.size<=X.s₀.heap.objs.size
 noex:∀ b o,X.base.get? b=some o->b ∉ X.ex
 exfs:∀ b ∈ X.ex,b ∉ X.fs
 zp1:X.s₀.heap.FunFrames X.base X.outer
 frf:∀ b ∈ X.fs,X.H₀ b=none
 tree:X.prog.given.tree=none
 sk:zyJ X.stack
structure Inv (X:Cx) (pins:List (Addr × Obj)) (σ:List (Option V)) (H:Hp) (s:Shared):Prop where
 ok:X.Ok
 os:s.os=X.s₀.os
 bare:AllBare s.gens
 base:Un X.fs X.ex X.H₀ H X.s₀.heap s.heap
 loc:∃ m,s.heap.Ns X.env.locals m/\∀ (i:Nat) (x:Str) (v:V),X.N[i]?=some x->σ[i]?=some (some v)->Vis X.env.scope x->∃ u,RelV v u/\Look X.env s.heap m x u
 cell:∀ x c,X.env.cells.lookup x=some c->∃ v,s.heap.IsCell c v
 free:H X.env.locals=none
 freeC:∀ x c,X.env.cells.lookup x=some c->H c=none
 pin:∀ p ∈ X.pn ++ pins,s.heap.get? p.1=some p.2/\H p.1=none/\p.1 ≠ X.env.locals/\p.1 ∉ X.fs/\∀ v,p.2.data ≠ .cell v
 hok:HOk X.prog X.w H s.heap
 len:σ.length=X.N.length
section
variable {X:Cx} {pins:List (Addr × Obj)} {σ:List (Option V)} {H H':Hp} {s:Shared} {h':Heap}
theorem Cx.Ok.zyx (ok:X.Ok) {b:Addr} {o:Obj} (e:X.base.get? b=some o):b ∉ X.fs:=fun hb=>by
 have:=(ok.zp1.mem hb).1
 rw [e] at this;cases this
theorem Inv.bs (I:Inv X pins σ H s):∀ b o,X.base.get? b=some o->s.heap.get? b=some o/\H b=none:=fun b o e =>
 ⟨I.base.keep b o (I.ok.bs b o e).1 (I.ok.bs b o e).2 (I.ok.zyx e) (I.ok.noex b o e),I.base.free b o (I.ok.bs b o e).1 (I.ok.bs b o e).2 (I.ok.noex b o e)⟩
theorem Inv.bk (I:Inv X pins σ H s):∀ b o,X.base.get? b=some o->s.heap.get? b=some o:=fun b o e=>(I.bs b o e).1
theorem Inv.mod (I:Inv X pins σ H s):Mod X.K X.mg X.base:=I.ok.mod
theorem Inv.kIn (I:Inv X pins σ H s):X.K.In s.heap:=I.ok.mod.kin.keeps I.bk
theorem Inv.nolimit (I:Inv X pins σ H s):s.heap.NoLimit:=I.ok.mod.nolimit.keeps I.bk
theorem Inv.lt (I:Inv X pins σ H s):X.env.locals < s.heap.objs.size:=let ⟨_,hn,_⟩:=I.loc;hn.lt
theorem Inv.sz (I:Inv X pins σ H s):X.s₀.heap.objs.size<=s.heap.objs.size:=Nat.le_trans I.ok.above (Nat.le_of_lt I.lt)
theorem Inv.zyw (I:Inv X pins σ H s) {a:Addr} (h:s.heap.objs.size<=a):a ∉ X.fs:=fun hb=>by
 obtain ⟨_,o,ho,_⟩:=I.ok.zp1.mem hb
 exact absurd (Nat.lt_of_lt_of_le (Heap.lt_size ho) (Nat.le_trans I.sz h)) (Nat.lt_irrefl _)
theorem Inv.cne (I:Inv X pins σ H s):∀ x c,X.env.cells.lookup x=some c->c ≠ X.env.locals:=fun x c e z=>by
 obtain ⟨v,o,ho,hd⟩:=I.cell x c e
 obtain ⟨m,⟨o',es,ep,ho',hd',_⟩,_⟩:=I.loc
 rw [z,ho'] at ho;cases ho;rw [hd'] at hd;cases hd
theorem Inv.zp1 (I:Inv X pins σ H s):s.heap.FunFrames X.base X.outer:=by
 have all:∀ (l:List Env),(∀ b ∈ frs l,b ∈ X.fs)->X.s₀.heap.FunFrames X.base l->s.heap.FunFrames X.base l:=by
  intro l
  induction l with
  | nil=>intro _ _;trivial
  | cons env r ih =>
   intro hs hl
   obtain ⟨hk,⟨L,o,hf,hn,ho,hd⟩,hr⟩:=hl
   have hL:L ∈ X.fs:=hs L (by unfold frs;rw [List.filterMap_cons,hf];exact List.mem_cons_self)
   obtain ⟨sl,e⟩:=I.base.slot L o ho (I.ok.frf L hL) hL fun z=>I.ok.exfs L z hL
   exact ⟨hk,⟨L,_,hf,hn,e,hd⟩,ih (fun b hb=>hs b (by unfold frs;rw [List.filterMap_cons,hf];exact List.mem_cons_of_mem _ hb)) hr⟩
 exact all X.outer (fun _ hb=>hb) I.ok.zp1
theorem Inv.stack (I:Inv X pins σ H s):s.heap.FunFrames X.base X.stack:=by
 rcases I.ok.stk with e | ⟨e,hf⟩
 ·rw [e];exact I.zp1
 ·rw [e]
  obtain ⟨m,hn,_⟩:=I.loc
  refine .cons (by rw [I.ok.kind];decide) hf hn ?_ I.zp1
  exact Heap.get?_none_of_le (Nat.le_trans I.ok.bsz I.ok.above)
theorem Inv.zoL (I:Inv X pins σ H s):∀ b ∈ frs X.stack,b ∈ X.env.locals :: X.fs:=fun b hb=>by
 rcases I.ok.stk with e | ⟨e,hf⟩
 ·rw [e] at hb;exact List.mem_cons_of_mem _ hb
 ·rw [e] at hb
  unfold frs at hb
  rw [List.filterMap_cons,hf] at hb
  exact hb
theorem Inv.zoM (I:Inv X pins σ H s):∀ b ∈ frs X.stack,H b=none:=fun b hb=>by
 rcases List.mem_cons.mp (I.zoL b hb) with e | hb
 ·rw [e];exact I.free
 ·obtain ⟨_,o,ho,_⟩:=I.ok.zp1.mem hb
  exact I.base.free b o ho (I.ok.frf b hb) fun z=>I.ok.exfs b z hb
theorem Inv.step {g':Array GenState} {t':Nat} {d':Drawn} {ch:List Addr} (I:Inv X pins σ H s)
  (hch:∀ b ∈ ch,(b ∈ X.ex\/X.s₀.heap.objs.size<=b)/\b ≠ X.env.locals/\(∀ x c,X.env.cells.lookup x=some c->c ≠ b)/\∀ p ∈ X.pn ++ pins,p.1 ≠ b)
  (keep:∀ b o,b ≠ X.env.locals->b ∉ X.fs->b ∉ ch->s.heap.get? b=some o->H b=none->h'.get? b=some o)
  (slot:∀ b o,b ≠ X.env.locals->b ∈ X.fs->b ∉ ch->s.heap.get? b=some o->H b=none->∃ sl,h'.get? b=some { o with slots:=sl }) (free:∀ b o,b ∉ ch->s.heap.get? b=some o->H b=none->H' b=none)
  (there:∀ b o,b ∉ ch->s.heap.get? b=some o->∃ o',h'.get? b=some o')
  (tups:∀ b xs,H b=some (.tup xs)->H' b=some (.tup xs)) (frzs:∀ b o u,H b=some (.frz o u)->H' b=some (.frz o u)) (tbls:∀ b ps,H b=some (.tbl ps)->∃ more,H' b=some (.tbl (ps ++ more)))
  (ns:∀ m,s.heap.Ns X.env.locals m->h'.Ns X.env.locals m) (hok:HOk X.prog X.w H' h') (hg:AllBare g') :
  Inv X pins σ H' { s with heap:=h',gens:=g',drawn:=d',toks:=t' }:=by
 have neL:∀ b o,X.s₀.heap.get? b=some o->b ≠ X.env.locals:=fun b o e=>Nat.ne_of_lt (Nat.lt_of_lt_of_le (Heap.lt_size e) I.ok.above)
 have neC:∀ b o,X.s₀.heap.get? b=some o->b ∉ X.ex->b ∉ ch:=fun b o e hx hb=>by
  rcases (hch b hb).1 with z | z
  ·exact hx z
  ·exact absurd (Nat.lt_of_lt_of_le (Heap.lt_size e) z) (Nat.lt_irrefl _)
 have cellK:∀ x c,X.env.cells.lookup x=some c->∀ v,s.heap.IsCell c v->h'.IsCell c v:=fun x c e v ⟨o,ho,hd⟩=>by
  have nch:c ∉ ch:=fun z=>(hch c z).2.2.1 x c e rfl
  by_cases hc:c ∈ X.fs
  ·obtain ⟨sl,q⟩:=slot c o (I.cne x c e) hc nch ho (I.freeC x c e)
   exact ⟨_,q,hd⟩
  ·exact ⟨o,keep c o (I.cne x c e) hc nch ho (I.freeC x c e),hd⟩
 refine ⟨I.ok,I.os,hg,⟨fun b o e n hb hx=>?_,fun b o e n hb hx=>?_,fun b o e n hx=>?_,fun b o e hx=>?_,fun b xs e=>tups b xs (I.base.tups b xs e),fun b o xs e=>frzs b o xs (I.base.frzs b o xs e),fun b ps e=>?_⟩,?_,fun x c e=>?_,?_,fun x c e=>?_,fun p hp=>?_,hok,I.len⟩
 ·exact keep b o (neL b o e) hb (neC b o e hx) (I.base.keep b o e n hb hx) (I.base.free b o e n hx)
 ·obtain ⟨sl,e1⟩:=I.base.slot b o e n hb hx
  obtain ⟨sl',e2⟩:=slot b _ (neL b o e) hb (neC b o e hx) e1 (I.base.free b o e n hx)
  exact ⟨sl',e2⟩
 ·obtain ⟨o',e1⟩:=I.base.there b o e hx
  exact free b o' (neC b o e hx) e1 (I.base.free b o e n hx)
 ·obtain ⟨o',e1⟩:=I.base.there b o e hx
  exact there b o' (neC b o e hx) e1
 ·obtain ⟨m1,e1⟩:=I.base.tbls b ps e
  obtain ⟨m2,e2⟩:=tbls b _ e1
  exact ⟨m1 ++ m2,by rw [e2,Array.append_assoc]⟩
 ·obtain ⟨m,hn,hl⟩:=I.loc
  refine ⟨m,ns m hn,fun i x v e1 e2 e3=>?_⟩
  obtain ⟨u,r,l⟩:=hl i x v e1 e2 e3
  refine ⟨u,r,?_⟩
  rcases l with l | ⟨k,c,e,z⟩
  ·exact .inl l
  ·exact .inr ⟨k,c,e,cellK x c e _ z⟩
 ·obtain ⟨v,z⟩:=I.cell x c e
  exact ⟨v,cellK x c e v z⟩
 ·obtain ⟨m,⟨o,_,_,ho,_⟩,_⟩:=I.loc
  exact free _ o (fun z=>(hch _ z).2.1 rfl) ho I.free
 ·obtain ⟨v,o,ho,hd⟩:=I.cell x c e
  exact free c o (fun z=>(hch c z).2.2.1 x c e rfl) ho (I.freeC x c e)
 ·obtain ⟨e,n,ne,nf,d⟩:=I.pin p hp
  have nch:p.1 ∉ ch:=fun z=>(hch p.1 z).2.2.2 p hp rfl
  exact ⟨keep p.1 p.2 ne nf nch e n,free p.1 p.2 nch e n,ne,nf,d⟩
theorem Inv.un {t':Nat} (I:Inv X pins σ H s) (u:Un X.fs [] H H' s.heap h') (hok:HOk X.prog X.w H' h'):Inv X pins σ H' { s with heap:=h',toks:=t' }:=by
 obtain ⟨m,⟨o,es,ep,ho,r⟩,_⟩:=id I.loc
 obtain ⟨sl,hL⟩:=u.any ho I.free (by simp)
 exact I.step (g':=s.gens) (d':=s.drawn) (ch:=[]) (fun _ z=>nomatch z) (fun b o _ hb _ e n=>u.keep b o e n hb (by simp)) (fun b o _ hb _ e n=>u.slot b o e n hb (by simp)) (fun b o _ e n=>u.free b o e n (by simp)) (fun b o _ e=>u.there b o e (by simp)) u.tups u.frzs u.tbls (fun m' hm=>by
  obtain ⟨o',es',ep',ho',r'⟩:=hm
  rw [ho] at ho';cases ho'
  exact ⟨_,es',ep',hL,r'⟩) hok I.bare
theorem Inv.call {g':Array GenState} {t':Nat} {d':Drawn} {ch:List Addr} (I:Inv X pins σ H s) (u:Un (frs X.stack) ch H H' s.heap h') (hok:HOk X.prog X.w H' h') (hg:AllBare g')
  (hch:∀ b ∈ ch,(b ∈ X.ex\/X.s₀.heap.objs.size<=b)/\b ≠ X.env.locals/\(∀ x c,X.env.cells.lookup x=some c->c ≠ b)/\∀ p ∈ X.pn ++ pins,p.1 ≠ b) :
  Inv X pins σ H' { s with heap:=h',gens:=g',drawn:=d',toks:=t' }:=by
 obtain ⟨m,⟨o,es,ep,ho,r⟩,_⟩:=id I.loc
 obtain ⟨sl,hL⟩:=u.any ho I.free fun z=>(hch _ z).2.1 rfl
 exact I.step (ch:=ch) hch (fun b o hL hb hc e n=>u.keep b o e n (fun z=>(List.mem_cons.mp (I.zoL b z)).elim hL hb) hc) (fun b o _ _ hc e n=>u.any e n hc) (fun b o hc e n=>u.free b o e n hc) (fun b o hc e=>u.there b o e hc) u.tups u.frzs u.tbls (fun m' hm=>by
  obtain ⟨o',es',ep',ho',r'⟩:=hm
  rw [ho] at ho';cases ho'
  exact ⟨_,es',ep',hL,r'⟩) hok hg
theorem Inv.turned {t':Nat} {it:Addr} (I:Inv X pins σ H s) (k:∀ b o,b ≠ it->s.heap.get? b=some o->h'.get? b=some o) (hn:H it=none) (hL:it ≠ X.env.locals)
  (h1:it ∈ X.ex\/X.s₀.heap.objs.size<=it) (h2:∀ x c,X.env.cells.lookup x=some c->c ≠ it) (h3:∀ p ∈ X.pn ++ pins,p.1 ≠ it):Inv X pins σ H { s with heap:=h',toks:=t' }:=by
 have nit:∀ b u,H b=some u->b ≠ it:=fun b u e z=>by rw [z,hn] at e;cases e
 refine I.step (g':=s.gens) (d':=s.drawn) (ch:=[it]) (fun b hb=>?_) (fun b o _ _ hc e _=>k b o (fun z=>hc (by simp [z])) e) (fun b o _ _ hc e _=>⟨o.slots,k b o (fun z=>hc (by simp [z])) e⟩) (fun _ _ _ _ n=>n)
  (fun b o hc e=>⟨o,k b o (fun z=>hc (by simp [z])) e⟩) (fun _ _ e=>e) (fun _ _ _ e=>e) (fun b ps e=>⟨#[],by rw [e];simp⟩) (fun m hm=>?_) (fun b u e=>?_) I.bare
 ·have e:b=it:=by simpa using hb
  subst e
  exact ⟨h1,hL,h2,h3⟩
 ·obtain ⟨o,es,ep,ho,r⟩:=hm
  exact ⟨o,es,ep,k _ o (Ne.symm hL) ho,r⟩
 ·refine (I.hok b u e).stay (fun c v hc q=>k c v ?_ q) (fun _ q=>q) fun _ _ q=>q
  rcases hc with z | z
  ·rw [z];exact nit b u e
  ·exact nit c _ z
theorem Inv.tok (I:Inv X pins σ H s) (t:Nat):Inv X pins σ H { s with toks:=t }:=I.un (h':=s.heap) (t':=t) Un.refl I.hok
theorem Inv.kept {t':Nat} (I:Inv X pins σ H s) (k:∀ b u,s.heap.get? b=some u->h'.get? b=some u):Inv X pins σ H { s with heap:=h',toks:=t' }:=I.un (Un.kept k) (I.hok.kept k)
theorem Inv.laid {a:Addr} {o:HO} {t':Nat} (I:Inv X pins σ H s) (k:∀ b u,s.heap.get? b=some u->h'.get? b=some u) (hp:s.heap.objs.size<=a) (new:zbx X.prog X.w (upd H a o) h' a o) :
  Inv X pins σ (upd H a o) { s with heap:=h',toks:=t' }:=I.un (Un.laid k hp (I.hok.fresh hp)) (I.hok.laid k hp new)
theorem Inv.write {x e:Addr} {o:HO} {t':Nat} (I:Inv X pins σ H s) (mu:Mut (H x)) (he:e=x\/H e=some (.own x)) (k:∀ b u,b ≠ e->s.heap.get? b=some u->h'.get? b=some u) (heo:∃ u,h'.get? e=some u)
  (new:zbx X.prog X.w (upd H x o) h' x o):Inv X pins σ (upd H x o) { s with heap:=h',toks:=t' }:=I.un (Un.write mu he k heo) (I.hok.write mu he k heo new)
theorem Inv.weak {σ':List (Option V)} (I:Inv X pins σ H s) (hl:σ'.length=σ.length) (w:∀ (i:Nat) v,σ'[i]?=some (some v)->σ[i]?=some (some v)):Inv X pins σ' H s :=
 ⟨I.ok,I.os,I.bare,I.base,let ⟨m,hn,hl'⟩:=I.loc;⟨m,hn,fun i x v e1 e2 e3=>hl' i x v e1 (w i v e2) e3⟩,I.cell,I.free,I.freeC,I.pin,I.hok,hl.trans I.len⟩
theorem Inv.zph {pins':List (Addr × Obj)} (I:Inv X pins σ H s) (h:∀ p ∈ pins',s.heap.get? p.1=some p.2/\H p.1=none/\p.1 ≠ X.env.locals/\p.1 ∉ X.fs/\∀ v,p.2.data ≠ .cell v):Inv X pins' σ H s :=
 ⟨I.ok,I.os,I.bare,I.base,I.loc,I.cell,I.free,I.freeC,fun p hp=>(List.mem_append.mp hp).elim (fun z=>I.pin p (List.mem_append_left _ z)) (h p),I.hok,I.len⟩
theorem zm0 {N:List Str} (hN:N.Nodup) {i j:Nat} {x:Str} (a:N[i]?=some x) (b:N[j]?=some x):i=j:=by
 obtain ⟨h1,e1⟩:=List.getElem?_eq_some_iff.mp a
 obtain ⟨h2,e2⟩:=List.getElem?_eq_some_iff.mp b
 exact (List.getElem_inj hN).mp (e1.trans e2.symm)
theorem zkr {M:Model} {A:Around} {E:Value->Shared->Prop} {i:Nat} {x:Str} {v:V} {u:Value} {Q:Unit->Shared->Prop} (I:Inv X pins σ H s) (hN:X.N.Nodup) (hi:X.N[i]?=some x) (hx:Loc X.env.scope x) (r:RelV v u)
  (h:∀ s',Inv X pins (σ.set i (some v)) H s'->(∃ a,Heap.SameBut a s.heap s'.heap/\(a=X.env.locals\/X.env.cells.lookup x=some a))->Q () s') (hf:X.fn x=true\/X.env.scope.names.lookup x=some .local:=by first | exact .inl rfl | exact .inr rfl | assumption):wpAny M A (storeName X.env x u) Q E s:=by
 obtain ⟨m,hn,hl⟩:=id I.loc
 have hcls:(X.env.scope.kind == .class || (X.env.scope.kind == .module && X.env.locals != X.env.globals))=false:=by rw [I.ok.kind];rfl
 have hiσ:i < σ.length:=by rw [I.len];exact (List.getElem?_eq_some_iff.mp hi).1
 have cne:=I.cne
 have tracked:∀ {a:Addr} {h':Heap},(∃ o,s.heap.get? a=some o/\H a=none)->Heap.SameBut a s.heap h'->HOk X.prog X.w H h':=fun {a h'} ha hs b ob e=>by
  obtain ⟨_,_,hfree⟩:=ha
  refine (I.hok b ob e).stay (fun c w' hc q=>(hs.2 c ?_).trans q) (fun _ q=>q) fun _ _ q=>q
  rintro rfl
  rcases hc with rfl | hc
  ·rw [hfree] at e;cases e
  ·rw [hfree] at hc;cases hc
 rcases hx with hk | hk
 ·refine wpAny_storeName_local hk hn (fun h' hn' hs=>?_) hcls
  obtain ⟨oL,_,_,hoL,_⟩:=id hn
  refine h _ ⟨I.ok,I.os,I.bare,⟨fun b o e n hb hx=>?_,fun b o e n hb hx=>?_,I.base.free,fun b o e hx=>?_,I.base.tups,I.base.frzs,I.base.tbls⟩,⟨_,hn',fun j y v' e1 e2 e3=>?_⟩,fun y c e=>?_,I.free,I.freeC,fun p hp=>?_,tracked ⟨oL,hoL,I.free⟩ hs,by simpa using I.len⟩ ⟨_,hs,.inl rfl⟩
  ·exact (hs.2 b (Nat.ne_of_lt (Nat.lt_of_lt_of_le (Heap.lt_size e) I.ok.above))).trans (I.base.keep b o e n hb hx)
  ·obtain ⟨sl,e1⟩:=I.base.slot b o e n hb hx
   exact ⟨sl,(hs.2 b (Nat.ne_of_lt (Nat.lt_of_lt_of_le (Heap.lt_size e) I.ok.above))).trans e1⟩
  ·obtain ⟨o',e1⟩:=I.base.there b o e hx
   exact ⟨o',(hs.2 b (Nat.ne_of_lt (Nat.lt_of_lt_of_le (Heap.lt_size e) I.ok.above))).trans e1⟩
  ·by_cases hj:j=i
   ·subst hj
    rw [hi] at e1;cases e1
    rw [List.getElem?_set_self hiσ] at e2
    cases e2
    exact ⟨u,r,.inl ⟨hk,by simp⟩⟩
   ·rw [List.getElem?_set_ne (Ne.symm hj)] at e2
    obtain ⟨u',r',q⟩:=hl j y v' e1 e2 e3
    refine ⟨u',r',?_⟩
    rcases q with ⟨k,e⟩ | ⟨k,c,e,z⟩
    ·refine .inl ⟨k,?_⟩
     have:y ≠ x:=fun e=>hj (zm0 hN e1 (e ▸ hi))
     simp [this,e]
    ·exact .inr ⟨k,c,e,z.sameBut hs (cne y c e)⟩
  ·obtain ⟨w',z⟩:=I.cell y c e
   exact ⟨w',z.sameBut hs (cne y c e)⟩
  ·obtain ⟨e,n,ne,nf,d⟩:=I.pin p hp
   exact ⟨(hs.2 p.1 ne).trans e,n,ne,nf,d⟩
 ·have hfn:X.fn x=true:=by
   rcases hf with z | z
   ·exact z
   ·rw [z] at hk;cases hk
  obtain ⟨c,hc⟩:=I.ok.has x (.inl hk)
  obtain ⟨w',z⟩:=I.cell x c hc
  refine wpAny_storeName_cell I.ok.kind hk hc z (fun h' hc' hs=>?_)
  obtain ⟨oc,hoc,hocd⟩:=id z
  refine h { s with heap:=h' } ⟨I.ok,I.os,I.bare,⟨fun b o e n hb hx=>?_,fun b o e n hb hx=>?_,I.base.free,fun b o e hx=>?_,I.base.tups,I.base.frzs,I.base.tbls⟩,⟨m,hn.sameBut hs (Ne.symm (cne x c hc)),fun j y v' e1 e2 e3=>?_⟩,fun y c' e=>?_,I.free,I.freeC,fun p hp=>?_,tracked ⟨oc,hoc,I.freeC x c hc⟩ hs,by simpa using I.len⟩ ⟨c,hs,.inr hc⟩
  ·exact (hs.2 b (Nat.ne_of_lt (Nat.lt_of_lt_of_le (Heap.lt_size e) (I.ok.cab x c hfn hc)))).trans (I.base.keep b o e n hb hx)
  ·obtain ⟨sl,e1⟩:=I.base.slot b o e n hb hx
   exact ⟨sl,(hs.2 b (Nat.ne_of_lt (Nat.lt_of_lt_of_le (Heap.lt_size e) (I.ok.cab x c hfn hc)))).trans e1⟩
  ·obtain ⟨o',e1⟩:=I.base.there b o e hx
   exact ⟨o',(hs.2 b (Nat.ne_of_lt (Nat.lt_of_lt_of_le (Heap.lt_size e) (I.ok.cab x c hfn hc)))).trans e1⟩
  ·by_cases hj:j=i
   ·subst hj
    rw [hi] at e1;cases e1
    rw [List.getElem?_set_self hiσ] at e2
    cases e2
    exact ⟨u,r,.inr ⟨.inl hk,c,hc,hc'⟩⟩
   ·rw [List.getElem?_set_ne (Ne.symm hj)] at e2
    obtain ⟨u',r',q⟩:=hl j y v' e1 e2 e3
    refine ⟨u',r',?_⟩
    rcases q with q | ⟨k,c',e,z'⟩
    ·exact .inl q
    ·refine .inr ⟨k,c',e,z'.sameBut hs ?_⟩
     rintro rfl
     exact hj (zm0 hN e1 (I.ok.inj _ _ _ e hc ▸ hi))
  ·by_cases hcc:c'=c
   ·subst hcc;exact ⟨_,hc'⟩
   ·obtain ⟨w2,z2⟩:=I.cell y c' e
    exact ⟨w2,z2.sameBut hs hcc⟩
  ·obtain ⟨e,n,ne,nf,d⟩:=I.pin p hp
   refine ⟨(hs.2 p.1 ?_).trans e,n,ne,nf,d⟩
   intro q
   rw [q,hoc] at e
   have q':oc=p.2:=Option.some.inj e
   exact d w' (by rw [<- q'];exact hocd)
theorem zgR {M:Model} {A:Around} {E:Value->Shared->Prop} {i:Nat} {x:Str} {v:V} {u:Value} {Q:Unit->Shared->Prop} (I:Inv X pins σ H s) (hN:X.N.Nodup) (hi:X.N[i]?=some x) (hx:Loc X.env.scope x) (r:RelV v u)
  (h:∀ s',Inv X pins (σ.set i (some v)) H s'->Q () s') (hf:X.fn x=true\/X.env.scope.names.lookup x=some .local:=by first | exact .inl rfl | exact .inr rfl | assumption):wpAny M A (storeName X.env x u) Q E s :=
 zkr I hN hi hx r (fun s' I' _=>h s' I') hf
theorem Inv.call' {s':Shared} {ch:List Addr} (I:Inv X pins σ H s) (ho:s'.os=s.os) (u:Un (frs X.stack) ch H H' s.heap s'.heap) (hok:HOk X.prog X.w H' s'.heap) (hg:AllBare s'.gens)
  (hch:∀ b ∈ ch,(b ∈ X.ex\/X.s₀.heap.objs.size<=b)/\b ≠ X.env.locals/\(∀ x c,X.env.cells.lookup x=some c->c ≠ b)/\∀ p ∈ X.pn ++ pins,p.1 ≠ b):Inv X pins σ H' s':=by
 obtain ⟨h',g',d',t',o'⟩:=s'
 have e:o'=s.os:=ho
 subst e
 exact I.call (g':=g') (t':=t') (d':=d') u hok hg hch
end
abbrev XK:=Value->Option Addr->Hp->Prop
abbrev St:=List (Option V)
abbrev VK:=V->Hp->Prop
abbrev TE:=St->Hp->VK->Prop
abbrev TT:=St->Hp->(Bool->Hp->Prop)->Prop
abbrev TA:=St->Hp->(List V->Hp->Prop)->Prop
structure Ends where
 nx:St->Hp->Prop
 rt:VK
 bk:St->Hp->Prop:=fun _ _=>False
 ct:St->Hp->Prop:=fun _ _=>False
abbrev TS:=Ends->St->Hp->Prop
def EP (X:Cx) (pins:List (Addr × Obj)) (σ:St) (Q:VK) (u:Value) (s':Shared):Prop:=∃ v H',Inv X pins σ H' s'/\RelV v u/\Q v H'
def TP (X:Cx) (pins:List (Addr × Obj)) (σ:St) (Q:Bool->Hp->Prop) (b:Bool) (s':Shared):Prop:=∃ H',Inv X pins σ H' s'/\Q b H'
def AP (X:Cx) (pins:List (Addr × Obj)) (σ:St) (Q:List V->Hp->Prop) (us:List Value) (s':Shared):Prop:=∃ vs H',Inv X pins σ H' s'/\Vals vs us/\Q vs H'
def SP (X:Cx) (pins:List (Addr × Obj)) (D:Ends) (f:Flow) (s':Shared):Prop :=
 match f with
 | .next=>∃ σ' H',Inv X pins σ' H' s'/\D.nx σ' H'
 | .brk=>∃ σ' H',Inv X pins σ' H' s'/\D.bk σ' H'
 | .cont=>∃ σ' H',Inv X pins σ' H' s'/\D.ct σ' H'
 | .ret u=>∃ v σ' H',Inv X pins σ' H' s'/\RelV v u/\D.rt v H'
def PE (X:Cx) (e:Expr) (t:TE):Prop :=
 ∀ (pins:List (Addr × Obj)) (s:Shared) (σ:St) (H:Hp) (Q:VK),Inv X pins σ H s->t σ H Q->wpAny (model X.prog X.w) X.A (eval e X.env) (EP X pins σ Q) X.xe s
def PT (X:Cx) (e:Expr) (t:TT):Prop :=
 ∀ (pins:List (Addr × Obj)) (s:Shared) (σ:St) (H:Hp) (Q:Bool->Hp->Prop),Inv X pins σ H s->t σ H Q->wpAny (model X.prog X.w) X.A (isTrue e X.env (eval e X.env)) (TP X pins σ Q) X.xe s
def PW (X:Cx) (e:Expr) (t:TT):Prop :=
 ∀ (whole:Sem Value) (pins:List (Addr × Obj)) (s:Shared) (σ:St) (H:Hp) (Q:Bool->Hp->Prop),Inv X pins σ H s->t σ H Q->wpAny (model X.prog X.w) X.A (isTrue e X.env whole) (TP X pins σ Q) X.xe s
theorem PW.pt {X:Cx} {e:Expr} {t:TT} (h:PW X e t):PT X e t:=h _
def PA (X:Cx) (es:List Expr) (t:TA):Prop :=
 ∀ (pos:Pos) (pins:List (Addr × Obj)) (s:Shared) (σ:St) (H:Hp) (Q:List V->Hp->Prop),Inv X pins σ H s->t σ H Q->wpAny (model X.prog X.w) X.A (spliced (backTo pos (starEach es X.env))) (AP X pins σ Q) X.xe s
def PS (X:Cx) (st:Stmt) (t:TS):Prop :=
 ∀ (pins:List (Addr × Obj)) (s:Shared) (σ:St) (H:Hp) (D:Ends),Inv X pins σ H s->t D σ H->wpAny (model X.prog X.w) X.A (exec st X.env) (SP X pins D) X.xe s
def PSs (X:Cx) (st:List Stmt) (t:TS):Prop :=
 ∀ (pins:List (Addr × Obj)) (s:Shared) (σ:St) (H:Hp) (D:Ends),Inv X pins σ H s->t D σ H->wpAny (model X.prog X.w) X.A (execs st X.env) (SP X pins D) X.xe s
theorem thn {α:Type} {t:Sem α} {Q Q':α->Shared->Prop} {M:Model} {A:Around} {E:Value->Shared->Prop} {s:Shared} (h:wpAny M A t Q E s) (hQ:∀ a s,Q a s->Q' a s):wpAny M A t Q' E s:=wpAny_mono h hQ fun _ _ x=>x
end L2
namespace L2
open PySem PySem.Spec PyProof.Rows
section
variable {X:Cx}
def ziv (i:Nat):TE:=fun σ H Q=>∃ v,σ[i]?=some (some v)/\Q v H
def tC (v:V):TE:=fun _ H Q=>Q v H
theorem zsv {i:Nat} {x:Str} {pos:Pos} (hN:X.N[i]?=some x) (hv:Vis X.env.scope x) (hd:(x == ("__debug__":Str))=false:=by decide) (hcd:(x == ("__classdict__":Str))=false:=by decide):PE X (.Name x pos) (ziv i):=by
 intro pins s σ H Q I h
 obtain ⟨v,e,h⟩:=h
 obtain ⟨m,hn,hl⟩:=I.loc
 obtain ⟨u,r,l⟩:=hl i x v hN e hv
 have fin:EP X pins σ Q u s:=⟨v,H,I,r,h⟩
 rcases l with ⟨hk,hm⟩ | ⟨hk,c,hc,hcell⟩
 ·exact wpAny_Name (wpAny_loadName_local I.ok.kind hk hn hm fin) hd
 ·rcases hk with hk | hk
  ·exact wpAny_Name (wpAny_loadName_cell I.ok.kind hk hc hcell fin) hd
  ·exact wpAny_Name (wpAny_loadName_free I.ok.kind hk hc hcell fin hcd) hd
theorem zvy {i j pos}:PE X (.Constant (.int i) j pos) (tC (.int i)):=fun _ _ _ H _ I h=>wpAny_Constant_int ⟨.int i,H,I.tok _,⟨_,rfl⟩,h⟩
theorem zxf {b j pos}:PE X (.Constant (.bool b) j pos) (tC (.bl b)):=fun _ _ _ H _ I h=>Constant_bool ⟨.bl b,H,I,rfl,h⟩
theorem zvw {j pos}:PE X (.Constant .none j pos) (tC .non):=fun _ _ _ H _ I h=>Constant_none ⟨.non,H,I,rfl,h⟩
theorem zvt {x j pos}:PE X (.Constant (.str x) j pos) (tC (.str x)):=fun _ _ _ H _ I h=>Calls.Constant_str ⟨.str x,H,I.tok _,⟨_,rfl⟩,h⟩
def Gl (X:Cx) (x:Str):Prop:=X.env.kindOf x=some .globalImplicit
theorem zpy {E:Value->Shared->Prop} {pins:List (Addr × Obj)} {s:Shared} {σ:St} {H:Hp} {x:Str} {u:Value} {pos:Pos} {Q:Value->Shared->Prop} (I:Inv X pins σ H s) (hg:Gl X x) (hm:X.mg x=some u) (h:Q u s)
  (hd:(x == ("__debug__":Str))=false:=by decide):wpAny (model X.prog X.w) X.A (eval (.Name x pos) X.env) Q E s :=
 Calls.Name_function_global I.ok.kind hg (Calls.loadGlobal_global (by rw [I.ok.glob];exact I.mod.glob.keeps I.bk) hm h) hd
theorem zi4 {E:Value->Shared->Prop} {pins:List (Addr × Obj)} {s:Shared} {σ:St} {H:Hp} {x:Str} {u:Value} {pos:Pos} {Q:Value->Shared->Prop} (I:Inv X pins σ H s) (hg:Gl X x) (hm:X.mg x=none) (hv:bootBuiltins x=some u) (h:Q u s)
  (hn:x ≠ "__name__":=by decide) (hd:(x == ("__debug__":Str))=false:=by decide):wpAny (model X.prog X.w) X.A (eval (.Name x pos) X.env) Q E s:=by
 obtain ⟨mb,h1,h2⟩:=I.mod.blt
 exact Calls.Name_function_global I.ok.kind hg (Calls.loadGlobal_builtin (by rw [I.ok.glob];exact I.mod.glob.keeps I.bk) hm (by rw [I.ok.blt];exact h1.keeps I.bk) ((h2 x hn).trans hv) h) hd
theorem ztI {x:Str} {v:V} {u:Value} {pos:Pos} (hg:Gl X x) (hm:X.mg x=some u) (r:RelV v u) (hd:(x == ("__debug__":Str))=false:=by decide):PE X (.Name x pos) (tC v) :=
 fun _ _ _ H _ I h=>zpy I hg hm ⟨v,H,I,r,h⟩ hd
theorem ztL {x:Str} {v:V} {u:Value} {pos:Pos} (hg:Gl X x) (hm:X.mg x=none) (hv:bootBuiltins x=some u) (r:RelV v u) (hn:x ≠ "__name__":=by decide) (hd:(x == ("__debug__":Str))=false:=by decide):PE X (.Name x pos) (tC v) :=
 fun _ _ _ H _ I h=>zi4 I hg hm hv ⟨v,H,I,r,h⟩ hn hd
variable {a b:Expr} {ta tb:TE} {pos:Pos}
def tB (t:TE):TT:=fun σ H Q=>t σ H fun x H1=>∃ c,x=.bl c/\Q c H1
variable {tA tB':TT} {rest:List Expr}
def zis (t u:TT):TT:=fun σ H Q=>t σ H fun c H1=>if c=true then u σ H1 Q else Q false H1
def tOr (t u:TT):TT:=fun σ H Q=>t σ H fun c H1=>if c=true then Q true H1 else u σ H1 Q
def zce (t:TT):TT:=fun σ H Q=>t σ H fun c H1=>Q (!c) H1
theorem ztl (ha:PT X a tA):PW X (.BoolOp .And [a] pos) tA:=by
 intro wh pins s σ H Q I h
 refine isTrue_and (thn (ha pins s σ H Q I h) fun c s1 e=>?_)
 cases c with
 | true=>exact isTrue_and_nil e
 | false=>exact e
theorem zu7 (ha:PT X a tA):PW X (.BoolOp .Or [a] pos) tA:=by
 intro wh pins s σ H Q I h
 refine isTrue_or (thn (ha pins s σ H Q I h) fun c s1 e=>?_)
 cases c with
 | false=>exact isTrue_or_nil e
 | true=>exact e
theorem zu8 (ha:PT X a tA) (hb:PW X (.BoolOp .And (b :: rest) pos) tB'):PW X (.BoolOp .And (a :: b :: rest) pos) (zis tA tB'):=by
 intro wh pins s σ H Q I h
 refine isTrue_and (thn (ha pins s σ H _ I h) fun c s1 ⟨H1,I1,q1⟩=>?_)
 cases c with
 | true=>exact hb wh pins s1 σ H1 Q I1 q1
 | false=>exact ⟨H1,I1,q1⟩
theorem zw2 (ha:PT X a tA) (hb:PW X (.BoolOp .Or (b :: rest) pos) tB'):PW X (.BoolOp .Or (a :: b :: rest) pos) (tOr tA tB'):=by
 intro wh pins s σ H Q I h
 refine isTrue_or (thn (ha pins s σ H _ I h) fun c s1 ⟨H1,I1,q1⟩=>?_)
 cases c with
 | true=>exact ⟨H1,I1,q1⟩
 | false=>exact hb wh pins s1 σ H1 Q I1 q1
theorem zvi (ha:PT X a tA):PT X (.UnaryOp .Not a pos) (zce tA):=by
 intro pins s σ H Q I h
 exact isTrue_not (ha pins s σ H (fun c H1=>Q (!c) H1) I h)
def zwW (ta tb:TE):TE:=fun σ H Q=>ta σ H fun x H1=>∃ c,x=.bl c/\if c=true then tb σ H1 Q else Q (.bl false) H1
def zwT (ta:TE):TE:=fun σ H Q=>ta σ H fun x H1=>∃ c,x=.bl c/\Q (.bl (!c)) H1
theorem zvu {op} {t:TE} (h:PE X a t):PE X (.BoolOp op [a] pos) t:=fun pins s σ H Q I hw=>BoolOp_one (h pins s σ H Q I hw)
theorem zvz (ha:PE X a ta) (hb:PE X (.BoolOp .And (b :: rest) pos) tb):PE X (.BoolOp .And (a :: b :: rest) pos) (zwW ta tb):=by
 intro pins s σ H Q I h
 refine BoolOp_and (thn (ha pins s σ H _ I h) fun v s1 ⟨x,H1,I1,r1,q1⟩=>?_)
 obtain ⟨c,rfl,q1⟩:=q1
 cases r1
 refine wpAny_truthy_bool ?_
 cases c with
 | true=>exact hb pins s1 σ H1 Q I1 q1
 | false=>exact ⟨.bl false,H1,I1,rfl,q1⟩
theorem zvv (ha:PE X a ta):PE X (.UnaryOp .Not a pos) (zwT ta):=by
 intro pins s σ H Q I h
 refine UnaryOp_ (thn (ha pins s σ H _ I h) fun v s1 ⟨x,H1,I1,r1,q1⟩=>?_)
 obtain ⟨c,rfl,q1⟩:=q1
 cases r1
 exact not_of (wpAny_truthy_bool ⟨.bl (!c),H1,I1,rfl,q1⟩)
def tIf (t:TT) (ta tb:TE):TE:=fun σ H Q=>t σ H fun c H1=>if c=true then ta σ H1 Q else tb σ H1 Q
theorem zrm {c:Expr} (hc:PT X c tA) (ha:PE X a ta) (hb:PE X b tb):PE X (.IfExp c a b pos) (tIf tA ta tb):=by
 intro pins s σ H Q I h
 refine wpAny_IfExp (thn (hc pins s σ H _ I h) fun d s1 ⟨H1,I1,q1⟩=>?_)
 cases d with
 | true=>exact ha pins s1 σ H1 Q I1 q1
 | false=>exact hb pins s1 σ H1 Q I1 q1
end
end L2
namespace L2
open PySem PySem.Spec PyProof.Rows
def SqL (K:PySem.W.Frag) (H:Hp) (a:Addr) (xs:List V):Prop :=
 Rd H a (.lst xs) \/
  ∃ (o:Obj) (its:Array Value) (n:Nat),K.lookup a=some o/\o.cls=.type "list"/\o.dict=none/\o.data=.seq its n/\its.size<=sizeLine/\Vals xs its.toList
def SqT (K:PySem.W.Frag) (H:Hp) (a:Addr) (xs:List V):Prop :=
 Rd H a (.tup xs) \/
  ∃ (o:Obj) (its:Array Value) (n:Nat),K.lookup a=some o/\o.cls=.type "tuple"/\o.data=.seq its n/\its.size<=sizeLine/\Vals xs its.toList
def zyH:Value->Option V
 | .none=>some .non
 | .bool b=>some (.bl b)
 | .int i _=>some (.int i)
 | .str x _=>some (.str x)
 | .bytes b _=>some (.byt b)
 | .float b _=>some (.flt b)
 | .ref a=>some (.ref a)
 | .type n=>some (.ty n)
 | _=>none
theorem RelV.abs {x:V} {u:Value} (r:RelV x u):zyH u=some x:=by
 cases x with
 | non=>cases r;rfl
 | bl _=>cases r;rfl
 | int _=>obtain ⟨t,rfl⟩:=r;rfl
 | str _=>obtain ⟨t,rfl⟩:=r;rfl
 | byt _=>obtain ⟨t,rfl⟩:=r;rfl
 | flt _=>obtain ⟨t,rfl⟩:=r;rfl
 | ref _=>cases r;rfl
 | ty _=>cases r;rfl
theorem RelV.inj {x y:V} {u:Value} (r:RelV x u) (q:RelV y u):x=y:=Option.some.inj (r.abs.symm.trans q.abs)
theorem Vals.inj:∀ {xs ys:List V} {us:List Value},Vals xs us->Vals ys us->xs=ys
 | _,_,_,.nil,.nil=>rfl
 | _,_,_,.cons r t,.cons r' t'=>by rw [r.inj r',Vals.inj t t']
section
variable {X:Cx} {pins:List (Addr × Obj)} {σ:St} {H:Hp} {s:Shared} {a:Addr} {xs ys:List V}
theorem SqL.of {K:PySem.W.Frag} (h:H a=some (.lst xs)):SqL K H a xs:=.inl (.inl h)
theorem Inv.list (I:Inv X pins σ H s) (h:SqL X.K H a xs):∃ its:List Value,Vals xs its/\PlainL s.heap a its.toArray/\xs.length<=sizeLine:=by
 rcases h with h | ⟨o,its,n,hk,hc,hd,hs,hz,r⟩
 ·obtain ⟨z,its,n,r,e⟩:=h.ok I.hok
  exact ⟨its,r,⟨_,n,e,rfl,rfl,rfl⟩,z⟩
 ·refine ⟨its.toList,r,⟨o,n,I.kIn a o hk,hc,hd,by simpa using hs⟩,?_⟩
  have e:=r.length
  simp only [Array.length_toList] at e
  omega
theorem Inv.tuple (I:Inv X pins σ H s) (h:SqT X.K H a xs):∃ its:List Value,Vals xs its/\IsTup s.heap a its.toArray/\xs.length<=sizeLine:=by
 rcases h with h | ⟨o,its,n,hk,hc,hs,hz,r⟩
 ·obtain ⟨z,its,r,p⟩:=h.ok I.hok
  exact ⟨its,r,p,z⟩
 ·refine ⟨its.toList,r,⟨o,I.kIn a o hk,hc,n,by simpa using hs⟩,?_⟩
  have e:=r.length
  simp only [Array.length_toList] at e
  omega
theorem Inv.zgU (I:Inv X pins σ H s) (h:SqL X.K H a xs) (h':SqL X.K H a ys):xs=ys:=by
 obtain ⟨its,r,⟨o,n,e,_,_,d⟩,_⟩:=I.list h
 obtain ⟨its',r',⟨o',n',e',_,_,d'⟩,_⟩:=I.list h'
 rw [e] at e';cases e'
 rw [d] at d'
 injection d' with d1 _
 have:its=its':=by simpa using congrArg Array.toList d1
 subst this
 exact r.inj r'
theorem Inv.zoE (I:Inv X pins σ H s) (h:SqT X.K H a xs) (h':SqT X.K H a ys):xs=ys:=by
 obtain ⟨its,r,⟨o,e,_,n,d⟩,_⟩:=I.tuple h
 obtain ⟨its',r',⟨o',e',_,n',d'⟩,_⟩:=I.tuple h'
 rw [e] at e';cases e'
 rw [d] at d'
 injection d' with d1 _
 have:its=its':=by simpa using congrArg Array.toList d1
 subst this
 exact r.inj r'
end
abbrev Cx.wish (X:Cx) (E:Value->Shared->Prop):Cx:={ X with xe:=E }
abbrev Cx.nox (X:Cx):Cx:=X.wish fun _ _=>False
theorem Cx.Ok.wish {X:Cx} (ok:X.Ok) (E:Value->Shared->Prop):(X.wish E).Ok :=
 ⟨ok.mod,ok.kind,ok.glob,ok.blt,ok.above,ok.inj,ok.has,ok.cab,ok.hd,ok.frames,ok.stk,ok.exf,ok.bs,ok.bsz,ok.noex,ok.exfs,ok.zp1,ok.frf,ok.tree,ok.sk⟩
theorem Cx.Ok.zgf {X:Cx} {E:Value->Shared->Prop} (ok:(X.wish E).Ok):X.Ok :=
 ⟨ok.mod,ok.kind,ok.glob,ok.blt,ok.above,ok.inj,ok.has,ok.cab,ok.hd,ok.frames,ok.stk,ok.exf,ok.bs,ok.bsz,ok.noex,ok.exfs,ok.zp1,ok.frf,ok.tree,ok.sk⟩
section
variable {X:Cx} {pins:List (Addr × Obj)} {σ:St} {H:Hp} {s:Shared} {E:Value->Shared->Prop}
theorem Inv.wish (I:Inv X pins σ H s) (E:Value->Shared->Prop):Inv (X.wish E) pins σ H s:=⟨I.ok.wish E,I.os,I.bare,I.base,I.loc,I.cell,I.free,I.freeC,I.pin,I.hok,I.len⟩
theorem Inv.zgf (I:Inv (X.wish E) pins σ H s):Inv X pins σ H s:=⟨I.ok.zgf,I.os,I.bare,I.base,I.loc,I.cell,I.free,I.freeC,I.pin,I.hok,I.len⟩
theorem SP.zgf {D:Ends} {f:Flow} {s':Shared} (h:SP (X.wish E) pins D f s'):SP X pins D f s':=by
 cases f with
 | next=>obtain ⟨σ',H',I,q⟩:=h;exact ⟨σ',H',I.zgf,q⟩
 | brk=>obtain ⟨σ',H',I,q⟩:=h;exact ⟨σ',H',I.zgf,q⟩
 | cont=>obtain ⟨σ',H',I,q⟩:=h;exact ⟨σ',H',I.zgf,q⟩
 | ret u=>obtain ⟨v,σ',H',I,r,q⟩:=h;exact ⟨v,σ',H',I.zgf,r,q⟩
theorem PSs.nox {st:List Stmt} {t:TS} (h:PSs X.nox st t):PSs X st t:=fun pins s σ H D I hw =>
 wpAny_mono (h pins s σ H D (I.wish _) hw) (fun _ _ q=>q.zgf) fun _ _ z=>False.elim z
end
section
variable {X:Cx} {st:Stmt} {rest:List Stmt} {t u:TS} {e:Expr} {te:TE} {pos:Pos}
def zwU:TS:=fun D σ H=>D.nx σ H
def zx7 (t u:TS):TS:=fun D σ H=>t { D with nx:=u D } σ H
theorem ztx:PSs X [] zwU:=fun _ _ σ H _ I h=>wpAny_execs_nil ⟨σ,H,I,h⟩
theorem zre (h1:PS X st t) (h2:PSs X rest u):PSs X (st :: rest) (zx7 t u):=by
 intro pins s σ H D I h
 refine wpAny_execs_cons (thn (h1 pins s σ H { D with nx:=u D } I h) fun f s1 q=>?_)
 cases f with
 | next =>
  obtain ⟨σ',H',I',q⟩:=q
  exact h2 pins s1 σ' H' D I' q
 | ret v=>exact q
 | brk=>exact q
 | cont=>exact q
theorem ztw (h1:PS X st t):PSs X [st] t:=by
 intro pins s σ H D I h
 refine wpAny_execs_cons (thn (h1 pins s σ H D I h) fun f s1 q=>?_)
 cases f with
 | next=>exact wpAny_execs_nil q
 | ret v=>exact q
 | brk=>exact q
 | cont=>exact q
def zuV:TS:=fun D σ H=>D.bk σ H
theorem zrh:PS X (.Break pos) zuV:=fun _ _ σ H _ I h=>wpAny_Break ⟨σ,H,I,h⟩
theorem Inv.quiet {pins:List (Addr × Obj)} {σ:St} {H:Hp} {s:Shared} (I:Inv X pins σ H s):interactive X.env=false:=by simp [interactive,I.ok.kind]
def zwV (te:TE):TS:=fun D σ H=>te σ H fun _ H1=>D.nx σ H1
theorem zpb (he:PE X e te) (hs:swapsWith e none pos.line X.env=pure false:=by rfl):PS X (.Expr e pos) (zwV te):=by
 intro pins s σ H D I h
 exact wpAny_Expr_any (thn (he pins s σ H _ I h) fun v s1 ⟨x,H1,I1,r1,q1⟩=>⟨σ,H1,I1,q1⟩) I.quiet hs
def zx8 (te:TE):TS:=fun D σ H=>te σ H D.rt
theorem zpa (he:PE X e te):PS X (.Return (some e) pos) (zx8 te):=by
 intro pins s σ H D I h
 exact wpAny_Return_some (thn (he pins s σ H _ I h) fun v s1 ⟨x,H1,I1,r1,q1⟩=>⟨x,σ,H1,I1,r1,q1⟩)
def zyb (c:TT) (t u:TS):TS:=fun D σ H=>c σ H fun b H1=>if b=true then t D σ H1 else u D σ H1
theorem zxa {c:Expr} {a b:List Stmt} {tc:TT} (hc:PT X c tc) (ha:PSs X a t) (hb:PSs X b u):PS X (.If c a b pos) (zyb tc t u):=by
 intro pins s σ H D I h
 refine wpAny_If (thn (hc pins s σ H _ I h) fun d s1 ⟨H1,I1,q1⟩=>?_)
 cases d with
 | true=>exact ha pins s1 σ H1 D I1 q1
 | false=>exact hb pins s1 σ H1 D I1 q1
def zuS:TS:=fun _ _ _=>False
theorem zrg:PS X st zuS:=fun _ _ _ _ _ _ h=>h.elim
end
abbrev TG:=V->St->Hp->(St->Hp->Prop)->Prop
abbrev TGs:=List V->St->Hp->(St->Hp->Prop)->Prop
def PG (X:Cx) (target:Expr) (t:TG):Prop :=
 ∀ (pins:List (Addr × Obj)) (s:Shared) (σ:St) (H:Hp) (v:V) (u:Value) (Q:St->Hp->Prop),Inv X pins σ H s->RelV v u->t v σ H Q ->
  wpAny (model X.prog X.w) X.A (assign target X.env u) (fun _ s'=>∃ σ' H',Inv X pins σ' H' s'/\Q σ' H') X.xe s
def PGs (X:Cx) (ts:List Expr) (t:TGs):Prop :=
 ∀ (pins:List (Addr × Obj)) (s:Shared) (σ:St) (H:Hp) (vs:List V) (us:List Value) (Q:St->Hp->Prop),Inv X pins σ H s->Vals vs us->t vs σ H Q ->
  wpAny (model X.prog X.w) X.A (assignInOrder ((assignEach ts X.env).map (·.2)) us) (fun _ s'=>∃ σ' H',Inv X pins σ' H' s'/\Q σ' H') X.xe s
abbrev zxI:=V->V->V->Hp->(Hp->Prop)->Prop
def zx1 (X:Cx) (t:zxI):Prop :=
 ∀ (pins:List (Addr × Obj)) (s:Shared) (σ:St) (H:Hp) (o i v:V) (ov iv u:Value) (Q:Hp->Prop),Inv X pins σ H s->RelV o ov->RelV i iv->RelV v u->t o i v H Q ->
  wpAny (model X.prog X.w) X.A (setItem ov iv u) (fun _ s'=>∃ H',Inv X pins σ H' s'/\Q H') X.xe s
section
variable {X:Cx} {pos:Pos}
def zpW (i:Nat):TG:=fun v σ H Q=>Q (σ.set i (some v)) H
theorem ztG {i:Nat} {x:Str} (hN:X.N.Nodup) (hi:X.N[i]?=some x) (hx:Loc X.env.scope x) (hf:X.fn x=true\/X.env.scope.names.lookup x=some .local:=by first | exact .inl rfl | exact .inr rfl | assumption):PG X (.Name x pos) (zpW i):=by
 intro pins s σ H v u Q I r h
 exact wpAny_assign_Name (zgR I hN hi hx r (fun s' I'=>⟨_,H,I',h⟩) hf)
def zyF:TGs:=fun vs σ H Q=>vs=[]/\Q σ H
def zxx (t:TG) (u:TGs):TGs:=fun vs σ H Q=>∃ v r,vs=v :: r/\t v σ H fun σ' H'=>u r σ' H' Q
theorem ztF:PGs X [] zyF:=by
 intro pins s σ H vs us Q I r h
 obtain ⟨e,h⟩:=h
 subst e
 cases r
 exact assignInOrder_nil ⟨σ,H,I,h⟩
theorem zrk {e:Expr} {es:List Expr} {t:TG} {u:TGs} (h1:PG X e t) (h2:PGs X es u)
  (hs:(assignEach (e :: es) X.env).map (·.2)=assign e X.env :: (assignEach es X.env).map (·.2):=by rfl):PGs X (e :: es) (zxx t u):=by
 intro pins s σ H vs us Q I r h
 obtain ⟨v,vr,e1,h⟩:=h
 subst e1
 cases r with
 | cons r rr =>
  rw [hs]
  refine assignInOrder_cons (thn (h1 pins s σ H _ _ _ I r h) fun _ s1 ⟨σ1,H1,I1,q1⟩=>?_)
  exact h2 pins s1 σ1 H1 _ _ Q I1 rr q1
def zyD (K:PySem.W.Frag) (n:Nat) (t:TGs):TG:=fun v σ H Q=>∃ a xs,v=.ref a/\SqT K H a xs/\xs.length=n/\t xs σ H Q
theorem zvq {es:List Expr} {k:Nat} {t:TGs} {n:Nat} (hc:X.calm=true) (h:PGs X es t)
  (hn:(assignEach es X.env).length=n:=by rfl) (hst:(assignEach es X.env).findIdx? (·.1)=none:=by rfl):PG X (.Tuple es k pos) (zyD X.K n t):=by
 intro pins s σ H v u Q I r hw
 obtain ⟨a,xs,e1,hq,hl,hw⟩:=hw
 subst e1
 cases r
 obtain ⟨its,rv,ht,hz⟩:=I.tuple hq
 refine assign_Tuple_tuple (I.ok.hd hc) ht (by simp [hn,<- hl,rv.length]) hst fun h' hx=>?_
 have I1:Inv X pins σ H { s with heap:=h' }:=I.kept (t':=s.toks) fun b o e=>hx b o (Nat.ne_of_lt (Heap.lt_size e)) e
 exact h pins _ σ H xs _ Q I1 (by simpa using rv) hw
def zyE (to ti:TE) (t:zxI):TG:=fun v σ H Q=>to σ H fun o H1=>ti σ H1 fun i H2=>t o i v H2 fun H3=>Q σ H3
theorem zvr {o i:Expr} {to ti:TE} {t:zxI} (ho:PE X o to) (hi:PE X i ti) (hs:zx1 X t)
  (ha:∀ v,assign (.Subscript o i pos) X.env v=(do
   let ov <- holding [v] (eval o X.env)
   let iv <- holding [v,ov] (eval i X.env)
   standAt pos
   holding [v,ov,iv] (setItem ov iv v)
   release [v,ov,iv] []):=by intro _;rfl):PG X (.Subscript o i pos) (zyE to ti t):=by
 intro pins s σ H v u Q I r h
 rw [ha]
 refine wpAny_bind (wpAny_holding (thn (ho pins s σ H _ I h) fun ov s1 ⟨x,H1,I1,r1,q1⟩=>?_))
 refine wpAny_bind (wpAny_holding (thn (hi pins s1 σ H1 _ I1 q1) fun iv s2 ⟨y,H2,I2,r2,q2⟩=>?_))
 refine wpAny_bind (wpAny_standAt (wpAny_bind (wpAny_holding (thn (hs pins s2 σ H2 x y v ov iv u _ I2 r1 r2 r q2) fun _ s3 ⟨H3,I3,q3⟩=>?_))))
 exact wpAny_release ⟨σ,H3,I3,q3⟩
def zuW (te:TE) (g:TG):TS:=fun D σ H=>te σ H fun x H1=>g x σ H1 D.nx
theorem zss {tg e:Expr} {te:TE} {g:TG} (he:PE X e te) (hg:PG X tg g) (hs:swapsWithSole [tg] e pos.line X.env=pure false:=by rfl) (hw:swappedStores [tg] e X.env=pure none:=by rfl)
  (h1:(assignEach [tg] X.env).map (·.2)=[assign tg X.env]:=by rfl):PS X (.Assign [tg] e pos) (zuW te g):=by
 intro pins s σ H D I h
 refine wpAny_Assign_stores (thn (he pins s σ H _ I h) fun v s1 ⟨x,H1,I1,r1,q1⟩=>?_) hs hw
 rw [h1]
 exact thn (hg pins s1 σ H1 x v _ I1 r1 q1) fun _ s2 q=>q
theorem zsr {i:Nat} {x:Str} {e:Expr} {te:TE} {pos':Pos} (hN:X.N.Nodup) (hi:X.N[i]?=some x) (hx:Loc X.env.scope x) (he:PE X e te) (hs:swapsWith e (some (.Name x pos')) pos.line X.env=pure false:=by rfl) (hf:X.fn x=true\/X.env.scope.names.lookup x=some .local:=by first | exact .inl rfl | exact .inr rfl | assumption) :
  PS X (.Assign [.Name x pos'] e pos) (zuW te (zpW i)):=by
 intro pins s σ H D I h
 refine wpAny_Assign_Name (thn (he pins s σ H _ I h) fun v s1 ⟨y,H1,I1,r1,q1⟩=>?_) hs
 exact zgR I1 hN hi hx r1 (fun s2 I2=>⟨_,H1,I2,q1⟩) hf
def zx9 (i j:Nat) (ta:TA):TS:=fun D σ H=>ta σ H fun vs H1=>∃ v w,vs=[v,w]/\D.nx ((σ.set i (some v)).set j (some w)) H1
theorem zvj {i j:Nat} {x y:Str} {a b:Expr} {ta:TA} {px py pt:Pos} {kt k2 pt2} (hc:X.calm=true) (hN:X.N.Nodup) (hi:X.N[i]?=some x) (hj:X.N[j]?=some y) (hij:i ≠ j)
  (hx:X.env.scope.names.lookup x=some .local) (hy:X.env.scope.names.lookup y=some .local) (ha:PA X [a,b] ta)
  (hw:swappedStores [.Tuple [.Name x px,.Name y py] kt pt] (.Tuple [a,b] k2 pt2) X.env=pure (some [x,y]))
  (hs:swapsWithSole [.Tuple [.Name x px,.Name y py] kt pt] (.Tuple [a,b] k2 pt2) pos.line X.env=pure false:=by rfl) :
  PS X (.Assign [.Tuple [.Name x px,.Name y py] kt pt] (.Tuple [a,b] k2 pt2) pos) (zx9 i j ta):=by
 intro pins s σ H D I h
 rw [exec_Assign_arm]
 refine wpAny_bind (wpAny_standAt ?_)
 rw [hs]
 refine wpAny_bind (wpAny_pure ?_)
 rw [if_neg (by decide)]
 refine wpAny_bind (Tuple_ (thn (ha _ pins s σ H _ I h) fun us s1 ⟨vs,H1,I1,r1,q1⟩=>?_))
 obtain ⟨v,w,e1,q1⟩:=q1
 subst e1
 obtain ⟨u1,u2,rfl,rv,rw'⟩:∃ u1 u2,us=[u1,u2]/\RelV v u1/\RelV w u2:=by
  cases r1 with
  | cons p q =>
   cases q with
   | cons p' q' =>
    cases q'
    exact ⟨_,_,rfl,p,p'⟩
 refine wpAny_newObj_type ?_ (by show 2<=sizeLine;decide)
 have I2:Inv X pins σ H1 { s1 with heap:=s1.heap.push { cls:=.type "tuple",data:=.seq [u1,u2].toArray } }:=I1.kept (t':=s1.toks) fun b o e=>Heap.get?_push_of_some _ e
 rw [hw]
 refine wpAny_bind (wpAny_pure ?_)
 show wpAny (model X.prog X.w) X.A (do rule "assign.swapped-stores";let items <- unpackItems (.ref s1.heap.objs.size) 2 none;assignInOrder [fun v=>bindName X.env y v,fun v=>bindName X.env x v] items.reverse;pure Flow.next) _ _ _
 refine wpAny_bind (wpAny_rule (wpAny_bind (unpackItems_tuple (items:=#[u1,u2]) (I.ok.hd hc) (IsTup.new s1.heap _) fun h' hx'=>?_)))
 have I3:=I2.kept (h':=h') (t':=s1.toks) fun b o e=>hx' b o (Nat.ne_of_lt (Heap.lt_size e)) e
 show wpAny _ _ (assignInOrder [fun v=>bindName X.env y v,fun v=>bindName X.env x v] [u2,u1] >>= fun _=>pure Flow.next) _ _ _
 refine wpAny_bind (assignInOrder_cons (wpAny_bindName (zgR I3 hN hj (.inl hy) rw' (fun s2 I4=>?_) (.inr hy))))
 refine assignInOrder_cons (wpAny_bindName (zgR I4 hN hi (.inl hx) rv (fun s3 I5=>assignInOrder_nil (wpAny_pure ?_)) (.inr hx)))
 rw [List.set_comm _ _ (Ne.symm hij)] at I5
 exact ⟨_,H1,I5,q1⟩
end
section
variable {X:Cx} {pos:Pos}
def zuR (c:TT) (tb:TS):TS:=fun D σ H=>∃ W:Nat->St->Hp->Prop,(∃ m,W m σ H)/\∀ m σ H,W m σ H ->
 c σ H fun b H1=>if b=true then ∃ N:St->Hp->Prop,(∀ σ' H',N σ' H'->∃ m',m' < m/\W m' σ' H')/\tb { D with nx:=N,ct:=N,bk:=D.nx } σ H1 else D.nx σ H1
theorem zrf {c:Expr} {body:List Stmt} {tc:TT} {tb:TS} (hp:PassesOwn (model X.prog X.w) X.A X.env X.xe) (hc:PT X c tc) (hb:PSs X body tb):PS X (.While c body [] pos) (zuR tc tb):=by
 intro pins s σ H D I h
 obtain ⟨W,⟨m0,w0⟩,turn⟩:=h
 refine wpAny_While (codeAny_whileLoop (fun n s'=>∃ σ' H',Inv X pins σ' H' s'/\W n σ' H') ?_ m0 ⟨σ,H,I,w0⟩)
 rintro n s1 ⟨σ1,H1,I1,w1⟩
 refine wpAny_passesOwn hp (thn (hc pins s1 σ1 H1 _ I1 (turn n σ1 H1 w1)) fun b s2 ⟨H2,I2,q2⟩=>?_)
 cases b with
 | true =>
  obtain ⟨N,hN,q2⟩:=q2
  rw [if_pos rfl]
  refine wpAny_passesOwn hp (thn (hb pins s2 σ1 H2 _ I2 q2) fun f s3 q3=>?_)
  cases f with
  | next =>
   obtain ⟨σ3,H3,I3,n3⟩:=q3
   obtain ⟨m',hm,w3⟩:=hN σ3 H3 n3
   exact ⟨m',hm,σ3,H3,I3,w3⟩
  | cont =>
   obtain ⟨σ3,H3,I3,n3⟩:=q3
   obtain ⟨m',hm,w3⟩:=hN σ3 H3 n3
   exact ⟨m',hm,σ3,H3,I3,w3⟩
  | brk=>exact q3
  | ret v=>exact q3
 | false =>
  rw [if_neg Bool.false_ne_true]
  exact wpAny_execs_nil ⟨σ1,H2,I2,q2⟩
end
structure It where
 go:Nat->Hp->Prop
 yld:Nat->Hp->V->Hp->Prop
 stop:Nat->Hp->Prop
def zmG (X:Cx) (pins:List (Addr × Obj)) (H:Hp) (b:Addr):Prop :=
 H b=none/\b ≠ X.env.locals/\b ∉ X.fs/\(b ∈ X.ex\/X.s₀.heap.objs.size<=b)/\(∀ x c,X.env.cells.lookup x=some c->c ≠ b)/\∀ p ∈ X.pn ++ pins,p.1 ≠ b
theorem Inv.zrO {X:Cx} {pins:List (Addr × Obj)} {σ:St} {H H':Hp} {s:Shared} {b:Addr} (I:Inv X pins σ H s) (hb:s.heap.objs.size<=b) (hn:H' b=none):zmG X pins H' b:=by
 refine ⟨hn,Nat.ne_of_gt (Nat.lt_of_lt_of_le I.lt hb),I.zyw hb,.inr (Nat.le_trans I.sz hb),fun x c e z=>?_,fun p hp z=>?_⟩
 ·obtain ⟨v,q⟩:=I.cell x c e
  exact absurd (Nat.lt_of_lt_of_le q.lt (by rw [z];exact hb)) (Nat.lt_irrefl _)
 ·exact absurd (Nat.lt_of_lt_of_le (Heap.lt_size (I.pin p hp).1) (by rw [z];exact hb)) (Nat.lt_irrefl _)
structure Turn (P:Program) (w:World) (K:PySem.W.Frag) (tg:Expr) (J:It) (fp:List Addr) (it:Addr) (tn:Nat->Heap->Prop):Prop where
 mem:it ∈ fp
 obj:∀ i h,tn i h->∀ b ∈ fp,∃ o,h.get? b=some o/\∀ v,o.data ≠ .cell v
 keep:∀ i h h',tn i h->(∀ b ∈ fp,∀ o,h.get? b=some o->h'.get? b=some o)->tn i h'
 item:∀ (X:Cx),X.prog=P->X.w=w->X.K=K->X.calm=true->∀ (i:Nat) (pins:List (Addr × Obj)) (s:Shared) (σ:St) (H:Hp) (E:Value->Shared->Prop),Inv X pins σ H s->(∀ b ∈ fp,zmG X pins H b)->tn i s.heap->J.go i H ->
  wpAny (model P w) X.A (pyNext (.ref it)) (fun r s1=>∃ u,r=some u /\
   wpAny (model P w) X.A (letOwnedTupleGo tg (.ref it) u) (fun _ s2=>∃ x H',Inv X pins σ H' s2/\RelV x u/\J.yld i H x H'/\tn (i + 1) s2.heap/\∀ b ∈ fp,H' b=none) E s1) E s
 done:∀ (X:Cx),X.prog=P->X.w=w->X.K=K->X.calm=true->∀ (i:Nat) (pins:List (Addr × Obj)) (s:Shared) (σ:St) (H:Hp) (E:Value->Shared->Prop),Inv X pins σ H s->(∀ b ∈ fp,zmG X pins H b)->tn i s.heap->J.stop i H ->
  wpAny (model P w) X.A (pyNext (.ref it)) (fun r s1=>r=none/\Inv X pins σ H s1) E s
 self:∀ (A:Around) (i:Nat) (s:Shared) (Q:Value->Shared->Prop) (E:Value->Shared->Prop),tn i s.heap->Q (.ref it) s->wpAny (model P w) A (pyIter (.ref it)) Q E s
abbrev TI:=St->Hp->(It->Hp->Prop)->Prop
def PIE (X:Cx) (pins:List (Addr × Obj)) (σ:St) (tg:Expr) (R:It->Hp->Prop) (itv:Value) (s2:Shared):Prop :=
 ∃ (it:Addr) (fp:List Addr) (tn:Nat->Heap->Prop) (J:It) (H':Hp),itv=.ref it/\Inv X pins σ H' s2/\Turn X.prog X.w X.K tg J fp it tn/\tn 0 s2.heap/\(∀ b ∈ fp,zmG X pins H' b)/\R J H'
def PI (X:Cx) (tg iter:Expr) (wi:TI):Prop :=
 ∀ (pins:List (Addr × Obj)) (s:Shared) (σ:St) (H:Hp) (R:It->Hp->Prop),Inv X pins σ H s->wi σ H R ->
  wpAny (model X.prog X.w) X.A (eval iter X.env) (fun v s1=>wpAny (model X.prog X.w) X.A (pyIter v) (PIE X pins σ tg R) X.xe s1) X.xe s
theorem zpU {M:Model} {A:Around} {E:Value->Shared->Prop} {s:Shared} {tg:Expr} {it:Addr} {u:Value} {o:Obj} {n:String} {vs:Array Value} {Q:Unit->Shared->Prop} (ho:s.heap.get? it=some o) (hc:o.cls=.type n) (hd:o.data=.fields vs)
    (hn:["enumerate", "zip", "dict_itemiterator", "dict_reverseitemiterator", "odict_iterator", "itertools.zip_longest", "itertools.pairwise"].contains n=false) (hQ:Q () s):wpAny M A (letOwnedTupleGo tg (.ref it) u) Q E s:=by
  unfold letOwnedTupleGo
  cases tg <;> first
    | exact wpAny_pure hQ
    | (cases u <;> first
        | exact wpAny_pure hQ
        | (refine wpAny_bind (wpAny_load ho ?_)
           rw [hc, hd]
           show wpAny M A (if (["enumerate", "zip", "dict_itemiterator", "dict_reverseitemiterator", "odict_iterator", "itertools.zip_longest", "itertools.pairwise"].contains n && vs[0]? == some (rawInt _))=true then _ else _) Q E s
           rw [if_neg (by intro h;rw [hn, Bool.false_and] at h;cases h)]
           exact wpAny_pure hQ))
def Itl (K:PySem.W.Frag) (a:Addr):It :=
 ⟨fun i H=>∃ xs x,SqL K H a xs/\xs[i]?=some x,fun i H x H'=>H'=H/\∀ xs,SqL K H a xs->xs[i]?=some x,fun i H=>∃ xs,SqL K H a xs/\xs.length<=i⟩
def Itt (K:PySem.W.Frag) (a:Addr):It :=
 ⟨fun i H=>∃ xs x,SqT K H a xs/\xs[i]?=some x,fun i H x H'=>H'=H/\∀ xs,SqT K H a xs->xs[i]?=some x,fun i H=>∃ xs,SqT K H a xs/\xs.length<=i⟩
def Itr (lo:Int) (n:Nat):It:=⟨fun i _=>i < n,fun i H x H'=>H'=H/\x=.int (lo + i),fun i _=>n<=i⟩
theorem zoB {P:Program} {w:World} {K:PySem.W.Frag} {tg:Expr} (a it:Addr):Turn P w K tg (Itl K a) [it] it (fun i h=>h.IsListIter it a i) where
 mem:=by simp
 obj:=fun i h st b hb=>by
  have e:b=it:=by simpa using hb
  subst e
  obtain ⟨o,e,c,d⟩:=st
  exact ⟨o,e,fun v z=>by rw [d] at z;cases z⟩
 keep:=fun i h h' st k=>st.at fun o e=>k it (by simp) o e
 item:=by
  intro X hP hw hK hc i pins s σ H E I hf st hg
  subst hP hw hK
  obtain ⟨xs,x,hq,hx⟩:=hg
  obtain ⟨its,rv,p,hz⟩:=I.list hq
  obtain ⟨u,hu,ru⟩:=rv.get hx
  obtain ⟨f0,f1,f2,f3,f4,f5⟩:=hf it (by simp)
  refine wpAny_pyNext_list_item st p.isList (x:=u) (by simpa using hu) fun h' st' sb=>?_
  have I1:Inv X pins σ H { s with heap:=h' }:=I.turned (t':=s.toks) (fun b o hb e=>(sb.2 b hb).trans e) f0 f1 f3 f4 f5
  obtain ⟨o,e,c,d⟩:=id st'
  exact ⟨u,rfl,zpU (s:={ s with heap:=h' }) e c d (by decide) ⟨x,H,I1,ru,⟨rfl,fun ys hy=>by rw [I.zgU hy hq];exact hx⟩,st',fun b hb=>(hf b hb).1⟩⟩
 done:=by
  intro X hP hw hK hc i pins s σ H E I hf st hg
  subst hP hw hK
  obtain ⟨xs,hq,hx⟩:=hg
  obtain ⟨its,rv,p,hz⟩:=I.list hq
  obtain ⟨f0,f1,f2,f3,f4,f5⟩:=hf it (by simp)
  have hl:=rv.length
  exact wpAny_pyNext_list_end (I.ok.hd hc) st p.isList (by simp;omega) fun h' eb=>⟨rfl,I.turned (t':=s.toks) (fun b o hb e=>eb b o hb e) f0 f1 f3 f4 f5⟩
 self:=fun _ _ _ _ _ st h=>wpAny_pyIter_listiter st h
theorem znM {P:Program} {w:World} {K:PySem.W.Frag} {tg:Expr} (a it:Addr):Turn P w K tg (Itt K a) [it] it (fun i h=>h.IsTupleIter it a i) where
 mem:=by simp
 obj:=fun i h st b hb=>by
  have e:b=it:=by simpa using hb
  subst e
  obtain ⟨o,e,c,d⟩:=st
  exact ⟨o,e,fun v z=>by rw [d] at z;cases z⟩
 keep:=fun i h h' st k=>st.at fun o e=>k it (by simp) o e
 item:=by
  intro X hP hw hK hc i pins s σ H E I hf st hg
  subst hP hw hK
  obtain ⟨xs,x,hq,hx⟩:=hg
  obtain ⟨its,rv,p,hz⟩:=I.tuple hq
  obtain ⟨u,hu,ru⟩:=rv.get hx
  obtain ⟨f0,f1,f2,f3,f4,f5⟩:=hf it (by simp)
  refine wpAny_pyNext_tuple_item st (show s.heap.IsTuple a its.toArray from p) (x:=u) (by simpa using hu) fun h' st' sb=>?_
  have I1:Inv X pins σ H { s with heap:=h' }:=I.turned (t':=s.toks) (fun b o hb e=>(sb.2 b hb).trans e) f0 f1 f3 f4 f5
  obtain ⟨o,e,c,d⟩:=id st'
  exact ⟨u,rfl,zpU (s:={ s with heap:=h' }) e c d (by decide) ⟨x,H,I1,ru,⟨rfl,fun ys hy=>by rw [I.zoE hy hq];exact hx⟩,st',fun b hb=>(hf b hb).1⟩⟩
 done:=by
  intro X hP hw hK hc i pins s σ H E I hf st hg
  subst hP hw hK
  obtain ⟨xs,hq,hx⟩:=hg
  obtain ⟨its,rv,p,hz⟩:=I.tuple hq
  obtain ⟨f0,f1,f2,f3,f4,f5⟩:=hf it (by simp)
  have hl:=rv.length
  exact wpAny_pyNext_tuple_end (I.ok.hd hc) st (show s.heap.IsTuple a its.toArray from p) (by simp;omega) fun h' eb=>⟨rfl,I.turned (t':=s.toks) (fun b o hb e=>eb b o hb e) f0 f1 f3 f4 f5⟩
 self:=fun _ _ _ _ _ st h=>wpAny_pyIter_tupleiter st h
theorem znN {P:Program} {w:World} {K:PySem.W.Frag} {tg:Expr} (it:Addr) (lo:Int) (n:Nat):Turn P w K tg (Itr lo n) [it] it (fun i h=>IsRangeIter h it (lo + (i:Nat) * 1) ((n:Int) - (i:Nat)) 1) where
 mem:=by simp
 obj:=fun i h st b hb=>by
  have e:b=it:=by simpa using hb
  subst e
  exact ⟨_,st,fun v z=>by
   have z':Data.fields _=Data.cell v:=z
   cases z'⟩
 keep:=fun i h h' st k=>k it (by simp) _ st
 item:=by
  intro X hP hw hK hc i pins s σ H E I hf st hg
  subst hP hw hK
  obtain ⟨f0,f1,f2,f3,f4,f5⟩:=hf it (by simp)
  have W:=Walks.range (prog:=X.prog) (w:=X.w) (I.ok.hd hc) it lo 1 n
  refine W.item i s _ _ hg st fun v h' tk hv st' kk=>?_
  obtain ⟨t,rfl⟩:=hv
  have I1:Inv X pins σ H { s with heap:=h',toks:=tk }:=I.turned (fun b o hb e=>kk b o (by simpa using hb) e) f0 f1 f3 f4 f5
  refine ⟨_,rfl,zpU (s:={ s with heap:=h',toks:=tk }) (n:="range_iterator") st' rfl rfl (by decide) ⟨.int (lo + i),H,I1,⟨t,?_⟩,⟨rfl,rfl⟩,st',fun b hb=>(hf b hb).1⟩⟩
  rw [Int.mul_one]
 done:=by
  intro X hP hw hK hc i pins s σ H E I hf st hg
  subst hP hw hK
  obtain ⟨f0,f1,f2,f3,f4,f5⟩:=hf it (by simp)
  exact wpAny_pyNext_range_end (I.ok.hd hc) st (by have:n<=i:=hg;omega) fun h' eb=>⟨rfl,I.turned (t':=s.toks) (fun b o hb e=>eb b o hb e) f0 f1 f3 f4 f5⟩
 self:=fun _ _ _ _ _ st h=>wpAny_pyIter_rangeiter st h
end L2
namespace L2
open PySem PySem.Spec PyProof.Rows
section
variable {X:Cx} {tg:Expr}
theorem zq1 {pins:List (Addr × Obj)} {σ:St} {H:Hp} {s:Shared} {R:It->Hp->Prop} {E:Value->Shared->Prop} {lo hi:Int} {t u v:Tok} {tk:Nat} (I:Inv X pins σ H s) (h1:-(2 ^ 62)<=lo) (h2:lo < 2 ^ 62) (h3:-(2 ^ 62)<=hi) (h4:hi < 2 ^ 62)
  (q:R (Itr lo (hi - lo).toNat) H):wpAny (model X.prog X.w) X.A (pyIter (.ref s.heap.objs.size)) (PIE X pins σ tg R) E { s with heap:=s.heap.push { cls:=.type "range",data:=.fields #[.int lo t,.int hi u,.int 1 v] },toks:=tk }:=by
 refine wpAny_pyIter_range (IsRange.new ..) (small_one h1 h2 h3 h4) ?_
 have I1:Inv X pins σ H { s with heap:=s.heap.push { cls:=.type "range",data:=.fields #[.int lo t,.int hi u,.int 1 v] },toks:=tk }:=I.kept fun b o e=>Heap.get?_push_of_some _ e
 refine ⟨(s.heap.push { cls:=.type "range",data:=.fields #[.int lo t,.int hi u,.int 1 v] }).objs.size,[(s.heap.push { cls:=.type "range",data:=.fields #[.int lo t,.int hi u,.int 1 v] }).objs.size],_,_,H,rfl,
  I1.kept (t':=tk) fun b o e=>Heap.get?_push_of_some _ e,znN _ lo (hi - lo).toNat,?_,fun b hb=>?_,q⟩
 ·have e1:lo + ((0:Nat):Int) * 1=lo:=by simp
  have e2:(((hi - lo).toNat:Nat):Int) - ((0:Nat):Int)=Builtin.Range.rangeSize lo hi 1:=by rw [rangeSize_one];split <;> omega
  show IsRangeIter _ _ (lo + ((0:Nat):Int) * 1) ((((hi - lo).toNat:Nat):Int) - ((0:Nat):Int)) 1
  rw [e1,e2]
  exact Heap.get?_push_size _ rfl
 ·have e:b=(s.heap.push { cls:=.type "range",data:=.fields #[.int lo t,.int hi u,.int 1 v] }).objs.size:=by simpa using hb
  subst e
  exact I1.zrO (Nat.le_refl _) (I1.hok.fresh (Nat.le_refl _))
def zxu (ta:TA):TI:=fun σ H R=>ta σ H fun vs H1=>∃ j:Int,vs=[.int j]/\-(2 ^ 62)<=j/\j < 2 ^ 62/\R (Itr 0 j.toNat) H1
theorem zpi {a:Expr} {ta:TA} {p pos:Pos} (hg:Gl X "range") (hm:X.mg "range"=none) (ha:PA X [a] ta) (hs:starEach [a] X.env=[(false,eval a X.env)]:=by rfl):PI X tg (.Call (.Name "range" p) [a] [] pos) (zxu ta):=by
 intro pins s σ H R I h
 refine Call_ (zi4 I hg hm boot_range (PyProof.Rows.callWith_type1 (thn (ha pos pins s σ H _ I h) fun us s1 ⟨vs,H1,I1,r1,q1⟩=>?_) hs rfl))
 obtain ⟨j,e,q1,q2,q⟩:=q1
 subst e
 cases r1 with
 | cons r rr =>
  cases rr
  obtain ⟨t,rfl⟩:=r
  exact call_range_1 (zq1 I1 (by omega) (by omega) q1 q2 (by simpa using q))
def zyc (wi:TI) (g:TG) (tb:TS):TS:=fun D σ H=>wi σ H fun J H1=>∃ W:Nat->Nat->St->Hp->Prop,(∃ m,W 0 m σ H1)/\∀ i m σ H,W i m σ H ->
 (J.stop i H/\D.nx σ H)\/(J.go i H/\∃ N:St->Hp->Prop,(∀ σ' H',N σ' H'->∃ m',m' < m/\W (i + 1) m' σ' H')/\∀ x H',J.yld i H x H'->g x σ H' fun σ2 H2=>tb { D with nx:=N,ct:=N,bk:=D.nx } σ2 H2)
def zhr (fp:List Addr) (h:Heap):List (Addr × Obj):=fp.filterMap fun b=>(h.get? b).map fun o=>(b,o)
theorem zbt {fp:List Addr} {h:Heap} {b:Addr} {o:Obj} (hb:b ∈ fp) (e:h.get? b=some o):(b,o) ∈ zhr fp h:=List.mem_filterMap.mpr ⟨b,hb,by rw [e];rfl⟩
theorem zpl {fp:List Addr} {h:Heap} {p:Addr × Obj} (hp:p ∈ zhr fp h):p.1 ∈ fp/\h.get? p.1=some p.2:=by
 obtain ⟨b,hb,e⟩:=List.mem_filterMap.mp hp
 cases q:h.get? b with
 | none=>rw [q] at e;cases e
 | some o =>
  rw [q] at e
  have e':(b,o)=p:=Option.some.inj e
  subst e'
  exact ⟨hb,q⟩
theorem Inv.pinned {pins:List (Addr × Obj)} {σ:St} {H:Hp} {s:Shared} {fp:List Addr} (I:Inv X pins σ H s) (hf:∀ b ∈ fp,zmG X pins H b) (ho:∀ b ∈ fp,∃ o,s.heap.get? b=some o/\∀ v,o.data ≠ .cell v):Inv X (pins ++ zhr fp s.heap) σ H s :=
 I.zph fun p hp=>(List.mem_append.mp hp).elim (fun z=>I.pin p (List.mem_append_right _ z)) fun z=>by
  obtain ⟨hb,e⟩:=zpl z
  obtain ⟨f0,f1,f2,_⟩:=hf p.1 hb
  obtain ⟨o,e',d⟩:=ho p.1 hb
  rw [e] at e';cases e'
  exact ⟨e,f0,f1,f2,d⟩
theorem Inv.zel {pins pl:List (Addr × Obj)} {σ:St} {H:Hp} {s:Shared} (I:Inv X (pins ++ pl) σ H s):Inv X pins σ H s:=I.zph fun p hp=>I.pin p (List.mem_append_right _ (List.mem_append_left _ hp))
theorem zvk {iter:Expr} {body:List Stmt} {wi:TI} {g:TG} {tb:TS} {pos:Pos} (hp:PassesOwn (model X.prog X.w) X.A X.env X.xe) (hc:X.calm=true) (hi:PI X tg iter wi) (hg:PG X tg g) (hb:PSs X body tb)
  (hs:∀ x,foldedSetIterable iter X.env x=pure x:=by intro _;rfl):PS X (.For tg iter body [] pos) (zyc wi g tb):=by
 intro pins s σ H D I h
 refine wpAny_For (thn (hi pins s σ H _ I h) fun v s1 h1=>thn h1 fun itv s2 h2=>?_) hs
 obtain ⟨it,fp,tn,J,H2,e,I2,T,st2,f2,W,⟨m0,w0⟩,turn⟩:=h2
 subst e
 have stat:∀ {H':Hp},(∀ b ∈ fp,H' b=none)->∀ b ∈ fp,zmG X pins H' b:=fun hn b hb=>⟨hn b hb,(f2 b hb).2⟩
 refine codeAny_forLoop_any (fun n s'=>∃ i σ' H',Inv X pins σ' H' s'/\tn i s'.heap/\(∀ b ∈ fp,H' b=none)/\W i n σ' H') ?_ m0 ⟨0,σ,H2,I2,st2,fun b hb=>(f2 b hb).1,w0⟩
 rintro n s3 ⟨i,σ3,H3,I3,st3,fr3,w3⟩
 rcases turn i n σ3 H3 w3 with ⟨stop,qn⟩ | ⟨go,N,hN,step⟩
 ·refine wpAny_passesOwn hp (thn (T.done X rfl rfl rfl hc i pins s3 σ3 H3 X.xe I3 (stat fr3) st3 stop) fun r s4 ⟨hr,I4⟩=>?_)
  subst hr
  exact wpAny_execs_nil ⟨σ3,H3,I4,qn⟩
 ·refine wpAny_passesOwn hp (thn (T.item X rfl rfl rfl hc i pins s3 σ3 H3 X.xe I3 (stat fr3) st3 go) fun r s4 ⟨u,hr,h4⟩=>?_)
  subst hr
  refine wpAny_passesOwn hp (thn h4 fun _ s5 ⟨x,H5,I5,r5,y5,st5,fr5⟩=>?_)
  have I5':=I5.pinned (stat fr5) (T.obj _ _ st5)
  refine wpAny_passesOwn hp (thn (hg _ s5 σ3 H5 x u _ I5' r5 (step x H5 y5)) fun _ s6 ⟨σ6,H6,I6,q6⟩=>?_)
  refine wpAny_passesOwn hp (thn (hb _ s6 σ6 H6 _ I6 q6) fun f s7 q7=>?_)
  have again:∀ {σ7:St} {H7:Hp},Inv X (pins ++ zhr fp s5.heap) σ7 H7 s7->N σ7 H7->∃ m,m < n/\∃ i σ' H',Inv X pins σ' H' s7/\tn i s7.heap/\(∀ b ∈ fp,H' b=none)/\W i m σ' H':=fun {σ7 H7} I7 n7=>by
   obtain ⟨m',hm,w7⟩:=hN σ7 H7 n7
   refine ⟨m',hm,i + 1,σ7,H7,I7.zel,T.keep _ _ _ st5 fun b hb o e=>(I7.pin (b,o) (List.mem_append_right _ (List.mem_append_right _ (zbt hb e)))).1,fun b hb=>?_,w7⟩
   obtain ⟨o,e,d⟩:=T.obj _ _ st5 b hb
   exact (I7.pin (b,o) (List.mem_append_right _ (List.mem_append_right _ (zbt hb e)))).2.1
  cases f with
  | next=>obtain ⟨σ7,H7,I7,n7⟩:=q7;exact again I7 n7
  | cont=>obtain ⟨σ7,H7,I7,n7⟩:=q7;exact again I7 n7
  | brk=>obtain ⟨σ7,H7,I7,q7⟩:=q7;exact ⟨σ7,H7,I7.zel,q7⟩
  | ret v=>obtain ⟨x7,σ7,H7,I7,r7,q7⟩:=q7;exact ⟨x7,σ7,H7,I7.zel,r7,q7⟩
end
end L2
namespace L2
open PySem PySem.Spec PyProof.Rows
abbrev R2:=V->V->Hp->VK->Prop
def OpR (X:Cx) (f:Value->Value->Sem Value) (r:R2):Prop :=
 ∀ (pins:List (Addr × Obj)) (s:Shared) (σ:St) (H:Hp) (x y:V) (v u:Value) (Q:VK),Inv X pins σ H s->RelV x v->RelV y u->r x y H Q ->
  wpAny (model X.prog X.w) X.A (f v u) (EP X pins σ Q) X.xe s
def UnR (X:Cx) (f:Value->Sem Value) (r:V->Hp->VK->Prop):Prop :=
 ∀ (pins:List (Addr × Obj)) (s:Shared) (σ:St) (H:Hp) (x:V) (v:Value) (Q:VK),Inv X pins σ H s->RelV x v->r x H Q ->
  wpAny (model X.prog X.w) X.A (f v) (EP X pins σ Q) X.xe s
def zgd (X:Cx) (f:Value) (r:List V->Hp->VK->Prop):Prop :=
 ∀ (pins:List (Addr × Obj)) (s:Shared) (σ:St) (H:Hp) (xs:List V) (us:List Value) (Q:VK),Inv X pins σ H s->Vals xs us->r xs H Q ->
  wpAny (model X.prog X.w) X.A (call f us) (EP X pins σ Q) X.xe s
def zxH (X:Cx) (r:V->Hp->(Bool->Hp->Prop)->Prop):Prop :=
 ∀ (pins:List (Addr × Obj)) (s:Shared) (σ:St) (H:Hp) (x:V) (v:Value) (Q:Bool->Hp->Prop),Inv X pins σ H s->RelV x v->r x H Q ->
  wpAny (model X.prog X.w) X.A (truthy v) (TP X pins σ Q) X.xe s
def tOp (r:R2) (ta tb:TE):TE:=fun σ H Q=>ta σ H fun x H1=>tb σ H1 fun y H2=>r x y H2 Q
def tUn (r:V->Hp->VK->Prop) (ta:TE):TE:=fun σ H Q=>ta σ H fun x H1=>r x H1 Q
def rI (C:Int->Int->Prop) (g:Int->Int->V):R2:=fun x y H Q=>∃ i j,x=.int i/\y=.int j/\C i j/\Q (g i j) H
def rI0 (g:Int->Int->V):R2:=fun x y H Q=>∃ i j,x=.int i/\y=.int j/\Q (g i j) H
def rU (g:Int->V):V->Hp->VK->Prop:=fun x H Q=>∃ i,x=.int i/\Q (g i) H
section
variable {X:Cx} {a b c:Expr} {ta tb tc:TE} {pos:Pos}
theorem zxE (ha:PE X a ta) (hb:PE X b tb) {pins:List (Addr × Obj)} {s:Shared} {σ:St} {H:Hp} {R:V->V->Hp->Prop} (I:Inv X pins σ H s)
  (h:ta σ H fun x H1=>tb σ H1 fun y H2=>R x y H2) {Q:Value->Shared->Prop} {f:Value->Value->Sem Value}
  (hf:∀ v u s2 x y H2,Inv X pins σ H2 s2->RelV x v->RelV y u->R x y H2->wpAny (model X.prog X.w) X.A (f v u) Q X.xe s2) :
  wpAny (model X.prog X.w) X.A (eval a X.env) (fun v s₁=>wpAny (model X.prog X.w) X.A (eval b X.env) (fun u s₂=>wpAny (model X.prog X.w) X.A (f v u) Q X.xe s₂) X.xe s₁) X.xe s:=by
 refine thn (ha pins s σ H _ I h) fun v s1 ⟨x,H1,I1,r1,q1⟩=>?_
 refine thn (hb pins s1 σ H1 _ I1 q1) fun u s2 ⟨y,H2,I2,r2,q2⟩=>?_
 exact hf v u s2 x y H2 I2 r1 r2 q2
theorem ztH {op:Operator} {r:R2} (ho:OpR X (binaryOp op) r) (ha:PE X a ta) (hb:PE X b tb):PE X (.BinOp a op b pos) (tOp r ta tb):=by
 intro pins s σ H Q I h
 exact wpAny_BinOp (zxE ha hb I h fun v u s2 x y H2 I2 rx ry q=>ho pins s2 σ H2 x y v u Q I2 rx ry q)
theorem zxb {op:UnaryOp} {r:V->Hp->VK->Prop} (ho:UnR X (unaryOp op) r) (ha:PE X a ta):PE X (.UnaryOp op a pos) (tUn r ta):=by
 intro pins s σ H Q I h
 exact UnaryOp_ (thn (ha pins s σ H _ I h) fun v s1 ⟨x,H1,I1,r1,q1⟩=>ho pins s1 σ H1 x v Q I1 r1 q1)
theorem opI {f:Value->Value->Sem Value} {C:Int->Int->Prop} {g:Int->Int->Int}
  (rule:∀ (i j:Int) (t u:Tok) (s:Shared) (Q:Value->Shared->Prop) (E:Value->Shared->Prop),C i j->Q (.int (g i j) s.toks) { s with toks:=s.toks + 1 }->wpAny (model X.prog X.w) X.A (f (.int i t) (.int j u)) Q E s) :
  OpR X f (rI C fun i j=>.int (g i j)):=by
 intro pins s σ H x y v u Q I rx ry h
 obtain ⟨i,j,rfl,rfl,hc,q⟩:=h
 obtain ⟨t,rfl⟩:=rx
 obtain ⟨t',rfl⟩:=ry
 exact rule i j t t' s _ _ hc ⟨.int (g i j),H,I.tok _,⟨_,rfl⟩,q⟩
theorem zxP {f:Value->Value->Sem Value} {g:Int->Int->Int}
  (rule:∀ (i j:Int) (t u:Tok) (s:Shared) (Q:Value->Shared->Prop) (E:Value->Shared->Prop),Q (.int (g i j) s.toks) { s with toks:=s.toks + 1 }->wpAny (model X.prog X.w) X.A (f (.int i t) (.int j u)) Q E s) :
  OpR X f (rI0 fun i j=>.int (g i j)):=by
 intro pins s σ H x y v u Q I rx ry h
 obtain ⟨i,j,rfl,rfl,q⟩:=h
 obtain ⟨t,rfl⟩:=rx
 obtain ⟨t',rfl⟩:=ry
 exact rule i j t t' s _ _ ⟨.int (g i j),H,I.tok _,⟨_,rfl⟩,q⟩
theorem zxk {f:Value->Value->Sem Value} {g:Int->Int->Bool}
  (rule:∀ (i j:Int) (t u:Tok) (s:Shared) (Q:Value->Shared->Prop) (E:Value->Shared->Prop),Q (.bool (g i j)) s->wpAny (model X.prog X.w) X.A (f (.int i t) (.int j u)) Q E s) :
  OpR X f (rI0 fun i j=>.bl (g i j)):=by
 intro pins s σ H x y v u Q I rx ry h
 obtain ⟨i,j,rfl,rfl,q⟩:=h
 obtain ⟨t,rfl⟩:=rx
 obtain ⟨t',rfl⟩:=ry
 exact rule i j t t' s _ _ ⟨.bl (g i j),H,I,rfl,q⟩
def zx4 (i j:Int):Prop:=0<=j/\j<=1000000/\i.natAbs < 2 ^ 64
theorem zvH:OpR X (binaryOp .Add) (rI0 fun i j=>.int (i + j)):=zxP fun _ _ _ _ _ _ _ q=>add_int q
theorem zvB:OpR X (binaryOp .Sub) (rI0 fun i j=>.int (i - j)):=zxP fun _ _ _ _ _ _ _ q=>sub_int q
theorem ztS:OpR X (binaryOp .Mod) (rI (fun _ j=>j ≠ 0) fun i j=>.int (i.fmod j)):=opI fun _ _ _ _ _ _ _ hc q=>mod_int' hc q
theorem zvD:OpR X (binaryOp .Pow) (rI zx4 fun i j=>.int (i ^ j.toNat)):=opI fun _ _ _ _ _ _ _ hc q=>pow_int_small hc.1 hc.2.1 hc.2.2 q
theorem unI {f:Value->Sem Value} {g:Int->Int}
  (rule:∀ (i:Int) (t:Tok) (s:Shared) (Q:Value->Shared->Prop) (E:Value->Shared->Prop),Q (.int (g i) s.toks) { s with toks:=s.toks + 1 }->wpAny (model X.prog X.w) X.A (f (.int i t)) Q E s) :
  UnR X f (rU fun i=>.int (g i)):=by
 intro pins s σ H x v Q I rx h
 obtain ⟨i,rfl,q⟩:=h
 obtain ⟨t,rfl⟩:=rx
 exact rule i t s _ _ ⟨.int (g i),H,I.tok _,⟨_,rfl⟩,q⟩
theorem zuN:UnR X (unaryOp .USub) (rU fun i=>.int (-i)):=unI fun _ _ _ _ _ q=>neg_int q
end
section
variable {X:Cx} {a b c:Expr} {ta tb tc:TE} {pos:Pos}
theorem zwf {pins:List (Addr × Obj)} {σ:St} {H:Hp} {s:Shared} {Q:VK} {k k':Bool} (I:Inv X pins σ H s) (q:Q (.bl k) H) (e:k=k'):EP X pins σ Q (.bool k') s:=by
 subst e
 exact ⟨.bl k,H,I,rfl,q⟩
theorem zxh:OpR X (compareOp .Lt) (rI0 fun i j=>.bl (decide (i < j))):=zxk fun _ _ _ _ _ _ _ q=>lt_int q
theorem zxi:OpR X (compareOp .Gt) (rI0 fun i j=>.bl (decide (j < i))):=zxk fun _ _ _ _ _ _ _ q=>gt_int q
theorem zxj:OpR X (compareOp .GtE) (rI0 fun i j=>.bl (decide (j<=i))):=zxk fun _ _ _ _ _ _ _ q=>ge_int q
theorem ztP:OpR X (compareOp .IsNot) (fun x y H Q=>y=.non/\Q (.bl (!decide (x=.non))) H):=by
 intro pins s σ H x y v u Q I rx ry h
 obtain ⟨rfl,q⟩:=h
 cases ry
 refine isnot_none_gen (zwf I q ?_)
 cases x <;> first
  | (cases rx;rfl)
  | (obtain ⟨t,rfl⟩:=rx;rfl)
theorem zpp (b:Expr) {op:CmpOp} (h:op ≠ .In:=by decide) (h2:op ≠ .NotIn:=by decide):behindInMarks op b=false:=by
 have e1:(op == CmpOp.In)=false:=by cases op <;> first | rfl | exact absurd rfl h
 have e2:(op == CmpOp.NotIn)=false:=by cases op <;> first | rfl | exact absurd rfl h2
 cases b <;> simp [behindInMarks,e1,e2]
theorem ztJ {op:CmpOp} {r:R2} (ho:OpR X (compareOp op) r) (ha:PE X a ta) (hb:PE X b tb) (hm:behindInMarks op b=false):PE X (.Compare a [op] [b] pos) (tOp r ta tb):=by
 intro pins s σ H Q I h
 exact wpAny_Compare1 (zxE ha hb I h fun v u s2 x y H2 I2 rx ry q=>ho pins s2 σ H2 x y v u Q I2 rx ry q) hm
def zwR (t:TE):TT:=fun σ H Q=>t σ H fun x H'=>∃ k,x=.bl k/\Q k H'
theorem zo9 {op:CmpOp} {r:R2} (ho:OpR X (compareOp op) r) (ha:PE X a ta) (hb:PE X b tb) (hm:behindInMarks op b=false):PT X (.Compare a [op] [b] pos) (zwR (tOp r ta tb)):=by
 intro pins s σ H Q I h
 refine wpAny_isTrue_Compare1 (thn (ha pins s σ H _ I h) fun v s1 ⟨x,H1,I1,r1,q1⟩=>thn (hb pins s1 σ H1 _ I1 q1) fun u s2 ⟨y,H2,I2,r2,q2⟩ =>
  thn (ho pins s2 σ H2 x y v u _ I2 r1 r2 q2) fun c s3 ⟨z,H3,I3,r3,k,e,q3⟩=>?_) hm
 subst e
 cases r3
 exact wpAny_truthy_bool ⟨H3,I3,q3⟩
def zyI (K:PySem.W.Frag) (x:V) (H:Hp) (k:Bool):Prop :=
 match x with
 | .non=>k=false
 | .bl b=>k=b
 | .int i=>k=(i != 0)
 | .str y=>y.length<=sizeLine/\k=((y.length:Int) != 0)
 | .byt y=>y.size<=sizeLine/\k=((y.size:Int) != 0)
 | .ref p=>(∃ xs,SqL K H p xs/\k=!xs.isEmpty)\/(∃ xs,SqT K H p xs/\k=!xs.isEmpty)\/∃ kvs,H p=some (.dK kvs)/\k=!kvs.isEmpty
 | _=>False
theorem zoe {κ:Type} {kvs:List (κ × V)} {vs:List (κ × Value)} (r:KV kvs vs):(!vs.isEmpty)=!kvs.isEmpty:=by
 cases r <;> rfl
theorem zi6 {xs:List V} {its:List Value} (r:Vals xs its):(!its.toArray.isEmpty)=!xs.isEmpty:=by
 cases r <;> simp
theorem zkP:(sizeLine:Nat) < 2 ^ 63:=by rw [sizeLine_eq];decide
theorem zuP:zxH X (fun x H Q=>∃ k,zyI X.K x H k/\Q k H):=by
 intro pins s σ H x v Q I rx h
 obtain ⟨k,e,q⟩:=h
 have hl:=zkP
 have hs:sizeLine=16777216:=sizeLine_eq
 cases x with
 | non =>
  cases rx
  have e':k=false:=e
  subst e'
  exact truthy_none ⟨H,I,q⟩
 | bl b =>
  cases rx
  have e':k=b:=e
  subst e'
  exact wpAny_truthy_bool ⟨H,I,q⟩
 | int i =>
  obtain ⟨t,rfl⟩:=rx
  have e':k=(i != 0):=e
  subst e'
  exact PySem.P.truthy_int ⟨H,I,q⟩
 | str y =>
  obtain ⟨t,rfl⟩:=rx
  obtain ⟨hy,e'⟩:y.length<=sizeLine/\k=((y.length:Int) != 0):=e
  subst e'
  exact PySem.P.truthy_str (by omega) ⟨H,I.tok _,q⟩
 | byt y =>
  obtain ⟨t,rfl⟩:=rx
  obtain ⟨hy,e'⟩:y.size<=sizeLine/\k=((y.size:Int) != 0):=e
  subst e'
  exact PySem.W.truthy_bytes (by omega) ⟨H,I.tok _,q⟩
 | ref p =>
  cases rx
  have e':(∃ xs,SqL X.K H p xs/\k=!xs.isEmpty)\/(∃ xs,SqT X.K H p xs/\k=!xs.isEmpty)\/∃ kvs,H p=some (.dK kvs)/\k=!kvs.isEmpty:=e
  rcases e' with ⟨xs,hx,e'⟩ | ⟨xs,hx,e'⟩ | ⟨kvs,hx,e'⟩
  ·subst e'
   obtain ⟨its,r,pl,hz⟩:=I.list hx
   have hlen:=r.length
   exact wpAny_truthy_list pl.isList (by simp only [List.size_toArray];omega) ⟨H,I.tok _,by rw [zi6 r];exact q⟩
  ·subst e'
   obtain ⟨its,r,pl,hz⟩:=I.tuple hx
   have hlen:=r.length
   exact truthy_tuple pl (by simp only [List.size_toArray];omega) ⟨H,I.tok _,by rw [zi6 r];exact q⟩
  ·subst e'
   obtain ⟨hz,hS,vs,r,m⟩:kvs.length<=sizeLine/\(p == sysModules)=false/\∃ vs,KV kvs vs/\s.heap.DictOf (za3 X.prog X.w) p vs:=I.hok p _ hx
   have hlen:kvs.length=vs.length:=Paired.length r
   exact wpAny_truthy_dict hS m (by omega) ⟨H,I.tok _,by rw [zoe r];exact q⟩
 | _=>exact (show False from e).elim
theorem vals1 {x:V} {us:List Value} (r:Vals [x] us):∃ u,us=[u]/\RelV x u:=by
 cases r with
 | cons r1 r2=>cases r2;exact ⟨_,rfl,r1⟩
theorem vals2 {x y:V} {us:List Value} (r:Vals [x,y] us):∃ u w',us=[u,w']/\RelV x u/\RelV y w':=by
 cases r with
 | cons r1 r2 =>
  cases r2 with
  | cons r3 r4=>cases r4;exact ⟨_,_,rfl,r1,r3⟩
theorem zr3:zgd X (.builtin "abs") (fun xs H Q=>∃ i,xs=[.int i]/\Q (.int (if i < 0 then -i else i)) H):=by
 intro pins s σ H xs us Q I r h
 obtain ⟨i,rfl,q⟩:=h
 obtain ⟨u,rfl,t,rfl⟩:=vals1 r
 exact call_abs_int fun u tk=>⟨.int (if i < 0 then -i else i),H,I.tok _,⟨_,rfl⟩,q⟩
end
end L2
namespace L2
open PySem PySem.Spec PyProof.Rows
structure zyM (h:Heap) (x dx C:Addr) (mA:Str->Option Value):Prop where
 obj:h.get? x=some (PySem.W.instObj C dx)
 ns:h.Ns1 dx mA
 ne:dx ≠ x
theorem zqM.some_of {v:V} {o:Option Value} (r:zqM (some v) o):∃ u,o=some u/\RelV v u:=by
 cases o with
 | none=>exact (show False from r).elim
 | some u=>exact ⟨u,rfl,r⟩
structure Cls (K:PySem.W.Frag) (C:Addr):Prop where
 pg:PySem.W.plainGet K C Str.empty=true
 hd:PySem.W.hasDictIn K C=true
 po:PySem.W.plainOver K C=true
 sa:PySem.W.findIn K (.ref C) "__setattr__"=some (some (.builtin "object.__setattr__"))
structure Con (K:PySem.W.Frag) (C:Addr) (f:Str) (v:V) (u:Value):Prop where
 at_:PySem.W.findIn K (.ref C) f=some (some u)
 rel:RelV v u
 get:PySem.W.specialIn K u "__get__"=some none
 cp:PySem.W.copiedNames.contains f=false
structure Meth (K:PySem.W.Frag) (C:Addr) (m:Str) (f:Addr):Prop where
 at_:PySem.W.findIn K (.ref C) m=some (some (.ref f))
 fn:PySem.W.isFn K (.ref f)=true
 kp:PySem.W.keepIn K (.ref f)=true
section
variable {X:Cx} {pins:List (Addr × Obj)} {σ:St} {H:Hp} {s:Shared} {A:Around} {E:Value->Shared->Prop} {Q:Value->Shared->Prop} {c:Value} {b:Bool}
inductive zqx (K:PySem.W.Frag) (H:Hp):V->Value->Prop where
 | non:zqx K H .non (.type "NoneType")
 | bl (x:Bool):zqx K H (.bl x) (.type "bool")
 | int (i:Int):zqx K H (.int i) (.type "int")
 | str (x:Str):zqx K H (.str x) (.type "str")
 | flt (x:UInt64):zqx K H (.flt x) (.type "float")
 | lst {a:Addr} {xs:List V} (e:H a=some (.lst xs)):zqx K H (.ref a) (.type "list")
 | frz {a:Addr} {o:Obj} {xs:List V} (e:H a=some (.frz o (.lst xs))):zqx K H (.ref a) (.type "list")
 | tup {a:Addr} {xs:List V} (e:H a=some (.tup xs)):zqx K H (.ref a) (.type "tuple")
 | dK {a:Addr} {kvs:List (Key × V)} (e:H a=some (.dK kvs)):zqx K H (.ref a) (.type "dict")
 | dT {a:Addr} {kvs:List (List Key × V)} (e:H a=some (.dT kvs)):zqx K H (.ref a) (.type "dict")
 | ins {a C dx:Addr} {fs:List (Str × V)} (e:H a=some (.ins C dx fs)) (cl:Cls K C) (ha:PySem.W.findIn K (.ref C) "__class__"=some (some (.builtin "object.__class__")))
   (hn:PySem.W.specialIn K (.builtin "object.__class__") "__get__"=some (some (.builtin "getset_descriptor.__get__"))) (htk:PySem.W.takesIn K (.builtin "object.__class__")=some true)
   (hm:PySem.W.mroIn K C (.type "object")=some true):zqx K H (.ref a) (.ref C)
end
end L2
namespace L2
open PySem PySem.Spec PyProof.Rows
structure zcT (k:Nat) (A:Around):Prop where
 hd:A.handled=none
 dp:A.depth + 3 * k + 110 < recursionLimit
 un:A.units + 16 * k + 200 < cLine
 gd:A.guards=some []
theorem zcT.mono {j k:Nat} {A:Around} (r:zcT k A) (h:j<=k):zcT j A:=⟨r.hd,by have:=r.dp;omega,by have:=r.un;omega,r.gd⟩
theorem zcT.deeper {k:Nat} {A:Around} (r:zcT (k + 1) A) (env:Env):zcT k (A.deeper env) :=
 ⟨r.hd,by have:=r.dp;show A.depth + 1 + 3 * k + 110 < _;omega,by have:=r.un;show A.units + 3 + 16 * k + 200 < _;omega,r.gd⟩
theorem zcT.depth {k:Nat} {A:Around} (r:zcT k A):A.depth < recursionLimit:=by have:=r.dp;omega
theorem zcT.units {k:Nat} {A:Around} (r:zcT k A):A.units + 64 < cLine:=by have:=r.un;omega
def zxM:TA:=fun _ H Q=>Q [] H
def zuU (ta:TE) (tr:TA):TA:=fun σ H Q=>ta σ H fun x H1=>tr σ H1 fun xs H2=>Q (x :: xs) H2
section
variable {X:Cx} {e:Expr} {es:List Expr} {te:TE} {t:TA} {pos:Pos}
theorem zgg:PA X [] zxM:=fun _ _ _ _ H Q I h=>Calls.spliced_nil ⟨[],H,I,.nil,h⟩
theorem zco (ha:PE X e te) (hr:PA X es t) (hs:starEach (e :: es) X.env=(false,eval e X.env) :: starEach es X.env:=by rfl):PA X (e :: es) (zuU te t):=by
 intro pos pins s σ H Q I h
 rw [hs]
 show wpAny _ _ (spliced ((false,eval e X.env) :: backTo pos (starEach es X.env))) _ _ s
 refine Calls.spliced_cons (thn (ha pins s σ H _ I h) fun u s1 ⟨x,H1,I1,r1,q1⟩=>?_)
 exact thn (hr pos pins s1 σ H1 _ I1 q1) fun us s2 ⟨xs,H2,I2,r2,q2⟩=>⟨x :: xs,H2,I2,.cons r1 r2,q2⟩
def zx6 (t:TA):TE:=fun σ H Q=>t σ H fun xs H1=>xs.length<=sizeLine/\∀ p,H1 p=none->Q (.ref p) (upd H1 p (.tup xs))
def zya (t:TA):TE:=fun σ H Q=>t σ H fun xs H1=>xs.length<=sizeLine/\∀ p,H1 p=none->Q (.ref p) (upd H1 p (.lst xs))
theorem zvs {x1} (h:PA X es t):PE X (.Tuple es x1 pos) (zx6 t):=by
 intro pins s σ H Q I hq
 refine wpAny_Tuple_spliced (thn (h pos pins s σ H _ I hq) fun us s1 ⟨xs,H1,I1,r,z,q⟩=>⟨by rw [<- r.length];exact z,?_⟩)
 have hf:H1 s1.heap.objs.size=none:=I1.hok.fresh (Nat.le_refl _)
 refine ⟨.ref s1.heap.objs.size,upd H1 s1.heap.objs.size (.tup xs),I1.laid (t':=s1.toks) (fun b u e=>Heap.get?_push_of_some _ e) (Nat.le_refl _) ?_,rfl,q _ hf⟩
 exact ⟨z,us,r,⟨_,Heap.get?_push_size _ rfl,rfl,_,rfl⟩⟩
theorem zsw (h:PA X es t):PE X (.List es pos) (zya t):=by
 intro pins s σ H Q I hq
 refine wpAny_List_spliced (thn (h pos pins s σ H _ I hq) fun us s1 ⟨xs,H1,I1,r,z,q⟩=>⟨by rw [<- r.length];exact z,?_⟩)
 have hf:H1 s1.heap.objs.size=none:=I1.hok.fresh (Nat.le_refl _)
 refine ⟨.ref s1.heap.objs.size,upd H1 s1.heap.objs.size (.lst xs),I1.laid (t':=s1.toks) (fun b u e=>Heap.get?_push_of_some _ e) (Nat.le_refl _) ?_,rfl,q _ hf⟩
 exact ⟨z,us,0,r,Heap.get?_push_size _ rfl⟩
end
abbrev Sp:=List V->Hp->VK->XK->Prop
abbrev CXT:=List Env->Hp->Shared->XK->Value->Shared->Prop
structure zwO (P:Program) (w:World) (K:PySem.W.Frag) (mg:Str->Option Value) (base:Heap) (A:Around) (outer:List Env) (s:Shared) (H:Hp):Prop where
 frames:A.frames=some outer
 mod:Mod K mg base
 bs:∀ b o,base.get? b=some o->s.heap.get? b=some o/\H b=none
 bsz:base.objs.size<=s.heap.objs.size
 zp1:s.heap.FunFrames base outer
 frf:∀ b ∈ frs outer,H b=none
 hok:HOk P w H s.heap
 bare:AllBare s.gens
 tree:P.given.tree=none
theorem Inv.pyl {X:Cx} {pins:List (Addr × Obj)} {σ:List (Option V)} {H:Hp} {s:Shared} (I:Inv X pins σ H s) (hd:X.A.depth + 100 < recursionLimit):PySem.PylongRoom (model X.prog X.w) X.A s:=by
 obtain ⟨env,r,e,h1,h2,h3,h4⟩:=I.ok.sk
 exact PySem.PylongRoom.of I.nolimit hd (PySem.SeerAt.of (I.ok.mod.seer.keeps I.bk) I.ok.tree (I.ok.frames.trans (congrArg some e)) h1 h2 h3 h4)
def CE (outer:List Env) (P:Program) (w:World) (H:Hp) (s:Shared) (Q:VK) (u:Value) (s':Shared):Prop :=
 ∃ v H',s'.os=s.os/\AllBare s'.gens/\Un (frs outer) [] H H' s.heap s'.heap/\HOk P w H' s'.heap/\RelV v u/\Q v H'
def CR (CX:CXT) (outer:List Env) (P:Program) (w:World) (H:Hp) (s:Shared) (Q:VK) (E:XK) (r:Result) (s':Shared):Prop :=
 match r with
 | .ok (.ret u)=>CE outer P w H s Q u s'
 | .ok _=>False
 | .error e=>CX outer H s E e s'
structure zkl (P:Program) (w:World) (K:PySem.W.Frag) (mg:Str->Option Value) (base:Heap) (CX:CXT) (k:Nat) (f:Addr) (fd:FuncData) (ps:List Str) (sp:Sp):Prop where
 len:∀ vs H Q E,sp vs H Q E->vs.length=ps.length
 run:∀ (A:Around) (outer:List Env) (s:Shared) (H:Hp) (args:Args) (us:List Value) (vs:List V) (Q:VK) (E:XK),zcT k A->zwO P w K mg base A outer s H->BindsTo s fd args (ps.zip us)->Vals vs us->sp vs H Q E ->
  codeAny (model P w) A (.call (.ref f) args) (CR CX outer P w H s Q E) s
theorem zkl.imp {P:Program} {w:World} {K:PySem.W.Frag} {mg:Str->Option Value} {base:Heap} {CX:CXT} {k:Nat} {f:Addr} {fd:FuncData} {ps:List Str} {sp sp':Sp} (F:zkl P w K mg base CX k f fd ps sp)
  (h:∀ vs H Q E,sp' vs H Q E->sp vs H Q E):zkl P w K mg base CX k f fd ps sp' :=
 ⟨fun vs H Q E q=>F.len vs H Q E (h _ _ _ _ q),fun A outer s H args us vs Q E hr he hb hv hs=>F.run A outer s H args us vs Q E hr he hb hv (h _ _ _ _ hs)⟩
section
variable {X:Cx} {pins:List (Addr × Obj)} {σ:St} {H:Hp} {s s':Shared}
theorem Inv.env0 (I:Inv X pins σ H s):zwO X.prog X.w X.K X.mg X.base X.A X.stack s H :=
 ⟨I.ok.frames,I.ok.mod,I.bs,Nat.le_trans I.ok.bsz I.sz,I.stack,I.zoM,I.hok,I.bare,I.ok.tree⟩
theorem Inv.after {Q:VK} {u:Value} (I:Inv X pins σ H s) (h:CE X.stack X.prog X.w H s Q u s'):EP X pins σ Q u s':=by
 obtain ⟨v,H',os,bare,un,hok,r,q⟩:=h
 obtain ⟨hh,g,d,t,os'⟩:=s'
 obtain rfl:os'=s.os:=os
 exact ⟨v,H',I.call (h':=hh) (g':=g) (d':=d) (t':=t) (ch:=[]) un hok bare (fun b z=>absurd z (by simp)),r,q⟩
end
def ztg (sp:Sp) (dvs:List V) (E:XK) (t:TA):TE:=fun σ H Q=>t σ H fun vs H1=>sp (vs ++ dvs) H1 Q E
def Binds (K:PySem.W.Frag) (fd:FuncData) (ps:List Str) (ds:List Value):Prop :=
 ∀ (s:Shared) (us:List Value),K.In s.heap->(us ++ ds).length=ps.length->BindsTo s fd ⟨us,[]⟩ (ps.zip (us ++ ds))
theorem Binds.all {K:PySem.W.Frag} {fd:FuncData} {ps:List Str} (h:∀ us:List Value,us.length=ps.length->bindArgs fd ⟨us,[]⟩=pure (ps.zip us)):Binds K fd ps []:=fun s us _ hl=>by
 rw [List.append_nil] at hl ⊢
 exact .of_eq (h us hl)
def Passes (CX:CXT) (X:Cx) (E:XK):Prop:=∀ (pins:List (Addr × Obj)) (σ:St) (H:Hp) (s:Shared) (e:Value) (s':Shared),Inv X pins σ H s->CX X.stack H s E e s'->X.xe e s'
section
variable {X:Cx} {CX:CXT} {k:Nat} {f C:Addr} {fd:FuncData} {ps:List Str} {sp:Sp} {dvs:List V} {ds:List Value} {E:XK} {x m:Str} {p pos apos:Pos} {e o:Expr} {es:List Expr} {ta:TE} {t:TA}
theorem zu1 {pins:List (Addr × Obj)} {σ:St} {H:Hp} {s:Shared} {Q:VK} {us:List Value} {vs:List V} (F:zkl X.prog X.w X.K X.mg X.base CX k f fd ps sp) (hr:zcT k X.A) (hb:Binds X.K fd ps ds) (hd:Vals dvs ds) (hx:Passes CX X E)
  (I:Inv X pins σ H s) (r:Vals vs us) (h:sp (vs ++ dvs) H Q E):wpAny (model X.prog X.w) X.A (call (.ref f) us) (EP X pins σ Q) X.xe s:=by
 have r2:Vals (vs ++ dvs) (us ++ ds):=r.append hd
 have hl:(us ++ ds).length=ps.length:=by rw [<- r2.length];exact F.len _ _ _ _ h
 refine wpAny_call (codeAny_mono (F.run X.A X.stack s H ⟨us,[]⟩ (us ++ ds) (vs ++ dvs) Q E hr I.env0 (hb s us I.kIn hl) r2 h) fun r s' hq=>?_)
 cases r with
 | error e=>exact hx pins σ H s e s' I hq
 | ok fl =>
  cases fl with
  | ret u=>exact I.after hq
  | next=>exact False.elim hq
  | brk=>exact False.elim hq
  | cont=>exact False.elim hq
theorem ztK (F:zkl X.prog X.w X.K X.mg X.base CX k f fd ps sp) (hr:zcT k X.A) (hg:Gl X x) (hm:X.mg x=some (.ref f)) (hk:PySem.W.keepIn X.K (.ref f)=true) (hb:Binds X.K fd ps ds) (hd:Vals dvs ds) (hx:Passes CX X E)
  (ha:PA X (e :: es) t) (hdb:(x == ("__debug__":Str))=false:=by decide) (he:starEach (e :: es) X.env=(false,eval e X.env) :: starEach es X.env:=by rfl) (hpl:(backTo pos (starEach es X.env)).any (·.1)=false:=by rfl) :
  PE X (.Call (.Name x p) (e :: es) [] pos) (ztg sp dvs E t):=by
 intro pins s σ H Q I h
 refine wpAny_Call_Name_kw (zpy I hg hm ?_ hdb)
 refine PySem.W.callWith_K (h₀:=X.base) I.ok.mod.kin hk (thn (ha pos pins s σ H _ I h) fun us s1 ⟨vs,H1,I1,r,q⟩=>⟨I1.kIn,?_⟩) he hpl
 exact zu1 F hr hb hd hx I1 r q
structure Mk (K:PySem.W.Frag) (C f:Addr):Prop where
 makes:PySem.W.makesIn K C=true
 init:PySem.W.findIn K (.ref C) "__init__"=some (some (.ref f))
 fn:PySem.W.isFn K (.ref f)=true
 kp:PySem.W.keepIn K (.ref C)=true
end
section
variable {X:Cx} {CX:CXT} {k:Nat} {f C:Addr} {fd:FuncData} {ps ks:List Str} {sp:Sp} {E:XK} {x m:Str} {p pos apos kpos:Pos} {e o:Expr} {es:List Expr} {kws:List Keyword} {te ta:TE} {t tk:TA} {nm:Option Str}
structure zx2 (K:PySem.W.Frag) (fd:FuncData) (ps ks:List Str) (g:List Value->List Value->List Value) (gV:List V->List V->List V):Prop where
 to:∀ (s:Shared) (us ws:List Value),K.In s.heap->(g us ws).length=ps.length->BindsTo s fd ⟨us,ks.zip ws⟩ (ps.zip (g us ws))
 rel:∀ {vs:List V} {us:List Value} {zs:List V} {ws:List Value},Vals vs us->Vals zs ws->Vals (gV vs zs) (g us ws)
variable {g:List Value->List Value->List Value} {gV:List V->List V->List V}
end
structure zeh (N P:List Str) (sc:Scope):Prop where
 kind:sc.kind=.function
 co:sc.isCoroutine=false
 gen:sc.isGenerator=false
 nd:N.Nodup
 pre:N.take P.length=P
 par:∀ x ∈ P,sc.names.lookup x=some .local\/sc.names.lookup x=some .cell
 nofree:∀ y ∈ sc.names,y.2 ≠ .free
theorem zlf {kindOf:Str->Option NameKind} {x:Str}:∀ {binds:List (Str × Value)} {m:Str->Option Value},(∀ v,(x,v) ∉ binds)->bindL kindOf binds m x=m x
 | [],_,_=>rfl
 | (n,v) :: r,m,h=>by
  unfold bindL
  rw [zlf fun w hw=>h w (List.mem_cons_of_mem _ hw)]
  split
  ·have:x ≠ n:=by rintro rfl;exact h v List.mem_cons_self
   simp [this]
  ·rfl
theorem zlh {kindOf:Str->Option NameKind} {x:Str}:∀ {binds:List (Str × Value)} {m:Str->Option Value},(∀ v,(x,v) ∉ binds)->bindC kindOf binds m x=m x
 | [],_,_=>rfl
 | (n,v) :: r,m,h=>by
  unfold bindC
  rw [zlh fun w hw=>h w (List.mem_cons_of_mem _ hw)]
  split
  ·rfl
  ·have:x ≠ n:=by rintro rfl;exact h v List.mem_cons_self
   simp [this]
theorem zlg {kindOf:Str->Option NameKind} {x:Str} {v:Value}:∀ {P:List Str} {vs:List Value} {i:Nat} {m:Str->Option Value},P.Nodup->P[i]?=some x->vs[i]?=some v->kindOf x=some .local ->
  bindL kindOf (P.zip vs) m x=some v
 | [],_,_,_,_,h,_,_=>by simp at h
 | _ :: _,[],_,_,_,_,h,_=>by simp at h
 | p :: P,w :: vs,0,m,nd,h1,h2,hk=>by
  simp at h1 h2;subst h1;subst h2
  show bindL kindOf ((p,w) :: P.zip vs) m p=_
  unfold bindL
  rw [zlf fun v hv=>(List.nodup_cons.mp nd).1 (List.of_mem_zip hv).1,if_pos hk]
  simp
 | p :: P,w :: vs,i + 1,m,nd,h1,h2,hk=>by
  show bindL kindOf ((p,w) :: P.zip vs) m x=_
  unfold bindL
  exact zlg (i:=i) (List.nodup_cons.mp nd).2 (by simpa using h1) (by simpa using h2) hk
theorem zli {kindOf:Str->Option NameKind} {x:Str} {v:Value}:∀ {P:List Str} {vs:List Value} {i:Nat} {m:Str->Option Value},P.Nodup->P[i]?=some x->vs[i]?=some v->kindOf x ≠ some .local ->
  bindC kindOf (P.zip vs) m x=some v
 | [],_,_,_,_,h,_,_=>by simp at h
 | _ :: _,[],_,_,_,_,h,_=>by simp at h
 | p :: P,w :: vs,0,m,nd,h1,h2,hk=>by
  simp at h1 h2;subst h1;subst h2
  show bindC kindOf ((p,w) :: P.zip vs) m p=_
  unfold bindC
  rw [zlh fun v hv=>(List.nodup_cons.mp nd).1 (List.of_mem_zip hv).1,if_neg hk]
  simp
 | p :: P,w :: vs,i + 1,m,nd,h1,h2,hk=>by
  show bindC kindOf ((p,w) :: P.zip vs) m x=_
  unfold bindC
  exact zli (i:=i) (List.nodup_cons.mp nd).2 (by simpa using h1) (by simpa using h2) hk
def start (N:List Str) (vs:List V):St:=vs.map some ++ List.replicate (N.length - vs.length) none
def zqL (CX:CXT) (P:Program) (w:World) (K:PySem.W.Frag) (mg:Str->Option Value) (base:Heap) (N:List Str) (qual:Str) (scope:Scope) (f:Addr) (cd:Value) (A:Around) (outer:List Env) (s:Shared) (H:Hp) (E:XK):Cx where
 prog:=P
 w:=w
 K:=K
 mg:=mg
 base:=base
 A:=A.deeper (envOfC qual scope s.heap.objs.size f cd)
 N:=N
 s₀:=s
 H₀:=H
 env:=envOfC qual scope s.heap.objs.size f cd
 outer:=outer
 stack:=envOfC qual scope s.heap.objs.size f cd :: outer
 ex:=[]
 calm:=true
 fn:=fun _=>true
 pn:=[]
 xe:=fun e s'=>wpAny (model P w) (A.deeper (envOfC qual scope s.heap.objs.size f cd)) (leaving (envOfC qual scope s.heap.objs.size f cd) e) (fun _ s''=>CX outer H s E e s'') (fun e' s''=>CX outer H s E e' s'') s'
theorem znu {sc:Scope} {n:Nat} {x:Str} (h:sc.names.lookup x=some .cell):∃ c,(cellsFrom n sc.names []).lookup x=some c:=by
 have q:=PySem.W.cellsFrom_some sc.names n [] (.inl h)
 exact Option.isSome_iff_exists.mp q
theorem zpR {CX:CXT} {P:Program} {w:World} {K:PySem.W.Frag} {mg:Str->Option Value} {base:Heap} {N ps:List Str} {qual:Str} {scope:Scope} {f:Addr} {cd:Value} {A:Around} {outer:List Env} {s s1:Shared} {H:Hp} {E:XK} {us:List Value} {vs:List V}
  (S:zeh N ps scope) (hd:A.handled=none) (e0:zwO P w K mg base A outer s H) (hl:vs.length=ps.length) (r:Vals vs us)
  (x:InCallC s s.heap.objs.size (bindL (envOfC qual scope s.heap.objs.size f cd).kindOf (ps.zip us) fun _=>none) (cellsFrom (s.heap.objs.size + 1) scope.names []) (bindC (envOfC qual scope s.heap.objs.size f cd).kindOf (ps.zip us) fun _=>none) s1) :
  Inv (zqL CX P w K mg base N qual scope f cd A outer s H E) [] (start N vs) H s1:=by
 have hpl:ps.length<=N.length:=by have:=congrArg List.length S.pre;rw [List.length_take] at this;omega
 obtain ⟨h1,tk,rfl,hk⟩:=x.done
 have noA:∀ b:Addr,b ∉ (zqL CX P w K mg base N qual scope f cd A outer s H E).ex:=fun b z=>absurd (show b ∈ ([]:List Addr) from z) (by simp)
 refine ⟨⟨e0.mod,S.kind,rfl,rfl,Nat.le_refl _,fun y z c h1 h2=>?_,fun y hy=>?_,fun y c _ h=>?_,fun _=>hd,Around.frames_deeper e0.frames,.inr ⟨rfl,rfl⟩,fun b z=>absurd z (noA b),e0.bs,e0.bsz,fun b _ _=>noA b,fun b z=>absurd z (noA b),e0.zp1,e0.frf,e0.tree,⟨_,_,rfl,S.gen,S.co,rfl,rfl⟩⟩,
  rfl,e0.bare,Un.kept hk,⟨_,x.toInCall.ns,fun i y v h1 h2 h3=>?_⟩,fun y c h=>⟨_,x.cell y c h⟩,e0.hok.fresh (Nat.le_refl _),fun y c h=>?_,fun p hp=>absurd (show p ∈ ([]:List (Addr × Obj)) from hp) (by simp),e0.hok.kept hk,?_⟩
 ·exact name_of_addr x.apart (PySem.mem_of_lookup h1) (PySem.mem_of_lookup h2)
 ·have hy:scope.names.lookup y=some .cell\/scope.names.lookup y=some .free:=hy
  rcases hy with hy | hy
  ·exact znu hy
  ·exact absurd rfl (S.nofree _ (PySem.mem_of_lookup hy))
 ·exact Nat.le_of_lt (x.above y c (PySem.mem_of_lookup h))
 ·have hi:i < vs.length:=by
   unfold start at h2
   by_cases hi:i < vs.length
   ·exact hi
   ·rw [List.getElem?_append_right (by simpa using hi)] at h2
    rw [List.getElem?_replicate] at h2
    split at h2 <;> cases h2
  have ha:vs[i]?=some v:=by
   unfold start at h2
   rw [List.getElem?_append_left (by simpa using hi),List.getElem?_map] at h2
   cases e:vs[i]? with
   | none=>rw [e] at h2;cases h2
   | some a=>rw [e] at h2;cases h2;rfl
  obtain ⟨u,hu,rv⟩:=r.get ha
  have hp:ps[i]?=some y:=by
   rw [<- S.pre,List.getElem?_take_of_lt (by omega)];exact h1
  have ndP:ps.Nodup:=by rw [<- S.pre];exact S.nd.sublist (List.take_sublist _ _)
  refine ⟨u,rv,?_⟩
  rcases S.par y (List.mem_of_getElem? hp) with k | k
  ·exact .inl ⟨k,zlg ndP hp hu k⟩
  ·obtain ⟨c,e⟩:=znu (n:=s.heap.objs.size + 1) k
   refine .inr ⟨.inl k,c,e,?_⟩
   have q:=x.cell y c e
   rw [zli ndP hp hu (by show scope.names.lookup y ≠ _;rw [k];decide)] at q
   exact q
 ·exact e0.hok.fresh (Nat.le_of_lt (x.above y c (PySem.mem_of_lookup h)))
 ·unfold start
  show _=N.length
  rw [List.length_append,List.length_map,List.length_replicate]
  omega
theorem zxA {CX:CXT} {P:Program} {w:World} {K:PySem.W.Frag} {mg:Str->Option Value} {base:Heap} {k:Nat} {f:Addr} {name qual:Str} {params:Arguments} {body:List Stmt} {scope:Scope} {dV kV doc pm cdv ct oc:Value} {an od:Option Addr}
  {osl:Array (Option Value)} {N ps:List Str} {sp:Sp} (lk:K.lookup f=some ⟨oc,od,.func (PySem.W.fnOf name qual params body scope dV kV doc pm an cdv ct),osl⟩) (hcd:PySem.W.codeIn K cdv qual=true) (S:zeh N ps scope)
  (len:∀ vs H Q E,sp vs H Q E->vs.length=ps.length)
  (hbody:∀ (A:Around) (outer:List Env) (s:Shared) (H:Hp) (vs:List V) (Q:VK) (E:XK),zcT k (A.deeper (envOfC qual scope s.heap.objs.size f cdv))->sp vs H Q E ->
   ∃ t,PSs (zqL CX P w K mg base N qual scope f cdv A outer s H E) body t/\t { nx:=fun _ H'=>Q .non H',rt:=Q } (start N vs) H) :
  zkl P w K mg base CX (k + 1) f (PySem.W.fnOf name qual params body scope dV kV doc pm an cdv ct) ps sp:=by
 refine ⟨len,fun A outer s H args us vs Q E hr e0 hb r hsp=>?_⟩
 have hl:=len _ _ _ _ hsp
 have KX:K.In s.heap:=e0.mod.kin.keeps fun b o e=>(e0.bs b o e).1
 have lim:s.heap.NoLimit:=e0.mod.nolimit.keeps fun b o e=>(e0.bs b o e).1
 have hkind:∀ y ∈ ps.zip us,scope.names.lookup y.1=some .local\/(scope.names.lookup y.1=some .cell/\((cellsFrom (s.heap.objs.size + 1) scope.names []).lookup y.1).isSome=true):=fun ⟨n,v⟩ hy=>by
  rcases S.par n (List.of_mem_zip hy).1 with q | q
  ·exact .inl q
  ·exact .inr ⟨q,PySem.W.cellsFrom_some _ _ _ (.inl q)⟩
 refine codeAny_call_function hr.depth (KX _ _ lk) rfl S.co S.gen rfl (PySem.W.codeRec_of KX hcd) (hb _ _ _ _ ?_)
 refine wpAny_newFunctionEnv_cells S.kind hkind fun env he s1 x=>?_
 subst he
 refine ⟨lim.keeps x.toInCall.keep,codeAny_func ?_⟩
 obtain ⟨t,ht,hq⟩:=hbody A outer s H vs Q E (hr.deeper _) hsp
 have I:Inv (zqL CX P w K mg base N qual scope f cdv A outer s H E) [] (start N vs) H s1:=zpR S hr.hd e0 hl r x
 refine wpAny_mono (ht [] s1 (start N vs) H _ I hq) (fun fl s' hs=>?_) fun e s' hs=>hs
 have fin:∀ {σ':St} {H':Hp} {v:V} {u:Value},Inv (zqL CX P w K mg base N qual scope f cdv A outer s H E) [] σ' H' s'->RelV v u->Q v H'->CE outer P w H s Q u s' :=
  fun {σ' H' v u} J rv q=>⟨v,H',J.os,J.bare,J.base,J.hok,rv,q⟩
 cases fl with
 | ret u =>
  obtain ⟨v,σ',H',J,rv,q⟩:=hs
  exact fin J rv q
 | next =>
  obtain ⟨σ',H',J,q⟩:=hs
  exact fin (v:=V.non) (u:=Value.none) J rfl q
 | brk =>
  obtain ⟨_,_,_,q⟩:=hs
  exact False.elim q
 | cont =>
  obtain ⟨_,_,_,q⟩:=hs
  exact False.elim q
end L2
namespace L2
open PySem PySem.Spec PyProof.Rows
section
variable {X:Cx} {x:Str} {p pos:Pos} {e:Expr} {es:List Expr} {t:TA} {id T:String} {r:List V->Hp->VK->Prop}
def tCB (r:List V->Hp->VK->Prop) (t:TA):TE:=fun σ H Q=>t σ H fun vs H1=>r vs H1 Q
theorem zjB (hc:zgd X (.builtin id) r) (hg:Gl X x) (hm:X.mg x=none) (hv:bootBuiltins x=some (.builtin id)) (ha:PA X (e :: es) t) (hn:x ≠ "__name__":=by decide) (hdb:(x == ("__debug__":Str))=false:=by decide)
  (he:starEach (e :: es) X.env=(false,eval e X.env) :: starEach es X.env:=by rfl) (hpl:(backTo pos (starEach es X.env)).any (·.1)=false:=by rfl):PE X (.Call (.Name x p) (e :: es) [] pos) (tCB r t):=by
 intro pins s σ H Q I h
 refine wpAny_Call_Name_kw (zi4 I hg hm hv ?_ hn hdb)
 exact PyProof.Rows.callWith_builtin1 (thn (ha pos pins s σ H _ I h) fun us s1 ⟨vs,H1,I1,r1,q1⟩=>hc pins s1 σ H1 vs us Q I1 r1 q1) he hpl
theorem zkD (hc:zgd X (.type T) r) (hg:Gl X x) (hm:X.mg x=none) (hv:bootBuiltins x=some (.type T)) (ha:PA X (e :: es) t) (hn:x ≠ "__name__":=by decide) (hdb:(x == ("__debug__":Str))=false:=by decide)
  (he:starEach (e :: es) X.env=(false,eval e X.env) :: starEach es X.env:=by rfl) (hpl:(backTo pos (starEach es X.env)).any (·.1)=false:=by rfl):PE X (.Call (.Name x p) (e :: es) [] pos) (tCB r t):=by
 intro pins s σ H Q I h
 refine wpAny_Call_Name_kw (zi4 I hg hm hv ?_ hn hdb)
 exact PyProof.Rows.callWith_type1 (thn (ha pos pins s σ H _ I h) fun us s1 ⟨vs,H1,I1,r1,q1⟩=>hc pins s1 σ H1 vs us Q I1 r1 q1) he hpl
end
end L2
namespace HT
open PySem PyProof.Rows
def lexLt:List Int->List Int->Bool
 | [],[]=>false
 | [],_ :: _=>true
 | _ :: _,[]=>false
 | x :: xs,y :: ys=>if x=y then lexLt xs ys else decide (x < y)
theorem zn4 (x y:Int) (xs ys:List Int):lexLt (x :: xs) (y :: ys)=if x=y then lexLt xs ys else decide (x < y):=rfl
theorem zjK:lexLt [] []=false:=rfl
theorem ziA (y:Int) (ys:List Int):lexLt [] (y :: ys)=true:=rfl
theorem ziB (x:Int) (xs:List Int):lexLt (x :: xs) []=false:=rfl
theorem zgY (A:Around) (s:Shared) (a:Int) (t:Tok) (c:Int) (u:Tok):∃ e,SeqAt.EqAt A s (.int a t) (.int c u) e/\(e=true ↔ a=c) :=
 ⟨(a == c),SeqAt.EqAt.int_int a t c u,by simp⟩
theorem zqZ (A:Around) (s:Shared) (a:Int) (t:Tok) (c:Int) (u:Tok) (prog:Program) (w:World) (E:Value->Shared->Prop) (Q:Value->Shared->Prop) (h:Q (.bool (decide (a < c))) s) :
  wpAny (model prog w) A (richCompare .Lt (.int a t) (.int c u)) Q E s :=
 (PyProof.Rows.lt_int h:wpAny (model prog w) A (compareOp .Lt (.int a t) (.int c u)) Q E s)
section
open PySem.SeqAt
open PySem.AutoSeq1 (wpAny_loadPart')
open PySem.MeetsSeq PySem.MeetsSeq2 PySem.MeetsSeq3
theorem zjq (l b:Addr) (items items2:Array Value) (n n2:Nat) (dd dd2:Option Addr) (sl sl2:Array (Option Value)) (ns ms:List Int) (hi:IntsAre items.toList ns) (hj:IntsAre items2.toList ms) :
  Meets (Builtin.«tuple.__lt__» ⟨[.ref l,.ref b],[]⟩)
   (fun _ R s=>s.heap.get? l=some { cls:=.type "tuple",dict:=dd,data:=.seq items n,slots:=sl }/\s.heap.get? b=some { cls:=.type "tuple",dict:=dd2,data:=.seq items2 n2,slots:=sl2 } /\
    R (.ok (.ret (.bool (lexLt ns ms)))) s) :=
 .of_wp fun prog w A R s h=>by
  obtain ⟨hp,g,d,tk,os⟩:=s;obtain ⟨hl,hb,h⟩:=h
  have f2:=AutoSeq1.sub_tuple_tuple
  have z1:items.size=ns.length:=by rw [<- hi.length];simp
  have z2:items2.size=ms.length:=by rw [<- hj.length];simp
  wp_walk using wpAny_loadPart' hl,wpAny_loadPart' hb,wpAny_forIn_list _ (fun rest b s'=>b.1=none/\s'=⟨hp,g,d,tk,os⟩/\∃ (vs ws:List Value) (ns' ms':List Int),rest=vs.zip ws /\
   IntsAre vs ns'/\IntsAre ws ms'/\ns'.length + items2.size=ms'.length + items.size/\R (.ok (.ret (.bool (lexLt ns' ms')))) ⟨hp,g,d,tk,os⟩) _
  case turn =>
   rintro ⟨y,x⟩ rest b s' ⟨hb',rfl,vs,ws,ns',ms',hz,hvi,hwi,hlen,hR⟩
   cases hvi with
   | nil=>rw [List.zip_nil_left] at hz;cases hz
   | cons a t hvi' =>
    cases hwi with
    | nil=>rw [List.zip_nil_right] at hz;cases hz
    | cons c u hwi' =>
     rw [List.zip_cons_cons] at hz
     injection hz with hyx hrest
     injection hyx with hy hx
     subst hy hx
     rw [zn4] at hR
     simp only [List.length_cons] at hlen
     obtain ⟨e,he,hiff⟩:=zgY A.in1 ⟨hp,g,d,tk,os⟩ a t c u
     refine wpAny_bind (he prog w _ _ ?_)
     cases e with
     | true =>
      rw [if_pos (hiff.mp rfl)] at hR
      wp_walk
      exact ⟨rfl,rfl,_,_,_,_,hrest,hvi',hwi',by omega,hR⟩
     | false =>
      rw [if_neg (fun q=>absurd (hiff.mpr q) Bool.false_ne_true)] at hR
      have hri:=zqZ A.in1 ⟨hp,g,d,tk,os⟩ a t c u prog w
      wp_walk using hri
      exact ⟨_,rfl,by simpa using hR⟩
  case fin =>
   rintro ⟨b1,b2⟩ s' ⟨hb',rfl,vs,ws,ns',ms',hz,hvi,hwi,hlen,hR⟩
   simp only at hb'
   subst hb'
   have hv:lexLt ns' ms'=decide (items.size < items2.size):=by
    cases hvi with
    | nil =>
     cases hwi with
     | nil =>
      simp only [List.length_nil] at hlen
      rw [zjK]
      exact (decide_eq_false (by omega)).symm
     | cons c u hw =>
      simp only [List.length_nil,List.length_cons] at hlen
      rw [ziA]
      exact (decide_eq_true (by omega)).symm
    | cons a t hv =>
     cases hwi with
     | nil =>
      simp only [List.length_nil,List.length_cons] at hlen
      rw [ziB]
      exact (decide_eq_false (by omega)).symm
     | cons c u hw =>
      rw [List.zip_cons_cons] at hz
      cases hz
   rw [hv] at hR
   wp_walk
   exact ⟨_,rfl,by simpa [Builtin.Tuple.tupleCompareSizes] using hR⟩
  case h =>
   exact ⟨rfl,rfl,items.toList,items2.toList,ns,ms,rfl,hi,hj,by omega,h⟩
end
section
variable {prog:Program} {w:World} {A:Around} {E:Value->Shared->Prop} {s:Shared}
theorem zn2 {l b:Addr} {items items2:Array Value} {ns ms:List Int} {Q:Value->Shared->Prop} (hl:IsTup s.heap l items) (hb:IsTup s.heap b items2) (hi:IntsAre items.toList ns) (hj:IntsAre items2.toList ms)
  (hu:A.units < cLine) (h:Q (.bool (lexLt ns ms)) s):wpAny (model prog w) A (compareOp .Lt (.ref l) (.ref b)) Q E s:=by
 obtain ⟨⟨cls,dd,data,sl⟩,ho,hc,n,hd⟩:=id hl
 obtain ⟨⟨cls2,dd2,data2,sl2⟩,ho2,hc2,n2,hd2⟩:=id hb
 simp only at hc hd hc2 hd2
 subst hc hd hc2 hd2
 exact richCompare_meets_room (op:=.Lt) ⟨_,ho,rfl⟩ ⟨_,ho2,rfl⟩ PySem.F.slot_tuple_lt PySem.F.entry_tuple_lt (PySem.F.args_tuple_lt_2 _ _) (zjq l b items items2 n n2 dd dd2 sl sl2 ns ms hi hj)
  ⟨ho,ho2,show Value.bool (lexLt ns ms) ≠ Value.notImplemented/\Q (.bool (lexLt ns ms)) s from ⟨(fun x=>nomatch x),h⟩⟩ hu
theorem zut {t b:Addr} {vs ws:List Value} {Q:Value->Shared->Prop} (ht:IsTup s.heap t vs.toArray) (hb:IsTup s.heap b ws.toArray) (hv:vs ≠ [])
  (h1:ws=[]->Q (.ref t) s) (h2:ws ≠ []->Q (.ref s.heap.objs.size) { s with heap:=s.heap.push { cls:=.type "tuple",data:=.seq (vs ++ ws).toArray } })
  (hsz:vs.length + ws.length<=sizeLine):wpAny (model prog w) A (binaryOp .Add (.ref t) (.ref b)) Q E s:=by
 obtain ⟨⟨cls,dd,data,sl⟩,ho,hc,n,hd⟩:=id ht
 obtain ⟨⟨cls2,dd2,data2,sl2⟩,ho2,hc2,n2,hd2⟩:=id hb
 simp only at hc hd hc2 hd2
 subst hc hd hc2 hd2
 have e:vs.toArray ++ ws.toArray=(vs ++ ws).toArray:=by simp
 by_cases hw:ws=[]
 ·exact concat_meets ⟨_,ho,rfl⟩ ⟨_,ho2,rfl⟩ noFill_tuple_add seq_tuple_add PySem.F.slot_tuple_add PySem.F.entry_tuple_add (PySem.F.args_tuple_add_2 _ _)
   (tuple_addW1 t b vs.toArray ws.toArray n n2 dd dd2 sl sl2 (by simpa using hv) (by simp [hw])) ⟨ho,ho2,h1 hw⟩
 ·refine concat_meets ⟨_,ho,rfl⟩ ⟨_,ho2,rfl⟩ noFill_tuple_add seq_tuple_add PySem.F.slot_tuple_add PySem.F.entry_tuple_add (PySem.F.args_tuple_add_2 _ _)
   (tuple_addW2 t b vs.toArray ws.toArray n n2 dd dd2 sl sl2 (by simpa using hv) (by simpa using hw) (by rw [List.size_toArray,List.size_toArray];exact hsz)) ⟨ho,ho2,?_⟩
  rw [e]
  exact h2 hw
def sIx (n d:Nat):Option Int->Nat
 | none=>d
 | some v=>if v < 0 then (v + (n:Int)).toNat else min v.toNat n
theorem zuZ (n d:Nat) (hd:d<=n) (o:Option Int):sIx n d o<=n:=by
 cases o with
 | none=>exact hd
 | some v =>
  show (if v < 0 then (v + (n:Int)).toNat else min v.toNat n)<=n
  by_cases hv:v < 0
  ·rw [if_pos hv];omega
  ·rw [if_neg hv];exact Nat.min_le_right _ _
theorem zqi (v:Int) (n d:Nat):(if v < 0 then max (v + (n:Int)) 0 else min v (n:Int))=((sIx n d (some v):Nat):Int):=by
 show (if v < 0 then max (v + (n:Int)) 0 else min v (n:Int))=(((if v < 0 then (v + (n:Int)).toNat else min v.toNat n):Nat):Int)
 by_cases hv:v < 0
 ·simp only [if_pos hv];omega
 ·simp only [if_neg hv];omega
theorem zop (lo hi:Option Int) (n:Nat):Builtin.Slice.sliceAdjust lo hi 1 (n:Int)=(((sIx n 0 lo:Nat):Int),((sIx n n hi:Nat):Int)):=by
 have h1:¬ ((1:Int) < 0):=by omega
 unfold Builtin.Slice.sliceAdjust
 simp only [h1,if_false]
 refine Prod.ext ?_ ?_
 ·cases lo with
  | none=>rfl
  | some v=>exact zqi v n 0
 ·cases hi with
  | none=>rfl
  | some v=>exact zqi v n n
theorem znV (i j:Nat):Builtin.Slice.slicePlaces (i:Int) (j:Int) 1=j - i:=by
 unfold Builtin.Slice.slicePlaces
 have h1:(1:Int) > 0:=by omega
 simp only [h1,if_true,Int.ediv_one]
 split <;> omega
theorem ziU {v:Value} {o:Option Int} {Q:Option Int->Shared->Prop} (p:IsPart v o) (h:Q o s):wpAny (model prog w) A (Builtin.Slice.slicePartIndex v) Q E s:=by
 cases p with
 | none=>exact slicePart_none h
 | int i t=>exact slicePart_int h
theorem zdy {sl:Addr} {vl vu:Value} {lo hi:Option Int} {n:Nat} {Q:Int × Int × Nat->Shared->Prop} (hs:s.heap.IsSliceOf sl vl vu .none) (pl:IsPart vl lo) (pu:IsPart vu hi)
  (h:Q (((sIx n 0 lo:Nat):Int),1,sIx n n hi - sIx n 0 lo) s):wpAny (model prog w) A (Builtin.Slice.sliceApplied (.ref sl) (pure (n:Int))) Q E s:=by
 obtain ⟨os,hos,hcs,hds⟩:=id hs
 unfold Builtin.Slice.sliceApplied Builtin.Slice.sliceFields
 refine wpAny_bind (wpAny_bind (wpAny_field hos hds (x:=vl) rfl (wpAny_bind (wpAny_field hos hds (x:=vu) rfl (wpAny_bind (wpAny_field hos hds (x:=.none) rfl (wpAny_pure ?_)))))))
 refine wpAny_bind (slicePart_none ?_)
 show wpAny _ _ (if ((1:Int) == 0)=true then _ else _) _ _ s
 rw [if_neg (by decide)]
 refine wpAny_bind (ziU pl (wpAny_bind (ziU pu (wpAny_bind (wpAny_pure ?_)))))
 show wpAny _ _ (match Builtin.Slice.sliceAdjust lo hi 1 (n:Int) with | (lo,hi)=>pure (lo,(1:Int),Builtin.Slice.slicePlaces lo hi 1)) _ _ s
 rw [zop lo hi n]
 show wpAny _ _ (pure (((sIx n 0 lo:Nat):Int),(1:Int),Builtin.Slice.slicePlaces ((sIx n 0 lo:Nat):Int) ((sIx n n hi:Nat):Int) 1)) _ _ s
 rw [znV]
 exact wpAny_pure h
theorem zrj (xs:Array Value) (i k:Nat):((List.range k).filterMap fun (m:Nat)=>xs[((i:Int) + (m:Int) * 1).toNat]?).toArray=((xs.toList.drop i).take k).toArray:=by
 have e:(fun (m:Nat)=>xs[((i:Int) + (m:Int) * 1).toNat]?)=fun m=>xs[i + m]?:=by
  funext m
  have:((i:Int) + (m:Int) * 1).toNat=i + m:=by omega
  rw [this]
 rw [e]
 have:=pick_run xs i k
 rw [List.filterMap_map] at this
 have e2:((fun x=>xs[x]?) ∘ fun x=>i + x)=fun m=>xs[i + m]?:=rfl
 rw [e2] at this
 rw [this]
theorem zfZ {t sl:Addr} {items:Array Value} {vl vu:Value} {lo hi:Option Int} {Q:Value->Shared->Prop} (ht:IsTup s.heap t items) (hs:s.heap.IsSliceOf sl vl vu .none) (pl:IsPart vl lo) (pu:IsPart vu hi)
  (hw:¬ (sIx items.size 0 lo=0/\sIx items.size items.size hi=items.size))
  (h:Q (.ref s.heap.objs.size) { s with heap:=s.heap.push { cls:=.type "tuple",data:=.seq ((items.toList.drop (sIx items.size 0 lo)).take (sIx items.size items.size hi - sIx items.size 0 lo)).toArray } })
  (hsz:items.size<=sizeLine):wpAny (model prog w) A (getItem (.ref t) (.ref sl)) Q E s:=by
 have htake:sizeOk (.seq ((items.toList.drop (sIx items.size 0 lo)).take (sIx items.size items.size hi - sIx items.size 0 lo)).toArray):=by
  show ((items.toList.drop (sIx items.size 0 lo)).take (sIx items.size items.size hi - sIx items.size 0 lo)).toArray.size<=sizeLine
  rw [List.size_toArray,List.length_take,List.length_drop,Array.length_toList]
  omega
 have hj:sIx items.size items.size hi<=items.size:=zuZ _ _ (Nat.le_refl _) hi
 obtain ⟨os,hos,hcs,hds⟩:=id hs
 have hTs:s.TypeIs (.ref sl) "slice":=⟨os,hos,hcs⟩
 unfold getItem
 try with_reducible refine wpAny_holding ?_
 first | refine wpAny_bind (wpAny_pure ?_) | skip
 refine wpAny_bind (wpAny_sequenceKey ht.typeIs (by decide) ?_)
 refine wpAny_bind (wpAny_callSpecial?_slot (name:=Str.ofString "__getitem__") ht.typeIs PyProof.Rows.slot_tuple_getitem
  (wpAny_call_entry PyProof.Rows.slot_tuple_getitem ht.typeIs entry_tuple_getitem ?_ (args_tuple_getitem _ _)))
 show wpAny _ _ (Builtin.Tuple.tupleItemsOf (.ref t) >>= _) _ _ s
 refine wpAny_bind (tupleItemsOf_ ht ?_)
 refine wpAny_bind (wpAny_typeOf hTs ?_)
 rw [if_pos (by decide)]
 refine wpAny_bind (zdy hs pl pu ?_)
 have hno:¬ ((((sIx items.size 0 lo:Nat):Int) == 0 && (1:Int) == 1 && (sIx items.size items.size hi - sIx items.size 0 lo) == items.size)=true):=by
  intro q
  rw [Bool.and_eq_true,Bool.and_eq_true] at q
  have q1:((sIx items.size 0 lo:Nat):Int)=0:=eq_of_beq q.1.1
  have q2:sIx items.size items.size hi - sIx items.size 0 lo=items.size:=eq_of_beq q.2
  exact hw ⟨by omega,by omega⟩
 show wpAny _ _ (if (((sIx items.size 0 lo:Nat):Int) == 0 && (1:Int) == 1 && (sIx items.size items.size hi - sIx items.size 0 lo) == items.size)=true then _ else _) _ _ s
 rw [if_neg hno,zrj]
 first
  | exact wpAny_bind (m:=Builtin.Tuple.tupleExact _) (wpAny_newObj_type (wpAny_pure ⟨_,rfl,wpAny_pure h⟩) htake)
  | exact wpAny_bind (m:=Builtin.Tuple.tupleExact _) (wpAny_newObj_type (wpAny_bind (wpAny_pure (wpAny_pure ⟨_,rfl,wpAny_pure h⟩))) htake)
  | exact wpAny_bind (wpAny_bind (m:=Builtin.Tuple.tupleExact _) (wpAny_newObj_type (wpAny_pure (wpAny_pure ⟨_,rfl,wpAny_pure h⟩)) htake))
  | exact wpAny_bind (wpAny_bind (m:=Builtin.Tuple.tupleExact _) (wpAny_newObj_type (wpAny_pure ⟨_,rfl,wpAny_pure h⟩) htake))
end
end HT
namespace L2
open PySem PySem.Spec PyProof.Rows
abbrev TO:=St->Hp->(Option Int->Hp->Prop)->Prop
def PO (X:Cx) (e:Option Expr) (t:TO):Prop :=
 ∀ (pins:List (Addr × Obj)) (s:Shared) (σ:St) (H:Hp) (Q:Option Int->Hp->Prop),Inv X pins σ H s->t σ H Q ->
  wpAny (model X.prog X.w) X.A (evalPart e X.env) (fun u s'=>∃ o H',Inv X pins σ H' s'/\IsPart u o/\Q o H') X.xe s
def ztf:TO:=fun _ H Q=>Q none H
def zwS (t:TE):TO:=fun σ H Q=>t σ H fun x H1=>∃ i,x=.int i/\Q (some i) H1
theorem intsAre_of {ns:List Int}:∀ {us:List Value},Vals (ns.map V.int) us->IntsAre us ns:=by
 induction ns with
 | nil=>intro us r;rw [List.map_nil] at r;cases r;exact .nil
 | cons n ns ih =>
  intro us r
  rw [List.map_cons] at r
  cases r with
  | cons r1 r2 =>
   obtain ⟨t,e⟩:=r1
   subst e
   exact .cons n t (ih r2)
section
variable {X:Cx} {e:Expr} {te:TE} {lo hi:Option Expr} {tl th:TO} {pos p2:Pos}
theorem ztC:PO X none ztf:=by
 intro pins s σ H Q I h
 rw [evalPart_none]
 exact wpAny_pure ⟨none,H,I,.none,h⟩
theorem ztB (h:PE X e te):PO X (some e) (zwS te):=by
 intro pins s σ H Q I hw
 rw [evalPart_some]
 refine thn (h pins s σ H _ I hw) fun u s1 ⟨x,H1,I1,r1,q1⟩=>?_
 obtain ⟨i,rfl,q⟩:=q1
 obtain ⟨t,rfl⟩:=r1
 exact ⟨some i,H1,I1,.int i t,q⟩
def SlR (X:Cx) (r:V->Option Int->Option Int->Hp->VK->Prop):Prop :=
 ∀ (pins:List (Addr × Obj)) (s:Shared) (σ:St) (H:Hp) (x:V) (v vl vu:Value) (lo hi:Option Int) (sl:Addr) (Q:VK),Inv X pins σ H s->RelV x v->s.heap.IsSliceOf sl vl vu .none->IsPart vl lo->IsPart vu hi->r x lo hi H Q ->
  ∃ T id,typeLookup (.type T) "__getitem__"=pure (some (.builtin id))/\s.TypeIs v T/\wpAny (model X.prog X.w) X.A (getItem v (.ref sl)) (EP X pins σ Q) X.xe s
def tSl (r:V->Option Int->Option Int->Hp->VK->Prop) (te:TE) (tl th:TO):TE:=fun σ H Q=>te σ H fun x H1=>tl σ H1 fun l H2=>th σ H2 fun u H3=>r x l u H3 Q
theorem zrl {r:V->Option Int->Option Int->Hp->VK->Prop} (hr:SlR X r) (he:PE X e te) (hl:PO X lo tl) (hu:PO X hi th):PE X (.Subscript e (.Slice lo hi none p2) pos) (tSl r te tl th):=by
 intro pins s σ H Q I h
 refine Subscript_ (thn (he pins s σ H _ I h) fun v s1 ⟨x,H1,I1,r1,q1⟩=>?_)
 refine wpAny_Slice (thn (hl pins s1 σ H1 _ I1 q1) fun vl s2 ⟨l,H2,I2,pl,q2⟩=>thn (hu pins s2 σ H2 _ I2 q2) fun vu s3 ⟨u,H3,I3,pu,q3⟩=>?_)
 rw [evalPart_none]
 refine wpAny_pure ?_
 have I4:Inv X pins σ H3 { s3 with heap:=s3.heap.push { cls:=.type "slice",data:=.fields #[vl,vu,.none] } }:=I3.kept (t':=s3.toks) fun b ob q=>Heap.get?_push_of_some _ q
 obtain ⟨T,id,hT,ht,hg⟩:=hr pins { s3 with heap:=s3.heap.push { cls:=.type "slice",data:=.fields #[vl,vu,.none] } } σ H3 x v vl vu l u s3.heap.objs.size Q I4 r1 (Heap.IsSliceOf.new ..) pl pu q3
 show wpAny (model X.prog X.w) X.A (subscriptTail e (.Slice lo hi none p2) v (.ref s3.heap.objs.size)) (EP X pins σ Q) X.xe { s3 with heap:=s3.heap.push { cls:=.type "slice",data:=.fields #[vl,vu,.none] } }
 exact tail_any (ops:=[.ref s3.heap.objs.size,v]) ht hT hg (by with_unfolding_all rfl)
def zrX (xs:List V) (lo hi:Option Int):List V:=(xs.drop (HT.sIx xs.length 0 lo)).take (HT.sIx xs.length xs.length hi - HT.sIx xs.length 0 lo)
theorem zhQ (xs:List V) (lo hi:Option Int):(zrX xs lo hi).length<=xs.length:=by
 unfold zrX
 rw [List.length_take,List.length_drop]
 omega
def zyf (K:PySem.W.Frag):V->Option Int->Option Int->Hp->VK->Prop:=fun x lo hi H Q=>∃ a xs,x=.ref a/\SqT K H a xs /\
 ¬ (HT.sIx xs.length 0 lo=0/\HT.sIx xs.length xs.length hi=xs.length)/\∀ p,H p=none->Q (.ref p) (upd H p (.tup (zrX xs lo hi)))
theorem zuX:SlR X (zyf X.K):=by
 intro pins s σ H x v vl vu lo hi sl Q I rx hs pl pu h
 obtain ⟨a,xs,rfl,hx,hw,q⟩:=h
 cases rx
 obtain ⟨its,r,ht,hz⟩:=I.tuple hx
 have hlen:its.toArray.size=xs.length:=by rw [List.size_toArray];exact r.length.symm
 refine ⟨"tuple",_,PyProof.Rows.slot_tuple_getitem.lookup,ht.typeIs,?_⟩
 refine HT.zfZ ht hs pl pu (by rw [hlen];exact hw) ?_ (by rw [hlen];exact hz)
 rw [hlen]
 refine ⟨.ref s.heap.objs.size,_,I.laid (t':=s.toks) (o:=.tup (zrX xs lo hi)) (fun b ob q=>Heap.get?_push_of_some _ q) (Nat.le_refl _) ?_,rfl,q _ (I.hok.fresh (Nat.le_refl _))⟩
 exact ⟨Nat.le_trans (zhQ xs lo hi) hz,_,(r.drop (HT.sIx xs.length 0 lo)).take (HT.sIx xs.length xs.length hi - HT.sIx xs.length 0 lo),IsTup.new _ _⟩
def zw0 (K:PySem.W.Frag):R2:=fun x y H Q=>∃ a b xs ys,x=.ref a/\y=.ref b/\SqT K H a xs/\SqT K H b ys/\xs ≠ []/\xs.length + ys.length<=sizeLine /\
 (ys=[]->Q (.ref a) H)/\(ys ≠ []->∀ p,H p=none->Q (.ref p) (upd H p (.tup (xs ++ ys))))
theorem Vals.zl6 {xs:List V} {us:List Value} (r:Vals xs us):us=[] ↔ xs=[]:=by
 cases r with
 | nil=>simp
 | cons _ _=>simp
theorem ztT:OpR X (binaryOp .Add) (zw0 X.K):=by
 intro pins s σ H x y v u Q I rx ry h
 obtain ⟨a,b,xs,ys,rfl,rfl,ha,hb,hx,hz,q1,q2⟩:=h
 cases rx
 cases ry
 obtain ⟨its,r1,p1,_⟩:=I.tuple ha
 obtain ⟨its2,r2,p2,_⟩:=I.tuple hb
 refine HT.zut p1 p2 (fun z=>hx (r1.zl6.mp z)) (fun z=>⟨.ref a,H,I,rfl,q1 (r2.zl6.mp z)⟩) (fun z=>?_) (by rw [<- r1.length,<- r2.length];exact hz)
 refine ⟨.ref s.heap.objs.size,_,I.laid (t':=s.toks) (o:=.tup (xs ++ ys)) (fun b ob q=>Heap.get?_push_of_some _ q) (Nat.le_refl _) ?_,rfl,q2 (fun w=>z (r2.zl6.mpr w)) _ (I.hok.fresh (Nat.le_refl _))⟩
 exact ⟨by rw [List.length_append];exact hz,_,r1.append r2,IsTup.new _ _⟩
end
end L2
namespace L2
open PySem PySem.Spec PyProof.Rows
def ixN (n:Nat) (i:Int):Option Nat:=if 0<=i then (if i < n then some i.toNat else none) else if -(n:Int)<=i then some (i + n).toNat else none
def atI {α:Type} (xs:List α) (i:Int):Option α:=(ixN xs.length i).bind fun j=>xs[j]?
theorem zpN {n:Nat} {i:Int} {j:Nat} (h:ixN n i=some j):seqIndex? i n=some j/\j < n/\-(n:Int)<=i/\i < n:=by
 unfold ixN at h
 by_cases h0:0<=i
 ·rw [if_pos h0] at h
  by_cases h1:i < n
  ·rw [if_pos h1] at h
   have e:i.toNat=j:=Option.some.inj h
   exact ⟨by rw [seqIndex_of h0 h1,e],by omega,by omega,h1⟩
  ·rw [if_neg h1] at h;cases h
 ·rw [if_neg h0] at h
  by_cases h1:-(n:Int)<=i
  ·rw [if_pos h1] at h
   have e:(i + n).toNat=j:=Option.some.inj h
   exact ⟨by rw [seqIndex_neg (by omega) h1,e],by omega,h1,by omega⟩
  ·rw [if_neg h1] at h;cases h
theorem zqt {α:Type} {xs:List α} {i:Int} {v:α} (h:atI xs i=some v):∃ j,seqIndex? i xs.length=some j/\xs[j]?=some v/\j < xs.length/\-(xs.length:Int)<=i/\i < xs.length:=by
 unfold atI at h
 cases e:ixN xs.length i with
 | none=>rw [e] at h;cases h
 | some j =>
  rw [e] at h
  obtain ⟨h1,h2,h3,h4⟩:=zpN e
  exact ⟨j,h1,h,h2,h3,h4⟩
def zkc (b:Expr):Prop:=∀ o i,subscripted b false o i=operate [o,i] (getItem o i)
def IxR (X:Cx) (r:R2):Prop :=
 ∀ (value slice:Expr) (pins:List (Addr × Obj)) (s:Shared) (σ:St) (H:Hp) (x y:V) (v u:Value) (Q:VK),Inv X pins σ H s->RelV x v->RelV y u->r x y H Q ->
  subscripted slice false v u=operate [v,u] (getItem v u)->wpAny (model X.prog X.w) X.A (subscriptTail value slice v u) (EP X pins σ Q) X.xe s
def MtR (X:Cx) (id:String) (r:V->List V->Hp->VK->Prop):Prop :=
 ∀ (pins:List (Addr × Obj)) (s:Shared) (σ:St) (H:Hp) (x:V) (xs:List V) (v:Value) (us:List Value) (Q:VK),Inv X pins σ H s->RelV x v->Vals xs us->r x xs H Q ->
  wpAny (model X.prog X.w) X.A (call (.builtin id) (v :: us)) (EP X pins σ Q) X.xe s
section
variable {X:Cx} {a b:Expr} {ta tb:TE} {pos:Pos}
theorem zvx {r:R2} (hr:IxR X r) (ha:PE X a ta) (hb:PE X b tb) (hs:zkc b):PE X (.Subscript a b pos) (tOp r ta tb):=by
 intro pins s σ H Q I h
 exact Subscript_ (zxE ha hb I h fun v u s2 x y H2 I2 rx ry q=>hr a b pins s2 σ H2 x y v u Q I2 rx ry q (hs _ _))
def zyk (K:PySem.W.Frag):R2:=fun x y H Q=>∃ p xs i v,x=.ref p/\y=.int i/\SqL K H p xs/\atI xs i=some v/\Q v H
def zyj (K:PySem.W.Frag):R2:=fun x y H Q=>∃ p xs i v,x=.ref p/\y=.int i/\SqT K H p xs/\atI xs i=some v/\Q v H
theorem zt5:IxR X (zyk X.K):=by
 intro value slice pins s σ H x y v u Q I rx ry h hs
 obtain ⟨p,xs,i,z,rfl,rfl,hq,he,q⟩:=h
 cases rx
 obtain ⟨t,rfl⟩:=ry
 obtain ⟨its,r,pl,hz⟩:=I.list hq
 obtain ⟨j,h1,h2,h3,h4,h5⟩:=zqt he
 obtain ⟨w,ew,rw'⟩:=r.get h2
 have hl:=r.length
 have hn:=zkP
 have fin:EP X pins σ Q w s:=⟨z,H,I,rw',q⟩
 by_cases h0:0<=i
 ·have hj:i.toNat=j:=by
   rw [seqIndex_of h0 h5] at h1
   exact Option.some.inj h1
  exact item_listR pl.isList h0 (by omega) (by rw [hj];simpa using ew) fin hs
 ·have hj:(i + (its.toArray.size:Int)).toNat=j:=by
   rw [seqIndex_neg (by omega) h4] at h1
   rw [List.size_toArray,<- hl]
   exact Option.some.inj h1
  exact subscriptTail_builtinR (x:=w) pl.isList.typeIs slot_list_getitem.lookup
   (wpAny_getItem_list_neg (Q:=fun r s'=>r=w/\EP X pins σ Q r s') pl.isList (by omega) (by rw [List.size_toArray] <;> omega) (by omega) (by rw [hj];simpa using ew) ⟨rfl,fin⟩) hs
theorem zv4:IxR X (zyj X.K):=by
 intro value slice pins s σ H x y v u Q I rx ry h hs
 obtain ⟨p,xs,i,z,rfl,rfl,hq,he,q⟩:=h
 cases rx
 obtain ⟨t,rfl⟩:=ry
 obtain ⟨its,r,pl,hz⟩:=I.tuple hq
 obtain ⟨j,h1,h2,h3,h4,h5⟩:=zqt he
 obtain ⟨w,ew,rw'⟩:=r.get h2
 have hl:=r.length
 have hn:=zkP
 have fin:EP X pins σ Q w s:=⟨z,H,I,rw',q⟩
 exact subscriptTail_builtinR (x:=w) pl.typeIs slot_tuple_getitem.lookup
  (getItem_tuple (j:=j) (Q:=fun r s'=>r=w/\EP X pins σ Q r s') pl (by omega) (by omega) (by rw [List.size_toArray,<- hl];exact h1) (by simpa using ew) ⟨rfl,fin⟩) hs
theorem zn1 (its:List Value) (n j:Nat) (u:Value):Obj.mapSeq (·.setIfInBounds j u) { cls:=.type "list",data:=.seq its.toArray n }={ cls:=.type "list",data:=.seq (its.set j u).toArray n }:=by
 simp [Obj.mapSeq]
theorem Inv.lst {pins:List (Addr × Obj)} {σ:St} {H:Hp} {s:Shared} {p:Addr} {xs:List V} (I:Inv X pins σ H s) (h:H p=some (.lst xs)) :
  ∃ (its:List Value) (n:Nat),Vals xs its/\s.heap.get? p=some { cls:=.type "list",data:=.seq its.toArray n }/\xs.length<=sizeLine:=by
 obtain ⟨z,its,n,r,e⟩:=I.hok p _ h
 exact ⟨its,n,r,e,z⟩
theorem Inv.zvT {pins:List (Addr × Obj)} {σ:St} {H:Hp} {s:Shared} {p:Addr} {xs ys:List V} {its its':List Value} {n n':Nat} {f:Obj->Obj} (I:Inv X pins σ H s) (h:H p=some (.lst xs))
  (ho:s.heap.get? p=some { cls:=.type "list",data:=.seq its.toArray n }) (hf:f { cls:=.type "list",data:=.seq its.toArray n }={ cls:=.type "list",data:=.seq its'.toArray n' }) (r:Vals ys its') (hz:ys.length<=sizeLine) (t:Nat) :
  Inv X pins σ (upd H p (.lst ys)) { s with heap:=s.heap.update p f,toks:=t }:=by
 have e:(s.heap.update p f).get? p=some { cls:=.type "list",data:=.seq its'.toArray n' }:=by
  rw [Heap.get?_update_self f ho (by rw [hf] <;> rfl),hf]
 refine I.write (x:=p) (e:=p) (by rw [h];trivial) (.inl rfl) (fun b u hb q=>(Heap.get?_update_other _ _ (Ne.symm hb)).trans q) ⟨_,e⟩ ?_
 exact ⟨hz,its',n',r,e⟩
def zwZ:V->V->V->Hp->(Hp->Prop)->Prop:=fun o i v H Q=>∃ p xs k j,o=.ref p/\i=.int k/\H p=some (.lst xs)/\ixN xs.length k=some j/\Q (upd H p (.lst (xs.set j v)))
theorem set_list:zx1 X zwZ:=by
 intro pins s σ H o i v ov iv u Q I ro ri rv h
 obtain ⟨p,xs,k,j,rfl,rfl,hp,hj,q⟩:=h
 cases ro
 obtain ⟨t,rfl⟩:=ri
 obtain ⟨its,n,r,ho,hz⟩:=I.lst hp
 obtain ⟨h1,h2,h3,h4⟩:=zpN hj
 have hl:=r.length
 have hn:=zkP
 have I':Inv X pins σ (upd H p (.lst (xs.set j v))) { s with heap:=s.heap.update p (Obj.mapSeq (·.setIfInBounds j u)) } :=
  I.zvT hp ho (zn1 its n j u) (r.set rv j) (by rw [List.length_set];exact hz) s.toks
 by_cases h0:0<=k
 ·have hk:k.toNat=j:=by
   rw [seqIndex_of h0 h4] at h1
   exact Option.some.inj h1
  exact PySem.W.ki_setAt ho h0 (by omega) (by rw [List.size_toArray,<- hl];exact h4) (by rw [hk];exact ⟨_,I',q⟩)
 ·have hk:(k + (its.toArray.size:Int)).toNat=j:=by
   rw [seqIndex_neg (by omega) h3] at h1
   rw [List.size_toArray,<- hl]
   exact Option.some.inj h1
  exact PySem.W.ki_setBack ho (by omega) (by rw [List.size_toArray,<- hl];exact h3) (by omega) (by rw [hk];exact ⟨_,I',q⟩)
theorem zks (lo hi:Option Int) (n:Nat):(sliceBounds lo hi none n).1=((HT.sIx n 0 lo:Nat):Int)/\(sliceBounds lo hi none n).2.1=((HT.sIx n n hi:Nat):Int)/\(sliceBounds lo hi none n).2.2=1:=by
 refine ⟨?_,?_,rfl⟩
 ·cases lo with
  | none=>simp [sliceBounds,HT.sIx]
  | some i =>
   simp only [sliceBounds,HT.sIx,Option.getD_none,show (1:Int) > 0 by decide,if_true]
   by_cases h:i < 0
   ·simp only [h,if_true] <;> omega
   ·simp only [h,if_false] <;> omega
 ·cases hi with
  | none=>simp [sliceBounds,HT.sIx]
  | some i =>
   simp only [sliceBounds,HT.sIx,Option.getD_none,show (1:Int) > 0 by decide,if_true]
   by_cases h:i < 0
   ·simp only [h,if_true] <;> omega
   ·simp only [h,if_false] <;> omega
theorem zjv (its:List Value) (lo hi:Option Int):slicePick its.toArray lo hi none=((its.drop (HT.sIx its.length 0 lo)).take (HT.sIx its.length its.length hi - HT.sIx its.length 0 lo)).toArray:=by
 obtain ⟨h1,h2,h3⟩:=zks lo hi its.toArray.size
 unfold slicePick
 rw [h1,h2,h3]
 simp only [sliceRange_one,pick_run,List.size_toArray] <;> rfl
def zyg (K:PySem.W.Frag):V->Option Int->Option Int->Hp->VK->Prop:=fun x lo hi H Q=>∃ a xs,x=.ref a/\SqL K H a xs/\∀ p,H p=none->Q (.ref p) (upd H p (.lst (zrX xs lo hi)))
theorem zth:SlR X (zyg X.K):=by
 intro pins s σ H x v vl vu lo hi sl Q I rx hs pl pu h
 obtain ⟨a,xs,rfl,hx,q⟩:=h
 cases rx
 obtain ⟨its,r,ht,hz⟩:=I.list hx
 have hlen:=r.length
 refine ⟨"list",_,slot_list_getitem.lookup,ht.isList.typeIs,?_⟩
 refine wpAny_getItem_list_slice ht.isList hs pl pu .none (by simp) ?_ (by rw [List.size_toArray] <;> omega)
 rw [zjv,<- hlen]
 refine ⟨.ref s.heap.objs.size,_,I.laid (t':=s.toks) (o:=.lst (zrX xs lo hi)) (fun b ob q=>Heap.get?_push_of_some _ q) (Nat.le_refl _) ?_,rfl,q _ (I.hok.fresh (Nat.le_refl _))⟩
 exact ⟨Nat.le_trans (zhQ xs lo hi) hz,_,0,(r.drop (HT.sIx xs.length 0 lo)).take (HT.sIx xs.length xs.length hi - HT.sIx xs.length 0 lo),Heap.get?_push_size _ rfl⟩
theorem zgq:zgd X (.builtin "len") (fun xs H Q=>∃ p ys,xs=[.ref p]/\(SqL X.K H p ys\/SqT X.K H p ys)/\Q (.int ys.length) H):=by
 intro pins s σ H xs us Q I r h
 obtain ⟨p,ys,rfl,hq,q⟩:=h
 obtain ⟨u,rfl,rx⟩:=vals1 r
 cases rx
 have hn:=zkP
 rcases hq with hq | hq
 ·obtain ⟨its,r',pl,hz⟩:=I.list hq
  have hlen:=r'.length
  exact Calls.call_len_list pl.isList (by simp only [List.size_toArray] <;> omega) ⟨.int ys.length,H,I.tok _,⟨s.toks + 1,by rw [List.size_toArray,hlen]⟩,q⟩
 ·obtain ⟨its,r',pl,hz⟩:=I.tuple hq
  have hlen:=r'.length
  exact len_tuple pl (by simp only [List.size_toArray] <;> omega) ⟨.int ys.length,H,I.tok _,⟨s.toks + 1,by rw [List.size_toArray,hlen]⟩,q⟩
theorem zgp:zgd X (.type "list") (fun xs H Q=>∃ p ys,xs=[.ref p]/\(SqL X.K H p ys\/SqT X.K H p ys)/\∀ l,H l=none->Q (.ref l) (upd H l (.lst ys))):=by
 intro pins s σ H xs us Q I r h
 obtain ⟨p,ys,rfl,hq,q⟩:=h
 obtain ⟨u,rfl,rx⟩:=vals1 r
 cases rx
 have fin:∀ (its:List Value),Vals ys its->ys.length<=sizeLine->∀ (h':Heap) (c':Nat),(∀ b o',s.heap.get? b=some o'->h'.get? b=some o') ->
   h'.get? s.heap.objs.size=some { cls:=.type "list",dict:=none,data:=.seq its.toArray c',slots:=#[] }->EP X pins σ Q (.ref s.heap.objs.size) { s with heap:=h' }:=fun its r' hz h' c' kp e =>
  ⟨.ref s.heap.objs.size,_,I.laid (t':=s.toks) kp (Nat.le_refl _) (show zbx X.prog X.w _ h' _ (.lst ys) from ⟨hz,its,c',r',e⟩),rfl,q _ (I.hok.fresh (Nat.le_refl _))⟩
 rcases hq with hq | hq
 ·obtain ⟨its,r',pl,hz⟩:=I.list hq
  have hlen:=r'.length
  obtain ⟨o,ho,hc,n,hd⟩:=pl.isList
  exact call_list_seq p (.inl rfl) ho hc hd (fun h' c' kp e=>fin its r' hz h' c' kp e) (by simp only [List.size_toArray] <;> omega)
 ·obtain ⟨its,r',pl,hz⟩:=I.tuple hq
  have hlen:=r'.length
  obtain ⟨o,ho,hc,n,hd⟩:=pl
  exact call_list_seq p (.inr rfl) ho hc hd (fun h' c' kp e=>fin its r' hz h' c' kp e) (by simp only [List.size_toArray] <;> omega)
def tyV (K:PySem.W.Frag) (T:String) (x:V) (H:Hp):Prop:=match x with
 | .str _=>T="str"
 | .int _=>T="int"
 | .ref p=>(T="list"/\∃ xs,SqL K H p xs)\/(T="tuple"/\∃ o,K.lookup p=some o/\o.cls=.type "tuple"/\o.dict=none) \/
   (T="dict"/\((∃ kvs,H p=some (.dK kvs))\/∃ kvs,H p=some (.dT kvs)))\/(T="set"/\∃ S n,H p=some (.set S n))
 | _=>False
theorem zuO {pins:List (Addr × Obj)} {σ:St} {H:Hp} {s:Shared} {T:String} {x:V} {v:Value} (I:Inv X pins σ H s) (r:RelV x v) (ty:tyV X.K T x H) :
  s.TypeIs v T/\∀ a,v=.ref a->∃ ob,s.heap.get? a=some ob/\ob.dict=none:=by
 cases x with
 | str z =>
  obtain ⟨t,rfl⟩:=r
  cases (show T="str" from ty)
  exact ⟨typeIs_str s z t,fun _ e=>nomatch e⟩
 | int i =>
  obtain ⟨t,rfl⟩:=r
  cases (show T="int" from ty)
  exact ⟨typeIs_int s i t,fun _ e=>nomatch e⟩
 | ref p =>
  cases r
  rcases ty with ⟨rfl,xs,hq⟩ | ⟨rfl,o,hk,hc,hd⟩ | ⟨rfl,hk⟩ | ⟨rfl,S,n,hk⟩
  ·obtain ⟨its,_,pl,_⟩:=I.list hq
   refine ⟨pl.isList.typeIs,fun a e=>?_⟩
   cases e
   obtain ⟨o,n,e,c,hd,_⟩:=pl
   exact ⟨o,e,hd⟩
  ·refine ⟨⟨o,I.kIn p o hk,hc⟩,fun a e=>?_⟩
   cases e
   exact ⟨o,I.kIn _ o hk,hd⟩
  ·have z:∃ o,s.heap.get? p=some o/\o.ExactDict:=by
    rcases hk with ⟨kvs,hk⟩ | ⟨kvs,hk⟩
    ·obtain ⟨_,_,_,_,o,_,_,e,ex,_⟩:=I.hok p _ hk
     exact ⟨o,e,ex⟩
    ·obtain ⟨_,_,_,_,o,_,_,e,ex,_⟩:=I.hok p _ hk
     exact ⟨o,e,ex⟩
   obtain ⟨o,e,ex⟩:=z
   refine ⟨⟨o,e,ex.1⟩,fun a e2=>?_⟩
   cases e2
   exact ⟨o,e,ex.2.1⟩
  ·obtain ⟨o,_,_,_,e,ex,_⟩:=I.hok p _ hk
   refine ⟨⟨o,e,ex.1⟩,fun a e2=>?_⟩
   cases e2
   exact ⟨o,e,ex.2.1⟩
 | _=>exact False.elim ty
def tBM (K:PySem.W.Frag) (T:String) (r:V->List V->Hp->VK->Prop) (to:TE) (t:TA):TE:=fun σ H Q=>to σ H fun x H1=>tyV K T x H1/\t σ H1 fun xs H2=>r x xs H2 Q
variable {o e:Expr} {es:List Expr} {to:TE} {t:TA} {name:Str} {apos cpos:Pos} {T id:String} {r:V->List V->Hp->VK->Prop}
theorem zxe (pa:PlainAttrs T) (slot:Slot T name id) (hty:typeOf (.builtin id)=pure (.type "method_descriptor")) (hm:MtR X id r) (ho:PE X o to) (ha:PA X (e :: es) t)
  (hbase:attributeBase o name X.env (eval o X.env)=eval o X.env:=by rfl)
  (hfew:((backTo cpos (starEach (e :: es) X.env)).all (fun x=>!x.1) && (backToKw cpos (keywordEach [] X.env)).all (fun x=>x.1.isSome)
   && decide ((e :: es).length + ([]:List Keyword).length + (if ([]:List Keyword).isEmpty then 0 else 1) < 30))=true:=by rfl)
  (hline:(apos.endLine == cpos.line)=true:=by rfl) (hs:starEach (e :: es) X.env=(false,eval e X.env) :: starEach es X.env:=by rfl) (hplain:(backTo cpos (starEach es X.env)).any (·.1)=false:=by rfl) :
  PE X (.Call (.Attribute o name apos) (e :: es) [] cpos) (tBM X.K T r to t):=by
 intro pins s σ H Q I h
 refine wpAny_Call_method_late hbase hfew hline rfl (thn (ho pins s σ H _ I h) fun v s1 ⟨x,H1,I1,r1,ty,q1⟩=>?_)
 obtain ⟨h1,h2⟩:=zuO I1 r1 ty
 refine ⟨T,id,pa,slot,hty,h1,h2,?_⟩
 have hA:=ha cpos pins s1 σ H1 _ I1 q1
 rw [hs] at hA ⊢
 refine Calls.callWith_builtin (by show (false || (backTo cpos (starEach es X.env)).any (·.1))=false;rw [hplain] <;> rfl) (Calls.evalArgs_plain ?_)
 exact thn hA fun us s2 ⟨vs,H2,I2,r2,q2⟩=>hm pins s2 σ H2 x vs v us Q I2 r1 r2 q2
/- xs.append(e),list.index on a module's tuple .. are MtR facts of 06m -/
end
end L2
namespace L2
open PySem PySem.Spec PyProof.Rows
def MtM (X:Cx) (id:String) (r:V->List V->Hp->VK->Prop):Prop :=
 ∀ (pins:List (Addr × Obj)) (s:Shared) (σ:St) (H:Hp) (x:V) (xs:List V) (v:Value) (us:List Value) (Q:VK),Inv X pins σ H s->RelV x v->Vals xs us->r x xs H Q ->
  wpAny (model X.prog X.w) X.A (call (.builtin id) (v :: us)) (EP X pins σ Q) X.xe s
theorem Vals.one:∀ {x:V} {us:List Value},Vals [x] us->∃ u,us=[u]/\RelV x u
 | _,_,.cons r .nil=>⟨_,rfl,r⟩
theorem Vals.dropLast {xs:List V} {us:List Value} (h:Vals xs us):Vals xs.dropLast us.dropLast:=by
 induction h with
 | nil=>exact .nil
 | cons r t ih =>
  cases t with
  | nil=>exact .nil
  | cons q t'=>exact .cons r ih
theorem Vals.rep {xs:List V} {us:List Value} (h:Vals xs us):∀ k:Nat,Vals (List.replicate k xs).flatten (List.replicate k us).flatten
 | 0=>.nil
 | k + 1=>by
  rw [List.replicate_succ,List.replicate_succ,List.flatten_cons,List.flatten_cons]
  exact Vals.append h (Vals.rep h k)
theorem zuH {α:Type} (l:List α):l.eraseIdx (l.length - 1)=l.dropLast:=by
 induction l with
 | nil=>rfl
 | cons a r ih =>
  cases r with
  | nil=>rfl
  | cons b r =>
   have e:(a :: b :: r).length - 1=((b :: r).length - 1) + 1:=by
    have h1:(a :: b :: r).length=r.length + 2:=rfl
    have h2:(b :: r).length=r.length + 1:=rfl
    omega
   rw [e,List.eraseIdx_cons_succ,ih]
   all_goals rfl
theorem foldl_rep (its:List Value):∀ (k:Nat) (acc:List Value),
  List.foldl (fun x1 x2=>x1 ++ x2) acc.toArray (List.replicate k its.toArray)=(acc ++ (List.replicate k its).flatten).toArray
 | 0,acc=>by simp
 | k + 1,acc=>by
  have e:acc.toArray ++ its.toArray=(acc ++ its).toArray:=by simp
  have e2:(acc ++ its) ++ (List.replicate k its).flatten=acc ++ (List.replicate (k + 1) its).flatten:=by
   rw [List.replicate_succ,List.flatten_cons,List.append_assoc]
  rw [<- e2,<- foldl_rep its k (acc ++ its),<- e,List.replicate_succ,List.foldl_cons]
section
variable {X:Cx} {pins:List (Addr × Obj)} {σ:St} {H:Hp} {s:Shared} {l b:Addr} {xs ys zs:List V}
theorem Inv.zyz {its its':List Value} {n:Nat} {f:Array Value->Array Value} {t':Nat} (I:Inv X pins σ H s) (hH:H l=some (.lst xs))
  (e:s.heap.get? l=some { cls:=.type "list",data:=.seq its.toArray n }) (hf:f its.toArray=its'.toArray) (hv:Vals ys its') (hz:ys.length<=sizeLine) :
  Inv X pins σ (upd H l (.lst ys)) { s with heap:=s.heap.update l (Obj.mapSeq f),toks:=t' }:=by
 have q:=PySem.IsL.update e f
 rw [hf] at q
 refine I.write (x:=l) (e:=l) (by rw [hH];exact trivial) (.inl rfl) (fun b' u hb hu=>(Heap.get?_update_other s.heap (Obj.mapSeq f) (Ne.symm hb)).trans hu) ⟨_,q⟩ ?_
 exact ⟨hz,its',_,hv,q⟩
theorem Inv.zxS {its:List Value} {t':Nat} (I:Inv X pins σ H s) (hv:Vals ys its) (hz:ys.length<=sizeLine) :
  Inv X pins σ (upd H s.heap.objs.size (.lst ys)) { s with heap:=s.heap.push { cls:=.type "list",data:=.seq its.toArray },toks:=t' } :=
 I.laid (fun _ _ q=>Heap.get?_push_of_some _ q) (Nat.le_refl _) ⟨hz,its,0,hv,Heap.get?_push_size _ rfl⟩
theorem Inv.fresh (I:Inv X pins σ H s):H s.heap.objs.size=none:=I.hok.fresh (Nat.le_refl _)
theorem Inv.zxQ (I:Inv X pins σ H s) (hH:H l=some (.lst xs)):xs.length<=sizeLine/\∃ (its:List Value) (n:Nat),Vals xs its/\xs.length=its.length/\s.heap.get? l=some { cls:=.type "list",data:=.seq its.toArray n }:=by
 obtain ⟨z,its,n,r,e⟩:=I.hok l _ hH
 exact ⟨z,its,n,r,r.length,e⟩
theorem zrx {n:Nat} (h:n<=sizeLine):Builtin.List.listTooLong n=false:=by
 unfold Builtin.List.listTooLong
 exact decide_eq_false (by omega)
end
section
variable {X:Cx}
def ztk:V->List V->Hp->VK->Prop:=fun x vs H Q=>∃ l xs y,x=.ref l/\vs=[y]/\H l=some (.lst xs)/\xs.length < sizeLine/\Q .non (upd H l (.lst (xs ++ [y])))
theorem zhu:MtM X "list.append" ztk:=by
 intro pins s σ H x vs v us Q I rx rv h
 obtain ⟨l,xs,y,rfl,rfl,hH,hz,q⟩:=h
 cases rx
 obtain ⟨u,rfl,ru⟩:=rv.one
 obtain ⟨z,its,n,r,hl,e⟩:=I.zxQ hH
 refine call_meets F.slot_list_append ⟨_,e,rfl⟩ F.entry_list_append (F.args_list_append_2 _ _) (PySem.list_append l its.toArray n u (by rw [List.size_toArray];omega)) ⟨e,?_⟩
 refine ⟨.non,_,I.zyz (its':=its ++ [u]) hH e (by simp) (r.append (.cons ru .nil)) ?_,rfl,q⟩
 rw [List.length_append,List.length_singleton]
 omega
def zyh:R2:=fun x y H Q=>∃ l k xs,x=.ref l/\y=.int k/\H l=some (.lst xs)/\-(2 ^ 63)<=k/\k < 2 ^ 63/\xs.length * k.toNat<=sizeLine /\
 ∀ p,H p=none->Q (.ref p) (upd H p (.lst (List.replicate k.toNat xs).flatten))
theorem len_rep {α:Type} (xs:List α) (k:Nat):(List.replicate k xs).flatten.length=k * xs.length:=by
 induction k with
 | zero=>simp
 | succ k ih=>rw [List.replicate_succ,List.flatten_cons,List.length_append,ih,Nat.succ_mul,Nat.add_comm]
theorem zvC:OpR X (binaryOp .Mult) zyh:=by
 intro pins s σ H x y v u Q I rx ry h
 obtain ⟨l,k,xs,rfl,rfl,hH,h1,h2,hz,q⟩:=h
 cases rx
 obtain ⟨t,rfl⟩:=ry
 obtain ⟨z,its,n,r,hl,e⟩:=I.zxQ hH
 have hlen:its.toArray.size * k.toNat<=sizeLine:=by rw [List.size_toArray,<- hl];exact hz
 have hcap:¬ its.toArray.size * k.toNat > (2 ^ 63 - 1) / 8:=by
  have:(sizeLine:Nat)<=(2 ^ 63 - 1) / 8:=by decide
  omega
 have hfit:¬ (!Builtin.List.listFitsIndex k)=true:=by
  rw [fitsIndex_both h1 h2]
  exact Bool.false_ne_true
 have hlong:¬ Builtin.List.listTooLong (its.toArray.size * k.toNat)=true:=by
  rw [zrx hlen]
  exact Bool.false_ne_true
 have hnew:List.foldl (fun x1 x2=>x1 ++ x2) #[] (List.replicate (if its.toArray.isEmpty=true then 0 else k.toNat) its.toArray)=(List.replicate k.toNat its).flatten.toArray:=by
  have f0:∀ m:Nat,List.foldl (fun x1 x2=>x1 ++ x2) #[] (List.replicate m its.toArray)=(List.replicate m its).flatten.toArray:=fun m=>by
   have:=foldl_rep its m []
   rw [List.nil_append] at this
   exact this
  rw [f0]
  cases its with
  | nil=>simp
  | cons a r'=>rw [if_neg (by simp)]
 refine wpAny_binaryOp_repeat_ref (T:="list") (U:="int") (by decide) ⟨_,e,rfl⟩ (fun s'=>typeIs_int s' k t) noFill_list_mul F.fills_int_mul F.slot_int_rmul repeat_list F.slot_int_index.lookup
  (call_meets F.slot_int_rmul (typeIs_int s k t) F.entry_int_rmul (F.args_int_rmul_2 _ _) (int___rmul___int_list k t l its.toArray n)
   ⟨e,rfl,⟨_,e,rfl⟩,call_meets F.slot_list_mul ⟨_,e,rfl⟩ F.entry_list_mul (F.args_list_mul_2 _ _) (AutoListH.list___mul___list_int_3 l its.toArray n k t hfit hcap hlong) ⟨e,?_⟩⟩)
 rw [hnew]
 exact ⟨.ref _,_,I.zxS (t':=s.toks) (r.rep k.toNat) (by rw [len_rep,Nat.mul_comm];exact hz),rfl,q _ I.fresh⟩
end
end L2
namespace Att
open PySem PySem.W PySem.Calls PyProof.Rows
theorem zhC {P:Params} {h:Heap}:∀ (ns:List Int) (vs:List Value),WellAll P h vs (ns.map WData.int)->IntsAre vs ns:=by
 intro ns
 induction ns with
 | nil =>
  intro vs w
  rw [List.map_nil] at w
  cases w
  exact .nil
 | cons n ns ih =>
  intro vs w
  rw [List.map_cons] at w
  cases w with
  | cons a b =>
   cases a
   exact .cons _ _ (ih _ b)
theorem zoS {l:OpenLaw} {n:Nat} (hn:l.most=some n) {P:Params} {h:Heap} {args:List WData} {vals:List Value}
  (hpre:l.row.toRowW.claim.pre args=true) (hwl:WellAll P h vals args) :
  ∃ a vs ns,vals=[Value.ref a]/\args=[WData.list (ns.map WData.int)]/\h.get? a=some { cls:=.type "list",data:=.seq vs.toArray }/\IntsAre vs ns/\ns.length<=n:=by
 have hsh:WShape.hasAll [] args [.list .int]=true:=(pre_splitW hpre).1
 have hc:l.pre.holds [] { args:=args }=true:=(pre_splitW hpre).2
 obtain ⟨d,r,rfl,h1,h2⟩:=hasAllW_cons hsh
 obtain rfl:=hasAllW_nil h2
 obtain ⟨xs,rfl,h3⟩:=hasW_list h1
 obtain ⟨ns,rfl⟩:=items_int h3
 have hlen:ns.length<=n:=by
  unfold OpenLaw.pre at hc
  have h4:(WTm.not (.lt (.lit (.int (n:Int))) (.len (.arg 0)))).holds [] { args:=[.list (ns.map .int)] }=true:=by
   have h4:=(holds_andW hc).1
   rw [hn] at h4
   exact h4
  have h5:=condW_of h4 (w_not (w_lt w_lit (w_len_list (w_arg rfl))))
  rw [List.length_map] at h5
  refine Nat.le_of_not_lt fun q=>?_
  have q':(n:Int) < ((ns.length:Nat):Int):=by omega
  first
   | (rw [decide_eq_true q'] at h5;exact absurd h5 (by decide))
   | (simp at h5;omega)
 cases hwl with
 | cons w1 w2 =>
  cases w2
  cases w1 with
  | list ho hall=>exact ⟨_,_,ns,rfl,rfl,ho,zhC ns _ hall,hlen⟩
theorem zpc (l:OpenLaw) (args:List WData):l.row.toRowW.claim.post args (.bool true) args=true :=
 postW_of (r:=l.row.toRowW) (X:=(true == true))
  (show WShape.has [] (.bool true) .bool=true by first | rfl | decide | simp [WShape.has,WShape.arms,WShape.armsAll])
  (show (WTm.eq .res (.lit (.bool true))).value [] { args:=args,res:=some (.bool true),after:=args }=some (.bool (true == true)) from w_eq_bool (w_res rfl) w_lit) rfl
theorem zmw {l:OpenLaw} {n:Nat} {q:Program} {loose:List Str} {XP:(Str->Option Value)->Heap->Prop} {YP:World->Heap->Prop} {d:DefRec}
  (hn:l.most=some n) (hdf:d.params.defaults=[])
  (call:∀ (w:World) (s₀ s₁:Shared) (mg mb:Str->Option Value) (fa:Addr) (o:Obj) (pm cd doc:Value) (a:Addr) (vs:List Value) (ns:List Int),
   Ground q loose [] XP w s₀ mg mb s₁.heap->YP w s₁.heap ->
   s₁.heap.get? fa=some o->o.data=.func (docDef d.name d.params d.body d.scope pm cd doc)->s₁.heap.CodeRec cd d.name->mg d.name=some (.ref fa) ->
   s₁.heap.get? a=some { cls:=.type "list",data:=.seq vs.toArray }->IntsAre vs ns->ns.length<=n->s₁.gens=#[] ->
   codeAny (model l.prog w) callerA (.call (.ref fa) ⟨[.ref a],[]⟩) (fun r s'=>r=.ok (.ret (.bool true))/\OldK s₁.heap s'.heap/\s'.os=s₁.os/\AllBare s'.gens) s₁) :
  WalkO q loose XP YP l.row.toRowW d [] (fun f vs=>PySem.call f vs):=by
 intro w s₀ s₁ mg mb G Y fa o pm cd doc dV kV ho hd hcd hD hmg hg args vals as hpre hlay hrd hwl hlo
 obtain rfl:dV=.none:=Dflts.none hD hdf
 obtain rfl:kV=.none:=Dflts.noKw hD
 obtain ⟨a,vs,ns,rfl,rfl,hobj,hints,hlen⟩:=zoS hn hpre hwl
 refine enter_call (codeAny_mono (call w s₀ s₁ mg mb fa o pm cd doc a vs ns G Y ho (fd_plain hd) hcd hmg hobj hints hlen hg) fun r s' hq=>?_)
 obtain ⟨rfl,h2,h3,h4⟩:=hq
 exact ⟨.inl ⟨.bool true,.bool true,[],rfl,fun _=>rfl,.bool true,zpc l _,fun _=>⟨List.Pairwise.nil,fun _ hm=>(nomatch hm)⟩⟩,h2,h3,h4⟩
end Att
namespace L2
open PySem PySem.Spec PyProof.Rows
theorem zkp:∀ {vs:List Value} {ns:List Int},IntsAre vs ns->Vals (ns.map V.int) vs
 | _,_,.nil=>.nil
 | _,_,.cons n t h=>.cons ⟨t,rfl⟩ (zkp h)
end L2
namespace L2
open PySem PySem.Spec PyProof.Rows
abbrev KOf {K:PySem.W.Frag} {h:Heap} (_:K.In h):PySem.W.Frag:=K
end L2
/- THE LAST THEOREM (shape;LID,My.* are yours):
  My.Adr: a structure of the addresses that your layer names (classes,functions);My.Txt K t: a structure (Prop) of the equations over K;
  My.txt_mk:{K} {implicit addresses ..} (e1:nsIn K mainGlobals "law"=some (some (.ref f))) (e2:K.lookup f=some ⟨oc,od,.func (fnOf "law" "law" params body scope dV kV doc pm an cdv ct),sl⟩) (e3:codeIn K cdv "law"=true) ..:∃ t,My.Txt K t
set_option maxRecDepth 100000 in
set_option maxHeartbeats 0 in
theorem PySem.Challenge.zsZ:PySem.Challenge.rw_LID.Holds := by
 w_on;o_law;k_head;(case hw=>w_witness2)
 k_fill
 refine L2.walk_of (l:=PySem.Challenge.rw_LID) (n:=63) (k:=40) (x:="script") (CX:=fun w=>..) (sp:=fun _=>My.sp_law) rfl (by decide) rfl ⟨rfl,by decide,by decide⟩ (fun w h Y=>PySem.W.kIn_of Y) ?F ?S ?C
 case F =>
  intro w mg fa h KX G hmg
  have T:∃ t,My.Txt (L2.KOf KX) t:=by
   dsimp only [L2.KOf]                          -- K must stand as «<heap const> w.params» for k_is
   refine' My.txt_mk ?e1 ?e2 ?e3 ..
   (case e1=>PySem.W.k_is)                    -- in the order: a name->its address->its object->its parts
   (case e2=>PySem.W.k_is)
   ..
  obtain ⟨t,T⟩:=T
  have e0:=hmg.symm.trans (PySem.W.mg_of KX G T.law)
  cases e0                                       -- fa is the law's own address
  exact ⟨_,fun s u=>.of_eq rfl,fun base kb nb=>My.law_fn T kb nb⟩     -- if «.of_eq rfl» comes too early: refine' ⟨_,?b,fun base kb nb=>My.law_fn T kb nb⟩;exact fun s u=>.of_eq rfl
 case S=>exact fun w H a ns hl hO hS=>..
 case C=>exact ..
(the tactic k_is has no namespace: write k_is) -/
/-! SHORT WORDS over the layer: a def of the text,its body,what a loop and a test want. -/
namespace L2
open PySem PySem.Spec PyProof.Rows
def zdl (s:Stmt):Arguments:=match s with
 | .FunctionDef _ a _ _ _ _ _ _ _ _=>a
 | _=>{ posonlyargs:=[],args:=[],vararg:=none,kwonlyargs:=[],kw_defaults:=[],kwarg:=none,defaults:=[] }
def zbI (s:Stmt):List Stmt:=match s with
 | .FunctionDef _ _ b _ _ _ _ _ _ _=>b
 | _=>[]
def zaA (s:Stmt):Scope:=match s with
 | .FunctionDef _ _ _ _ _ _ sc _ _ _=>sc
 | _=>{ kind:=.function,names:=[],isGenerator:=false,isCoroutine:=false }
abbrev E0:XK:=fun _ _ _=>False
structure Fun (K:PySem.W.Frag) (x qual:Str) (st:Stmt) (f:Addr) (fd:FuncData):Prop where
 ex:∃ (oc:Value) (od:Option Addr) (kV doc pm:Value) (an:Option Addr) (cdv ct:Value) (osl:Array (Option Value)),
  fd=PySem.W.fnOf x qual (zdl st) (zbI st) (zaA st) .none kV doc pm an cdv ct/\K.lookup f=some ⟨oc,od,.func fd,osl⟩/\PySem.W.codeIn K cdv qual=true
 kp:PySem.W.keepIn K (.ref f)=true
section
variable {P:Program} {w:World} {K:PySem.W.Frag} {mg:Str->Option Value} {base:Heap}
theorem Fun.binds {x qual:Str} {st:Stmt} {f:Addr} {fd:FuncData} {ps:List Str} (F:Fun K x qual st f fd)
  (h:∀ (kV doc pm:Value) (an:Option Addr) (cdv ct:Value) (us:List Value),us.length=ps.length->bindArgs (PySem.W.fnOf x qual (zdl st) (zbI st) (zaA st) .none kV doc pm an cdv ct) ⟨us,[]⟩=pure (ps.zip us)):Binds K fd ps []:=by
 obtain ⟨oc,od,kV,doc,pm,an,cdv,ct,osl,rfl,lk,hcd⟩:=F.ex
 exact .all (h kV doc pm an cdv ct)
theorem zwa {x qual:Str} {st:Stmt} {f:Addr} {oc:Value} {od an:Option Addr} {osl:Array (Option Value)} {kV doc pm cdv ct:Value} (l:K.lookup f=some ⟨oc,od,.func (PySem.W.fnOf x qual (zdl st) (zbI st) (zaA st) .none kV doc pm an cdv ct),osl⟩)
  (c:PySem.W.codeIn K cdv qual=true) (k:PySem.W.keepIn K (.ref f)=true):Fun K x qual st f (PySem.W.fnOf x qual (zdl st) (zbI st) (zaA st) .none kV doc pm an cdv ct):=⟨⟨oc,od,kV,doc,pm,an,cdv,ct,osl,rfl,l,c⟩,k⟩
end
theorem zoQ {n:Nat} (h:n<=1000):n < sizeLine:=Nat.lt_of_le_of_lt h (by decide)
section
variable {X:Cx}
theorem pv (i:Nat) {x:Str} {pos:Pos} (hN:X.N[i]?=some x:=by rfl) (hv:Vis X.env.scope x:=by first | exact Or.inl rfl | exact Or.inr (Or.inl rfl) | exact Or.inr (Or.inr rfl)) (hd:(x == ("__debug__":Str))=false:=by decide)
  (hcd:(x == ("__classdict__":Str))=false:=by decide):PE X (.Name x pos) (ziv i):=zsv hN hv hd hcd
end
theorem zsO {A B:Prop} (h:B):if false=true then A else B:=by
 rw [if_neg Bool.false_ne_true]
 exact h
theorem zsN {A B:Prop} (h:A):if true=true then A else B:=by
 rw [if_pos rfl]
 exact h
def zbj (H H':Hp):Prop:=∀ b o,H b=some o->H' b=some o
theorem zbj.refl (H:Hp):zbj H H:=fun _ _ h=>h
end L2
namespace L2
open PySem PySem.Spec PyProof.Rows
theorem bits_le {k:Int} {a:Nat} (h:k.natAbs < 2 ^ a):Builtin.Int.intBits k<=a:=by
 unfold Builtin.Int.intBits
 split
 ·exact Nat.zero_le _
 ·rename_i h0
  have hp:k.natAbs ≠ 0:=by
   intro z
   apply h0
   have:k=0:=by omega
   subst this
   rfl
  have:=(Nat.log2_lt hp).mpr h
  omega
theorem mulOk_of {i j:Int} {a b:Nat} (hi:i.natAbs < 2 ^ a) (hj:j.natAbs < 2 ^ b) (h:a + b<=134217728):IntMulOk i j:=by
 have h1:=bits_le hi
 have h2:=bits_le hj
 have h3:Builtin.Int.intTooBig ((Builtin.Int.intBits i:Int) + (Builtin.Int.intBits j:Int))=false:=by
  unfold Builtin.Int.intTooBig
  rw [bitsLine_eq]
  simp
  omega
 unfold IntMulOk
 rw [h3]
 simp
section
variable {X:Cx}
theorem ztR:OpR X (binaryOp .Mult) (rI IntMulOk fun i j=>.int (i * j)):=opI fun _ _ _ _ _ _ _ hc q=>mul_int q hc
end
mutual
/-- the value v is the thing d in the abstract heap -/
def Is (K:PySem.W.Frag) (H:Hp):PyData->V->Prop
 | .none,v=>v=.non
 | .bool b,v=>v=.bl b
 | .int i,v=>v=.int i
 | .str x,v=>v=.str x
 | .list xs,v=>∃ a vs,v=.ref a/\SqL K H a vs/\zga K H xs vs
 | .tuple xs,v=>∃ a vs,v=.ref a/\SqT K H a vs/\zga K H xs vs
 | .dict _,_=>False
def zga (K:PySem.W.Frag) (H:Hp):List PyData->List V->Prop
 | [],vs=>vs=[]
 | d :: ds,vs=>∃ v r,vs=v :: r/\Is K H d v/\zga K H ds r
end
section
variable {X:Cx} {pins:List (Addr × Obj)} {σ:St} {H:Hp} {s:Shared}
mutual
theorem Is.reads (I:Inv X pins σ H s):∀ (d:PyData) (v:V) (u:Value),Is X.K H d v->RelV v u->∃ as,Reads s.heap u d as
 | .none,v,u,h,r=>by
  simp only [Is] at h;subst h
  cases (show u=Value.none from r)
  exact ⟨_,.none⟩
 | .bool b,v,u,h,r=>by
  simp only [Is] at h;subst h
  cases (show u=Value.bool b from r)
  exact ⟨_,.bool b⟩
 | .int i,v,u,h,r=>by
  simp only [Is] at h;subst h
  obtain ⟨t,rfl⟩:=(show ∃ t,u=Value.int i t from r)
  exact ⟨_,.int i t⟩
 | .str x,v,u,h,r=>by
  simp only [Is] at h;subst h
  obtain ⟨t,rfl⟩:=(show ∃ t,u=Value.str x t from r)
  exact ⟨_,.str x t⟩
 | .list xs,v,u,h,r=>by
  simp only [Is] at h
  obtain ⟨a,vs,rfl,h1,h2⟩:=h
  cases (show u=Value.ref a from r)
  obtain ⟨its,rv,⟨o,n,ho,hc,_,hd⟩,_⟩:=I.list h1
  obtain ⟨as,ra⟩:=zga.reads I xs vs its h2 rv
  exact ⟨_,.list ho hc hd (by simpa using ra)⟩
 | .tuple xs,v,u,h,r=>by
  simp only [Is] at h
  obtain ⟨a,vs,rfl,h1,h2⟩:=h
  cases (show u=Value.ref a from r)
  obtain ⟨its,rv,⟨o,ho,hc,n,hd⟩,_⟩:=I.tuple h1
  obtain ⟨as,ra⟩:=zga.reads I xs vs its h2 rv
  exact ⟨_,.tuple ho hc hd (by simpa using ra)⟩
 | .dict _,v,u,h,r=>by simp only [Is] at h
theorem zga.reads (I:Inv X pins σ H s):∀ (ds:List PyData) (vs:List V) (us:List Value),zga X.K H ds vs->Vals vs us->∃ as,ReadsAll s.heap us ds as
 | [],vs,us,h,r=>by
  simp only [zga] at h;subst h
  cases r
  exact ⟨_,.nil⟩
 | d :: ds,vs,us,h,r=>by
  simp only [zga] at h
  obtain ⟨v,rr,rfl,h1,h2⟩:=h
  cases r with
  | cons r1 r2 =>
   obtain ⟨as,q1⟩:=Is.reads I d v _ h1 r1
   obtain ⟨bs,q2⟩:=zga.reads I ds rr _ h2 r2
   exact ⟨_,.cons q1 q2⟩
end
end
section
variable {X:Cx}
def zym (K:PySem.W.Frag):R2:=fun x y H Q=>∃ d e,Is K H d x/\Is K H e y/\SeqAt.shaped d=true/\SeqAt.shaped e=true/\Q (.bl (PyData.eqv d e)) H
def zyi (K:PySem.W.Frag):R2:=fun x y H Q=>∃ d e,Is K H d x/\Is K H e y/\SeqAt.shaped d=true/\SeqAt.shaped e=true/\Q (.bl (!PyData.eqv d e)) H
theorem zvG (hu:X.A.units + 64 < cLine):OpR X (compareOp .Eq) (zym X.K):=by
 intro pins s σ H x y v u Q I rx ry h
 obtain ⟨d,e,h1,h2,c1,c2,q⟩:=h
 obtain ⟨as,ra⟩:=Is.reads I d x v h1 rx
 obtain ⟨bs,rb⟩:=Is.reads I e y u h2 ry
 exact SeqAt.compareEq_shaped ra rb c1 c2 hu ⟨.bl _,H,I,rfl,q⟩
theorem zvE (hu:X.A.units + 64 < cLine):OpR X (compareOp .NotEq) (zyi X.K):=by
 intro pins s σ H x y v u Q I rx ry h
 obtain ⟨d,e,h1,h2,c1,c2,q⟩:=h
 obtain ⟨as,ra⟩:=Is.reads I d x v h1 rx
 obtain ⟨bs,rb⟩:=Is.reads I e y u h2 ry
 exact SeqAt.compareNe_shaped ra rb c1 c2 hu ⟨.bl _,H,I,rfl,q⟩
end
end L2
namespace L2
open PySem PySem.Spec PyProof.Rows
inductive Ty (K:PySem.W.Frag) (H:Hp):V->Value->Prop where
 | non:Ty K H .non (.type "NoneType")
 | bl (x:Bool):Ty K H (.bl x) (.type "bool")
 | int (i:Int):Ty K H (.int i) (.type "int")
 | str (x:Str):Ty K H (.str x) (.type "str")
 | lst {a:Addr} {xs:List V} (e:SqL K H a xs):Ty K H (.ref a) (.type "list")
 | tup {a:Addr} {xs:List V} (e:SqT K H a xs):Ty K H (.ref a) (.type "tuple")
def zwL:V->Value
 | .ty n=>.type n
 | .ref a=>.ref a
 | _=>.none
theorem zur {y:V} {u:Value} (r:RelV y u) (h:zwL y ≠ .none):u=zwL y:=by
 cases y with
 | ty n=>exact r
 | ref a=>exact r
 | _=>exact absurd rfl h
section
variable {X:Cx}
theorem zv6 {pins:List (Addr × Obj)} {σ:St} {H:Hp} {s:Shared} {A:Around} {E:Value->Shared->Prop} {Q:Value->Shared->Prop} {c:Value} {b:Bool} {x:V} {u t:Value} (I:Inv X pins σ H s) (rx:RelV x u) (ty:Ty X.K H x t) (e:PySem.W.kitOne X.K t c=some b) (h:∀ tk,Q (.bool b) { s with toks:=tk }) :
  wpAny (model X.prog X.w) A (call (.builtin "isinstance") [u,c]) Q E s:=by
 cases ty with
 | non=>cases (show u=Value.none from rx);exact PySem.W.kia_one PySem.W.kitx_none I.kIn True.intro e (fun z=>nomatch z) h
 | bl y=>cases (show u=Value.bool y from rx);exact PySem.W.kia_one PySem.W.kitx_bool I.kIn True.intro e (fun z=>nomatch z) h
 | int i=>obtain ⟨t,q⟩:=(show ∃ t,u=Value.int i t from rx);cases q;exact PySem.W.kia_one PySem.W.kitx_int I.kIn True.intro e (fun z=>nomatch z) h
 | str y=>obtain ⟨t,q⟩:=(show ∃ t,u=Value.str y t from rx);cases q;exact PySem.W.kia_one PySem.W.kitx_str I.kIn True.intro e (fun z=>nomatch z) h
 | @lst a xs ea =>
  cases (show u=Value.ref a from rx)
  obtain ⟨its,_,⟨o,n,ho,hc,_⟩,_⟩:=I.list ea
  exact PySem.W.kia_one PySem.W.kitx_list I.kIn ⟨o,ho,hc⟩ e (fun z=>nomatch z) h
 | @tup a xs ea =>
  cases (show u=Value.ref a from rx)
  obtain ⟨its,_,⟨o,ho,hc,_⟩,_⟩:=I.tuple ea
  exact PySem.W.kia_one PySem.W.kitx_tuple I.kIn ⟨o,ho,hc⟩ e (fun z=>nomatch z) h
def zyl (K:PySem.W.Frag):List V->Hp->VK->Prop:=fun xs H Q=>∃ x y t b,xs=[x,y]/\zwL y ≠ .none/\Ty K H x t/\PySem.W.kitOne K t (zwL y)=some b/\Q (.bl b) H
theorem zr1:zgd X (.builtin "isinstance") (zyl X.K):=by
 intro pins s σ H xs us Q I r h
 obtain ⟨x,y,t,b,rfl,hy,ty,e,q⟩:=h
 obtain ⟨u,v,rfl,ru,rv⟩:=vals2 r
 cases zur rv hy
 exact zv6 I ru ty e fun tk=>⟨.bl b,H,I.tok tk,rfl,q⟩
theorem zxc {x:Str} {n:String} {pos:Pos} (hg:Gl X x) (hm:X.mg x=none) (hv:bootBuiltins x=some (.type n)) (hn:x ≠ "__name__":=by decide) (hd:(x == ("__debug__":Str))=false:=by decide):PE X (.Name x pos) (tC (.ty n)):=ztL hg hm hv rfl hn hd
end
end L2
namespace L2
open PySem PySem.Spec PyProof.Rows
def zhX (cells:List (Str × Addr)):List (Str × NameKind)->List (Str × Addr)->List (Str × Addr)
 | [],acc=>acc
 | (n,k) :: r,acc=>if k=.free then (match cells.lookup n with | some a=>zhX cells r ((n,a) :: acc) | none=>zhX cells r acc) else zhX cells r acc
theorem zg2 {cells:List (Str × Addr)}:∀ {names:List (Str × NameKind)} {acc:List (Str × Addr)},(∀ p ∈ acc,cells.lookup p.1=some p.2)->∀ p ∈ zhX cells names acc,cells.lookup p.1=some p.2
 | [],acc,h,p,hp=>h p hp
 | (n,k) :: r,acc,h,p,hp=>by
  unfold zhX at hp
  split at hp
  ·split at hp
   ·rename_i a e
    exact zg2 (names:=r) (acc:=(n,a) :: acc) (fun q hq=>by
     rcases List.mem_cons.mp hq with rfl | hq
     ·exact e
     ·exact h q hq) p hp
   ·exact zg2 h p hp
  ·exact zg2 h p hp
theorem zg3 {cells:List (Str × Addr)}:∀ {names:List (Str × NameKind)} {acc:List (Str × Addr)},∀ p ∈ acc,p ∈ zhX cells names acc
 | [],acc,p,hp=>hp
 | (n,k) :: r,acc,p,hp=>by
  unfold zhX
  split
  ·split
   ·exact zg3 p (List.mem_cons_of_mem _ hp)
   ·exact zg3 p hp
  ·exact zg3 p hp
theorem zfw {cells:List (Str × Addr)} {x:Str} {a:Addr} (e:cells.lookup x=some a):∀ {names:List (Str × NameKind)} {acc:List (Str × Addr)},(x,NameKind.free) ∈ names->(x,a) ∈ zhX cells names acc
 | (n,k) :: r,acc,h=>by
  unfold zhX
  rcases List.mem_cons.mp h with h | h
  ·cases h
   rw [if_pos rfl,e]
   exact zg3 _ (List.mem_cons_self ..)
  ·split
   ·split
    ·exact zfw e h
    ·exact zfw e h
   ·exact zfw e h
theorem zbA {α:Type} {x:Str} {a:α}:∀ {l:List (Str × α)},(x,a) ∈ l->∃ b,l.lookup x=some b
 | (y,b) :: r,h=>by
  by_cases e:(x == y)=true
  ·exact ⟨b,by simp [List.lookup_cons,e]⟩
  ·rcases List.mem_cons.mp h with h | h
   ·cases h
    exact absurd (beq_self_eq_true _) e
   ·obtain ⟨c,hc⟩:=zbA h
    refine ⟨c,?_⟩
    have e':(x == y)=false:=by simpa using e
    simp only [List.lookup_cons,e']
    exact hc
theorem zdm {scope:Scope} {env:Env} (h:∀ y ∈ scope.names,y.2=.free->∃ a,env.cells.lookup y.1=some a):closureFor scope env=pure (zhX env.cells scope.names []):=by
 have key:∀ (names:List (Str × NameKind)) (acc:List (Str × Addr)),(∀ y ∈ names,y.2=.free->∃ a,env.cells.lookup y.1=some a) ->
   (forIn names acc (fun x r=>match x with
    | (name,kind)=>if (kind == NameKind.free)=true then do let a <- cellOf env name;pure (ForInStep.yield ((name,a) :: r)) else pure (ForInStep.yield r)):Sem (List (Str × Addr)))=pure (zhX env.cells names acc):=by
  intro names
  induction names with
  | nil=>intro acc _;rfl
  | cons p r ih =>
   intro acc hh
   obtain ⟨n,k⟩:=p
   rw [List.forIn_cons]
   by_cases hk:k=.free
   ·subst hk
    obtain ⟨a,ea⟩:=hh (n,.free) (List.mem_cons_self ..) rfl
    have e1:cellOf env n=pure a:=by unfold cellOf;rw [ea]
    simp only [beq_self_eq_true,if_true,e1,pure_bind,zhX,ea]
    exact ih _ fun y hy=>hh y (List.mem_cons_of_mem _ hy)
   ·have hk':(k == NameKind.free)=false:=by simpa using hk
    simp only [hk',Bool.false_eq_true,if_false,pure_bind,zhX,hk]
    exact ih _ fun y hy=>hh y (List.mem_cons_of_mem _ hy)
 unfold closureFor
 exact (bind_pure _).trans (key scope.names [] h)
theorem za6 {scope:Scope} {env:Env} {x:Str} {k:NameKind}:∀ {names:List (Str × NameKind)},
  (names.map fun (n,k)=>if (k == NameKind.free && env.scope.kind == .function && env.kindOf n == some .cell) then (n,NameKind.cell) else (n,k)).lookup x=some k ->
  ∃ k0,names.lookup x=some k0/\(x,k0) ∈ names/\(k0=k\/(k0=.free/\k=.cell))
 | [],h=>by simp at h
 | (n,k0) :: r,h=>by
  by_cases e:(x == n)=true
  ·have en:x=n:=by simpa using e
   subst en
   refine ⟨k0,by simp [List.lookup_cons],List.mem_cons_self ..,?_⟩
   rw [List.map_cons] at h
   by_cases hc:(k0 == NameKind.free && env.scope.kind == .function && env.kindOf x == some .cell)=true
   ·simp only [hc,if_true,List.lookup_cons,beq_self_eq_true] at h
    simp only [Bool.and_eq_true,beq_iff_eq] at hc
    exact .inr ⟨hc.1.1,(Option.some.inj h).symm⟩
   ·simp only [hc,Bool.false_eq_true,if_false,List.lookup_cons,beq_self_eq_true] at h
    exact .inl (Option.some.inj h)
  ·have e':(x == n)=false:=by simpa using e
   rw [List.map_cons] at h
   have h':(r.map fun (n,k)=>if (k == NameKind.free && env.scope.kind == .function && env.kindOf n == some .cell) then (n,NameKind.cell) else (n,k)).lookup x=some k:=by
    by_cases hc:(k0 == NameKind.free && env.scope.kind == .function && env.kindOf n == some .cell)=true
    ·simp only [hc,if_true,List.lookup_cons,e'] at h
     exact h
    ·simp only [hc,Bool.false_eq_true,if_false,List.lookup_cons,e'] at h
     exact h
   obtain ⟨k1,h1,h2,h3⟩:=za6 (scope:=scope) h'
   exact ⟨k1,by simp only [List.lookup_cons,e'];exact h1,List.mem_cons_of_mem _ h2,h3⟩
structure zwC (X:Cx) (scope:Scope) (cap:List Str):Prop where
 kind:scope.kind=.function
 nocell:∀ y ∈ scope.names,y.2 ≠ .cell
 cell:∀ y ∈ scope.names,y.2=.free->X.env.kindOf y.1=some .cell
 loc:∀ y ∈ scope.names,y.2=.local->scope.names.lookup y.1=some .local
 cap:∀ x ∈ cap,scope.names.lookup x ≠ some .local
def zeB (X:Cx) (ix:List Nat):List Str:=ix.map fun i=>X.N.getD i ""
def zeA (k:Nat) (ix:List Nat) (σ:St):St:=List.replicate k none ++ ix.map fun i=>(σ[i]?).getD none
end L2
namespace L2
open PySem PySem.Spec PyProof.Rows
section
variable {prog:Program} {w:World} {A:Around} {R:Result->Shared->Prop} {s:Shared}
theorem zhS {elt target iter:Expr} {ifs:List Expr} {scope:Scope} {pos:Pos} {it acc:Value} {env:Env} (I:Nat->Shared->Prop)
  (turn:∀ n s,I n s->wpAny (model prog w) A (pyNext it) (fun r s₁=>match r with
   | none=>R (.ok .next) s₁
   | some v=>wpAny (model prog w) A (letOwnedTupleGo target it v) (fun _ s₀=>wpAny (model prog w) A (assign target env v) (fun _ s₂ =>
     wpAny (model prog w) A (forIn ifs true fun c r=>if r=true then do let ok <- isTrue c env (eval c env);pure (ForInStep.yield ok) else pure (ForInStep.yield r)) (fun ok s₃ =>
      if ok=true then wpAny (model prog w) A (eval elt env) (fun x s₄ =>
       wpAny (model prog w) A (call (.builtin "list.append") [acc,x]) (fun _ s₅=>∃ m,m < n/\I m s₅) (notedBy (model prog w) A env fun e s'=>R (.error e) s') s₄) (notedBy (model prog w) A env fun e s'=>R (.error e) s') s₃
      else ∃ m,m < n/\I m s₃) (notedBy (model prog w) A env fun e s'=>R (.error e) s') s₂) (notedBy (model prog w) A env fun e s'=>R (.error e) s') s₀) (notedBy (model prog w) A env fun e s'=>R (.error e) s') s₁) (notedBy (model prog w) A env fun e s'=>R (.error e) s') s)
  (n:Nat) (h:I n s) :
  codeAny (model prog w) A (.compLoop (.ListComp elt [⟨target,iter,ifs,0⟩] scope pos) 0 it acc env) R s:=by
 refine codeAny_loop rfl I (fun n s hI=>?_) n h
 show wpAny _ A ((compTurn (.ListComp elt [⟨target,iter,ifs,0⟩] scope pos) 0 it acc env).onRaise (fun x=>do noteFrame x env;theTreesLotGoes x)) _ _ s
 refine wpAny_noted ?_
 rw [compTurn_list]
 refine wpAny_bind (wpAny_standAt (wpAny_bind (wpAny_mono (turn n s hI) (fun r s₁ h₁=>?_) fun _ _ h'=>h')))
 cases r with
 | none=>exact wpAny_pure h₁
 | some v =>
  refine wpAny_bind (wpAny_mono h₁ (fun _ s₀ h₀=>?_) fun _ _ h'=>h')
  refine wpAny_bind (wpAny_mono h₀ (fun _ s₂ h₂=>wpAny_bind (wpAny_mono h₂ (fun ok s₃ h₃=>?_) fun _ _ h'=>h')) fun _ _ h'=>h')
  cases ok with
  | false=>exact wpAny_pure ⟨rfl,h₃⟩
  | true =>
   exact wpAny_bind (wpAny_bind (wpAny_mono h₃ (fun x s₄ h₄=>wpAny_bind (wpAny_mono h₄ (fun _ s₅ h₅=>wpAny_pure (wpAny_pure ⟨rfl,h₅⟩)) fun _ _ h'=>h')) fun _ _ h'=>h'))
end
def PTs (X:Cx) (ifs:List Expr) (t:TT):Prop :=
 ∀ (pins:List (Addr × Obj)) (s:Shared) (σ:St) (H:Hp) (Q:Bool->Hp->Prop),Inv X pins σ H s->t σ H Q ->
  wpAny (model X.prog X.w) X.A (forIn ifs true fun c r=>if r=true then do let ok <- isTrue c X.env (eval c X.env);pure (ForInStep.yield ok) else pure (ForInStep.yield r)) (TP X pins σ Q) X.xe s
def zyd:TT:=fun _ H Q=>Q true H
theorem ztv {X:Cx}:PTs X [] zyd:=fun _ _ _ H _ I h=>wpAny_tests_nil ⟨H,I,h⟩
theorem ztu {X:Cx} {c:Expr} {t:TT} (hc:PT X c t):PTs X [c] t:=fun pins s σ H Q I h=>wpAny_tests_one (hc pins s σ H Q I h)
def zmF (k:Nat) (g:TG):Prop:=∀ x σ H Q,g x σ H Q->g x σ H fun σ2 H2=>(σ2.length=σ.length/\∀ i:Nat,k<=i->σ2[i]?=σ[i]?)/\Q σ2 H2
def znQ (k:Nat) (ix:List Nat) (wi:TI) (g:TG) (tc:TT) (te:TE):TE:=fun σ H Q=>wi σ H fun J H1=>∀ l,H1 l=none ->
 ∃ W:Nat->Nat->List V->Hp->Prop,(∃ m,W 0 m [] (upd H1 l (.lst [])))/\∀ i m ys H2,W i m ys H2->H2 l=some (.lst ys) /\
  ((J.stop i H2/\Q (.ref l) H2)\/(J.go i H2/\∀ x H3,J.yld i H2 x H3->g x (zeA k ix σ) H3 fun σ2 H4=>tc σ2 H4 fun b H5 =>
   if b=true then te σ2 H5 fun v H6=>H6 l=some (.lst ys)/\ys.length < sizeLine/\∃ m',m' < m/\W (i + 1) m' (ys ++ [v]) (upd H6 l (.lst (ys ++ [v]))) else ∃ m',m' < m/\W (i + 1) m' ys H5))
end L2
namespace L2
open PySem PySem.Spec PyProof.Rows
def Fl (h:Heap) (e:Addr) (cls:Value) (dd:Option Addr) (T:Addr) (fl:Value):Prop :=
 ∃ oe vs oT ts,h.get? e=some oe/\oe.cls=cls/\oe.dict=dd/\oe.data=.fields vs/\vs[1]?=some (.ref T)/\T ≠ e/\h.get? T=some oT/\oT.data=.fields ts/\ts[3]?=some fl
end L2
namespace L2
open PySem PySem.Spec PyProof.Rows
theorem zbx.some {P:Program} {w:World} {H:Hp} {h:Heap} {a:Addr} {o:HO} (x:zbx P w H h a o):∃ ob,h.get? a=some ob:=by
 cases o with
 | lst xs=>obtain ⟨_,_,_,_,e⟩:=x;exact ⟨_,e⟩
 | tup xs=>obtain ⟨_,_,_,ob,e,_⟩:=x;exact ⟨_,e⟩
 | dK kvs=>obtain ⟨_,_,_,_,ob,_,_,e,_⟩:=x;exact ⟨_,e⟩
 | dT kvs=>obtain ⟨_,_,_,_,ob,_,_,e,_⟩:=x;exact ⟨_,e⟩
 | set S n=>obtain ⟨ob,_,_,_,e,_⟩:=x;exact ⟨_,e⟩
 | ins C dx fs=>obtain ⟨_,_,_,e,_⟩:=x;exact ⟨_,e⟩
 | own y=>exact x
 | xd fs=>obtain ⟨_,⟨od,_,_,e,_⟩,_⟩:=x;exact ⟨_,e⟩
 | met f y=>exact ⟨_,x⟩
 | rng lo hi=>obtain ⟨_,_,_,e⟩:=x;exact ⟨_,e⟩
 | frz ob u=>exact ⟨_,x.1⟩
 | tbl ps=>exact ⟨_,x⟩
 | ext φ=>exact x.2.1
def CXe (P:Program) (w:World):CXT:=fun outer H s E ev s'=>∃ (e:Addr) (cls:Value) (dd:Option Addr) (T:Addr) (H':Hp),ev=.ref e/\s'.os=s.os/\AllBare s'.gens/\Un (frs outer) [] H H' s.heap s'.heap/\HOk P w H' s'.heap /\
 Fl s'.heap e cls dd T .none/\H' e=none/\H' T=none/\s.heap.get? e=none/\s.heap.get? T=none/\E cls dd H'
theorem zjC {P:Program} {w:World} {X:Cx}:Passes (CXe P w) X E0:=fun _ _ _ _ _ _ _ ⟨_,_,_,_,_,_,_,_,_,_,_,_,_,_,_,q⟩=>q.elim
section
variable {P:Program} {w:World} {K:PySem.W.Frag} {mg:Str->Option Value} {base:Heap} {N:List Str} {qual:Str} {scope:Scope} {f:Addr} {cd:Value} {A:Around} {outer:List Env} {s:Shared} {H:Hp} {E:XK}
theorem Fun.okE {x:Str} {st:Stmt} {fd:FuncData} {ps:List Str} {k:Nat} {sp:Sp} (F:Fun K x qual st f fd) (S:zeh N ps (zaA st)) (len:∀ vs H Q E,sp vs H Q E->vs.length=ps.length)
  (hbody:∀ (cdv:Value) (A:Around) (outer:List Env) (s:Shared) (H:Hp) (vs:List V) (Q:VK) (E:XK),zcT k (A.deeper (envOfC qual (zaA st) s.heap.objs.size f cdv))->sp vs H Q E ->
   ∃ t,PSs (zqL (CXe P w) P w K mg base N qual (zaA st) f cdv A outer s H E) (zbI st) t/\t { nx:=fun _ H'=>Q .non H',rt:=Q } (start N vs) H):zkl P w K mg base (CXe P w) (k + 1) f fd ps sp:=by
 obtain ⟨oc,od,kV,doc,pm,an,cdv,ct,osl,rfl,lk,hcd⟩:=F.ex
 exact zxA lk hcd S len fun A outer s H vs Q E hr hsp=>hbody cdv A outer s H vs Q E hr hsp
end
end L2
namespace L2
open PySem PySem.Spec PyProof.Rows
def Nw (X:Cx) (pins:List (Addr × Obj)) (b:Addr):Prop :=
 X.s₀.heap.get? b=none/\b ≠ X.env.locals/\b ∉ X.fs/\(∀ x c,X.env.cells.lookup x=some c->c ≠ b)/\∀ p ∈ X.pn ++ pins,p.1 ≠ b
def XP (X:Cx) (pins:List (Addr × Obj)) (σ:St) (E:XK) (ev:Value) (s':Shared):Prop :=
 ∃ (e:Addr) (cls:Value) (dd:Option Addr) (T:Addr) (H':Hp),ev=.ref e/\Inv X pins σ H' s'/\Fl s'.heap e cls dd T .none/\H' e=none/\H' T=none/\Nw X pins e/\Nw X pins T/\E cls dd H'
abbrev TSX:=Ends->(St->XK)->St->Hp->Prop
structure zx3 (K:PySem.W.Frag) (C:Addr):Prop where
 ty:PySem.W.typeIn K (.ref C)=some (.type "type")
 cl:(PySem.W.clsIn K C).isSome=true
 be:PySem.W.subIn K (.ref C) (.type "BaseException")=some true
end L2
namespace L2
open PySem PySem.Spec PyProof.Rows
end L2
namespace L2
open PySem PySem.Spec PyProof.Rows
structure zyO (K:PySem.W.Frag) (D:Addr):Prop where
 ga:PySem.W.findIn K (.ref D) "__getattribute__"=some (some (.builtin "BaseException.__getattribute__"))
 gn:PySem.W.findIn K (.ref D) "__getattr__"=some none
 cl:PySem.W.findIn K (.ref D) "__class__"=some (some (.builtin "object.__class__"))
 be:PySem.W.subIn K (.ref D) (.type "BaseException")=some true
 ob:PySem.W.mroIn K D (.type "object")=some true
 is:(PySem.W.clsIn K D).isSome=true
end L2
namespace L2
open PySem PySem.Spec PyProof.Rows
def Has (K:PySem.W.Frag) (mg:Str->Option Value) (x:Str) (st:Stmt):Prop:=∃ (f:Addr) (fd:FuncData),mg x=some (.ref f)/\Fun K x x st f fd
def Callee (P:Program) (w:World) (K:PySem.W.Frag) (mg:Str->Option Value) (base:Heap) (x:Str) (k:Nat) (ps:List Str) (sp:Sp):Prop :=
 ∃ (f:Addr) (fd:FuncData),mg x=some (.ref f)/\PySem.W.keepIn K (.ref f)=true/\Binds K fd ps []/\zkl P w K mg base (CXe P w) k f fd ps sp
section
variable {X:Cx} {k j:Nat} {ps:List Str} {sp:Sp} {E:XK} {x:Str} {p pos:Pos} {e:Expr} {es:List Expr} {t:TA}
theorem zfk (c:Callee X.prog X.w X.K X.mg X.base x k ps sp) (hr:zcT j X.A) (hg:Gl X x) (hx:Passes (CXe X.prog X.w) X E) (ha:PA X (e :: es) t) (hj:k<=j:=by decide) (hdb:(x == ("__debug__":Str))=false:=by decide)
  (he:starEach (e :: es) X.env=(false,eval e X.env) :: starEach es X.env:=by rfl) (hpl:(backTo pos (starEach es X.env)).any (·.1)=false:=by rfl):PE X (.Call (.Name x p) (e :: es) [] pos) (ztg sp [] E t):=by
 obtain ⟨f,fd,hm,hk,hb,F⟩:=c
 exact ztK F (hr.mono hj) hg hm hk hb .nil hx ha hdb he hpl
end
end L2
namespace L2
open PySem PySem.Spec PyProof.Rows
end L2
namespace L2
open PySem PySem.Spec PyProof.Rows
end L2
namespace L2
open PySem PySem.Spec PyProof.Rows
theorem zbj.upd {H:Hp} {l:Addr} {o:HO} (h:H l=none):zbj H (upd H l o):=fun b u e=>by rw [zau (zbR e h)];exact e
end L2
namespace L2
open PySem PySem.Spec PyProof.Rows
end L2
namespace L2
open PySem PySem.Spec PyProof.Rows
end L2
namespace L2
open PySem PySem.Spec PyProof.Rows
section
variable {X:Cx} {pins:List (Addr × Obj)} {σ:List (Option V)} {H H':Hp} {s:Shared} {h':Heap}
theorem Inv.zhh {t':Nat} {fp:List Addr} (I:Inv X pins σ H s) (k:∀ b o,b ∉ fp->s.heap.get? b=some o->h'.get? b=some o) (hf:∀ b ∈ fp,zmG X pins H b):Inv X pins σ H { s with heap:=h',toks:=t' }:=by
 have nit:∀ b u,H b=some u->b ∉ fp:=fun b u e z=>by
  have:=(hf b z).1
  rw [e] at this
  cases this
 have hL:X.env.locals ∉ fp:=fun z=>(hf _ z).2.1 rfl
 refine I.step (g':=s.gens) (d':=s.drawn) (ch:=fp) (fun b hb=>?_) (fun b o _ _ hc e _=>k b o hc e) (fun b o _ _ hc e _=>⟨o.slots,k b o hc e⟩) (fun _ _ _ _ n=>n)
  (fun b o hc e=>⟨o,k b o hc e⟩) (fun _ _ e=>e) (fun _ _ _ e=>e) (fun b ps e=>⟨#[],by rw [e];simp⟩) (fun m hm=>?_) (fun b u e=>?_) I.bare
 ·obtain ⟨_,h1,_,h3,h4,h5⟩:=hf b hb
  exact ⟨h3,h1,h4,h5⟩
 ·obtain ⟨o,es,ep,ho,r⟩:=hm
  exact ⟨o,es,ep,k _ o hL ho,r⟩
 ·refine (I.hok b u e).stay (fun c v hc q=>k c v ?_ q) (fun _ q=>q) fun _ _ q=>q
  rcases hc with z | z
  ·rw [z];exact nit b u e
  ·exact nit c _ z
theorem Inv.zoA {t':Nat} {fp:List Addr} {xs:List V} {us:List Value} {n:Nat} (I:Inv X pins σ H s) (k:∀ b o,b ∉ fp->s.heap.get? b=some o->h'.get? b=some o) (hf:∀ b ∈ fp,zmG X pins H b) (hfp:∀ b ∈ fp,b < s.heap.objs.size)
  (ht:h'.get? s.heap.objs.size=some { cls:=.type "tuple",data:=.seq us.toArray n }) (r:Vals xs us) (hz:xs.length<=sizeLine) :
  Inv X pins σ (upd H s.heap.objs.size (.tup xs)) { s with heap:=h',toks:=t' }:=by
 have I1:Inv X pins σ (upd H s.heap.objs.size (.tup xs)) { s with heap:=s.heap.push { cls:=.type "tuple",data:=.seq us.toArray n },toks:=s.toks } :=
  I.laid (t':=s.toks) (fun b u e=>Heap.get?_push_of_some _ e) (Nat.le_refl _) ⟨hz,us,r,⟨_,Heap.get?_push_size _ rfl,rfl,_,rfl⟩⟩
 refine Inv.zhh (s:={ s with heap:=s.heap.push { cls:=.type "tuple",data:=.seq us.toArray n },toks:=s.toks }) (t':=t') (fp:=fp) I1 (fun b o hb e=>?_) fun b hb=>⟨by rw [zau (Nat.ne_of_lt (hfp b hb))];exact (hf b hb).1,(hf b hb).2⟩
 by_cases hbs:b=s.heap.objs.size
 ·subst hbs
  have e':(s.heap.push { cls:=.type "tuple",data:=.seq us.toArray n }).get? s.heap.objs.size=some o:=e
  rw [Heap.get?_push_size _ rfl] at e'
  cases e'
  exact ht
 ·refine k b o hb ?_
  have e':(s.heap.push { cls:=.type "tuple",data:=.seq us.toArray n }).get? b=some o:=e
  have lt:b < (s.heap.push { cls:=.type "tuple",data:=.seq us.toArray n }).objs.size:=Heap.lt_size e'
  rw [Heap.size_push] at lt
  have lt':b < s.heap.objs.size:=Nat.lt_of_le_of_ne (Nat.le_of_lt_succ lt) hbs
  unfold Heap.get? at e' ⊢
  unfold Heap.push at e'
  simp only at e'
  rw [Array.getElem?_push_lt lt'] at e'
  rw [Array.getElem?_eq_getElem lt']
  exact e'
end
def Itz (K:PySem.W.Frag) (a b:Addr):It :=
 ⟨fun i H=>∃ xs ys x y,SqL K H a xs/\SqL K H b ys/\xs[i]?=some x/\ys[i]?=some y,
  fun i H x H'=>∃ t u v,x=.ref t/\H t=none/\H'=upd H t (.tup [u,v])/\(∀ xs,SqL K H a xs->xs[i]?=some u)/\∀ ys,SqL K H b ys->ys[i]?=some v,
  fun i H=>∃ xs ys,SqL K H a xs/\SqL K H b ys/\(xs.length<=i\/ys.length<=i)⟩
def tnZ (z TI TO i1 i2 a b:Addr) (i:Nat) (h:Heap):Prop:=IsZip h z TI TO .none/\IsPair h TI (.ref i1) (.ref i2)/\(∃ u v,IsPair h TO u v)/\h.IsListIter i1 a i/\h.IsListIter i2 b i
theorem zqS {P:Program} {w:World} {K:PySem.W.Frag} {es:List Expr} {k:Nat} {pos:Pos} (z TI TO i1 i2 a b:Addr) (D:ZipApart z TI TO i1 i2 a b):Turn P w K (.Tuple es k pos) (Itz K a b) [z,TI,TO,i1,i2] z (tnZ z TI TO i1 i2 a b) where
 mem:=by simp
 obj:=fun i h st c hc=>by
  obtain ⟨h1,h2,⟨u,v,h3⟩,⟨o4,h4,_,d4⟩,⟨o5,h5,_,d5⟩⟩:=st
  simp only [List.mem_cons,List.not_mem_nil,or_false] at hc
  rcases hc with rfl | rfl | rfl | rfl | rfl
  ·exact ⟨_,h1,fun v z=>by cases z⟩
  ·exact ⟨_,h2,fun v z=>by cases z⟩
  ·exact ⟨_,h3,fun v z=>by cases z⟩
  ·exact ⟨_,h4,fun v z=>by rw [d4] at z;cases z⟩
  ·exact ⟨_,h5,fun v z=>by rw [d5] at z;cases z⟩
 keep:=fun i h h' st k=>by
  obtain ⟨h1,h2,⟨u,v,h3⟩,h4,h5⟩:=st
  exact ⟨k _ (by simp) _ h1,k _ (by simp) _ h2,⟨u,v,k _ (by simp) _ h3⟩,h4.at fun o e=>k _ (by simp) o e,h5.at fun o e=>k _ (by simp) o e⟩
 item:=by
  intro X hP hw hK hc i pins s σ H E I hf st hg
  subst hP hw hK
  obtain ⟨xs,ys,x,y,hqx,hqy,hx,hy⟩:=hg
  obtain ⟨itx,rvx,px,_⟩:=I.list hqx
  obtain ⟨ity,rvy,py,_⟩:=I.list hqy
  obtain ⟨ux,hux,rux⟩:=rvx.get hx
  obtain ⟨uy,huy,ruy⟩:=rvy.get hy
  obtain ⟨h1,h2,⟨u,v,h3⟩,h4,h5⟩:=id st
  have lts:∀ c ∈ [z,TI,TO,i1,i2],c < s.heap.objs.size:=fun c hc=>by
   obtain ⟨o4,e4,_⟩:=id h4
   obtain ⟨o5,e5,_⟩:=id h5
   simp only [List.mem_cons,List.not_mem_nil,or_false] at hc
   rcases hc with rfl | rfl | rfl | rfl | rfl
   ·exact Heap.lt_size h1
   ·exact Heap.lt_size h2
   ·exact Heap.lt_size h3
   ·exact Heap.lt_size e4
   ·exact Heap.lt_size e5
  refine wpAny_pyNext_zip_item D h1 h2 h3 h4 h5 px.isList py.isList (by simpa using hux) (by simpa using huy) fun h' a1 a2 a3 a4 a5 a6 hk=>?_
  refine ⟨_,rfl,wpAny_letOwnedTupleGo_zip a1 fun h'' b1 sb=>?_⟩
  have zlt:=lts z (by simp)
  have k2:∀ c o,c ∉ [z,TI,TO,i1,i2]->s.heap.get? c=some o->h''.get? c=some o:=fun c o hc e=>by
   simp only [List.mem_cons,List.not_mem_nil,or_false,not_or] at hc
   exact sb.extBut c o hc.1 (hk c o hc.1 hc.2.2.1 hc.2.2.2.1 hc.2.2.2.2 e)
  have ht:h''.get? s.heap.objs.size=some { cls:=.type "tuple",data:=.seq #[ux,uy] }:=sb.extBut _ _ (Nat.ne_of_gt zlt) a5
  refine ⟨.ref s.heap.objs.size,_,Inv.zoA (s:=s) (h':=h'') (t':=s.toks) (fp:=[z,TI,TO,i1,i2]) I (xs:=[x,y]) (us:=[ux,uy]) k2 hf lts ht (.cons rux (.cons ruy .nil)) (by rw [sizeLine_eq];show 2<=16777216;decide),rfl,
   ⟨_,x,y,rfl,I.hok.fresh (Nat.le_refl _),rfl,fun zs hz=>by rw [I.zgU hz hqx];exact hx,fun zs hz=>by rw [I.zgU hz hqy];exact hy⟩,?_,fun c hc=>?_⟩
  ·exact ⟨b1,sb.extBut _ _ D.TIz (hk _ _ D.TIz D.TITO D.TIi1 D.TIi2 h2),⟨_,_,sb.extBut _ _ D.TOz a2⟩,a3.extBut sb.extBut D.i1z,a4.extBut sb.extBut D.i2z⟩
  ·rw [zau (Nat.ne_of_lt (lts c hc))]
   exact (hf c hc).1
 done:=by
  intro X hP hw hK hc i pins s σ H E I hf st hg
  subst hP hw hK
  obtain ⟨xs,ys,hqx,hqy,hend⟩:=hg
  obtain ⟨itx,rvx,px,_⟩:=I.list hqx
  obtain ⟨ity,rvy,py,_⟩:=I.list hqy
  obtain ⟨h1,h2,⟨u,v,h3⟩,h4,h5⟩:=id st
  have lx:=rvx.length
  have ly:=rvy.length
  refine wpAny_pyNext_zip_end (I.ok.hd hc) D h1 h2 h3 h4 h5 px.isList py.isList ?_ fun h' hk=>⟨rfl,I.zhh (t':=s.toks) (fun c o hc e=>?_) hf⟩
  ·rcases hend with h | h
   ·exact .inl (by simp;omega)
   ·exact .inr (by simp;omega)
  ·simp only [List.mem_cons,List.not_mem_nil,or_false,not_or] at hc
   exact hk c o hc.1 hc.2.2.1 hc.2.2.2.1 hc.2.2.2.2 e
 self:=fun _ _ _ _ _ st h=>wpAny_pyIter_zip st.1 h
section
variable {X:Cx}
def zyB (K:PySem.W.Frag) (ta:TA):TI:=fun σ H R=>ta σ H fun vs H1=>∃ a b,vs=[.ref a,.ref b]/\(∃ xs,SqL K H1 a xs)/\(∃ ys,SqL K H1 b ys)/\R (Itz K a b) H1
theorem zvn {es:List Expr} {k:Nat} {p0:Pos} {a b:Expr} {ta:TA} {p pos:Pos} (hg:Gl X "zip") (hm:X.mg "zip"=none) (ha:PA X [a,b] ta) (hs:starEach [a,b] X.env=[(false,eval a X.env),(false,eval b X.env)]:=by rfl) (hs2:starEach [b] X.env=[(false,eval b X.env)]:=by rfl) :
  PI X (.Tuple es k p0) (.Call (.Name "zip" p) [a,b] [] pos) (zyB X.K ta):=by
 intro pins s σ H R I h
 refine Call_ (zi4 I hg hm (by decide +kernel:bootBuiltins "zip"=some (.type "zip")) (PyProof.Rows.callWith_type1 (thn (ha pos pins s σ H _ I h) fun us s1 ⟨vs,H1,I1,r1,q1⟩=>?_) (by rw [hs,hs2]) (by rw [hs2];rfl)))
 obtain ⟨l1,l2,e,⟨xs,hx⟩,⟨ys,hy⟩,q⟩:=q1
 subst e
 cases r1 with
 | cons r rr =>
  cases rr with
  | cons r' rr =>
   cases rr
   cases r
   cases r'
   obtain ⟨itx,rvx,px,_⟩:=I1.list hx
   obtain ⟨ity,rvy,py,_⟩:=I1.list hy
   have hl1:Nat.lt l1 s1.heap.objs.size:=by obtain ⟨o,e,_⟩:=px.isList;exact Heap.lt_size e
   have hl2:Nat.lt l2 s1.heap.objs.size:=by obtain ⟨o,e,_⟩:=py.isList;exact Heap.lt_size e
   refine call_zip_2 px.isList py.isList fun h' g1 g2 g3 g4 g5 g6 hk=>?_
   refine wpAny_pyIter_zip g1 ⟨_,[s1.heap.objs.size + 4,s1.heap.objs.size + 2,s1.heap.objs.size + 3,s1.heap.objs.size,s1.heap.objs.size + 1],_,_,H1,rfl,I1.kept (t':=s1.toks) hk,zqS _ _ _ _ _ l1 l2 ?_,⟨g1,g2,⟨_,_,g3⟩,g4,g5⟩,fun c hc=>?_,q⟩
   ·have q1:∀ n:Nat,l1 ≠ s1.heap.objs.size + n:=fun n=>Nat.ne_of_lt (Nat.lt_of_lt_of_le hl1 (Nat.le_add_right _ _))
    have q2:∀ n:Nat,l2 ≠ s1.heap.objs.size + n:=fun n=>Nat.ne_of_lt (Nat.lt_of_lt_of_le hl2 (Nat.le_add_right _ _))
    constructor <;> first | exact q1 _ | exact q2 _ | exact q1 0 | exact q2 0 | exact Nat.ne_of_lt (by omega) | exact Nat.ne_of_gt (by omega)
   ·have hc':s1.heap.objs.size<=c:=by
     simp only [List.mem_cons,List.not_mem_nil,or_false] at hc
     rcases hc with rfl | rfl | rfl | rfl | rfl <;> first | exact Nat.le_add_right _ _ | exact Nat.le_refl _
    exact I1.zrO hc' (I1.hok.fresh hc')
end
def Ite (K:PySem.W.Frag) (a:Addr):It :=
 ⟨fun i H=>∃ xs x,SqL K H a xs/\xs[i]?=some x,fun i H x H'=>∃ t v,x=.ref t/\H t=none/\H'=upd H t (.tup [.int i,v])/\∀ xs,SqL K H a xs->xs[i]?=some v,fun i H=>∃ xs,SqL K H a xs/\xs.length<=i⟩
theorem zoC {P:Program} {w:World} {K:PySem.W.Frag} {es:List Expr} {k:Nat} {pos:Pos} (e it a:Addr) (hne:e ≠ it):Turn P w K (.Tuple es k pos) (Ite K a) [e,it] e (fun i h=>(∃ old,IsEnum h e it i old)/\h.IsListIter it a i) where
 mem:=by simp
 obj:=fun i h st c hc=>by
  obtain ⟨⟨old,h1⟩,⟨o4,h4,_,d4⟩⟩:=st
  simp only [List.mem_cons,List.not_mem_nil,or_false] at hc
  rcases hc with rfl | rfl
  ·exact ⟨_,h1,fun v z=>by cases z⟩
  ·exact ⟨_,h4,fun v z=>by rw [d4] at z;cases z⟩
 keep:=fun i h h' st k=>by
  obtain ⟨⟨old,h1⟩,h4⟩:=st
  exact ⟨⟨old,k _ (by simp) _ h1⟩,h4.at fun o e=>k _ (by simp) o e⟩
 item:=by
  intro X hP hw hK hc i pins s σ H E I hf st hg
  subst hP hw hK
  obtain ⟨xs,x,hqx,hx⟩:=hg
  obtain ⟨itx,rvx,px,_⟩:=I.list hqx
  obtain ⟨ux,hux,rux⟩:=rvx.get hx
  obtain ⟨⟨old,h1⟩,h4⟩:=id st
  have lts:∀ c ∈ [e,it],c < s.heap.objs.size:=fun c hc=>by
   obtain ⟨o4,e4,_⟩:=id h4
   simp only [List.mem_cons,List.not_mem_nil,or_false] at hc
   rcases hc with rfl | rfl
   ·exact Heap.lt_size h1
   ·exact Heap.lt_size e4
  refine wpAny_pyNext_enum_item h1 h4 px.isList (by simpa using hux) hne fun h' a1 a3 a5 a6 hk=>?_
  refine ⟨_,rfl,wpAny_letOwnedTupleGo_enum a1 fun h'' b1 sb=>?_⟩
  have zlt:=lts e (by simp)
  have k2:∀ c o,c ∉ [e,it]->s.heap.get? c=some o->h''.get? c=some o:=fun c o hc g=>by
   simp only [List.mem_cons,List.not_mem_nil,or_false,not_or] at hc
   exact sb.extBut c o hc.1 (hk c o hc.1 hc.2 g)
  have ht:h''.get? s.heap.objs.size=some { cls:=.type "tuple",data:=.seq #[.int i s.toks,ux] }:=sb.extBut _ _ (Nat.ne_of_gt zlt) a5
  refine ⟨.ref s.heap.objs.size,_,Inv.zoA (s:=s) (h':=h'') (t':=s.toks + 1) (fp:=[e,it]) I (xs:=[.int i,x]) (us:=[.int i s.toks,ux]) k2 hf lts ht (.cons ⟨_,rfl⟩ (.cons rux .nil)) (by rw [sizeLine_eq];show 2<=16777216;decide),rfl,
   ⟨_,x,rfl,I.hok.fresh (Nat.le_refl _),rfl,fun zs hz=>by rw [I.zgU hz hqx];exact hx⟩,?_,fun c hc=>?_⟩
  ·exact ⟨⟨_,b1⟩,a3.extBut sb.extBut (Ne.symm hne)⟩
  ·rw [zau (Nat.ne_of_lt (lts c hc))]
   exact (hf c hc).1
 done:=by
  intro X hP hw hK hc i pins s σ H E I hf st hg
  subst hP hw hK
  obtain ⟨xs,hqx,hend⟩:=hg
  obtain ⟨itx,rvx,px,_⟩:=I.list hqx
  obtain ⟨⟨old,h1⟩,h4⟩:=id st
  have lx:=rvx.length
  refine wpAny_pyNext_enum_end (I.ok.hd hc) h1 h4 px.isList (by simp;omega) fun h' hk=>⟨rfl,I.zhh (t':=s.toks) (fun c o hc g=>?_) hf⟩
  simp only [List.mem_cons,List.not_mem_nil,or_false,not_or] at hc
  exact hk c o hc.2 g
 self:=fun _ _ _ _ _ st h=>by
  obtain ⟨⟨old,h1⟩,_⟩:=st
  exact wpAny_pyIter_enum h1 h
section
variable {X:Cx}
def zxv (K:PySem.W.Frag) (ta:TA):TI:=fun σ H R=>ta σ H fun vs H1=>∃ a,vs=[.ref a]/\(∃ xs,SqL K H1 a xs)/\R (Ite K a) H1
theorem ztE {es:List Expr} {k:Nat} {p0:Pos} {a:Expr} {ta:TA} {p pos:Pos} (hg:Gl X "enumerate") (hm:X.mg "enumerate"=none) (ha:PA X [a] ta) (hs:starEach [a] X.env=[(false,eval a X.env)]:=by rfl) :
  PI X (.Tuple es k p0) (.Call (.Name "enumerate" p) [a] [] pos) (zxv X.K ta):=by
 intro pins s σ H R I h
 refine Call_ (zi4 I hg hm (by decide +kernel:bootBuiltins "enumerate"=some (.type "enumerate")) (PyProof.Rows.callWith_type1 (thn (ha pos pins s σ H _ I h) fun us s1 ⟨vs,H1,I1,r1,q1⟩=>?_) hs rfl))
 obtain ⟨l1,e,⟨xs,hx⟩,q⟩:=q1
 subst e
 cases r1 with
 | cons r rr =>
  cases rr
  cases r
  obtain ⟨itx,rvx,px,_⟩:=I1.list hx
  refine call_enumerate_list px.isList fun h' g1 g4 g6 hk=>?_
  refine wpAny_pyIter_enum g1 ⟨_,[s1.heap.objs.size + 1,s1.heap.objs.size],_,_,H1,rfl,I1.kept (t':=s1.toks) hk,zoC _ _ l1 (Nat.succ_ne_self _),⟨⟨_,g1⟩,g4⟩,fun c hc=>?_,q⟩
  have hc':s1.heap.objs.size<=c:=by
   simp only [List.mem_cons,List.not_mem_nil,or_false] at hc
   rcases hc with rfl | rfl <;> first | exact Nat.le_add_right _ _ | exact Nat.le_refl _
  exact I1.zrO hc' (I1.hok.fresh hc')
theorem zr4 {bs:List Bool}:∀ {us:List Value},Vals (bs.map V.bl) us->us=bs.map Value.bool:=by
 induction bs with
 | nil=>intro us h;cases h;rfl
 | cons b r ih =>
  intro us h
  cases h with
  | cons h1 h2 =>
   have:=ih h2
   cases h1
   rw [this]
   rfl
theorem zr2 (hc:X.calm=true):zgd X (.builtin "all") (fun xs H Q=>∃ (a:Addr) (bs:List Bool),xs=[.ref a]/\SqL X.K H a (bs.map V.bl)/\Q (.bl (bs.all id)) H):=by
 intro pins s σ H xs us Q I r h
 obtain ⟨a,bs,rfl,hq,q⟩:=h
 obtain ⟨u,rfl,rx⟩:=vals1 r
 cases rx
 obtain ⟨its,rv,p,hz⟩:=I.list hq
 have e:=zr4 rv
 subst e
 have hne:a ≠ s.heap.objs.size:=by
  obtain ⟨o,eo,_⟩:=p.isList
  exact Nat.ne_of_lt (Heap.lt_size eo)
 have W:=Walks.list (prog:=X.prog) (w:=X.w) (A:=X.A.in1) (show X.A.in1.handled=none from I.ok.hd hc) s.heap.objs.size a hne (bs.map Value.bool).toArray
 refine call_all_walk (wpAny_pyIter_list p.isList ⟨_,_,_,_,_,_,fun i=>bs.getD i true,rfl,W,⟨⟨_,Heap.get?_push_size _ rfl,rfl,rfl⟩,p.isList.push _⟩,?_,fun h' tk hk=>⟨.bl (bs.all id),H,?_,?_,q⟩⟩)
 ·intro i v s' Q' E' hP hQ
  have hP':(bs.map Value.bool)[i]?=some v:=by simpa using hP
  rw [List.getElem?_map] at hP'
  cases e:bs[i]? with
  | none=>rw [e] at hP';cases hP'
  | some b =>
   rw [e] at hP'
   cases hP'
   have:bs.getD i true=b:=by simp [List.getD,e]
   have hQ2:Q' (bs.getD i true) s':=hQ
   rw [this] at hQ2
   exact wpAny_pure hQ2
 ·refine Inv.zhh (s:={ s with heap:=s.heap.push { cls:=.type "list_iterator",data:=.fields #[.ref a,.int 0 0] },toks:=s.toks }) (t':=tk) (fp:=[s.heap.objs.size]) (I.kept (t':=s.toks) fun b o e=>Heap.get?_push_of_some _ e) (fun b o hb e=>hk b o hb e) fun b hb=>?_
  have e:b=s.heap.objs.size:=by simpa using hb
  subst e
  exact I.zrO (Nat.le_refl _) (I.hok.fresh (Nat.le_refl _))
 ·show Value.bool _=Value.bool _
  congr 1
  simp only [List.size_toArray,List.length_map]
  rw [Bool.eq_iff_iff,List.all_eq_true,List.all_eq_true]
  constructor
  ·intro h b hb
   obtain ⟨i,hi,e⟩:=List.getElem_of_mem hb
   have:=h i (List.mem_range.mpr hi)
   simpa [List.getD,hi,e] using this
  ·intro h i hi
   have hi':=List.mem_range.mp hi
   have:=h bs[i] (List.getElem_mem hi')
   simpa [List.getD,hi'] using this
end
end L2
namespace L2
open PySem PySem.Spec PyProof.Rows
theorem zhY:∀ (names:List (Str × NameKind)) (n:Nat) (acc:List (Str × Addr)),cellsFrom n names acc=cellsFrom n names [] ++ acc
 | [],n,acc=>rfl
 | (x,k) :: r,n,acc=>by
  unfold cellsFrom
  split
  ·rw [zhY r (n + 1) ((x,n) :: acc),zhY r (n + 1) [(x,n)]]
   simp
  ·exact zhY r n acc
theorem zj6:∀ (names:List (Str × NameKind)) (n:Nat) (p:Str × Addr),p ∈ cellsFrom n names []->(p.1,NameKind.cell) ∈ names
 | [],n,p,h=>nomatch h
 | (x,k) :: r,n,p,h=>by
  unfold cellsFrom at h
  split at h
  ·rename_i hk
   rw [zhY] at h
   rcases List.mem_append.mp h with h | h
   ·exact List.mem_cons_of_mem _ (zj6 r _ p h)
   ·have e:p=(x,n):=by simpa using h
    have hk':k=.cell:=by simpa using hk
    subst e hk'
    exact List.mem_cons_self ..
  ·exact List.mem_cons_of_mem _ (zj6 r _ p h)
theorem zqj {x:Str}:∀ (names:List (Str × NameKind)) (n:Nat),(x,NameKind.cell) ∈ names->∃ c,(x,c) ∈ cellsFrom n names []
 | (y,k) :: r,n,h=>by
  unfold cellsFrom
  rcases List.mem_cons.mp h with e | h
  ·cases e
   rw [if_pos (by rfl),zhY]
   exact ⟨n,List.mem_append_right _ (List.mem_singleton.mpr rfl)⟩
  ·split
   ·obtain ⟨c,hc⟩:=zqj r (n + 1) h
    exact ⟨c,by rw [zhY];exact List.mem_append_left _ hc⟩
   ·exact zqj r n h
theorem zi1 {α:Type} {x:Str} {c:α}:∀ {l m:List (Str × α)},(l ++ m).lookup x=some c->l.lookup x=some c\/(l.lookup x=none/\m.lookup x=some c)
 | [],m,h=>.inr ⟨rfl,h⟩
 | (y,b) :: r,m,h=>by
  rw [List.cons_append,List.lookup_cons] at h
  rw [List.lookup_cons]
  split at h
  ·exact .inl h
  ·exact zi1 h
theorem zeP {α:Type} {x:Str} {c:α}:∀ {l m:List (Str × α)},m.lookup x=some c->∃ d,(l ++ m).lookup x=some d
 | [],m,h=>⟨c,h⟩
 | (y,b) :: r,m,h=>by
  rw [List.cons_append,List.lookup_cons]
  split
  ·exact ⟨_,rfl⟩
  ·exact zeP h
theorem zdR {α:Type} {x:Str}:∀ {l m:List (Str × α)},l.lookup x=none->(l ++ m).lookup x=m.lookup x
 | [],m,h=>rfl
 | (y,b) :: r,m,h=>by
  rw [List.lookup_cons] at h
  rw [List.cons_append,List.lookup_cons]
  split at h
  ·cases h
  ·exact zdR h
theorem zeO {α:Type} {x:Str}:∀ {l:List (Str × α)},(∀ p ∈ l,p.1 ≠ x)->l.lookup x=none
 | [],_=>rfl
 | (y,b) :: r,h=>by
  rw [List.lookup_cons]
  have:(x == y)=false:=by
   have:=h (y,b) (List.mem_cons_self ..)
   simpa using fun e=>this e.symm
  rw [this]
  exact zeO fun p hp=>h p (List.mem_cons_of_mem _ hp)
def zkG (C:Addr) (scope:Scope):List (Str × Addr):=cellsFrom (C + 1) scope.names []
def zar (X:Cx) (M:List Str) (scope:Scope) (C:Addr) (s₃:Shared) (H₃:Hp) (fp:List Addr):Cx :=
 { X with N:=M,s₀:=s₃,H₀:=H₃,env:=compEnvC scope (zkG C scope ++ zhX X.env.cells scope.names []) C X.env,outer:=X.stack,stack:=X.stack,ex:=fp,fn:=fun x=>scope.names.contains (x,NameKind.cell),pn:=[],xe:=fun _ _=>False }
structure zey (X:Cx) (scope:Scope) (cap:List Str):Prop where
 kind:scope.kind=.function
 cell:∀ y ∈ scope.names,y.2=.free->X.env.kindOf y.1=some .cell
 loc:∀ y ∈ scope.names,y.2=.local->scope.names.lookup y.1=some .local
 cap:∀ x ∈ cap,scope.names.lookup x ≠ some .local/\(x,NameKind.cell) ∉ scope.names
 dis:∀ y ∈ scope.names,y.2=.free->(y.1,NameKind.cell) ∉ scope.names
theorem zkJ {C:Addr} {m:Str->Option Value}:∀ (names:List (Str × NameKind)) {h:Heap},h.Ns C m->(pushCells h names).Ns C m:=fun names h hn=>by
 obtain ⟨o,es,ep,ho,r⟩:=hn
 exact ⟨o,es,ep,pushCells_keeps names h C o ho,r⟩
section
variable {X:Cx} {pins:List (Addr × Obj)} {σ:St} {H:Hp} {s:Shared}
theorem zhB {scope:Scope} {L:List Str} {ix:List Nat} {h':Heap} {fp:List Addr} {t':Nat} (S:zey X scope (zeB X ix)) (I:Inv X pins σ H s) (hf:∀ b ∈ fp,zmG X pins H b) (hfp:∀ b ∈ fp,b < s.heap.objs.size)
  (hix:∀ i ∈ ix,i < X.N.length) (hn:h'.Ns s.heap.objs.size fun _=>none) (hk:∀ b u,s.heap.get? b=some u->h'.get? b=some u) (hcs:CellsOk h' (s.heap.objs.size + 1) (zkG s.heap.objs.size scope)) :
  Inv (zar X (L ++ zeB X ix) scope s.heap.objs.size s H fp) [] (zeA L.length ix σ) H { s with heap:=h',toks:=t' }:=by
 have cl:∀ x c,(zhX X.env.cells scope.names []).lookup x=some c->X.env.cells.lookup x=some c:=fun x c e =>
  zg2 (acc:=[]) (fun p hp=>nomatch hp) (x,c) (PySem.mem_of_lookup e)
 have old:∀ x c,X.env.cells.lookup x=some c->c < s.heap.objs.size:=fun x c e=>by
  obtain ⟨v,q⟩:=I.cell x c e
  exact q.lt
 have own:∀ x c,(zkG s.heap.objs.size scope).lookup x=some c->h'.IsCell c none/\s.heap.objs.size + 1<=c/\(x,NameKind.cell) ∈ scope.names:=fun x c e=>by
  have m:=PySem.mem_of_lookup e
  exact ⟨(hcs.empty x c m).1,(hcs.empty x c m).2,zj6 _ _ _ m⟩
 have al:∀ x c,(zkG s.heap.objs.size scope ++ zhX X.env.cells scope.names []).lookup x=some c->(zkG s.heap.objs.size scope).lookup x=some c\/((zkG s.heap.objs.size scope).lookup x=none/\X.env.cells.lookup x=some c):=fun x c e=>by
  rcases zi1 e with h | ⟨h1,h2⟩
  ·exact .inl h
  ·exact .inr ⟨h1,cl x c h2⟩
 have ownHas:∀ x,(x,NameKind.cell) ∈ scope.names->∃ c,(zkG s.heap.objs.size scope).lookup x=some c:=fun x hx=>by
  obtain ⟨c,hc⟩:=zqj scope.names (s.heap.objs.size + 1) hx
  exact zbA hc
 refine ⟨⟨I.ok.mod,S.kind,I.ok.glob,I.ok.blt,Nat.le_refl _,fun x y c e1 e2=>?_,fun x hx=>?_,fun x c e1 e2=>?_,I.ok.hd,I.ok.frames,.inl rfl,fun b hb=>⟨Nat.ne_of_lt (hfp b hb),fun x c e=>?_⟩,
  fun b o e=>I.bs b o e,Nat.le_trans I.ok.bsz I.sz,fun b o e hb=>?_,fun b hb hz=>?_,I.stack,I.zoM,I.ok.tree,I.ok.sk⟩,
  rfl,I.bare,Un.kept hk,⟨_,hn,fun i x v h1 h2 h3=>?_⟩,fun x c e=>?_,I.hok.fresh (Nat.le_refl _),fun x c e=>?_,fun p hp=>absurd (show p ∈ ([]:List (Addr × Obj)) from hp) (by simp),I.hok.kept hk,?_⟩
 ·rcases al x c e1 with a1 | ⟨_,a1⟩ <;> rcases al y c e2 with a2 | ⟨_,a2⟩
  ·exact name_of_addr hcs.apart (PySem.mem_of_lookup a1) (PySem.mem_of_lookup a2)
  ·exact absurd (old y c a2) (Nat.not_lt.mpr (Nat.le_of_succ_le (own x c a1).2.1))
  ·exact absurd (old x c a1) (Nat.not_lt.mpr (Nat.le_of_succ_le (own y c a2).2.1))
  ·exact I.ok.inj x y c a1 a2
 ·have hx':(relabel scope X.env).names.lookup x=some .cell\/(relabel scope X.env).names.lookup x=some .free:=hx
  have fr:(x,NameKind.cell) ∈ scope.names\/(x,NameKind.free) ∈ scope.names:=by
   rcases hx' with q | q
   ·obtain ⟨k0,_,h2,h3⟩:=za6 (scope:=scope) q
    rcases h3 with rfl | ⟨rfl,_⟩
    ·exact .inl h2
    ·exact .inr h2
   ·obtain ⟨k0,_,h2,h3⟩:=za6 (scope:=scope) q
    rcases h3 with rfl | ⟨_,z⟩
    ·exact .inr h2
    ·cases z
  rcases fr with fr | fr
  ·obtain ⟨c,hc⟩:=ownHas x fr
   show ∃ c,(zkG s.heap.objs.size scope ++ zhX X.env.cells scope.names []).lookup x=some c
   exact zbA (List.mem_append_left _ (PySem.mem_of_lookup hc))
  ·obtain ⟨c,hc⟩:=I.ok.has x (.inl (S.cell _ fr rfl))
   obtain ⟨d,hd⟩:=zbA (zfw (names:=scope.names) (acc:=[]) hc fr)
   exact zeP hd
 ·have hx:(x,NameKind.cell) ∈ scope.names:=by
   have e1':scope.names.contains (x,NameKind.cell)=true:=e1
   simpa using e1'
  rcases al x c e2 with a1 | ⟨a1,_⟩
  ·exact Nat.le_of_succ_le (own x c a1).2.1
  ·obtain ⟨d,hd⟩:=ownHas x hx
   rw [a1] at hd
   cases hd
 ·rcases al x c e with a1 | ⟨_,a1⟩
  ·exact Nat.ne_of_gt (Nat.lt_of_lt_of_le (hfp b hb) (Nat.le_of_succ_le (own x c a1).2.1))
  ·exact (hf b hb).2.2.2.2.1 x c a1
 ·rcases (hf b hb).2.2.2.1 with z | z
  ·exact I.ok.noex b o e z
  ·exact absurd (Heap.lt_size (I.ok.bs b o e).1) (Nat.not_lt.mpr z)
 ·rcases List.mem_cons.mp (I.zoL b hz) with z | z
  ·exact (hf b hb).2.1 z
  ·exact (hf b hb).2.2.1 z
 ·-- a name that is drawn in
  have hi:L.length<=i:=by
   by_cases hi:i < L.length
   ·unfold zeA at h2
    rw [List.getElem?_append_left (by simpa using hi),List.getElem?_replicate,if_pos hi] at h2
    cases h2
   ·omega
  unfold zeA at h2
  rw [List.getElem?_append_right (by simpa using hi),List.length_replicate,List.getElem?_map] at h2
  have h1':(L ++ zeB X ix)[i]?=some x:=h1
  rw [List.getElem?_append_right hi] at h1'
  unfold zeB at h1'
  rw [List.getElem?_map] at h1'
  cases ej:ix[i - L.length]? with
  | none=>rw [ej] at h1';cases h1'
  | some j =>
   rw [ej] at h1' h2
   have hj:j < X.N.length:=hix j (List.mem_of_getElem? ej)
   have e1:X.N[j]?=some x:=by
    have:X.N.getD j ""=x:=Option.some.inj h1'
    rw [<- this]
    simp [List.getD,hj]
   have e2:σ[j]?=some (some v):=by
    have z:(σ[j]?).getD none=some v:=Option.some.inj h2
    cases q:σ[j]? with
    | none=>rw [q] at z;cases z
    | some o=>rw [q] at z;exact congrArg some z
   have hx:x ∈ zeB X ix:=by
    unfold zeB
    refine List.mem_map.mpr ⟨j,List.mem_of_getElem? ej,?_⟩
    exact Option.some.inj h1'
   have h3':(relabel scope X.env).names.lookup x=some .local\/(relabel scope X.env).names.lookup x=some .cell\/(relabel scope X.env).names.lookup x=some .free:=h3
   have fr:(x,NameKind.free) ∈ scope.names:=by
    rcases h3' with q | q | q
    ·obtain ⟨k0,g1,g2,g3⟩:=za6 (scope:=scope) q
     rcases g3 with rfl | ⟨_,z⟩
     ·exact absurd g1 (S.cap x hx).1
     ·cases z
    ·obtain ⟨k0,_,g2,g3⟩:=za6 (scope:=scope) q
     rcases g3 with rfl | ⟨rfl,_⟩
     ·exact absurd g2 (S.cap x hx).2
     ·exact g2
    ·obtain ⟨k0,_,g2,g3⟩:=za6 (scope:=scope) q
     rcases g3 with rfl | ⟨_,z⟩
     ·exact g2
     ·cases z
   have hc:X.env.kindOf x=some .cell:=S.cell _ fr rfl
   obtain ⟨m,_,hl⟩:=I.loc
   obtain ⟨u,ru,lk⟩:=hl j x v e1 e2 (.inr (.inl hc))
   refine ⟨u,ru,?_⟩
   rcases lk with ⟨z,_⟩ | ⟨_,c,ec,ic⟩
   ·rw [hc] at z;cases z
   ·have k3:(relabel scope X.env).names.lookup x=some .cell\/(relabel scope X.env).names.lookup x=some .free:=by
     rcases h3' with q | q | q
     ·obtain ⟨k0,g1,g2,g3⟩:=za6 (scope:=scope) q
      rcases g3 with rfl | ⟨_,z⟩
      ·exact absurd g1 (S.cap x hx).1
      ·cases z
     ·exact .inl q
     ·exact .inr q
    obtain ⟨c',ec'⟩:=zbA (zfw (names:=scope.names) (acc:=[]) ec fr)
    have e3:=cl x c' ec'
    rw [ec] at e3
    cases e3
    obtain ⟨oc,g1,g2⟩:=ic
    have no:(zkG s.heap.objs.size scope).lookup x=none:=zeO fun p hp z=>(S.cap x hx).2 (by rw [<- z];exact zj6 _ _ _ hp)
    exact .inr ⟨k3,c,(zdR no).trans ec',oc,hk _ _ g1,g2⟩
 ·rcases al x c e with a1 | ⟨_,a1⟩
  ·exact ⟨none,(own x c a1).1⟩
  ·obtain ⟨v,oc,g1,g2⟩:=I.cell x c a1
   exact ⟨v,oc,hk _ _ g1,g2⟩
 ·rcases al x c e with a1 | ⟨_,a1⟩
  ·exact I.hok.fresh (Nat.le_of_succ_le (own x c a1).2.1)
  ·exact I.freeC x c a1
 ·show (zeA L.length ix σ).length=(L ++ zeB X ix).length
  unfold zeA zeB
  simp
end
theorem zl7 {M:Model} {A:Around} {E:Value->Shared->Prop} {s:Shared} {scope:Scope} {globals:Addr} {cl:List (Str × Addr)} {qual:Str} {outer:Env} {Q:Env->Shared->Prop}
  (hQ:∀ h',h'.Ns s.heap.objs.size (fun _=>none)->(∀ b u,s.heap.get? b=some u->h'.get? b=some u)->CellsOk h' (s.heap.objs.size + 1) (zkG s.heap.objs.size scope) ->
   Q { scope:=scope,locals:=s.heap.objs.size,globals:=globals,cells:=zkG s.heap.objs.size scope ++ cl,qual:=qual,func:=none,code:=outer.code,frame:=outer.frame,builtins:=outer.builtins } { s with heap:=h' }) :
  wpAny M A (newFunctionEnv scope globals cl [] qual none .none (some outer)) Q E s:=by
 simp only [newFunctionEnv,Option.isSome_some,if_true]
 refine wpAny_bind (wpAny_alloc ?_)
 refine wpAny_bind (wpAny_layCells _ (fun name kind cells=>by cases hkc:kind == NameKind.cell <;> simp [hkc]) _ _ _ _ ?_)
 have ok:=cellsFrom_ok scope.names (s.heap.push { cls:=.type "dict",data:=.dict #[] }) (s.heap.objs.size + 1) [] ⟨fun _ _ hm=>(nomatch hm),List.Pairwise.nil⟩ (by rw [Heap.size_push];exact Nat.le_refl _)
 rw [Heap.size_push] at ok
 rw [show ({ s with heap:=s.heap.push { cls:=.type "dict",data:=.dict #[] } }:Shared).heap.objs.size=s.heap.objs.size + 1 from Heap.size_push ..,zhY]
 refine wpAny_bind ?_
 rw [List.forIn_nil]
 refine wpAny_pure (wpAny_pure ?_)
 exact hQ _ (zkJ _ (Heap.Ns.new ..)) (fun b u e=>pushCells_keeps _ _ _ _ (Heap.get?_push_of_some _ e)) ok
section
variable {X:Cx}
theorem zrp {elt tg iter:Expr} {ifs:List Expr} {scope:Scope} {pos:Pos} {L:List Str} {ix:List Nat} {wi:TI} {g:TG} {tc:TT} {te:TE} (hc:X.calm=true) (S:zey X scope (zeB X ix)) (hix:∀ i ∈ ix,i < X.N.length) (hi:PI X tg iter wi)
  (hg:∀ C s₃ H₃ fp,PG (zar X (L ++ zeB X ix) scope C s₃ H₃ fp) tg g) (hgo:zmF L.length g)
  (ht:∀ C s₃ H₃ fp,PTs (zar X (L ++ zeB X ix) scope C s₃ H₃ fp) ifs tc) (he:∀ C s₃ H₃ fp,PE (zar X (L ++ zeB X ix) scope C s₃ H₃ fp) elt te)
  (hs:∀ x,foldedSetIterable iter X.env x=pure x:=by intro _;rfl) :
  PE X (.ListComp elt [⟨tg,iter,ifs,0⟩] scope pos) (znQ L.length ix wi g tc te):=by
 intro pins s σ H Q I h
 rw [eval_ListComp]
 refine wpAny_comprehension_free (use:=none) rfl hs (zdm fun y hy e=>I.ok.has y.1 (.inl (S.cell y hy e))) S.kind S.loc (thn (hi pins s σ H _ I h) fun xv s1 h1=>thn h1 fun itv s2 h2=>?_)
 obtain ⟨it,fp,tn,J,H2,rfl,I2,T,st2,f2,q⟩:=h2
 have nD:H2 s2.heap.objs.size=none:=I2.hok.fresh (Nat.le_refl _)
 obtain ⟨W,⟨m0,w0⟩,turn⟩:=q _ nD
 generalize hD:s2.heap.objs.size=D at nD w0 turn
 have fD:∀ b ∈ fp,b < D:=fun b hb=>by
  obtain ⟨o,e,_⟩:=T.obj _ _ st2 b hb
  rw [<- hD]
  exact Heap.lt_size e
 have I3:Inv X pins σ (upd H2 D (.lst [])) { s2 with heap:=s2.heap.push { cls:=.type "list",data:=.seq ([]:List Value).toArray },toks:=s2.toks }:=by
  rw [<- hD]
  exact I2.laid (t':=s2.toks) (fun b u e=>Heap.get?_push_of_some _ e) (Nat.le_refl _) ⟨by simp,[],0,.nil,Heap.get?_push_size _ rfl⟩
 refine wpAny_newObj_type (zl7 (fun h₁ hns₁ hsb₁ hcs₁=>?_)) (by show 0<=sizeLine;exact Nat.zero_le _)
 rw [hD]
 have st3:tn 0 (s2.heap.push { cls:=.type "list",data:=.seq ([]:List Value).toArray }):=T.keep _ _ _ st2 fun b hb o e=>Heap.get?_push_of_some _ e
 generalize hp3:s2.heap.push { cls:=.type "list",data:=.seq ([]:List Value).toArray }=h3 at I3 st3 hns₁ hsb₁ hcs₁
 dsimp only at hns₁ hsb₁ hcs₁ ⊢
 have sz3:h3.objs.size=D + 1:=by rw [<- hp3,Heap.size_push,hD]
 have old:∀ b u,h3.get? b=some u->h₁.get? b=some u:=fun b u e=>hsb₁ b u e
 have f3:∀ b ∈ fp,zmG X pins (upd H2 D (.lst [])) b:=fun b hb=>⟨by rw [zau (Nat.ne_of_lt (fD b hb))];exact (f2 b hb).1,(f2 b hb).2⟩
 have I4:=zhB (L:=L) (ix:=ix) (t':=s2.toks) S I3 f3 (fun b hb=>by show b < h3.objs.size;rw [sz3];exact Nat.lt_succ_of_lt (fD b hb)) hix (h':=h₁) hns₁ old hcs₁
 have st4:tn 0 h₁:=T.keep _ _ _ st3 fun b hb o e=>old b o e
 generalize hC:(zar X (L ++ zeB X ix) scope h3.objs.size { s2 with heap:=h3,toks:=s2.toks } (upd H2 D (.lst [])) fp)=Y at I4
 have eEnv:Y.env=compEnvC scope (zkG h3.objs.size scope ++ zhX X.env.cells scope.names []) h3.objs.size X.env:=by rw [<- hC];rfl
 have hcY:Y.calm=true:=by rw [<- hC];exact hc
 have xeY:Y.xe=fun _ _=>False:=by rw [<- hC];rfl
 have eP:Y.prog=X.prog:=by rw [<- hC];rfl
 have eW:Y.w=X.w:=by rw [<- hC];rfl
 have eK:Y.K=X.K:=by rw [<- hC];rfl
 have eA:Y.A=X.A:=by rw [<- hC];rfl
 have gY:PG Y tg g:=by rw [<- hC];exact hg _ _ _ _
 have tY:PTs Y ifs tc:=by rw [<- hC];exact ht _ _ _ _
 have pY:PE Y elt te:=by rw [<- hC];exact he _ _ _ _
 have stat:∀ {H':Hp},(∀ b ∈ fp,H' b=none)->∀ b ∈ fp,zmG Y [] H' b:=fun {H'} hn b hb=>by
  have z1:b ∈ Y.ex:=by rw [<- hC];exact hb
  have zp:Y.pn=[]:=by rw [<- hC];rfl
  refine ⟨hn b hb,(I4.ok.exf b z1).1,I4.ok.exfs b z1,.inl z1,(I4.ok.exf b z1).2,fun p hp=>?_⟩
  rw [zp] at hp
  exact absurd hp (by simp)
 have fin:∀ {H':Hp} {s':Shared},Inv Y [] (zeA L.length ix σ) H' s'->Q (.ref D) H'->compPost (model X.prog X.w) X.A X.xe none (EP X pins σ Q) (.ref D) h3.objs.size (.ok .next) s':=by
  intro H' s' J' qe
  obtain ⟨m,hm,_⟩:=J'.loc
  rw [eEnv] at hm
  refine ⟨m,hm,fun h' sb=>⟨.ref D,H',?_,rfl,qe⟩⟩
  have hfr:H' h3.objs.size=none:=by
   have:=J'.free
   rw [eEnv] at this
   exact this
  have neC:∀ b u,H' b=some u->b ≠ h3.objs.size:=fun b u e z=>by rw [z,hfr] at e;cases e
  have base:Un (frs X.stack) fp (upd H2 D (.lst [])) H' h3 s'.heap:=by
   have:=J'.base
   rw [<- hC] at this
   exact this
  have to':∀ b o,b ≠ h3.objs.size->s'.heap.get? b=some o->h'.get? b=some o:=fun b o hb e=>sb.extBut b o hb e
  have lt3:∀ b o,h3.get? b=some o->b ≠ h3.objs.size:=fun b o e=>Nat.ne_of_lt (Heap.lt_size e)
  have un:Un (frs X.stack) fp (upd H2 D (.lst [])) H' h3 h' :=
   ⟨fun b o e n hb hx=>to' b o (lt3 b o e) (base.keep b o e n hb hx),
    fun b o e n hb hx=>by
    obtain ⟨sl,z⟩:=base.slot b o e n hb hx
    exact ⟨sl,to' _ _ (lt3 b o e) z⟩,
    base.free,
    fun b o e hx=>by
    obtain ⟨o',z⟩:=base.there b o e hx
    exact ⟨o',to' _ _ (lt3 b o e) z⟩,
    base.tups,base.frzs,base.tbls⟩
  have hok:HOk X.prog X.w H' h':=fun b u e=>by
   have z:=J'.hok b u e
   rw [eP,eW] at z
   refine z.stay (fun c v hcv qv=>to' c v ?_ qv) (fun _ qq=>qq) fun _ _ qq=>qq
   rcases hcv with zz | zz
   ·rw [zz];exact neC b u e
   ·exact neC c _ zz
  refine I3.call' (s':={ s' with heap:=h' }) (ch:=fp) ?_ un hok J'.bare fun b hb=>?_
  ·have:=J'.os
   rw [<- hC] at this
   exact this
  ·obtain ⟨_,g1,g2,g3,g4,g5⟩:=f2 b hb
   exact ⟨g3,g1,g4,g5⟩
 have key:∀ s5:Shared,s5={ s2 with heap:=h₁,toks:=s2.toks } ->
   codeAny (model X.prog X.w) X.A (.compLoop (.ListComp elt [⟨tg,iter,ifs,0⟩] scope pos) 0 (.ref it) (.ref D) (compEnvC scope (zkG h3.objs.size scope ++ zhX X.env.cells scope.names []) h3.objs.size X.env))
    (compPost (model X.prog X.w) X.A X.xe none (EP X pins σ Q) (.ref D) h3.objs.size) s5:=by
  rintro s5 rfl
  rw [<- eEnv,<- eP,<- eW,<- eA]
  refine zhS (fun n s'=>∃ i ys H',Inv Y [] (zeA L.length ix σ) H' s'/\tn i s'.heap/\(∀ b ∈ fp,H' b=none)/\W i n ys H') ?_ m0 ⟨0,[],_,?_,st4,fun b hb=>(f3 b hb).1,w0⟩
  ·rintro n s6 ⟨i,ys,H6,I6,st6,fr6,w6⟩
   obtain ⟨hl6,alt⟩:=turn i n ys H6 w6
   rcases alt with ⟨stop,qe⟩ | ⟨go,step⟩
   ·have Td:=T.done Y eP eW eK hcY i [] s6 _ H6 (fun _ _=>False) I6 (stat fr6) st6 stop
    rw [<- eP,<- eW] at Td
    refine wpAny_mono Td (fun r s7 hr7=>?_) fun _ _ f=>f.elim
    obtain ⟨hr,I7⟩:=hr7
    subst hr
    rw [eP,eW,eA]
    exact fin I7 qe
   ·have Ti:=T.item Y eP eW eK hcY i [] s6 _ H6 (fun _ _=>False) I6 (stat fr6) st6 go
    rw [<- eP,<- eW] at Ti
    refine wpAny_mono Ti (fun r s7 hr7=>?_) fun _ _ f=>f.elim
    obtain ⟨u,hr,h7⟩:=hr7
    subst hr
    refine wpAny_mono h7 (fun _ s8 hr8=>?_) fun _ _ f=>f.elim
    obtain ⟨x,H8,I8,r8,y8,st8,fr8⟩:=hr8
    have I8':=I8.pinned (stat fr8) (T.obj _ _ st8)
    have stp:=hgo _ _ _ _ (step x H8 y8)
    refine wpAny_mono (gY _ s8 _ H8 x u _ I8' r8 stp) (fun _ s9 ⟨σ9,H9,I9,⟨k1,k2⟩,q9⟩=>?_) fun _ _ f=>by rw [xeY] at f;exact f.elim
    have weak:∀ {Hz:Hp} {sz:Shared},Inv Y ([] ++ zhr fp s8.heap) σ9 Hz sz->Inv Y [] (zeA L.length ix σ) Hz sz/\tn (i + 1) sz.heap/\∀ b ∈ fp,Hz b=none:=fun {Hz sz} Iz=>by
     refine ⟨Iz.zel.weak k1.symm fun j v e=>?_,T.keep _ _ _ st8 fun b hb o e=>(Iz.pin (b,o) (List.mem_append_right _ (List.mem_append_right _ (zbt hb e)))).1,fun b hb=>?_⟩
     ·by_cases hj:L.length<=j
      ·rw [k2 j hj];exact e
      ·unfold zeA at e
       rw [List.getElem?_append_left (by simpa using Nat.lt_of_not_le hj),List.getElem?_replicate,if_pos (Nat.lt_of_not_le hj)] at e
       cases e
     ·obtain ⟨o,e,d⟩:=T.obj _ _ st8 b hb
      exact (Iz.pin (b,o) (List.mem_append_right _ (List.mem_append_right _ (zbt hb e)))).2.1
    refine wpAny_mono (tY _ s9 σ9 H9 _ I9 q9) (fun ok s10 ⟨H10,I10,q10⟩=>?_) fun _ _ f=>by rw [xeY] at f;exact f.elim
    cases ok with
    | false =>
     have q10':∃ m',m' < n/\W (i + 1) m' ys H10:=q10
     obtain ⟨m',hm',w10⟩:=q10'
     obtain ⟨z1,z2,z3⟩:=weak I10
     exact ⟨m',hm',i + 1,ys,H10,z1,z2,z3,w10⟩
    | true =>
     refine wpAny_mono (pY _ s10 σ9 H10 _ I10 q10) (fun xv s11 ⟨v,H11,I11,r11,hl11,hz11,m',hm',w11⟩=>?_) fun _ _ f=>by rw [xeY] at f;exact f.elim
     refine wpAny_mono (zhu (X:=Y) _ s11 σ9 H11 (.ref D) [v] (.ref D) [xv] (fun _ Hq=>Hq=upd H11 D (.lst (ys ++ [v]))) I11 rfl (.cons r11 .nil) ⟨D,ys,v,rfl,rfl,hl11,hz11,rfl⟩) (fun _ s12 ⟨_,H12,I12,_,e12⟩=>?_) fun _ _ f=>by rw [xeY] at f;exact f.elim
     subst e12
     obtain ⟨z1,z2,z3⟩:=weak I12
     exact ⟨m',hm',i + 1,ys ++ [v],_,z1,z2,z3,w11⟩
  ·exact I4
 exact codeAny_compStart_list (key _ rfl) (T.self _ 0 _ _ _ st4 (key _ rfl))
end
end L2
namespace L2
open PySem PySem.Spec PyProof.Rows
def zb7 (sc scope:Scope) (N:List Str) (ix:List Nat):Bool :=
 (scope.names.all fun y=>(y.2 != .free || sc.names.lookup y.1 == some .cell) && (y.2 != .local || scope.names.lookup y.1 == some .local) && (y.2 != .free || !(scope.names.contains (y.1,NameKind.cell)))) &&
 ((ix.map fun i=>N.getD i "").all fun x=>scope.names.lookup x != some .local && !(scope.names.contains (x,NameKind.cell))) && ix.all (fun i=>decide (i < N.length))
section
variable {X:Cx}
theorem zro {elt tg iter:Expr} {ifs:List Expr} {scope:Scope} {pos:Pos} {wi:TI} {g:TG} {tc:TT} {te:TE} (L:List Str) (ix:List Nat) (M:List Str) (hc:X.calm=true) (hk:scope.kind=.function)
  (hd:zb7 X.env.scope scope X.N ix=true) (hM:M=L ++ ix.map fun i=>X.N.getD i "") (hi:PI X tg iter wi)
  (hg:∀ C s₃ H₃ fp,PG (zar X M scope C s₃ H₃ fp) tg g) (hgo:zmF L.length g)
  (ht:∀ C s₃ H₃ fp,PTs (zar X M scope C s₃ H₃ fp) ifs tc) (he:∀ C s₃ H₃ fp,PE (zar X M scope C s₃ H₃ fp) elt te)
  (hs:∀ x,foldedSetIterable iter X.env x=pure x:=by intro _;rfl) :
  PE X (.ListComp elt [⟨tg,iter,ifs,0⟩] scope pos) (znQ L.length ix wi g tc te):=by
 unfold zb7 at hd
 simp only [Bool.and_eq_true,List.all_eq_true,bne_iff_ne,ne_eq,Bool.or_eq_true,beq_iff_eq,decide_eq_true_eq,Bool.not_eq_true',List.contains_eq_mem,decide_eq_false_iff_not] at hd
 obtain ⟨⟨d1,d2⟩,d3⟩:=hd
 have eM:M=L ++ zeB X ix:=by rw [hM];unfold zeB;rfl
 subst eM
 refine zrp (L:=L) (ix:=ix) hc ⟨hk,fun y hy e=>?_,fun y hy e=>?_,fun x hx=>?_,fun y hy e=>?_⟩ d3 hi hg hgo ht he hs
 ·rcases (d1 y hy).1.1 with z | z
  ·exact absurd e z
  ·exact z
 ·rcases (d1 y hy).1.2 with z | z
  ·exact absurd e z
  ·exact z
 ·unfold zeB at hx
  exact d2 x hx
 ·rcases (d1 y hy).2 with z | z
  ·exact absurd e z
  ·exact z
end
end L2
namespace L2
open PySem PySem.Spec PyProof.Rows
end L2
namespace L2
open PySem PySem.Spec PyProof.Rows
section
variable {X:Cx}
theorem ztz {elt tg iter:Expr} {ifs:List Expr} {scope:Scope} {pos:Pos} {L:List Str} {ix:List Nat} {wi:TI} {g:TG} {tc:TT} {te:TE} {i0:Nat} {x0:Str} {pos' spos:Pos} (hN:X.N.Nodup) (hii:X.N[i0]?=some x0) (hx0:Loc X.env.scope x0) (hf0:X.fn x0=true\/X.env.scope.names.lookup x0=some .local)
  (hsw:swapsWith (.ListComp elt [⟨tg,iter,ifs,0⟩] scope pos) (some (.Name x0 pos')) spos.line X.env=pure true) (hc:X.calm=true) (S:zey X scope (zeB X ix)) (hix:∀ i ∈ ix,i < X.N.length) (hi:PI X tg iter wi)
  (hg:∀ C s₃ H₃ fp,PG (zar X (L ++ zeB X ix) scope C s₃ H₃ fp) tg g) (hgo:zmF L.length g)
  (ht:∀ C s₃ H₃ fp,PTs (zar X (L ++ zeB X ix) scope C s₃ H₃ fp) ifs tc) (he:∀ C s₃ H₃ fp,PE (zar X (L ++ zeB X ix) scope C s₃ H₃ fp) elt te)
  (hs:∀ x,foldedSetIterable iter X.env x=pure x:=by intro _;rfl) :
  PS X (.Assign [.Name x0 pos'] (.ListComp elt [⟨tg,iter,ifs,0⟩] scope pos) spos) (zuW (znQ L.length ix wi g tc te) (zpW i0)):=by
 intro pins s σ H Dn I h
 have h:znQ L.length ix wi g tc te σ H (fun v H1=>Dn.nx (σ.set i0 (some v)) H1):=h
 generalize hQ:(fun v H1=>Dn.nx (σ.set i0 (some v)) H1:VK)=Q at h
 rw [exec_Assign_Name_used _ _ _ _ hsw]
 refine wpAny_bind (wpAny_standAt (wpAny_bind ?_))
 show wpAny _ _ (do let _ <- comprehension (.ListComp elt [⟨tg,iter,ifs,0⟩] scope pos) scope X.env _ (newList []) false (eval iter X.env) (some (assign (.Name x0 pos') X.env))) _ _ s
 refine wpAny_bind (wpAny_mono (wpAny_comprehension_free (use:=some (assign (.Name x0 pos') X.env)) (Q:=fun _ s'=>SP X pins Dn .next s') rfl hs (zdm fun y hy e=>I.ok.has y.1 (.inl (S.cell y hy e))) S.kind S.loc (thn (hi pins s σ H _ I h) fun xv s1 h1=>thn h1 fun itv s2 h2=>?_)) (fun _ s' hq=>wpAny_pure (wpAny_pure hq)) fun _ _ e=>e)
 obtain ⟨it,fp,tn,J,H2,rfl,I2,T,st2,f2,q⟩:=h2
 have nD:H2 s2.heap.objs.size=none:=I2.hok.fresh (Nat.le_refl _)
 obtain ⟨W,⟨m0,w0⟩,turn⟩:=q _ nD
 generalize hD:s2.heap.objs.size=D at nD w0 turn
 have fD:∀ b ∈ fp,b < D:=fun b hb=>by
  obtain ⟨o,e,_⟩:=T.obj _ _ st2 b hb
  rw [<- hD]
  exact Heap.lt_size e
 have I3:Inv X pins σ (upd H2 D (.lst [])) { s2 with heap:=s2.heap.push { cls:=.type "list",data:=.seq ([]:List Value).toArray },toks:=s2.toks }:=by
  rw [<- hD]
  exact I2.laid (t':=s2.toks) (fun b u e=>Heap.get?_push_of_some _ e) (Nat.le_refl _) ⟨by simp,[],0,.nil,Heap.get?_push_size _ rfl⟩
 refine wpAny_newObj_type (zl7 (fun h₁ hns₁ hsb₁ hcs₁=>?_)) (by show 0<=sizeLine;exact Nat.zero_le _)
 rw [hD]
 have st3:tn 0 (s2.heap.push { cls:=.type "list",data:=.seq ([]:List Value).toArray }):=T.keep _ _ _ st2 fun b hb o e=>Heap.get?_push_of_some _ e
 generalize hp3:s2.heap.push { cls:=.type "list",data:=.seq ([]:List Value).toArray }=h3 at I3 st3 hns₁ hsb₁ hcs₁
 dsimp only at hns₁ hsb₁ hcs₁ ⊢
 have sz3:h3.objs.size=D + 1:=by rw [<- hp3,Heap.size_push,hD]
 have old:∀ b u,h3.get? b=some u->h₁.get? b=some u:=fun b u e=>hsb₁ b u e
 have f3:∀ b ∈ fp,zmG X pins (upd H2 D (.lst [])) b:=fun b hb=>⟨by rw [zau (Nat.ne_of_lt (fD b hb))];exact (f2 b hb).1,(f2 b hb).2⟩
 have I4:=zhB (L:=L) (ix:=ix) (t':=s2.toks) S I3 f3 (fun b hb=>by show b < h3.objs.size;rw [sz3];exact Nat.lt_succ_of_lt (fD b hb)) hix (h':=h₁) hns₁ old hcs₁
 have st4:tn 0 h₁:=T.keep _ _ _ st3 fun b hb o e=>old b o e
 generalize hC:(zar X (L ++ zeB X ix) scope h3.objs.size { s2 with heap:=h3,toks:=s2.toks } (upd H2 D (.lst [])) fp)=Y at I4
 have eEnv:Y.env=compEnvC scope (zkG h3.objs.size scope ++ zhX X.env.cells scope.names []) h3.objs.size X.env:=by rw [<- hC];rfl
 have hcY:Y.calm=true:=by rw [<- hC];exact hc
 have xeY:Y.xe=fun _ _=>False:=by rw [<- hC];rfl
 have eP:Y.prog=X.prog:=by rw [<- hC];rfl
 have eW:Y.w=X.w:=by rw [<- hC];rfl
 have eK:Y.K=X.K:=by rw [<- hC];rfl
 have eA:Y.A=X.A:=by rw [<- hC];rfl
 have gY:PG Y tg g:=by rw [<- hC];exact hg _ _ _ _
 have tY:PTs Y ifs tc:=by rw [<- hC];exact ht _ _ _ _
 have pY:PE Y elt te:=by rw [<- hC];exact he _ _ _ _
 have stat:∀ {H':Hp},(∀ b ∈ fp,H' b=none)->∀ b ∈ fp,zmG Y [] H' b:=fun {H'} hn b hb=>by
  have z1:b ∈ Y.ex:=by rw [<- hC];exact hb
  have zp:Y.pn=[]:=by rw [<- hC];rfl
  refine ⟨hn b hb,(I4.ok.exf b z1).1,I4.ok.exfs b z1,.inl z1,(I4.ok.exf b z1).2,fun p hp=>?_⟩
  rw [zp] at hp
  exact absurd hp (by simp)
 have fin:∀ {H':Hp} {s':Shared},Inv Y [] (zeA L.length ix σ) H' s'->Q (.ref D) H'->compPost (model X.prog X.w) X.A X.xe (some (assign (.Name x0 pos') X.env)) (fun _ s'=>SP X pins Dn .next s') (.ref D) h3.objs.size (.ok .next) s':=by
  intro H' s' J' qe
  obtain ⟨m,hm,_⟩:=J'.loc
  rw [eEnv] at hm
  have hfr:H' h3.objs.size=none:=by
   have:=J'.free
   rw [eEnv] at this
   exact this
  have mk:∀ h',Heap.SameBut h3.objs.size s'.heap h'->Inv X pins σ H' { s' with heap:=h' }:=by
   intro h' sb
   have hfr:H' h3.objs.size=none:=by
    have:=J'.free
    rw [eEnv] at this
    exact this
   have neC:∀ b u,H' b=some u->b ≠ h3.objs.size:=fun b u e z=>by rw [z,hfr] at e;cases e
   have base:Un (frs X.stack) fp (upd H2 D (.lst [])) H' h3 s'.heap:=by
    have:=J'.base
    rw [<- hC] at this
    exact this
   have to':∀ b o,b ≠ h3.objs.size->s'.heap.get? b=some o->h'.get? b=some o:=fun b o hb e=>sb.extBut b o hb e
   have lt3:∀ b o,h3.get? b=some o->b ≠ h3.objs.size:=fun b o e=>Nat.ne_of_lt (Heap.lt_size e)
   have un:Un (frs X.stack) fp (upd H2 D (.lst [])) H' h3 h' :=
    ⟨fun b o e n hb hx=>to' b o (lt3 b o e) (base.keep b o e n hb hx),
     fun b o e n hb hx=>by
     obtain ⟨sl,z⟩:=base.slot b o e n hb hx
     exact ⟨sl,to' _ _ (lt3 b o e) z⟩,
     base.free,
     fun b o e hx=>by
     obtain ⟨o',z⟩:=base.there b o e hx
     exact ⟨o',to' _ _ (lt3 b o e) z⟩,
     base.tups,base.frzs,base.tbls⟩
   have hok:HOk X.prog X.w H' h':=fun b u e=>by
    have z:=J'.hok b u e
    rw [eP,eW] at z
    refine z.stay (fun c v hcv qv=>to' c v ?_ qv) (fun _ qq=>qq) fun _ _ qq=>qq
    rcases hcv with zz | zz
    ·rw [zz];exact neC b u e
    ·exact neC c _ zz
   refine I3.call' (s':={ s' with heap:=h' }) (ch:=fp) ?_ un hok J'.bare fun b hb=>?_
   ·have:=J'.os
    rw [<- hC] at this
    exact this
   ·obtain ⟨_,g1,g2,g3,g4,g5⟩:=f2 b hb
    exact ⟨g3,g1,g4,g5⟩
  have I5:Inv X pins σ H' s':=mk s'.heap (Heap.SameBut.refl ..)
  show wpAny _ _ (assign (.Name x0 pos') X.env (.ref D)) _ _ s'
  refine wpAny_assign_Name (zkr (v:=.ref D) I5 hN hii hx0 rfl (fun s'' I6 hh=>?_) hf0)
  obtain ⟨a6,sb6,ha6⟩:=hh
  have neC:a6 ≠ h3.objs.size:=by
   rcases ha6 with z | z
   ·rw [z];exact Nat.ne_of_lt I3.lt
   ·obtain ⟨v6,q6⟩:=I3.cell x0 a6 z
    exact Nat.ne_of_lt q6.lt
  refine ⟨m,hm.sameBut sb6 (Ne.symm neC),fun h'' sb2=>⟨_,H',?_,by rw [<- hQ] at qe;exact qe⟩⟩
  refine Inv.zhh (t':=s''.toks) (fp:=[h3.objs.size]) I6 (fun b o hb e=>sb2.extBut b o (by simpa using hb) e) fun b hb=>?_
  have e:b=h3.objs.size:=by simpa using hb
  subst e
  exact I3.zrO (Nat.le_refl _) hfr
 have key:∀ s5:Shared,s5={ s2 with heap:=h₁,toks:=s2.toks } ->
   codeAny (model X.prog X.w) X.A (.compLoop (.ListComp elt [⟨tg,iter,ifs,0⟩] scope pos) 0 (.ref it) (.ref D) (compEnvC scope (zkG h3.objs.size scope ++ zhX X.env.cells scope.names []) h3.objs.size X.env))
    (compPost (model X.prog X.w) X.A X.xe (some (assign (.Name x0 pos') X.env)) (fun _ s'=>SP X pins Dn .next s') (.ref D) h3.objs.size) s5:=by
  rintro s5 rfl
  rw [<- eEnv,<- eP,<- eW,<- eA]
  refine zhS (fun n s'=>∃ i ys H',Inv Y [] (zeA L.length ix σ) H' s'/\tn i s'.heap/\(∀ b ∈ fp,H' b=none)/\W i n ys H') ?_ m0 ⟨0,[],_,?_,st4,fun b hb=>(f3 b hb).1,w0⟩
  ·rintro n s6 ⟨i,ys,H6,I6,st6,fr6,w6⟩
   obtain ⟨hl6,alt⟩:=turn i n ys H6 w6
   rcases alt with ⟨stop,qe⟩ | ⟨go,step⟩
   ·have Td:=T.done Y eP eW eK hcY i [] s6 _ H6 (fun _ _=>False) I6 (stat fr6) st6 stop
    rw [<- eP,<- eW] at Td
    refine wpAny_mono Td (fun r s7 hr7=>?_) fun _ _ f=>f.elim
    obtain ⟨hr,I7⟩:=hr7
    subst hr
    rw [eP,eW,eA]
    exact fin I7 qe
   ·have Ti:=T.item Y eP eW eK hcY i [] s6 _ H6 (fun _ _=>False) I6 (stat fr6) st6 go
    rw [<- eP,<- eW] at Ti
    refine wpAny_mono Ti (fun r s7 hr7=>?_) fun _ _ f=>f.elim
    obtain ⟨u,hr,h7⟩:=hr7
    subst hr
    refine wpAny_mono h7 (fun _ s8 hr8=>?_) fun _ _ f=>f.elim
    obtain ⟨x,H8,I8,r8,y8,st8,fr8⟩:=hr8
    have I8':=I8.pinned (stat fr8) (T.obj _ _ st8)
    have stp:=hgo _ _ _ _ (step x H8 y8)
    refine wpAny_mono (gY _ s8 _ H8 x u _ I8' r8 stp) (fun _ s9 ⟨σ9,H9,I9,⟨k1,k2⟩,q9⟩=>?_) fun _ _ f=>by rw [xeY] at f;exact f.elim
    have weak:∀ {Hz:Hp} {sz:Shared},Inv Y ([] ++ zhr fp s8.heap) σ9 Hz sz->Inv Y [] (zeA L.length ix σ) Hz sz/\tn (i + 1) sz.heap/\∀ b ∈ fp,Hz b=none:=fun {Hz sz} Iz=>by
     refine ⟨Iz.zel.weak k1.symm fun j v e=>?_,T.keep _ _ _ st8 fun b hb o e=>(Iz.pin (b,o) (List.mem_append_right _ (List.mem_append_right _ (zbt hb e)))).1,fun b hb=>?_⟩
     ·by_cases hj:L.length<=j
      ·rw [k2 j hj];exact e
      ·unfold zeA at e
       rw [List.getElem?_append_left (by simpa using Nat.lt_of_not_le hj),List.getElem?_replicate,if_pos (Nat.lt_of_not_le hj)] at e
       cases e
     ·obtain ⟨o,e,d⟩:=T.obj _ _ st8 b hb
      exact (Iz.pin (b,o) (List.mem_append_right _ (List.mem_append_right _ (zbt hb e)))).2.1
    refine wpAny_mono (tY _ s9 σ9 H9 _ I9 q9) (fun ok s10 ⟨H10,I10,q10⟩=>?_) fun _ _ f=>by rw [xeY] at f;exact f.elim
    cases ok with
    | false =>
     have q10':∃ m',m' < n/\W (i + 1) m' ys H10:=q10
     obtain ⟨m',hm',w10⟩:=q10'
     obtain ⟨z1,z2,z3⟩:=weak I10
     exact ⟨m',hm',i + 1,ys,H10,z1,z2,z3,w10⟩
    | true =>
     refine wpAny_mono (pY _ s10 σ9 H10 _ I10 q10) (fun xv s11 ⟨v,H11,I11,r11,hl11,hz11,m',hm',w11⟩=>?_) fun _ _ f=>by rw [xeY] at f;exact f.elim
     refine wpAny_mono (zhu (X:=Y) _ s11 σ9 H11 (.ref D) [v] (.ref D) [xv] (fun _ Hq=>Hq=upd H11 D (.lst (ys ++ [v]))) I11 rfl (.cons r11 .nil) ⟨D,ys,v,rfl,rfl,hl11,hz11,rfl⟩) (fun _ s12 ⟨_,H12,I12,_,e12⟩=>?_) fun _ _ f=>by rw [xeY] at f;exact f.elim
     subst e12
     obtain ⟨z1,z2,z3⟩:=weak I12
     exact ⟨m',hm',i + 1,ys ++ [v],_,z1,z2,z3,w11⟩
  ·exact I4
 exact codeAny_compStart_list (key _ rfl) (T.self _ 0 _ _ _ st4 (key _ rfl))
theorem zty {elt tg iter:Expr} {ifs:List Expr} {scope:Scope} {pos:Pos} {wi:TI} {g:TG} {tc:TT} {te:TE} {x0:Str} {pos' spos:Pos} (i0:Nat) (L:List Str) (ix:List Nat) (M:List Str) (hN:X.N.Nodup) (hii:X.N[i0]?=some x0) (hx0:X.env.scope.names.lookup x0=some .local)
  (hsw:swapsWith (.ListComp elt [⟨tg,iter,ifs,0⟩] scope pos) (some (.Name x0 pos')) spos.line X.env=pure true) (hc:X.calm=true) (hk:scope.kind=.function)
  (hd:zb7 X.env.scope scope X.N ix=true) (hM:M=L ++ ix.map fun i=>X.N.getD i "") (hi:PI X tg iter wi)
  (hg:∀ C s₃ H₃ fp,PG (zar X M scope C s₃ H₃ fp) tg g) (hgo:zmF L.length g)
  (ht:∀ C s₃ H₃ fp,PTs (zar X M scope C s₃ H₃ fp) ifs tc) (he:∀ C s₃ H₃ fp,PE (zar X M scope C s₃ H₃ fp) elt te)
  (hs:∀ x,foldedSetIterable iter X.env x=pure x:=by intro _;rfl) :
  PS X (.Assign [.Name x0 pos'] (.ListComp elt [⟨tg,iter,ifs,0⟩] scope pos) spos) (zuW (znQ L.length ix wi g tc te) (zpW i0)):=by
 unfold zb7 at hd
 simp only [Bool.and_eq_true,List.all_eq_true,bne_iff_ne,ne_eq,Bool.or_eq_true,beq_iff_eq,decide_eq_true_eq,Bool.not_eq_true',List.contains_eq_mem,decide_eq_false_iff_not] at hd
 obtain ⟨⟨d1,d2⟩,d3⟩:=hd
 have eM:M=L ++ zeB X ix:=by rw [hM];unfold zeB;rfl
 subst eM
 refine ztz (L:=L) (ix:=ix) hN hii (.inl hx0) (.inr hx0) hsw hc ⟨hk,fun y hy e=>?_,fun y hy e=>?_,fun x hx=>?_,fun y hy e=>?_⟩ d3 hi hg hgo ht he hs
 ·rcases (d1 y hy).1.1 with z | z
  ·exact absurd e z
  ·exact z
 ·rcases (d1 y hy).1.2 with z | z
  ·exact absurd e z
  ·exact z
 ·unfold zeB at hx
  exact d2 x hx
 ·rcases (d1 y hy).2 with z | z
  ·exact absurd e z
  ·exact z
end
end L2
namespace L2
open PySem PySem.Spec PyProof.Rows
def Itd (d:Addr) (o:Obj) (kvs:List (Key × V)):It :=
 ⟨fun i H=>H d=some (.frz o (.dK kvs))/\i < kvs.length,fun i H x H'=>H'=H/\∃ k v,kvs[i]?=some (k,v)/\x=kV k,fun i H=>H d=some (.frz o (.dK kvs))/\kvs.length<=i⟩
theorem zmP {k:Key} {u:Value} (h:zmc k u=true):RelV (kV k) u:=by
 rcases zaY h with ⟨i,t,rfl,rfl⟩ | ⟨x,t,rfl,rfl⟩
 ·exact ⟨t,rfl⟩
 ·exact ⟨t,rfl⟩
theorem KV.len {kvs:List (Key × V)} {vs:List (Key × Value)} (h:KV kvs vs):kvs.length=vs.length:=Paired.length h
theorem zep {α β:Type} {R:α->β->Prop}:∀ {xs:List α} {ys:List β} {i:Nat} {x:α},Paired R xs ys->xs[i]?=some x->∃ y,ys[i]?=some y/\R x y
 | _ :: _,_ :: _,0,_,.cons r _,e=>by
  simp only [List.getElem?_cons_zero,Option.some.injEq] at e
  subst e
  exact ⟨_,rfl,r⟩
 | _ :: _,_ :: _,i + 1,_,.cons _ t,e=>by
  simp only [List.getElem?_cons_succ] at e ⊢
  exact zep t e
 | [],_,_,_,_,e=>by simp at e
theorem zp2 {P:Program} {w:World} {H:Hp} {h:Heap} {d:Addr} {o:Obj} {kvs:List (Key × V)} {es:Array DictEntry} {ep:Nat} (ok:zbx P w H h d (.frz o (.dK kvs))) (hd:o.data=.dict es ep) :
  ∃ vs,KV kvs vs/\h.DictAt (za3 P w) d vs ep/\(d == sysModules)=false:=by
 obtain ⟨e,_,sy,vs,kv,o',es',ep',e',r1,r2,r3⟩:=ok
 rw [e] at e'
 cases e'
 rw [hd] at r2
 cases r2
 exact ⟨vs,kv,⟨o,es,e,r1,hd,r3⟩,sy⟩
theorem zoD {P:Program} {w:World} {K:PySem.W.Frag} {tg:Expr} {o:Obj} {es:Array DictEntry} {ep:Nat} {kvs:List (Key × V)} (d it:Addr) (hdat:o.data=.dict es ep) :
  Turn P w K tg (Itd d o kvs) [it] it (fun i h=>h.IsKeyIter it d i kvs.length ep) where
 mem:=by simp
 obj:=fun i h st b hb=>by
  have e:b=it:=by simpa using hb
  subst e
  obtain ⟨o,e,c,d⟩:=st
  exact ⟨o,e,fun v z=>by rw [d] at z;cases z⟩
 keep:=fun i h h' st k=>st.at fun o e=>k it (by simp) o e
 item:=by
  intro X hP hw hK hc i pins s σ H E I hf st hg
  subst hP hw hK
  obtain ⟨hd,hi⟩:=hg
  obtain ⟨vs,kv,da,_⟩:=zp2 (I.hok d _ hd) hdat
  obtain ⟨⟨k',v'⟩,ev,rk,rv⟩:=zep kv (List.getElem?_eq_getElem hi)
  obtain ⟨f0,f1,f2,f3,f4,f5⟩:=hf it (by simp)
  have st':s.heap.IsKeyIter it d i vs.length ep:=by rw [<- kv.len];exact st
  refine wpAny_pyNext_dict_item st' da ev fun key h' hk st2 sb=>?_
  have I1:Inv X pins σ H { s with heap:=h' }:=I.turned (t':=s.toks) (fun b o hb e=>(sb.2 b hb).trans e) f0 f1 f3 f4 f5
  rw [<- kv.len] at st2
  obtain ⟨o,e,c,dd⟩:=id st2
  exact ⟨key,rfl,zpU (s:={ s with heap:=h' }) e c dd (by decide) ⟨kV k',H,I1,zmP hk,⟨rfl,kvs[i].1,kvs[i].2,List.getElem?_eq_getElem hi,congrArg kV rk.symm⟩,st2,fun b hb=>(hf b hb).1⟩⟩
 done:=by
  intro X hP hw hK hc i pins s σ H E I hf st hg
  subst hP hw hK
  obtain ⟨hd,hi⟩:=hg
  obtain ⟨vs,kv,da,_⟩:=zp2 (I.hok d _ hd) hdat
  obtain ⟨f0,f1,f2,f3,f4,f5⟩:=hf it (by simp)
  have st':s.heap.IsKeyIter it d i vs.length ep:=by rw [<- kv.len];exact st
  exact wpAny_pyNext_dict_end (I.ok.hd hc) st' da (List.getElem?_eq_none (by rw [<- kv.len];exact hi)) fun h' eb=>⟨rfl,I.turned (t':=s.toks) (fun b o hb e=>eb b o hb e) f0 f1 f3 f4 f5⟩
 self:=fun _ _ _ _ _ st h=>wpAny_pyIter_keyiter st h
end L2
namespace L2
open PySem PySem.Spec PyProof.Rows
section
variable {κ:Type} [DecidableEq κ]
def zlL (kvs:List (κ × V)) (k:κ):Option V:=(kvs.find? fun kv=>decide (kv.1=k)).map (·.2)
def putK (kvs:List (κ × V)) (k:κ) (v:V):List (κ × V) :=
 if (kvs.any fun kv=>decide (kv.1=k))=true then kvs.map (fun kv=>if kv.1=k then (kv.1,v) else kv) else kvs ++ [(k,v)]
theorem zfa {p:κ × V} {r:List (κ × V)} {k:κ} (e:p.1=k):zlL (p :: r) k=some p.2:=by simp [zlL,List.find?_cons,e]
theorem zfb {p:κ × V} {r:List (κ × V)} {k:κ} (e:¬ p.1=k):zlL (p :: r) k=zlL r k:=by simp [zlL,List.find?_cons,e]
theorem zmI (k:κ):∀ kvs:List (κ × V),(kvs.any fun kv=>decide (kv.1=k))=(zlL kvs k).isSome
 | []=>rfl
 | p :: r=>by
  rw [List.any_cons]
  by_cases e:p.1=k
  ·simp only [zfa e,decide_eq_true e,Bool.true_or,Option.isSome_some]
  ·rw [zfb e,decide_eq_false e,Bool.false_or];exact zmI k r
theorem zde (kvs:List (κ × V)) (k:κ) (v:V):(putK kvs k v).length<=kvs.length + 1:=by
 unfold putK
 split
 ·rw [List.length_map];omega
 ·rw [List.length_append,List.length_cons,List.length_nil];omega
theorem zqM.zhA {o:Option V} {u:Option Value} (r:zqM o u):o.isSome=u.isSome:=by
 cases o with
 | none=>cases u with
  | none=>rfl
  | some _=>exact (show False from r).elim
 | some _=>cases u with
  | none=>exact (show False from r).elim
  | some _=>rfl
theorem KV.val {kvs:List (κ × V)} {vs:List (κ × Value)} (r:KV kvs vs) (k:κ):zqM (zlL kvs k) (valueAt vs k):=by
 unfold KV at r
 induction r with
 | nil=>exact True.intro
 | @cons p q ps qs h t ih =>
  obtain ⟨h1,h2⟩:=h
  by_cases e:p.1=k
  ·have e':q.1=k:=h1.symm.trans e
   have b:valueAt (q :: qs) k=some q.2:=by simp [valueAt,List.find?_cons,e']
   rw [zfa e,b];exact h2
  ·have e':¬ q.1=k:=fun z=>e (h1.trans z)
   have b:valueAt (q :: qs) k=valueAt qs k:=by simp [valueAt,List.find?_cons,e']
   rw [zfb e,b];exact ih
theorem KV.any {kvs:List (κ × V)} {vs:List (κ × Value)} (r:KV kvs vs) (k:κ):(kvs.any fun kv=>decide (kv.1=k))=vs.any fun kv=>decide (kv.1=k):=by
 unfold KV at r
 induction r with
 | nil=>rfl
 | cons h t ih=>rw [List.any_cons,List.any_cons,ih,h.1]
theorem KV.repl {kvs:List (κ × V)} {vs:List (κ × Value)} (r:KV kvs vs) (k:κ) {y:V} {u:Value} (ry:RelV y u) :
  KV (kvs.map fun kv=>if kv.1=k then (kv.1,y) else kv) (vs.map fun kv=>if kv.1=k then (kv.1,u) else kv):=by
 unfold KV at r ⊢
 induction r with
 | nil=>exact .nil
 | @cons p q ps qs h t ih =>
  rw [List.map_cons,List.map_cons]
  refine .cons ?_ ih
  obtain ⟨h1,h2⟩:=h
  by_cases e:p.1=k
  ·rw [if_pos e,if_pos (h1.symm.trans e)];exact ⟨h1,ry⟩
  ·rw [if_neg e,if_neg (fun z=>e (h1.trans z))];exact ⟨h1,h2⟩
theorem KV.put {kvs:List (κ × V)} {vs:List (κ × Value)} (r:KV kvs vs) (k:κ) {y:V} {u:Value} (ry:RelV y u):KV (putK kvs k y) (stored vs k u):=by
 unfold putK stored
 rw [r.any k]
 by_cases e:(vs.any fun kv=>decide (kv.1=k))=true
 ·rw [if_pos e,if_pos e];exact r.repl k ry
 ·rw [if_neg e,if_neg e];exact Paired.snoc r ⟨rfl,ry⟩
theorem KV.length {kvs:List (κ × V)} {vs:List (κ × Value)} (r:KV kvs vs):kvs.length=vs.length:=Paired.length r
end
theorem zoc {P:Program} {w:World} {k:Key} {u:Value} (r:RelV (kV k) u):(za3 P w).is k u=true:=by
 cases k with
 | inl i=>obtain ⟨t,e⟩:=(show ∃ t,u=Value.int i t from r);subst e;exact zl9 P w i t
 | inr x=>obtain ⟨t,e⟩:=(show ∃ t,u=Value.str x t from r);subst e;exact zl8 P w x t
theorem zk0 {P:Program} {w:World}:∀ {ks:List Key} {us:List Value},Vals (ks.map kV) us->ItemsAre (za3 P w) ks us
 | [],_,r=>by rw [List.map_nil] at r;cases r;exact .nil
 | k :: ks,_,r=>by
  rw [List.map_cons] at r
  cases r with
  | cons h t=>exact .cons (zoc h) (zk0 t)
abbrev KT (H:Hp):List (List Key × V)->List (List Key × Addr × Value)->Prop:=Paired fun p q=>p.1=q.1/\TAt H q.2.1 (p.1.map kV)/\RelV p.2 q.2.2
theorem KT.val {H:Hp} {kvs:List (List Key × V)} {xs:List (List Key × Addr × Value)} (r:KT H kvs xs) (k:List Key):zqM (zlL kvs k) ((atKey xs k).map (·.2)):=by
 induction r with
 | nil=>exact True.intro
 | @cons p q ps qs h t ih =>
  obtain ⟨h1,_,h2⟩:=h
  by_cases e:p.1=k
  ·have e':q.1=k:=h1.symm.trans e
   have b:atKey (q :: qs) k=some q.2:=by simp [atKey,List.find?_cons,e']
   rw [zfa e,b];exact h2
  ·have e':¬ q.1=k:=fun z=>e (h1.trans z)
   have b:atKey (q :: qs) k=atKey qs k:=by simp [atKey,List.find?_cons,e']
   rw [zfb e,b];exact ih
theorem KT.repl {H:Hp} {kvs:List (List Key × V)} {xs:List (List Key × Addr × Value)} (r:KT H kvs xs) (k:List Key) {y:V} {u:Value} (ry:RelV y u) :
  KT H (kvs.map fun kv=>if kv.1=k then (kv.1,y) else kv) (xs.map (putAt k u)):=by
 induction r with
 | nil=>exact .nil
 | @cons p q ps qs h t ih =>
  rw [List.map_cons,List.map_cons]
  refine .cons ?_ ih
  obtain ⟨h1,h2,h3⟩:=h
  unfold putAt
  by_cases e:p.1=k
  ·rw [if_pos e,if_pos (h1.symm.trans e)];exact ⟨h1,h2,ry⟩
  ·rw [if_neg e,if_neg (fun z=>e (h1.trans z))];exact ⟨h1,h2,h3⟩
theorem KT.put {H:Hp} {kvs:List (List Key × V)} {xs:List (List Key × Addr × Value)} (r:KT H kvs xs) (k:List Key) {b:Addr} {y:V} {u:Value} (hb:TAt H b (k.map kV)) (ry:RelV y u) :
  KT H (putK kvs k y) (storedH xs k b u):=by
 have e:(kvs.any fun kv=>decide (kv.1=k))=(atKey xs k).isSome:=by
  rw [zmI,(r.val k).zhA,Option.isSome_map]
 unfold putK storedH
 rw [e]
 by_cases q:(atKey xs k).isSome=true
 ·rw [if_pos q,if_pos q];exact r.repl k ry
 ·rw [if_neg q,if_neg q];exact Paired.snoc r ⟨rfl,hb,ry⟩
theorem KT.keeps {H H':Hp} {kvs:List (List Key × V)} {xs:List (List Key × Addr × Value)} (r:KT H kvs xs) (ht:∀ b ys,TAt H b ys->TAt H' b ys):KT H' kvs xs :=
 Paired.zxm r fun _ _ z=>⟨z.1,ht _ _ z.2.1,z.2.2⟩
section
variable {P:Program} {w:World} {H:Hp} {h:Heap} {a:Addr}
theorem zu5 {u:HO} (ok:HOk P w H h) (e:Rd H a u):zbx P w H h a u:=e.ok ok
theorem zol {kvs:List (Key × V)} (ok:HOk P w H h) (e:Rd H a (.dK kvs)):kvs.length<=sizeLine/\(a == sysModules)=false/\∃ vs,KV kvs vs/\h.DictOf (za3 P w) a vs :=
 show zbx P w H h a (.dK kvs) from zu5 ok e
theorem zul {kvs:List (Key × V)} (ok:HOk P w H h) (e:H a=some (.dK kvs)):kvs.length<=sizeLine/\(a == sysModules)=false/\∃ vs,KV kvs vs/\h.DictOf (za3 P w) a vs:=zol ok (.inl e)
theorem zi5 {ks:List Key} (ok:HOk P w H h) (e:TAt H a (ks.map kV)):(tupleKind (za3 P w)).is h ks a:=by
 obtain ⟨_,its,r,o,h1,h2,n,h3⟩:=(show zbx P w H h a (.tup (ks.map kV)) from Rd.ok e ok)
 exact ⟨o,its.toArray,n,h1,h2,h3,by simpa using zk0 r⟩
theorem zoj {kvs:List (List Key × V)} (ok:HOk P w H h) (e:Rd H a (.dT kvs)):kvs.length<=sizeLine/\(a == sysModules)=false /\
  ∃ xs,KT H kvs xs/\h.DictOfH (tupleKind (za3 P w)) a xs:=by
 obtain ⟨z,y,xs,r,o,es,ep,h1,h2,h3,h4,h5⟩:=(show zbx P w H h a (.dT kvs) from zu5 ok e)
 refine ⟨z,y,xs,r,o,es,ep,h1,h2,h3,h4,fun x hx=>?_,h5⟩
 have all:∀ {l:List (List Key × V)} {m:List (List Key × Addr × Value)},KT H l m->∀ x ∈ m,(tupleKind (za3 P w)).is h x.1 x.2.1:=by
  intro l m q
  induction q with
  | nil=>intro x hx;exact nomatch hx
  | @cons p q ps qs hq t ih =>
   intro x hx
   rcases List.mem_cons.mp hx with e | hx
   ·subst e
    exact zi5 ok (by rw [<- hq.1];exact hq.2.1)
   ·exact ih x hx
 exact all r x hx
theorem zwn {kvs:List (List Key × V)} (ok:HOk P w H h) (e:H a=some (.dT kvs)):kvs.length<=sizeLine/\(a == sysModules)=false /\
  ∃ xs,KT H kvs xs/\h.DictOfH (tupleKind (za3 P w)) a xs:=zoj ok (.inl e)
end
def zwP (H:Hp) (a:Addr) (y:V) (r:Option V):Prop :=
 (∃ kvs k,Rd H a (.dK kvs)/\y=kV k/\r=zlL kvs k)\/∃ kvs k b,Rd H a (.dT kvs)/\y=.ref b/\TAt H b (k.map kV)/\r=zlL kvs k
def zqI (H:Hp) (a:Addr) (y v:V) (H':Hp):Prop :=
 (∃ kvs k,H a=some (.dK kvs)/\y=kV k/\kvs.length < sizeLine/\H'=upd H a (.dK (putK kvs k v))) \/
 ∃ kvs k b,H a=some (.dT kvs)/\y=.ref b/\TAt H b (k.map kV)/\kvs.length < sizeLine/\H'=upd H a (.dT (putK kvs k v))
theorem zqI.k {H:Hp} {a:Addr} {kvs:List (Key × V)} {k:Key} {v:V} (e:H a=some (.dK kvs)) (hl:kvs.length < sizeLine):zqI H a (kV k) v (upd H a (.dK (putK kvs k v))):=.inl ⟨kvs,k,e,rfl,hl,rfl⟩
theorem zqI.t {H:Hp} {a b:Addr} {kvs:List (List Key × V)} {k:List Key} {v:V} (e:H a=some (.dT kvs)) (eb:TAt H b (k.map kV)) (hl:kvs.length < sizeLine) :
  zqI H a (.ref b) v (upd H a (.dT (putK kvs k v))):=.inr ⟨kvs,k,b,e,rfl,eb,hl,rfl⟩
section
variable {X:Cx} {pins:List (Addr × Obj)} {σ:St} {H:Hp} {s:Shared} {a:Addr} {y v:V} {u r:Value} {o:Option V} {A:Around} {E:Value->Shared->Prop}
theorem Inv.big (I:Inv X pins σ H s):sysModules < s.heap.objs.size:=by
 have h:mainGlobals < s.heap.objs.size:=(I.mod.glob.keeps I.bk).lt
 exact Nat.lt_trans (by decide) h
theorem zqf {Q:Value->Shared->Prop} (hu:A.units + 1 < cLine) (I:Inv X pins σ H s) (g:zwP H a y (some v)) (ry:RelV y u) (h:∀ w' s',Inv X pins σ H s'->RelV v w'->Q w' s') :
  wpAny (model X.prog X.w) A (getItem (.ref a) u) Q E s:=by
 rcases g with ⟨kvs,k,e,ey,l⟩ | ⟨kvs,k,b,e,ey,eb,l⟩
 ·subst ey
  obtain ⟨z,hd,vs,rel,dd⟩:=zol I.hok e
  obtain ⟨w',hw,rw'⟩:=zqM.some_of (v:=v) (o:=valueAt vs k) (by rw [l];exact rel.val k)
  exact wpAny_getItem_of (zoc ry) dd.mapOf hw (h w' _ (I.tok _) rw')
 ·subst ey
  cases (show u=Value.ref b from ry)
  obtain ⟨z,hd,xs,rel,dd⟩:=zoj I.hok e
  obtain ⟨w',hw,rw'⟩:=zqM.some_of (v:=v) (o:=(atKey xs k).map (·.2)) (by rw [l];exact rel.val k)
  obtain ⟨p,hp,hp2⟩:=Option.map_eq_some_iff.mp hw
  refine wpAny_getItem_heap (tupleKind_room_in1 hu) (zi5 I.hok eb) dd hp ?_
  rw [hp2]
  exact h w' _ (I.tok _) rw'
theorem zuo {Q:Value->Shared->Prop} (hu:A.units + 1 < cLine) (I:Inv X pins σ H s) (g:zwP H a y o) (ry:RelV y u) (h:∀ s',Inv X pins σ H s'->Q (.bool (!o.isSome)) s') :
  wpAny (model X.prog X.w) A (compareOp .NotIn u (.ref a)) Q E s:=by
 rcases g with ⟨kvs,k,e,ey,l⟩ | ⟨kvs,k,b,e,ey,eb,l⟩
 ·subst ey
  obtain ⟨z,hd,vs,rel,dd⟩:=zol I.hok e
  refine wpAny_notIn_of (zoc ry) hd dd.mapOf ?_
  rw [<- (rel.val k).zhA,<- l]
  exact h _ (I.tok _)
 ·subst ey
  cases (show u=Value.ref b from ry)
  obtain ⟨z,hd,xs,rel,dd⟩:=zoj I.hok e
  refine wpAny_notIn_heap (tupleKind_room_in1 hu) (zi5 I.hok eb) hd dd ?_
  have q:=(rel.val k).zhA
  rw [Option.isSome_map] at q
  rw [<- q,<- l]
  exact h _ (I.tok _)
theorem zf6 {h':Heap} {t':Nat} {ob:HO} (I:Inv X pins σ H s) (mu:Mut (H a)) (hs:Heap.SameBut a s.heap h') (he:∃ q,h'.get? a=some q) (new:zbx X.prog X.w (upd H a ob) h' a ob) :
  Inv X pins σ (upd H a ob) { s with heap:=h',toks:=t' } :=
 I.write (x:=a) (e:=a) mu (.inl rfl) (fun b q hb z=>(hs.2 b hb).trans z) he new
theorem zsY {P:Program} {w:World} {H':Hp} {h':Heap} {kvs:List (Key × V)} {vs:List (Key × Value)} (z:kvs.length<=sizeLine) (hd:(a == sysModules)=false) (rel:KV kvs vs) (dd:h'.DictOf (za3 P w) a vs) :
  zbx P w H' h' a (.dK kvs):=⟨z,hd,vs,rel,dd⟩
theorem zhP {H':Hp} {Q:Unit->Shared->Prop} (hu:A.units + 1 < cLine) (I:Inv X pins σ H s) (g:zqI H a y v H') (ry:RelV y u) (rv:RelV v r) (h:∀ s',Inv X pins σ H' s'->Q () s') :
  wpAny (model X.prog X.w) A (setItem (.ref a) u r) Q E s:=by
 rcases g with ⟨kvs,k,e,ey,l,eH⟩ | ⟨kvs,k,b,e,ey,eb,l,eH⟩
 ·subst ey eH
  obtain ⟨z,hd,vs,rel,dd⟩:=zul I.hok e
  have hz:vs.length<=sizeLine:=by rw [<- rel.length];exact z
  have hl:(putK kvs k v).length<=sizeLine:=by have:=zde kvs k v;omega
  refine wpAny_setItem_pairs (hsz:=hz) (zoc ry) dd fun h' dd' hs=>h _ ?_
  have he:∃ q,h'.get? a=some q:=let ⟨q,_,_,hq,_⟩:=dd';⟨q,hq⟩
  exact zf6 I (by rw [e];exact True.intro) hs he (zsY hl hd (rel.put k rv) dd')
 ·subst ey eH
  cases (show u=Value.ref b from ry)
  obtain ⟨z,hd,xs,rel,dd⟩:=zwn I.hok e
  have hz:xs.length<=sizeLine:=by rw [<- Paired.length rel];exact z
  have hl:(putK kvs k v).length<=sizeLine:=by have:=zde kvs k v;omega
  refine wpAny_setItem_heap (hsz:=hz) (tupleKind_room_in1 hu) (zi5 I.hok eb) dd fun h' dd' hs=>h _ ?_
  obtain ⟨q,es,ep,hq,h2,h3,h4,_,h5⟩:=dd'
  refine zf6 I (by rw [e];exact True.intro) hs ⟨q,hq⟩ ⟨hl,hd,_,(rel.put k eb rv).keeps fun c ys ec=>?_,q,es,ep,hq,h2,h3,h4,h5⟩
  exact ec.upd (fun _ z=>zkK z e (fun z=>nomatch z)) fun _ _ z=>zkK z e (fun z=>nomatch z)
end
theorem zmr {X:Cx} {pins:List (Addr × Obj)} {σ:St} {H:Hp} {s:Shared} {a:Addr} {y:V} {o:Option V} (I:Inv X pins σ H s) (g:zwP H a y o):s.TypeIs (.ref a) "dict":=by
 rcases g with ⟨kvs,k,e,_,_⟩ | ⟨kvs,k,b,e,_,_,_⟩
 ·obtain ⟨_,_,vs,_,dd⟩:=zol I.hok e
  exact dd.typeIs
 ·obtain ⟨_,_,xs,_,dd⟩:=zoj I.hok e
  exact dd.typeIs
theorem zrU {P:Program} {w:World} {H:Hp} (h:Heap) (hb:sysModules < h.objs.size):zbx P w H (h.push { cls:=.type "dict",data:=.dict #[] }) h.objs.size (.dK []) :=
 ⟨Nat.zero_le _,beq_eq_false_iff_ne.mpr (Ne.symm (Nat.ne_of_lt hb)),[],.nil,Heap.DictOf.new h⟩
theorem zrQ {P:Program} {w:World} {H:Hp} (h:Heap) (hb:sysModules < h.objs.size):zbx P w H (h.push { cls:=.type "dict",data:=.dict #[] }) h.objs.size (.dT []) :=
 ⟨Nat.zero_le _,beq_eq_false_iff_ne.mpr (Ne.symm (Nat.ne_of_lt hb)),[],.nil,_,#[],0,Heap.get?_push_size _ rfl,⟨rfl,rfl,rfl⟩,rfl,rfl,List.nodup_nil⟩
def zuT:TE:=fun _ H Q=>∀ p,H p=none->Q (.ref p) (upd H p (.dT []))
section
variable {X:Cx} {pos:Pos}
theorem zrn:PE X (.Dict [] [] pos) zuT:=fun pins s σ H Q I h =>
 wpAny_Dict_empty ⟨.ref s.heap.objs.size,_,I.laid (a:=s.heap.objs.size) (o:=.dT []) (t':=s.toks) (fun _ _ q=>Heap.get?_push_of_some _ q) (Nat.le_refl _) (zrQ s.heap I.big),rfl,h _ (I.hok.fresh (Nat.le_refl _))⟩
end
structure M1 (X:Cx) (o:Expr) (m:Str) (apos:Pos) (e:Expr) (cpos:Pos):Prop where
 base:attributeBase o m X.env (eval o X.env)=eval o X.env
 few:((backTo cpos (starEach [e] X.env)).all (fun x=>!x.1) && (backToKw cpos (keywordEach [] X.env)).all (fun x=>x.1.isSome)
  && decide (([e]:List Expr).length + ([]:List Keyword).length + (if ([]:List Keyword).isEmpty then 0 else 1) < 30))=true
 line:(apos.endLine == cpos.line)=true
 trees:backTo cpos (starEach [e] X.env)=[(false,eval e X.env)]
structure M2 (X:Cx) (o:Expr) (m:Str) (apos:Pos) (e f:Expr) (cpos:Pos):Prop where
 base:attributeBase o m X.env (eval o X.env)=eval o X.env
 few:((backTo cpos (starEach [e,f] X.env)).all (fun x=>!x.1) && (backToKw cpos (keywordEach [] X.env)).all (fun x=>x.1.isSome)
  && decide (([e,f]:List Expr).length + ([]:List Keyword).length + (if ([]:List Keyword).isEmpty then 0 else 1) < 30))=true
 line:(apos.endLine == cpos.line)=true
 trees:backTo cpos (starEach [e,f] X.env)=[(false,eval e X.env),(false,eval f X.env)]
def IsD (H:Hp) (a:Addr):Prop:=(∃ kvs,Rd H a (.dK kvs))\/∃ kvs,Rd H a (.dT kvs)
end L2
namespace L2
open PySem PySem.Spec PyProof.Rows
end L2
namespace L2
open PySem PySem.Spec PyProof.Rows
section
variable {prog:Program} {w:World} {A:Around} {R:Result->Shared->Prop} {s:Shared}
theorem zla {kx vx target iter:Expr} {ifs:List Expr} {scope:Scope} {pos:Pos} {it:Value} {D:Addr} {env:Env} (I:Nat->Shared->Prop)
  (turn:∀ n s,I n s->wpAny (model prog w) A (pyNext it) (fun r s₁=>match r with
   | none=>R (.ok .next) s₁
   | some v=>wpAny (model prog w) A (letOwnedTupleGo target it v) (fun _ s₀=>wpAny (model prog w) A (assign target env v) (fun _ s₂ =>
     wpAny (model prog w) A (forIn ifs true fun c r=>if r=true then do let ok <- isTrue c env (eval c env);pure (ForInStep.yield ok) else pure (ForInStep.yield r)) (fun ok s₃ =>
      if ok=true then wpAny (model prog w) A (eval kx env) (fun kv s₄=>wpAny (model prog w) A (eval vx env) (fun vv s₅ =>
       wpAny (model prog w) A (dictSet D kv vv) (fun _ s₆=>∃ m,m < n/\I m s₆) (notedBy (model prog w) A env fun e s'=>R (.error e) s') s₅) (notedBy (model prog w) A env fun e s'=>R (.error e) s') s₄) (notedBy (model prog w) A env fun e s'=>R (.error e) s') s₃
      else ∃ m,m < n/\I m s₃) (notedBy (model prog w) A env fun e s'=>R (.error e) s') s₂) (notedBy (model prog w) A env fun e s'=>R (.error e) s') s₀) (notedBy (model prog w) A env fun e s'=>R (.error e) s') s₁) (notedBy (model prog w) A env fun e s'=>R (.error e) s') s)
  (n:Nat) (h:I n s):codeAny (model prog w) A (.compLoop (.DictComp kx vx [⟨target,iter,ifs,0⟩] scope pos) 0 it (.ref D) env) R s:=by
 refine codeAny_loop rfl I (fun n s hI=>?_) n h
 show wpAny _ A ((compTurn (.DictComp kx vx [⟨target,iter,ifs,0⟩] scope pos) 0 it (.ref D) env).onRaise (fun x=>do noteFrame x env;theTreesLotGoes x)) _ _ s
 refine wpAny_noted ?_
 rw [compTurn_dict]
 refine wpAny_bind (wpAny_standAt (wpAny_bind (wpAny_mono (turn n s hI) (fun r s₁ h₁=>?_) fun _ _ h'=>h')))
 cases r with
 | none=>exact wpAny_pure h₁
 | some v =>
  refine wpAny_bind (wpAny_mono h₁ (fun _ s₀ h₀=>?_) fun _ _ h'=>h')
  refine wpAny_bind (wpAny_mono h₀ (fun _ s₂ h₂=>wpAny_bind (wpAny_mono h₂ (fun ok s₃ h₃=>?_) fun _ _ h'=>h')) fun _ _ h'=>h')
  cases ok with
  | false=>exact wpAny_pure ⟨rfl,h₃⟩
  | true =>
   exact wpAny_bind (wpAny_bind (wpAny_mono h₃ (fun kv s₄ h₄=>wpAny_bind (wpAny_holding (wpAny_mono h₄ (fun vv s₅ h₅=>wpAny_bind (wpAny_standAt (wpAny_holding (wpAny_mono h₅ (fun _ s₆ h₆=>wpAny_pure ⟨rfl,h₆⟩) fun _ _ h'=>h')))) fun _ _ h'=>h'))) fun _ _ h'=>h'))
end
section
variable {X:Cx} {pins:List (Addr × Obj)} {σ:St} {H:Hp} {s:Shared} {a:Addr} {kvs:List (Key × V)} {k:Key} {v:V} {u r:Value} {A:Around} {E:Value->Shared->Prop}
theorem zxC {Q:Unit->Shared->Prop} (I:Inv X pins σ H s) (e:H a=some (.dK kvs)) (l:kvs.length < sizeLine) (ry:RelV (kV k) u) (rv:RelV v r) (h:∀ s',Inv X pins σ (upd H a (.dK (putK kvs k v))) s'->Q () s') :
  wpAny (model X.prog X.w) A (dictSet a u r) Q E s:=by
 obtain ⟨z,hd,vs,rel,dd⟩:=zul I.hok e
 have hz:vs.length<=sizeLine:=by rw [<- rel.length];exact z
 have hl:(putK kvs k v).length<=sizeLine:=by have:=zde kvs k v;omega
 refine wpAny_dictSet_pairs (hsz:=hz) (zoc ry) dd fun h' dd' hs=>h _ ?_
 have he:∃ q,h'.get? a=some q:=let ⟨q,_,_,hq,_⟩:=dd';⟨q,hq⟩
 exact zf6 I (by rw [e];exact True.intro) hs he (zsY hl hd (rel.put k rv) dd')
end
end L2
namespace L2
open PySem PySem.Spec PyProof.Rows
end L2
namespace L2
open PySem PySem.Spec PyProof.Rows
end L2
namespace L2
open PySem PySem.Spec PyProof.Rows
section
variable {prog:Program} {w:World} {A:Around} {E:Value->Shared->Prop} {s:Shared} {K:Type} [DecidableEq K] {knd:PySem.KeyKind prog w K}
theorem zlc {d:Addr} {kvs:List (K × Value)} {ep:Nat} {Q:List Value->Shared->Prop} (hh:A.handled=none) (sy:(d == sysModules)=false) (hm:s.heap.DictAt knd d kvs ep) (hn:kvs.length<=1000)
  (hQ:∀ s' (acc:Array Value),(∀ b o,s.heap.get? b=some o->s'.heap.get? b=some o)->s'.gens=s.gens->s'.drawn=s.drawn->s'.os=s.os->s.heap.objs.size<=s'.heap.objs.size->ItemsOf (fun i v=>∃ k x,kvs[i]?=some (k,x)/\knd.is k v=true) acc kvs.length->Q acc.toList s') :
  wpAny (model prog w) A (collect (.ref d)) Q E s:=by
 unfold collect
 refine wpAny_bind (wpAny_runValue (codeAny_builtin F.entry_proto_collect ?_))
 rw [Around.under_plainId F.plain_proto_collect _]
 show wpAny _ A.in1 (newList [] >>= fun l=>again (.builtin "list.__iadd__" ⟨[l,.ref d],[]⟩)) _ _ s
 refine wpAny_bind (wpAny_newObj_type ?_)
 refine wpAny_pure ⟨plainId_quiet F.plain_list_iadd _,codeAny_builtin F.entry_list_iadd ?_⟩
 rw [Around.under_plainId F.plain_list_iadd _]
 have dl:=hm.lt_size
 have hm1:=hm.push { cls:=.type "list",data:=.seq ([]:List Value).toArray }
 have hSd:s.heap.objs.size ≠ d:=Nat.ne_of_gt dl
 have h1:Builtin.List.listSameRef (.ref s.heap.objs.size) (.ref d)=false:=by simp [Builtin.List.listSameRef,hSd]
 show wpAny _ A.in1 (Builtin.List.listExtendWith (.ref s.heap.objs.size) (.ref d) (.ref s.heap.objs.size)) _ _ _
 unfold Builtin.List.listExtendWith
 refine wpAny_bind (wpAny_typeOf (s:={ s with heap:=s.heap.push { cls:=.type "list",data:=.seq ([]:List Value).toArray } }) hm1.dictOf.typeIs ?_)
 rw [if_neg (by rw [h1];decide)]
 refine wpAny_bind (wpAny_pyIter_dict (s:={ s with heap:=s.heap.push { cls:=.type "list",data:=.seq ([]:List Value).toArray } }) sy hm1 ?_)
 refine wpAny_bind (wpAny_holding ?_)
 have I2:s.heap.objs.size + 1=(s.heap.push { cls:=.type "list",data:=.seq ([]:List Value).toArray }).objs.size:=(Heap.size_push ..).symm
 have hm2:=hm1.push { cls:=.type "dict_keyiterator",data:=.fields #[.ref d,.int 0 0,.int kvs.length 0,.int ep 0] }
 unfold Builtin.List.listLengthHint
 refine wpAny_bind (wpAny_specialOf hm2.dictOf.typeIs F.slot_dict_len.lookup ?_)
 generalize hid:("dict.__len__":String)=id0
 wp_delta
 rw [show splitId id0=some ("dict","__len__") from by subst hid;decide +kernel]
 subst hid
 refine wpAny_bind (wpAny_isInstance (b:=true) hm2.dictOf.typeIs (by rw [isSubtype_type];kernel_rfl) ?_)
 rw [if_neg (by decide)]
 dsimp only
 rw [if_pos (by decide +kernel)]
 refine wpAny_bind (wpAny_typeOf hm2.dictOf.typeIs ?_)
 refine wpAny_pure ?_
 rw [if_pos (by decide +kernel)]
 refine wpAny_bind (wpAny_rule ?_)
 unfold Builtin.List.listTouch
 have hS0:((s.heap.push { cls:=.type "list",data:=.seq ([]:List Value).toArray }).push { cls:=.type "dict_keyiterator",data:=.fields #[.ref d,.int 0 0,.int kvs.length 0,.int ep 0] }).get? s.heap.objs.size=some (seqObj "list" #[] 0):=Heap.get?_push_of_some _ (Heap.get?_push_size _ rfl)
 refine wpAny_bind (wpAny_bind (listUpdate_at hS0 rfl ?_ (Nat.zero_le _) (by show 1<=sizeLine + 1;omega)))
 have hS1:=get?_update_seq hS0 (·.push .none)
 refine listUpdate_at hS1 rfl ?_ (by show 1<=sizeLine;rw [sizeLine_eq];decide) (by show 0<=sizeLine + 1;omega)
 have hS2:=get?_update_seq hS1 (·.pop)
 have up:∀ b o,b ≠ s.heap.objs.size->((s.heap.push { cls:=.type "list",data:=.seq ([]:List Value).toArray }).push { cls:=.type "dict_keyiterator",data:=.fields #[.ref d,.int 0 0,.int kvs.length 0,.int ep 0] }).get? b=some o ->
   ((((s.heap.push { cls:=.type "list",data:=.seq ([]:List Value).toArray }).push { cls:=.type "dict_keyiterator",data:=.fields #[.ref d,.int 0 0,.int kvs.length 0,.int ep 0] }).update s.heap.objs.size (Obj.mapSeq fun x=>x.push Value.none)).update s.heap.objs.size (Obj.mapSeq fun x=>x.pop)).get? b=some o:=fun b o hb e =>
  (((Heap.SameBut.update ..).2 b hb).trans ((Heap.SameBut.update ..).2 b hb)).trans e
 have hI:((s.heap.push { cls:=.type "list",data:=.seq ([]:List Value).toArray }).push { cls:=.type "dict_keyiterator",data:=.fields #[.ref d,.int 0 0,.int kvs.length 0,.int ep 0] }).get? (s.heap.push { cls:=.type "list",data:=.seq ([]:List Value).toArray }).objs.size=some { cls:=.type "dict_keyiterator",data:=.fields #[.ref d,.int 0 0,.int kvs.length 0,.int ep 0] }:=Heap.get?_push_size _ rfl
 have neI:(s.heap.push { cls:=.type "list",data:=.seq ([]:List Value).toArray }).objs.size ≠ s.heap.objs.size:=by rw [<- I2];omega
 have old:∀ b o,s.heap.get? b=some o->((s.heap.push { cls:=.type "list",data:=.seq ([]:List Value).toArray }).push { cls:=.type "dict_keyiterator",data:=.fields #[.ref d,.int 0 0,.int kvs.length 0,.int ep 0] }).get? b=some o:=fun b o e=>Heap.get?_push_of_some _ (Heap.get?_push_of_some _ e)
 generalize ((((s.heap.push { cls:=.type "list",data:=.seq ([]:List Value).toArray }).push { cls:=.type "dict_keyiterator",data:=.fields #[.ref d,.int 0 0,.int kvs.length 0,.int ep 0] }).update s.heap.objs.size (Obj.mapSeq fun x=>x.push Value.none)).update s.heap.objs.size (Obj.mapSeq fun x=>x.pop))=h5 at hS2 up ⊢
 have st:h5.IsKeyIter (s.heap.push { cls:=.type "list",data:=.seq ([]:List Value).toArray }).objs.size d 0 kvs.length ep:=⟨_,up _ _ neI hI,rfl,rfl⟩
 have da:h5.DictAt knd d kvs ep:=hm2.at' fun o e=>up d o (Ne.symm hSd) e
 generalize hIa:(s.heap.push { cls:=.type "list",data:=.seq ([]:List Value).toArray }).objs.size=Ia at st neI hI ⊢
 have ia:Ia=s.heap.objs.size + 1:=by rw [<- hIa];exact I2.symm
 have ne:d ≠ Ia:=by rw [ia];exact Nat.ne_of_lt (Nat.lt_succ_of_lt dl)
 have nS:s.heap.objs.size ∉ [Ia,d]:=fun h=>by
  rcases List.mem_cons.mp h with c | c
  ·exact neI c.symm
  ·exact hSd (List.mem_singleton.mp c)
 have W:=(Walks.dictKeys (knd:=knd) (A:=A.in1) hh Ia d ne kvs ep).toS
 refine wpAny_pure ⟨plainId_quiet F.plain_extend_loop _,codeAny_extend_loopS W (by rw [sizeLine_eq];omega) s.heap.objs.size nS _ kvs.length 0 _ _ _ rfl (Nat.zero_le _) ⟨st,da⟩ hS2 (ItemsOf.nil _) fun s' acc' c' mv hS' hacc=>?_⟩
 show wpAny _ A (load s.heap.objs.size >>= _) _ _ s'
 refine wpAny_bind (wpAny_load hS' ?_)
 refine wpAny_pure (hQ s' acc' (fun b o e=>?_) mv.gens mv.drawn mv.os (Nat.le_of_lt (Heap.lt_size hS')) hacc)
 have lt:=Heap.lt_size e
 have b1:b ≠ s.heap.objs.size:=Nat.ne_of_lt lt
 have b2:b ≠ Ia:=by rw [ia];exact Nat.ne_of_lt (Nat.lt_succ_of_lt lt)
 refine mv.heap b o (fun h=>?_) (up b o b1 (old b o e))
 rcases List.mem_cons.mp h with c | c
 ·exact b1 c
 ·exact b2 (List.mem_singleton.mp c)
end
end L2
namespace L2
open PySem PySem.Spec PyProof.Rows
theorem ziQ:∀ {us:List Value} {ns:List Int},IntsAre us ns->Vals (ns.map V.int) us
 | _,_,.nil=>.nil
 | _,_,.cons _ _ t=>.cons ⟨_,rfl⟩ (ziQ t)
theorem zlQ:∀ {xs:List V} {us:List Value},xs.length=us.length->(∀ (j:Nat) x u,xs[j]?=some x->us[j]?=some u->RelV x u)->Vals xs us
 | [],[],_,_=>.nil
 | x :: xs,u :: us,l,h=>.cons (h 0 x u rfl rfl) (zlQ (by simpa using l) fun j y v e1 e2=>h (j + 1) y v (by simpa using e1) (by simpa using e2))
end L2
namespace L2
open PySem PySem.Spec PyProof.Rows
end L2
namespace L2
open PySem PySem.Spec PyProof.Rows
end L2
namespace PySem
open Spec
end PySem
namespace L2
open PySem PySem.Spec PyProof.Rows
section
variable {X:Cx} {o i:Expr} {td ty:TE} {pos tpos:Pos}
variable {pins:List (Addr × Obj)} {σ:St} {H:Hp} {s:Shared} {a:Addr}
theorem Inv.kt (I:Inv X pins σ H s) (e:H a=some (.dK [])):Inv X pins σ (upd H a (.dT [])) s:=by
 obtain ⟨z,hd,vs,rel,dd⟩:=zul I.hok e
 have ev:vs=[]:=by cases rel;rfl
 subst ev
 obtain ⟨q,es,ep,hq,h2,h3,h4,h5,h6⟩:=dd
 have:=zf6 (t':=s.toks) I (by rw [e];exact True.intro) (Heap.SameBut.refl a s.heap) ⟨q,hq⟩ (ob:=.dT []) ⟨Nat.zero_le _,hd,[],.nil,q,es,ep,hq,h2,h3,?_,?_⟩
 ·exact this
 ·exact List.eq_nil_of_length_eq_zero (by have:=h5.length;simpa using this)
 ·exact List.nodup_nil
end
end L2
namespace PySem
open Spec
section
variable {prog:Program} {w:World} {A:Around} {E:Value->Shared->Prop} {s:Shared}
structure DEs (h:Heap) (d:Addr) (es:Array DictEntry) (ep:Nat):Prop where
 ex:∃ o,h.get? d=some o/\o.ExactDict/\o.data=.dict es ep
theorem DEs.typ {d:Addr} {es:Array DictEntry} {ep:Nat} (x:DEs s.heap d es ep):s.TypeIs (.ref d) "dict":=by
 obtain ⟨o,ho,hc,_⟩:=x.ex
 exact ⟨o,ho,hc.1⟩
theorem zv5 {d:Addr} {es:Array DictEntry} {ep:Nat} {Q:Value->Shared->Prop} (hd:(d == sysModules)=false) (x:DEs s.heap d es ep)
  (hQ:Q (.ref s.heap.objs.size) { s with heap:=s.heap.push { cls:=.type "dict_keyiterator",data:=.fields #[.ref d,.int 0 0,.int es.size 0,.int ep 0] } }):wpAny (model prog w) A (pyIter (.ref d)) Q E s:=by
 obtain ⟨o,ho,hc,hdat⟩:=x.ex
 have hT:=x.typ
 refine wpAny_pyIter_slot hT F.slot_dict_iter (wpAny_call_entry F.slot_dict_iter hT F.entry_dict_iter ?_ (F.args_dict_iter_1 _))
 unfold Builtin.«dict.__iter__» Builtin.Dict.dictSlotNone
 refine wpAny_bind (wpAny_bind (wpAny_notOrdered_dict hT ?_))
 show wpAny _ _ (pure (Value.ref d)) _ _ s
 refine wpAny_pure ?_
 show wpAny _ _ (Builtin.Dict.showsAll d >>= _) _ _ s
 unfold Builtin.Dict.showsAll
 rw [if_neg (by rw [hd];exact Bool.false_ne_true)]
 refine wpAny_bind (wpAny_pure (wpAny_bind (wpAny_dictEntries ho hdat (wpAny_bind (wpAny_dictEpoch ho hdat ?_)))))
 refine wpAny_bind (wpAny_newObj_type (wpAny_pure ⟨_,rfl,"dict_keyiterator",_,⟨_,Heap.get?_push_size _ rfl,rfl⟩,F.slot_dict_keyiterator_next.lookup,?_⟩))
 simpa [rawInt] using hQ
theorem zvL {it d:Addr} {i ep:Nat} {es:Array DictEntry} {Q:Option Value->Shared->Prop} (hit:s.heap.IsKeyIter it d i es.size ep) (x:DEs s.heap d es ep) (hi:i < es.size)
  (hQ:∀ h',h'.IsKeyIter it d (i + 1) es.size ep->Heap.SameBut it s.heap h'->Q (some es[i].key) { s with heap:=h' }):wpAny (model prog w) A (pyNext (.ref it)) Q E s:=by
 obtain ⟨o,ho,hc,hd⟩:=id hit
 obtain ⟨od,hod,hcd,hdd⟩:=x.ex
 unfold pyNext
 refine wpAny_bind (wpAny_attempt (wpAny_callSpecial?_slot (name:=Str.ofString "__next__") hit.typeIs F.slot_dict_keyiterator_next (wpAny_call_entry F.slot_dict_keyiterator_next hit.typeIs F.entry_dict_keyiterator_next ?_ (F.args_dict_keyiterator_next_1 _))))
 refine wpAny_bind (wpAny_pure (wpAny_bind (wpAny_bind ?_)))
 first | refine wpAny_bind (wpAny_typeNameOfWhole_keyiter hit.typeIs (wpAny_pure ?_)) | refine wpAny_bind (wpAny_typeNameOf_keyiter hit.typeIs (wpAny_pure ?_))
 refine wpAny_bind (wpAny_fieldsOf ho hd ?_)
 have hown:Builtin.Dict_items.ownsTuple "dict_keyiterator"=false:=by decide
 simp only [hown,Bool.false_eq_true,if_false]
 show wpAny _ _ (if (Value.ref d == Value.none)=true then _ else _) _ _ s
 rw [if_neg (show ¬ ((Value.ref d == Value.none)=true) from Bool.false_ne_true)]
 refine wpAny_bind (wpAny_pure (wpAny_bind (wpAny_dictEntries hod hdd ?_)))
 rw [if_neg (by simp)]
 refine wpAny_bind (wpAny_pure (wpAny_bind (wpAny_dictEpoch hod hdd ?_)))
 rw [if_neg (by simp)]
 refine wpAny_pure ?_
 simp only [show ¬ ((i:Int) < 0) from by omega,if_false,Int.toNat_natCast,Array.getElem?_eq_getElem hi]
 refine wpAny_bind ?_
 first | refine wpAny_bind (wpAny_typeNameOfWhole_keyiter hit.typeIs (wpAny_pure ?_)) | refine wpAny_bind (wpAny_typeNameOf_keyiter hit.typeIs (wpAny_pure ?_))
 refine wpAny_bind (wpAny_isOneOf_keyiter hit.typeIs ?_)
 show wpAny _ _ (setField (.ref it) 1 (rawInt ((i:Int) + 1)) >>= _) _ _ s
 refine wpAny_bind (wpAny_setField ho hd (by simp) ?_)
 have hit':(s.heap.update it (Obj.mapFields (·.setIfInBounds 1 (rawInt ((i:Int) + 1))))).IsKeyIter it d (i + 1) es.size ep :=
  ⟨_,Heap.get?_update_self _ ho (Obj.isFreed_of_fields (Obj.data_mapFields hd _)),(Obj.cls_mapFields ..).trans hc,by rw [Obj.data_mapFields hd];simp [rawInt]⟩
 refine wpAny_bind (wpAny_holding (wpAny_bind (wpAny_isOneOf_keyiter (s:={ s with heap:=s.heap.update it (Obj.mapFields (·.setIfInBounds 1 (rawInt ((i:Int) + 1)))) }) hit'.typeIs ?_)))
 show wpAny _ _ (pure es[i].key) _ _ _
 exact wpAny_pure (wpAny_pure ⟨_,rfl,wpAny_pure (hQ _ hit' (Heap.SameBut.update ..))⟩)
theorem zxZ {it d:Addr} {i ep:Nat} {es:Array DictEntry} {Q:Option Value->Shared->Prop} (hh:A.handled=none) (hit:s.heap.IsKeyIter it d i es.size ep) (x:DEs s.heap d es ep) (hge:es.size<=i)
  (hQ:∀ h',Heap.ExtBut it s.heap h'->Q none { s with heap:=h' }):wpAny (model prog w) A (pyNext (.ref it)) Q E s:=by
 obtain ⟨o,ho,hc,hd⟩:=id hit
 obtain ⟨od,hod,hcd,hdd⟩:=x.ex
 unfold pyNext
 refine wpAny_bind (wpAny_attempt (wpAny_callSpecial?_slot (name:=Str.ofString "__next__") hit.typeIs F.slot_dict_keyiterator_next (wpAny_call_entry F.slot_dict_keyiterator_next hit.typeIs F.entry_dict_keyiterator_next ?_ (F.args_dict_keyiterator_next_1 _))))
 refine wpAny_bind (wpAny_pure (wpAny_bind (wpAny_bind ?_)))
 first | refine wpAny_bind (wpAny_typeNameOfWhole_keyiter hit.typeIs (wpAny_pure ?_)) | refine wpAny_bind (wpAny_typeNameOf_keyiter hit.typeIs (wpAny_pure ?_))
 refine wpAny_bind (wpAny_fieldsOf ho hd ?_)
 have hown:Builtin.Dict_items.ownsTuple "dict_keyiterator"=false:=by decide
 simp only [hown,Bool.false_eq_true,if_false]
 show wpAny _ _ (if (Value.ref d == Value.none)=true then _ else _) _ _ s
 rw [if_neg (show ¬ ((Value.ref d == Value.none)=true) from Bool.false_ne_true)]
 refine wpAny_bind (wpAny_pure (wpAny_bind (wpAny_dictEntries hod hdd ?_)))
 rw [if_neg (by simp)]
 refine wpAny_bind (wpAny_pure (wpAny_bind (wpAny_dictEpoch hod hdd ?_)))
 rw [if_neg (by simp)]
 refine wpAny_pure ?_
 simp only [show ¬ ((i:Int) < 0) from by omega,if_false,Int.toNat_natCast,Array.getElem?_eq_none hge]
 refine wpAny_bind ?_
 first | refine wpAny_bind (wpAny_typeNameOfWhole_keyiter hit.typeIs (wpAny_pure ?_)) | refine wpAny_bind (wpAny_typeNameOf_keyiter hit.typeIs (wpAny_pure ?_))
 show wpAny _ _ (setField (.ref it) 0 .none >>= _) _ _ s
 refine wpAny_bind (wpAny_setField ho hd (by simp) ?_)
 show wpAny _ _ (newExc (.type "StopIteration") [] >>= _) _ _ _
 refine wpAny_bind ?_
 simp only [newExc,newTuple]
 refine wpAny_bind (wpAny_newObj_type ?_ (by size_fits))
 refine wpAny_bind (m:=firstArgMember _ _) (wpAny_of_eq (a:=Value.none) (by first | rfl | (simp only [firstArgMember];rfl)) ?_)
 refine wpAny_newObj_type ?_ (by size_fits)
 simp only [raiseNew]
 refine wpAny_bind (wpAny_handled ?_)
 rw [show A.in1.handled=none from hh]
 refine wpAny_bind (wpAny_pure (wpAny_throw ?_))
 refine wpAny_bind (wpAny_isInstance (T:="StopIteration") (b:=true) ⟨_,Heap.get?_push_size _ rfl,rfl⟩ isSubtype_stop ?_)
 exact wpAny_pure (hQ _ (((Heap.SameBut.update ..).extBut.push _).push _))
end
end PySem
namespace L2
open PySem PySem.Spec PyProof.Rows
def zxJ (d:Addr) (o:Obj) (kvs:List (List Key × V)):It :=
 ⟨fun i H=>H d=some (.frz o (.dT kvs))/\i < kvs.length,fun i H x H'=>H'=H/\∃ k v b,kvs[i]?=some (k,v)/\x=.ref b/\TAt H b (k.map kV),fun i H=>H d=some (.frz o (.dT kvs))/\kvs.length<=i⟩
theorem zmo {P:Program} {w:World} {H:Hp} {h:Heap} {d:Addr} {o:Obj} {kvs:List (List Key × V)} {es:Array DictEntry} {ep:Nat} (ok:zbx P w H h d (.frz o (.dT kvs))) (hd:o.data=.dict es ep) :
  ∃ xs,KT H kvs xs/\DEs h d es ep/\es.toList=xs.map (entryOfKey (tupleKind (za3 P w)))/\(d == sysModules)=false:=by
 obtain ⟨e,_,sy,xs,kt,o',es',ep',e',r1,r2,r3,r4⟩:=ok
 rw [e] at e'
 cases e'
 rw [hd] at r2
 cases r2
 exact ⟨xs,kt,⟨o,e,r1,hd⟩,r3,sy⟩
theorem znO {P:Program} {w:World} {K:PySem.W.Frag} {tg:Expr} {o:Obj} {es:Array DictEntry} {ep:Nat} {kvs:List (List Key × V)} (d it:Addr) (hdat:o.data=.dict es ep) :
  Turn P w K tg (zxJ d o kvs) [it] it (fun i h=>h.IsKeyIter it d i es.size ep) where
 mem:=by simp
 obj:=fun i h st b hb=>by
  have e:b=it:=by simpa using hb
  subst e
  obtain ⟨o,e,c,d⟩:=st
  exact ⟨o,e,fun v z=>by rw [d] at z;cases z⟩
 keep:=fun i h h' st k=>st.at fun o e=>k it (by simp) o e
 item:=by
  intro X hP hw hK hc i pins s σ H E I hf st hg
  subst hP hw hK
  obtain ⟨hd,hi⟩:=hg
  obtain ⟨xs,kt,da,he,_⟩:=zmo (I.hok d _ hd) hdat
  have hl:kvs.length=xs.length:=Paired.length kt
  have hsz:es.size=xs.length:=size_of_entries he
  obtain ⟨⟨k',b,v'⟩,ev,rk,rb,rv⟩:=zep kt (List.getElem?_eq_getElem hi)
  obtain ⟨f0,f1,f2,f3,f4,f5⟩:=hf it (by simp)
  have hi':i < es.size:=by omega
  have hk:es[i].key=.ref b:=by
   have:=entry_at he i
   rw [ev,Array.getElem?_eq_getElem hi'] at this
   simp only [Option.map_some,Option.some.injEq] at this
   rw [this]
   rfl
  refine zvL st da hi' fun h' st2 sb=>?_
  have I1:Inv X pins σ H { s with heap:=h' }:=I.turned (t':=s.toks) (fun b o hb e=>(sb.2 b hb).trans e) f0 f1 f3 f4 f5
  obtain ⟨o,e,c,dd⟩:=id st2
  rw [hk]
  exact ⟨.ref b,rfl,zpU (s:={ s with heap:=h' }) e c dd (by decide) ⟨.ref b,H,I1,rfl,⟨rfl,kvs[i].1,kvs[i].2,b,List.getElem?_eq_getElem hi,rfl,rb⟩,st2,fun b hb=>(hf b hb).1⟩⟩
 done:=by
  intro X hP hw hK hc i pins s σ H E I hf st hg
  subst hP hw hK
  obtain ⟨hd,hi⟩:=hg
  obtain ⟨xs,kt,da,he,_⟩:=zmo (I.hok d _ hd) hdat
  have hl:kvs.length=xs.length:=Paired.length kt
  have hsz:es.size=xs.length:=size_of_entries he
  obtain ⟨f0,f1,f2,f3,f4,f5⟩:=hf it (by simp)
  exact zxZ (I.ok.hd hc) st da (by omega) fun h' eb=>⟨rfl,I.turned (t':=s.toks) (fun b o hb e=>eb b o hb e) f0 f1 f3 f4 f5⟩
 self:=fun _ _ _ _ _ st h=>wpAny_pyIter_keyiter st h
end L2
namespace L2
open PySem PySem.Spec PyProof.Rows
theorem zwl {P:Program} {w:World} {H:Hp} {h:Heap} {a:Addr} (ok:HOk P w H h) (e:Rd H a (.dK [])):(a == sysModules)=false/\h.DictOfH (tupleKind (za3 P w)) a []:=by
 obtain ⟨z,hd,vs,rel,dd⟩:=zol ok e
 have ev:vs=[]:=by cases rel;rfl
 subst ev
 obtain ⟨q,es,ep,hq,h2,h3,h4,h5,h6⟩:=dd
 exact ⟨hd,q,es,ep,hq,h2,h3,List.eq_nil_of_length_eq_zero (by have:=h5.length;simpa using this),(fun x hx=>nomatch hx),List.nodup_nil⟩
theorem zsV {P:Program} {w:World} {H:Hp} {h:Heap} {a:Addr} (ok:HOk P w H h) (e:Rd H a (.dT [])):(a == sysModules)=false/\h.DictOf (za3 P w) a []:=by
 obtain ⟨z,hd,xs,rel,dd⟩:=zoj ok e
 have ev:xs=[]:=by cases rel;rfl
 subst ev
 obtain ⟨q,es,ep,hq,h2,h3,h4,h5,h6⟩:=dd
 have he:es=#[]:=by
  apply Array.ext'
  rw [h4];rfl
 subst he
 exact ⟨hd,q,#[],ep,hq,h2,h3,fun e he=>by simp at he,.nil,List.nodup_nil⟩
def DG (H:Hp) (a:Addr) (y:V) (r:Option V):Prop :=
 zwP H a y r\/(r=none/\Rd H a (.dK [])/\∃ (b:Addr) (k:List Key),y=.ref b/\TAt H b (k.map kV))\/(r=none/\Rd H a (.dT [])/\∃ k:Key,y=kV k)
section
variable {X:Cx} {pins:List (Addr × Obj)} {σ:St} {H:Hp} {s:Shared} {a:Addr} {y v d:V} {u r:Value} {o:Option V} {A:Around} {E:Value->Shared->Prop}
theorem zrV {Q:Value->Shared->Prop} (hu:A.units + 1 < cLine) (I:Inv X pins σ H s) (g:DG H a y o) (ry:RelV y u) (h:∀ s',Inv X pins σ H s'->Q (.bool (!o.isSome)) s') :
  wpAny (model X.prog X.w) A (compareOp .NotIn u (.ref a)) Q E s:=by
 rcases g with g | ⟨rfl,e,b,k,rfl,eb⟩ | ⟨rfl,e,k,rfl⟩
 ·exact zuo hu I g ry h
 ·cases (show u=Value.ref b from ry)
  obtain ⟨hd,dd⟩:=zwl I.hok e
  exact wpAny_notIn_heap (tupleKind_room_in1 hu) (zi5 I.hok eb) hd dd (h _ (I.tok _))
 ·obtain ⟨hd,dd⟩:=zsV I.hok e
  exact wpAny_notIn_of (zoc ry) hd dd.mapOf (h _ (I.tok _))
def DP (H:Hp) (a:Addr) (y v:V) (H':Hp):Prop :=
 zqI H a y v H'\/(∃ (k:List Key) (b:Addr),H a=some (.dK [])/\y=.ref b/\TAt H b (k.map kV)/\H'=upd H a (.dT [(k,v)]))\/∃ k:Key,H a=some (.dT [])/\y=kV k/\H'=upd H a (.dK [(k,v)])
theorem Inv.tk (I:Inv X pins σ H s) (e:H a=some (.dT [])):Inv X pins σ (upd H a (.dK [])) s:=by
 obtain ⟨hd,dd⟩:=zsV I.hok (.inl e)
 obtain ⟨q,es,ep,hq,rest⟩:=id dd
 exact zf6 (t':=s.toks) I (by rw [e];exact True.intro) (Heap.SameBut.refl a s.heap) ⟨q,hq⟩ (ob:=.dK []) ⟨Nat.zero_le _,hd,[],.nil,dd⟩
theorem zwo {H':Hp} {Q:Unit->Shared->Prop} (hu:A.units + 1 < cLine) (I:Inv X pins σ H s) (g:DP H a y v H') (ry:RelV y u) (rv:RelV v r) (h:∀ s',Inv X pins σ H' s'->Q () s') :
  wpAny (model X.prog X.w) A (setItem (.ref a) u r) Q E s:=by
 rcases g with g | ⟨k,b,e,rfl,eb,rfl⟩ | ⟨k,e,rfl,rfl⟩
 ·exact zhP hu I g ry rv h
 ·have eb':TAt (upd H a (.dT [])) b (k.map kV):=eb.upd (fun _ z=>zkK z e (fun z=>nomatch z)) fun _ _ z=>zkK z e (fun z=>nomatch z)
  have g:=zqI.t (H:=upd H a (.dT [])) (a:=a) (v:=v) zap eb' (by decide)
  rw [zhc] at g
  exact zhP hu (I.kt e) g ry rv h
 ·have g:=zqI.k (H:=upd H a (.dK [])) (a:=a) (k:=k) (v:=v) zap (by decide)
  rw [zhc] at g
  exact zhP hu (I.tk e) g ry rv h
end
section
variable {X:Cx} {o i e f value:Expr} {apos cpos pos pos':Pos} {td ty tx tv:TE}
def zwY (td ty tv:TE):TS:=fun D σ H=>tv σ H fun v H1=>td σ H1 fun x H2=>ty σ H2 fun y H3=>∃ a H4,x=.ref a/\DP H3 a y v H4/\D.nx σ H4
theorem ztA (hu:X.A.units + 1 < cLine) (ho:PE X o td) (hi:PE X i ty) (hv:PE X value tv) (hs:swapsWith value (some (.Subscript o i pos')) pos.line X.env=pure false) :
  PS X (.Assign [.Subscript o i pos'] value pos) (zwY td ty tv):=by
 intro pins s σ H D I h
 refine wpAny_Assign_Subscript (thn (hv pins s σ H _ I h) fun r s1 ⟨v,H1,I1,rv,q1⟩=>thn (ho pins s1 σ H1 _ I1 q1) fun u s2 ⟨x,H2,I2,rx,q2⟩=>thn (hi pins s2 σ H2 _ I2 q2) fun iv s3 ⟨y,H3,I3,ry,a,H4,ex,g,q3⟩=>?_) hs
 subst ex
 obtain rfl:u=Value.ref a:=rx
 exact zwo hu I3 g ry rv fun s4 I4=>⟨σ,H4,I4,q3⟩
end
end L2
namespace L2
open PySem PySem.Spec PyProof.Rows PySem.W
abbrev gp (p:Array Nat) (i:Nat):Nat:=p.getD i 0
section
variable {lt:Nat->Nat->Bool} {n:Nat} {cmp:Nat->Nat->(Bool->Shared->Prop)->Shared->Prop} {P:Shared->Prop}
structure Ord (lt:Nat->Nat->Bool):Prop where
 tr:∀ i j k,lt j i=false->lt k j=false->lt k i=false
 as:∀ i j,lt i j=true->lt j i=false
def Dn (lt:Nat->Nat->Bool) (p:Array Nat) (m:Nat):Prop:=∀ i j,i<=j->j < m->lt (gp p i) (gp p j)=false
structure Arr (n:Nat) (p:Array Nat):Prop where
 sz:p.size=n
 pm:p.Perm (List.toArray (List.range n))
end
end L2
namespace PySem
open Spec PyProof.Rows
section
variable {prog:Program} {w:World} {A:Around} {E:Value->Shared->Prop} {s:Shared}
theorem DEs.at {h h':Heap} {d:Addr} {es:Array DictEntry} {ep:Nat} (x:DEs h d es ep) (k:∀ o,h.get? d=some o->h'.get? d=some o):DEs h' d es ep:=by
 obtain ⟨o,e,r⟩:=x.ex
 exact ⟨o,k o e,r⟩
theorem zuM (hh:A.handled=none) (I d:Addr) (hne:d ≠ I) (es:Array DictEntry) (ep:Nat) :
  Walks prog w A I [I,d] [I] es.size (fun i v=>∃ h:i < es.size,v=es[i].key) (fun i h=>h.IsKeyIter I d i es.size ep/\DEs h d es ep) where
 sub:=fun b hb=>by simp at hb;simp [hb]
 frame:=fun _ _ _ st hk=>⟨st.1.at fun o e=>hk I (by simp) o e,st.2.at fun o e=>hk d (by simp) o e⟩
 item:=fun i s Q E hi st hQ=>by
  refine zvL st.1 st.2 hi fun h' hit' hs'=>?_
  exact hQ _ h' s.toks ⟨hi,rfl⟩ ⟨hit',st.2.at fun o e=>hs'.extBut d o hne e⟩ fun b o hb e=>hs'.extBut b o (fun h=>hb (by simp [h])) e
 done:=fun s Q E st hQ=>zxZ hh st.1 st.2 (Nat.le_refl _) fun h' he'=>hQ h' s.toks fun b o hb e=>he' b o (fun h=>hb (by simp [h])) e
 self:=fun _ _ _ _ st hQ=>wpAny_pyIter_keyiter st.1 hQ
theorem zrY {d:Addr} {es:Array DictEntry} {ep:Nat} {Q:List Value->Shared->Prop} (hh:A.handled=none) (sy:(d == sysModules)=false) (hm:DEs s.heap d es ep) (hn:es.size<=1000)
  (hQ:∀ s' (acc:Array Value),(∀ b o,s.heap.get? b=some o->s'.heap.get? b=some o)->s'.gens=s.gens->s'.drawn=s.drawn->s'.os=s.os->s.heap.objs.size<=s'.heap.objs.size->ItemsOf (fun i v=>∃ h:i < es.size,v=es[i].key) acc es.size->Q acc.toList s') :
  wpAny (model prog w) A (collect (.ref d)) Q E s:=by
 obtain ⟨od,hod,hxd,hdd⟩:=hm.ex
 have dl:=Heap.lt_size hod
 unfold collect
 refine wpAny_bind (wpAny_runValue (codeAny_builtin F.entry_proto_collect ?_))
 rw [Around.under_plainId F.plain_proto_collect _]
 show wpAny _ A.in1 (newList [] >>= fun l=>again (.builtin "list.__iadd__" ⟨[l,.ref d],[]⟩)) _ _ s
 refine wpAny_bind (wpAny_newObj_type ?_)
 refine wpAny_pure ⟨plainId_quiet F.plain_list_iadd _,codeAny_builtin F.entry_list_iadd ?_⟩
 rw [Around.under_plainId F.plain_list_iadd _]
 have hm1:DEs (s.heap.push { cls:=.type "list",data:=.seq ([]:List Value).toArray }) d es ep:=hm.at fun o e=>Heap.get?_push_of_some _ e
 have hSd:s.heap.objs.size ≠ d:=Nat.ne_of_gt dl
 have h1:Builtin.List.listSameRef (.ref s.heap.objs.size) (.ref d)=false:=by simp [Builtin.List.listSameRef,hSd]
 show wpAny _ A.in1 (Builtin.List.listExtendWith (.ref s.heap.objs.size) (.ref d) (.ref s.heap.objs.size)) _ _ _
 unfold Builtin.List.listExtendWith
 refine wpAny_bind (wpAny_typeOf (s:={ s with heap:=s.heap.push { cls:=.type "list",data:=.seq ([]:List Value).toArray } }) hm1.typ ?_)
 rw [if_neg (by rw [h1];decide)]
 refine wpAny_bind (zv5 (s:={ s with heap:=s.heap.push { cls:=.type "list",data:=.seq ([]:List Value).toArray } }) sy hm1 ?_)
 refine wpAny_bind (wpAny_holding ?_)
 have I2:s.heap.objs.size + 1=(s.heap.push { cls:=.type "list",data:=.seq ([]:List Value).toArray }).objs.size:=(Heap.size_push ..).symm
 have hm2:DEs ((s.heap.push { cls:=.type "list",data:=.seq ([]:List Value).toArray }).push { cls:=.type "dict_keyiterator",data:=.fields #[.ref d,.int 0 0,.int es.size 0,.int ep 0] }) d es ep:=hm1.at fun o e=>Heap.get?_push_of_some _ e
 have ty2:=DEs.typ (s:={ s with heap:=(s.heap.push { cls:=.type "list",data:=.seq ([]:List Value).toArray }).push { cls:=.type "dict_keyiterator",data:=.fields #[.ref d,.int 0 0,.int es.size 0,.int ep 0] } }) hm2
 unfold Builtin.List.listLengthHint
 refine wpAny_bind (wpAny_specialOf ty2 F.slot_dict_len.lookup ?_)
 generalize hid:("dict.__len__":String)=id0
 wp_delta
 rw [show splitId id0=some ("dict","__len__") from by subst hid;decide +kernel]
 subst hid
 refine wpAny_bind (wpAny_isInstance (b:=true) ty2 (by rw [isSubtype_type];kernel_rfl) ?_)
 rw [if_neg (by decide)]
 dsimp only
 rw [if_pos (by decide +kernel)]
 refine wpAny_bind (wpAny_typeOf ty2 ?_)
 refine wpAny_pure ?_
 rw [if_pos (by decide +kernel)]
 refine wpAny_bind (wpAny_rule ?_)
 unfold Builtin.List.listTouch
 have hS0:((s.heap.push { cls:=.type "list",data:=.seq ([]:List Value).toArray }).push { cls:=.type "dict_keyiterator",data:=.fields #[.ref d,.int 0 0,.int es.size 0,.int ep 0] }).get? s.heap.objs.size=some (seqObj "list" #[] 0):=Heap.get?_push_of_some _ (Heap.get?_push_size _ rfl)
 refine wpAny_bind (wpAny_bind (listUpdate_at hS0 rfl ?_ (Nat.zero_le _) (by show 1<=sizeLine + 1;omega)))
 have hS1:=get?_update_seq hS0 (·.push .none)
 refine listUpdate_at hS1 rfl ?_ (by show 1<=sizeLine;rw [sizeLine_eq];decide) (by show 0<=sizeLine + 1;omega)
 have hS2:=get?_update_seq hS1 (·.pop)
 have up:∀ b o,b ≠ s.heap.objs.size->((s.heap.push { cls:=.type "list",data:=.seq ([]:List Value).toArray }).push { cls:=.type "dict_keyiterator",data:=.fields #[.ref d,.int 0 0,.int es.size 0,.int ep 0] }).get? b=some o ->
   ((((s.heap.push { cls:=.type "list",data:=.seq ([]:List Value).toArray }).push { cls:=.type "dict_keyiterator",data:=.fields #[.ref d,.int 0 0,.int es.size 0,.int ep 0] }).update s.heap.objs.size (Obj.mapSeq fun x=>x.push Value.none)).update s.heap.objs.size (Obj.mapSeq fun x=>x.pop)).get? b=some o:=fun b o hb e =>
  (((Heap.SameBut.update ..).2 b hb).trans ((Heap.SameBut.update ..).2 b hb)).trans e
 have hI:((s.heap.push { cls:=.type "list",data:=.seq ([]:List Value).toArray }).push { cls:=.type "dict_keyiterator",data:=.fields #[.ref d,.int 0 0,.int es.size 0,.int ep 0] }).get? (s.heap.push { cls:=.type "list",data:=.seq ([]:List Value).toArray }).objs.size=some { cls:=.type "dict_keyiterator",data:=.fields #[.ref d,.int 0 0,.int es.size 0,.int ep 0] }:=Heap.get?_push_size _ rfl
 have neI:(s.heap.push { cls:=.type "list",data:=.seq ([]:List Value).toArray }).objs.size ≠ s.heap.objs.size:=by rw [<- I2];omega
 have old:∀ b o,s.heap.get? b=some o->((s.heap.push { cls:=.type "list",data:=.seq ([]:List Value).toArray }).push { cls:=.type "dict_keyiterator",data:=.fields #[.ref d,.int 0 0,.int es.size 0,.int ep 0] }).get? b=some o:=fun b o e=>Heap.get?_push_of_some _ (Heap.get?_push_of_some _ e)
 generalize ((((s.heap.push { cls:=.type "list",data:=.seq ([]:List Value).toArray }).push { cls:=.type "dict_keyiterator",data:=.fields #[.ref d,.int 0 0,.int es.size 0,.int ep 0] }).update s.heap.objs.size (Obj.mapSeq fun x=>x.push Value.none)).update s.heap.objs.size (Obj.mapSeq fun x=>x.pop))=h5 at hS2 up ⊢
 have st:h5.IsKeyIter (s.heap.push { cls:=.type "list",data:=.seq ([]:List Value).toArray }).objs.size d 0 es.size ep:=⟨_,up _ _ neI hI,rfl,rfl⟩
 have da:DEs h5 d es ep:=hm2.at fun o e=>up d o (Ne.symm hSd) e
 generalize hIa:(s.heap.push { cls:=.type "list",data:=.seq ([]:List Value).toArray }).objs.size=Ia at st neI hI ⊢
 have ia:Ia=s.heap.objs.size + 1:=by rw [<- hIa];exact I2.symm
 have ne:d ≠ Ia:=by rw [ia];exact Nat.ne_of_lt (Nat.lt_succ_of_lt dl)
 have nS:s.heap.objs.size ∉ [Ia,d]:=fun h=>by
  rcases List.mem_cons.mp h with c | c
  ·exact neI c.symm
  ·exact hSd (List.mem_singleton.mp c)
 have W:=(zuM (prog:=prog) (w:=w) (A:=A.in1) hh Ia d ne es ep).toS
 refine wpAny_pure ⟨plainId_quiet F.plain_extend_loop _,codeAny_extend_loopS W (by rw [sizeLine_eq];omega) s.heap.objs.size nS _ es.size 0 _ _ _ rfl (Nat.zero_le _) ⟨st,da⟩ hS2 (ItemsOf.nil _) fun s' acc' c' mv hS' hacc=>?_⟩
 show wpAny _ A (load s.heap.objs.size >>= _) _ _ s'
 refine wpAny_bind (wpAny_load hS' ?_)
 refine wpAny_pure (hQ s' acc' (fun b o e=>?_) mv.gens mv.drawn mv.os (Nat.le_of_lt (Heap.lt_size hS')) hacc)
 have lt:=Heap.lt_size e
 have b1:b ≠ s.heap.objs.size:=Nat.ne_of_lt lt
 have b2:b ≠ Ia:=by rw [ia];exact Nat.ne_of_lt (Nat.lt_succ_of_lt lt)
 refine mv.heap b o (fun h=>?_) (up b o b1 (old b o e))
 rcases List.mem_cons.mp h with c | c
 ·exact b1 c
 ·exact b2 (List.mem_singleton.mp c)
end
end PySem
namespace L2
open PySem PySem.Spec PyProof.Rows PySem.W
def Cx.in1 (X:Cx):Cx:={ X with A:=X.A.in1 }
end L2
namespace L2
open PySem PySem.Spec PyProof.Rows PySem.W
abbrev WK:=Int × List Int
end L2
namespace L2
open PySem PySem.Spec PyProof.Rows PySem.W
end L2
namespace L2
open PySem PySem.Spec PyProof.Rows PySem.W
def KTs (H:Hp):List (List Key × V)->List V->Prop
 | [],xs=>xs=[]
 | kv :: r,xs=>∃ b t,xs=.ref b :: t/\TAt H b (kv.1.map kV)/\KTs H r t
def zsh (H:Hp) (d:Addr) (xs:List V):Prop:=(∃ kvs,Rd H d (.dT kvs)/\KTs H kvs xs)\/∃ kvs:List (Key × V),Rd H d (.dK kvs)/\xs=kvs.map fun kv=>kV kv.1
section
variable {X:Cx} {pins:List (Addr × Obj)} {σ:L2.St} {H:Hp} {s:Shared} {d f:Addr}
theorem zsG:∀ {kvs:List (List Key × V)} {ys:List (List Key × Addr × Value)},KT H kvs ys->KTs H kvs (ys.map fun y=>V.ref y.2.1)
 | [],_,.nil=>rfl
 | kv :: r,_,.cons h t=>⟨_,_,rfl,h.2.1,zsG t⟩
theorem zrZ {A:Around} {E:Value->Shared->Prop} {Q:List Value->Shared->Prop} (hh:A.handled=none) (I:Inv X pins σ H s) (rd:IsD H d) (hn:∀ xs,zsh H d xs->xs.length < 64)
  (hQ:∀ xs us s',zsh H d xs->Vals xs us->Inv X pins σ H s'->Q us s'):wpAny (model X.prog X.w) A (collect (.ref d)) Q E s:=by
 have fin:∀ (s':Shared),(∀ b o,s.heap.get? b=some o->s'.heap.get? b=some o)->s'.gens=s.gens->s'.drawn=s.drawn->s'.os=s.os->Inv X pins σ H s':=fun s' k g dr os=>by
  obtain ⟨h,g',dr',tk,os'⟩:=s'
  simp only at g dr os
  subst g;subst dr;subst os
  exact I.kept (t':=tk) k
 rcases rd with ⟨kvs,rd⟩ | ⟨kvs,rd⟩
 ·obtain ⟨z,sy,vs,rel,dd⟩:=zol I.hok rd
  obtain ⟨ep,da⟩:=dd.dictAt
  have lk:=hn _ (.inr ⟨kvs,rd,rfl⟩)
  rw [List.length_map] at lk
  have lv:kvs.length=vs.length:=rel.length
  refine zlc hh sy da (by omega) fun s' acc hk hg hd ho hsz hacc=>hQ (kvs.map fun kv=>kV kv.1) _ s' (.inr ⟨kvs,rd,rfl⟩) ?_ (fin s' hk hg hd ho)
  have la:acc.toList.length=vs.length:=by rw [Array.length_toList];exact hacc.1
  refine zlQ (by rw [List.length_map];omega) fun j x v ex ev=>?_
  rw [Array.getElem?_toList] at ev
  obtain ⟨k,y,e1,e2⟩:=hacc.2 j v ev
  have lj:j < vs.length:=Nat.lt_of_not_le fun c=>by rw [List.getElem?_eq_none c] at e1;cases e1
  have lj':j < kvs.length:=lv ▸ lj
  obtain ⟨⟨k',y'⟩,e3,e4,_⟩:=zep rel (List.getElem?_eq_getElem lj')
  rw [e1] at e3
  cases e3
  rw [List.getElem?_map,List.getElem?_eq_getElem lj'] at ex
  cases ex
  show RelV (kV kvs[j].1) v
  rw [show kvs[j].1=k from e4]
  exact zmP e2
 ·obtain ⟨z,sy,ys,kt,o,es,ep,e',r1,r2,r3,r4⟩:=zoj I.hok rd
  have ks:=zsG kt
  have lk:=hn _ (.inl ⟨kvs,rd,ks⟩)
  have ly:kvs.length=ys.length:=Paired.length kt
  have hsz:es.size=ys.length:=size_of_entries r3
  rw [List.length_map] at lk
  refine zrY hh sy ⟨o,e',r1,r2⟩ (by omega) fun s' acc hk hg hd ho hs hacc=>hQ _ _ s' (.inl ⟨kvs,rd,ks⟩) ?_ (fin s' hk hg hd ho)
  have la:acc.toList.length=es.size:=by rw [Array.length_toList];exact hacc.1
  refine zlQ (by rw [List.length_map];omega) fun j x v ex ev=>?_
  rw [Array.getElem?_toList] at ev
  obtain ⟨hj,rfl⟩:=hacc.2 j v ev
  have lj:j < ys.length:=by omega
  rw [List.getElem?_map,List.getElem?_eq_getElem lj] at ex
  cases ex
  have:=entry_at r3 j
  rw [List.getElem?_eq_getElem lj,Array.getElem?_eq_getElem hj] at this
  simp only [Option.map_some,Option.some.injEq] at this
  rw [this]
  rfl
end
end L2
namespace L2
open PySem PySem.Spec PyProof.Rows PySem.W
end L2
namespace Q1
def fr (t b:Int):Int × Int:=if b < 0 then (t / -(Int.gcd t b:Int),b / -(Int.gcd t b:Int)) else (t / (Int.gcd t b:Int),b / (Int.gcd t b:Int))
structure Low (p q:Int):Prop where
 pos:0 < q
 cop:Int.gcd p q=1
theorem zhF {t b:Int} (h:b ≠ 0):0 < (Int.gcd t b:Int):=by
 have:0 < Int.gcd t b:=Int.gcd_pos_of_ne_zero_right _ h
 omega
theorem zxB {t b:Int}:((Int.gcd t b:Nat):Int) ∣ t:=Int.gcd_dvd_left ..
theorem zum {t b:Int}:((Int.gcd t b:Nat):Int) ∣ b:=Int.gcd_dvd_right ..
theorem zhR {t b:Int} (h:b ≠ 0):Int.gcd (t / (Int.gcd t b:Int)) (b / (Int.gcd t b:Int))=1:=by
 have hp:0 < Int.gcd t b:=Int.gcd_pos_of_ne_zero_right _ h
 exact Int.gcd_ediv_gcd_ediv_gcd hp
theorem zwb {t b:Int} (h:b ≠ 0):Low (fr t b).1 (fr t b).2:=by
 have hg:=zhF (t:=t) h
 have c:=zhR (t:=t) h
 unfold fr
 split
 ·rename_i hb
  refine ⟨?_,?_⟩
  ·show 0 < b / -(Int.gcd t b:Int)
   rw [Int.ediv_neg]
   have:=Int.ediv_mul_cancel (zum (t:=t) (b:=b))
   have h1:b / (Int.gcd t b:Int) < 0:=by
    rcases Int.lt_trichotomy (b / (Int.gcd t b:Int)) 0 with z | z | z
    ·exact z
    ·rw [z] at this;omega
    ·have:=Int.mul_pos z hg;omega
   omega
  ·show Int.gcd (t / -(Int.gcd t b:Int)) (b / -(Int.gcd t b:Int))=1
   rw [Int.ediv_neg,Int.ediv_neg,Int.gcd_neg,Int.neg_gcd]
   exact c
 ·rename_i hb
  refine ⟨?_,c⟩
  show 0 < b / (Int.gcd t b:Int)
  have:=Int.ediv_mul_cancel (zum (t:=t) (b:=b))
  rcases Int.lt_trichotomy (b / (Int.gcd t b:Int)) 0 with z | z | z
  ·have:=Int.mul_neg_of_neg_of_pos z hg;omega
  ·rw [z] at this;omega
  ·exact z
theorem zxz {t b:Int} (h:b ≠ 0):(fr t b).1 * b=t * (fr t b).2:=by
 have e1:=Int.ediv_mul_cancel (zxB (t:=t) (b:=b))
 have e2:=Int.ediv_mul_cancel (zum (t:=t) (b:=b))
 have key:t / (Int.gcd t b:Int) * b=t * (b / (Int.gcd t b:Int)):=by
  calc t / (Int.gcd t b:Int) * b=t / (Int.gcd t b:Int) * (b / (Int.gcd t b:Int) * (Int.gcd t b:Int)):=by rw [e2]
   _=t / (Int.gcd t b:Int) * (Int.gcd t b:Int) * (b / (Int.gcd t b:Int)):=by rw [Int.mul_assoc,Int.mul_comm (b / _)]
   _=t * (b / (Int.gcd t b:Int)):=by rw [e1]
 unfold fr
 split
 ·show t / -(Int.gcd t b:Int) * b=t * (b / -(Int.gcd t b:Int))
  rw [Int.ediv_neg,Int.ediv_neg,Int.neg_mul,Int.mul_neg,key]
 ·exact key
theorem zhL {q p r:Int} (h:q ∣ p * r) (c:Int.gcd p q=1):q ∣ r:=by
 have h1:q.natAbs ∣ p.natAbs * r.natAbs:=by
  rw [<- Int.natAbs_mul]
  exact Int.natAbs_dvd_natAbs.mpr h
 have c':Nat.Coprime q.natAbs p.natAbs:=by
  show Nat.gcd q.natAbs p.natAbs=1
  rw [Nat.gcd_comm]
  exact c
 exact Int.natAbs_dvd_natAbs.mp (Nat.Coprime.dvd_of_dvd_mul_left c' h1)
theorem zrC {p q p' q':Int} (a:Low p q) (b:Low p' q') (h:p * q'=p' * q):p=p'/\q=q':=by
 have d1:q ∣ q':=by
  have:q ∣ p * q':=⟨p',by rw [h,Int.mul_comm]⟩
  exact zhL this a.cop
 have d2:q' ∣ q:=by
  have:q' ∣ p' * q:=⟨p,by rw [<- h,Int.mul_comm]⟩
  exact zhL this b.cop
 have e:q=q':=Int.dvd_antisymm (Int.le_of_lt a.pos) (Int.le_of_lt b.pos) d1 d2
 refine ⟨?_,e⟩
 subst e
 exact Int.eq_of_mul_eq_mul_right (Int.ne_of_gt a.pos) h
theorem zuj {t b p q:Int} (hb:b ≠ 0) (l:Low p q) (h:p * b=t * q):fr t b=(p,q):=by
 have e:=zxz (t:=t) hb
 have l':=zwb (t:=t) hb
 have:(fr t b).1 * q=p * (fr t b).2:=by
  have h2:(fr t b).1 * q * b=p * (fr t b).2 * b:=by
   calc (fr t b).1 * q * b=(fr t b).1 * b * q:=by rw [Int.mul_assoc,Int.mul_comm q,Int.mul_assoc]
    _=t * (fr t b).2 * q:=by rw [e]
    _=t * q * (fr t b).2:=by rw [Int.mul_assoc,Int.mul_comm (fr t b).2,Int.mul_assoc]
    _=p * b * (fr t b).2:=by rw [h]
    _=p * (fr t b).2 * b:=by rw [Int.mul_assoc,Int.mul_comm b,Int.mul_assoc]
  exact Int.eq_of_mul_eq_mul_right hb h2
 obtain ⟨a1,a2⟩:=zrC l' l this
 exact Prod.ext a1 a2
theorem znj {t b:Int} (h:0 < b):fr t b=(t / (Int.gcd t b:Int),b / (Int.gcd t b:Int)):=by
 unfold fr
 rw [if_neg (by omega)]
theorem zsC {p q:Int} (l:Low p q):fr p q=(p,q):=zuj (Int.ne_of_gt l.pos) l rfl
end Q1
namespace Q1
theorem Low.ne {p q:Int} (l:Low p q):q ≠ 0:=Int.ne_of_gt l.pos
theorem gcd_one {a b:Int} (h:∀ d:Int,d ∣ a->d ∣ b->d ∣ 1):Int.gcd a b=1:=by
 have:=h (Int.gcd a b:Int) (Int.gcd_dvd_left ..) (Int.gcd_dvd_right ..)
 have h2:(Int.gcd a b) ∣ 1:=by
  have:=Int.natAbs_dvd_natAbs.mpr this
  simpa using this
 exact Nat.dvd_one.mp h2
theorem dvd_one {a b d:Int} (h:Int.gcd a b=1) (h1:d ∣ a) (h2:d ∣ b):d ∣ 1:=by
 have:=Int.dvd_coe_gcd h1 h2
 rw [h] at this
 exact this
theorem zhG {a b:Int} (h:Int.gcd a b=1):Int.gcd b a=1:=by rw [Int.gcd_comm];exact h
theorem gcd_mul {a b c:Int} (h1:Int.gcd a b=1) (h2:Int.gcd a c=1):Int.gcd a (b * c)=1:=by
 refine gcd_one fun d da db=>?_
 have c1:Int.gcd b d=1:=gcd_one fun e e1 e2=>dvd_one h1 (Int.dvd_trans e2 da) e1
 exact dvd_one h2 da (zhL db c1)
theorem znf {a b a' b':Int} (h:Int.gcd a b=1) (h1:a' ∣ a) (h2:b' ∣ b):Int.gcd a' b'=1 :=
 gcd_one fun d da db=>dvd_one h (Int.dvd_trans da h1) (Int.dvd_trans db h2)
theorem zgZ {a b:Int} (h:b ∣ a):a / b ∣ a:=by
 obtain ⟨c,rfl⟩:=h
 by_cases z:b=0
 ·subst z;simp
 ·rw [Int.mul_ediv_cancel_left _ z];exact ⟨b,Int.mul_comm _ _⟩
theorem zc2 {a b:Int} (h:0 < a * b) (hb:0 < b):0 < a:=by
 rcases Int.lt_trichotomy a 0 with z | z | z
 ·have:=Int.mul_neg_of_neg_of_pos z hb;omega
 ·subst z;simp at h
 ·exact z
def znU (p q r s:Int):Int × Int :=
 let g:=(Int.gcd q s:Int)
 let top:=p * (s / g) + r * (q / g)
 let e:=(Int.gcd top g:Int)
 (top / e,q / g * (s / e))
def zmM (p q r s:Int):Int × Int :=
 (p / (Int.gcd p s:Int) * (r / (Int.gcd r q:Int)),q / (Int.gcd r q:Int) * (s / (Int.gcd p s:Int)))
theorem zpd {p q r s g m t e top T G:Int} (l1:Low p q) (l2:Low r s) (g0:0 < g) (e0:0 < e) (hq:q=m * g) (hs:s=t * g) (hmt:Int.gcd m t=1)
  (ht:top=p * t + r * m) (hT:top=T * e) (hG:g=G * e) (hTG:Int.gcd T G=1):Low T (m * (t * G))/\T * (q * s)=(p * s + r * q) * (m * (t * G)):=by
 have hm:0 < m:=zc2 (by rw [<- hq];exact l1.pos) g0
 have htt:0 < t:=zc2 (by rw [<- hs];exact l2.pos) g0
 have hGG:0 < G:=zc2 (by rw [<- hG];exact g0) e0
 refine ⟨⟨Int.mul_pos hm (Int.mul_pos htt hGG),?_⟩,?_⟩
 ·have dT:T ∣ top:=⟨e,hT⟩
  have c1:Int.gcd T m=1:=by
   refine gcd_one fun d da db=>?_
   have h1:d ∣ p * t:=by
    have h2:d ∣ p * t + r * m:=by rw [<- ht];exact Int.dvd_trans da dT
    exact (Int.dvd_add_left (Int.dvd_mul_of_dvd_right db)).mp h2
   have h3:Int.gcd p d=1:=znf l1.cop (Int.dvd_refl _) (by rw [hq];exact Int.dvd_trans db (Int.dvd_mul_right ..))
   exact dvd_one hmt db (zhL h1 h3)
  have c2:Int.gcd T t=1:=by
   refine gcd_one fun d da db=>?_
   have h1:d ∣ r * m:=by
    have h2:d ∣ p * t + r * m:=by rw [<- ht];exact Int.dvd_trans da dT
    exact (Int.dvd_add_right (Int.dvd_mul_of_dvd_right db)).mp h2
   have h3:Int.gcd r d=1:=znf l2.cop (Int.dvd_refl _) (by rw [hs];exact Int.dvd_trans db (Int.dvd_mul_right ..))
   exact dvd_one hmt (zhL h1 h3) db
  exact gcd_mul c1 (gcd_mul c2 hTG)
 ·have k1:p * s + r * q=top * g:=by
   rw [hq,hs,ht,Int.add_mul,Int.mul_assoc,Int.mul_assoc]
  rw [k1,hT,hq,hs]
  rw [show m * g * (t * g)=m * (t * G) * (e * g) by rw [show t * g=t * (G * e) by rw [hG]];ac_rfl]
  ac_rfl
theorem zl3 {p q r s:Int} (l1:Low p q) (l2:Low r s):znU p q r s=fr (p * s + r * q) (q * s):=by
 have g0:0 < (Int.gcd q s:Int):=zhF l2.ne
 have d1:(Int.gcd q s:Int) ∣ q:=Int.gcd_dvd_left ..
 have d2:(Int.gcd q s:Int) ∣ s:=Int.gcd_dvd_right ..
 have e0:0 < (Int.gcd (p * (s / (Int.gcd q s:Int)) + r * (q / (Int.gcd q s:Int))) (Int.gcd q s:Int):Int):=zhF (Int.ne_of_gt g0)
 have d3:=Int.gcd_dvd_left (a:=p * (s / (Int.gcd q s:Int)) + r * (q / (Int.gcd q s:Int))) (b:=(Int.gcd q s:Int))
 have d4:=Int.gcd_dvd_right (a:=p * (s / (Int.gcd q s:Int)) + r * (q / (Int.gcd q s:Int))) (b:=(Int.gcd q s:Int))
 have core:=zpd l1 l2 g0 e0 (Int.ediv_mul_cancel d1).symm (Int.ediv_mul_cancel d2).symm (zhR l2.ne) rfl (Int.ediv_mul_cancel d3).symm (Int.ediv_mul_cancel d4).symm (zhR (Int.ne_of_gt g0))
 have e:znU p q r s=(_,_):=rfl
 have hs:s / (Int.gcd (p * (s / (Int.gcd q s:Int)) + r * (q / (Int.gcd q s:Int))) (Int.gcd q s:Int):Int)=s / (Int.gcd q s:Int) * ((Int.gcd q s:Int) / (Int.gcd (p * (s / (Int.gcd q s:Int)) + r * (q / (Int.gcd q s:Int))) (Int.gcd q s:Int):Int)):=by
  refine Int.ediv_eq_of_eq_mul_left (Int.ne_of_gt e0) ?_
  rw [Int.mul_assoc,Int.ediv_mul_cancel d4,Int.ediv_mul_cancel d2]
 symm
 refine zuj (Int.ne_of_gt (Int.mul_pos l1.pos l2.pos)) (p:=(znU p q r s).1) (q:=(znU p q r s).2) ?_ ?_
 ·have:(znU p q r s).2=_:=rfl
  rw [this]
  show Low _ (q / (Int.gcd q s:Int) * (s / _))
  rw [hs]
  exact core.1
 ·show _ * (q * s)=_ * (q / (Int.gcd q s:Int) * (s / _))
  rw [hs]
  exact core.2
theorem zqV {p q r s:Int} (l1:Low p q) (l2:Low r s):zmM p q r s=fr (p * r) (q * s):=by
 have m0:0 < (Int.gcd p s:Int):=zhF l2.ne
 have i0:0 < (Int.gcd r q:Int):=zhF l1.ne
 have a1:(Int.gcd p s:Int) ∣ p:=Int.gcd_dvd_left ..
 have a2:(Int.gcd p s:Int) ∣ s:=Int.gcd_dvd_right ..
 have b1:(Int.gcd r q:Int) ∣ r:=Int.gcd_dvd_left ..
 have b2:(Int.gcd r q:Int) ∣ q:=Int.gcd_dvd_right ..
 symm
 refine zuj (Int.ne_of_gt (Int.mul_pos l1.pos l2.pos)) (p:=(zmM p q r s).1) (q:=(zmM p q r s).2) ⟨?_,?_⟩ ?_
 ·refine Int.mul_pos ?_ ?_
  ·exact zc2 (by rw [Int.ediv_mul_cancel b2];exact l1.pos) i0
  ·exact zc2 (by rw [Int.ediv_mul_cancel a2];exact l2.pos) m0
 ·show Int.gcd (p / _ * (r / _)) (q / _ * (s / _))=1
  have x1:Int.gcd (p / (Int.gcd p s:Int)) (q / (Int.gcd r q:Int))=1:=znf l1.cop (zgZ a1) (zgZ b2)
  have x2:Int.gcd (p / (Int.gcd p s:Int)) (s / (Int.gcd p s:Int))=1:=zhR l2.ne
  have x3:Int.gcd (r / (Int.gcd r q:Int)) (q / (Int.gcd r q:Int))=1:=zhR l1.ne
  have x4:Int.gcd (r / (Int.gcd r q:Int)) (s / (Int.gcd p s:Int))=1:=znf l2.cop (zgZ b1) (zgZ a2)
  exact zhG (gcd_mul (zhG (gcd_mul x1 x2)) (zhG (gcd_mul x3 x4)))
 ·show p / (Int.gcd p s:Int) * (r / (Int.gcd r q:Int)) * (q * s)=p * r * (q / (Int.gcd r q:Int) * (s / (Int.gcd p s:Int)))
  have y1:=Int.ediv_mul_cancel a1
  have y2:=Int.ediv_mul_cancel a2
  have y3:=Int.ediv_mul_cancel b1
  have y4:=Int.ediv_mul_cancel b2
  generalize (Int.gcd p s:Int)=m at *
  generalize (Int.gcd r q:Int)=i at *
  generalize p / m=P at *
  generalize s / m=S at *
  generalize r / i=R at *
  generalize q / i=Q at *
  rw [<- y1,<- y2,<- y3,<- y4]
  ac_rfl
end Q1
namespace QR
open Q1
theorem low (r:Rat):Low r.num r.den:=⟨by have:=r.den_nz;omega,by
 have:=r.reduced
 unfold Nat.Coprime at this
 show Nat.gcd r.num.natAbs (r.den:Int).natAbs=1
 simpa using this⟩
theorem zyC (t:Int) (d:Nat):(Int.gcd t (d:Int))=Nat.gcd t.natAbs d:=by
 show Nat.gcd t.natAbs (d:Int).natAbs=_
 simp
theorem norm {t:Int} {d:Nat} (h:d ≠ 0):fr t (d:Int)=((Rat.normalize t d h).num,((Rat.normalize t d h).den:Int)):=by
 rw [znj (by omega),Rat.normalize_eq,zyC]
 simp
theorem add (r s:Rat):fr (r.num * s.den + s.num * r.den) ((r.den:Int) * s.den)=((r + s).num,((r + s).den:Int)):=by
 rw [Rat.add_def,<- norm]
 congr 1
theorem mul (r s:Rat):fr (r.num * s.num) ((r.den:Int) * s.den)=((r * s).num,((r * s).den:Int)):=by
 rw [Rat.mul_def,<- norm]
 congr 1
def Bd (n:Nat) (r:Rat):Prop:=r.num.natAbs < 2 ^ n/\r.den < 2 ^ n
theorem Bd.mono {n m:Nat} {r:Rat} (h:Bd n r) (k:n<=m):Bd m r:=⟨Nat.lt_of_lt_of_le h.1 (Nat.pow_le_pow_right (by decide) k),Nat.lt_of_lt_of_le h.2 (Nat.pow_le_pow_right (by decide) k)⟩
theorem zoi (t b:Int):(fr t b).1.natAbs<=t.natAbs/\(fr t b).2.natAbs<=b.natAbs:=by
 unfold fr
 split
 ·exact ⟨Int.natAbs_ediv_le_natAbs _ _,Int.natAbs_ediv_le_natAbs _ _⟩
 ·exact ⟨Int.natAbs_ediv_le_natAbs _ _,Int.natAbs_ediv_le_natAbs _ _⟩
theorem zfn {a b n m:Nat} (h1:a < 2 ^ n) (h2:b < 2 ^ m):a * b < 2 ^ (n + m):=by
 rw [Nat.pow_add]
 exact Nat.mul_lt_mul'' h1 h2
theorem Bd.add {n m:Nat} {r s:Rat} (h:Bd n r) (k:Bd m s):Bd (n + m + 1) (r + s):=by
 have e:=QR.add r s
 have l:=zoi (r.num * s.den + s.num * r.den) ((r.den:Int) * s.den)
 rw [e] at l
 simp only at l
 have a1:r.num.natAbs * s.den < 2 ^ (n + m):=zfn h.1 k.2
 have a2:s.num.natAbs * r.den < 2 ^ (n + m):=by rw [Nat.mul_comm,Nat.mul_comm];rw [Nat.add_comm];exact zfn k.1 h.2
 have a3:r.den * s.den < 2 ^ (n + m):=zfn h.2 k.2
 have p2:2 ^ (n + m + 1)=2 ^ (n + m) + 2 ^ (n + m):=by rw [Nat.pow_succ];omega
 refine ⟨?_,?_⟩
 ·refine Nat.lt_of_le_of_lt l.1 (Nat.lt_of_le_of_lt (Int.natAbs_add_le _ _) ?_)
  rw [Int.natAbs_mul,Int.natAbs_mul,Int.natAbs_natCast,Int.natAbs_natCast,p2]
  omega
 ·have:=l.2
  rw [Int.natAbs_mul,Int.natAbs_natCast,Int.natAbs_natCast,Int.natAbs_natCast] at this
  rw [p2]
  omega
theorem Bd.mul {n m:Nat} {r s:Rat} (h:Bd n r) (k:Bd m s):Bd (n + m) (r * s):=by
 have e:=QR.mul r s
 have l:=zoi (r.num * s.num) ((r.den:Int) * s.den)
 rw [e] at l
 simp only at l
 refine ⟨?_,?_⟩
 ·refine Nat.lt_of_le_of_lt l.1 ?_
  rw [Int.natAbs_mul]
  exact zfn h.1 k.1
 ·have:=l.2
  rw [Int.natAbs_mul,Int.natAbs_natCast,Int.natAbs_natCast,Int.natAbs_natCast] at this
  exact Nat.lt_of_le_of_lt this (zfn h.2 k.2)
theorem Bd.zero (n:Nat):Bd (n + 1) 0:=by
 refine ⟨?_,?_⟩
 ·show (0:Nat) < 2 ^ (n + 1)
  exact Nat.pos_of_ne_zero (by simp)
 ·show (1:Nat) < 2 ^ (n + 1)
  exact Nat.one_lt_two_pow (by omega)
def dot:List Rat->List Rat->Rat
 | a :: as,b :: bs=>a * b + dot as bs
 | _,_=>0
def part (xs ys:List Rat):Nat->Rat
 | 0=>0
 | i + 1=>part xs ys i + xs.getD i 0 * ys.getD i 0
theorem zkE (a b:Rat) (as bs:List Rat):∀ i,part (a :: as) (b :: bs) (i + 1)=a * b + part as bs i
 | 0=>by simp only [part,List.getD_cons_zero];grind
 | i + 1=>by
  rw [part,zkE a b as bs i]
  show a * b + part as bs i + (a :: as).getD (i + 1) 0 * (b :: bs).getD (i + 1) 0=_
  rw [part]
  simp only [List.getD_cons_succ]
  grind
theorem zmW:∀ (xs ys:List Rat),xs.length=ys.length->part xs ys xs.length=dot xs ys
 | [],[],_=>rfl
 | a :: as,b :: bs,h=>by
  rw [List.length_cons,zkE,zmW as bs (by simpa using h)]
  rfl
theorem zpk {xs ys:List Rat} {n m:Nat} (hx:∀ r ∈ xs,Bd n r) (hy:∀ r ∈ ys,Bd m r):∀ i,i<=xs.length->i<=ys.length->Bd (i * (n + m + 1) + 1) (part xs ys i)
 | 0,_,_=>by simpa [part] using Bd.zero 0
 | i + 1,h1,h2=>by
  have ih:=zpk hx hy i (by omega) (by omega)
  have e1:xs.getD i 0=xs[i]:=by simp [List.getD,show i < xs.length by omega]
  have e2:ys.getD i 0=ys[i]:=by simp [List.getD,show i < ys.length by omega]
  have b:=(hx xs[i] (List.getElem_mem _)).mul (hy ys[i] (List.getElem_mem _))
  rw [part,e1,e2]
  refine (ih.add b).mono ?_
  rw [Nat.succ_mul]
  omega
theorem zsX {xs ys:List Rat} {n m:Nat} (h:xs.length=ys.length) (hx:∀ r ∈ xs,Bd n r) (hy:∀ r ∈ ys,Bd m r):Bd (xs.length * (n + m + 1) + 1) (dot xs ys):=by
 rw [<- zmW xs ys h]
 exact zpk hx hy _ (Nat.le_refl _) (by omega)
end QR
namespace KC
open PySem L2 PySem.Spec PyProof.Rows
structure Blt (mg:Str->Option Value):Prop where
 zn0:mg "abs"=none
 zaG:mg "isinstance"=none
 zps:mg "int"=none
 zkM:mg "bool"=none
 zfT:mg "tuple"=none
 zeX:mg "len"=none
 zrz:mg "all"=none
 zgi:mg "list"=none
 zdd:mg "range"=none
 zkL:mg "zip"=none
 zcq:mg "enumerate"=none
namespace Bt
theorem isinstance:bootBuiltins "isinstance"=some (.builtin "isinstance"):=by decide +kernel
end Bt
def isInt:PyData->Bool
 | .int _ | .bool _=>true | _=>false
def zeY (T c:String):Option Bool:=if (Value.type T == Value.type c)=true then some true else if PySem.W.kitMeta c=true then (fastBuiltinMro T).map (·.contains (.type c)) else none
end KC
namespace KC
open PySem L2 PySem.Spec PyProof.Rows
end KC
namespace KC
open PySem L2 PySem.Spec PyProof.Rows
end KC
namespace FL
open PySem
abbrev D:=PyData
inductive R (α:Type) where
 | bad
 | err (c:String) (fs:List D)
 | ok (a:α)
def R.bind {α β:Type} (r:R α) (k:α->R β):R β:=match r with
 | .bad=>.bad
 | .err c f=>.err c f
 | .ok a=>k a
theorem zac {α β:Type} (a:α) (k:α->R β):(R.ok a).bind k=k a:=rfl
def chk {α:Type} (c:Bool) (r:R α):R α:=if c=true then r else .bad
theorem zay {α:Type} {c:Bool} {r:R α} (h:c=true):chk c r=r:=if_pos h
inductive Sl where
 | no
 | val (d:D)
 | ow (p:Bool) (d:D)
abbrev En:=List Sl
inductive Fl where
 | nx | bk | ct
 | rt (d:D)
 | rf (d:D)
abbrev EF:=En->R (D × En)
abbrev TF:=En->R (Bool × En)
abbrev AF:=En->R (List D × En)
abbrev SF:=En->R (Fl × En)
abbrev GF:=D->En->R En
def tyOf:D->String
 | .none=>"NoneType" | .bool _=>"bool" | .int _=>"int" | .str _=>"str" | .list _=>"list" | .tuple _=>"tuple" | .dict _=>"dict"
def isI (T:String) (d:D):Bool:=match d with
 | .bool _=>T == "bool" || T == "int"
 | d=>tyOf d == T
def lim:Nat:=1000000
def intsOf:List D->Option (List Int)
 | []=>some []
 | .int i :: r=>(intsOf r).map (i :: ·)
 | _ :: _=>none
def boolsOf:List D->Option (List Bool)
 | []=>some []
 | .bool i :: r=>(boolsOf r).map (i :: ·)
 | _ :: _=>none
def R.of {α:Type}:Option α->R α
 | none=>.bad
 | some a=>.ok a
def leB (a b:Nat):Bool:=Nat.ble a b
theorem leB_iff {a b:Nat}:leB a b=true ↔ a<=b:=Iff.of_eq Nat.ble_eq
theorem zdS {a b:Nat} (h:a<=b):leB a b=true:=leB_iff.mpr h
theorem zjO {a b:Nat} (h:leB a b=true):a<=b:=leB_iff.mp h
def zpu (i j:Int):Bool:=leB (i.natAbs.log2 + j.natAbs.log2 + 2) 134217728
def zbb:D->D->R D
 | .int i,.int j=>.ok (.int (i + j))
 | .list a,.list b=>chk (leB (a.length + b.length) lim) (.ok (.list (a ++ b)))
 | .tuple a,.tuple b=>chk (leB (a.length + b.length) lim) (.ok (.tuple (a ++ b)))
 | _,_=>.bad
def zit:D->D->R D
 | .int i,.int j=>.ok (.int (i - j))
 | _,_=>.bad
def za9:D->D->R D
 | .int i,.int j=>chk (zpu i j) (.ok (.int (i * j)))
 | .tuple a,.int k=>chk (!a.isEmpty && leB 2 k.toNat && leB k.toNat 1000000 && leB (a.length * k.toNat) lim) (.ok (.tuple (List.replicate k.toNat a).flatten))
 | _,_=>.bad
def zaF:D->D->R D
 | .int i,.int j=>chk (decide (j ≠ 0)) (.ok (.int (i.fdiv j)))
 | _,_=>.bad
def zjH:D->D->R D
 | .int i,.int j=>chk (decide (j ≠ 0)) (.ok (.int (i.fmod j)))
 | _,_=>.bad
def ziY:D->D->R D
 | .int i,.int j=>chk (decide (0<=j) && leB j.toNat 1000000 && leB i.natAbs 18446744073709551615) (.ok (.int (i ^ j.toNat)))
 | _,_=>.bad
def zgJ:D->R D
 | .int i=>.ok (.int (-i))
 | _=>.bad
def eqD (a b:D):R D:=chk (SeqAt.shaped a && SeqAt.shaped b) (.ok (.bool (PyData.eqv a b)))
def neD (a b:D):R D:=chk (SeqAt.shaped a && SeqAt.shaped b) (.ok (.bool (!PyData.eqv a b)))
def lexLt:List Int->List Int->Bool
 | [],[]=>false
 | [],_ :: _=>true
 | _ :: _,[]=>false
 | x :: xs,y :: ys=>if x=y then lexLt xs ys else decide (x < y)
def lexLe:List Int->List Int->Bool
 | [],[]=>true
 | [],_ :: _=>true
 | _ :: _,[]=>false
 | x :: xs,y :: ys=>if x=y then lexLe xs ys else decide (x<=y)
def zfU:List Int->List Int->Bool
 | [],[]=>false
 | [],_ :: _=>false
 | _ :: _,[]=>true
 | x :: xs,y :: ys=>if x=y then zfU xs ys else decide (y < x)
def zfV:List Int->List Int->Bool
 | [],[]=>true
 | [],_ :: _=>false
 | _ :: _,[]=>true
 | x :: xs,y :: ys=>if x=y then zfV xs ys else decide (y<=x)
def zwr (p:Int->Int->Bool) (q:List Int->List Int->Bool):D->D->R D
 | .int i,.int j=>.ok (.bool (p i j))
 | .tuple a,.tuple b=>(R.of (intsOf a)).bind fun x=>(R.of (intsOf b)).bind fun y=>.ok (.bool (q x y))
 | _,_=>.bad
def ltD:D->D->R D:=zwr (fun i j=>decide (i < j)) lexLt
def leD:D->D->R D:=zwr (fun i j=>decide (i<=j)) lexLe
def gtD:D->D->R D:=zwr (fun i j=>decide (j < i)) zfU
def geD:D->D->R D:=zwr (fun i j=>decide (j<=i)) zfV
def zyL:D->R D
 | .none=>.ok (.bool true)
 | _=>.ok (.bool false)
def zxl:D->R D
 | .none=>.ok (.bool false)
 | _=>.ok (.bool true)
def zvK (a b:D):R D:=match b with
 | .none=>zxl a
 | _=>.bad
def ixN (n:Nat) (i:Int):Option Nat:=if 0<=i then (if i < n then some i.toNat else none) else if -(n:Int)<=i then some (i + n).toNat else none
def atI {α:Type} (xs:List α) (i:Int):Option α:=(ixN xs.length i).bind fun j=>xs[j]?
def ixD:D->D->R D
 | .list a,.int i=>R.of (atI a i)
 | .tuple a,.int i=>R.of (atI a i)
 | _,_=>.bad
def sIx (n d:Nat):Option Int->Nat
 | none=>d
 | some v=>if v < 0 then (v + (n:Int)).toNat else min v.toNat n
def cut {α:Type} (xs:List α) (lo hi:Option Int):List α:=(xs.drop (sIx xs.length 0 lo)).take (sIx xs.length xs.length hi - sIx xs.length 0 lo)
def zoR (d:D) (lo hi:Option Int):R D:=match d with
 | .list a=>.ok (.list (cut a lo hi))
 | .tuple a=>.ok (.tuple (cut a lo hi))
 | _=>.bad
def zlS:D->R Bool
 | .none=>.ok false
 | .bool b=>.ok b
 | .int i=>.ok (i != 0)
 | .list a=>.ok (!a.isEmpty)
 | .tuple a=>.ok (!a.isEmpty)
 | _=>.bad
def zcd:D->R D
 | .list a=>.ok (.int a.length)
 | .tuple a=>.ok (.int a.length)
 | _=>.bad
def zqw:D->R D
 | .int i=>.ok (.int (if i < 0 then -i else i))
 | _=>.bad
def zwx:D->R D
 | .list a=>(R.of (boolsOf a)).bind fun x=>.ok (.bool (x.all id))
 | _=>.bad
def zkO:D->R D
 | .list a=>.ok (.list a)
 | .tuple a=>.ok (.list a)
 | _=>.bad
def zxL (d:D):Bool:=match d with
 | .dict _=>false
 | _=>true
def zbB (T:String) (d:D):R D:=chk (zxL d) (.ok (.bool (isI T d)))
def one (g:D->R D):List D->R D
 | [d]=>g d
 | _=>.bad
def two (g:D->D->R D):List D->R D
 | [d,e]=>g d e
 | _=>.bad
def znc:D->R (List D)
 | .list a=>.ok a
 | .tuple a=>.ok a
 | _=>.bad
def rng (lo hi:Int):List D:=(List.range (hi - lo).toNat).map fun (i:Nat)=>.int (lo + (i:Int))
def zqX (i:Int):Bool:=leB i.natAbs 1000000000
def zlY:List D->R (List D)
 | [.int j]=>chk (zqX j && leB j.toNat lim) (.ok (rng 0 j))
 | _=>.bad
def eC (d:D):EF:=fun ρ=>.ok (d,ρ)
def eV (i:Nat):EF:=fun ρ=>match ρ[i]? with
 | some (.val d)=>.ok (d,ρ)
 | _=>.bad
def e1 (g:D->R D) (f:EF):EF:=fun ρ=>(f ρ).bind fun x=>(g x.1).bind fun d=>.ok (d,x.2)
def e2 (g:D->D->R D) (f h:EF):EF:=fun ρ=>(f ρ).bind fun x=>(h x.2).bind fun y=>(g x.1 y.1).bind fun d=>.ok (d,y.2)
def znq (f h:EF):EF:=fun ρ=>(f ρ).bind fun x=>match x.1 with
 | .bool true=>h x.2
 | .bool false=>.ok (.bool false,x.2)
 | _=>.bad
def zwm (f:EF):EF:=fun ρ=>(f ρ).bind fun x=>match x.1 with
 | .bool b=>.ok (.bool (!b),x.2)
 | _=>.bad
def eIf (t:TF) (f h:EF):EF:=fun ρ=>(t ρ).bind fun c=>if c.1=true then f c.2 else h c.2
def zai:AF:=fun ρ=>.ok ([],ρ)
def zaa (f:EF) (a:AF):AF:=fun ρ=>(f ρ).bind fun x=>(a x.2).bind fun y=>.ok (x.1 :: y.1,y.2)
def zbW (a:AF):EF:=fun ρ=>(a ρ).bind fun x=>chk (leB x.1.length lim) (.ok (.tuple x.1,x.2))
def zcz (a:AF):EF:=fun ρ=>(a ρ).bind fun x=>chk (leB x.1.length lim) (.ok (.list x.1,x.2))
def zae (G:List D->R D) (a:AF):EF:=fun ρ=>(a ρ).bind fun x=>(G x.1).bind fun d=>.ok (d,x.2)
abbrev OF:=En->R (Option Int × En)
def zrv:OF:=fun ρ=>.ok (none,ρ)
def zru (f:EF):OF:=fun ρ=>(f ρ).bind fun x=>match x.1 with
 | .int i=>.ok (some i,x.2)
 | _=>.bad
def eSl (f:EF) (lo hi:OF):EF:=fun ρ=>(f ρ).bind fun x=>(lo x.2).bind fun l=>(hi l.2).bind fun u=>(zoR x.1 l.1 u.1).bind fun d=>.ok (d,u.2)
def zaU (ρ:En) (i:Nat):R D:=match ρ[i]? with
 | some (.ow _ d)=>.ok d
 | _=>.bad
def ziz (ρ:En) (i:Nat):R (List D):=match ρ[i]? with
 | some (.ow _ (.list a))=>.ok a
 | _=>.bad
def m1 (g:D->R D) (i:Nat):EF:=fun ρ=>(zaU ρ i).bind fun c=>(g c).bind fun d=>.ok (d,ρ)
def m2 (g:D->D->R D) (i:Nat) (h:EF):EF:=fun ρ=>(zaU ρ i).bind fun _=>(h ρ).bind fun y=>(zaU y.2 i).bind fun c=>(g c y.1).bind fun d=>.ok (d,y.2)
def m2r (g:D->D->R D) (f:EF) (i:Nat):EF:=fun ρ=>(f ρ).bind fun x=>(zaU x.2 i).bind fun c=>(g x.1 c).bind fun d=>.ok (d,x.2)
inductive Ar where
 | v (f:EF)
 | m (i:Nat)
 | t (f:EF)
inductive Itm where
 | vd (d:D)
 | mi (i:Nat)
 | td (d:D)
def znE:List Ar->En->R (List Itm × En)
 | [],ρ=>.ok ([],ρ)
 | .v f :: r,ρ=>(f ρ).bind fun x=>(znE r x.2).bind fun y=>.ok (.vd x.1 :: y.1,y.2)
 | .m i :: r,ρ=>(zaU ρ i).bind fun _=>(znE r ρ).bind fun y=>.ok (.mi i :: y.1,y.2)
 | .t f :: r,ρ=>(f ρ).bind fun x=>(znE r x.2).bind fun y=>.ok (.td x.1 :: y.1,y.2)
def zls (ρ:En):List Itm->R (List D)
 | []=>.ok []
 | .vd d :: r=>(zls ρ r).bind fun ds=>.ok (d :: ds)
 | .mi i :: r=>(zaU ρ i).bind fun d=>(zls ρ r).bind fun ds=>.ok (d :: ds)
 | .td d :: r=>(zls ρ r).bind fun ds=>.ok (d :: ds)
def zcn (ρ:En) (i:Nat) (d:D):En:=match ρ[i]? with
 | some (.ow p _)=>ρ.set i (.ow p d)
 | _=>ρ
def zjm:List Itm->List D->List (Nat × Sl)
 | .mi i :: r,d :: ds=>(i,.ow true d) :: zjm r ds
 | .vd _ :: r,_ :: ds=>zjm r ds
 | .td _ :: r,_ :: ds=>zjm r ds
 | _,_=>[]
def bk1 (m:List (Nat × Sl)) (i:Nat) (x:Sl):Sl:=match x,m.lookup i with
 | .ow p _,some (.ow _ d)=>.ow p d
 | x,_=>x
def bkL (m:List (Nat × Sl)):Nat->En->En
 | _,[]=>[]
 | n,x :: r=>bk1 m n x :: bkL m (n + 1) r
def zlr (ρ:En) (a:List Itm) (os:List D):En:=bkL (zjm a os) 0 ρ
def zan (F:List D->R (D × List D)) (a:List Ar):EF:=fun ρ=>(znE a ρ).bind fun x=>(zls x.2 x.1).bind fun ds=>(F ds).bind fun y=>.ok (y.1,zlr x.2 x.1 y.2)
def tE (f:EF):TF:=fun ρ=>(f ρ).bind fun x=>(zlS x.1).bind fun b=>.ok (b,x.2)
def tB (f:EF):TF:=fun ρ=>(f ρ).bind fun x=>match x.1 with
 | .bool b=>.ok (b,x.2)
 | _=>.bad
def zis (t u:TF):TF:=fun ρ=>(t ρ).bind fun c=>if c.1=true then u c.2 else .ok (false,c.2)
def tOr (t u:TF):TF:=fun ρ=>(t ρ).bind fun c=>if c.1=true then .ok (true,c.2) else u c.2
def zce (t:TF):TF:=fun ρ=>(t ρ).bind fun c=>.ok (!c.1,c.2)
def za2:TF:=fun ρ=>.ok (true,ρ)
abbrev IF:=En->R (List D × En)
def iE (f:EF):IF:=fun ρ=>(f ρ).bind fun x=>(znc x.1).bind fun l=>.ok (l,x.2)
def iR1 (a:AF):IF:=fun ρ=>(a ρ).bind fun x=>(zlY x.1).bind fun l=>.ok (l,x.2)
def zft:Nat->List D->List D
 | _,[]=>[]
 | n,d :: r=>.tuple [.int n,d] :: zft (n + 1) r
def ziu:List D->List D->List D
 | a :: r,b :: s=>.tuple [a,b] :: ziu r s
 | _,_=>[]
def gN (i:Nat):GF:=fun d ρ=>match ρ[i]? with
 | some (.ow true _)=>.bad
 | some _=>.ok (ρ.set i (.val d))
 | none=>.bad
def zug:List GF->List D->En->R En
 | [],[],ρ=>.ok ρ
 | g :: r,d :: ds,ρ=>(g d ρ).bind fun ρ1=>zug r ds ρ1
 | _,_,_=>.bad
def gT (gs:List GF):GF:=fun d ρ=>match d with
 | .tuple ds=>zug gs ds ρ
 | _=>.bad
def blk (k:Nat) (ix:List Nat) (ρ:En):En:=List.replicate k .no ++ ix.map fun i=>(ρ[i]?).getD .no
def back (ρ:En) (ix:List Nat) (cs:En):En:=bkL (ix.zip cs) 0 ρ
def ziK (k:Nat) (ix:List Nat) (g:GF) (t:TF) (f:EF):List D->En->List D->R (List D × En)
 | [],ρ,acc=>.ok (acc,ρ)
 | x :: xs,ρ,acc=>(g x (blk k ix ρ)).bind fun β=>(t β).bind fun c =>
   if c.1=true then (f c.2).bind fun y=>chk (leB (acc.length + 1) lim) (ziK k ix g t f xs (back ρ ix (y.2.drop k)) (acc ++ [y.1]))
   else ziK k ix g t f xs (back ρ ix (c.2.drop k)) acc
def zaV (k:Nat) (ix:List Nat) (it:IF) (g:GF) (t:TF) (f:EF):EF:=fun ρ=>(it ρ).bind fun x=>(ziK k ix g t f x.1 x.2 []).bind fun y=>.ok (.list y.1,y.2)
def sNx:SF:=fun ρ=>.ok (.nx,ρ)
def zao (s t:SF):SF:=fun ρ=>(s ρ).bind fun x=>match x.1 with
 | .nx=>t x.2
 | _=>.ok x
def sE (f:EF):SF:=fun ρ=>(f ρ).bind fun x=>.ok (.nx,x.2)
def zax (g:GF) (f:EF):SF:=fun ρ=>(f ρ).bind fun x=>(g x.1 x.2).bind fun ρ1=>.ok (.nx,ρ1)
def zcy (i:Nat) (f:EF):SF:=fun ρ=>(f ρ).bind fun x=>match x.2[i]? with
 | some (.ow true _)=>.bad
 | some _=>.ok (.nx,x.2.set i (.ow false x.1))
 | none=>.bad
def zc8 (i:Nat) (s:SF):SF:=fun ρ=>(s ρ).bind fun x=>match x.1 with
 | .nx=>(match x.2[i]? with
  | some (.ow false d)=>.ok (.nx,x.2.set i (.val d))
  | _=>.bad)
 | _=>.ok x
def ziw (i j:Nat) (f h:EF):SF:=fun ρ=>(f ρ).bind fun x=>(h x.2).bind fun y=>(gN i x.1 y.2).bind fun ρ1=>(gN j y.1 ρ1).bind fun ρ2=>.ok (.nx,ρ2)
def zsW (f n:EF):EF:=fun ρ=>(f ρ).bind fun x=>(n x.2).bind fun y=>match y.1 with
 | .int k=>chk (decide (0<=k) && leB k.toNat 1000000) (.ok (.list (List.replicate k.toNat x.1),y.2))
 | _=>.bad
def zqJ (i:Nat) (s:SF):SF:=fun ρ=>match ρ[i]? with
 | some (.ow false d)=>s (ρ.set i (.val d))
 | _=>.bad
def zav (f:EF):SF:=fun ρ=>(f ρ).bind fun x=>.ok (.rt x.1,x.2)
def zcA (f:EF):SF:=fun ρ=>(f ρ).bind fun x=>.ok (.rf x.1,x.2)
def zhj (i:Nat):SF:=fun ρ=>match ρ[i]? with
 | some (.ow false d)=>.ok (.rf d,ρ)
 | _=>.bad
def sIf (t:TF) (a b:SF):SF:=fun ρ=>(t ρ).bind fun c=>if c.1=true then a c.2 else b c.2
def zlM:SF:=fun _=>.bad
def zu0:SF:=fun ρ=>.ok (.bk,ρ)
def forL (g:GF) (b:SF):List D->En->R (Fl × En)
 | [],ρ=>.ok (.nx,ρ)
 | x :: xs,ρ=>(g x ρ).bind fun ρ1=>(b ρ1).bind fun y=>match y.1 with
  | .nx | .ct=>forL g b xs y.2
  | .bk=>.ok (.nx,y.2)
  | .rt d=>.ok (.rt d,y.2)
  | .rf d=>.ok (.rf d,y.2)
def zc7 (it:IF) (g:GF) (b:SF):SF:=fun ρ=>(it ρ).bind fun x=>forL g b x.1 x.2
def zg8 (t:TF) (b:SF):Nat->En->R (Fl × En)
 | 0,_=>.bad
 | n + 1,ρ=>(t ρ).bind fun c=>if c.1=true then (b c.2).bind fun y=>match y.1 with
   | .nx | .ct=>zg8 t b n y.2
   | .bk=>.ok (.nx,y.2)
   | .rt d=>.ok (.rt d,y.2)
   | .rf d=>.ok (.rf d,y.2)
  else .ok (.nx,c.2)
def zhi (fuel:En->Nat) (t:TF) (b:SF):SF:=fun ρ=>zg8 t b (fuel ρ) ρ
def zwF (i:Nat) (u:List D->D->R (List D)) (f:EF):SF:=fun ρ=>(ziz ρ i).bind fun _=>(f ρ).bind fun x=>(ziz x.2 i).bind fun c=>(u c x.1).bind fun c'=>.ok (.nx,zcn x.2 i (.list c'))
def zuw (a:List D) (d:D):R (List D):=chk (leB (a.length + 1) lim) (.ok (a ++ [d]))
def setM (i:Nat) (f k:EF):SF:=fun ρ=>(f ρ).bind fun x=>(ziz x.2 i).bind fun _=>(k x.2).bind fun y=>(ziz y.2 i).bind fun c=>match y.1 with
 | .int j=>(R.of (ixN c.length j)).bind fun n=>.ok (.nx,zcn y.2 i (.list (c.set n x.1)))
 | _=>.bad
def slots:List Bool->List D->En
 | m :: ms,d :: ds=>(if m=true then .ow true d else .val d) :: slots ms ds
 | _,_=>[]
def outD (m:Bool) (d:D) (x:Option Sl):D:=match m,x with
 | true,some (.ow _ d')=>d'
 | _,_=>d
def outs:List Bool->List D->En->List D
 | m :: ms,d :: ds,ρ=>outD m d ρ.head? :: outs ms ds ρ.tail
 | _,_,_=>[]
def run (ms:List Bool) (fr:Bool) (n:Nat) (b:SF) (ds:List D):R (D × List D) :=
 if ds.length=ms.length then (b (slots ms ds ++ List.replicate (n - ds.length) .no)).bind fun x=>match x.1,fr with
  | .rt d,false=>.ok (d,outs ms ds x.2)
  | .rf d,true=>.ok (d,outs ms ds x.2)
  | .nx,false=>.ok (.none,outs ms ds x.2)
  | _,_=>.bad
 else .bad
def zaZ (fr:Bool) (k n:Nat) (b:SF) (ds:List D):R D:=(run (List.replicate k false) fr n b ds).bind fun x=>.ok x.1
end FL
namespace FL
open PySem
end FL
namespace FL
open PySem
abbrev K1:=Int ⊕ Str
abbrev KQ:=List K1 ⊕ K1
def kOf:D->Option K1
 | .int i=>some (.inl i)
 | .str x=>some (.inr x)
 | _=>none
def zt0:List D->Option (List K1)
 | []=>some []
 | d :: r=>(kOf d).bind fun k=>(zt0 r).map fun ks=>k :: ks
def keyOf:D->Option KQ
 | .tuple xs=>(zt0 xs).map .inl
 | .int i=>some (.inr (.inl i))
 | .str x=>some (.inr (.inr x))
 | _=>none
def form:KQ->Bool
 | .inl _=>true
 | .inr _=>false
def keysOk (f:Bool) (kvs:List (D × D)):Bool:=kvs.all fun kv=>match keyOf kv.1 with
 | some q=>form q == f
 | none=>false
def look (kvs:List (D × D)) (q:KQ):Option D:=(kvs.find? fun kv=>decide (keyOf kv.1=some q)).map (·.2)
def zsq (kvs:List (D × D)) (k:D) (q:KQ) (v:D):List (D × D) :=
 if (kvs.any fun kv=>decide (keyOf kv.1=some q))=true then kvs.map fun kv=>if keyOf kv.1=some q then (kv.1,v) else kv else kvs ++ [(k,v)]
def dictAt (d k:D):R (List (D × D) × KQ):=match d with
 | .dict kvs=>(R.of (keyOf k)).bind fun q=>chk (keysOk (form q) kvs) (.ok (kvs,q))
 | _=>.bad
def zhN (d k:D):R (Option D):=(dictAt d k).bind fun x=>.ok (look x.1 x.2)
def zuE (k d:D):R D:=(zhN d k).bind fun o=>.ok (.bool (!o.isSome))
def zgn (d k:D):R D:=(zhN d k).bind fun o=>R.of o
def zqd (d k v:D):R D:=(dictAt d k).bind fun x=>chk (leB (x.1.length + 1) lim) (.ok (.dict (zsq x.1 k x.2 v)))
def zvW:D->R (List D)
 | .dict kvs=>.ok (kvs.map (·.1))
 | _=>.bad
def e3 (g:D->D->D->R D) (d k x:EF):EF:=fun ρ=>(d ρ).bind fun c=>(k c.2).bind fun a=>(x a.2).bind fun b=>(g c.1 a.1 b.1).bind fun r=>.ok (r,b.2)
def zrW (i:Nat) (k f:EF):SF:=fun ρ=>(f ρ).bind fun v=>(zaU v.2 i).bind fun _=>(k v.2).bind fun a=>(zaU a.2 i).bind fun c=>(zqd c a.1 v.1).bind fun d=>.ok (.nx,zcn a.2 i d)
def iD (f:EF):IF:=fun ρ=>(f ρ).bind fun x=>(zvW x.1).bind fun l=>.ok (l,x.2)
def znp:EF:=fun ρ=>.ok (.dict [],ρ)
end FL
namespace FL
open PySem
def zdK (i:Nat) (ρ:En):Nat:=match ρ[i]? with
 | some (.val (.int n))=>n.natAbs + 1
 | _=>0
abbrev WK:=Int × List Int
def ltW (p q:WK):Bool:=if p.1=q.1 then lexLt p.2 q.2 else decide (p.1 < q.1)
def insI (x:Int):List Int->List Int
 | []=>[x]
 | y :: r=>if y < x then y :: insI x r else x :: y :: r
def zgj:List Int->List Int
 | []=>[]
 | x :: r=>insI x (zgj r)
def zye:D->R D
 | .list a=>(R.of (intsOf a)).bind fun ns=>chk (leB (ns.length + 1) 64) (.ok (.list ((zgj ns).map .int)))
 | .tuple a=>(R.of (intsOf a)).bind fun ns=>chk (leB (ns.length + 1) 64) (.ok (.list ((zgj ns).map .int)))
 | _=>.bad
def zuF (k d:D):R D:=match d with
 | .list xs=>chk (SeqAt.shaped (.list xs) && SeqAt.shaped k) (.ok (.bool (xs.any fun y=>PyData.eqv y k)))
 | .tuple xs=>chk (SeqAt.shaped (.tuple xs) && SeqAt.shaped k) (.ok (.bool (xs.any fun y=>PyData.eqv y k)))
 | _=>.bad
theorem insI_perm (x:Int):∀ l,(insI x l).Perm (x :: l)
 | []=>.refl _
 | y :: r=>by
  unfold insI
  split
  ·exact ((insI_perm x r).cons y).trans (.swap x y r)
  ·exact .refl _
theorem zeZ:∀ l:List Int,(zgj l).Perm l
 | []=>.refl _
 | x :: r=>(insI_perm x _).trans ((zeZ r).cons x)
theorem zhD (x:Int):∀ l:List Int,l.Pairwise (·<=·)->(insI x l).Pairwise (·<=·)
 | [],_=>by simp [insI]
 | y :: r,h=>by
  unfold insI
  rw [List.pairwise_cons] at h
  split
  ·rw [List.pairwise_cons]
   refine ⟨fun z hz=>?_,zhD x r h.2⟩
   have:=(insI_perm x r).mem_iff.mp hz
   rcases List.mem_cons.mp this with rfl | hz
   ·omega
   ·exact h.1 z hz
  ·rw [List.pairwise_cons]
   refine ⟨fun z hz=>?_,List.pairwise_cons.mpr h⟩
   rcases List.mem_cons.mp hz with rfl | hz
   ·omega
   ·have:=h.1 z hz;omega
theorem zdf:∀ l:List Int,(zgj l).Pairwise (·<=·)
 | []=>.nil
 | x :: r=>zhD x _ (zdf r)
end FL
namespace FL
open PySem L2 PySem.Spec
open PyProof.Rows hiding St
class Cs where
 C:Hp
 st:∀ a u,C a=some u->∃ o xs,u=.frz o (.tup xs)
def FzL (K:PySem.W.Frag) (H:Hp) (a:Addr) (xs:List V):Prop:=(∃ o,H a=some (.frz o (.lst xs))) \/
 ∃ (o:Obj) (its:Array Value) (n:Nat),K.lookup a=some o/\o.cls=.type "list"/\o.dict=none/\o.data=.seq its n/\its.size<=sizeLine/\Vals xs its.toList
def kD:Key->PyData
 | .inl i=>.int i
 | .inr x=>.str x
def zqK (k:List Key):PyData:=.tuple (k.map kD)
mutual
def Fz (K:PySem.W.Frag) (H:Hp):PyData->V->Prop
 | .none,v=>v=.non
 | .bool b,v=>v=.bl b
 | .int i,v=>v=.int i
 | .str x,v=>v=.str x
 | .list xs,v=>∃ a vs,v=.ref a/\FzL K H a vs/\zak K H xs vs
 | .tuple xs,v=>∃ a vs,v=.ref a/\TAt H a vs/\zak K H xs vs
 | .dict kvs,v=>∃ a o,v=.ref a/\((∃ kk,H a=some (.frz o (.dT kk))/\zb8 K H kvs kk)\/∃ kk,H a=some (.frz o (.dK kk))/\zb9 K H kvs kk)
def zak (K:PySem.W.Frag) (H:Hp):List PyData->List V->Prop
 | [],vs=>vs=[]
 | d :: ds,vs=>∃ v r,vs=v :: r/\Fz K H d v/\zak K H ds r
def zb8 (K:PySem.W.Frag) (H:Hp):List (PyData × PyData)->List (List Key × V)->Prop
 | [],kk=>kk=[]
 | (k,d) :: r,kk=>∃ q v t,kk=(q,v) :: t/\k=zqK q/\Fz K H d v/\zb8 K H r t
def zb9 (K:PySem.W.Frag) (H:Hp):List (PyData × PyData)->List (Key × V)->Prop
 | [],kk=>kk=[]
 | (k,d) :: r,kk=>∃ q v t,kk=(q,v) :: t/\k=kD q/\Fz K H d v/\zb9 K H r t
end
def zwz:HO->Prop
 | .tup _=>True
 | .frz _ _=>True
 | _=>False
def Fzn (H H':Hp):Prop:=∀ a o,H a=some o->zwz o->H' a=some o
theorem Fzn.refl (H:Hp):Fzn H H:=fun _ _ h _=>h
theorem Fzn.trans {H H1 H2:Hp} (a:Fzn H H1) (b:Fzn H1 H2):Fzn H H2:=fun c o h s=>b c o (a c o h s) s
theorem Fzn.of {H H':Hp} (s:zbj H H'):Fzn H H':=fun a o h _=>s a o h
section
variable {K:PySem.W.Frag} {H H':Hp}
theorem Fzn.zwG {a:Addr} {xs:List V} (e:Fzn H H') (h:TAt H a xs):TAt H' a xs:=by
 rcases h with h | ⟨o,h⟩
 ·exact .inl (e _ _ h trivial)
 ·exact .inr ⟨o,e _ _ h trivial⟩
theorem Fzn.znR {a:Addr} {xs:List V} (e:Fzn H H') (h:FzL K H a xs):FzL K H' a xs:=by
 rcases h with ⟨o,h⟩ | h
 ·exact .inl ⟨o,e _ _ h trivial⟩
 ·exact .inr h
theorem FzL.sq {a:Addr} {xs:List V} (h:FzL K H a xs):SqL K H a xs:=by
 rcases h with ⟨o,h⟩ | h
 ·exact .inl (.inr ⟨o,h⟩)
 ·exact .inr h
mutual
theorem Fz.mono (e:Fzn H H'):∀ (d:PyData) (v:V),Fz K H d v->Fz K H' d v
 | .none,v,h=>by simp only [Fz] at h ⊢;exact h
 | .bool b,v,h=>by simp only [Fz] at h ⊢;exact h
 | .int i,v,h=>by simp only [Fz] at h ⊢;exact h
 | .str x,v,h=>by simp only [Fz] at h ⊢;exact h
 | .list xs,v,h=>by
  simp only [Fz] at h ⊢
  obtain ⟨a,vs,e1,h1,h2⟩:=h
  exact ⟨a,vs,e1,e.znR h1,zak.mono e xs vs h2⟩
 | .tuple xs,v,h=>by
  simp only [Fz] at h ⊢
  obtain ⟨a,vs,e1,h1,h2⟩:=h
  exact ⟨a,vs,e1,e.zwG h1,zak.mono e xs vs h2⟩
 | .dict kvs,v,h=>by
  simp only [Fz] at h ⊢
  obtain ⟨a,o,e1,h⟩:=h
  rcases h with ⟨kk,h1,h2⟩ | ⟨kk,h1,h2⟩
  ·exact ⟨a,o,e1,.inl ⟨kk,e _ _ h1 trivial,zb8.mono e kvs kk h2⟩⟩
  ·exact ⟨a,o,e1,.inr ⟨kk,e _ _ h1 trivial,zb9.mono e kvs kk h2⟩⟩
theorem zak.mono (e:Fzn H H'):∀ (ds:List PyData) (vs:List V),zak K H ds vs->zak K H' ds vs
 | [],vs,h=>by simp only [zak] at h ⊢;exact h
 | d :: ds,vs,h=>by
  simp only [zak] at h ⊢
  obtain ⟨v,r,e1,h1,h2⟩:=h
  exact ⟨v,r,e1,Fz.mono e d v h1,zak.mono e ds r h2⟩
theorem zb8.mono (e:Fzn H H'):∀ (kvs:List (PyData × PyData)) (kk:List (List Key × V)),zb8 K H kvs kk->zb8 K H' kvs kk
 | [],kk,h=>by simp only [zb8] at h ⊢;exact h
 | (k,d) :: r,kk,h=>by
  simp only [zb8] at h ⊢
  obtain ⟨q,v,t,e1,e2,h1,h2⟩:=h
  exact ⟨q,v,t,e1,e2,Fz.mono e d v h1,zb8.mono e r t h2⟩
theorem zb9.mono (e:Fzn H H'):∀ (kvs:List (PyData × PyData)) (kk:List (Key × V)),zb9 K H kvs kk->zb9 K H' kvs kk
 | [],kk,h=>by simp only [zb9] at h ⊢;exact h
 | (k,d) :: r,kk,h=>by
  simp only [zb9] at h ⊢
  obtain ⟨q,v,t,e1,e2,h1,h2⟩:=h
  exact ⟨q,v,t,e1,e2,Fz.mono e d v h1,zb9.mono e r t h2⟩
end
theorem zak.len:∀ {ds:List PyData} {vs:List V},zak K H ds vs->vs.length=ds.length
 | [],vs,h=>by simp only [zak] at h;subst h;rfl
 | d :: ds,vs,h=>by
  simp only [zak] at h
  obtain ⟨v,r,rfl,_,h2⟩:=h
  simp [zak.len h2]
theorem zak.get:∀ {ds:List PyData} {vs:List V} {i:Nat} {d:PyData},zak K H ds vs->ds[i]?=some d->∃ v,vs[i]?=some v/\Fz K H d v
 | [],vs,i,d,h,e=>by simp at e
 | d0 :: ds,vs,i,d,h,e=>by
  simp only [zak] at h
  obtain ⟨v,r,rfl,h1,h2⟩:=h
  cases i with
  | zero=>simp at e;subst e;exact ⟨v,by simp,h1⟩
  | succ i =>
   obtain ⟨w,e1,f⟩:=zak.get h2 (by simpa using e)
   exact ⟨w,by simpa using e1,f⟩
theorem zak.app:∀ {ds es:List PyData} {vs ws:List V},zak K H ds vs->zak K H es ws->zak K H (ds ++ es) (vs ++ ws)
 | [],es,vs,ws,h,g=>by simp only [zak] at h;subst h;exact g
 | d :: ds,es,vs,ws,h,g=>by
  simp only [zak] at h
  obtain ⟨v,r,rfl,h1,h2⟩:=h
  simp only [List.cons_append,zak]
  exact ⟨v,r ++ ws,rfl,h1,zak.app h2 g⟩
theorem zak.take:∀ {ds:List PyData} {vs:List V} (n:Nat),zak K H ds vs->zak K H (ds.take n) (vs.take n)
 | ds,vs,0,h=>by simp [zak]
 | [],vs,n + 1,h=>by simp only [zak] at h;subst h;simp [zak]
 | d :: ds,vs,n + 1,h=>by
  simp only [zak] at h
  obtain ⟨v,r,rfl,h1,h2⟩:=h
  simp only [List.take_succ_cons,zak]
  exact ⟨v,_,rfl,h1,zak.take n h2⟩
theorem zak.drop:∀ {ds:List PyData} {vs:List V} (n:Nat),zak K H ds vs->zak K H (ds.drop n) (vs.drop n)
 | ds,vs,0,h=>by simpa using h
 | [],vs,n + 1,h=>by simp only [zak] at h;subst h;simp [zak]
 | d :: ds,vs,n + 1,h=>by
  simp only [zak] at h
  obtain ⟨v,r,rfl,h1,h2⟩:=h
  simpa using zak.drop n h2
theorem zak.set:∀ {ds:List PyData} {vs:List V} {d:PyData} {v:V} (n:Nat),zak K H ds vs->Fz K H d v->zak K H (ds.set n d) (vs.set n v)
 | [],vs,d,v,n,h,f=>by simp only [zak] at h;subst h;simp [zak]
 | d0 :: ds,vs,d,v,n,h,f=>by
  simp only [zak] at h
  obtain ⟨v0,r,rfl,h1,h2⟩:=h
  cases n with
  | zero=>simp only [List.set_cons_zero,zak];exact ⟨v,r,rfl,f,h2⟩
  | succ n=>simp only [List.set_cons_succ,zak];exact ⟨v0,_,rfl,h1,zak.set n h2 f⟩
theorem zak.rep {ds:List PyData} {vs:List V} (h:zak K H ds vs):∀ k:Nat,zak K H (List.replicate k ds).flatten (List.replicate k vs).flatten
 | 0=>by simp [zak]
 | k + 1=>by simp only [List.replicate_succ,List.flatten_cons];exact zak.app h (zak.rep h k)
theorem zak.ints:∀ {ds:List PyData} {vs:List V} {ns:List Int},zak K H ds vs->intsOf ds=some ns->vs=ns.map V.int/\ds=ns.map PyData.int
 | [],vs,ns,h,e=>by simp only [zak] at h;simp only [intsOf,Option.some.injEq] at e;subst h;subst e;exact ⟨rfl,rfl⟩
 | d :: ds,vs,ns,h,e=>by
  simp only [zak] at h
  obtain ⟨v,r,rfl,h1,h2⟩:=h
  cases d with
  | int i =>
   simp only [intsOf,Option.map_eq_some_iff] at e
   obtain ⟨ms,e1,rfl⟩:=e
   obtain ⟨a,b⟩:=zak.ints h2 e1
   simp only [Fz] at h1
   subst h1;subst a;subst b
   exact ⟨rfl,rfl⟩
  | _=>simp [intsOf] at e
theorem zak.bools:∀ {ds:List PyData} {vs:List V} {ns:List Bool},zak K H ds vs->boolsOf ds=some ns->vs=ns.map V.bl/\ds=ns.map PyData.bool
 | [],vs,ns,h,e=>by simp only [zak] at h;simp only [boolsOf,Option.some.injEq] at e;subst h;subst e;exact ⟨rfl,rfl⟩
 | d :: ds,vs,ns,h,e=>by
  simp only [zak] at h
  obtain ⟨v,r,rfl,h1,h2⟩:=h
  cases d with
  | bool i =>
   simp only [boolsOf,Option.map_eq_some_iff] at e
   obtain ⟨ms,e1,rfl⟩:=e
   obtain ⟨a,b⟩:=zak.bools h2 e1
   simp only [Fz] at h1
   subst h1;subst a;subst b
   exact ⟨rfl,rfl⟩
  | _=>simp [boolsOf] at e
theorem zak.ofInts:∀ (ns:List Int),zak K H (ns.map PyData.int) (ns.map V.int)
 | []=>by simp [zak]
 | i :: r=>by simp only [List.map_cons,zak];exact ⟨_,_,rfl,by simp [Fz],zak.ofInts r⟩
end
def zbL (K:PySem.W.Frag) (H:Hp) (a:Addr):PyData->Prop
 | .list ds=>∃ vs,H a=some (.lst vs)/\zak K H ds vs
 | .dict kvs=>(∃ kk,H a=some (.dT kk)/\zb8 K H kvs kk)\/∃ kk,H a=some (.dK kk)/\zb9 K H kvs kk
 | _=>False
def Tp (K:PySem.W.Frag) (H:Hp):PyData->V->Prop
 | .list ds,v=>∃ a vs,v=.ref a/\SqL K H a vs/\zak K H ds vs
 | .dict kvs,v=>∃ a,v=.ref a/\((∃ kk,Rd H a (.dT kk)/\zb8 K H kvs kk)\/∃ kk,Rd H a (.dK kk)/\zb9 K H kvs kk)
 | d,v=>Fz K H d v
section
variable {K:PySem.W.Frag} {H H':Hp}
theorem Fz.tp {d:PyData} {v:V} (h:Fz K H d v):Tp K H d v:=by
 cases d with
 | list ds =>
  simp only [Fz] at h
  obtain ⟨a,vs,e,h1,h2⟩:=h
  exact ⟨a,vs,e,h1.sq,h2⟩
 | dict kvs =>
  simp only [Fz] at h
  obtain ⟨a,o,e,h⟩:=h
  rcases h with ⟨kk,h1,h2⟩ | ⟨kk,h1,h2⟩
  ·exact ⟨a,e,.inl ⟨kk,.inr ⟨o,h1⟩,h2⟩⟩
  ·exact ⟨a,e,.inr ⟨kk,.inr ⟨o,h1⟩,h2⟩⟩
 | _=>exact h
theorem zbL.tp {d:PyData} {a:Addr} (h:zbL K H a d):Tp K H d (.ref a):=by
 cases d with
 | list ds =>
  obtain ⟨vs,h1,h2⟩:=h
  exact ⟨a,vs,rfl,SqL.of h1,h2⟩
 | dict kvs =>
  rcases h with ⟨kk,h1,h2⟩ | ⟨kk,h1,h2⟩
  ·exact ⟨a,rfl,.inl ⟨kk,.inl h1,h2⟩⟩
  ·exact ⟨a,rfl,.inr ⟨kk,.inl h1,h2⟩⟩
 | _=>exact h.elim
def Own:HO->Prop
 | .lst _=>True
 | .dT _=>True
 | .dK _=>True
 | _=>False
theorem zbL.own {d:PyData} {a:Addr} (h:zbL K H a d):∃ o,H a=some o/\Own o:=by
 cases d with
 | list ds=>obtain ⟨vs,h1,_⟩:=h;exact ⟨_,h1,trivial⟩
 | dict kvs =>
  rcases h with ⟨kk,h1,h2⟩ | ⟨kk,h1,h2⟩
  ·exact ⟨_,h1,trivial⟩
  ·exact ⟨_,h1,trivial⟩
 | _=>exact h.elim
theorem Own.zdA {o:HO} (h:Own o):¬ zwz o:=by cases o <;> first | exact fun z=>z | exact h.elim
theorem zbL.mono {d:PyData} {a:Addr} (e:Fzn H H') (k:H' a=H a) (h:zbL K H a d):zbL K H' a d:=by
 cases d with
 | list ds=>obtain ⟨vs,h1,h2⟩:=h;exact ⟨vs,by rw [k];exact h1,h2.mono e⟩
 | dict kvs =>
  rcases h with ⟨kk,h1,h2⟩ | ⟨kk,h1,h2⟩
  ·exact .inl ⟨kk,by rw [k];exact h1,h2.mono e⟩
  ·exact .inr ⟨kk,by rw [k];exact h1,h2.mono e⟩
 | _=>exact h.elim
end
def zuy (K:PySem.W.Frag) (H:Hp):Sl->Option V->Prop
 | .no,_=>True
 | .val d,some v=>Fz K H d v
 | .ow _ d,some (.ref a)=>zbL K H a d
 | _,_=>False
def At (ρ:En) (σ:St) (i:Nat) (a:Addr):Prop:=(∃ p d,ρ[i]?=some (.ow p d))/\σ[i]?=some (some (.ref a))
def zuB [Cs] (H:Hp):Prop:=∀ a u,Cs.C a=some u->H a=some u
theorem zuB.mono [Cs] {H H':Hp} (h:zuB H) (e:Fzn H H'):zuB H':=fun a u q=>e a u (h a u q) (by
 obtain ⟨o,xs,rfl⟩:=Cs.st a u q
 trivial)
structure Rel [Cs] (K:PySem.W.Frag) (ρ:En) (σ:St) (H:Hp):Prop where
 len:ρ.length=σ.length
 ok:∀ (i:Nat) x v,ρ[i]?=some x->σ[i]?=some v->zuy K H x v
 sep:∀ i j a,At ρ σ i a->At ρ σ j a->i=j
 cst:zuB H
variable [Cs]
def MA (ρ:En) (σ:St) (a:Addr):Prop:=∃ i,At ρ σ i a
structure Stp (ρ ρ':En) (σ:St) (H H':Hp):Prop where
 md:∀ (i:Nat) p,(∃ d,ρ[i]?=some (.ow p d)) ↔ ∃ d,ρ'[i]?=some (.ow p d)
 kp:∀ a o,H a=some o->¬ MA ρ σ a->H' a=some o
section
variable {K:PySem.W.Frag} {ρ ρ' ρ'':En} {σ:St} {H H' H'':Hp}
theorem Rel.zws (r:Rel K ρ σ H) {i:Nat} {a:Addr} (h:At ρ σ i a):∃ p d,ρ[i]?=some (.ow p d)/\zbL K H a d:=by
 obtain ⟨⟨p,d,e⟩,e2⟩:=h
 exact ⟨p,d,e,r.ok i _ _ e e2⟩
theorem Rel.zbe (r:Rel K ρ σ H) {a:Addr} (h:MA ρ σ a):∃ o,H a=some o/\Own o:=by
 obtain ⟨i,h⟩:=h
 obtain ⟨p,d,_,m⟩:=r.zws h
 exact m.own
theorem Stp.refl:Stp ρ ρ σ H H:=⟨fun _ _=>Iff.rfl,fun _ _ h _=>h⟩
theorem Stp.ma (s:Stp ρ ρ' σ H H') {a:Addr}:MA ρ σ a ↔ MA ρ' σ a:=by
 constructor
 ·rintro ⟨i,⟨p,h⟩,e⟩;exact ⟨i,⟨p,(s.md i p).mp h⟩,e⟩
 ·rintro ⟨i,⟨p,h⟩,e⟩;exact ⟨i,⟨p,(s.md i p).mpr h⟩,e⟩
theorem Stp.trans (a:Stp ρ ρ' σ H H') (b:Stp ρ' ρ'' σ H' H''):Stp ρ ρ'' σ H H'' :=
 ⟨fun i p=>(a.md i p).trans (b.md i p),fun c o h n=>b.kp c o (a.kp c o h n) fun z=>n (a.ma.mpr z)⟩
theorem Stp.of (s:zbj H H'):Stp ρ ρ σ H H':=⟨fun _ _=>Iff.rfl,fun a o h _=>s a o h⟩
theorem Stp.fzn (s:Stp ρ ρ' σ H H') (r:Rel K ρ σ H):Fzn H H':=fun a o h st=>s.kp a o h fun m=>by
 obtain ⟨o',e,w⟩:=r.zbe m
 rw [h] at e
 cases e
 exact w.zdA st
theorem zuy.mono {x:Sl} {v:Option V} (f:Fzn H H') (k:∀ a,v=some (.ref a)->(∃ p d,x=.ow p d)->H' a=H a) (h:zuy K H x v):zuy K H' x v:=by
 cases x with
 | no=>trivial
 | val d=>cases v with
  | none=>exact h.elim
  | some v=>exact Fz.mono f d v h
 | ow p d=>cases v with
  | none=>exact h.elim
  | some v=>cases v with
   | ref a=>exact zbL.mono f (k a rfl ⟨p,d,rfl⟩) h
   | _=>exact h.elim
theorem Rel.same (r:Rel K ρ σ H) (s:zbj H H'):Rel K ρ σ H':=by
 refine ⟨r.len,fun i x v e1 e2=>(r.ok i x v e1 e2).mono (Fzn.of s) fun a e3 ⟨p,d,e4⟩=>?_,r.sep,r.cst.mono (Fzn.of s)⟩
 subst e3;subst e4
 obtain ⟨o,e,_⟩:=r.zbe ⟨i,⟨p,d,e1⟩,e2⟩
 rw [e,s a o e]
theorem Rel.put {a:Addr} {o:HO} (r:Rel K ρ σ H) (n:¬ MA ρ σ a) (ns:∀ u,H a=some u->¬ zwz u):Rel K ρ σ (upd H a o):=by
 have f:Fzn H (upd H a o):=fun b u e st=>by
  rw [zau fun z=>by subst z;exact ns u e st]
  exact e
 refine ⟨r.len,fun i x v e1 e2=>(r.ok i x v e1 e2).mono f fun b e3 ⟨p,d,e4⟩=>?_,r.sep,r.cst.mono f⟩
 subst e3;subst e4
 exact zau fun z=>n ⟨i,⟨p,d,e1⟩,z ▸ e2⟩
end
end FL
namespace FL
open PySem L2 PySem.Spec
open PyProof.Rows hiding St
variable [Cs]
section
variable {X:Cx} {pins:List (Addr × Obj)} {σ:L2.St} {H:Hp} {s:Shared}
theorem zxy {a:Addr} {u:HO} {o:Obj} (I:Inv X pins σ H s) (hd:H a=some u) (ow:Own u) (ho:s.heap.get? a=some o):Inv X pins σ (upd H a (.frz o u)) s:=by
 have ne:∀ b w,H b=some w->¬ Own w->b ≠ a:=fun b w e n z=>by
  subst z
  rw [e] at hd
  cases hd
  exact n ow
 refine Inv.step (s:=s) (h':=s.heap) (H':=upd H a (.frz o u)) (g':=s.gens) (t':=s.toks) (d':=s.drawn) (ch:=[]) I (fun _ z=>nomatch z) (fun b o _ _ _ e _=>e) (fun b o _ _ _ e _=>⟨o.slots,e⟩) (fun b _ _ _ n=>?_) (fun b o _ e=>⟨o,e⟩)
  (fun b xs e=>?_) (fun b o u e=>?_) (fun b ps e=>⟨#[],?_⟩) (fun m hm=>hm) (fun b w e=>?_) I.bare
 ·rw [zau fun z=>by subst z;rw [n] at hd;cases hd];exact n
 ·rw [zau (ne b _ e fun z=>z)];exact e
 ·rw [zau (ne b _ e fun z=>z)];exact e
 ·rw [zau (ne b _ e fun z=>z),e];simp
 ·have st:∀ (b:Addr) (w:HO),zbx X.prog X.w H s.heap b w->zbx X.prog X.w (upd H a (.frz o u)) s.heap b w:=fun b w k =>
   k.stay (fun _ _ _ q=>q) (fun b' q=>by rw [zau (ne b' _ q fun z=>z)];exact q) (fun b' xs q=>q.upd (fun _ r=>ne b' _ r fun z=>z) fun _ _ r=>ne b' _ r fun z=>z)
  by_cases c:b=a
  ·subst c
   rw [zap] at e
   cases e
   exact ⟨ho,st b u (I.hok b u hd)⟩
  ·rw [zau c] at e
   exact st b w (I.hok b w e)
theorem zwj {Q:VK} {w:Value} (h:EP X pins σ (fun v H1=>∃ a u,v=.ref a/\H1 a=some u/\Own u/\∀ o,Q v (upd H1 a (.frz o u))) w s):EP X pins σ Q w s:=by
 obtain ⟨v,H1,I,r,a,u,e,e1,ow,q⟩:=h
 obtain ⟨o,ho⟩:=(I.hok a u e1).some
 exact ⟨v,_,zxy I e1 ow ho,r,q o⟩
def tFz (t:TE):TE:=fun σ H Q=>t σ H fun v H1=>∃ a u,v=.ref a/\H1 a=some u/\Own u/\∀ o,Q v (upd H1 a (.frz o u))
theorem zxd {e:Expr} {t:TE} (h:PE X e t):PE X e (tFz t):=fun pins s σ H Q I q=>thn (h pins s σ H _ I q) fun _ _ z=>zwj z
end
def Good {β:Type} (K:PySem.W.Frag) (ρ:En) (σ:L2.St) (H:Hp) (r:R (β × En)) (P:β->En->Hp->Prop):Prop:=match r with
 | .ok x=>∀ H',Rel K x.2 σ H'->Stp ρ x.2 σ H H'->P x.1 x.2 H'
 | _=>False
def tV (K:PySem.W.Frag) (f:EF):TE:=fun σ H Q=>∃ ρ,Rel K ρ σ H/\Good K ρ σ H (f ρ) fun d _ H'=>∀ v,Fz K H' d v->Q v H'
def tT (K:PySem.W.Frag) (f:TF):TT:=fun σ H Q=>∃ ρ,Rel K ρ σ H/\Good K ρ σ H (f ρ) fun b _ H'=>Q b H'
def tA (K:PySem.W.Frag) (f:AF):TA:=fun σ H Q=>∃ ρ,Rel K ρ σ H/\Good K ρ σ H (f ρ) fun ds _ H'=>∀ vs,zak K H' ds vs->Q vs H'
def tO (K:PySem.W.Frag) (f:OF):TO:=fun σ H Q=>∃ ρ,Rel K ρ σ H/\Good K ρ σ H (f ρ) fun o _ H'=>Q o H'
def tN (K:PySem.W.Frag) (f:EF):TE:=fun σ H Q=>∃ ρ,Rel K ρ σ H/\Good K ρ σ H (f ρ) fun d ρ' H'=>∀ a,H a=none->zbL K H' a d->Q (.ref a) H'
def PV (K:PySem.W.Frag) (X:Cx) (e:Expr) (f:EF):Prop:=X.K=K->PE X e (tV K f)
def PVT (K:PySem.W.Frag) (X:Cx) (e:Expr) (f:TF):Prop:=X.K=K->PT X e (tT K f)
def PVW (K:PySem.W.Frag) (X:Cx) (e:Expr) (f:TF):Prop:=X.K=K->PW X e (tT K f)
def PVA (K:PySem.W.Frag) (X:Cx) (es:List Expr) (f:AF):Prop:=X.K=K->PA X es (tA K f)
def PVO (K:PySem.W.Frag) (X:Cx) (e:Option Expr) (f:OF):Prop:=X.K=K->PO X e (tO K f)
def PVN (K:PySem.W.Frag) (X:Cx) (e:Expr) (f:EF):Prop:=X.K=K->PE X e (tN K f)
theorem _root_.L2.PE.weak {X:Cx} {e:Expr} {t t':TE} (h:PE X e t) (w:∀ σ H Q,t' σ H Q->t σ H Q):PE X e t':=fun pins s σ H Q I q=>h pins s σ H Q I (w σ H Q q)
theorem _root_.L2.PT.weak {X:Cx} {e:Expr} {t t':TT} (h:PT X e t) (w:∀ σ H Q,t' σ H Q->t σ H Q):PT X e t':=fun pins s σ H Q I q=>h pins s σ H Q I (w σ H Q q)
theorem _root_.L2.PW.weak {X:Cx} {e:Expr} {t t':TT} (h:PW X e t) (w:∀ σ H Q,t' σ H Q->t σ H Q):PW X e t':=fun wh pins s σ H Q I q=>h wh pins s σ H Q I (w σ H Q q)
theorem _root_.L2.PA.weak {X:Cx} {e:List Expr} {t t':TA} (h:PA X e t) (w:∀ σ H Q,t' σ H Q->t σ H Q):PA X e t':=fun pos pins s σ H Q I q=>h pos pins s σ H Q I (w σ H Q q)
theorem _root_.L2.PO.weak {X:Cx} {e:Option Expr} {t t':TO} (h:PO X e t) (w:∀ σ H Q,t' σ H Q->t σ H Q):PO X e t':=fun pins s σ H Q I q=>h pins s σ H Q I (w σ H Q q)
section
variable {K:PySem.W.Frag} {ρ ρ1:En} {σ:L2.St} {H H1:Hp} {β γ:Type}
theorem Good.step {r:R (β × En)} {P:β->En->Hp->Prop} (st:Stp ρ ρ1 σ H H1) (g:Good K ρ σ H r P):Good K ρ1 σ H1 r P:=by
 cases r with
 | ok x=>exact fun H' rel s=>g H' rel (st.trans s)
 | _=>exact g
theorem Good.bnd {r:R (β × En)} {k:β × En->R (γ × En)} {P:γ->En->Hp->Prop} (g:Good K ρ σ H (r.bind k) P):∃ x,r=.ok x/\Good K ρ σ H (k x) P:=by
 cases r with
 | ok x=>exact ⟨x,rfl,g⟩
 | _=>exact g.elim
theorem Good.zgO {r:R β} {k:β->R (γ × En)} {P:γ->En->Hp->Prop} (g:Good K ρ σ H (r.bind k) P):∃ x,r=.ok x/\Good K ρ σ H (k x) P:=by
 cases r with
 | ok x=>exact ⟨x,rfl,g⟩
 | _=>exact g.elim
theorem Good.chk {c:Bool} {r:R (γ × En)} {P:γ->En->Hp->Prop} (g:Good K ρ σ H (chk c r) P):c=true/\Good K ρ σ H r P:=by
 cases c with
 | true=>exact ⟨rfl,g⟩
 | false=>exact g.elim
theorem Good.now {x:β} {P:β->En->Hp->Prop} (g:Good K ρ σ H (.ok (x,ρ)) P) (rel:Rel K ρ σ H):P x ρ H:=g H rel .refl
theorem Good.new {x:β} {P:β->En->Hp->Prop} (g:Good K ρ σ H (.ok (x,ρ)) P) (rel:Rel K ρ σ H) (s:zbj H H1):P x ρ H1:=g H1 (rel.same s) (.of s)
theorem goV {f:EF} {k:D × En->R (β × En)} {S:VK} {P:β->En->Hp->Prop} (rel:Rel K ρ σ H) (g:Good K ρ σ H ((f ρ).bind k) P)
  (h:∀ d ρ1 v H1,Rel K ρ1 σ H1->Stp ρ ρ1 σ H H1->Fz K H1 d v->Good K ρ1 σ H1 (k (d,ρ1)) P->S v H1):tV K f σ H S:=by
 obtain ⟨x,e,g1⟩:=g.bnd
 refine ⟨ρ,rel,?_⟩
 rw [e]
 exact fun H' r s v fz=>h x.1 x.2 v H' r s fz (g1.step s)
theorem goT {f:TF} {k:Bool × En->R (β × En)} {S:Bool->Hp->Prop} {P:β->En->Hp->Prop} (rel:Rel K ρ σ H) (g:Good K ρ σ H ((f ρ).bind k) P)
  (h:∀ b ρ1 H1,Rel K ρ1 σ H1->Stp ρ ρ1 σ H H1->Good K ρ1 σ H1 (k (b,ρ1)) P->S b H1):tT K f σ H S:=by
 obtain ⟨x,e,g1⟩:=g.bnd
 refine ⟨ρ,rel,?_⟩
 rw [e]
 exact fun H' r s=>h x.1 x.2 H' r s (g1.step s)
theorem goA {f:AF} {k:List D × En->R (β × En)} {S:List V->Hp->Prop} {P:β->En->Hp->Prop} (rel:Rel K ρ σ H) (g:Good K ρ σ H ((f ρ).bind k) P)
  (h:∀ ds ρ1 vs H1,Rel K ρ1 σ H1->Stp ρ ρ1 σ H H1->zak K H1 ds vs->Good K ρ1 σ H1 (k (ds,ρ1)) P->S vs H1):tA K f σ H S:=by
 obtain ⟨x,e,g1⟩:=g.bnd
 refine ⟨ρ,rel,?_⟩
 rw [e]
 exact fun H' r s vs fz=>h x.1 x.2 vs H' r s fz (g1.step s)
theorem goO {f:OF} {k:Option Int × En->R (β × En)} {S:Option Int->Hp->Prop} {P:β->En->Hp->Prop} (rel:Rel K ρ σ H) (g:Good K ρ σ H ((f ρ).bind k) P)
  (h:∀ b ρ1 H1,Rel K ρ1 σ H1->Stp ρ ρ1 σ H H1->Good K ρ1 σ H1 (k (b,ρ1)) P->S b H1):tO K f σ H S:=by
 obtain ⟨x,e,g1⟩:=g.bnd
 refine ⟨ρ,rel,?_⟩
 rw [e]
 exact fun H' r s=>h x.1 x.2 H' r s (g1.step s)
end
def rD (K:PySem.W.Frag) (g:D->D->R D):R2:=fun x y H Q=>∃ dx dy d,Tp K H dx x/\Tp K H dy y/\g dx dy=.ok d/\∀ v H',zbj H H'->Fz K H' d v->Q v H'
def rD1 (K:PySem.W.Frag) (g:D->R D):V->Hp->VK->Prop:=fun x H Q=>∃ dx d,Tp K H dx x/\g dx=.ok d/\∀ v H',zbj H H'->Fz K H' d v->Q v H'
def rDs (K:PySem.W.Frag) (G:List D->R D):List V->Hp->VK->Prop:=fun xs H Q=>∃ ds d,zak K H ds xs/\G ds=.ok d/\∀ v H',zbj H H'->Fz K H' d v->Q v H'
def rD0 (K:PySem.W.Frag) (g:D->R D):List V->Hp->VK->Prop:=fun xs H Q=>∃ x dx d,xs=[x]/\Tp K H dx x/\g dx=.ok d/\∀ v H',zbj H H'->Fz K H' d v->Q v H'
section
variable {K:PySem.W.Frag} {X:Cx} {a b c:Expr} {f h k:EF} {pos:Pos}
theorem zab {x:Str} (i:Nat) (hN:X.N[i]?=some x:=by rfl) (hv:Vis X.env.scope x:=by first | exact Or.inl rfl | exact Or.inr (Or.inl rfl) | exact Or.inr (Or.inr rfl)) (hd:(x == ("__debug__":Str))=false:=by decide)
  (hcd:(x == ("__classdict__":Str))=false:=by decide):PV K X (.Name x pos) (eV i):=fun _=>(zsv hN hv hd hcd).weak fun σ H Q=>by
 rintro ⟨ρ,rel,g⟩
 unfold eV at g
 cases e:ρ[i]? with
 | none=>rw [e] at g;exact g.elim
 | some x =>
  rw [e] at g
  cases x with
  | val d =>
   have hl:i < σ.length:=by rw [<- rel.len];exact (List.getElem?_eq_some_iff.mp e).1
   have o:=rel.ok i _ _ e (List.getElem?_eq_getElem hl)
   cases es:σ[i] with
   | none=>rw [es] at o;exact o.elim
   | some v =>
    rw [es] at o
    exact ⟨v,by rw [List.getElem?_eq_getElem hl,es],g.now rel v o⟩
  | _=>exact g.elim
theorem zwI {e:Expr} {v:V} {d:D} (h:PE X e (tC v)) (hv:∀ H,Fz K H d v):PV K X e (eC d):=fun _=>h.weak fun σ H Q=>by
 rintro ⟨ρ,rel,g⟩
 exact g.now rel v (hv H)
theorem zaf {i:Int} {j}:PV K X (.Constant (.int i) j pos) (eC (.int i)):=zwI zvy fun _=>by simp [Fz]
theorem zhq {i:Bool} {j}:PV K X (.Constant (.bool i) j pos) (eC (.bool i)):=zwI zxf fun _=>by simp [Fz]
theorem zsp {j}:PV K X (.Constant .none j pos) (eC .none):=zwI zvw fun _=>by simp [Fz]
theorem zmS {i:Str} {j}:PV K X (.Constant (.str i) j pos) (eC (.str i)):=zwI zvt fun _=>by simp [Fz]
theorem zwK {g:D->D->R D} {r:R2} (ho:∀ x y H Q,rD K g x y H Q->r x y H Q) (σ:L2.St) (H:Hp) (Q:VK) (q:tV K (e2 g f h) σ H Q):tOp r (tV K f) (tV K h) σ H Q:=by
 obtain ⟨ρ,rel,q⟩:=q
 refine goV rel q fun dx ρ1 x H1 rel1 st1 fx q1=>goV rel1 q1 fun dy ρ2 y H2 rel2 st2 fy q2=>?_
 obtain ⟨d,ed,q3⟩:=q2.zgO
 exact ho _ _ _ _ ⟨dx,dy,d,(fx.mono (st2.fzn rel1)).tp,fy.tp,ed,fun v H' s fz=>q3.new rel2 s v fz⟩
theorem zas {op:Operator} {g:D->D->R D} (ho:OpR X (binaryOp op) (rD X.K g)) (ha:PV K X a f) (hb:PV K X b h):PV K X (.BinOp a op b pos) (e2 g f h):=fun hK=>by
 subst hK
 exact (ztH ho (ha rfl) (hb rfl)).weak fun σ H Q q=>zwK (fun _ _ _ _ z=>z) σ H Q q
theorem zaz {g:D->D->R D} (ho:IxR X (rD X.K g)) (ha:PV K X a f) (hb:PV K X b h) (hs:zkc b:=by exact fun _ _=>rfl):PV K X (.Subscript a b pos) (e2 g f h):=fun hK=>by
 subst hK
 exact (zvx ho (ha rfl) (hb rfl) hs).weak fun σ H Q q=>zwK (fun _ _ _ _ z=>z) σ H Q q
theorem zvh {op:CmpOp} {g:D->D->R D} (ho:OpR X (compareOp op) (rD X.K g)) (ha:PV K X a f) (hb:PV K X b h) (hm:behindInMarks op b=false):PV K X (.Compare a [op] [b] pos) (e2 g f h):=fun hK=>by
 subst hK
 exact (ztJ ho (ha rfl) (hb rfl) hm).weak fun σ H Q q=>zwK (fun _ _ _ _ z=>z) σ H Q q
theorem zl1 {op:UnaryOp} {g:D->R D} (ho:UnR X (unaryOp op) (rD1 X.K g)) (ha:PV K X a f):PV K X (.UnaryOp op a pos) (e1 g f):=fun hK=>by
 subst hK
 exact (zxb ho (ha rfl)).weak fun σ H Q=>by
  rintro ⟨ρ,rel,q⟩
  refine goV rel q fun dx ρ1 x H1 rel1 st1 fx q1=>?_
  obtain ⟨d,ed,q3⟩:=q1.zgO
  exact ⟨dx,d,fx.tp,ed,fun v H' s fz=>q3.new rel1 s v fz⟩
theorem zky {op} (ha:PV K X a f):PV K X (.BoolOp op [a] pos) f:=fun hK=>zvu (ha hK)
theorem zkA {rest:List Expr} (ha:PV K X a f) (hb:PV K X (.BoolOp .And (b :: rest) pos) h):PV K X (.BoolOp .And (a :: b :: rest) pos) (znq f h):=fun hK=>(zvz (ha hK) (hb hK)).weak fun σ H Q=>by
 rintro ⟨ρ,rel,q⟩
 refine goV rel q fun dx ρ1 x H1 rel1 st1 fx q1=>?_
 cases dx with
 | bool bb =>
  simp only [Fz] at fx
  subst fx
  cases bb with
  | true=>exact ⟨true,rfl,zsN ⟨ρ1,rel1,q1⟩⟩
  | false=>exact ⟨false,rfl,zsO (q1.now rel1 _ (by simp [Fz]))⟩
 | _=>exact q1.elim
theorem zso (ha:PV K X a f):PV K X (.UnaryOp .Not a pos) (zwm f):=fun hK=>(zvv (ha hK)).weak fun σ H Q=>by
 rintro ⟨ρ,rel,q⟩
 refine goV rel q fun dx ρ1 x H1 rel1 st1 fx q1=>?_
 cases dx with
 | bool bb =>
  simp only [Fz] at fx
  subst fx
  exact ⟨bb,rfl,q1.now rel1 _ (by simp [Fz])⟩
 | _=>exact q1.elim
theorem zw7 {t:TF} (hc:PVT K X c t) (ha:PV K X a f) (hb:PV K X b h):PV K X (.IfExp c a b pos) (eIf t f h):=fun hK=>(zrm (hc hK) (ha hK) (hb hK)).weak fun σ H Q=>by
 rintro ⟨ρ,rel,q⟩
 refine goT rel q fun cb ρ1 H1 rel1 st1 q1=>?_
 cases cb with
 | true=>exact zsN ⟨ρ1,rel1,q1⟩
 | false=>exact zsO ⟨ρ1,rel1,q1⟩
variable {es:List Expr} {fa:AF}
theorem zjy:PVA K X [] zai:=fun _=>zgg.weak fun σ H Q=>by
 rintro ⟨ρ,rel,q⟩
 exact q.now rel [] (by simp [zak])
theorem zjz (ha:PV K X a f) (hr:PVA K X es fa) (hs:starEach (a :: es) X.env=(false,eval a X.env) :: starEach es X.env:=by rfl):PVA K X (a :: es) (zaa f fa):=fun hK=>(zco (ha hK) (hr hK) hs).weak fun σ H Q=>by
 rintro ⟨ρ,rel,q⟩
 refine goV rel q fun dx ρ1 x H1 rel1 st1 fx q1=>goA rel1 q1 fun ds ρ2 vs H2 rel2 st2 fs q2=>?_
 exact q2.now rel2 _ (by simp only [zak];exact ⟨x,vs,rfl,fx.mono (st2.fzn rel1),fs⟩)
theorem zcF:lim<=sizeLine:=by rw [sizeLine_eq];decide
theorem zcm {x1} (h:PVA K X es fa):PV K X (.Tuple es x1 pos) (zbW fa):=fun hK=>(zvs (h hK)).weak fun σ H Q=>by
 rintro ⟨ρ,rel,q⟩
 refine goA rel q fun ds ρ1 vs H1 rel1 st1 fs q1=>?_
 obtain ⟨c,q2⟩:=q1.chk
 refine ⟨by rw [fs.len];exact Nat.le_trans (zjO c) zcF,fun p hp=>?_⟩
 have s:zbj H1 (upd H1 p (.tup vs)):=zbj.upd hp
 refine q2.new rel1 s _ ?_
 simp only [Fz]
 exact ⟨p,vs,rfl,.inl zap,fs.mono (Fzn.of s)⟩
theorem zcl (h:PVA K X es fa):PVN K X (.List es pos) (zcz fa):=fun hK=>(zsw (h hK)).weak fun σ H Q=>by
 rintro ⟨ρ,rel,q⟩
 refine goA rel q fun ds ρ1 vs H1 rel1 st1 fs q1=>?_
 obtain ⟨c,q2⟩:=q1.chk
 refine ⟨by rw [fs.len];exact Nat.le_trans (zjO c) zcF,fun p hp=>?_⟩
 have s:zbj H1 (upd H1 p (.lst vs)):=zbj.upd hp
 refine q2.new rel1 s p ?_ ?_
 ·cases e:H p with
  | none=>rfl
  | some o =>
   by_cases m:MA ρ σ p
   ·obtain ⟨o',e',_⟩:=rel1.zbe (st1.ma.mp m)
    rw [hp] at e';cases e'
   ·rw [st1.kp p o e m] at hp;cases hp
 ·exact ⟨vs,zap,fs.mono (Fzn.of s)⟩
theorem PVN.pv {e:Expr} {f:EF} (h:PVN K X e f):PV K X e f:=fun hK=>(zxd (h hK)).weak fun σ H Q=>by
 rintro ⟨ρ,rel,q⟩
 refine ⟨ρ,rel,?_⟩
 cases e:f ρ with
 | ok x =>
  rw [e] at q
  intro H' rel' st a ha m
  obtain ⟨u,e1,ow⟩:=m.own
  refine ⟨a,u,rfl,e1,ow,fun o=>?_⟩
  have nma:¬ MA ρ σ a:=fun z=>by
   obtain ⟨o',e',_⟩:=rel.zbe z
   rw [ha] at e';cases e'
  have nma':¬ MA x.2 σ a:=fun z=>nma (st.ma.mpr z)
  have fz:Fzn H' (upd H' a (.frz o u)):=fun b w e2 sy=>by
   rw [zau fun z=>by subst z;rw [e1] at e2;cases e2;exact ow.zdA sy]
   exact e2
  refine q _ (rel'.put nma' fun u' e2=>by rw [e1] at e2;cases e2;exact ow.zdA) ⟨st.md,fun b w e2 n=>?_⟩ _ ?_
  ·rw [zau fun z=>by subst z;rw [ha] at e2;cases e2]
   exact st.kp b w e2 n
  ·obtain ⟨d,ρ'⟩:=x
   cases d with
   | list ds =>
    obtain ⟨vs,h1,h2⟩:=m
    rw [e1] at h1
    cases h1
    simp only [Fz]
    exact ⟨a,vs,rfl,.inl ⟨o,zap⟩,h2.mono fz⟩
   | dict kvs =>
    simp only [Fz]
    rcases m with ⟨kk,h1,h2⟩ | ⟨kk,h1,h2⟩
    ·rw [e1] at h1
     cases h1
     exact ⟨a,o,rfl,.inl ⟨kk,zap,h2.mono fz⟩⟩
    ·rw [e1] at h1
     cases h1
     exact ⟨a,o,rfl,.inr ⟨kk,zap,h2.mono fz⟩⟩
   | _=>exact m.elim
 | _=>rw [e] at q;exact q.elim
theorem goC {G:List D->R D} {r:List V->Hp->VK->Prop} (hr:∀ xs H Q,rDs K G xs H Q->r xs H Q) (σ:L2.St) (H:Hp) (Q:VK) (q:tV K (zae G fa) σ H Q):tCB r (tA K fa) σ H Q:=by
 obtain ⟨ρ,rel,q⟩:=q
 refine goA rel q fun ds ρ1 vs H1 rel1 st1 fs q1=>?_
 obtain ⟨d,ed,q2⟩:=q1.zgO
 exact hr _ _ _ ⟨ds,d,fs,ed,fun v H' s fz=>q2.new rel1 s v fz⟩
theorem zmT {x:Str} {id:String} {G:List D->R D} {p:Pos} {e:Expr} (hc:zgd X (.builtin id) (rDs X.K G)) (hg:Gl X x) (hm:X.mg x=none) (hv:bootBuiltins x=some (.builtin id)) (ha:PVA K X (e :: es) fa) (hn:x ≠ "__name__":=by decide) (hdb:(x == ("__debug__":Str))=false:=by decide)
  (he:starEach (e :: es) X.env=(false,eval e X.env) :: starEach es X.env:=by rfl) (hpl:(backTo pos (starEach es X.env)).any (·.1)=false:=by rfl):PV K X (.Call (.Name x p) (e :: es) [] pos) (zae G fa):=fun hK=>by
 subst hK
 exact (zjB hc hg hm hv (ha rfl) hn hdb he hpl).weak fun σ H Q q=>goC (fun _ _ _ z=>z) σ H Q q
theorem zo8 {x:Str} {T:String} {G:List D->R D} {p:Pos} {e:Expr} (hc:zgd X (.type T) (rDs X.K G)) (hg:Gl X x) (hm:X.mg x=none) (hv:bootBuiltins x=some (.type T)) (ha:PVA K X (e :: es) fa) (hn:x ≠ "__name__":=by decide) (hdb:(x == ("__debug__":Str))=false:=by decide)
  (he:starEach (e :: es) X.env=(false,eval e X.env) :: starEach es X.env:=by rfl) (hpl:(backTo pos (starEach es X.env)).any (·.1)=false:=by rfl):PV K X (.Call (.Name x p) (e :: es) [] pos) (zae G fa):=fun hK=>by
 subst hK
 exact (zkD hc hg hm hv (ha rfl) hn hdb he hpl).weak fun σ H Q q=>goC (fun _ _ _ z=>z) σ H Q q
variable {lo hi:Option Expr} {fl fh:OF}
theorem zq6:PVO K X none zrv:=fun _=>ztC.weak fun σ H Q=>by
 rintro ⟨ρ,rel,q⟩
 exact q.now rel
theorem zq5 (h:PV K X a f):PVO K X (some a) (zru f):=fun hK=>(ztB (h hK)).weak fun σ H Q=>by
 rintro ⟨ρ,rel,q⟩
 refine goV rel q fun dx ρ1 x H1 rel1 st1 fx q1=>?_
 cases dx with
 | int i =>
  simp only [Fz] at fx
  exact ⟨i,fx,q1.now rel1⟩
 | _=>exact q1.elim
def zxN (K:PySem.W.Frag):V->Option Int->Option Int->Hp->VK->Prop:=fun x lo hi H Q=>∃ dx d,Tp K H dx x/\zoR dx lo hi=.ok d/\∀ v H',zbj H H'->Fz K H' d v->Q v H'
theorem zra {p2:Pos} (hr:SlR X (zxN X.K)) (he:PV K X a f) (hl:PVO K X lo fl) (hu:PVO K X hi fh):PV K X (.Subscript a (.Slice lo hi none p2) pos) (eSl f fl fh):=fun hK=>by
 subst hK
 exact (zrl hr (he rfl) (hl rfl) (hu rfl)).weak fun σ H Q=>by
  rintro ⟨ρ,rel,q⟩
  refine goV rel q fun dx ρ1 x H1 rel1 st1 fx q1=>goO rel1 q1 fun l ρ2 H2 rel2 st2 q2=>goO rel2 q2 fun u ρ3 H3 rel3 st3 q3=>?_
  obtain ⟨d,ed,q4⟩:=q3.zgO
  exact ⟨dx,d,((fx.mono (st2.fzn rel1)).mono (st3.fzn rel2)).tp,ed,fun v H' s fz=>q4.new rel3 s v fz⟩
variable {t u:TF}
theorem zbP (hv:zxH X (fun x H Q=>∃ d k,Tp X.K H d x/\zlS d=.ok k/\Q k H)) (h:PV K X a f) (he:∀ whole,isTrue a X.env whole=(do let v <- whole;standAt a.pos;holding [v] (truthy v)):=by intro _;rfl):PVT K X a (tE f):=fun hK=>by
 subst hK
 intro pins s σ H Q I q
 rw [he]
 obtain ⟨ρ,rel,q⟩:=q
 refine wpAny_bind (thn (h rfl pins s σ H (fun x H'=>∃ d k,Tp X.K H' d x/\zlS d=.ok k/\Q k H') I ?_) fun v s1 ⟨x,H1,I1,r1,q1⟩=>wpAny_bind (wpAny_standAt (wpAny_holding (hv pins s1 σ H1 x v Q I1 r1 q1))))
 refine goV rel q fun dx ρ1 x H1 rel1 st1 fx q1=>?_
 obtain ⟨d,ed,q2⟩:=q1.zgO
 exact ⟨dx,d,fx.tp,ed,q2.now rel1⟩
theorem goB {te:TE} (hw:∀ σ H Q,tV K f σ H Q->te σ H Q) (σ:L2.St) (H:Hp) (Q:Bool->Hp->Prop) (q:tT K (tB f) σ H Q):te σ H fun x H'=>∃ k,x=.bl k/\Q k H':=by
 obtain ⟨ρ,rel,q⟩:=q
 refine hw σ H _ (goV rel q fun dx ρ1 x H1 rel1 st1 fx q1=>?_)
 cases dx with
 | bool bb =>
  simp only [Fz] at fx
  exact ⟨bb,fx,q1.now rel1⟩
 | _=>exact q1.elim
theorem ztn {op:CmpOp} {g:D->D->R D} (ho:OpR X (compareOp op) (rD X.K g)) (ha:PV K X a f) (hb:PV K X b h) (hm:behindInMarks op b=false):PVT K X (.Compare a [op] [b] pos) (tB (e2 g f h)):=fun hK=>by
 subst hK
 exact (zo9 ho (ha rfl) (hb rfl) hm).weak fun σ H Q q=>goB (fun σ H Q z=>zwK (fun _ _ _ _ z=>z) σ H Q z) σ H Q q
theorem zmQ (ha:PVT K X a t):PVW K X (.BoolOp .And [a] pos) t:=fun hK=>ztl (ha hK)
theorem zdP (ha:PVT K X a t):PVW K X (.BoolOp .Or [a] pos) t:=fun hK=>zu7 (ha hK)
theorem zoY {rest:List Expr} (ha:PVT K X a t) (hb:PVW K X (.BoolOp .And (b :: rest) pos) u):PVW K X (.BoolOp .And (a :: b :: rest) pos) (FL.zis t u):=fun hK=>(zu8 (ha hK) (hb hK)).weak fun σ H Q=>by
 rintro ⟨ρ,rel,q⟩
 refine goT rel q fun cb ρ1 H1 rel1 st1 q1=>?_
 cases cb with
 | true=>exact zsN ⟨ρ1,rel1,q1⟩
 | false=>exact zsO (q1.now rel1)
theorem zdz {rest:List Expr} (ha:PVT K X a t) (hb:PVW K X (.BoolOp .Or (b :: rest) pos) u):PVW K X (.BoolOp .Or (a :: b :: rest) pos) (FL.tOr t u):=fun hK=>(zw2 (ha hK) (hb hK)).weak fun σ H Q=>by
 rintro ⟨ρ,rel,q⟩
 refine goT rel q fun cb ρ1 H1 rel1 st1 q1=>?_
 cases cb with
 | true=>exact zsN (q1.now rel1)
 | false=>exact zsO ⟨ρ1,rel1,q1⟩
theorem PVW.pvt (h:PVW K X a t):PVT K X a t:=fun hK=>(h hK).pt
theorem zbQ (ha:PVT K X a t):PVT K X (.UnaryOp .Not a pos) (FL.zce t):=fun hK=>(zvi (ha hK)).weak fun σ H Q=>by
 rintro ⟨ρ,rel,q⟩
 exact goT rel q fun cb ρ1 H1 rel1 st1 q1=>q1.now rel1
end
end FL
namespace FL
open PySem L2 PySem.Spec
open PyProof.Rows hiding St
variable [Cs]
theorem zn5 (x y:Int) (xs ys:List Int):lexLe (x :: xs) (y :: ys)=if x=y then lexLe xs ys else decide (x<=y):=rfl
theorem zjL:lexLe [] []=true:=rfl
theorem ziC (y:Int) (ys:List Int):lexLe [] (y :: ys)=true:=rfl
theorem ziD (x:Int) (xs:List Int):lexLe (x :: xs) []=false:=rfl
theorem zoW (A:Around) (s:Shared) (a:Int) (t:Tok) (c:Int) (u:Tok) (prog:Program) (w:World) (E:Value->Shared->Prop) (Q:Value->Shared->Prop) (h:Q (.bool (decide (a<=c))) s) :
  wpAny (model prog w) A (richCompare .LtE (.int a t) (.int c u)) Q E s :=
 (PyProof.Rows.le_int h:wpAny (model prog w) A (compareOp .LtE (.int a t) (.int c u)) Q E s)
section
open PySem.SeqAt
open PySem.AutoSeq1 (wpAny_loadPart')
open PySem.MeetsSeq PySem.MeetsSeq2 PySem.MeetsSeq3
theorem zqT (l b:Addr) (items items2:Array Value) (n n2:Nat) (dd dd2:Option Addr) (sl sl2:Array (Option Value)) (ns ms:List Int) (hi:IntsAre items.toList ns) (hj:IntsAre items2.toList ms) :
  Meets (Builtin.«tuple.__le__» ⟨[.ref l,.ref b],[]⟩)
   (fun _ R s=>s.heap.get? l=some { cls:=.type "tuple",dict:=dd,data:=.seq items n,slots:=sl }/\s.heap.get? b=some { cls:=.type "tuple",dict:=dd2,data:=.seq items2 n2,slots:=sl2 } /\
    R (.ok (.ret (.bool (lexLe ns ms)))) s) :=
 .of_wp fun prog w A R s h=>by
  obtain ⟨hp,g,d,tk,os⟩:=s;obtain ⟨hl,hb,h⟩:=h
  have f2:=AutoSeq1.sub_tuple_tuple
  have z1:items.size=ns.length:=by rw [<- hi.length];simp
  have z2:items2.size=ms.length:=by rw [<- hj.length];simp
  wp_walk using wpAny_loadPart' hl,wpAny_loadPart' hb,wpAny_forIn_list _ (fun rest b s'=>b.1=none/\s'=⟨hp,g,d,tk,os⟩/\∃ (vs ws:List Value) (ns' ms':List Int),rest=vs.zip ws /\
   IntsAre vs ns'/\IntsAre ws ms'/\ns'.length + items2.size=ms'.length + items.size/\R (.ok (.ret (.bool (lexLe ns' ms')))) ⟨hp,g,d,tk,os⟩) _
  case turn =>
   rintro ⟨y,x⟩ rest b s' ⟨hb',rfl,vs,ws,ns',ms',hz,hvi,hwi,hlen,hR⟩
   cases hvi with
   | nil=>rw [List.zip_nil_left] at hz;cases hz
   | cons a t hvi' =>
    cases hwi with
    | nil=>rw [List.zip_nil_right] at hz;cases hz
    | cons c u hwi' =>
     rw [List.zip_cons_cons] at hz
     injection hz with hyx hrest
     injection hyx with hy hx
     subst hy hx
     rw [zn5] at hR
     simp only [List.length_cons] at hlen
     obtain ⟨e,he,hiff⟩:=HT.zgY A.in1 ⟨hp,g,d,tk,os⟩ a t c u
     refine wpAny_bind (he prog w _ _ ?_)
     cases e with
     | true =>
      rw [if_pos (hiff.mp rfl)] at hR
      wp_walk
      exact ⟨rfl,rfl,_,_,_,_,hrest,hvi',hwi',by omega,hR⟩
     | false =>
      rw [if_neg (fun q=>absurd (hiff.mpr q) Bool.false_ne_true)] at hR
      have hri:=zoW A.in1 ⟨hp,g,d,tk,os⟩ a t c u prog w
      wp_walk using hri
      exact ⟨_,rfl,by simpa using hR⟩
  case fin =>
   rintro ⟨b1,b2⟩ s' ⟨hb',rfl,vs,ws,ns',ms',hz,hvi,hwi,hlen,hR⟩
   simp only at hb'
   subst hb'
   have hv:lexLe ns' ms'=decide (items.size<=items2.size):=by
    cases hvi with
    | nil =>
     cases hwi with
     | nil =>
      simp only [List.length_nil] at hlen
      rw [zjL]
      exact (decide_eq_true (by omega)).symm
     | cons c u hw =>
      simp only [List.length_nil,List.length_cons] at hlen
      rw [ziC]
      exact (decide_eq_true (by omega)).symm
    | cons a t hv =>
     cases hwi with
     | nil =>
      simp only [List.length_nil,List.length_cons] at hlen
      rw [ziD]
      exact (decide_eq_false (by omega)).symm
     | cons c u hw =>
      rw [List.zip_cons_cons] at hz
      cases hz
   rw [hv] at hR
   wp_walk
   exact ⟨_,rfl,by simpa [Builtin.Tuple.tupleCompareSizes] using hR⟩
  case h =>
   exact ⟨rfl,rfl,items.toList,items2.toList,ns,ms,rfl,hi,hj,by omega,h⟩
end
theorem zn6 (x y:Int) (xs ys:List Int):zfU (x :: xs) (y :: ys)=if x=y then zfU xs ys else decide (y < x):=rfl
theorem zjM:zfU [] []=false:=rfl
theorem ziE (y:Int) (ys:List Int):zfU [] (y :: ys)=false:=rfl
theorem ziF (x:Int) (xs:List Int):zfU (x :: xs) []=true:=rfl
theorem zq0 (A:Around) (s:Shared) (a:Int) (t:Tok) (c:Int) (u:Tok) (prog:Program) (w:World) (E:Value->Shared->Prop) (Q:Value->Shared->Prop) (h:Q (.bool (decide (c < a))) s) :
  wpAny (model prog w) A (richCompare .Gt (.int a t) (.int c u)) Q E s :=
 (PyProof.Rows.gt_int h:wpAny (model prog w) A (compareOp .Gt (.int a t) (.int c u)) Q E s)
section
open PySem.SeqAt
open PySem.AutoSeq1 (wpAny_loadPart')
open PySem.MeetsSeq PySem.MeetsSeq2 PySem.MeetsSeq3
theorem zjr (l b:Addr) (items items2:Array Value) (n n2:Nat) (dd dd2:Option Addr) (sl sl2:Array (Option Value)) (ns ms:List Int) (hi:IntsAre items.toList ns) (hj:IntsAre items2.toList ms) :
  Meets (Builtin.«tuple.__gt__» ⟨[.ref l,.ref b],[]⟩)
   (fun _ R s=>s.heap.get? l=some { cls:=.type "tuple",dict:=dd,data:=.seq items n,slots:=sl }/\s.heap.get? b=some { cls:=.type "tuple",dict:=dd2,data:=.seq items2 n2,slots:=sl2 } /\
    R (.ok (.ret (.bool (zfU ns ms)))) s) :=
 .of_wp fun prog w A R s h=>by
  obtain ⟨hp,g,d,tk,os⟩:=s;obtain ⟨hl,hb,h⟩:=h
  have f2:=AutoSeq1.sub_tuple_tuple
  have z1:items.size=ns.length:=by rw [<- hi.length];simp
  have z2:items2.size=ms.length:=by rw [<- hj.length];simp
  wp_walk using wpAny_loadPart' hl,wpAny_loadPart' hb,wpAny_forIn_list _ (fun rest b s'=>b.1=none/\s'=⟨hp,g,d,tk,os⟩/\∃ (vs ws:List Value) (ns' ms':List Int),rest=vs.zip ws /\
   IntsAre vs ns'/\IntsAre ws ms'/\ns'.length + items2.size=ms'.length + items.size/\R (.ok (.ret (.bool (zfU ns' ms')))) ⟨hp,g,d,tk,os⟩) _
  case turn =>
   rintro ⟨y,x⟩ rest b s' ⟨hb',rfl,vs,ws,ns',ms',hz,hvi,hwi,hlen,hR⟩
   cases hvi with
   | nil=>rw [List.zip_nil_left] at hz;cases hz
   | cons a t hvi' =>
    cases hwi with
    | nil=>rw [List.zip_nil_right] at hz;cases hz
    | cons c u hwi' =>
     rw [List.zip_cons_cons] at hz
     injection hz with hyx hrest
     injection hyx with hy hx
     subst hy hx
     rw [zn6] at hR
     simp only [List.length_cons] at hlen
     obtain ⟨e,he,hiff⟩:=HT.zgY A.in1 ⟨hp,g,d,tk,os⟩ a t c u
     refine wpAny_bind (he prog w _ _ ?_)
     cases e with
     | true =>
      rw [if_pos (hiff.mp rfl)] at hR
      wp_walk
      exact ⟨rfl,rfl,_,_,_,_,hrest,hvi',hwi',by omega,hR⟩
     | false =>
      rw [if_neg (fun q=>absurd (hiff.mpr q) Bool.false_ne_true)] at hR
      have hri:=zq0 A.in1 ⟨hp,g,d,tk,os⟩ a t c u prog w
      wp_walk using hri
      exact ⟨_,rfl,by simpa using hR⟩
  case fin =>
   rintro ⟨b1,b2⟩ s' ⟨hb',rfl,vs,ws,ns',ms',hz,hvi,hwi,hlen,hR⟩
   simp only at hb'
   subst hb'
   have hv:zfU ns' ms'=decide (items2.size < items.size):=by
    cases hvi with
    | nil =>
     cases hwi with
     | nil =>
      simp only [List.length_nil] at hlen
      rw [zjM]
      exact (decide_eq_false (by omega)).symm
     | cons c u hw =>
      simp only [List.length_nil,List.length_cons] at hlen
      rw [ziE]
      exact (decide_eq_false (by omega)).symm
    | cons a t hv =>
     cases hwi with
     | nil =>
      simp only [List.length_nil,List.length_cons] at hlen
      rw [ziF]
      exact (decide_eq_true (by omega)).symm
     | cons c u hw =>
      rw [List.zip_cons_cons] at hz
      cases hz
   rw [hv] at hR
   wp_walk
   exact ⟨_,rfl,by simpa [Builtin.Tuple.tupleCompareSizes] using hR⟩
  case h =>
   exact ⟨rfl,rfl,items.toList,items2.toList,ns,ms,rfl,hi,hj,by omega,h⟩
end
section
variable {prog:Program} {w:World} {A:Around} {E:Value->Shared->Prop} {s:Shared}
theorem zog {l b:Addr} {items items2:Array Value} {ns ms:List Int} {Q:Value->Shared->Prop} (hl:IsTup s.heap l items) (hb:IsTup s.heap b items2) (hi:IntsAre items.toList ns) (hj:IntsAre items2.toList ms)
  (hu:A.units < cLine) (h:Q (.bool (zfU ns ms)) s):wpAny (model prog w) A (compareOp .Gt (.ref l) (.ref b)) Q E s:=by
 obtain ⟨⟨cls,dd,data,sl⟩,ho,hc,n,hd⟩:=id hl
 obtain ⟨⟨cls2,dd2,data2,sl2⟩,ho2,hc2,n2,hd2⟩:=id hb
 simp only at hc hd hc2 hd2
 subst hc hd hc2 hd2
 exact richCompare_meets_room (op:=.Gt) ⟨_,ho,rfl⟩ ⟨_,ho2,rfl⟩ PySem.F.slot_tuple_gt PySem.F.entry_tuple_gt (PySem.F.args_tuple_gt_2 _ _) (zjr l b items items2 n n2 dd dd2 sl sl2 ns ms hi hj)
  ⟨ho,ho2,show Value.bool (zfU ns ms) ≠ Value.notImplemented/\Q (.bool (zfU ns ms)) s from ⟨(fun x=>nomatch x),h⟩⟩ hu
end
theorem zn7 (x y:Int) (xs ys:List Int):zfV (x :: xs) (y :: ys)=if x=y then zfV xs ys else decide (y<=x):=rfl
theorem zjN:zfV [] []=true:=rfl
theorem ziG (y:Int) (ys:List Int):zfV [] (y :: ys)=false:=rfl
theorem ziH (x:Int) (xs:List Int):zfV (x :: xs) []=true:=rfl
theorem zoX (A:Around) (s:Shared) (a:Int) (t:Tok) (c:Int) (u:Tok) (prog:Program) (w:World) (E:Value->Shared->Prop) (Q:Value->Shared->Prop) (h:Q (.bool (decide (c<=a))) s) :
  wpAny (model prog w) A (richCompare .GtE (.int a t) (.int c u)) Q E s :=
 (PyProof.Rows.ge_int h:wpAny (model prog w) A (compareOp .GtE (.int a t) (.int c u)) Q E s)
section
open PySem.SeqAt
open PySem.AutoSeq1 (wpAny_loadPart')
open PySem.MeetsSeq PySem.MeetsSeq2 PySem.MeetsSeq3
theorem zjs (l b:Addr) (items items2:Array Value) (n n2:Nat) (dd dd2:Option Addr) (sl sl2:Array (Option Value)) (ns ms:List Int) (hi:IntsAre items.toList ns) (hj:IntsAre items2.toList ms) :
  Meets (Builtin.«tuple.__ge__» ⟨[.ref l,.ref b],[]⟩)
   (fun _ R s=>s.heap.get? l=some { cls:=.type "tuple",dict:=dd,data:=.seq items n,slots:=sl }/\s.heap.get? b=some { cls:=.type "tuple",dict:=dd2,data:=.seq items2 n2,slots:=sl2 } /\
    R (.ok (.ret (.bool (zfV ns ms)))) s) :=
 .of_wp fun prog w A R s h=>by
  obtain ⟨hp,g,d,tk,os⟩:=s;obtain ⟨hl,hb,h⟩:=h
  have f2:=AutoSeq1.sub_tuple_tuple
  have z1:items.size=ns.length:=by rw [<- hi.length];simp
  have z2:items2.size=ms.length:=by rw [<- hj.length];simp
  wp_walk using wpAny_loadPart' hl,wpAny_loadPart' hb,wpAny_forIn_list _ (fun rest b s'=>b.1=none/\s'=⟨hp,g,d,tk,os⟩/\∃ (vs ws:List Value) (ns' ms':List Int),rest=vs.zip ws /\
   IntsAre vs ns'/\IntsAre ws ms'/\ns'.length + items2.size=ms'.length + items.size/\R (.ok (.ret (.bool (zfV ns' ms')))) ⟨hp,g,d,tk,os⟩) _
  case turn =>
   rintro ⟨y,x⟩ rest b s' ⟨hb',rfl,vs,ws,ns',ms',hz,hvi,hwi,hlen,hR⟩
   cases hvi with
   | nil=>rw [List.zip_nil_left] at hz;cases hz
   | cons a t hvi' =>
    cases hwi with
    | nil=>rw [List.zip_nil_right] at hz;cases hz
    | cons c u hwi' =>
     rw [List.zip_cons_cons] at hz
     injection hz with hyx hrest
     injection hyx with hy hx
     subst hy hx
     rw [zn7] at hR
     simp only [List.length_cons] at hlen
     obtain ⟨e,he,hiff⟩:=HT.zgY A.in1 ⟨hp,g,d,tk,os⟩ a t c u
     refine wpAny_bind (he prog w _ _ ?_)
     cases e with
     | true =>
      rw [if_pos (hiff.mp rfl)] at hR
      wp_walk
      exact ⟨rfl,rfl,_,_,_,_,hrest,hvi',hwi',by omega,hR⟩
     | false =>
      rw [if_neg (fun q=>absurd (hiff.mpr q) Bool.false_ne_true)] at hR
      have hri:=zoX A.in1 ⟨hp,g,d,tk,os⟩ a t c u prog w
      wp_walk using hri
      exact ⟨_,rfl,by simpa using hR⟩
  case fin =>
   rintro ⟨b1,b2⟩ s' ⟨hb',rfl,vs,ws,ns',ms',hz,hvi,hwi,hlen,hR⟩
   simp only at hb'
   subst hb'
   have hv:zfV ns' ms'=decide (items2.size<=items.size):=by
    cases hvi with
    | nil =>
     cases hwi with
     | nil =>
      simp only [List.length_nil] at hlen
      rw [zjN]
      exact (decide_eq_true (by omega)).symm
     | cons c u hw =>
      simp only [List.length_nil,List.length_cons] at hlen
      rw [ziG]
      exact (decide_eq_false (by omega)).symm
    | cons a t hv =>
     cases hwi with
     | nil =>
      simp only [List.length_nil,List.length_cons] at hlen
      rw [ziH]
      exact (decide_eq_true (by omega)).symm
     | cons c u hw =>
      rw [List.zip_cons_cons] at hz
      cases hz
   rw [hv] at hR
   wp_walk
   exact ⟨_,rfl,by simpa [Builtin.Tuple.tupleCompareSizes] using hR⟩
  case h =>
   exact ⟨rfl,rfl,items.toList,items2.toList,ns,ms,rfl,hi,hj,by omega,h⟩
end
section
variable {prog:Program} {w:World} {A:Around} {E:Value->Shared->Prop} {s:Shared}
theorem zoh {l b:Addr} {items items2:Array Value} {ns ms:List Int} {Q:Value->Shared->Prop} (hl:IsTup s.heap l items) (hb:IsTup s.heap b items2) (hi:IntsAre items.toList ns) (hj:IntsAre items2.toList ms)
  (hu:A.units < cLine) (h:Q (.bool (zfV ns ms)) s):wpAny (model prog w) A (compareOp .GtE (.ref l) (.ref b)) Q E s:=by
 obtain ⟨⟨cls,dd,data,sl⟩,ho,hc,n,hd⟩:=id hl
 obtain ⟨⟨cls2,dd2,data2,sl2⟩,ho2,hc2,n2,hd2⟩:=id hb
 simp only at hc hd hc2 hd2
 subst hc hd hc2 hd2
 exact richCompare_meets_room (op:=.GtE) ⟨_,ho,rfl⟩ ⟨_,ho2,rfl⟩ PySem.F.slot_tuple_ge PySem.F.entry_tuple_ge (PySem.F.args_tuple_ge_2 _ _) (zjs l b items items2 n n2 dd dd2 sl sl2 ns ms hi hj)
  ⟨ho,ho2,show Value.bool (zfV ns ms) ≠ Value.notImplemented/\Q (.bool (zfV ns ms)) s from ⟨(fun x=>nomatch x),h⟩⟩ hu
end
end FL
namespace FL
open PySem L2 PySem.Spec
open PyProof.Rows hiding St
variable [Cs]
section
variable {K:PySem.W.Frag} {H:Hp}
mutual
theorem Fz.is:∀ (d:PyData) (v:V),PyData.canLay0 d=true->Fz K H d v->Is K H d v
 | .none,v,_,h=>by simp only [Fz] at h;simp only [Is];exact h
 | .bool b,v,_,h=>by simp only [Fz] at h;simp only [Is];exact h
 | .int i,v,_,h=>by simp only [Fz] at h;simp only [Is];exact h
 | .str x,v,_,h=>by simp only [Fz] at h;simp only [Is];exact h
 | .list xs,v,c,h=>by
  simp only [Fz] at h;simp only [Is]
  obtain ⟨a,vs,e1,h1,h2⟩:=h
  exact ⟨a,vs,e1,h1.sq,zak.is xs vs c h2⟩
 | .tuple xs,v,c,h=>by
  simp only [Fz] at h;simp only [Is]
  obtain ⟨a,vs,e1,h1,h2⟩:=h
  exact ⟨a,vs,e1,.inl h1,zak.is xs vs c h2⟩
 | .dict kvs,v,c,h=>by simp [PyData.canLay0] at c
theorem zak.is:∀ (ds:List PyData) (vs:List V),PyData.canLayAll0 ds=true->zak K H ds vs->zga K H ds vs
 | [],vs,_,h=>by simp only [zak] at h;simp only [zga];exact h
 | d :: ds,vs,c,h=>by
  simp only [PyData.canLayAll0,Bool.and_eq_true] at c
  simp only [zak] at h;simp only [zga]
  obtain ⟨v,r,e1,h1,h2⟩:=h
  exact ⟨v,r,e1,Fz.is d v c.1 h1,zak.is ds r c.2 h2⟩
end
theorem Tp.is {d:PyData} {v:V} (c:PyData.canLay0 d=true) (h:Tp K H d v):Is K H d v:=by
 cases d with
 | list ds =>
  obtain ⟨a,vs,e,h1,h2⟩:=h
  simp only [Is]
  exact ⟨a,vs,e,h1,zak.is ds vs c h2⟩
 | dict kvs=>simp [PyData.canLay0] at c
 | none=>exact Fz.is _ _ c h
 | bool b=>exact Fz.is _ _ c h
 | int b=>exact Fz.is _ _ c h
 | str b=>exact Fz.is _ _ c h
 | tuple b=>exact Fz.is _ _ c h
theorem Tp.int {i:Int} {v:V} (h:Tp K H (.int i) v):v=.int i:=by simpa [Tp,Fz] using h
theorem Tp.bool {i:Bool} {v:V} (h:Tp K H (.bool i) v):v=.bl i:=by simpa [Tp,Fz] using h
theorem Tp.none {v:V} (h:Tp K H .none v):v=.non:=by simpa [Tp,Fz] using h
theorem Tp.zx5 {ds:List PyData} {v:V} (h:Tp K H (.tuple ds) v):∃ a vs,v=.ref a/\TAt H a vs/\zak K H ds vs:=by simpa [Tp,Fz] using h
theorem Tp.tup {ds:List PyData} {v:V} (h:Tp K H (.tuple ds) v):∃ a vs,v=.ref a/\SqT K H a vs/\zak K H ds vs :=
 let ⟨a,vs,x,y,z⟩:=Tp.zx5 h
 ⟨a,vs,x,.inl y,z⟩
theorem Tp.lst {ds:List PyData} {v:V} (h:Tp K H (.list ds) v):∃ a vs,v=.ref a/\SqL K H a vs/\zak K H ds vs:=h
theorem zfs (i:Int):Fz K H (.int i) (.int i):=by simp [Fz]
theorem zmn (i:Bool):Fz K H (.bool i) (.bl i):=by simp [Fz]
theorem zpY {a:Addr} {vs:List V} {ds:List PyData} (h:TAt H a vs) (f:zak K H ds vs):Fz K H (.tuple ds) (.ref a):=by simp only [Fz];exact ⟨a,vs,rfl,h,f⟩
theorem zak.atI {ds:List PyData} {vs:List V} {i:Int} {d:PyData} (h:zak K H ds vs) (e:FL.atI ds i=some d):∃ v,L2.atI vs i=some v/\Fz K H d v:=by
 unfold FL.atI at e
 cases en:FL.ixN ds.length i with
 | none=>rw [en] at e;cases e
 | some j =>
  rw [en] at e
  obtain ⟨v,e1,f⟩:=h.get (show ds[j]?=some d from e)
  refine ⟨v,?_,f⟩
  unfold L2.atI
  rw [h.len,show L2.ixN ds.length i=some j from en]
  exact e1
theorem zak.cut {ds:List PyData} {vs:List V} (h:zak K H ds vs) (lo hi:Option Int):zak K H (FL.cut ds lo hi) (zrX vs lo hi):=by
 unfold FL.cut zrX
 rw [h.len]
 exact (h.drop _).take _
end
theorem zbi {α:Type} {c:Bool} {r:R α} {d:α} (h:chk c r=.ok d):c=true/\r=.ok d:=by
 cases c with
 | true=>exact ⟨rfl,h⟩
 | false=>exact nomatch (show (R.bad:R α)=.ok d from h)
section
variable {X:Cx}
theorem zk8 {pins:List (Addr × Obj)} {σ:L2.St} {s:Shared} {H:Hp} {Q:VK} {w:Value} {ds:List D} {vs:List V} (f:zak X.K H ds vs) (q:∀ v H',zbj H H'->Fz X.K H' (.list ds) v->Q v H')
  (h:EP X pins σ (fun v H1=>∃ p,v=.ref p/\H p=none/\H1=upd H p (.lst vs)) w s):EP X pins σ Q w s:=by
 obtain ⟨v,H1,I,r,p,rfl,hp,rfl⟩:=h
 refine zwj ⟨.ref p,_,I,r,p,.lst vs,rfl,zap,trivial,fun o=>?_⟩
 rw [zhc]
 refine q _ _ (zbj.upd hp) ?_
 simp only [Fz]
 exact ⟨p,vs,rfl,.inl ⟨o,zap⟩,f.mono (Fzn.of (zbj.upd hp))⟩
theorem zcp:OpR X (binaryOp .Add) (rD X.K zbb):=by
 intro pins s σ H x y v u Q I rx ry h
 obtain ⟨dx,dy,d,tx,ty,e,q⟩:=h
 cases dx with
 | int i =>
  cases dy with
  | int j=>cases e;exact zvH pins s σ H x y v u Q I rx ry ⟨i,j,tx.int,ty.int,q _ H (zbj.refl _) (zfs _)⟩
  | _=>exact nomatch (show (R.bad:R D)=.ok d from e)
 | list a =>
  cases dy with
  | list b =>
   obtain ⟨c,e⟩:=zbi (show chk (leB (a.length + b.length) lim) (.ok (.list (a ++ b)))=.ok d from e)
   ·cases e
    obtain ⟨l,xs,rfl,sx,fx⟩:=tx.lst
    obtain ⟨m,ys,rfl,sy,fy⟩:=ty.lst
    cases rx
    cases ry
    obtain ⟨its,r1,⟨o,n,ho,hc,hdn,hd⟩,z1⟩:=I.list sx
    obtain ⟨its2,r2,⟨o2,n2,ho2,hc2,hdn2,hd2⟩,z2⟩:=I.list sy
    obtain ⟨cls,dd,data,sl⟩:=o
    obtain ⟨cls2,dd2,data2,sl2⟩:=o2
    simp only at hc hd hc2 hd2 hdn hdn2
    subst hc hd hc2 hd2 hdn hdn2
    have hz:its.length + its2.length<=sizeLine:=by
     have:=zjO c
     have l0:=zcF
     rw [<- r1.length,<- r2.length,fx.len,fy.len]
     omega
    refine thn (concat_meets (Q:=EP X pins σ fun v H1=>∃ p,v=.ref p/\H p=none/\H1=upd H p (.lst (xs ++ ys))) ⟨_,ho,rfl⟩ ⟨_,ho2,rfl⟩ PySem.noFill_list_add PySem.seq_list_add PySem.F.slot_list_add PySem.F.entry_list_add (PySem.F.args_list_add_2 _ _)
     (list_addW l m its.toArray its2.toArray n n2 none none sl sl2 (by rw [List.size_toArray,List.size_toArray];exact hz)) ⟨ho,ho2,?_⟩) fun _ _ z=>zk8 (fx.app fy) q z
    have ea:its.toArray ++ its2.toArray=(its ++ its2).toArray:=by simp
    rw [ea]
    exact ⟨.ref _,_,I.zxS (t':=s.toks) (r1.append r2) (by rw [List.length_append,r1.length,r2.length];exact hz),rfl,_,rfl,I.fresh,rfl⟩
  | _=>exact nomatch (show (R.bad:R D)=.ok d from e)
 | tuple a =>
  cases dy with
  | tuple b =>
   obtain ⟨c,e⟩:=zbi (show chk (leB (a.length + b.length) lim) (.ok (.tuple (a ++ b)))=.ok d from e)
   ·cases e
    obtain ⟨l,xs,rfl,sx,fx⟩:=tx.tup
    obtain ⟨m,ys,rfl,sy,fy⟩:=ty.tup
    have hz:xs.length + ys.length<=sizeLine:=by
     have:=zjO c
     have l0:=zcF
     rw [fx.len,fy.len]
     omega
    by_cases x0:xs=[]
    ·subst x0
     have a0:a=[]:=by have:=fx.len;cases a with | nil=>rfl | cons _ _=>simp at this
     subst a0
     cases rx
     cases ry
     obtain ⟨its,r1,p1,z1⟩:=I.tuple sx
     obtain ⟨its2,r2,p2,z2⟩:=I.tuple sy
     cases r1
     obtain ⟨⟨cls,dd,data,sl⟩,ho,hc,n,hd⟩:=id p1
     obtain ⟨⟨cls2,dd2,data2,sl2⟩,ho2,hc2,n2,hd2⟩:=id p2
     simp only at hc hd hc2 hd2
     subst hc hd hc2 hd2
     exact concat_meets ⟨_,ho,rfl⟩ ⟨_,ho2,rfl⟩ noFill_tuple_add seq_tuple_add PySem.F.slot_tuple_add PySem.F.entry_tuple_add (PySem.F.args_tuple_add_2 _ _)
      (tuple_addW0 l m #[] its2.toArray n n2 dd dd2 sl sl2 rfl) ⟨ho,ho2,⟨.ref m,H,I.tok _,rfl,q _ H (zbj.refl _) ty⟩⟩
    ·exact ztT pins s σ H _ _ v u Q I rx ry ⟨l,m,xs,ys,rfl,rfl,sx,sy,x0,hz,fun y0=>by
      subst y0
      have b0:b=[]:=by have:=fy.len;cases b with | nil=>rfl | cons _ _=>simp at this
      subst b0
      rw [List.append_nil] at q
      exact q _ H (zbj.refl _) tx,fun _ p hp=>q _ _ (zbj.upd hp) (zpY (.inl zap) ((fx.app fy).mono (Fzn.of (zbj.upd hp))))⟩
  | _=>exact nomatch (show (R.bad:R D)=.ok d from e)
 | _=>exact nomatch (show (R.bad:R D)=.ok d from e)
theorem zrt {f:Value->Value->Sem Value} {C:Int->Int->Prop} {g:Int->Int->Int} {c:Int->Int->Bool} {G:D->D->R D} (ho:OpR X f (rI C fun i j=>.int (g i j))) (hC:∀ i j,c i j=true->C i j)
  (hG:∀ dx dy d,G dx dy=.ok d->∃ i j,dx=.int i/\dy=.int j/\c i j=true/\d=.int (g i j)):OpR X f (rD X.K G):=by
 intro pins s σ H x y v u Q I rx ry h
 obtain ⟨dx,dy,d,tx,ty,e,q⟩:=h
 obtain ⟨i,j,rfl,rfl,cc,rfl⟩:=hG _ _ _ e
 exact ho pins s σ H x y v u Q I rx ry ⟨i,j,tx.int,ty.int,hC i j cc,q _ H (zbj.refl _) (zfs _)⟩
theorem zrM {c:Int->Int->Bool} {g:Int->Int->Int} {G:D->D->R D} (h:∀ i j,G (.int i) (.int j)=chk (c i j) (.ok (.int (g i j)))) (h0:∀ dx dy,(¬ ∃ i j,dx=.int i/\dy=.int j)->G dx dy=.bad) :
  ∀ dx dy d,G dx dy=.ok d->∃ i j,dx=.int i/\dy=.int j/\c i j=true/\d=.int (g i j):=by
 intro dx dy d e
 by_cases k:∃ i j,dx=.int i/\dy=.int j
 ·obtain ⟨i,j,rfl,rfl⟩:=k
  rw [h] at e
  obtain ⟨cc,e⟩:=zbi e
  cases e
  exact ⟨i,j,rfl,rfl,cc,rfl⟩
 ·rw [h0 _ _ k] at e;cases e
theorem zm1 {dx dy:D} {G:D->D->R D} (hb:∀ dx dy,(∀ i,dx ≠ .int i)->G dx dy=.bad) (hb2:∀ i dy,(∀ j,dy ≠ .int j)->G (.int i) dy=.bad) (h:¬ ∃ i j,dx=.int i/\dy=.int j):G dx dy=.bad:=by
 cases dx with
 | int i=>exact hb2 i dy fun j e=>h ⟨i,j,rfl,e⟩
 | _=>exact hb _ _ fun i e=>nomatch e
theorem zpn:OpR X (binaryOp .Sub) (rD X.K zit):=zrt (C:=fun _ _=>True) (c:=fun _ _=>true) (g:=fun i j=>i - j)
 (fun pins s σ H x y v u Q I rx ry ⟨i,j,e1,e2,_,q⟩=>zvB pins s σ H x y v u Q I rx ry ⟨i,j,e1,e2,q⟩) (fun _ _ _=>trivial)
 (zrM (fun _ _=>rfl) fun dx dy h=>zm1 (fun dx dy h=>by cases dx <;> first | rfl | exact absurd rfl (h _)) (fun i dy h=>by cases dy <;> first | rfl | exact absurd rfl (h _)) h)
theorem zrA {i j:Int} (h:zpu i j=true):IntMulOk i j:=by
 have:=zjO h
 have b:∀ k:Int,k.natAbs < 2 ^ (k.natAbs.log2 + 1):=fun k=>Nat.lt_log2_self
 exact mulOk_of (a:=i.natAbs.log2 + 1) (b:=j.natAbs.log2 + 1) (b i) (b j) (by omega)
theorem zrr {k:Nat} (hr:zcT k X.A):OpR X (binaryOp .FloorDiv) (rI (fun _ j=>j ≠ 0) fun i j=>.int (i.fdiv j)):=by
 intro pins s σ H x y v u Q I rx ry h
 obtain ⟨i,j,rfl,rfl,hc,q⟩:=h
 obtain ⟨t,rfl⟩:=rx
 obtain ⟨t',rfl⟩:=ry
 exact floordiv_int hc ⟨.int (i.fdiv j),H,I.tok _,⟨_,rfl⟩,q⟩ (.inr (I.pyl (by have:=hr.dp;omega)))
theorem zcc {k:Nat} (hr:zcT k X.A):OpR X (binaryOp .FloorDiv) (rD X.K zaF):=zrt (C:=fun _ j=>j ≠ 0) (c:=fun i j=>decide (j ≠ 0)) (g:=fun i j=>i.fdiv j) (zrr hr) (fun i j h=>by simpa using h)
 (zrM (fun _ _=>rfl) fun dx dy h=>zm1 (fun dx dy h=>by cases dx <;> first | rfl | exact absurd rfl (h _)) (fun i dy h=>by cases dy <;> first | rfl | exact absurd rfl (h _)) h)
theorem zl5:OpR X (binaryOp .Mod) (rD X.K zjH):=zrt (C:=fun _ j=>j ≠ 0) (c:=fun i j=>decide (j ≠ 0)) (g:=fun i j=>i.fmod j) ztS (fun i j h=>by simpa using h)
 (zrM (fun _ _=>rfl) fun dx dy h=>zm1 (fun dx dy h=>by cases dx <;> first | rfl | exact absurd rfl (h _)) (fun i dy h=>by cases dy <;> first | rfl | exact absurd rfl (h _)) h)
theorem zkH:OpR X (binaryOp .Pow) (rD X.K ziY):=zrt (C:=zx4) (c:=fun i j=>decide (0<=j) && leB j.toNat 1000000 && leB i.natAbs 18446744073709551615) (g:=fun i j=>i ^ j.toNat) zvD (fun i j h=>by simp only [Bool.and_eq_true,decide_eq_true_eq,leB_iff] at h;exact ⟨h.1.1,by omega,by omega⟩)
 (zrM (fun _ _=>rfl) fun dx dy h=>zm1 (fun dx dy h=>by cases dx <;> first | rfl | exact absurd rfl (h _)) (fun i dy h=>by cases dy <;> first | rfl | exact absurd rfl (h _)) h)
theorem zlR:UnR X (unaryOp .USub) (rD1 X.K zgJ):=by
 intro pins s σ H x v Q I rx h
 obtain ⟨dx,d,tx,e,q⟩:=h
 cases dx with
 | int i=>cases e;exact zuN pins s σ H x v Q I rx ⟨i,tx.int,q _ H (zbj.refl _) (zfs _)⟩
 | _=>exact nomatch (show (R.bad:R D)=.ok d from e)
theorem zyu (hu:X.A.units + 64 < cLine):OpR X (compareOp .Eq) (rD X.K eqD):=by
 intro pins s σ H x y v u Q I rx ry h
 obtain ⟨dx,dy,d,tx,ty,e,q⟩:=h
 obtain ⟨c,e⟩:=zbi e
 ·cases e
  simp only [Bool.and_eq_true] at c
  exact zvG hu pins s σ H x y v u Q I rx ry ⟨dx,dy,tx.is (SeqAt.canLay_of_shaped c.1),ty.is (SeqAt.canLay_of_shaped c.2),c.1,c.2,q _ H (zbj.refl _) (zmn _)⟩
theorem zyq (hu:X.A.units + 64 < cLine):OpR X (compareOp .NotEq) (rD X.K neD):=by
 intro pins s σ H x y v u Q I rx ry h
 obtain ⟨dx,dy,d,tx,ty,e,q⟩:=h
 obtain ⟨c,e⟩:=zbi e
 ·cases e
  simp only [Bool.and_eq_true] at c
  exact zvE hu pins s σ H x y v u Q I rx ry ⟨dx,dy,tx.is (SeqAt.canLay_of_shaped c.1),ty.is (SeqAt.canLay_of_shaped c.2),c.1,c.2,q _ H (zbj.refl _) (zmn _)⟩
theorem zm6:∀ a b,FL.lexLt a b=HT.lexLt a b
 | [],[]=>rfl
 | [],_ :: _=>rfl
 | _ :: _,[]=>rfl
 | x :: xs,y :: ys=>by unfold FL.lexLt HT.lexLt;rw [zm6 xs ys]
theorem ztV {op:CmpOp} {p:Int->Int->Bool} {q:List Int->List Int->Bool} (hi:OpR X (compareOp op) (rI0 fun i j=>.bl (p i j)))
  (ht:∀ {s:Shared} {l b:Addr} {items items2:Array Value} {ns ms:List Int} {Q:Value->Shared->Prop},IsTup s.heap l items->IsTup s.heap b items2->IntsAre items.toList ns->IntsAre items2.toList ms ->
   Q (.bool (q ns ms)) s->wpAny (model X.prog X.w) X.A (compareOp op (.ref l) (.ref b)) Q X.xe s):OpR X (compareOp op) (rD X.K (zwr p q)):=by
 intro pins s σ H x y v u Q I rx ry h
 obtain ⟨dx,dy,d,tx,ty,e,k⟩:=h
 cases dx with
 | int i =>
  cases dy with
  | int j=>cases e;exact hi pins s σ H x y v u Q I rx ry ⟨i,j,tx.int,ty.int,k _ H (zbj.refl _) (zmn _)⟩
  | _=>exact nomatch (show (R.bad:R D)=.ok d from e)
 | tuple a =>
  cases dy with
  | tuple b =>
   replace e:((R.of (intsOf a)).bind fun x=>(R.of (intsOf b)).bind fun y=>R.ok (PyData.bool (q x y)))=.ok d:=e
   cases ea:intsOf a with
   | none=>rw [ea] at e;cases e
   | some ns =>
    cases eb:intsOf b with
    | none=>rw [ea,eb] at e;cases e
    | some ms =>
     rw [ea,eb] at e
     cases e
     obtain ⟨l,xs,rfl,sx,fx⟩:=tx.tup
     obtain ⟨m,ys,rfl,sy,fy⟩:=ty.tup
     cases rx
     cases ry
     obtain ⟨rfl,_⟩:=fx.ints ea
     obtain ⟨rfl,_⟩:=fy.ints eb
     obtain ⟨its,r1,p1,_⟩:=I.tuple sx
     obtain ⟨its2,r2,p2,_⟩:=I.tuple sy
     exact ht p1 p2 (intsAre_of r1) (intsAre_of r2) ⟨.bl (q ns ms),H,I,rfl,k _ H (zbj.refl _) (zmn _)⟩
  | _=>exact nomatch (show (R.bad:R D)=.ok d from e)
 | _=>exact nomatch (show (R.bad:R D)=.ok d from e)
theorem zyr (hu:X.A.units + 64 < cLine):OpR X (compareOp .Lt) (rD X.K ltD):=ztV zxh fun p1 p2 i1 i2 h=>HT.zn2 p1 p2 i1 i2 (by omega) (by rw [<- zm6];exact h)
theorem zys (hu:X.A.units + 64 < cLine):OpR X (compareOp .Gt) (rD X.K gtD):=ztV zxi fun p1 p2 i1 i2 h=>zog p1 p2 i1 i2 (by omega) h
theorem zyt (hu:X.A.units + 64 < cLine):OpR X (compareOp .GtE) (rD X.K geD):=ztV zxj fun p1 p2 i1 i2 h=>zoh p1 p2 i1 i2 (by omega) h
theorem zvI:OpR X (compareOp .IsNot) (rD X.K zvK):=by
 intro pins s σ H x y v u Q I rx ry h
 obtain ⟨dx,dy,d,tx,ty,e,q⟩:=h
 cases dy with
 | none =>
  refine ztP pins s σ H x y v u Q I rx ry ⟨ty.none,?_⟩
  have:d=.bool (!decide (x=.non)):=by
   cases dx with
   | none=>have:=tx.none;subst this;cases e;rfl
   | bool b=>have:=tx.bool;subst this;cases e;rfl
   | int b=>have:=tx.int;subst this;cases e;rfl
   | str b =>
    have:x=.str b:=by simpa [Tp,Fz] using tx
    subst this;cases e;rfl
   | list b=>obtain ⟨_,_,rfl,_⟩:=tx.lst;cases e;rfl
   | tuple b=>obtain ⟨_,_,rfl,_⟩:=tx.tup;cases e;rfl
   | dict b=>obtain ⟨_,rfl,_⟩:=tx;cases e;rfl
  subst this
  exact q _ H (zbj.refl _) (zmn _)
 | _=>exact nomatch (show (R.bad:R D)=.ok d from e)
theorem zbk:IxR X (rD X.K ixD):=by
 intro value slice pins s σ H x y v u Q I rx ry h hs
 obtain ⟨dx,dy,d,tx,ty,e,q⟩:=h
 cases dx with
 | list a =>
  cases dy with
  | int i =>
   replace e:R.of (FL.atI a i)=.ok d:=e
   cases ea:FL.atI a i with
   | none=>rw [ea] at e;cases e
   | some d' =>
    rw [ea] at e
    cases e
    obtain ⟨l,xs,rfl,sx,fx⟩:=tx.lst
    obtain ⟨w,ew,fw⟩:=fx.atI ea
    exact zt5 value slice pins s σ H _ y v u Q I rx ry ⟨l,xs,i,w,rfl,ty.int,sx,ew,q _ H (zbj.refl _) fw⟩ hs
  | _=>exact nomatch (show (R.bad:R D)=.ok d from e)
 | tuple a =>
  cases dy with
  | int i =>
   replace e:R.of (FL.atI a i)=.ok d:=e
   cases ea:FL.atI a i with
   | none=>rw [ea] at e;cases e
   | some d' =>
    rw [ea] at e
    cases e
    obtain ⟨l,xs,rfl,sx,fx⟩:=tx.tup
    obtain ⟨w,ew,fw⟩:=fx.atI ea
    exact zv4 value slice pins s σ H _ y v u Q I rx ry ⟨l,xs,i,w,rfl,ty.int,sx,ew,q _ H (zbj.refl _) fw⟩ hs
  | _=>exact nomatch (show (R.bad:R D)=.ok d from e)
 | _=>exact nomatch (show (R.bad:R D)=.ok d from e)
theorem zfQ:zxH X (fun x H Q=>∃ d k,Tp X.K H d x/\zlS d=.ok k/\Q k H):=by
 intro pins s σ H x v Q I rx h
 obtain ⟨d,k,tx,e,q⟩:=h
 refine zuP pins s σ H x v Q I rx ⟨k,?_,q⟩
 cases d with
 | none=>have:=tx.none;subst this;cases e;rfl
 | bool b=>have:=tx.bool;subst this;cases e;rfl
 | int b=>have:=tx.int;subst this;cases e;rfl
 | list b =>
  obtain ⟨a,vs,rfl,sx,fx⟩:=tx.lst
  cases e
  refine .inl ⟨vs,sx,?_⟩
  have:=fx.len
  cases b <;> cases vs <;> simp_all
 | tuple b =>
  obtain ⟨a,vs,rfl,sx,fx⟩:=tx.tup
  cases e
  refine .inr (.inl ⟨vs,sx,?_⟩)
  have:=fx.len
  cases b <;> cases vs <;> simp_all
 | _=>exact nomatch (show (R.bad:R Bool)=.ok k from e)
end
end FL
namespace FL
open PySem L2 PySem.Spec
open PyProof.Rows hiding St
variable [Cs]
theorem zgI:fillsNumberSlot (.type "tuple") "mul"=pure false :=
 PySem.fillsNumberSlot_seq (id:="tuple.__mul__") (r:=some (.builtin "tuple.__rmul__")) PySem.F.slot_tuple_mul.lookup (by decide +kernel) PySem.F.slot_tuple_rmul.lookup (by decide +kernel)
theorem zkv:seqRepeat? (.type "tuple")=pure (some (.builtin "tuple.__mul__")):=by
 unfold seqRepeat?
 rw [PySem.seqSlot_of (T:="tuple") (name:="__mul__") (id:="tuple.__mul__") PySem.F.slot_tuple_mul.lookup (by decide +kernel),PySem.seqSlot_of (T:="tuple") (name:="__rmul__") (id:="tuple.__rmul__") PySem.F.slot_tuple_rmul.lookup (by decide +kernel)]
 rfl
section
open PySem.SeqAt
open PySem.AutoSeq1 (wpAny_loadPart')
open PySem.MeetsSeq PySem.MeetsSeq2 PySem.MeetsSeq3
theorem ziJ (a:Int) (t:Tok) (l:Addr) (items:Array Value) (n:Nat) (dd:Option Addr) (sl:Array (Option Value)) :
  Meets (Builtin.«int.__rmul__» ⟨[.int a t,.ref l],[]⟩) (fun _ R s=>s.heap.get? l=some { cls:=.type "tuple",dict:=dd,data:=.seq items n,slots:=sl }/\R (.ok (.ret Value.notImplemented)) s) :=
 .of_wp fun prog w A R s h=>by obtain ⟨hp,g,d,tk,os⟩:=s;obtain ⟨hl,h⟩:=h;wp_walk;exact ⟨_,rfl,h⟩
theorem znP (l:Addr) (items:Array Value) (n:Nat) (dd:Option Addr) (sl:Array (Option Value)) (k:Int) (t:Tok) (h0:items.isEmpty=false) (h1:2<=k) (h2:k < 2 ^ 62) (h3:items.size * k.toNat<=sizeLine) :
  Meets (Builtin.«tuple.__mul__» ⟨[.ref l,.int k t],[]⟩) (fun _ R s=>s.heap.get? l=some { cls:=.type "tuple",dict:=dd,data:=.seq items n,slots:=sl } /\
   R (.ok (.ret (.ref s.heap.objs.size))) { s with heap:=s.heap.push { cls:=.type "tuple",data:=.seq ((List.replicate k.toNat items).foldl (· ++ ·) #[]) } }) :=
 .of_wp fun prog w A R s h=>by
  obtain ⟨hp,g,d,tk,os⟩:=s;obtain ⟨hl,h⟩:=h
  have f1:=AutoSeq1.idx_int
  have i0:(items.size:Int) * k<=(sizeLine:Int):=by
   have e:((items.size * k.toNat:Nat):Int)=(items.size:Int) * k:=by rw [Int.natCast_mul,Int.toNat_of_nonneg (by omega)]
   rw [<- e]
   exact Int.ofNat_le.mpr h3
  have hA:¬ (decide (k < -2 ^ 63) || decide (k ≥ 2 ^ 63))=true:=by
   simp only [Bool.or_eq_true,decide_eq_true_eq,not_or]
   constructor <;> omega
  have hB:¬ (items.isEmpty || k == 1)=true:=by
   rw [h0]
   simp only [Bool.false_or,beq_iff_eq]
   omega
  have hC:¬ (decide (k<=0) || items.isEmpty)=true:=by
   rw [h0]
   simp only [Bool.or_false,decide_eq_true_eq]
   omega
  have sz:(sizeLine:Int)<=16777216:=by rw [sizeLine_eq];decide
  have hD:¬ (items.size:Int) * k > (2 ^ 63 - 1) / 8:=by omega
  have hE:¬ Builtin.Tuple.tupleTooMany ((items.size:Int) * k)=true:=by
   unfold Builtin.Tuple.tupleTooMany
   simp only [decide_eq_true_eq]
   omega
  have hs:sizeOk (.seq (List.foldl (fun x1 x2=>x1 ++ x2) #[] (List.replicate k.toNat items))):=by
   obtain ⟨its⟩:=items
   have:=foldl_rep its k.toNat []
   rw [List.nil_append] at this
   rw [this]
   show (List.replicate k.toNat its).flatten.toArray.size<=sizeLine
   rw [List.size_toArray,len_rep,Nat.mul_comm]
   exact h3
  wp_walk
  rw [if_neg hA]
  wp_walk using wpAny_loadPart' hl
  rw [if_neg hB]
  wp_walk
  rw [if_neg hC]
  wp_walk
  rw [if_neg hD]
  wp_walk
  rw [if_neg (show ¬ (List.foldl (fun x1 x2=>x1 ++ x2) #[] (List.replicate k.toNat items)).size > sizeLine from Nat.not_lt.mpr hs)]
  wp_walk
  exact ⟨_,rfl,h⟩
end
section
variable {prog:Program} {w:World} {A:Around} {E:Value->Shared->Prop} {s:Shared}
theorem zlW {t sl:Addr} {items:Array Value} {vl vu:Value} {lo hi:Option Int} {Q:Value->Shared->Prop} (ht:IsTup s.heap t items) (hs:s.heap.IsSliceOf sl vl vu .none) (pl:IsPart vl lo) (pu:IsPart vu hi)
  (hw:HT.sIx items.size 0 lo=0/\HT.sIx items.size items.size hi=items.size) (h:Q (.ref t) s):wpAny (model prog w) A (getItem (.ref t) (.ref sl)) Q E s:=by
 obtain ⟨os,hos,hcs,hds⟩:=id hs
 have hTs:s.TypeIs (.ref sl) "slice":=⟨os,hos,hcs⟩
 unfold getItem
 try with_reducible refine wpAny_holding ?_
 first | refine wpAny_bind (wpAny_pure ?_) | skip
 refine wpAny_bind (wpAny_sequenceKey ht.typeIs (by decide) ?_)
 refine wpAny_bind (wpAny_callSpecial?_slot (name:=Str.ofString "__getitem__") ht.typeIs PyProof.Rows.slot_tuple_getitem
  (wpAny_call_entry PyProof.Rows.slot_tuple_getitem ht.typeIs entry_tuple_getitem ?_ (args_tuple_getitem _ _)))
 show wpAny _ _ (Builtin.Tuple.tupleItemsOf (.ref t) >>= _) _ _ s
 refine wpAny_bind (tupleItemsOf_ ht ?_)
 refine wpAny_bind (wpAny_typeOf hTs ?_)
 rw [if_pos (by decide)]
 refine wpAny_bind (HT.zdy hs pl pu ?_)
 show wpAny _ _ (if (((HT.sIx items.size 0 lo:Nat):Int) == 0 && (1:Int) == 1 && (HT.sIx items.size items.size hi - HT.sIx items.size 0 lo) == items.size)=true then _ else _) _ _ s
 rw [hw.1,hw.2,if_pos (by simp)]
 refine wpAny_bind (m:=Builtin.Tuple.tupleIsExact _) ?_
 unfold Builtin.Tuple.tupleIsExact
 refine wpAny_bind (wpAny_typeOf ht.typeIs (wpAny_pure ?_))
 rw [if_pos (by decide)]
 exact wpAny_bind (wpAny_rule (wpAny_bind (wpAny_pure (wpAny_pure ⟨_,rfl,wpAny_pure h⟩))))
end
section
variable {X:Cx}
theorem zcg:OpR X (binaryOp .Mult) (rD X.K za9):=by
 intro pins s σ H x y v u Q I rx ry h
 obtain ⟨dx,dy,d,tx,ty,e,q⟩:=h
 cases dx with
 | int i =>
  cases dy with
  | int j =>
   obtain ⟨c,e⟩:=zbi (show chk (zpu i j) (.ok (.int (i * j)))=.ok d from e)
   cases e
   exact ztR pins s σ H x y v u Q I rx ry ⟨i,j,tx.int,ty.int,zrA c,q _ H (zbj.refl _) (zfs _)⟩
  | _=>exact nomatch (show (R.bad:R D)=.ok d from e)
 | tuple a =>
  cases dy with
  | int k =>
   obtain ⟨c,e⟩:=zbi (show chk (!a.isEmpty && leB 2 k.toNat && leB k.toNat 1000000 && leB (a.length * k.toNat) lim) (.ok (.tuple (List.replicate k.toNat a).flatten))=.ok d from e)
   cases e
   simp only [Bool.and_eq_true,leB_iff] at c
   obtain ⟨⟨⟨c0,c1⟩,c2⟩,c3⟩:=c
   obtain ⟨l,xs,rfl,sx,fx⟩:=tx.tup
   have:=ty.int
   subst this
   cases rx
   obtain ⟨t,rfl⟩:=ry
   obtain ⟨its,r1,p1,z1⟩:=I.tuple sx
   obtain ⟨⟨cls,dd,data,sl⟩,ho,hc,n,hd⟩:=id p1
   simp only at hc hd
   subst hc hd
   have hl:its.length=a.length:=by rw [<- r1.length,fx.len]
   have hz:its.length * k.toNat<=sizeLine:=by rw [hl];exact Nat.le_trans c3 zcF
   have he:its.toArray.isEmpty=false:=by
    cases its with
    | nil=>simp only [List.length_nil] at hl;cases a with | nil=>simp at c0 | cons _ _=>simp at hl
    | cons _ _=>rfl
   refine wpAny_binaryOp_repeat_ref (T:="tuple") (U:="int") (by decide) ⟨_,ho,rfl⟩ (fun s'=>typeIs_int s' k t) zgI PySem.F.fills_int_mul PySem.F.slot_int_rmul zkv PySem.F.slot_int_index.lookup
    (call_meets PySem.F.slot_int_rmul (typeIs_int s k t) PySem.F.entry_int_rmul (PySem.F.args_int_rmul_2 _ _) (ziJ k t l its.toArray n dd sl)
     ⟨ho,rfl,⟨_,ho,rfl⟩,call_meets PySem.F.slot_tuple_mul ⟨_,ho,rfl⟩ PySem.F.entry_tuple_mul (PySem.F.args_tuple_mul_2 _ _) (znP l its.toArray n dd sl k t he (by omega) (by omega) (by rw [List.size_toArray];exact hz)) ⟨ho,?_⟩⟩)
   have en:=foldl_rep its k.toNat []
   rw [List.nil_append] at en
   rw [en]
   have hp:H s.heap.objs.size=none:=I.hok.fresh (Nat.le_refl _)
   refine ⟨.ref s.heap.objs.size,_,I.laid (t':=s.toks) (o:=.tup (List.replicate k.toNat xs).flatten) (fun b ob q=>Heap.get?_push_of_some _ q) (Nat.le_refl _) ⟨by rw [len_rep,Nat.mul_comm,r1.length];exact hz,_,r1.rep k.toNat,IsTup.new _ _⟩,rfl,
    q _ _ (zbj.upd hp) (zpY (.inl zap) ((fx.rep k.toNat).mono (Fzn.of (zbj.upd hp))))⟩
  | _=>exact nomatch (show (R.bad:R D)=.ok d from e)
 | _=>exact nomatch (show (R.bad:R D)=.ok d from e)
theorem zqh {α:Type} {ds:List α} {lo hi:Option Int} (h1:FL.sIx ds.length 0 lo=0) (h2:FL.sIx ds.length ds.length hi=ds.length):FL.cut ds lo hi=ds:=by
 unfold FL.cut
 rw [h1,h2]
 simp
theorem zwX:SlR X (zxN X.K):=by
 intro pins s σ H x v vl vu lo hi sl Q I rx hs pl pu h
 obtain ⟨dx,d,tx,e,q⟩:=h
 cases dx with
 | list a =>
  cases e
  obtain ⟨l,xs,rfl,sx,fx⟩:=tx.lst
  obtain ⟨T,id,h1,h2,h3⟩:=zth pins s σ H _ v vl vu lo hi sl (fun v H1=>∃ p,v=.ref p/\H p=none/\H1=upd H p (.lst (zrX xs lo hi))) I rx hs pl pu ⟨l,xs,rfl,sx,fun p hp=>⟨p,rfl,hp,rfl⟩⟩
  exact ⟨T,id,h1,h2,thn h3 fun _ _ z=>zk8 (fx.cut lo hi) q z⟩
 | tuple a =>
  cases e
  obtain ⟨l,xs,rfl,sx,fx⟩:=tx.tup
  by_cases w:HT.sIx xs.length 0 lo=0/\HT.sIx xs.length xs.length hi=xs.length
  ·cases rx
   obtain ⟨its,r,ht,hz⟩:=I.tuple sx
   have hlen:its.toArray.size=xs.length:=by rw [List.size_toArray];exact r.length.symm
   refine ⟨"tuple",_,PyProof.Rows.slot_tuple_getitem.lookup,ht.typeIs,zlW ht hs pl pu (by rw [hlen];exact w) ⟨.ref l,H,I,rfl,q _ H (zbj.refl _) ?_⟩⟩
   rw [fx.len] at w
   rw [zqh w.1 w.2]
   exact tx
  ·exact zuX pins s σ H _ v vl vu lo hi sl Q I rx hs pl pu ⟨l,xs,rfl,sx,w,fun p hp=>q _ _ (zbj.upd hp) (zpY (.inl zap) ((fx.cut lo hi).mono (Fzn.of (zbj.upd hp))))⟩
 | _=>exact nomatch (show (R.bad:R D)=.ok d from e)
end
end FL
namespace FL
open PySem L2 PySem.Spec
open PyProof.Rows hiding St
variable [Cs]
section
variable {X:Cx}
def CallD (X:Cx) (f:Value) (g:D->R D):Prop:=zgd X f (rD0 X.K g)
theorem CallD.ds {f:Value} {g:D->R D} (h:CallD X f g):zgd X f (rDs X.K (one g)):=fun pins s σ H xs us Q I r ⟨ds,d,fz,e,q⟩=>by
 cases ds with
 | nil=>exact nomatch (show (R.bad:R D)=.ok d from e)
 | cons d0 r0 =>
  cases r0 with
  | nil =>
   simp only [zak] at fz
   obtain ⟨v,r',rfl,fv,e2⟩:=fz
   subst e2
   exact h pins s σ H _ us Q I r ⟨v,d0,d,rfl,fv.tp,e,q⟩
  | cons _ _=>exact nomatch (show (R.bad:R D)=.ok d from e)
theorem zgN:CallD X (.builtin "len") zcd:=by
 intro pins s σ H xs us Q I r h
 obtain ⟨x,dx,d,rfl,tx,e,q⟩:=h
 cases dx with
 | list a=>obtain ⟨p,vs,rfl,sx,fx⟩:=tx.lst;cases e;exact zgq pins s σ H _ us Q I r ⟨p,vs,rfl,.inl sx,by rw [fx.len];exact q _ H (zbj.refl _) (zfs _)⟩
 | tuple a=>obtain ⟨p,vs,rfl,sx,fx⟩:=tx.tup;cases e;exact zgq pins s σ H _ us Q I r ⟨p,vs,rfl,.inr sx,by rw [fx.len];exact q _ H (zbj.refl _) (zfs _)⟩
 | _=>exact nomatch (show (R.bad:R D)=.ok d from e)
theorem zuv:CallD X (.builtin "abs") zqw:=by
 intro pins s σ H xs us Q I r h
 obtain ⟨x,dx,d,rfl,tx,e,q⟩:=h
 cases dx with
 | int i=>have:=tx.int;subst this;cases e;exact zr3 pins s σ H _ us Q I r ⟨i,rfl,q _ H (zbj.refl _) (zfs _)⟩
 | _=>exact nomatch (show (R.bad:R D)=.ok d from e)
theorem zxD (hc:X.calm=true):CallD X (.builtin "all") zwx:=by
 intro pins s σ H xs us Q I r h
 obtain ⟨x,dx,d,rfl,tx,e,q⟩:=h
 cases dx with
 | list a =>
  obtain ⟨p,vs,rfl,sx,fx⟩:=tx.lst
  replace e:((R.of (boolsOf a)).bind fun x=>R.ok (PyData.bool (x.all id)))=.ok d:=e
  cases ea:boolsOf a with
  | none=>rw [ea] at e;cases e
  | some ns =>
   rw [ea] at e
   cases e
   obtain ⟨rfl,_⟩:=fx.bools ea
   exact zr2 hc pins s σ H _ us Q I r ⟨p,ns,rfl,sx,q _ H (zbj.refl _) (zmn _)⟩
 | _=>exact nomatch (show (R.bad:R D)=.ok d from e)
theorem zqm:CallD X (.type "list") zkO:=by
 intro pins s σ H xs us Q I r h
 obtain ⟨x,dx,d,rfl,tx,e,q⟩:=h
 cases dx with
 | list a =>
  obtain ⟨p,vs,rfl,sx,fx⟩:=tx.lst
  cases e
  exact thn (zgp pins s σ H _ us (fun v H1=>∃ p,v=.ref p/\H p=none/\H1=upd H p (.lst vs)) I r ⟨p,vs,rfl,.inl sx,fun l hl=>⟨l,rfl,hl,rfl⟩⟩) fun _ _ z=>zk8 fx q z
 | tuple a =>
  obtain ⟨p,vs,rfl,sx,fx⟩:=tx.tup
  cases e
  exact thn (zgp pins s σ H _ us (fun v H1=>∃ p,v=.ref p/\H p=none/\H1=upd H p (.lst vs)) I r ⟨p,vs,rfl,.inr sx,fun l hl=>⟨l,rfl,hl,rfl⟩⟩) fun _ _ z=>zk8 fx q z
 | _=>exact nomatch (show (R.bad:R D)=.ok d from e)
end
theorem Tp.ty {K:PySem.W.Frag} {H:Hp} {d:D} {x:V} (c:zxL d=true) (h:Tp K H d x):Ty K H x (.type (tyOf d)):=by
 cases d with
 | none=>have:=h.none;subst this;exact .non
 | bool b=>have:=h.bool;subst this;exact .bl b
 | int b=>have:=h.int;subst this;exact .int b
 | str b =>
  have:x=.str b:=by simpa [Tp,Fz] using h
  subst this;exact .str b
 | list b=>obtain ⟨_,_,rfl,s,_⟩:=h.lst;exact .lst s
 | tuple b=>obtain ⟨_,_,rfl,s,_⟩:=h.tup;exact .tup s
 | dict b=>cases c
def zmy (T:String):Prop:=∀ (K:PySem.W.Frag) (d:D),PySem.W.kitOne K (.type (tyOf d)) (.type T)=some (isI T d)
theorem zm9 {T:String} (h0:KC.zeY "NoneType" T=some (isI T .none)) (h1:∀ b,KC.zeY "bool" T=some (isI T (.bool b))) (h2:∀ b,KC.zeY "int" T=some (isI T (.int b))) (h3:∀ b,KC.zeY "str" T=some (isI T (.str b))) (h4:∀ b,KC.zeY "list" T=some (isI T (.list b)))
  (h5:∀ b,KC.zeY "tuple" T=some (isI T (.tuple b))) (h6:∀ b,KC.zeY "dict" T=some (isI T (.dict b))):zmy T:=fun K d=>by
 cases d with
 | none=>exact h0
 | bool b=>exact h1 b
 | int b=>exact h2 b
 | str b=>exact h3 b
 | list b=>exact h4 b
 | tuple b=>exact h5 b
 | dict b=>exact h6 b
theorem zpB:zmy "int":=zm9 (by decide +kernel) (fun _=>(by decide +kernel:KC.zeY "bool" "int"=some (isI "int" (.bool true)))) (fun _=>(by decide +kernel:KC.zeY "int" "int"=some (isI "int" (.int 0)))) (fun _=>(by decide +kernel:KC.zeY "str" "int"=some (isI "int" (.str "")))) (fun _=>(by decide +kernel:KC.zeY "list" "int"=some (isI "int" (.list [])))) (fun _=>(by decide +kernel:KC.zeY "tuple" "int"=some (isI "int" (.tuple [])))) (fun _=>(by decide +kernel:KC.zeY "dict" "int"=some (isI "int" (.dict []))))
theorem znb:zmy "bool":=zm9 (by decide +kernel) (fun _=>(by decide +kernel:KC.zeY "bool" "bool"=some (isI "bool" (.bool true)))) (fun _=>(by decide +kernel:KC.zeY "int" "bool"=some (isI "bool" (.int 0)))) (fun _=>(by decide +kernel:KC.zeY "str" "bool"=some (isI "bool" (.str "")))) (fun _=>(by decide +kernel:KC.zeY "list" "bool"=some (isI "bool" (.list [])))) (fun _=>(by decide +kernel:KC.zeY "tuple" "bool"=some (isI "bool" (.tuple [])))) (fun _=>(by decide +kernel:KC.zeY "dict" "bool"=some (isI "bool" (.dict []))))
theorem kit_tuple:zmy "tuple":=zm9 (by decide +kernel) (fun _=>(by decide +kernel:KC.zeY "bool" "tuple"=some (isI "tuple" (.bool true)))) (fun _=>(by decide +kernel:KC.zeY "int" "tuple"=some (isI "tuple" (.int 0)))) (fun _=>(by decide +kernel:KC.zeY "str" "tuple"=some (isI "tuple" (.str "")))) (fun _=>(by decide +kernel:KC.zeY "list" "tuple"=some (isI "tuple" (.list [])))) (fun _=>(by decide +kernel:KC.zeY "tuple" "tuple"=some (isI "tuple" (.tuple [])))) (fun _=>(by decide +kernel:KC.zeY "dict" "tuple"=some (isI "tuple" (.dict []))))
theorem zna:zmy "list":=zm9 (by decide +kernel) (fun _=>(by decide +kernel:KC.zeY "bool" "list"=some (isI "list" (.bool true)))) (fun _=>(by decide +kernel:KC.zeY "int" "list"=some (isI "list" (.int 0)))) (fun _=>(by decide +kernel:KC.zeY "str" "list"=some (isI "list" (.str "")))) (fun _=>(by decide +kernel:KC.zeY "list" "list"=some (isI "list" (.list [])))) (fun _=>(by decide +kernel:KC.zeY "tuple" "list"=some (isI "list" (.tuple [])))) (fun _=>(by decide +kernel:KC.zeY "dict" "list"=some (isI "list" (.dict []))))
section
variable {K:PySem.W.Frag} {X:Cx} {a:Expr} {f:EF} {pos:Pos}
theorem zvg {T:String} {tn:Str} {p p2:Pos} (kt:zmy T) (hg:Gl X "isinstance") (hm:X.mg "isinstance"=none) (hg2:Gl X tn) (hm2:X.mg tn=none) (hv2:bootBuiltins tn=some (.type T)) (ha:PV K X a f) (hn:tn ≠ "__name__":=by decide) (hd:(tn == ("__debug__":Str))=false:=by decide)
  (hs1:starEach [a,.Name tn p2] X.env=(false,eval a X.env) :: starEach [.Name tn p2] X.env:=by rfl) (hs2:starEach [.Name tn p2] X.env=(false,eval (.Name tn p2) X.env) :: starEach [] X.env:=by rfl) (hpl:(backTo pos (starEach [.Name tn p2] X.env)).any (·.1)=false:=by rfl) :
  PV K X (.Call (.Name "isinstance" p) [a,.Name tn p2] [] pos) (e1 (zbB T) f):=fun hK=>by
 subst hK
 refine (zjB (x:="isinstance") (id:="isinstance") zr1 hg hm KC.Bt.isinstance (zco (ha rfl) (zco (zxc hg2 hm2 hv2 hn hd) zgg hs2) hs1) (by decide) (by decide) hs1 hpl).weak fun σ H Q=>?_
 rintro ⟨ρ,rel,q⟩
 refine goV rel q fun dx ρ1 x H1 rel1 st1 fx q1=>?_
 obtain ⟨d,ed,q3⟩:=q1.zgO
 obtain ⟨c,ed⟩:=zbi ed
 cases ed
 exact ⟨x,.ty T,_,_,rfl,(fun z=>nomatch z),fx.tp.ty c,kt X.K dx,q3.now rel1 _ (zmn _)⟩
theorem zl2 {g:D->R D} {f:EF} {e:Expr} (h:PV K X e (zae (one g) (zaa f zai))):PV K X e (e1 g f):=fun hK=>(h hK).weak fun σ H Q=>by
 rintro ⟨ρ,rel,q⟩
 refine ⟨ρ,rel,?_⟩
 have:zae (one g) (zaa f zai) ρ=e1 g f ρ:=by
  unfold zae zaa zai e1
  cases f ρ with
  | ok x=>rfl
  | _=>rfl
 rw [this]
 exact q
end
end FL
namespace FL
open PySem L2 PySem.Spec
open PyProof.Rows hiding St
variable [Cs]
section
variable {K:PySem.W.Frag} {ρ ρ1:En} {σ:L2.St} {H H1:Hp} {i:Nat} {d:D}
theorem zht (h:zaU ρ i=.ok d):∃ p,ρ[i]?=some (.ow p d):=by
 unfold zaU at h
 cases e:ρ[i]? with
 | none=>rw [e] at h;cases h
 | some x =>
  rw [e] at h
  cases x with
  | ow p c=>cases h;exact ⟨p,rfl⟩
  | _=>cases h
theorem Rel.zpt (r:Rel K ρ σ H) (h:zaU ρ i=.ok d):∃ a,At ρ σ i a/\zbL K H a d:=by
 obtain ⟨p,e⟩:=zht h
 have hl:i < σ.length:=by rw [<- r.len];exact (List.getElem?_eq_some_iff.mp e).1
 have o:=r.ok i _ _ e (List.getElem?_eq_getElem hl)
 cases es:σ[i] with
 | none=>rw [es] at o;exact o.elim
 | some v =>
  rw [es] at o
  cases v with
  | ref a=>exact ⟨a,⟨⟨p,d,e⟩,by rw [List.getElem?_eq_getElem hl,es]⟩,o⟩
  | _=>exact o.elim
theorem Rel.again {a:Addr} (r:Rel K ρ1 σ H1) (h:zaU ρ1 i=.ok d) (at0:At ρ σ i a):zbL K H1 a d:=by
 obtain ⟨b,ab,m⟩:=r.zpt h
 have:=at0.2.symm.trans ab.2
 cases this
 exact m
theorem Rel.zyo {a:Addr} {o:HO} (r:Rel K ρ σ H) (at0:At ρ σ i a) (m:zbL K (upd H a o) a d):Rel K (zcn ρ i d) σ (upd H a o):=by
 obtain ⟨⟨p,c,e⟩,es⟩:=at0
 have hp:zcn ρ i d=ρ.set i (.ow p d):=by unfold zcn;rw [e]
 obtain ⟨u,hu,ow⟩:=r.zbe ⟨i,⟨p,c,e⟩,es⟩
 have f:Fzn H (upd H a o):=fun b w eb st=>by
  rw [zau fun z=>by subst z;rw [hu] at eb;cases eb;exact ow.zdA st]
  exact eb
 have hl:i < ρ.length:=(List.getElem?_eq_some_iff.mp e).1
 rw [hp]
 refine ⟨by rw [List.length_set];exact r.len,fun j x v e1 e2=>?_,fun j k b h1 h2=>?_,r.cst.mono f⟩
 ·by_cases c:i=j
  ·subst c
   rw [List.getElem?_set_self hl] at e1
   cases e1
   rw [es] at e2
   cases e2
   exact m
  ·rw [List.getElem?_set_ne c] at e1
   refine (r.ok j x v e1 e2).mono f fun b e3 ⟨q,dd,e4⟩=>?_
   subst e3;subst e4
   refine zau fun z=>?_
   subst z
   exact c (r.sep i j b ⟨⟨p,_,e⟩,es⟩ ⟨⟨q,dd,e1⟩,e2⟩)
 ·have w:∀ j b,At (ρ.set i (.ow p d)) σ j b->At ρ σ j b:=fun j b ⟨⟨q,dd,e1⟩,e2⟩=>by
   by_cases c:i=j
   ·subst c;exact ⟨⟨p,_,e⟩,e2⟩
   ·rw [List.getElem?_set_ne c] at e1;exact ⟨⟨q,dd,e1⟩,e2⟩
  exact r.sep j k b (w _ _ h1) (w _ _ h2)
theorem zmO {a:Addr} {o:HO} (at0:At ρ σ i a):Stp ρ (zcn ρ i d) σ H (upd H a o):=by
 obtain ⟨⟨p,c,e⟩,es⟩:=at0
 have hp:zcn ρ i d=ρ.set i (.ow p d):=by unfold zcn;rw [e]
 have hl:i < ρ.length:=(List.getElem?_eq_some_iff.mp e).1
 rw [hp]
 refine ⟨fun j q=>?_,fun b w eb n=>?_⟩
 ·by_cases c:i=j
  ·subst c
   rw [List.getElem?_set_self hl,e]
   constructor
   ·rintro ⟨_,z⟩;cases z;exact ⟨_,rfl⟩
   ·rintro ⟨_,z⟩;cases z;exact ⟨_,rfl⟩
  ·rw [List.getElem?_set_ne c]
 ·rw [zau fun z=>by subst z;exact n ⟨i,⟨p,c,e⟩,es⟩]
  exact eb
end
section
variable {K:PySem.W.Frag} {X:Cx} {a b c:Expr} {f h k:EF} {pos:Pos}
theorem zxX {g:D->R D} {i:Nat} {r:List V->Hp->VK->Prop} (hr:∀ xs H Q,rD0 K g xs H Q->r xs H Q) (σ:L2.St) (H:Hp) (Q:VK) (q:tV K (m1 g i) σ H Q):tCB r (zuU (ziv i) zxM) σ H Q:=by
 obtain ⟨ρ,rel,q⟩:=q
 obtain ⟨d,ed,q1⟩:=q.zgO
 obtain ⟨x,ex,q2⟩:=q1.zgO
 obtain ⟨ad,at0,m⟩:=rel.zpt ed
 exact ⟨.ref ad,at0.2,hr _ _ _ ⟨.ref ad,d,x,rfl,m.tp,ex,fun v H' s fz=>q2.new rel s v fz⟩⟩
theorem zvf {x y:Str} {id:String} {g:D->R D} {p py:Pos} (i:Nat) (hc:CallD X (.builtin id) g) (hg:Gl X x) (hm:X.mg x=none) (hv:bootBuiltins x=some (.builtin id)) (ha:PE X (.Name y py) (ziv i)) (hn:x ≠ "__name__":=by decide) (hdb:(x == ("__debug__":Str))=false:=by decide) :
  PV K X (.Call (.Name x p) [.Name y py] [] pos) (m1 g i):=fun hK=>by
 subst hK
 exact (zjB hc hg hm hv (zco ha zgg) hn hdb).weak fun σ H Q q=>zxX (fun _ _ _ z=>z) σ H Q q
theorem zve {x y:Str} {T:String} {g:D->R D} {p py:Pos} (i:Nat) (hc:CallD X (.type T) g) (hg:Gl X x) (hm:X.mg x=none) (hv:bootBuiltins x=some (.type T)) (ha:PE X (.Name y py) (ziv i)) (hn:x ≠ "__name__":=by decide) (hdb:(x == ("__debug__":Str))=false:=by decide) :
  PV K X (.Call (.Name x p) [.Name y py] [] pos) (m1 g i):=fun hK=>by
 subst hK
 exact (zkD hc hg hm hv (zco ha zgg) hn hdb).weak fun σ H Q q=>zxX (fun _ _ _ z=>z) σ H Q q
theorem zxW {g:D->D->R D} {i:Nat} {r:R2} (hr:∀ x y H Q,rD K g x y H Q->r x y H Q) (σ:L2.St) (H:Hp) (Q:VK) (q:tV K (m2 g i h) σ H Q):tOp r (ziv i) (tV K h) σ H Q:=by
 obtain ⟨ρ,rel,q⟩:=q
 obtain ⟨d,ed,q1⟩:=q.zgO
 obtain ⟨ad,at0,m⟩:=rel.zpt ed
 refine ⟨.ref ad,at0.2,goV rel q1 fun dy ρ1 y H1 rel1 st1 fy q2=>?_⟩
 obtain ⟨d2,ed2,q3⟩:=q2.zgO
 obtain ⟨x,ex,q4⟩:=q3.zgO
 exact hr _ _ _ _ ⟨d2,dy,x,(rel1.again ed2 at0).tp,fy.tp,ex,fun v H' s fz=>q4.new rel1 s v fz⟩
theorem zvc {g:D->D->R D} {y:Str} {py:Pos} (i:Nat) (ho:IxR X (rD X.K g)) (ha:PE X (.Name y py) (ziv i)) (hb:PV K X b h) (hs:zkc b:=by exact fun _ _=>rfl):PV K X (.Subscript (.Name y py) b pos) (m2 g i h):=fun hK=>by
 subst hK
 exact (zvx ho ha (hb rfl) hs).weak fun σ H Q q=>zxW (fun _ _ _ _ z=>z) σ H Q q
theorem zxw {g:D->D->R D} {i:Nat} {r:R2} (hr:∀ x y H Q,rD K g x y H Q->r x y H Q) (σ:L2.St) (H:Hp) (Q:VK) (q:tV K (m2r g f i) σ H Q):tOp r (tV K f) (ziv i) σ H Q:=by
 obtain ⟨ρ,rel,q⟩:=q
 refine goV rel q fun dx ρ1 x H1 rel1 st1 fx q2=>?_
 obtain ⟨d2,ed2,q3⟩:=q2.zgO
 obtain ⟨x,ex,q4⟩:=q3.zgO
 obtain ⟨ad,at0,m⟩:=rel1.zpt ed2
 exact ⟨.ref ad,at0.2,hr _ _ _ _ ⟨dx,d2,x,fx.tp,m.tp,ex,fun v H' s fz=>q4.new rel1 s v fz⟩⟩
theorem ztm {op:CmpOp} {g:D->D->R D} {y:Str} {py:Pos} (i:Nat) (ho:OpR X (compareOp op) (rD X.K g)) (ha:PV K X a f) (hb:PE X (.Name y py) (ziv i)) (hm:behindInMarks op (.Name y py)=false):PVT K X (.Compare a [op] [.Name y py] pos) (tB (m2r g f i)):=fun hK=>by
 subst hK
 exact (zo9 ho (ha rfl) hb hm).weak fun σ H Q q=>goB (fun σ H Q z=>zxw (fun _ _ _ _ z=>z) σ H Q z) σ H Q q
end
end FL
namespace FL
open PySem L2 PySem.Spec
open PyProof.Rows hiding St
variable [Cs]
structure SC where
 H₀:Hp
 σ₀:L2.St
 ρ₀:En
structure zeC (K:PySem.W.Frag) (C:SC) (ρ:En) (σ:L2.St) (H:Hp):Prop where
 rel:Rel K ρ σ H
 keep:∀ a o,C.H₀ a=some o->¬ MA C.ρ₀ C.σ₀ a->H a=some o
 own:∀ (i:Nat) a d,ρ[i]?=some (.ow false d)->σ[i]?=some (some (.ref a))->C.H₀ a=none
 pin:∀ (i:Nat),(∃ d,ρ[i]?=some (.ow true d)) ↔ ∃ d,C.ρ₀[i]?=some (.ow true d)
 fix:∀ (i:Nat) d,ρ[i]?=some (.ow true d)->σ[i]?=C.σ₀[i]?
 prm:∀ (i:Nat) p d,C.ρ₀[i]?=some (.ow p d)->p=true
section
variable {K:PySem.W.Frag} {C:SC} {ρ ρ1:En} {σ σ1:L2.St} {H H1:Hp}
theorem zeC.zyy (r:zeC K C ρ σ H) {a:Addr} {o:HO} (e:C.H₀ a=some o) (n:¬ MA C.ρ₀ C.σ₀ a):¬ MA ρ σ a:=by
 rintro ⟨i,⟨p,d,e1⟩,e2⟩
 cases p with
 | false=>rw [r.own i a d e1 e2] at e;cases e
 | true =>
  obtain ⟨d0,e0⟩:=(r.pin i).mp ⟨d,e1⟩
  exact n ⟨i,⟨true,d0,e0⟩,by rw [<- r.fix i d e1];exact e2⟩
theorem zeC.step (r:zeC K C ρ σ H) (rel:Rel K ρ1 σ H1) (st:Stp ρ ρ1 σ H H1):zeC K C ρ1 σ H1 where
 rel:=rel
 keep:=fun a o e n=>st.kp a o (r.keep a o e n) (r.zyy e n)
 own:=fun i a d e1 e2=>by
  obtain ⟨d',e'⟩:=(st.md i false).mpr ⟨d,e1⟩
  exact r.own i a d' e' e2
 pin:=fun i=>(st.md i true).symm.trans (r.pin i)
 fix:=fun i d e=>by
  obtain ⟨d',e'⟩:=(st.md i true).mpr ⟨d,e⟩
  exact r.fix i d' e'
 prm:=r.prm
def Chg (dom:List Nat) (ρ ρ1:En) (σ σ1:L2.St):Prop:=σ1.length=σ.length/\∀ (i:Nat),(ρ1[i]?=ρ[i]?/\σ1[i]?=σ[i]?)\/(i ∈ dom/\(∃ d,ρ1[i]?=some (.val d))/\∀ e,ρ[i]? ≠ some (.ow true e))
theorem Chg.refl {dom:List Nat}:Chg dom ρ ρ σ σ:=⟨rfl,fun _=>.inl ⟨rfl,rfl⟩⟩
theorem Chg.trans {d1 d2:List Nat} {ρ2:En} {σ2:L2.St} (a:Chg d1 ρ ρ1 σ σ1) (b:Chg d2 ρ1 ρ2 σ1 σ2):Chg (d1 ++ d2) ρ ρ2 σ σ2:=⟨b.1.trans a.1,fun i=>by
 rcases b.2 i with ⟨b1,b2⟩ | ⟨bm,b1,b2⟩
 ·rcases a.2 i with ⟨a1,a2⟩ | ⟨am,a1,a2⟩
  ·exact .inl ⟨b1.trans a1,b2.trans a2⟩
  ·exact .inr ⟨List.mem_append_left _ am,by rw [b1];exact a1,a2⟩
 ·rcases a.2 i with ⟨a1,a2⟩ | ⟨am,a1,a2⟩
  ·exact .inr ⟨List.mem_append_right _ bm,b1,fun e z=>b2 e (by rw [a1];exact z)⟩
  ·exact .inr ⟨List.mem_append_left _ am,b1,a2⟩⟩
theorem zeC.chg {dom:List Nat} (r:zeC K C ρ σ H) (rel:Rel K ρ1 σ1 H) (c:Chg dom ρ ρ1 σ σ1):zeC K C ρ1 σ1 H where
 rel:=rel
 keep:=r.keep
 own:=fun i a d e1 e2=>by
  rcases c.2 i with ⟨c1,c2⟩ | ⟨_,⟨d',c1⟩,c2⟩
  ·exact r.own i a d (by rw [<- c1];exact e1) (by rw [<- c2];exact e2)
  ·rw [c1] at e1;cases e1
 pin:=fun i=>by
  rcases c.2 i with ⟨c1,c2⟩ | ⟨_,⟨d',c1⟩,c2⟩
  ·rw [c1];exact r.pin i
  ·rw [c1,<- r.pin i]
   constructor
   ·rintro ⟨_,z⟩;cases z
   ·rintro ⟨d,z⟩;exact absurd z (c2 d)
 fix:=fun i d e=>by
  rcases c.2 i with ⟨c1,c2⟩ | ⟨_,⟨d',c1⟩,c2⟩
  ·rw [c2];exact r.fix i d (by rw [<- c1];exact e)
  ·rw [c1] at e;cases e
 prm:=r.prm
theorem zeC.fresh (r:zeC K C ρ σ H) {a:Addr} (ha:H a=none):C.H₀ a=none:=by
 cases e0:C.H₀ a with
 | none=>rfl
 | some o =>
  by_cases k:MA C.ρ₀ C.σ₀ a
  ·obtain ⟨i,⟨p,d0,e1⟩,e2⟩:=k
   have:=r.prm i p d0 e1
   subst this
   obtain ⟨d2,e3⟩:=(r.pin i).mpr ⟨d0,e1⟩
   obtain ⟨o',e',_⟩:=r.rel.zbe ⟨i,⟨true,d2,e3⟩,by rw [r.fix i d2 e3];exact e2⟩
   rw [ha] at e';cases e'
  ·rw [r.keep a o e0 k] at ha;cases ha
def zcB (K:PySem.W.Frag) (C:SC) (H:Hp) (r:R (Fl × En)) (Dn:Ends):Prop:=match r with
 | .ok x=>match x.1 with
  | .nx=>∀ σ' H',zeC K C x.2 σ' H'->Fzn H H'->Dn.nx σ' H'
  | .bk=>∀ σ' H',zeC K C x.2 σ' H'->Fzn H H'->Dn.bk σ' H'
  | .ct=>∀ σ' H',zeC K C x.2 σ' H'->Fzn H H'->Dn.ct σ' H'
  | .rt d=>∀ v σ' H',zeC K C x.2 σ' H'->Fz K H' d v->Dn.rt v H'
  | .rf d=>∀ a σ' H',zeC K C x.2 σ' H'->C.H₀ a=none->zbL K H' a d->Dn.rt (.ref a) H'
 | _=>False
theorem zcB.step {r:R (Fl × En)} {Dn:Ends} (f:Fzn H H1) (g:zcB K C H r Dn):zcB K C H1 r Dn:=by
 cases r with
 | ok x =>
  obtain ⟨fl,ρ⟩:=x
  cases fl with
  | nx=>exact fun σ' H' r z=>g σ' H' r (f.trans z)
  | bk=>exact fun σ' H' r z=>g σ' H' r (f.trans z)
  | ct=>exact fun σ' H' r z=>g σ' H' r (f.trans z)
  | rt d=>exact g
  | rf d=>exact g
 | _=>exact g
theorem zcB.bnd {β:Type} {r:R β} {k:β->R (Fl × En)} {Dn:Ends} (g:zcB K C H (r.bind k) Dn):∃ x,r=.ok x/\zcB K C H (k x) Dn:=by
 cases r with
 | ok x=>exact ⟨x,rfl,g⟩
 | _=>exact g.elim
def tS (K:PySem.W.Frag) (C:SC) (f:SF):TS:=fun Dn σ H=>∃ ρ,zeC K C ρ σ H/\zcB K C H (f ρ) Dn
theorem zpV {f:EF} {k:D × En->R (Fl × En)} {S:VK} {Dn:Ends} (rel:zeC K C ρ σ H) (g:zcB K C H ((f ρ).bind k) Dn)
  (h:∀ d ρ1 v H1,zeC K C ρ1 σ H1->Stp ρ ρ1 σ H H1->Fz K H1 d v->zcB K C H1 (k (d,ρ1)) Dn->S v H1):tV K f σ H S:=by
 obtain ⟨x,e,g1⟩:=g.bnd
 refine ⟨ρ,rel.rel,?_⟩
 rw [e]
 exact fun H' r s v fz=>h x.1 x.2 v H' (rel.step r s) s fz (g1.step (s.fzn rel.rel))
theorem zxU {f:TF} {k:Bool × En->R (Fl × En)} {S:Bool->Hp->Prop} {Dn:Ends} (rel:zeC K C ρ σ H) (g:zcB K C H ((f ρ).bind k) Dn)
  (h:∀ b ρ1 H1,zeC K C ρ1 σ H1->Fzn H H1->zcB K C H1 (k (b,ρ1)) Dn->S b H1):tT K f σ H S:=by
 obtain ⟨x,e,g1⟩:=g.bnd
 refine ⟨ρ,rel.rel,?_⟩
 rw [e]
 exact fun H' r s=>h x.1 x.2 H' (rel.step r s) (s.fzn rel.rel) (g1.step (s.fzn rel.rel))
theorem zxV {f:EF} {k:D × En->R (Fl × En)} {S:VK} {Dn:Ends} (rel:zeC K C ρ σ H) (g:zcB K C H ((f ρ).bind k) Dn)
  (h:∀ d ρ1 a H1,zeC K C ρ1 σ H1->Fzn H H1->H a=none->¬ MA ρ1 σ a->zbL K H1 a d->zcB K C H1 (k (d,ρ1)) Dn->S (.ref a) H1):tN K f σ H S:=by
 obtain ⟨x,e,g1⟩:=g.bnd
 refine ⟨ρ,rel.rel,?_⟩
 rw [e]
 refine fun H' r s a ha m=>h x.1 x.2 a H' (rel.step r s) (s.fzn rel.rel) ha (fun z=>?_) m (g1.step (s.fzn rel.rel))
 obtain ⟨o',e',_⟩:=rel.rel.zbe (s.ma.mpr z)
 rw [ha] at e';cases e'
end
def PSV (K:PySem.W.Frag) (X:Cx) (st:Stmt) (f:SF):Prop:=X.K=K->∀ C,PS X st (tS K C f)
def zlO (K:PySem.W.Frag) (X:Cx) (st:List Stmt) (f:SF):Prop:=X.K=K->∀ C,PSs X st (tS K C f)
theorem _root_.L2.PS.weak {X:Cx} {e:Stmt} {t t':TS} (h:PS X e t) (w:∀ Dn σ H,t' Dn σ H->t Dn σ H):PS X e t':=fun pins s σ H Dn I q=>h pins s σ H Dn I (w Dn σ H q)
theorem _root_.L2.PSs.weak {X:Cx} {e:List Stmt} {t t':TS} (h:PSs X e t) (w:∀ Dn σ H,t' Dn σ H->t Dn σ H):PSs X e t':=fun pins s σ H Dn I q=>h pins s σ H Dn I (w Dn σ H q)
def tG (K:PySem.W.Frag) (dom:List Nat) (g:GF):TG:=fun v σ H Q=>∃ ρ d ρ1,Rel K ρ σ H/\Fz K H d v/\g d ρ=.ok ρ1/\∀ σ1,Rel K ρ1 σ1 H->Chg dom ρ ρ1 σ σ1->Q σ1 H
def tGs (K:PySem.W.Frag) (dom:List Nat) (gs:List GF):TGs:=fun vs σ H Q=>∃ ρ ds ρ1,Rel K ρ σ H/\zak K H ds vs/\zug gs ds ρ=.ok ρ1/\∀ σ1,Rel K ρ1 σ1 H->Chg dom ρ ρ1 σ σ1->Q σ1 H
def PVG (K:PySem.W.Frag) (X:Cx) (dom:List Nat) (e:Expr) (g:GF):Prop:=X.K=K->PG X e (tG K dom g)
def zwM (K:PySem.W.Frag) (X:Cx) (dom:List Nat) (e:List Expr) (g:List GF):Prop:=X.K=K->PGs X e (tGs K dom g)
theorem _root_.L2.PG.weak {X:Cx} {e:Expr} {t t':TG} (h:PG X e t) (w:∀ v σ H Q,t' v σ H Q->t v σ H Q):PG X e t':=fun pins s σ H v u Q I r q=>h pins s σ H v u Q I r (w v σ H Q q)
theorem _root_.L2.PGs.weak {X:Cx} {e:List Expr} {t t':TGs} (h:PGs X e t) (w:∀ v σ H Q,t' v σ H Q->t v σ H Q):PGs X e t':=fun pins s σ H v u Q I r q=>h pins s σ H v u Q I r (w v σ H Q q)
theorem Rel.set {K:PySem.W.Frag} {ρ:En} {σ:L2.St} {H:Hp} {i:Nat} {x:Sl} {v:Option V} (r:Rel K ρ σ H) (o:zuy K H x v) (s:∀ a p d,x=.ow p d->v=some (.ref a)->¬ MA ρ σ a):Rel K (ρ.set i x) (σ.set i v) H:=by
 refine ⟨by rw [List.length_set,List.length_set];exact r.len,fun j y w e1 e2=>?_,fun j k b h1 h2=>?_,r.cst⟩
 ·by_cases c:i=j
  ·subst c
   by_cases hl:i < ρ.length
   ·rw [List.getElem?_set_self hl] at e1
    rw [List.getElem?_set_self (by rw [<- r.len];exact hl)] at e2
    cases e1;cases e2
    exact o
   ·rw [List.getElem?_eq_none (by rw [List.length_set];omega)] at e1;cases e1
  ·rw [List.getElem?_set_ne c] at e1 e2
   exact r.ok j y w e1 e2
 ·have w:∀ j b,At (ρ.set i x) (σ.set i v) j b->(j=i/\(∃ p d,x=.ow p d)/\v=some (.ref b))\/(j ≠ i/\At ρ σ j b):=fun j b ⟨⟨q,dd,e1⟩,e2⟩=>by
   by_cases c:i=j
   ·subst c
    have hl:i < ρ.length:=by
     have:=(List.getElem?_eq_some_iff.mp e1).1
     rwa [List.length_set] at this
    rw [List.getElem?_set_self hl] at e1
    rw [List.getElem?_set_self (by rw [<- r.len];exact hl)] at e2
    cases e1;cases e2
    exact .inl ⟨rfl,⟨q,dd,rfl⟩,rfl⟩
   ·rw [List.getElem?_set_ne c] at e1 e2
    exact .inr ⟨fun z=>c z.symm,⟨q,dd,e1⟩,e2⟩
  rcases w j b h1 with ⟨rfl,⟨p,d,e⟩,e'⟩ | ⟨n1,a1⟩
  ·rcases w k b h2 with ⟨rfl,_,_⟩ | ⟨n2,a2⟩
   ·rfl
   ·exact absurd ⟨k,a2⟩ (s b p d e e')
  ·rcases w k b h2 with ⟨rfl,⟨p,d,e⟩,e'⟩ | ⟨n2,a2⟩
   ·exact absurd ⟨j,a1⟩ (s b p d e e')
   ·exact r.sep j k b a1 a2
section
variable {K:PySem.W.Frag} {X:Cx} {pos:Pos}
theorem zng {i:Nat} {d:D} {ρ ρ1:En} (h:gN i d ρ=.ok ρ1):ρ1=ρ.set i (.val d)/\(∀ e,ρ[i]? ≠ some (.ow true e))/\i < ρ.length:=by
 unfold gN at h
 cases e:ρ[i]? with
 | none=>rw [e] at h;cases h
 | some x =>
  rw [e] at h
  have hl:i < ρ.length:=(List.getElem?_eq_some_iff.mp e).1
  cases x with
  | no=>cases h;exact ⟨rfl,(fun _ z=>nomatch z),hl⟩
  | val c=>cases h;exact ⟨rfl,(fun _ z=>nomatch z),hl⟩
  | ow p c =>
   cases p with
   | true=>cases h
   | false=>cases h;exact ⟨rfl,(fun _ z=>nomatch z),hl⟩
theorem zj5 {ρ:En} {σ:L2.St} {i:Nat} {d:D} {v:Option V} (n:∀ e,ρ[i]? ≠ some (.ow true e)) (hl:i < ρ.length):Chg [i] ρ (ρ.set i (.val d)) σ (σ.set i v):=⟨List.length_set,fun j=>by
 by_cases c:i=j
 ·subst c
  exact .inr ⟨List.mem_singleton.mpr rfl,⟨d,List.getElem?_set_self hl⟩,n⟩
 ·exact .inl ⟨List.getElem?_set_ne c,List.getElem?_set_ne c⟩⟩
theorem zq9 {i:Nat} {x:Str} (hN:X.N.Nodup) (hi:X.N[i]?=some x) (hx:Loc X.env.scope x) (hf:X.fn x=true\/X.env.scope.names.lookup x=some .local:=by first | exact .inl rfl | exact .inr rfl | assumption):PVG K X [i] (.Name x pos) (gN i):=fun _=>(ztG hN hi hx hf).weak fun v σ H Q=>by
 rintro ⟨ρ,d,ρ1,rel,fz,e,q⟩
 obtain ⟨rfl,n,hl⟩:=zng e
 exact q _ (rel.set fz fun _ _ _ z=>nomatch z) (zj5 n hl)
theorem zcf:zwM K X [] [] []:=fun _=>ztF.weak fun vs σ H Q=>by
 rintro ⟨ρ,ds,ρ1,rel,fz,e,q⟩
 cases ds with
 | nil =>
  cases e
  simp only [zak] at fz
  exact ⟨fz,q _ rel .refl⟩
 | cons _ _=>cases e
theorem zat {α β:Type} {r:R α} {k:α->R β} {b:β} (h:r.bind k=.ok b):∃ a,r=.ok a/\k a=.ok b:=by
 cases r with
 | ok a=>exact ⟨a,rfl,h⟩
 | _=>cases h
theorem zaH {e:Expr} {es:List Expr} {g:GF} {gs:List GF} {d1 d2:List Nat} (h1:PVG K X d1 e g) (h2:zwM K X d2 es gs)
  (hs:(assignEach (e :: es) X.env).map (·.2)=assign e X.env :: (assignEach es X.env).map (·.2):=by rfl):zwM K X (d1 ++ d2) (e :: es) (g :: gs):=fun hK=>(zrk (h1 hK) (h2 hK) hs).weak fun vs σ H Q=>by
 rintro ⟨ρ,ds,ρ1,rel,fz,e,q⟩
 cases ds with
 | nil=>cases e
 | cons d ds =>
  simp only [zak] at fz
  obtain ⟨v,r,rfl,f1,f2⟩:=fz
  obtain ⟨ρ2,e2,e3⟩:=zat (show (g d ρ).bind (fun ρ1=>zug gs ds ρ1)=.ok ρ1 from e)
  exact ⟨v,r,rfl,ρ,d,ρ2,rel,f1,e2,fun σ1 rel1 c1=>⟨ρ2,ds,ρ1,rel1,f2,e3,fun σ2 rel2 c2=>q σ2 rel2 (c1.trans c2)⟩⟩
theorem znh:∀ {gs:List GF} {ds:List D} {ρ ρ1:En},zug gs ds ρ=.ok ρ1->ds.length=gs.length
 | [],[],_,_,_=>rfl
 | [],_ :: _,_,_,e=>by cases e
 | _ :: _,[],_,_,e=>by cases e
 | g :: gs,d :: ds,ρ,ρ1,e=>by
  obtain ⟨ρ2,e2,e3⟩:=zat (show (g d ρ).bind (fun ρ1=>zug gs ds ρ1)=.ok ρ1 from e)
  simp [znh e3]
theorem zdb {es:List Expr} {k:Nat} {gs:List GF} {dom:List Nat} (hc:X.calm=true) (h:zwM K X dom es gs)
  (hn:(assignEach es X.env).length=gs.length:=by rfl) (hst:(assignEach es X.env).findIdx? (·.1)=none:=by rfl):PVG K X dom (.Tuple es k pos) (gT gs):=fun hK=>by
 subst hK
 refine (zvq hc (h rfl) hn hst).weak fun v σ H Q=>?_
 rintro ⟨ρ,d,ρ1,rel,fz,e,q⟩
 cases d with
 | tuple ds =>
  simp only [Fz] at fz
  obtain ⟨a,vs,rfl,s,f⟩:=fz
  replace e:zug gs ds ρ=.ok ρ1:=e
  exact ⟨a,vs,rfl,.inl s,by rw [f.len,znh e],ρ,ds,ρ1,rel,f,e,q⟩
 | _=>cases e
variable {st:Stmt} {rest:List Stmt} {s t:SF} {e:Expr} {f:EF}
theorem zaC:zlO K X [] sNx:=fun _ C=>ztx.weak fun Dn σ H=>by
 rintro ⟨ρ,rel,g⟩
 exact g σ H rel (Fzn.refl H)
theorem zag (h1:PSV K X st s) (h2:zlO K X rest t):zlO K X (st :: rest) (zao s t):=fun hK C=>(zre (h1 hK C) (h2 hK C)).weak fun Dn σ H=>by
 rintro ⟨ρ,rel,g⟩
 refine ⟨ρ,rel,?_⟩
 obtain ⟨x,ex,g1⟩:=g.bnd
 rw [ex]
 obtain ⟨fl,ρ1⟩:=x
 cases fl with
 | nx=>exact fun σ' H' r z=>⟨ρ1,r,g1.step z⟩
 | bk=>exact g1
 | ct=>exact g1
 | rt d=>exact g1
 | rf d=>exact g1
theorem zaq (h1:PSV K X st s):zlO K X [st] s:=fun hK C=>ztw (h1 hK C)
theorem zo1:PSV K X (.Break pos) zu0:=fun _ C=>zrh.weak fun Dn σ H=>by
 rintro ⟨ρ,rel,g⟩
 exact g σ H rel (Fzn.refl H)
theorem zfj:PSV K X st zlM:=fun _ C=>zrg.weak fun Dn σ H=>by
 rintro ⟨ρ,rel,g⟩
 exact g.elim
theorem zq3 (he:PV K X e f) (hs:swapsWith e none pos.line X.env=pure false:=by rfl):PSV K X (.Expr e pos) (sE f):=fun hK C=>(zpb (he hK) hs).weak fun Dn σ H=>by
 rintro ⟨ρ,rel,g⟩
 exact zpV rel g fun d ρ1 v H1 rel1 st1 fz g1=>g1 σ H1 rel1 (Fzn.refl H1)
theorem ztp (he:PV K X e f):PSV K X (.Return (some e) pos) (zav f):=fun hK C=>(zpa (he hK)).weak fun Dn σ H=>by
 rintro ⟨ρ,rel,g⟩
 exact zpV rel g fun d ρ1 v H1 rel1 st1 fz g1=>g1 v σ H1 rel1 fz
theorem zda (he:PVN K X e f):PSV K X (.Return (some e) pos) (zcA f):=fun hK C=>(zpa (he hK)).weak fun Dn σ H=>by
 rintro ⟨ρ,rel,g⟩
 exact zxV rel g fun d ρ1 a H1 rel1 fz ha n m g1=>g1 a σ H1 rel1 (rel.fresh ha) m
theorem zgS {y:Str} {py:Pos} (i:Nat) (ha:PE X (.Name y py) (ziv i)):PSV K X (.Return (some (.Name y py)) pos) (zhj i):=fun hK C=>(zpa ha).weak fun Dn σ H=>by
 rintro ⟨ρ,rel,g⟩
 unfold zhj at g
 cases e:ρ[i]? with
 | none=>rw [e] at g;exact g.elim
 | some x =>
  rw [e] at g
  cases x with
  | ow p d =>
   cases p with
   | false =>
    obtain ⟨a,at0,m⟩:=rel.rel.zpt (d:=d) (show zaU ρ i=.ok d by unfold zaU;rw [e])
    exact ⟨.ref a,at0.2,g a σ H rel (rel.own i a d e at0.2) m⟩
   | true=>exact g.elim
  | _=>exact g.elim
theorem zaN {c:Expr} {a b:List Stmt} {tc:TF} (hc:PVT K X c tc) (ha:zlO K X a s) (hb:zlO K X b t):PSV K X (.If c a b pos) (sIf tc s t):=fun hK C=>(zxa (hc hK) (ha hK C) (hb hK C)).weak fun Dn σ H=>by
 rintro ⟨ρ,rel,g⟩
 refine zxU rel g fun cb ρ1 H1 rel1 fz g1=>?_
 cases cb with
 | true=>exact zsN ⟨ρ1,rel1,g1⟩
 | false=>exact zsO ⟨ρ1,rel1,g1⟩
theorem zo2 {tg:Expr} {g:GF} {dom:List Nat} (he:PV K X e f) (hg:PVG K X dom tg g) (hs:swapsWithSole [tg] e pos.line X.env=pure false:=by rfl) (hw:swappedStores [tg] e X.env=pure none:=by rfl)
  (h1:(assignEach [tg] X.env).map (·.2)=[assign tg X.env]:=by rfl):PSV K X (.Assign [tg] e pos) (zax g f):=fun hK C=>(zss (he hK) (hg hK) hs hw h1).weak fun Dn σ H=>by
 rintro ⟨ρ,rel,q⟩
 refine zpV rel q fun d ρ1 v H1 rel1 st1 fz q1=>?_
 obtain ⟨ρ2,e2,q2⟩:=q1.bnd
 exact ⟨ρ1,d,ρ2,rel1.rel,fz,e2,fun σ1 rel2 c=>q2 σ1 H1 (rel1.chg rel2 c) (Fzn.refl H1)⟩
theorem zto {i:Nat} {x:Str} {pos':Pos} (hN:X.N.Nodup) (hi:X.N[i]?=some x) (hx:Loc X.env.scope x) (he:PV K X e f) (hs:swapsWith e (some (.Name x pos')) pos.line X.env=pure false:=by rfl) (hf:X.fn x=true\/X.env.scope.names.lookup x=some .local:=by first | exact .inl rfl | exact .inr rfl | assumption) :
  PSV K X (.Assign [.Name x pos'] e pos) (zax (gN i) f):=fun hK C=>(zsr hN hi hx (he hK) hs hf).weak fun Dn σ H=>by
 rintro ⟨ρ,rel,q⟩
 refine zpV rel q fun d ρ1 v H1 rel1 st1 fz q1=>?_
 obtain ⟨ρ2,e2,q2⟩:=q1.bnd
 obtain ⟨rfl,n,hl⟩:=zng e2
 exact q2 _ H1 (rel1.chg (rel1.rel.set fz fun _ _ _ z=>nomatch z) (zj5 n hl)) (Fzn.refl H1)
theorem zv8 {i:Nat} {C:SC} (Dn:Ends) (σ:L2.St) (H:Hp) (q0:tS K C (zcy i f) Dn σ H):zuW (tN K f) (zpW i) Dn σ H:=by
 revert q0
 rintro ⟨ρ,rel,q⟩
 refine zxV rel q fun d ρ1 a H1 rel1 fz ha n m q1=>?_
 have hf:=rel.fresh ha
 replace q1:zcB K C H1 (match ρ1[i]? with | some (.ow true _)=>.bad | some _=>.ok (.nx,ρ1.set i (.ow false d)) | none=>.bad) Dn:=q1
 have fin:(∀ e,ρ1[i]? ≠ some (.ow true e))->i < ρ1.length->zeC K C (ρ1.set i (.ow false d)) (σ.set i (some (.ref a))) H1:=fun np hl=>by
  have hls:i < σ.length:=by rw [<- rel1.rel.len];exact hl
  refine ⟨rel1.rel.set (show zuy K H1 (.ow false d) (some (.ref a)) from m) fun b p c e1 e2=>by cases e2;exact n,rel1.keep,fun j b c e1 e2=>?_,fun j=>?_,fun j c e1=>?_,rel1.prm⟩
  ·by_cases k:i=j
   ·subst k
    rw [List.getElem?_set_self hls] at e2
    cases e2
    exact hf
   ·rw [List.getElem?_set_ne k] at e1 e2
    exact rel1.own j b c e1 e2
  ·by_cases k:i=j
   ·subst k
    rw [List.getElem?_set_self hl,<- rel1.pin i]
    constructor
    ·rintro ⟨_,z⟩;cases z
    ·rintro ⟨c,z⟩;exact absurd z (np c)
   ·rw [List.getElem?_set_ne k];exact rel1.pin j
  ·by_cases k:i=j
   ·subst k
    rw [List.getElem?_set_self hl] at e1;cases e1
   ·rw [List.getElem?_set_ne k] at e1 ⊢
    exact rel1.fix j c e1
 cases e1:ρ1[i]? with
 | none=>rw [e1] at q1;exact q1.elim
 | some y =>
  have hl:i < ρ1.length:=(List.getElem?_eq_some_iff.mp e1).1
  rw [e1] at q1
  cases y with
  | no=>exact q1 _ H1 (fin (fun e z=>by rw [e1] at z;cases z) hl) (Fzn.refl H1)
  | val c=>exact q1 _ H1 (fin (fun e z=>by rw [e1] at z;cases z) hl) (Fzn.refl H1)
  | ow p c =>
   cases p with
   | true=>exact q1.elim
   | false=>exact q1 _ H1 (fin (fun e z=>by rw [e1] at z;cases z) hl) (Fzn.refl H1)
theorem ztr {i:Nat} {x:Str} {pos':Pos} (hN:X.N.Nodup) (hi:X.N[i]?=some x) (hx:Loc X.env.scope x) (he:PVN K X e f) (hs:swapsWith e (some (.Name x pos')) pos.line X.env=pure false:=by rfl) (hf:X.fn x=true\/X.env.scope.names.lookup x=some .local:=by first | exact .inl rfl | exact .inr rfl | assumption) :
  PSV K X (.Assign [.Name x pos'] e pos) (zcy i f):=fun hK C=>(zsr hN hi hx (he hK) hs hf).weak fun Dn σ H q=>zv8 Dn σ H q
theorem zl0 (i:Nat) (h:PSV K X st s):PSV K X st (zqJ i s):=fun hK C=>by
 have h1:PS X st (fun Dn σ H=>∃ a u,H a=some u/\Own u/\∀ o,tS K C s Dn σ (upd H a (.frz o u))):=fun pins sh σ H Dn I ⟨a,u,e,ow,q⟩=>by
  obtain ⟨o,ho⟩:=(I.hok a u e).some
  exact h hK C pins sh σ _ Dn (zxy I e ow ho) (q o)
 refine h1.weak fun Dn σ H=>?_
 rintro ⟨ρ,rel,g⟩
 unfold zqJ at g
 cases e:ρ[i]? with
 | none=>rw [e] at g;exact g.elim
 | some x =>
  rw [e] at g
  cases x with
  | ow p d =>
   cases p with
   | true=>exact g.elim
   | false =>
    obtain ⟨a,at0,m⟩:=rel.rel.zpt (d:=d) (show zaU ρ i=.ok d by unfold zaU;rw [e])
    obtain ⟨u,e1,ow⟩:=m.own
    refine ⟨a,u,e1,ow,fun o=>⟨ρ.set i (.val d),?_,g.step ?_⟩⟩
    ·have hl:i < ρ.length:=(List.getElem?_eq_some_iff.mp e).1
     have hfr:=rel.own i a d e at0.2
     have fz:Fzn H (upd H a (.frz o u)):=fun b w e2 sy=>by
      rw [zau fun z=>by subst z;rw [e1] at e2;cases e2;exact ow.zdA sy]
      exact e2
     have fd:Fz K (upd H a (.frz o u)) d (.ref a):=by
      cases d with
      | list ds =>
       obtain ⟨vs,h1,h2⟩:=m
       rw [e1] at h1
       cases h1
       simp only [Fz]
       exact ⟨a,vs,rfl,.inl ⟨o,zap⟩,h2.mono fz⟩
      | dict kvs =>
       simp only [Fz]
       rcases m with ⟨kk,h1,h2⟩ | ⟨kk,h1,h2⟩
       ·rw [e1] at h1
        cases h1
        exact ⟨a,o,rfl,.inl ⟨kk,zap,h2.mono fz⟩⟩
       ·rw [e1] at h1
        cases h1
        exact ⟨a,o,rfl,.inr ⟨kk,zap,h2.mono fz⟩⟩
      | _=>exact m.elim
     have atw:∀ j b,At (ρ.set i (.val d)) σ j b->j ≠ i/\At ρ σ j b:=fun j b ⟨⟨q,dd,e1⟩,e2⟩=>by
      by_cases c:i=j
      ·subst c
       rw [List.getElem?_set_self hl] at e1;cases e1
      ·rw [List.getElem?_set_ne c] at e1
       exact ⟨fun z=>c z.symm,⟨q,dd,e1⟩,e2⟩
     refine ⟨⟨by rw [List.length_set];exact rel.rel.len,fun j y w e2 e3=>?_,fun j k b h1 h2=>rel.rel.sep j k b (atw j b h1).2 (atw k b h2).2,rel.rel.cst.mono fz⟩,fun b w e2 n=>?_,fun j b c e2 e3=>?_,fun j=>?_,fun j c e2=>?_,rel.prm⟩
     ·by_cases c:i=j
      ·subst c
       rw [List.getElem?_set_self hl] at e2
       cases e2
       rw [at0.2] at e3
       cases e3
       exact fd
      ·rw [List.getElem?_set_ne c] at e2
       refine (rel.rel.ok j y w e2 e3).mono fz fun b e4 ⟨p,dd,e5⟩=>?_
       subst e4;subst e5
       refine zau fun z=>?_
       subst z
       exact c (rel.rel.sep i j b at0 ⟨⟨p,dd,e2⟩,e3⟩)
     ·rw [zau fun z=>by subst z;rw [hfr] at e2;cases e2]
      exact rel.keep b w e2 n
     ·by_cases c:i=j
      ·subst c
       rw [List.getElem?_set_self hl] at e2;cases e2
      ·rw [List.getElem?_set_ne c] at e2
       exact rel.own j b _ e2 e3
     ·by_cases c:i=j
      ·subst c
       rw [List.getElem?_set_self hl,<- rel.pin i,e]
       constructor
       ·rintro ⟨_,z⟩;cases z
       ·rintro ⟨_,z⟩;cases z
      ·rw [List.getElem?_set_ne c];exact rel.pin j
     ·by_cases k:i=j
      ·subst k
       rw [List.getElem?_set_self hl] at e2;cases e2
      ·rw [List.getElem?_set_ne k] at e2
       exact rel.fix j c e2
    ·exact fun b w e2 sy=>by
      rw [zau fun z=>by subst z;rw [e1] at e2;cases e2;exact ow.zdA sy]
      exact e2
  | _=>exact g.elim
theorem zpw {ρ:En} {i:Nat} {c:List D} (h:ziz ρ i=.ok c):∃ p,ρ[i]?=some (.ow p (.list c)):=by
 unfold ziz at h
 cases e:ρ[i]? with
 | none=>rw [e] at h;cases h
 | some x =>
  rw [e] at h
  cases x with
  | ow p d =>
   cases d with
   | list a=>cases h;exact ⟨p,rfl⟩
   | _=>cases h
  | _=>cases h
theorem Rel.zxn {ρ:En} {σ:L2.St} {H:Hp} {i:Nat} {c:List D} (r:Rel K ρ σ H) (h:ziz ρ i=.ok c):∃ a vs,At ρ σ i a/\H a=some (.lst vs)/\zak K H c vs:=by
 obtain ⟨p,e⟩:=zpw h
 obtain ⟨a,at0,m⟩:=r.zpt (d:=.list c) (show zaU ρ i=.ok (.list c) by unfold zaU;rw [e])
 obtain ⟨vs,h1,h2⟩:=m
 exact ⟨a,vs,at0,h1,h2⟩
theorem Rel.zxR {ρ ρ1:En} {σ:L2.St} {H1:Hp} {i:Nat} {c:List D} {a:Addr} (r:Rel K ρ1 σ H1) (h:ziz ρ1 i=.ok c) (at0:At ρ σ i a):∃ vs,At ρ1 σ i a/\H1 a=some (.lst vs)/\zak K H1 c vs:=by
 obtain ⟨b,vs,ab,h1,h2⟩:=r.zxn h
 have:=at0.2.symm.trans ab.2
 cases this
 exact ⟨vs,ab,h1,h2⟩
theorem zud {C:SC} {ρ:En} {σ:L2.St} {H:Hp} {i:Nat} {a:Addr} {o:HO} {d:D} {Dn:Ends} (rel:zeC K C ρ σ H) (at0:At ρ σ i a) (m:zbL K (upd H a o) a d) (g:zcB K C H (.ok (.nx,zcn ρ i d)) Dn):Dn.nx σ (upd H a o):=by
 have st:Stp ρ (zcn ρ i d) σ H (upd H a o):=zmO at0
 exact g σ _ (rel.step (rel.rel.zyo at0 m) st) (st.fzn rel.rel)
theorem zsS {C:SC} {ρ:En} {σ:L2.St} {H:Hp} {i:Nat} {a:Addr} {o:HO} (rel:zeC K C ρ σ H) (at0:At ρ σ i a):Fzn H (upd H a o):=(zmO (d:=.none) at0).fzn rel.rel
theorem znT {y name:Str} {py apos cpos:Pos} (i:Nat) (hnm:name="append") (ha:PE X (.Name y py) (ziv i)) (he:PV K X e f)
  (hbase:attributeBase (.Name y py) name X.env (eval (.Name y py) X.env)=eval (.Name y py) X.env:=by rfl)
  (hfew:((backTo cpos (starEach [e] X.env)).all (fun x=>!x.1) && (backToKw cpos (keywordEach [] X.env)).all (fun x=>x.1.isSome) && decide ([e].length + ([]:List Keyword).length + (if ([]:List Keyword).isEmpty then 0 else 1) < 30))=true:=by rfl)
  (hline:(apos.endLine == cpos.line)=true:=by rfl) (hst:starEach [e] X.env=(false,eval e X.env) :: starEach [] X.env:=by rfl) (hplain:(backTo cpos (starEach [] X.env)).any (·.1)=false:=by rfl)
  (hs:swapsWith (.Call (.Attribute (.Name y py) name apos) [e] [] cpos) none pos.line X.env=pure false:=by rfl):PSV K X (.Expr (.Call (.Attribute (.Name y py) name apos) [e] [] cpos) pos) (zwF i zuw f):=fun hK C=>by
 subst hK
 subst hnm
 refine (zpb (zxe PySem.F.plainAttrs_list PySem.F.slot_list_append PySem.F.type_list_append zhu ha (zco (he rfl) zgg hst) hbase hfew hline hst hplain) hs).weak fun Dn σ H=>?_
 rintro ⟨ρ,rel,g⟩
 obtain ⟨d,ed,g1⟩:=g.bnd
 obtain ⟨a,vs0,at0,h0,_⟩:=rel.rel.zxn ed
 refine ⟨.ref a,at0.2,.inl ⟨rfl,vs0,SqL.of h0⟩,zpV rel g1 fun dx ρ1 v H1 rel1 st1 fz g2=>?_⟩
 obtain ⟨c,ec,g3⟩:=g2.bnd
 obtain ⟨c',ec',g4⟩:=g3.bnd
 obtain ⟨vs,at1,h1,h2⟩:=rel1.rel.zxR ec at0
 obtain ⟨cc,ec'⟩:=zbi ec'
 cases ec'
 have hz:vs.length < sizeLine:=by
  have:=zjO cc
  have l0:=zcF
  rw [h2.len];omega
 refine ⟨a,vs,v,rfl,rfl,h1,hz,zud (d:=.list (c ++ [dx])) rel1 at1 ⟨_,zap,(h2.app ?_).mono (zsS rel1 at1)⟩ g4⟩
 simp only [zak]
 exact ⟨v,[],rfl,fz,rfl⟩
theorem zc9 {y:Str} {py ps':Pos} {ke:Expr} {k:EF} (i:Nat) (ha:PE X (.Name y py) (ziv i)) (he:PV K X e f) (hk:PV K X ke k)
  (has:∀ v,assign (.Subscript (.Name y py) ke ps') X.env v=(do
   let ov <- holding [v] (eval (.Name y py) X.env)
   let iv <- holding [v,ov] (eval ke X.env)
   standAt ps'
   holding [v,ov,iv] (setItem ov iv v)
   release [v,ov,iv] []):=by intro _;rfl)
  (hs:swapsWithSole [.Subscript (.Name y py) ke ps'] e pos.line X.env=pure false:=by rfl) (hw:swappedStores [.Subscript (.Name y py) ke ps'] e X.env=pure none:=by rfl)
  (h1:(assignEach [.Subscript (.Name y py) ke ps'] X.env).map (·.2)=[assign (.Subscript (.Name y py) ke ps') X.env]:=by rfl):PSV K X (.Assign [.Subscript (.Name y py) ke ps'] e pos) (setM i f k):=fun hK C=>by
 subst hK
 refine (zss (he rfl) (zvr ha (hk rfl) set_list has) hs hw h1).weak fun Dn σ H=>?_
 rintro ⟨ρ,rel,g⟩
 refine zpV rel g fun dx ρ1 v H1 rel1 st1 fz g1=>?_
 obtain ⟨d,ed,g2⟩:=g1.bnd
 obtain ⟨a,vs0,at0,h0,_⟩:=rel1.rel.zxn ed
 refine ⟨.ref a,at0.2,zpV rel1 g2 fun dk ρ2 kv H2 rel2 st2 fk g3=>?_⟩
 obtain ⟨c,ec,g4⟩:=g3.bnd
 obtain ⟨vs,at1,h1,h2⟩:=rel2.rel.zxR ec at0
 cases dk with
 | int j =>
  obtain ⟨n,en,g5⟩:=(show zcB X.K C H2 ((R.of (FL.ixN c.length j)).bind fun n=>.ok (.nx,zcn ρ2 i (.list (c.set n dx)))) Dn from g4).bnd
  simp only [Fz] at fk
  subst fk
  refine ⟨a,vs,j,n,rfl,rfl,h1,?_,zud (d:=.list (c.set n dx)) rel2 at1 ⟨_,zap,(h2.set n (fz.mono (st2.fzn rel1.rel))).mono (zsS rel2 at1)⟩ g5⟩
  rw [h2.len]
  cases e2:FL.ixN c.length j with
  | none=>rw [e2] at en;cases en
  | some m=>rw [e2] at en;cases en;exact e2
 | _=>exact g4.elim
end
end FL
namespace FL
open PySem L2 PySem.Spec
open PyProof.Rows hiding St
variable [Cs]
def Walk (K:PySem.W.Frag) (J:It) (items:List D) (H:Hp):Prop :=
 (∀ i d H',Fzn H H'->items[i]?=some d->J.go i H'/\∀ x H'',J.yld i H' x H''->zbj H' H''/\Fz K H'' d x)/\∀ i H',Fzn H H'->items.length<=i->J.stop i H'
def tI (K:PySem.W.Frag) (it:IF):TI:=fun σ H R=>∃ ρ,Rel K ρ σ H/\Good K ρ σ H (it ρ) fun items _ H'=>∀ J,Walk K J items H'->R J H'
def PVI (K:PySem.W.Frag) (X:Cx) (tg e:Expr) (it:IF):Prop:=X.K=K->PI X tg e (tI K it)
theorem _root_.L2.PI.weak {X:Cx} {tg e:Expr} {t t':TI} (h:PI X tg e t) (w:∀ σ H R,t' σ H R->t σ H R):PI X tg e t':=fun pins s σ H R I q=>h pins s σ H R I (w σ H R q)
section
variable {K:PySem.W.Frag} {X:Cx} {tg e:Expr} {f:EF} {pos:Pos}
theorem zvo {l:Expr} {tl:TE} (hl:PE X l tl):PI X tg l (fun σ H R=>tl σ H fun x H1=>∃ a,x=.ref a/\(((∃ xs,SqL X.K H1 a xs)/\R (Itl X.K a) H1)\/((∃ xs,SqT X.K H1 a xs)/\R (Itt X.K a) H1))):=by
 intro pins s σ H R I h
 refine thn (hl pins s σ H _ I h) fun v s1 ⟨x,H1,I1,r1,q1⟩=>?_
 obtain ⟨a,e,q1⟩:=q1
 subst e
 cases r1
 rcases q1 with ⟨⟨xs,hq⟩,q⟩ | ⟨⟨xs,hq⟩,q⟩
 ·obtain ⟨its,rv,p,hz⟩:=I1.list hq
  refine wpAny_pyIter_list p.isList ?_
  refine ⟨s1.heap.objs.size,[s1.heap.objs.size],_,_,H1,rfl,I1.kept (t':=s1.toks) fun b o e=>Heap.get?_push_of_some _ e,zoB a _,⟨_,Heap.get?_push_size _ rfl,rfl,rfl⟩,fun b hb=>?_,q⟩
  have e:b=s1.heap.objs.size:=by simpa using hb
  subst e
  exact I1.zrO (Nat.le_refl _) (I1.hok.fresh (Nat.le_refl _))
 ·obtain ⟨its,rv,p,hz⟩:=I1.tuple hq
  refine wpAny_pyIter_tuple (show s1.heap.IsTuple a its.toArray from p) ?_
  refine ⟨s1.heap.objs.size,[s1.heap.objs.size],_,_,H1,rfl,I1.kept (t':=s1.toks) fun b o e=>Heap.get?_push_of_some _ e,znM a _,⟨_,Heap.get?_push_size _ rfl,rfl,rfl⟩,fun b hb=>?_,q⟩
  have e:b=s1.heap.objs.size:=by simpa using hb
  subst e
  exact I1.zrO (Nat.le_refl _) (I1.hok.fresh (Nat.le_refl _))
theorem zoy {H:Hp} {a:Addr} {vs:List V} {items:List D} (h:FzL K H a vs) (f:zak K H items vs):Walk K (Itl K a) items H:=by
 refine ⟨fun i d H' fz e=>?_,fun i H' fz e=>⟨vs,(fz.znR h).sq,by rw [f.len];exact e⟩⟩
 obtain ⟨v,ev,_⟩:=f.get e
 refine ⟨⟨vs,v,(fz.znR h).sq,ev⟩,fun x H'' y=>?_⟩
 obtain ⟨rfl,y⟩:=y
 have ex:=y vs (fz.znR h).sq
 obtain ⟨v',ev',fv⟩:=(f.mono fz).get e
 rw [ex] at ev'
 cases ev'
 exact ⟨zbj.refl _,fv⟩
theorem zqP {H:Hp} {a:Addr} {vs:List V} {items:List D} (h:TAt H a vs) (f:zak K H items vs):Walk K (Itt K a) items H:=by
 refine ⟨fun i d H' fz e=>?_,fun i H' fz e=>⟨vs,.inl (fz.zwG h),by rw [f.len];exact e⟩⟩
 obtain ⟨v,ev,_⟩:=f.get e
 refine ⟨⟨vs,v,.inl (fz.zwG h),ev⟩,fun x H'' y=>?_⟩
 obtain ⟨rfl,y⟩:=y
 have ex:=y vs (.inl (fz.zwG h))
 obtain ⟨v',ev',fv⟩:=(f.mono fz).get e
 rw [ex] at ev'
 cases ev'
 exact ⟨zbj.refl _,fv⟩
theorem za7 (he:PV K X e f):PVI K X tg e (iE f):=fun hK=>by
 subst hK
 refine (zvo (he rfl)).weak fun σ H R=>?_
 rintro ⟨ρ,rel,q⟩
 refine goV rel q fun dx ρ1 x H1 rel1 st1 fx q1=>?_
 obtain ⟨items,ei,q2⟩:=q1.zgO
 cases dx with
 | list a =>
  cases ei
  simp only [Fz] at fx
  obtain ⟨l,vs,rfl,sx,f⟩:=fx
  exact ⟨l,rfl,.inl ⟨⟨vs,sx.sq⟩,q2.now rel1 _ (zoy sx f)⟩⟩
 | tuple a =>
  cases ei
  simp only [Fz] at fx
  obtain ⟨l,vs,rfl,sx,f⟩:=fx
  exact ⟨l,rfl,.inr ⟨⟨vs,.inl sx⟩,q2.now rel1 _ (zqP sx f)⟩⟩
 | _=>cases ei
theorem p62:(2:Int) ^ 62=4611686018427387904:=by decide
theorem ztj {lo hi:Int} {i:Nat} {d:D} (h:(rng lo hi)[i]?=some d):i < (hi - lo).toNat/\d=.int (lo + i):=by
 unfold rng at h
 rw [List.getElem?_map] at h
 by_cases c:i < (hi - lo).toNat
 ·rw [List.getElem?_range c] at h
  cases h
  exact ⟨c,rfl⟩
 ·rw [List.getElem?_eq_none (by rw [List.length_range];omega)] at h;cases h
theorem zqQ {H:Hp} (lo hi:Int):Walk K (Itr lo (hi - lo).toNat) (rng lo hi) H:=by
 refine ⟨fun i d H' fz e=>?_,fun i H' fz e=>?_⟩
 ·obtain ⟨c,rfl⟩:=ztj e
  refine ⟨c,fun x H'' y=>?_⟩
  obtain ⟨rfl,rfl⟩:=y
  exact ⟨zbj.refl _,zfs _⟩
 ·show (hi - lo).toNat<=i
  simpa [rng] using e
theorem zch {a:Expr} {fa:AF} {p:Pos} (hg:Gl X "range") (hm:X.mg "range"=none) (ha:PVA K X [a] fa) (hs:starEach [a] X.env=[(false,eval a X.env)]:=by rfl):PVI K X tg (.Call (.Name "range" p) [a] [] pos) (iR1 fa):=fun hK=>(zpi hg hm (ha hK) hs).weak fun σ H R=>by
 rintro ⟨ρ,rel,q⟩
 refine goA rel q fun ds ρ1 vs H1 rel1 st1 fs q1=>?_
 obtain ⟨items,ei,q2⟩:=q1.zgO
 cases ds with
 | nil=>cases ei
 | cons d r =>
  cases r with
  | cons _ _=>cases d <;> cases ei
  | nil =>
   cases d with
   | int j =>
    obtain ⟨c,ei⟩:=zbi (show chk (zqX j && leB j.toNat lim) (.ok (rng 0 j))=.ok items from ei)
    cases ei
    simp only [zak,Fz] at fs
    obtain ⟨_,_,rfl,rfl,rfl⟩:=fs
    simp only [zqX,Bool.and_eq_true,leB_iff] at c
    have:=zqQ (K:=K) (H:=H1) 0 j
    rw [Int.sub_zero] at this
    have e62:=p62
    exact ⟨j,rfl,by omega,by omega,q2.now rel1 _ this⟩
   | _=>cases ei
variable {it:IF} {g:GF} {b t:SF} {body:List Stmt}
theorem zts {dom:List Nat} (hp:PassesOwn (model X.prog X.w) X.A X.env X.xe) (hc:X.calm=true) (hi:PVI K X tg e it) (hg:PVG K X dom tg g) (hb:zlO K X body b) (hs:∀ x,foldedSetIterable e X.env x=pure x:=by intro _;rfl):PSV K X (.For tg e body [] pos) (zc7 it g b):=fun hK C =>
 (zvk hp hc (hi hK) (hg hK) (hb hK C) hs).weak fun Dn σ0 H0=>by
 rintro ⟨ρ0,rel0,q⟩
 obtain ⟨x,ex,q⟩:=q.bnd
 refine ⟨ρ0,rel0.rel,?_⟩
 rw [ex]
 intro Hs r st J wk
 have rel1:=rel0.step r st
 have q1:=q.step (st.fzn rel0.rel)
 obtain ⟨items,ρs⟩:=x
 refine ⟨fun i m σ H=>m=items.length - i/\i<=items.length/\∃ ρ,zeC K C ρ σ H/\Fzn Hs H/\zcB K C H (forL g b (items.drop i) ρ) Dn,⟨items.length,by simp,Nat.zero_le _,ρs,rel1,Fzn.refl _,q1⟩,?_⟩
 rintro i m σ H ⟨rfl,hi,ρ,rel,fz,gd⟩
 by_cases c:i < items.length
 ·have ed:=List.drop_eq_getElem_cons c
  rw [ed] at gd
  obtain ⟨hgo,hy⟩:=wk.1 i items[i] H fz (List.getElem?_eq_getElem c)
  refine .inr ⟨hgo,fun σ' H'=>∃ ρ,zeC K C ρ σ' H'/\Fzn Hs H'/\zcB K C H' (forL g b (items.drop (i + 1)) ρ) Dn,fun σ' H' n=>⟨items.length - (i + 1),by omega,rfl,c,n⟩,fun x H3 y=>?_⟩
  obtain ⟨sm,fx⟩:=hy x H3 y
  have rel3:zeC K C ρ σ H3:=rel.step (rel.rel.same sm) (.of sm)
  obtain ⟨ρ1,e1,gd1⟩:=gd.bnd
  refine ⟨ρ,items[i],ρ1,rel3.rel,fx,e1,fun σ1 rel4 chg=>⟨ρ1,rel3.chg rel4 chg,?_⟩⟩
  obtain ⟨y,ey,gd2⟩:=gd1.bnd
  rw [ey]
  have gd3:=gd2.step (Fzn.of sm)
  have fz3:=fz.trans (Fzn.of sm)
  obtain ⟨fl,ρ2⟩:=y
  cases fl with
  | nx=>exact fun σ' H' r z=>⟨ρ2,r,fz3.trans z,gd3.step z⟩
  | ct=>exact fun σ' H' r z=>⟨ρ2,r,fz3.trans z,gd3.step z⟩
  | bk=>exact gd3
  | rt d=>exact gd3
  | rf d=>exact gd3
 ·have e:i=items.length:=by omega
  subst e
  rw [List.drop_length] at gd
  exact .inl ⟨wk.2 _ H fz (Nat.le_refl _),gd σ H rel (Fzn.refl _)⟩
theorem zkw {c:Expr} {tc:TF} (fuel:En->Nat) (hp:PassesOwn (model X.prog X.w) X.A X.env X.xe) (hc:PVT K X c tc) (hb:zlO K X body b):PSV K X (.While c body [] pos) (zhi fuel tc b):=fun hK C =>
 (zrf hp (hc hK) (hb hK C)).weak fun Dn σ0 H0=>by
 rintro ⟨ρ0,rel0,q⟩
 refine ⟨fun m σ H=>∃ ρ,zeC K C ρ σ H/\zcB K C H (zg8 tc b m ρ) Dn,⟨fuel ρ0,ρ0,rel0,q⟩,?_⟩
 rintro m σ H ⟨ρ,rel,gd⟩
 cases m with
 | zero=>exact gd.elim
 | succ n =>
  refine zxU rel gd fun cb ρ1 H1 rel1 fz g1=>?_
  cases cb with
  | false=>exact zsO (g1 σ H1 rel1 (Fzn.refl _))
  | true =>
   refine zsN ⟨fun σ' H'=>∃ ρ,zeC K C ρ σ' H'/\zcB K C H' (zg8 tc b n ρ) Dn,fun σ' H' z=>⟨n,Nat.lt_succ_self _,z⟩,ρ1,rel1,?_⟩
   obtain ⟨y,ey,gd2⟩:=(show zcB K C H1 ((b ρ1).bind fun y=>match y.1 with
   | .nx | .ct=>zg8 tc b n y.2
   | .bk=>.ok (.nx,y.2)
   | .rt d=>.ok (.rt d,y.2)
   | .rf d=>.ok (.rf d,y.2)) Dn from g1).bnd
   rw [ey]
   obtain ⟨fl,ρ2⟩:=y
   cases fl with
   | nx=>exact fun σ' H' r z=>⟨ρ2,r,gd2.step z⟩
   | ct=>exact fun σ' H' r z=>⟨ρ2,r,gd2.step z⟩
   | bk=>exact gd2
   | rt d=>exact gd2
   | rf d=>exact gd2
end
end FL
namespace FL
open PySem L2 PySem.Spec
open PyProof.Rows hiding St
variable [Cs]
section
variable {K:PySem.W.Frag} {ρ:En} {σ:L2.St} {H H':Hp} {k:Nat} {ix:List Nat}
theorem zqo {j:Nat} (h:j < k):(blk k ix ρ)[j]?=some .no:=by
 unfold blk
 rw [List.getElem?_append_left (by simpa using h),List.getElem?_replicate,if_pos h]
theorem znw (j:Nat):(blk k ix ρ)[k + j]?=(ix[j]?).map fun i=>(ρ[i]?).getD .no:=by
 unfold blk
 rw [List.getElem?_append_right (by simp),List.length_replicate,Nat.add_sub_cancel_left,List.getElem?_map]
theorem zqk (j:Nat):(zeA k ix σ)[k + j]?=(ix[j]?).map fun i=>(σ[i]?).getD none:=by
 unfold zeA
 rw [List.getElem?_append_right (by simp),List.length_replicate,Nat.add_sub_cancel_left,List.getElem?_map]
theorem zjh {j:Nat} {a:Addr} (h:At (blk k ix ρ) (zeA k ix σ) j a):∃ j' i,j=k + j'/\ix[j']?=some i/\At ρ σ i a:=by
 obtain ⟨⟨p,d,e1⟩,e2⟩:=h
 by_cases c:j < k
 ·rw [zqo c] at e1;cases e1
 ·obtain ⟨j',rfl⟩:∃ j',j=k + j':=⟨j - k,by omega⟩
  rw [znw] at e1
  rw [zqk] at e2
  cases ei:ix[j']? with
  | none=>rw [ei] at e1;cases e1
  | some i =>
   rw [ei] at e1 e2
   refine ⟨j',i,rfl,ei,⟨p,d,?_⟩,?_⟩
   ·simp only [Option.map_some,Option.some.injEq] at e1
    cases er:ρ[i]? with
    | none=>rw [er] at e1;cases e1
    | some x=>rw [er] at e1;simpa using e1
   ·simp only [Option.map_some,Option.some.injEq] at e2
    cases es:σ[i]? with
    | none=>rw [es] at e2;cases e2
    | some x=>rw [es] at e2;simpa using e2
theorem zpq {l:List Nat} (h:l.Nodup) {i j x:Nat} (a:l[i]?=some x) (b:l[j]?=some x):i=j:=by
 obtain ⟨h1,e1⟩:=List.getElem?_eq_some_iff.mp a
 obtain ⟨h2,e2⟩:=List.getElem?_eq_some_iff.mp b
 exact (List.getElem_inj h).mp (e1.trans e2.symm)
theorem zqn (nd:ix.Nodup) (r:Rel K ρ σ H):Rel K (blk k ix ρ) (zeA k ix σ) H:=by
 refine ⟨by simp [blk,zeA],fun j x v e1 e2=>?_,fun i j a h1 h2=>?_,r.cst⟩
 ·by_cases c:j < k
  ·rw [zqo c] at e1;cases e1;trivial
  ·obtain ⟨j',rfl⟩:∃ j',j=k + j':=⟨j - k,by omega⟩
   rw [znw] at e1
   rw [zqk] at e2
   cases ei:ix[j']? with
   | none=>rw [ei] at e1;cases e1
   | some i =>
    rw [ei] at e1 e2
    simp only [Option.map_some,Option.some.injEq] at e1 e2
    cases er:ρ[i]? with
    | none=>rw [er] at e1;cases e1;trivial
    | some y =>
     have hl:i < σ.length:=by rw [<- r.len];exact (List.getElem?_eq_some_iff.mp er).1
     rw [er] at e1
     rw [List.getElem?_eq_getElem hl] at e2
     cases e1;cases e2
     exact r.ok i _ _ er (List.getElem?_eq_getElem hl)
 ·obtain ⟨i',x,rfl,e1,a1⟩:=zjh h1
  obtain ⟨j',y,rfl,e2,a2⟩:=zjh h2
  have:=r.sep x y a a1 a2
  subst this
  rw [zpq nd e1 e2]
theorem zmv {m:List (Nat × Sl)}:∀ (ρ:En) (n i:Nat),(bkL m n ρ)[i]?=(ρ[i]?).map (bk1 m (n + i))
 | [],n,i=>by simp [bkL]
 | x :: r,n,0=>by simp [bkL]
 | x :: r,n,i + 1=>by
  simp only [bkL,List.getElem?_cons_succ]
  rw [zmv r (n + 1) i,show n + 1 + i=n + (i + 1) by omega]
theorem znA {cs:En} (i:Nat):(back ρ ix cs)[i]?=(ρ[i]?).map (bk1 (ix.zip cs) i):=by
 unfold back
 rw [zmv,Nat.zero_add]
theorem zmu {m:List (Nat × Sl)}:∀ (ρ:En) (n:Nat),(bkL m n ρ).length=ρ.length
 | [],n=>rfl
 | x :: r,n=>by simp [bkL,zmu r]
theorem ziN:∀ {ix:List Nat} {cs:En} {i:Nat} {c:Sl},(ix.zip cs).lookup i=some c->∃ j:Nat,ix[j]?=some i/\cs[j]?=some c
 | [],cs,i,c,h=>by simp at h
 | x :: r,[],i,c,h=>by simp at h
 | x :: r,y :: s,i,c,h=>by
  rw [List.zip_cons_cons,List.lookup_cons] at h
  by_cases e:i=x
  ·subst e
   simp only [beq_self_eq_true] at h
   cases h
   exact ⟨0,rfl,rfl⟩
  ·rw [beq_false_of_ne e] at h
   obtain ⟨j,h1,h2⟩:=ziN h
   exact ⟨j + 1,by simpa using h1,by simpa using h2⟩
theorem ze8:∀ {ix:List Nat} {cs:En} {i j:Nat} {c:Sl},ix.Nodup->ix[j]?=some i->cs[j]?=some c->(ix.zip cs).lookup i=some c
 | [],cs,i,j,c,_,h1,_=>by simp at h1
 | x :: r,[],i,j,c,_,_,h2=>by simp at h2
 | x :: r,y :: s,i,j,c,nd,h1,h2=>by
  rw [List.zip_cons_cons,List.lookup_cons]
  cases j with
  | zero =>
   simp at h1 h2
   subst h1;subst h2
   simp
  | succ j =>
   simp at h1 h2
   have:i ≠ x:=fun z=>by
    subst z
    exact (List.nodup_cons.mp nd).1 (List.mem_of_getElem? h1)
   rw [beq_false_of_ne this]
   exact ze8 (List.nodup_cons.mp nd).2 h1 h2
theorem zj9 {β:En} {σβ:L2.St} (nd:ix.Nodup) (r:Rel K ρ σ H) (hs:∀ j,σβ[k + j]?=(zeA k ix σ)[k + j]?) (rb:Rel K β σβ H')
  (md:∀ j p,(∃ d,β[k + j]?=some (.ow p d)) ↔ ∃ d,(blk k ix ρ)[k + j]?=some (.ow p d)) (kp:∀ a o,H a=some o->¬ MA (blk k ix ρ) (zeA k ix σ) a->H' a=some o) :
  Rel K (back ρ ix (β.drop k)) σ H'/\Stp ρ (back ρ ix (β.drop k)) σ H H':=by
 have hm:∀ a,MA (blk k ix ρ) (zeA k ix σ) a->MA ρ σ a:=fun a ⟨j,h⟩=>by
  obtain ⟨_,i,_,_,h⟩:=zjh h
  exact ⟨i,h⟩
 have fz:Fzn H H':=fun a o h st=>kp a o h fun m=>by
  obtain ⟨o',e,w⟩:=r.zbe (hm a m)
  rw [h] at e
  cases e
  exact w.zdA st
 have mdB:∀ (i:Nat) p,(∃ d,ρ[i]?=some (.ow p d)) ↔ ∃ d,(back ρ ix (β.drop k))[i]?=some (.ow p d):=fun i p=>by
  rw [znA]
  constructor
  ·rintro ⟨d,e⟩
   rw [e]
   simp only [Option.map_some,bk1]
   split
   ·rename_i p' d1 q' d2 h1 h2;cases h1;exact ⟨_,rfl⟩
   ·exact ⟨_,rfl⟩
  ·rintro ⟨d,e⟩
   cases er:ρ[i]? with
   | none=>rw [er] at e;cases e
   | some x =>
    rw [er] at e
    simp only [Option.map_some,Option.some.injEq,bk1] at e
    split at e
    ·cases e;exact ⟨_,rfl⟩
    ·subst e;exact ⟨_,rfl⟩
 have atB:∀ i a,At (back ρ ix (β.drop k)) σ i a->At ρ σ i a:=fun i a ⟨⟨p,d,e1⟩,e2⟩=>⟨⟨p,(mdB i p).mpr ⟨d,e1⟩⟩,e2⟩
 refine ⟨⟨by rw [show (back ρ ix (β.drop k)).length=ρ.length from zmu _ _];exact r.len,fun i x v e1 e2=>?_,fun i j a h1 h2=>r.sep i j a (atB i a h1) (atB j a h2),r.cst.mono fz⟩,⟨mdB,fun a o h n=>kp a o h fun m=>n (hm a m)⟩⟩
 rw [znA] at e1
 cases er:ρ[i]? with
 | none=>rw [er] at e1;cases e1
 | some y =>
  rw [er] at e1
  simp only [Option.map_some,Option.some.injEq] at e1
  have o:=r.ok i y v er e2
  cases y with
  | no=>simp only [bk1] at e1;subst e1;trivial
  | val d =>
   simp only [bk1] at e1
   subst e1
   exact o.mono fz fun a _ ⟨p,d',z⟩=>nomatch z
  | ow p d =>
   cases v with
   | none=>exact o.elim
   | some v =>
    cases v with
    | ref a =>
     have ai:At ρ σ i a:=⟨⟨p,d,er⟩,e2⟩
     cases el:(ix.zip (β.drop k)).lookup i with
     | none =>
      simp only [bk1,el] at e1
      subst e1
      refine o.mono fz fun b e3 _=>?_
      cases e3
      obtain ⟨u,hu,_⟩:=r.zbe ⟨i,ai⟩
      rw [hu]
      refine kp a u hu fun ⟨j,h⟩=>?_
      obtain ⟨j',i',rfl,ej,h'⟩:=zjh h
      have:=r.sep i i' a ai h'
      subst this
      have hb:β[k + j']? ≠ none:=fun z=>by
       have:∃ d,β[k + j']?=some (.ow p d):=(md j' p).mpr ⟨d,by rw [znw,ej];simp [er]⟩
       obtain ⟨_,w⟩:=this
       rw [z] at w;cases w
      cases hbe:β[k + j']? with
      | none=>exact hb hbe
      | some c =>
       have:(β.drop k)[j']?=some c:=by rw [List.getElem?_drop];exact hbe
       rw [ze8 nd ej this] at el
       cases el
     | some c =>
      obtain ⟨j,hj,hc⟩:=ziN el
      rw [List.getElem?_drop] at hc
      have bm:(blk k ix ρ)[k + j]?=some (.ow p d):=by rw [znw,hj];simp [er]
      obtain ⟨d',hd'⟩:=(md j p).mpr ⟨d,bm⟩
      rw [hc] at hd'
      cases hd'
      simp only [bk1,el] at e1
      subst e1
      have es:σβ[k + j]?=some (some (.ref a)):=by rw [hs j,zqk,hj];simp [e2]
      exact rb.ok (k + j) _ _ hc es
    | _=>exact o.elim
end
theorem zjX {K:PySem.W.Frag} {k:Nat} {dom:List Nat} {g:GF} (hd:dom.all (fun i=>decide (i < k))=true):zmF k (tG K dom g):=fun x σ H Q=>by
 rintro ⟨ρ,d,ρ1,rel,fz,e,q⟩
 refine ⟨ρ,d,ρ1,rel,fz,e,fun σ1 rel1 c=>⟨⟨c.1,fun i hi=>?_⟩,q σ1 rel1 c⟩⟩
 rcases c.2 i with ⟨_,c2⟩ | ⟨m,_⟩
 ·exact c2
 ·have:=of_decide_eq_true (List.all_eq_true.mp hd i m)
  omega
def zs7 (K:PySem.W.Frag) (X:Cx) (ifs:List Expr) (t:TF):Prop:=X.K=K->PTs X ifs (tT K t)
theorem _root_.L2.PTs.weak {X:Cx} {e:List Expr} {t t':TT} (h:PTs X e t) (w:∀ σ H Q,t' σ H Q->t σ H Q):PTs X e t':=fun pins s σ H Q I q=>h pins s σ H Q I (w σ H Q q)
theorem zaS {K:PySem.W.Frag} {X:Cx}:zs7 K X [] za2:=fun _=>ztv.weak fun σ H Q=>by
 rintro ⟨ρ,rel,q⟩
 exact q.now rel
theorem zjx {K:PySem.W.Frag} {X:Cx} {c:Expr} {t:TF} (h:PVT K X c t):zs7 K X [c] t:=fun hK=>ztu (h hK)
section
variable {K:PySem.W.Frag} {X:Cx} {elt tg iter:Expr} {ifs:List Expr} {scope:Scope} {pos:Pos} {it:IF} {g:GF} {t:TF} {f:EF} {dom:List Nat}
theorem zsR {k:Nat} {ix:List Nat} (nd:ix.Nodup) (hgo:dom.all (fun i=>decide (i < k))=true) (σ:L2.St) (H:Hp) (Q:VK) (q:tN K (zaV k ix it g t f) σ H Q):znQ k ix (tI K it) (tG K dom g) (tT K t) (tV K f) σ H Q:=by
 revert q
 rintro ⟨ρ0,rel0,q⟩
 obtain ⟨x,ex,q⟩:=q.bnd
 refine ⟨ρ0,rel0,?_⟩
 rw [ex]
 intro H1 rel1 st1 J wk l hl
 obtain ⟨items,ρs⟩:=x
 have hl0:H l=none:=by
  cases e:H l with
  | none=>rfl
  | some o =>
   by_cases m:MA ρ0 σ l
   ·obtain ⟨o',e',_⟩:=rel1.zbe (st1.ma.mp m)
    rw [hl] at e';cases e'
   ·rw [st1.kp l o e m] at hl;cases hl
 have sl:zbj H1 (upd H1 l (.lst [])):=zbj.upd hl
 refine ⟨fun i m ys H2=>m=items.length - i/\i<=items.length/\H2 l=some (.lst ys)/\∃ ρ acc,Rel K ρ σ H2/\¬ MA ρ σ l/\zak K H2 acc ys/\Fzn H1 H2/\Stp ρ0 ρ σ H H2 /\
  Good K ρ0 σ H ((ziK k ix g t f (items.drop i) ρ acc).bind fun (y:List D × En)=>.ok ((PyData.list y.1:D),y.2)) fun d ρ' H'=>∀ a,H a=none->zbL K H' a d->Q (.ref a) H',
  ⟨items.length,by simp,Nat.zero_le _,zap,ρs,[],rel1.same sl,fun z=>?_,by simp [zak],Fzn.of sl,st1.trans (.of sl),q⟩,?_⟩
 ·obtain ⟨o',e',_⟩:=rel1.zbe z
  rw [hl] at e';cases e'
 rintro i m ys H2 ⟨rfl,hi,hly,ρ,acc,rel,nma,fa,fz,st0,gd⟩
 refine ⟨hly,?_⟩
 by_cases c:i < items.length
 ·have ed:=List.drop_eq_getElem_cons c
  rw [ed] at gd
  obtain ⟨hgo',hy⟩:=wk.1 i items[i] H2 fz (List.getElem?_eq_getElem c)
  refine .inr ⟨hgo',fun x H3 y=>?_⟩
  obtain ⟨sm,fx⟩:=hy x H3 y
  have rel3:Rel K ρ σ H3:=rel.same sm
  obtain ⟨w,ew,gd⟩:=gd.zgO
  obtain ⟨β1,e1,ew⟩:=zat (show (g items[i] (blk k ix ρ)).bind _=.ok w from ew)
  obtain ⟨c1,ec,ew⟩:=zat ew
  refine ⟨blk k ix ρ,items[i],β1,zqn nd rel3,fx,e1,fun σ1 relβ chg=>⟨β1,relβ,?_⟩⟩
  rw [ec]
  intro H5 rel5 st5
  have hσ:∀ j,σ1[k + j]?=(zeA k ix σ)[k + j]?:=fun j=>by
   rcases chg.2 (k + j) with ⟨_,c2⟩ | ⟨m,_⟩
   ·exact c2
   ·have:=of_decide_eq_true (List.all_eq_true.mp hgo _ m)
    omega
  have hβ:∀ j,β1[k + j]?=(blk k ix ρ)[k + j]?:=fun j=>by
   rcases chg.2 (k + j) with ⟨c2,_⟩ | ⟨m,_⟩
   ·exact c2
   ·have:=of_decide_eq_true (List.all_eq_true.mp hgo _ m)
    omega
  have hMA:∀ a,MA β1 σ1 a->MA (blk k ix ρ) (zeA k ix σ) a:=fun a ⟨j,⟨p,d,z1⟩,z2⟩=>by
   rcases chg.2 j with ⟨c1,c2⟩ | ⟨_,⟨d',c1⟩,_⟩
   ·exact ⟨j,⟨p,d,by rw [<- c1];exact z1⟩,by rw [<- c2];exact z2⟩
   ·rw [c1] at z1;cases z1
  have hMB:∀ a,MA (blk k ix ρ) (zeA k ix σ) a->MA ρ σ a:=fun a ⟨j,h⟩=>by
   obtain ⟨_,i,_,_,h⟩:=zjh h
   exact ⟨i,h⟩
  have h3l:H3 l=some (.lst ys):=sm l _ hly
  have n1:¬ MA β1 σ1 l:=fun z=>nma (hMB l (hMA l z))
  have h5l:H5 l=some (.lst ys):=st5.kp l _ h3l n1
  obtain ⟨cb,β2⟩:=c1
  cases cb with
  | true =>
   refine zsN ⟨β2,rel5,?_⟩
   obtain ⟨y,ey,ew⟩:=zat (show (f β2).bind _=.ok w from ew)
   rw [ey]
   intro H6 rel6 st6 v fv
   obtain ⟨cc,ew⟩:=zbi ew
   have n2:¬ MA β2 σ1 l:=fun z=>n1 (st5.ma.mpr z)
   have h6l:H6 l=some (.lst ys):=st6.kp l _ h5l n2
   have st:Stp β1 y.2 σ1 H3 H6:=st5.trans st6
   obtain ⟨rb,sb⟩:=zj9 (k:=k) nd rel3 hσ rel6 (fun j p=>by rw [<- hβ j];exact (st.md (k + j) p).symm) (fun a o h n=>st.kp a o h fun z=>n (hMA a z))
   have nmb:¬ MA (back ρ ix (y.2.drop k)) σ l:=fun z=>nma (sb.ma.mpr z)
   have fz6:Fzn H2 H6:=(Fzn.of sm).trans (sb.fzn rel3)
   have fz7:Fzn H6 (upd H6 l (.lst (ys ++ [v]))):=fun b u e s=>by
    rw [zau fun z=>by subst z;rw [h6l] at e;cases e;exact s]
    exact e
   refine ⟨h6l,?_,items.length - (i + 1),by omega,rfl,c,zap,back ρ ix (y.2.drop k),acc ++ [y.1],rb.put nmb (fun u e=>by rw [h6l] at e;cases e;exact fun z=>z),nmb,?_,(fz.trans fz6).trans fz7,⟨((st0.trans (.of sm)).trans sb).md,fun a o h n=>?_⟩,?_⟩
   ·have:=zjO cc
    have l0:=zcF
    rw [fa.len];omega
   ·refine ((fa.mono fz6).mono fz7).app ?_
    simp only [zak]
    exact ⟨v,[],rfl,fv.mono fz7,rfl⟩
   ·rw [zau fun z=>by subst z;rw [hl0] at h;cases h]
    exact ((st0.trans (.of sm)).trans sb).kp a o h n
   ·rw [ew]
    exact gd
  | false =>
   obtain ⟨rb,sb⟩:=zj9 (k:=k) nd rel3 hσ rel5 (fun j p=>by rw [<- hβ j];exact (st5.md (k + j) p).symm) (fun a o h n=>st5.kp a o h fun z=>n (hMA a z))
   have nmb:¬ MA (back ρ ix (β2.drop k)) σ l:=fun z=>nma (sb.ma.mpr z)
   have fz6:Fzn H2 H5:=(Fzn.of sm).trans (sb.fzn rel3)
   refine zsO ⟨items.length - (i + 1),by omega,rfl,c,h5l,back ρ ix (β2.drop k),acc,rb,nmb,fa.mono fz6,fz.trans fz6,(st0.trans (.of sm)).trans sb,?_⟩
   rw [show ziK k ix g t f (items.drop (i + 1)) (back ρ ix (β2.drop k)) acc=.ok w from ew]
   exact gd
 ·have e:i=items.length:=by omega
  subst e
  rw [List.drop_length] at gd
  exact .inl ⟨wk.2 _ H2 fz (Nat.le_refl _),gd H2 rel st0 l hl0 ⟨ys,hly,fa⟩⟩
theorem zq7 (L:List Str) (ix:List Nat) (M:List Str) (hc:X.calm=true) (hk:scope.kind=.function) (hd:zb7 X.env.scope scope X.N ix=true) (hM:M=L ++ ix.map fun i=>X.N.getD i "") (nd:ix.Nodup) (hi:PVI K X tg iter it)
  (hg:∀ C s₃ H₃ fp,PVG K (zar X M scope C s₃ H₃ fp) dom tg g) (hgo:dom.all (fun i=>decide (i < L.length))=true)
  (ht:∀ C s₃ H₃ fp,zs7 K (zar X M scope C s₃ H₃ fp) ifs t) (he:∀ C s₃ H₃ fp,PV K (zar X M scope C s₃ H₃ fp) elt f)
  (hs:∀ x,foldedSetIterable iter X.env x=pure x:=by intro _;rfl) :
  PVN K X (.ListComp elt [⟨tg,iter,ifs,0⟩] scope pos) (zaV L.length ix it g t f):=fun hK=>by
 refine (zro L ix M hc hk hd hM (hi hK) (fun C s₃ H₃ fp=>hg C s₃ H₃ fp hK) (zjX hgo) (fun C s₃ H₃ fp=>ht C s₃ H₃ fp hK) (fun C s₃ H₃ fp=>he C s₃ H₃ fp hK) hs).weak fun σ H Q q=>zsR nd hgo σ H Q q
end
end FL
namespace FL
open PySem L2 PySem.Spec
open PyProof.Rows hiding St
variable [Cs]
def spF (K:PySem.W.Frag) (ms:List Bool) (fr:Bool) (F:List D->R (D × List D)):Sp:=fun vs H Q _=>∃ ds,vs.length=ms.length/\ds.length=ms.length/\Rel K (slots ms ds) (vs.map some) H /\
 ∃ d os,F ds=.ok (d,os)/\∀ v H',Rel K (slots ms os) (vs.map some) H'->(∀ a o,H a=some o->¬ MA (slots ms ds) (vs.map some) a->H' a=some o) ->
  (if fr=true then ∃ a,v=.ref a/\H a=none/\zbL K H' a d else Fz K H' d v)->Q v H'
def spP (K:PySem.W.Frag) (n:Nat) (fr:Bool) (G:List D->R D):Sp:=fun vs H Q _=>∃ ds,vs.length=n/\zuB H/\zak K H ds vs/\∃ d,G ds=.ok d/\∀ v H',zbj H H'->(if fr=true then ∃ a,v=.ref a/\H a=none/\zbL K H' a d else Fz K H' d v)->Q v H'
theorem zbY:∀ {ms:List Bool} {ds:List D} {i:Nat},ds.length=ms.length->(slots ms ds)[i]?=(ms[i]?).bind fun m=>(ds[i]?).map fun d=>if m=true then Sl.ow true d else Sl.val d
 | [],[],i,_=>by simp [slots]
 | [],_ :: _,i,h=>by simp at h
 | _ :: _,[],i,h=>by simp at h
 | m :: ms,d :: ds,0,_=>by simp [slots]
 | m :: ms,d :: ds,i + 1,h=>by
  simp only [slots,List.getElem?_cons_succ]
  exact zbY (by simpa using h)
theorem zdJ:∀ {ms:List Bool} {ds:List D},ds.length=ms.length->(slots ms ds).length=ms.length
 | [],[],_=>rfl
 | [],_ :: _,h=>by simp at h
 | _ :: _,[],h=>by simp at h
 | m :: ms,d :: ds,h=>by simp only [slots,List.length_cons];rw [zdJ (by simpa using h)]
theorem zfl:∀ {ms:List Bool} {ds:List D} {ρ:En},ds.length=ms.length->(outs ms ds ρ).length=ms.length
 | [],[],_,_=>rfl
 | [],_ :: _,_,h=>by simp at h
 | _ :: _,[],_,h=>by simp at h
 | m :: ms,d :: ds,ρ,h=>by simp only [outs,List.length_cons];rw [zfl (by simpa using h)]
theorem zmY:∀ {ms:List Bool} {ds:List D} {ρ:En} {i:Nat} {m:Bool} {d:D},ms[i]?=some m->ds[i]?=some d->(outs ms ds ρ)[i]?=some (outD m d ρ[i]?)
 | m0 :: ms,d0 :: ds,ρ,0,m,d,h1,h2=>by
  simp at h1 h2
  subst h1;subst h2
  simp [outs,List.head?_eq_getElem?]
 | m0 :: ms,d0 :: ds,ρ,i + 1,m,d,h1,h2=>by
  simp at h1 h2
  simp only [outs,List.getElem?_cons_succ]
  rw [zmY h1 h2,List.getElem?_tail]
 | [],_,_,_,_,_,h,_=>by simp at h
 | _ :: _,[],_,_,_,_,_,h=>by simp at h
section
variable {K:PySem.W.Frag} {ρ:En} {σ:L2.St} {H:Hp}
theorem Rel.pad (r:Rel K ρ σ H) (n:Nat):Rel K (ρ ++ List.replicate n .no) (σ ++ List.replicate n none) H:=by
 have w:∀ i a,At (ρ ++ List.replicate n .no) (σ ++ List.replicate n none) i a->At ρ σ i a:=fun i a ⟨⟨p,d,e1⟩,e2⟩=>by
  by_cases c:i < ρ.length
  ·rw [List.getElem?_append_left c] at e1
   rw [List.getElem?_append_left (by rw [<- r.len];exact c)] at e2
   exact ⟨⟨p,d,e1⟩,e2⟩
  ·rw [List.getElem?_append_right (by omega),List.getElem?_replicate] at e1
   split at e1 <;> cases e1
 refine ⟨by simp [r.len],fun i x v e1 e2=>?_,fun i j a h1 h2=>r.sep i j a (w i a h1) (w j a h2),r.cst⟩
 by_cases c:i < ρ.length
 ·rw [List.getElem?_append_left c] at e1
  rw [List.getElem?_append_left (by rw [<- r.len];exact c)] at e2
  exact r.ok i x v e1 e2
 ·rw [List.getElem?_append_right (by omega),List.getElem?_replicate] at e1
  split at e1
  ·cases e1;trivial
  ·cases e1
theorem zvS {n:Nat} {a:Addr} (hl:ρ.length=σ.length):MA (ρ ++ List.replicate n .no) (σ ++ List.replicate n none) a ↔ MA ρ σ a:=by
 constructor
 ·rintro ⟨i,⟨p,d,e1⟩,e2⟩
  by_cases c:i < ρ.length
  ·rw [List.getElem?_append_left c] at e1
   rw [List.getElem?_append_left (by rw [<- hl];exact c)] at e2
   exact ⟨i,⟨p,d,e1⟩,e2⟩
  ·rw [List.getElem?_append_right (by omega),List.getElem?_replicate] at e1
   split at e1 <;> cases e1
 ·rintro ⟨i,⟨p,d,e1⟩,e2⟩
  have c:=(List.getElem?_eq_some_iff.mp e1).1
  exact ⟨i,⟨p,d,by rw [List.getElem?_append_left c];exact e1⟩,by rw [List.getElem?_append_left (by rw [<- hl];exact c)];exact e2⟩
end
theorem zeo {ms:List Bool} {ds:List D} {i:Nat} {p:Bool} {d:D} (hl:ds.length=ms.length) (e:(slots ms ds)[i]?=some (.ow p d)):p=true/\ms[i]?=some true/\ds[i]?=some d:=by
 rw [zbY hl] at e
 cases em:ms[i]? with
 | none=>rw [em] at e;cases e
 | some m =>
  cases ed:ds[i]? with
  | none=>rw [em,ed] at e;cases e
  | some d' =>
   rw [em,ed] at e
   cases m with
   | true=>simp at e;exact ⟨e.1,rfl,by rw [e.2]⟩
   | false=>simp at e
section
variable {P:Program} {w:World} {K:PySem.W.Frag} {mg:Str->Option Value} {base:Heap}
theorem zp6 {x:Str} {st:Stmt} {f:Addr} {fd:FuncData} {N ps:List Str} {k:Nat} {b:SF} (ms:List Bool) (fr:Bool) (h:Fun K x x st f fd) (S:zeh N ps (zaA st)) (hps:ps.length=ms.length) (hpN:ps.length<=N.length)
  (hb:∀ (cdv:Value) (A:Around) (outer:List Env) (s:Shared) (H:Hp) (E:XK),zcT k (A.deeper (envOfC x (zaA st) s.heap.objs.size f cdv))->zlO K (zqL (CXe P w) P w K mg base N x (zaA st) f cdv A outer s H E) (zbI st) b) :
  zkl P w K mg base (CXe P w) (k + 1) f fd ps (spF K ms fr (run ms fr N.length b)):=by
 refine h.okE S (fun vs H Q E ⟨ds,e,_⟩=>by rw [e,hps]) fun cdv A outer s H vs Q E hr hq=>?_
 obtain ⟨ds,hv,hd,rel,d,os,hF,q⟩:=hq
 have hst:L2.start N vs=vs.map some ++ List.replicate (N.length - ds.length) none:=by unfold L2.start;rw [hv,hd]
 refine ⟨tS K ⟨H,L2.start N vs,slots ms ds ++ List.replicate (N.length - ds.length) .no⟩ b,hb cdv A outer s H E hr rfl _,slots ms ds ++ List.replicate (N.length - ds.length) .no,?_,?_⟩
 ·have tru:∀ (i:Nat) p d,(slots ms ds ++ List.replicate (N.length - ds.length) .no)[i]?=some (.ow p d)->p=true:=fun i p d e=>by
   by_cases c:i < (slots ms ds).length
   ·rw [List.getElem?_append_left c] at e
    exact (zeo hd e).1
   ·rw [List.getElem?_append_right (by omega),List.getElem?_replicate] at e
    split at e <;> cases e
  refine ⟨?_,fun a o e _=>e,fun i a d e _=>absurd (tru i false d e) Bool.false_ne_true,fun i=>Iff.rfl,fun i d e=>rfl,tru⟩
  rw [hst]
  exact rel.pad _
 ·unfold run at hF
  rw [if_pos hd] at hF
  obtain ⟨y,ey,hF⟩:=zat hF
  rw [ey]
  have fin:∀ (ρ':En) (σ':L2.St) (H':Hp),zeC K ⟨H,L2.start N vs,slots ms ds ++ List.replicate (N.length - ds.length) .no⟩ ρ' σ' H' ->
    Rel K (slots ms (outs ms ds ρ')) (vs.map some) H'/\(∀ a o,H a=some o->¬ MA (slots ms ds) (vs.map some) a->H' a=some o):=fun ρ' σ' H' r=>by
   have hl0:(slots ms ds).length=(vs.map some).length:=by rw [zdJ hd,List.length_map,hv]
   have kp:∀ a o,H a=some o->¬ MA (slots ms ds) (vs.map some) a->H' a=some o:=fun a o e n=>r.keep a o e fun z=>n (by
    have z':MA (slots ms ds ++ List.replicate (N.length - ds.length) .no) (L2.start N vs) a:=z
    rw [hst] at z'
    exact (zvS hl0).mp z')
   have fz:Fzn H H':=fun a o e sy=>kp a o e fun m=>by
    obtain ⟨o',e',ow⟩:=rel.zbe m
    rw [e] at e'
    cases e'
    exact ow.zdA sy
   refine ⟨?_,kp⟩
   have pinned:∀ (i:Nat) d0,ms[i]?=some true->ds[i]?=some d0->∃ d',ρ'[i]?=some (.ow true d')/\σ'[i]?=(vs.map some)[i]?:=fun i d0 em ed=>by
    have hi:i < (slots ms ds).length:=by rw [zdJ hd];exact (List.getElem?_eq_some_iff.mp em).1
    have e0:(slots ms ds ++ List.replicate (N.length - ds.length) .no)[i]?=some (.ow true d0):=by
     rw [List.getElem?_append_left hi,zbY hd,em,ed];rfl
    obtain ⟨d',e'⟩:=(r.pin i).mpr ⟨d0,e0⟩
    refine ⟨d',e',?_⟩
    rw [r.fix i d' e']
    show (L2.start N vs)[i]?=_
    rw [hst,List.getElem?_append_left (by rw [<- hl0];exact hi)]
   have ho:(outs ms ds ρ').length=ms.length:=zfl hd
   refine ⟨by rw [zdJ ho,List.length_map,hv],fun i x v e1 e2=>?_,fun i j a h1 h2=>?_,rel.cst.mono fz⟩
   ·rw [zbY ho] at e1
    cases em:ms[i]? with
    | none=>rw [em] at e1;cases e1
    | some m =>
     have hi:i < ds.length:=by rw [hd];exact (List.getElem?_eq_some_iff.mp em).1
     have ed:=List.getElem?_eq_getElem hi
     rw [em,zmY em ed] at e1
     cases m with
     | true =>
      obtain ⟨d',e3,e4⟩:=pinned i _ em ed
      rw [e3] at e1
      cases e1
      rw [<- e4] at e2
      exact r.rel.ok i _ _ e3 e2
     | false =>
      cases e1
      have e5:(slots ms ds)[i]?=some (.val ds[i]):=by rw [zbY hd,em,ed];rfl
      exact (rel.ok i _ _ e5 e2).mono fz fun a _ ⟨p,d',z⟩=>nomatch z
   ·have w:∀ i a,At (slots ms (outs ms ds ρ')) (vs.map some) i a->At (slots ms ds) (vs.map some) i a:=fun i a ⟨⟨p,d0,e1⟩,e2⟩=>by
     obtain ⟨rfl,em,_⟩:=zeo ho e1
     have hi:i < ds.length:=by rw [hd];exact (List.getElem?_eq_some_iff.mp em).1
     have ed:=List.getElem?_eq_getElem hi
     exact ⟨⟨true,ds[i],by rw [zbY hd,em,ed];rfl⟩,e2⟩
    exact rel.sep i j a (w i a h1) (w j a h2)
  obtain ⟨fl,ρ'⟩:=y
  cases fr with
  | false =>
   cases fl with
   | rt dr =>
    cases hF
    exact fun v σ' H' r fz=>q v H' (fin ρ' σ' H' r).1 (fin ρ' σ' H' r).2 fz
   | nx =>
    cases hF
    exact fun σ' H' r fz=>q .non H' (fin ρ' σ' H' r).1 (fin ρ' σ' H' r).2 (by show Fz K H' .none .non;simp [Fz])
   | _=>cases hF
  | true =>
   cases fl with
   | rf dr =>
    cases hF
    exact fun a σ' H' r ha m=>q (.ref a) H' (fin ρ' σ' H' r).1 (fin ρ' σ' H' r).2 ⟨a,rfl,ha,m⟩
   | _=>cases hF
theorem zwe {x:Str} {st:Stmt} {N ps:List Str} {k:Nat} {b:SF} (ms:List Bool) (fr:Bool) (h:Has K mg x st) (S:zeh N ps (zaA st)) (hps:ps.length=ms.length) (hpN:ps.length<=N.length)
  (hbi:∀ (kV doc pm:Value) (an:Option Addr) (cdv ct:Value) (us:List Value),us.length=ps.length->bindArgs (PySem.W.fnOf x x (zdl st) (zbI st) (zaA st) .none kV doc pm an cdv ct) ⟨us,[]⟩=pure (ps.zip us))
  (hb:∀ (f:Addr) (cdv:Value) (A:Around) (outer:List Env) (s:Shared) (H:Hp) (E:XK),zcT k (A.deeper (envOfC x (zaA st) s.heap.objs.size f cdv))->zlO K (zqL (CXe P w) P w K mg base N x (zaA st) f cdv A outer s H E) (zbI st) b) :
  Callee P w K mg base x (k + 1) ps (spF K ms fr (run ms fr N.length b)):=by
 obtain ⟨f,fd,hm,F⟩:=h
 exact ⟨f,fd,hm,F.kp,F.binds hbi,zp6 ms fr F S hps hpN (hb f)⟩
end
end FL
namespace FL
open PySem L2 PySem.Spec
open PyProof.Rows hiding St
variable [Cs]
theorem zeV:∀ {n:Nat} {ds:List D},ds.length=n->slots (List.replicate n false) ds=ds.map Sl.val
 | 0,[],_=>rfl
 | n + 1,d :: ds,h=>by
  simp only [List.replicate_succ,slots,List.map_cons]
  rw [zeV (by simpa using h)]
  rfl
 | 0,_ :: _,h=>by simp at h
 | n + 1,[],h=>by simp at h
theorem zqY {K:PySem.W.Frag} {H:Hp}:∀ {ds:List D} {vs:List V},zuB H->zak K H ds vs->Rel K (ds.map Sl.val) (vs.map some) H:=fun {ds vs} cst f=>by
 refine ⟨by simp [f.len],fun i x v e1 e2=>?_,fun i j a ⟨⟨p,d,e⟩,_⟩=>?_,cst⟩
 ·rw [List.getElem?_map] at e1 e2
  cases ed:ds[i]? with
  | none=>rw [ed] at e1;cases e1
  | some d =>
   obtain ⟨u,eu,fu⟩:=f.get ed
   rw [ed] at e1
   rw [eu] at e2
   cases e1;cases e2
   exact fu
 ·rw [List.getElem?_map] at e
  cases ed:ds[i]? with
  | none=>rw [ed] at e;cases e
  | some d=>rw [ed] at e;cases e
theorem znZ {ds:List D} {σ:L2.St} {a:Addr}:¬ MA (ds.map Sl.val) σ a:=by
 rintro ⟨i,⟨p,d,e⟩,_⟩
 rw [List.getElem?_map] at e
 cases ed:ds[i]? with
 | none=>rw [ed] at e;cases e
 | some d=>rw [ed] at e;cases e
section
variable {P:Program} {w:World} {K:PySem.W.Frag} {mg:Str->Option Value} {base:Heap} {x:Str} {k:Nat} {ps:List Str}
theorem zkl.pure {f:Addr} {fd:FuncData} {n m:Nat} {fr:Bool} {b:SF} (F:zkl P w K mg base (CXe P w) k f fd ps (spF K (List.replicate n false) fr (run (List.replicate n false) fr m b))):zkl P w K mg base (CXe P w) k f fd ps (spP K n fr (zaZ fr n m b)):=by
 refine F.imp fun vs H Q E=>?_
 rintro ⟨ds,hv,cst,f,d,e,q⟩
 have hd:ds.length=n:=by rw [<- f.len,hv]
 obtain ⟨y,ey,e⟩:=zat e
 cases e
 refine ⟨ds,by simpa using hv,by simpa using hd,by rw [zeV hd];exact zqY cst f,y.1,y.2,by rw [ey],fun v H' r kp fin=>q v H' (fun a o e=>kp a o e (by rw [zeV hd];exact znZ)) fin⟩
theorem Callee.pure {n m:Nat} {fr:Bool} {b:SF} (c:Callee P w K mg base x k ps (spF K (List.replicate n false) fr (run (List.replicate n false) fr m b))):Callee P w K mg base x k ps (spP K n fr (zaZ fr n m b)):=by
 obtain ⟨f,fd,h1,h2,h3,F⟩:=c
 exact ⟨f,fd,h1,h2,h3,zkl.pure F⟩
end
def zuC (fa:AF) (n:Nat):Prop:=∀ ρ y,fa ρ=.ok y->y.1.length=n
theorem znF:zuC zai 0:=fun ρ y h=>by cases h;rfl
theorem zlu {f:EF} {a:AF} {n:Nat} (h:zuC a n):zuC (zaa f a) (n + 1):=fun ρ y e=>by
 obtain ⟨x,_,e⟩:=zat (show (f ρ).bind _=.ok y from e)
 obtain ⟨z,e2,e⟩:=zat e
 cases e
 simp [h _ _ e2]
section
variable {K:PySem.W.Frag} {X:Cx} {k j n:Nat} {ps:List Str} {E:XK} {x:Str} {p pos:Pos} {e:Expr} {es:List Expr} {G:List D->R D} {fa:AF}
theorem ztt (c:Callee X.prog X.w X.K X.mg X.base x k ps (spP X.K n false G)) (hr:zcT j X.A) (hg:Gl X x) (hx:Passes (CXe X.prog X.w) X E) (ha:PVA K X (e :: es) fa) (hl:zuC fa n) (hj:k<=j:=by decide) (hdb:(x == ("__debug__":Str))=false:=by decide)
  (he:starEach (e :: es) X.env=(false,eval e X.env) :: starEach es X.env:=by rfl) (hpl:(backTo pos (starEach es X.env)).any (·.1)=false:=by rfl):PV K X (.Call (.Name x p) (e :: es) [] pos) (zae G fa):=fun hK=>by
 subst hK
 refine (zfk c hr hg hx (ha rfl) hj hdb he hpl).weak fun σ H Q=>?_
 rintro ⟨ρ,rel,q⟩
 obtain ⟨y,ey,q0⟩:=q.bnd
 have hy:=hl ρ y ey
 refine ⟨ρ,rel,?_⟩
 rw [ey]
 intro H1 rel1 st1 vs fs
 obtain ⟨d,ed,q2⟩:=(q0.step st1).zgO
 rw [List.append_nil]
 exact ⟨y.1,by rw [fs.len,hy],rel1.cst,fs,d,ed,fun v H' s fin=>q2.new rel1 s v fin⟩
theorem zq8 (c:Callee X.prog X.w X.K X.mg X.base x k ps (spP X.K n true G)) (hr:zcT j X.A) (hg:Gl X x) (hx:Passes (CXe X.prog X.w) X E) (ha:PVA K X (e :: es) fa) (hl:zuC fa n) (hj:k<=j:=by decide) (hdb:(x == ("__debug__":Str))=false:=by decide)
  (he:starEach (e :: es) X.env=(false,eval e X.env) :: starEach es X.env:=by rfl) (hpl:(backTo pos (starEach es X.env)).any (·.1)=false:=by rfl):PVN K X (.Call (.Name x p) (e :: es) [] pos) (zae G fa):=fun hK=>by
 subst hK
 refine (zfk c hr hg hx (ha rfl) hj hdb he hpl).weak fun σ H Q=>?_
 rintro ⟨ρ,rel,q⟩
 obtain ⟨y,ey,q0⟩:=q.bnd
 have hy:=hl ρ y ey
 refine ⟨ρ,rel,?_⟩
 rw [ey]
 intro H1 rel1 st1 vs fs
 obtain ⟨d,ed,q2⟩:=(q0.step st1).zgO
 rw [List.append_nil]
 refine ⟨y.1,by rw [fs.len,hy],rel1.cst,fs,d,ed,fun v H' s fin=>?_⟩
 obtain ⟨a,rfl,ha,m⟩:=fin
 refine q2.new rel1 s a ?_ m
 cases e0:H a with
 | none=>rfl
 | some o =>
  by_cases mm:MA ρ σ a
  ·obtain ⟨o',e',_⟩:=rel1.zbe (st1.ma.mp mm)
   rw [ha] at e';cases e'
  ·rw [st1.kp a o e0 mm] at ha;cases ha
def zkn (K:PySem.W.Frag) (σ:L2.St) (H₀ H:Hp):List Itm->List V->Prop
 | [],vs=>vs=[]
 | .vd d :: r,vs=>∃ v t,vs=v :: t/\Fz K H d v/\zkn K σ H₀ H r t
 | .mi i :: r,vs=>∃ v t,vs=v :: t/\σ[i]?=some (some v)/\zkn K σ H₀ H r t
 | .td d :: r,vs=>∃ a t,vs=.ref a :: t/\zbL K H a d/\H₀ a=none/\zkn K σ H₀ H r t
theorem Stp.old {ρ ρ1:En} {σ:L2.St} {H H1:Hp} (st:Stp ρ ρ1 σ H H1) (rel1:Rel K ρ1 σ H1) {a:Addr} (ha:H1 a=none):H a=none:=by
 cases e0:H a with
 | none=>rfl
 | some o =>
  by_cases mm:MA ρ σ a
  ·obtain ⟨o',e',_⟩:=rel1.zbe (st.ma.mp mm)
   rw [ha] at e';cases e'
  ·rw [st.kp a o e0 mm] at ha;cases ha
theorem zkn.back {σ:L2.St} {H H1 H2:Hp} (h:∀ a,H1 a=none->H a=none):∀ {l:List Itm} {vs:List V},zkn K σ H1 H2 l vs->zkn K σ H H2 l vs
 | [],vs,z=>z
 | .vd d :: r,vs,z=>by
  obtain ⟨v,t,e,f,z⟩:=z
  exact ⟨v,t,e,f,zkn.back h z⟩
 | .mi i :: r,vs,z=>by
  obtain ⟨v,t,e,f,z⟩:=z
  exact ⟨v,t,e,f,zkn.back h z⟩
 | .td d :: r,vs,z=>by
  obtain ⟨v,t,e,f,g,z⟩:=z
  exact ⟨v,t,e,f,h _ g,zkn.back h z⟩
def tAr (K:PySem.W.Frag) (a:List Ar):TA:=fun σ H Q=>∃ ρ,Rel K ρ σ H/\Good K ρ σ H (znE a ρ) fun l _ H'=>∀ vs,zkn K σ H H' l vs->Q vs H'
def zqy (K:PySem.W.Frag) (X:Cx) (es:List Expr) (a:List Ar):Prop:=X.K=K->PA X es (tAr K a)
theorem zaT:zqy K X [] []:=fun _=>zgg.weak fun σ H Q=>by
 rintro ⟨ρ,rel,q⟩
 exact q.now rel [] rfl
theorem zc1 {f:EF} {a:List Ar} (he:PV K X e f) (hr:zqy K X es a) (hs:starEach (e :: es) X.env=(false,eval e X.env) :: starEach es X.env:=by rfl):zqy K X (e :: es) (.v f :: a):=fun hK=>(zco (he hK) (hr hK) hs).weak fun σ H Q=>by
 rintro ⟨ρ,rel,q⟩
 refine goV rel q fun dx ρ1 x H1 rel1 st1 fx q1=>?_
 obtain ⟨y,ey,q2⟩:=q1.bnd
 refine ⟨ρ1,rel1,?_⟩
 rw [ey]
 exact fun H2 rel2 st2 vs it=>(q2.step st2).now rel2 _ ⟨x,vs,rfl,fx.mono (st2.fzn rel1),it.back fun a ha=>st1.old rel1 ha⟩
theorem zva {a:List Ar} {y:Str} {py:Pos} (i:Nat) (ha:PE X (.Name y py) (ziv i)) (hr:zqy K X es a) (hs:starEach (.Name y py :: es) X.env=(false,eval (.Name y py) X.env) :: starEach es X.env:=by rfl):zqy K X (.Name y py :: es) (.m i :: a):=fun hK=>(zco ha (hr hK) hs).weak fun σ H Q=>by
 rintro ⟨ρ,rel,q⟩
 obtain ⟨d,ed,q1⟩:=(show Good K ρ σ H ((zaU ρ i).bind fun _=>(znE a ρ).bind fun y=>.ok (.mi i :: y.1,y.2)) _ from q).zgO
 obtain ⟨ad,at0,_⟩:=rel.zpt ed
 obtain ⟨y,ey,q2⟩:=q1.bnd
 refine ⟨.ref ad,at0.2,ρ,rel,?_⟩
 rw [ey]
 exact fun H2 rel2 st2 vs it=>(q2.step st2).now rel2 _ ⟨.ref ad,vs,rfl,at0.2,it⟩
def arM:List Ar->List Bool
 | []=>[]
 | .v _ :: r=>false :: arM r
 | .m _ :: r=>true :: arM r
 | .t _ :: r=>true :: arM r
def arI:List Ar->List Nat
 | []=>[]
 | .v _ :: r=>arI r
 | .m i :: r=>i :: arI r
 | .t _ :: r=>arI r
def arT:List Ar->Nat
 | []=>0
 | .v _ :: r=>arT r
 | .m _ :: r=>arT r
 | .t _ :: r=>arT r + 1
def isR:Itm->Bool
 | .vd _=>false
 | _=>true
def zuQ:Itm->Option Nat
 | .mi i=>some i
 | _=>none
def isT:Itm->Bool
 | .td _=>true
 | _=>false
theorem zeu:∀ {a:List Ar} {ρ:En} {y:List Itm × En},znE a ρ=.ok y->y.1.map isR=arM a/\y.1.filterMap zuQ=arI a/\y.1.countP isT=arT a
 | [],ρ,y,h=>by cases h;exact ⟨rfl,rfl,rfl⟩
 | .v f :: r,ρ,y,h=>by
  obtain ⟨x,_,h⟩:=zat (show (f ρ).bind _=.ok y from h)
  obtain ⟨z,e,h⟩:=zat h
  cases h
  obtain ⟨h1,h2,h3⟩:=zeu e
  simp only [List.map_cons,List.filterMap_cons]
  exact ⟨by rw [h1];rfl,h2,by rw [List.countP_cons_of_neg (by simp [isT])];exact h3⟩
 | .m i :: r,ρ,y,h=>by
  obtain ⟨_,_,h⟩:=zat (show (zaU ρ i).bind _=.ok y from h)
  obtain ⟨z,e,h⟩:=zat h
  cases h
  obtain ⟨h1,h2,h3⟩:=zeu e
  simp only [List.map_cons,List.filterMap_cons]
  exact ⟨by rw [h1];rfl,by rw [h2];rfl,by rw [List.countP_cons_of_neg (by simp [isT])];exact h3⟩
 | .t f :: r,ρ,y,h=>by
  obtain ⟨x,_,h⟩:=zat (show (f ρ).bind _=.ok y from h)
  obtain ⟨z,e,h⟩:=zat h
  cases h
  obtain ⟨h1,h2,h3⟩:=zeu e
  simp only [List.map_cons,List.filterMap_cons]
  exact ⟨by rw [h1];rfl,h2,by rw [List.countP_cons_of_pos (by simp [isT]),h3];rfl⟩
theorem zet {ρ:En}:∀ {l:List Itm} {ds:List D},zls ρ l=.ok ds->ds.length=l.length/\∀ (j:Nat) z,l[j]?=some z->∃ d,ds[j]?=some d/\(match z with | .vd d'=>d=d' | .mi i=>zaU ρ i=.ok d | .td d'=>d=d')
 | [],ds,h=>by cases h;exact ⟨rfl,fun j z e=>by simp at e⟩
 | .vd d :: r,ds,h=>by
  obtain ⟨ds',e,h⟩:=zat (show (zls ρ r).bind _=.ok ds from h)
  cases h
  obtain ⟨h1,h2⟩:=zet e
  refine ⟨by simp [h1],fun j z ez=>?_⟩
  cases j with
  | zero=>simp at ez;subst ez;exact ⟨d,rfl,rfl⟩
  | succ j=>obtain ⟨d',h3,h4⟩:=h2 j z (by simpa using ez);exact ⟨d',by simpa using h3,h4⟩
 | .td d :: r,ds,h=>by
  obtain ⟨ds',e,h⟩:=zat (show (zls ρ r).bind _=.ok ds from h)
  cases h
  obtain ⟨h1,h2⟩:=zet e
  refine ⟨by simp [h1],fun j z ez=>?_⟩
  cases j with
  | zero=>simp at ez;subst ez;exact ⟨d,rfl,rfl⟩
  | succ j=>obtain ⟨d',h3,h4⟩:=h2 j z (by simpa using ez);exact ⟨d',by simpa using h3,h4⟩
 | .mi i :: r,ds,h=>by
  obtain ⟨d,e0,h⟩:=zat (show (zaU ρ i).bind _=.ok ds from h)
  obtain ⟨ds',e,h⟩:=zat h
  cases h
  obtain ⟨h1,h2⟩:=zet e
  refine ⟨by simp [h1],fun j z ez=>?_⟩
  cases j with
  | zero=>simp at ez;subst ez;exact ⟨d,rfl,e0⟩
  | succ j=>obtain ⟨d',h3,h4⟩:=h2 j z (by simpa using ez);exact ⟨d',by simpa using h3,h4⟩
theorem zkn.get {σ:L2.St} {H₀ H:Hp}:∀ {l:List Itm} {vs:List V},zkn K σ H₀ H l vs->vs.length=l.length/\∀ (j:Nat) z,l[j]?=some z->∃ v,vs[j]?=some v/\(match z with | .vd d=>Fz K H d v | .mi i=>σ[i]?=some (some v) | .td d=>∃ a,v=.ref a/\zbL K H a d/\H₀ a=none)
 | [],vs,h=>by cases (show vs=[] from h);exact ⟨rfl,fun j z e=>by simp at e⟩
 | .vd d :: r,vs,h=>by
  obtain ⟨v,t,rfl,f,h⟩:=h
  obtain ⟨h1,h2⟩:=zkn.get h
  refine ⟨by simp [h1],fun j z ez=>?_⟩
  cases j with
  | zero=>simp at ez;subst ez;exact ⟨v,rfl,f⟩
  | succ j=>obtain ⟨d',h3,h4⟩:=h2 j z (by simpa using ez);exact ⟨d',by simpa using h3,h4⟩
 | .mi i :: r,vs,h=>by
  obtain ⟨v,t,rfl,f,h⟩:=h
  obtain ⟨h1,h2⟩:=zkn.get h
  refine ⟨by simp [h1],fun j z ez=>?_⟩
  cases j with
  | zero=>simp at ez;subst ez;exact ⟨v,rfl,f⟩
  | succ j=>obtain ⟨d',h3,h4⟩:=h2 j z (by simpa using ez);exact ⟨d',by simpa using h3,h4⟩
 | .td d :: r,vs,h=>by
  obtain ⟨v,t,rfl,f,g,h⟩:=h
  obtain ⟨h1,h2⟩:=zkn.get h
  refine ⟨by simp [h1],fun j z ez=>?_⟩
  cases j with
  | zero=>simp at ez;subst ez;exact ⟨_,rfl,v,rfl,f,g⟩
  | succ j=>obtain ⟨d',h3,h4⟩:=h2 j z (by simpa using ez);exact ⟨d',by simpa using h3,h4⟩
end
end FL
namespace FL
open PySem L2 PySem.Spec
open PyProof.Rows hiding St
variable [Cs]
section
variable {K:PySem.W.Frag} {ρ:En} {σ:L2.St} {H H':Hp}
theorem zvA {m:List (Nat × Sl)} (r:Rel K ρ σ H) (hA:∀ i c,m.lookup i=some c->∀ a,At ρ σ i a->∃ q d,c=.ow q d/\zbL K H' a d) (hB:∀ i a,At ρ σ i a->m.lookup i=none->H' a=H a) (fz:Fzn H H') :
  Rel K (bkL m 0 ρ) σ H'/\∀ (i:Nat) p,(∃ d,ρ[i]?=some (.ow p d)) ↔ ∃ d,(bkL m 0 ρ)[i]?=some (.ow p d):=by
 have gt:∀ i:Nat,(bkL m 0 ρ)[i]?=(ρ[i]?).map (bk1 m i):=fun i=>by rw [zmv,Nat.zero_add]
 have mdB:∀ (i:Nat) p,(∃ d,ρ[i]?=some (.ow p d)) ↔ ∃ d,(bkL m 0 ρ)[i]?=some (.ow p d):=fun i p=>by
  rw [gt]
  constructor
  ·rintro ⟨d,e⟩
   rw [e]
   simp only [Option.map_some,bk1]
   split
   ·rename_i p' d1 q' d2 h1 h2;cases h1;exact ⟨_,rfl⟩
   ·exact ⟨_,rfl⟩
  ·rintro ⟨d,e⟩
   cases er:ρ[i]? with
   | none=>rw [er] at e;cases e
   | some x =>
    rw [er] at e
    simp only [Option.map_some,Option.some.injEq,bk1] at e
    split at e
    ·cases e;exact ⟨_,rfl⟩
    ·subst e;exact ⟨_,rfl⟩
 have atB:∀ i a,At (bkL m 0 ρ) σ i a->At ρ σ i a:=fun i a ⟨⟨p,d,e1⟩,e2⟩=>⟨⟨p,(mdB i p).mpr ⟨d,e1⟩⟩,e2⟩
 refine ⟨⟨by rw [zmu];exact r.len,fun i x v e1 e2=>?_,fun i j a h1 h2=>r.sep i j a (atB i a h1) (atB j a h2),r.cst.mono fz⟩,mdB⟩
 rw [gt] at e1
 cases er:ρ[i]? with
 | none=>rw [er] at e1;cases e1
 | some y =>
  rw [er] at e1
  simp only [Option.map_some,Option.some.injEq] at e1
  have o:=r.ok i y v er e2
  cases y with
  | no=>simp only [bk1] at e1;subst e1;trivial
  | val d =>
   simp only [bk1] at e1
   subst e1
   exact o.mono fz fun a _ ⟨p,d',z⟩=>nomatch z
  | ow p d =>
   cases v with
   | none=>exact o.elim
   | some v =>
    cases v with
    | ref a =>
     have ai:At ρ σ i a:=⟨⟨p,d,er⟩,e2⟩
     cases el:m.lookup i with
     | none =>
      simp only [bk1,el] at e1
      subst e1
      exact o.mono fz fun b e3 _=>by cases e3;exact hB i a ai el
     | some c =>
      obtain ⟨q,d',rfl,mm⟩:=hA i c el a ai
      simp only [bk1,el] at e1
      subst e1
      exact mm
    | _=>exact o.elim
end
theorem zsA:∀ {l:List Itm} {j j' i:Nat},(l.filterMap zuQ).Nodup->l[j]?=some (.mi i)->l[j']?=some (.mi i)->j=j'
 | [],j,j',i,_,h,_=>by simp at h
 | z :: r,j,j',i,nd,h1,h2=>by
  have rest:(r.filterMap zuQ).Nodup:=by
   rw [List.filterMap_cons] at nd
   cases z with
   | mi k=>exact (List.nodup_cons.mp nd).2
   | _=>exact nd
  have mem:∀ {j:Nat},r[j]?=some (.mi i)->i ∈ r.filterMap zuQ:=fun h=>List.mem_filterMap.mpr ⟨.mi i,List.mem_of_getElem? h,rfl⟩
  have hd:z=.mi i->∀ {j:Nat},r[j]? ≠ some (.mi i):=fun e j h=>by
   subst e
   rw [List.filterMap_cons] at nd
   exact (List.nodup_cons.mp nd).1 (mem h)
  cases j with
  | zero =>
   cases j' with
   | zero=>rfl
   | succ j'=>exact absurd (by simpa using h2) (hd (by simpa using h1) (j:=j'))
  | succ j =>
   cases j' with
   | zero=>exact absurd (by simpa using h1) (hd (by simpa using h2) (j:=j))
   | succ j' =>
    have:=zsA (l:=r) rest (by simpa using h1) (by simpa using h2)
    rw [this]
theorem zsl:∀ {l:List Itm} {j j':Nat} {d d':D},l.countP isT<=1->l[j]?=some (.td d)->l[j']?=some (.td d')->j=j'
 | [],j,j',d,d',_,h,_=>by simp at h
 | z :: r,j,j',d,d',c,h1,h2=>by
  have rest:r.countP isT<=1:=by
   rw [List.countP_cons] at c;omega
  have none:isT z=true->∀ {j:Nat} {d:D},r[j]? ≠ some (.td d):=fun e j d h=>by
   rw [List.countP_cons,if_pos e] at c
   have:0 < r.countP isT:=List.countP_pos_iff.mpr ⟨_,List.mem_of_getElem? h,rfl⟩
   omega
  cases j with
  | zero =>
   cases j' with
   | zero=>rfl
   | succ j' =>
    have e:z=.td d:=by simpa using h1
    subst e
    exact absurd (by simpa using h2) (none rfl (j:=j'))
  | succ j =>
   cases j' with
   | zero =>
    have e:z=.td d':=by simpa using h2
    subst e
    exact absurd (by simpa using h1) (none rfl (j:=j))
   | succ j' =>
    have:=zsl (l:=r) rest (by simpa using h1) (by simpa using h2)
    rw [this]
theorem zdo:∀ {l:List Itm} {os:List D} {i:Nat} {c:Sl},(zjm l os).lookup i=some c->∃ (j:Nat) (d:D),l[j]?=some (.mi i)/\os[j]?=some d/\c=.ow true d
 | [],os,i,c,h=>by simp [zjm] at h
 | z :: r,[],i,c,h=>by cases z <;> simp [zjm] at h
 | .vd d :: r,o :: os,i,c,h=>by
  obtain ⟨j,d',h1,h2,h3⟩:=zdo (l:=r) (os:=os) (by simpa [zjm] using h)
  exact ⟨j + 1,d',by simpa using h1,by simpa using h2,h3⟩
 | .td d :: r,o :: os,i,c,h=>by
  obtain ⟨j,d',h1,h2,h3⟩:=zdo (l:=r) (os:=os) (by simpa [zjm] using h)
  exact ⟨j + 1,d',by simpa using h1,by simpa using h2,h3⟩
 | .mi k :: r,o :: os,i,c,h=>by
  simp only [zjm] at h
  rw [List.lookup_cons] at h
  by_cases e:i=k
  ·subst e
   simp only [beq_self_eq_true] at h
   cases h
   exact ⟨0,o,rfl,rfl,rfl⟩
  ·rw [beq_false_of_ne e] at h
   obtain ⟨j,d',h1,h2,h3⟩:=zdo (l:=r) (os:=os) h
   exact ⟨j + 1,d',by simpa using h1,by simpa using h2,h3⟩
theorem zg4:∀ {l:List Itm} {os:List D} {i j:Nat} {d:D},l[j]?=some (.mi i)->os[j]?=some d->∃ c,(zjm l os).lookup i=some c
 | [],os,i,j,d,h,_=>by simp at h
 | z :: r,[],i,j,d,_,h=>by simp at h
 | .vd _ :: r,o :: os,i,j,d,h1,h2=>by
  cases j with
  | zero=>simp at h1
  | succ j =>
   simp only [zjm]
   exact zg4 (l:=r) (by simpa using h1) (by simpa using h2)
 | .td _ :: r,o :: os,i,j,d,h1,h2=>by
  cases j with
  | zero=>simp at h1
  | succ j =>
   simp only [zjm]
   exact zg4 (l:=r) (by simpa using h1) (by simpa using h2)
 | .mi k :: r,o :: os,i,j,d,h1,h2=>by
  simp only [zjm]
  rw [List.lookup_cons]
  by_cases e:i=k
  ·subst e
   simp
  ·rw [beq_false_of_ne e]
   cases j with
   | zero=>simp at h1;exact absurd h1.symm e
   | succ j=>exact zg4 (l:=r) (by simpa using h1) (by simpa using h2)
section
variable {K:PySem.W.Frag} {ρ0 ρ:En} {σ:L2.St} {H0 H H':Hp} {l:List Itm} {ds os:List D} {vs:List V} {ms:List Bool}
theorem zf9 (rel:Rel K ρ σ H) (it:zkn K σ H0 H l vs) (hi:zls ρ l=.ok ds) (hm:l.map isR=ms) {j:Nat} {a:Addr} (hd:ds.length=ms.length) (h:At (slots ms ds) (vs.map some) j a):(∃ i,l[j]?=some (.mi i)/\At ρ σ i a)\/∃ d,l[j]?=some (.td d)/\H0 a=none:=by
 obtain ⟨v1,v2⟩:=it.get
 obtain ⟨d1,d2⟩:=zet hi
 obtain ⟨⟨p,d,e1⟩,e2⟩:=h
 obtain ⟨rfl,em,ed⟩:=zeo hd e1
 rw [<- hm,List.getElem?_map] at em
 cases el:l[j]? with
 | none=>rw [el] at em;cases em
 | some z =>
  rw [el] at em
  obtain ⟨v,ev,es⟩:=v2 j _ el
  obtain ⟨d',ed',em'⟩:=d2 j _ el
  rw [List.getElem?_map,ev] at e2
  cases e2
  cases z with
  | vd _=>cases em
  | mi i =>
   obtain ⟨q,eq⟩:=zht em'
   exact .inl ⟨i,rfl,⟨q,d',eq⟩,es⟩
  | td d0 =>
   obtain ⟨b,eb,_,hb⟩:=es
   cases eb
   exact .inr ⟨d0,rfl,hb⟩
theorem zr8 (r0:Rel K ρ0 σ H0) (st:Stp ρ0 ρ σ H0 H) (rel:Rel K ρ σ H) (it:zkn K σ H0 H l vs) (hi:zls ρ l=.ok ds) (hm:l.map isR=ms) (nd:(l.filterMap zuQ).Nodup) (ct:l.countP isT<=1):ds.length=ms.length/\vs.length=ms.length/\Rel K (slots ms ds) (vs.map some) H:=by
 obtain ⟨v1,v2⟩:=it.get
 obtain ⟨d1,d2⟩:=zet hi
 have hl:ms.length=l.length:=by rw [<- hm,List.length_map]
 have hd:ds.length=ms.length:=by rw [d1,hl]
 have hv:vs.length=ms.length:=by rw [v1,hl]
 have apart:∀ {i:Nat} {a:Addr},At ρ σ i a->H0 a=none->False:=fun h1 h2=>by
  obtain ⟨o',e',_⟩:=r0.zbe (st.ma.mpr ⟨_,h1⟩)
  rw [h2] at e';cases e'
 refine ⟨hd,hv,⟨by rw [zdJ hd,List.length_map,hv],fun j x v e1 e2=>?_,fun j j' a h1 h2=>?_,rel.cst⟩⟩
 ·rw [zbY hd] at e1
  cases em:ms[j]? with
  | none=>rw [em] at e1;cases e1
  | some m =>
   cases ed:ds[j]? with
   | none=>rw [em,ed] at e1;cases e1
   | some d =>
    rw [em,ed] at e1
    rw [<- hm,List.getElem?_map] at em
    cases el:l[j]? with
    | none=>rw [el] at em;cases em
    | some z =>
     rw [el] at em
     obtain ⟨u,eu,es⟩:=v2 j z el
     obtain ⟨d',ed',em'⟩:=d2 j z el
     rw [ed] at ed'
     cases ed'
     rw [List.getElem?_map,eu] at e2
     cases e2
     cases z with
     | vd dz =>
      cases em
      cases e1
      cases em'
      exact es
     | mi i =>
      cases em
      cases e1
      obtain ⟨q,eq⟩:=zht em'
      have o:=rel.ok i _ _ eq es
      show zuy K H (.ow true d) (some u)
      cases u with
      | ref a=>exact o
      | _=>exact o.elim
     | td dz =>
      cases em
      cases e1
      cases em'
      obtain ⟨b,rfl,mb,_⟩:=es
      exact mb
 ·rcases zf9 rel it hi hm hd h1 with ⟨i,e1,a1⟩ | ⟨d,e1,a1⟩
  ·rcases zf9 rel it hi hm hd h2 with ⟨i',e2,a2⟩ | ⟨d,e2,a2⟩
   ·have:=rel.sep i i' a a1 a2
    subst this
    exact zsA nd e1 e2
   ·exact (apart a1 a2).elim
  ·rcases zf9 rel it hi hm hd h2 with ⟨i',e2,a2⟩ | ⟨d,e2,a2⟩
   ·exact (apart a2 a1).elim
   ·exact zsl ct e1 e2
theorem zqu (r0:Rel K ρ0 σ H0) (st:Stp ρ0 ρ σ H0 H) (rel:Rel K ρ σ H) (it:zkn K σ H0 H l vs) (hi:zls ρ l=.ok ds) (hm:l.map isR=ms) (hd:ds.length=ms.length) (ho:os.length=ms.length) (ra:Rel K (slots ms os) (vs.map some) H') (hC:∀ a o,H a=some o->¬ MA (slots ms ds) (vs.map some) a->H' a=some o) :
  Rel K (zlr ρ l os) σ H'/\Stp ρ0 (zlr ρ l os) σ H0 H':=by
 obtain ⟨v1,v2⟩:=it.get
 obtain ⟨d1,d2⟩:=zet hi
 have hl:ms.length=l.length:=by rw [<- hm,List.length_map]
 have apart:∀ {i:Nat} {a:Addr},At ρ σ i a->H0 a=none->False:=fun h1 h2=>by
  obtain ⟨o',e',_⟩:=r0.zbe (st.ma.mpr ⟨_,h1⟩)
  rw [h2] at e';cases e'
 have kp0:∀ a o,H0 a=some o->¬ MA ρ0 σ a->H' a=some o:=fun a o e n=>hC a o (st.kp a o e n) fun ⟨j,h⟩=>by
  rcases zf9 rel it hi hm hd h with ⟨i,_,a1⟩ | ⟨d,_,a1⟩
  ·exact n (st.ma.mpr ⟨i,a1⟩)
  ·rw [e] at a1;cases a1
 have fz:Fzn H H':=fun a o e sy=>hC a o e fun ⟨j,h⟩=>by
  obtain ⟨⟨p,d,e1⟩,e2⟩:=id h
  obtain ⟨rfl,em,ed⟩:=zeo hd e1
  rcases zf9 rel it hi hm hd h with ⟨i,_,a1⟩ | ⟨d,el,a1⟩
  ·obtain ⟨o',e',ow⟩:=rel.zbe ⟨i,a1⟩
   rw [e] at e'
   cases e'
   exact ow.zdA sy
  ·obtain ⟨v,ev,b,eb,mb,_⟩:=v2 j _ el
   rw [List.getElem?_map,ev] at e2
   cases e2
   cases eb
   obtain ⟨o',e',ow⟩:=mb.own
   rw [e] at e'
   cases e'
   exact ow.zdA sy
 have key:=zvA (H:=H) (H':=H') (m:=zjm l os) rel (fun i c e a at0=>by
  obtain ⟨j,d,e1,e2,rfl⟩:=zdo e
  obtain ⟨v,ev,es⟩:=v2 j _ e1
  replace es:σ[i]?=some (some v):=es
  rw [at0.2] at es
  cases es
  refine ⟨true,d,rfl,?_⟩
  have em:ms[j]?=some true:=by rw [<- hm,List.getElem?_map,e1];rfl
  exact ra.ok j (.ow true d) (some (.ref a)) (by rw [zbY ho,em,e2];rfl) (by rw [List.getElem?_map,ev];rfl)) (fun i a at0 e=>by
  obtain ⟨u,hu,_⟩:=rel.zbe ⟨i,at0⟩
  rw [hu]
  refine hC a u hu fun ⟨j,h⟩=>?_
  rcases zf9 rel it hi hm hd h with ⟨i',el,a1⟩ | ⟨d,_,a1⟩
  ·have:=rel.sep i i' a at0 a1
   subst this
   have hj:j < os.length:=by rw [ho,hl];exact (List.getElem?_eq_some_iff.mp el).1
   obtain ⟨c,ec⟩:=zg4 el (List.getElem?_eq_getElem hj)
   rw [ec] at e
   cases e
  ·exact apart at0 a1) fz
 exact ⟨key.1,⟨fun i p=>(st.md i p).trans (key.2 i p),kp0⟩⟩
end
section
variable {K:PySem.W.Frag} {X:Cx} {k j:Nat} {ps:List Str} {E:XK} {x:Str} {p pos:Pos} {e:Expr} {es:List Expr} {F:List D->R (D × List D)} {a:List Ar}
def zuK (F:List D->R (D × List D)) (n:Nat):Prop:=∀ ds y,F ds=.ok y->y.2.length=n
theorem zmZ {ms:List Bool} {fr:Bool} {m:Nat} {b:SF}:zuK (run ms fr m b) ms.length:=fun ds y h=>by
 unfold run at h
 split at h
 ·rename_i hd
  obtain ⟨z,_,h⟩:=zat h
  obtain ⟨fl,ρ⟩:=z
  cases fr with
  | false =>
   cases fl with
   | rt d=>cases h;exact zfl hd
   | nx=>cases h;exact zfl hd
   | _=>cases h
  | true =>
   cases fl with
   | rf d=>cases h;exact zfl hd
   | _=>cases h
 ·cases h
theorem zxY {fr:Bool} (ho:zuK F (arM a).length) (nd:(arI a).Nodup) (ct:arT a<=1) (σ:L2.St) (H:Hp) (Q:VK) (ρ:En) (rel:Rel K ρ σ H)
  (q:Good K ρ σ H (zan F a ρ) fun d ρ' H'=>∀ v,(if fr=true then ∃ a,v=.ref a/\H a=none/\zbL K H' a d else Fz K H' d v)->Q v H'):ztg (spF K (arM a) fr F) [] E (tAr K a) σ H Q:=by
 obtain ⟨y,ey,q0⟩:=q.bnd
 obtain ⟨h1,h2,h3⟩:=zeu ey
 refine ⟨ρ,rel,?_⟩
 rw [ey]
 intro H1 rel1 st1 vs it
 obtain ⟨ds,ed,q1⟩:=q0.zgO
 obtain ⟨z,ez,q2⟩:=q1.zgO
 obtain ⟨hd,hv,ra⟩:=zr8 rel st1 rel1 it ed h1 (by rw [h2];exact nd) (by rw [h3];exact ct)
 rw [List.append_nil]
 refine ⟨ds,hv,hd,ra,z.1,z.2,ez,fun v H' rb kp fin=>?_⟩
 obtain ⟨r2,s2⟩:=zqu rel st1 rel1 it ed h1 hd (ho ds z ez) rb kp
 refine q2 H' r2 s2 v ?_
 cases fr with
 | false=>exact fin
 | true =>
  obtain ⟨ad,rfl,ha,m⟩:=fin
  exact ⟨ad,rfl,st1.old rel1 ha,m⟩
theorem zrb (c:Callee X.prog X.w X.K X.mg X.base x k ps (spF X.K (arM a) false F)) (ho:zuK F (arM a).length) (nd:(arI a).Nodup) (ct:arT a<=1) (hr:zcT j X.A) (hg:Gl X x) (hx:Passes (CXe X.prog X.w) X E) (ha:zqy K X (e :: es) a) (hj:k<=j:=by decide) (hdb:(x == ("__debug__":Str))=false:=by decide)
  (he:starEach (e :: es) X.env=(false,eval e X.env) :: starEach es X.env:=by rfl) (hpl:(backTo pos (starEach es X.env)).any (·.1)=false:=by rfl):PV K X (.Call (.Name x p) (e :: es) [] pos) (zan F a):=fun hK=>by
 subst hK
 refine (zfk c hr hg hx (ha rfl) hj hdb he hpl).weak fun σ H Q=>?_
 rintro ⟨ρ,rel,q⟩
 exact zxY (fr:=false) ho nd ct σ H Q ρ rel q
theorem zo6 (c:Callee X.prog X.w X.K X.mg X.base x k ps (spF X.K (arM a) true F)) (ho:zuK F (arM a).length) (nd:(arI a).Nodup) (ct:arT a<=1) (hr:zcT j X.A) (hg:Gl X x) (hx:Passes (CXe X.prog X.w) X E) (ha:zqy K X (e :: es) a) (hj:k<=j:=by decide) (hdb:(x == ("__debug__":Str))=false:=by decide)
  (he:starEach (e :: es) X.env=(false,eval e X.env) :: starEach es X.env:=by rfl) (hpl:(backTo pos (starEach es X.env)).any (·.1)=false:=by rfl):PVN K X (.Call (.Name x p) (e :: es) [] pos) (zan F a):=fun hK=>by
 subst hK
 refine (zfk c hr hg hx (ha rfl) hj hdb he hpl).weak fun σ H Q=>?_
 rintro ⟨ρ,rel,q⟩
 refine zxY (fr:=true) ho nd ct σ H Q ρ rel ?_
 cases e0:zan F a ρ with
 | ok y =>
  rw [e0] at q
  exact fun H' r s v ⟨ad,hv,ha,m⟩=>by subst hv;exact q H' r s ad ha m
 | _=>rw [e0] at q;exact q.elim
end
end FL
namespace FL
open PySem L2 PySem.Spec
open PyProof.Rows hiding St
variable [Cs]
section
variable {K:PySem.W.Frag} {X:Cx} {st:Stmt} {s:SF} {e:Expr} {f h:EF} {pos:Pos}
theorem zui {C:SC} {ρ:En} {σ:L2.St} {H:Hp} {i:Nat} {d:D} (rel:zeC K C ρ σ H) (e:ρ[i]?=some (.ow false d)):∃ a u,H a=some u/\Own u/\∀ o,zeC K C (ρ.set i (.val d)) σ (upd H a (.frz o u))/\Fzn H (upd H a (.frz o u)):=by
 obtain ⟨a,at0,m⟩:=rel.rel.zpt (d:=d) (show zaU ρ i=.ok d by unfold zaU;rw [e])
 obtain ⟨u,e1,ow⟩:=m.own
 refine ⟨a,u,e1,ow,fun o=>?_⟩
 have hl:i < ρ.length:=(List.getElem?_eq_some_iff.mp e).1
 have hfr:=rel.own i a d e at0.2
 have fz:Fzn H (upd H a (.frz o u)):=fun b w e2 sy=>by
  rw [zau fun z=>by subst z;rw [e1] at e2;cases e2;exact ow.zdA sy]
  exact e2
 refine ⟨?_,fz⟩
 have fd:Fz K (upd H a (.frz o u)) d (.ref a):=by
  cases d with
  | list ds =>
   obtain ⟨vs,h1,h2⟩:=m
   rw [e1] at h1
   cases h1
   simp only [Fz]
   exact ⟨a,vs,rfl,.inl ⟨o,zap⟩,h2.mono fz⟩
  | dict kvs =>
   simp only [Fz]
   rcases m with ⟨kk,h1,h2⟩ | ⟨kk,h1,h2⟩
   ·rw [e1] at h1
    cases h1
    exact ⟨a,o,rfl,.inl ⟨kk,zap,h2.mono fz⟩⟩
   ·rw [e1] at h1
    cases h1
    exact ⟨a,o,rfl,.inr ⟨kk,zap,h2.mono fz⟩⟩
  | _=>exact m.elim
 have atw:∀ j b,At (ρ.set i (.val d)) σ j b->j ≠ i/\At ρ σ j b:=fun j b ⟨⟨q,dd,e1⟩,e2⟩=>by
  by_cases c:i=j
  ·subst c
   rw [List.getElem?_set_self hl] at e1;cases e1
  ·rw [List.getElem?_set_ne c] at e1
   exact ⟨fun z=>c z.symm,⟨q,dd,e1⟩,e2⟩
 refine ⟨⟨by rw [List.length_set];exact rel.rel.len,fun j y w e2 e3=>?_,fun j k b h1 h2=>rel.rel.sep j k b (atw j b h1).2 (atw k b h2).2,rel.rel.cst.mono fz⟩,fun b w e2 n=>?_,fun j b c e2 e3=>?_,fun j=>?_,fun j c e2=>?_,rel.prm⟩
 ·by_cases c:i=j
  ·subst c
   rw [List.getElem?_set_self hl] at e2
   cases e2
   rw [at0.2] at e3
   cases e3
   exact fd
  ·rw [List.getElem?_set_ne c] at e2
   refine (rel.rel.ok j y w e2 e3).mono fz fun b e4 ⟨p,dd,e5⟩=>?_
   subst e4;subst e5
   refine zau fun z=>?_
   subst z
   exact c (rel.rel.sep i j b at0 ⟨⟨p,dd,e2⟩,e3⟩)
 ·rw [zau fun z=>by subst z;rw [hfr] at e2;cases e2]
  exact rel.keep b w e2 n
 ·by_cases c:i=j
  ·subst c
   rw [List.getElem?_set_self hl] at e2;cases e2
  ·rw [List.getElem?_set_ne c] at e2
   exact rel.own j b _ e2 e3
 ·by_cases c:i=j
  ·subst c
   rw [List.getElem?_set_self hl,<- rel.pin i,e]
   constructor
   ·rintro ⟨_,z⟩;cases z
   ·rintro ⟨_,z⟩;cases z
  ·rw [List.getElem?_set_ne c];exact rel.pin j
 ·by_cases k:i=j
  ·subst k
   rw [List.getElem?_set_self hl] at e2;cases e2
  ·rw [List.getElem?_set_ne k] at e2
   exact rel.fix j c e2
theorem zfh (i:Nat) (hh:PSV K X st s):PSV K X st (zc8 i s):=fun hK C=>by
 have h1:PS X st (fun Dn σ H=>tS K C s { Dn with nx:=fun σ H=>∃ a u,H a=some u/\Own u/\∀ o,Dn.nx σ (upd H a (.frz o u)) } σ H):=fun pins sh σ H Dn I q=>by
  refine thn (hh hK C pins sh σ H _ I q) fun fl s1 z=>?_
  cases fl with
  | next =>
   obtain ⟨σ',H',I',a,u,e,ow,q⟩:=z
   obtain ⟨o,ho⟩:=(I'.hok a u e).some
   exact ⟨σ',_,zxy I' e ow ho,q o⟩
  | brk=>exact z
  | cont=>exact z
  | ret v=>exact z
 refine h1.weak fun Dn σ H=>?_
 rintro ⟨ρ,rel,g⟩
 refine ⟨ρ,rel,?_⟩
 obtain ⟨x,ex,g1⟩:=g.bnd
 rw [ex]
 obtain ⟨fl,ρ1⟩:=x
 cases fl with
 | nx =>
  replace g1:zcB K C H (match ρ1[i]? with | some (.ow false d)=>.ok (.nx,ρ1.set i (.val d)) | _=>.bad) Dn:=g1
  cases e:ρ1[i]? with
  | none=>rw [e] at g1;exact g1.elim
  | some y =>
   rw [e] at g1
   cases y with
   | ow p d =>
    cases p with
    | true=>exact g1.elim
    | false =>
     intro σ' H' r z
     obtain ⟨a,u,e1,ow,k⟩:=zui r e
     exact ⟨a,u,e1,ow,fun o=>g1 σ' _ (k o).1 (z.trans (k o).2)⟩
   | _=>exact g1.elim
 | bk=>exact g1
 | ct=>exact g1
 | rt d=>exact g1
 | rf d=>exact g1
theorem ztq {i j:Nat} {x y:Str} {a b:Expr} {px py pt:Pos} {kt k2 pt2} (hc:X.calm=true) (hN:X.N.Nodup) (hi:X.N[i]?=some x) (hj:X.N[j]?=some y) (hij:i ≠ j)
  (hx:X.env.scope.names.lookup x=some .local) (hy:X.env.scope.names.lookup y=some .local) (ha:PV K X a f) (hb:PV K X b h)
  (hw:swappedStores [.Tuple [.Name x px,.Name y py] kt pt] (.Tuple [a,b] k2 pt2) X.env=pure (some [x,y]))
  (hs:swapsWithSole [.Tuple [.Name x px,.Name y py] kt pt] (.Tuple [a,b] k2 pt2) pos.line X.env=pure false:=by rfl) (hs1:starEach [a,b] X.env=(false,eval a X.env) :: starEach [b] X.env:=by rfl) (hs2:starEach [b] X.env=(false,eval b X.env) :: starEach [] X.env:=by rfl) :
  PSV K X (.Assign [.Tuple [.Name x px,.Name y py] kt pt] (.Tuple [a,b] k2 pt2) pos) (ziw i j f h):=fun hK C=>(zvj hc hN hi hj hij hx hy (zco (ha hK) (zco (hb hK) zgg hs2) hs1) hw hs).weak fun Dn σ H=>by
 rintro ⟨ρ,rel,g⟩
 refine zpV rel g fun d ρ1 v H1 rel1 st1 fz g1=>zpV rel1 g1 fun d2 ρ2 v2 H2 rel2 st2 fz2 g2=>?_
 obtain ⟨ρ3,e3,g3⟩:=g2.bnd
 obtain ⟨ρ4,e4,g4⟩:=g3.bnd
 obtain ⟨rfl,n1,l1⟩:=zng e3
 obtain ⟨rfl,n2,l2⟩:=zng e4
 have f1:=fz.mono (st2.fzn rel1.rel)
 have r3:=rel2.chg (rel2.rel.set (i:=i) (x:=.val d) (v:=some v) f1 fun _ _ _ z=>nomatch z) (zj5 n1 l1)
 have r4:=r3.chg (r3.rel.set (i:=j) (x:=.val d2) (v:=some v2) fz2 fun _ _ _ z=>nomatch z) (zj5 n2 l2)
 exact ⟨v,v2,rfl,g4 _ H2 r4 (Fzn.refl _)⟩
theorem zo3 {a b:Expr} {pl:Pos} (ha:PV K X a f) (hb:PV K X b h) (hs:starEach [a] X.env=(false,eval a X.env) :: starEach [] X.env:=by rfl):PVN K X (.BinOp (.List [a] pl) .Mult b pos) (zsW f h):=fun hK=>(ztH zvC (zsw (zco (ha hK) zgg hs)) (hb hK)).weak fun σ H Q=>by
 rintro ⟨ρ,rel,q⟩
 refine goV rel q fun dx ρ1 x H1 rel1 st1 fx q1=>⟨by show 1<=sizeLine;rw [sizeLine_eq];decide,fun l hl=>?_⟩
 have s0:zbj H1 (upd H1 l (.lst [x])):=zbj.upd hl
 have nma:¬ MA ρ1 σ l:=fun z=>by
  obtain ⟨o',e',_⟩:=rel1.zbe z
  rw [hl] at e';cases e'
 refine goV (rel1.same s0) (q1.step (.of s0)) fun dy ρ2 y H2 rel2 st2 fy q2=>?_
 have hl2:H2 l=some (.lst [x]):=st2.kp l _ zap nma
 cases dy with
 | int k =>
  obtain ⟨c,q3⟩:=Good.chk (c:=decide (0<=k) && leB k.toNat 1000000) q2
  simp only [Fz] at fy
  subst fy
  simp only [Bool.and_eq_true,decide_eq_true_eq,leB_iff] at c
  have el:∀ {α:Type} (z:α) (n:Nat),(List.replicate n [z]).flatten=List.replicate n z:=fun z n=>by
   induction n with
   | zero=>rfl
   | succ n ih=>rw [List.replicate_succ,List.flatten_cons,ih];rfl
  refine ⟨l,k,[x],rfl,rfl,hl2,by omega,by omega,?_,fun p hp=>?_⟩
  ·rw [sizeLine_eq,List.length_singleton];omega
  ·rw [el]
   have s2:zbj H2 (upd H2 p (.lst (List.replicate k.toNat x))):=zbj.upd hp
   have fx2:Fz K (upd H2 p (.lst (List.replicate k.toNat x))) dx x:=((fx.mono (Fzn.of s0)).mono (st2.fzn (rel1.same s0))).mono (Fzn.of s2)
   refine q3.new rel2 s2 p ?_ ⟨_,zap,?_⟩
   ·cases e0:H p with
    | none=>rfl
    | some o =>
     by_cases mm:MA ρ σ p
     ·obtain ⟨o',e',_⟩:=rel2.zbe (st2.ma.mp (st1.ma.mp mm))
      rw [hp] at e';cases e'
     ·have e1:=s0 p o (st1.kp p o e0 mm)
      rw [st2.kp p o e1 fun z=>mm (st1.ma.mpr z)] at hp;cases hp
   ·have:∀ n:Nat,zak K (upd H2 p (.lst (List.replicate k.toNat x))) (List.replicate n dx) (List.replicate n x):=fun n=>by
     induction n with
     | zero=>simp [zak]
     | succ n ih=>rw [List.replicate_succ,List.replicate_succ];simp only [zak];exact ⟨x,_,rfl,fx2,ih⟩
    exact this _
 | _=>exact q2.elim
theorem zq2 {elt tg iter:Expr} {ifs:List Expr} {scope:Scope} {it:IF} {g:GF} {t:TF} {dom:List Nat} {x0:Str} {pos' spos:Pos} (i0:Nat) (L:List Str) (ix:List Nat) (M:List Str) (hN:X.N.Nodup) (hii:X.N[i0]?=some x0) (hx0:X.env.scope.names.lookup x0=some .local)
  (hsw:swapsWith (.ListComp elt [⟨tg,iter,ifs,0⟩] scope pos) (some (.Name x0 pos')) spos.line X.env=pure true) (hc:X.calm=true) (hk:scope.kind=.function)
  (hd:zb7 X.env.scope scope X.N ix=true) (hM:M=L ++ ix.map fun i=>X.N.getD i "") (nd:ix.Nodup) (hi:PVI K X tg iter it)
  (hg:∀ C s₃ H₃ fp,PVG K (zar X M scope C s₃ H₃ fp) dom tg g) (hgo:dom.all (fun i=>decide (i < L.length))=true)
  (ht:∀ C s₃ H₃ fp,zs7 K (zar X M scope C s₃ H₃ fp) ifs t) (he:∀ C s₃ H₃ fp,PV K (zar X M scope C s₃ H₃ fp) elt f)
  (hs:∀ x,foldedSetIterable iter X.env x=pure x:=by intro _;rfl) :
  PSV K X (.Assign [.Name x0 pos'] (.ListComp elt [⟨tg,iter,ifs,0⟩] scope pos) spos) (zcy i0 (zaV L.length ix it g t f)):=fun hK C =>
 (zty i0 L ix M hN hii hx0 hsw hc hk hd hM (hi hK) (fun C s₃ H₃ fp=>hg C s₃ H₃ fp hK) (zjX hgo) (fun C s₃ H₃ fp=>ht C s₃ H₃ fp hK) (fun C s₃ H₃ fp=>he C s₃ H₃ fp hK) hs).weak fun Dn σ H q=>zsR nd hgo σ H _ (zv8 Dn σ H q)
end
end FL
namespace FL
open PySem L2 PySem.Spec
open PyProof.Rows hiding St
variable [Cs]
structure Blt (mg:Str->Option Value):Prop where
 zn0:mg "abs"=none
 zaG:mg "isinstance"=none
 zps:mg "int"=none
 zkM:mg "bool"=none
 zfT:mg "tuple"=none
 zgi:mg "list"=none
 zvO:mg "str"=none
 zeX:mg "len"=none
 zrz:mg "all"=none
 zdd:mg "range"=none
 zkL:mg "zip"=none
 zcq:mg "enumerate"=none
 zvQ:mg "max"=none
 zvP:mg "min"=none
 zvN:mg "sum"=none
 zjG:mg "sorted"=none
 zsy:mg "dict"=none
 zvR:mg "any"=none
namespace Bt
theorem abs:bootBuiltins "abs"=some (.builtin "abs"):=by decide +kernel
theorem len:bootBuiltins "len"=some (.builtin "len"):=by decide +kernel
theorem all:bootBuiltins "all"=some (.builtin "all"):=by decide +kernel
theorem sorted:bootBuiltins "sorted"=some (.builtin "sorted"):=by decide +kernel
theorem int:bootBuiltins "int"=some (.type "int"):=by decide +kernel
theorem bool:bootBuiltins "bool"=some (.type "bool"):=by decide +kernel
theorem tuple:bootBuiltins "tuple"=some (.type "tuple"):=by decide +kernel
theorem list:bootBuiltins "list"=some (.type "list"):=by decide +kernel
end Bt
theorem zo0 {K:PySem.W.Frag} {X:Cx} {st:List Stmt} {f:SF} (h:zlO K X.nox st f):zlO K X st f:=fun hK C=>PSs.nox (h hK C)
theorem zvV {K:PySem.W.Frag} {G:List D->R D} {H:Hp} {a:Addr} {ns:List Int} (h:G [.list (ns.map PyData.int)]=.ok (.bool true)) (hO:∀ b xs,H b ≠ some (.lst xs)) (hC:zuB H) (hS:SqL K H a (ns.map V.int)):spP K 1 false G [.ref a] H (fun v _=>v=.bl true) fun _ _ _=>False:=by
 refine ⟨[.list (ns.map PyData.int)],rfl,hC,?_,.bool true,h,fun v H' _ fz=>by simpa [Fz] using fz⟩
 simp only [zak,Fz]
 refine ⟨.ref a,[],rfl,⟨a,ns.map V.int,rfl,?_,zak.ofInts ns⟩,rfl⟩
 rcases hS with (hS | ⟨o,hS⟩) | hS
 ·exact absurd hS (hO a _)
 ·exact .inl ⟨o,hS⟩
 ·exact .inr hS
end FL
namespace FL
open PySem L2 PySem.Spec
open PyProof.Rows hiding St
variable [Cs]
end FL
namespace FL
open PySem L2 PySem.Spec
open PyProof.Rows hiding St
variable [Cs]
theorem zpm {α:Type} {o:Option α} {a:α} (h:R.of o=.ok a):o=some a:=by
 cases o with
 | none=>cases h
 | some b=>cases h;rfl
theorem zv3 (k:Key):kOf (kD k)=some k:=by cases k <;> rfl
theorem zpA:∀ ks:List Key,zt0 (ks.map kD)=some ks
 | []=>rfl
 | k :: r=>by simp only [List.map_cons,zt0,zv3,Option.bind_some,zpA r,Option.map_some]
theorem zfW (q:List Key):keyOf (zqK q)=some (.inl q):=by simp only [zqK,keyOf,zpA,Option.map_some]
theorem zfX (q:Key):keyOf (kD q)=some (.inr q):=by cases q <;> rfl
theorem zt4 {d:D} {k:Key} (h:kOf d=some k):d=kD k:=by
 cases d with
 | int i=>cases h;rfl
 | str i=>cases h;rfl
 | _=>cases h
theorem zm8:∀ {ds:List D} {ks:List Key},zt0 ds=some ks->ds=ks.map kD
 | [],ks,h=>by simp only [zt0,Option.some.injEq] at h;subst h;rfl
 | d :: r,ks,h=>by
  simp only [zt0,Option.bind_eq_some_iff,Option.map_eq_some_iff] at h
  obtain ⟨k,e,ks',e',rfl⟩:=h
  rw [zt4 e,zm8 e'];rfl
section
variable {K:PySem.W.Frag} {H H':Hp}
theorem zuh {k:Key}:Fz K H (kD k) (kV k):=by cases k <;> simp [kD,kV,Fz]
theorem zxt {k:Key} {v:V} (h:Fz K H (kD k) v):v=kV k:=by cases k <;> simpa [kD,kV,Fz] using h
theorem zni:∀ ks:List Key,zak K H (ks.map kD) (ks.map kV)
 | []=>by simp [zak]
 | k :: r=>by simp only [List.map_cons,zak];exact ⟨_,_,rfl,zuh,zni r⟩
theorem zsM:∀ {ks:List Key} {vs:List V},zak K H (ks.map kD) vs->vs=ks.map kV
 | [],vs,h=>by simpa [zak] using h
 | k :: r,vs,h=>by
  simp only [List.map_cons,zak] at h
  obtain ⟨v,t,rfl,h1,h2⟩:=h
  rw [zxt h1,zsM h2];rfl
theorem zp0 {ks:List Key} {b:Addr} (h:TAt H b (ks.map kV)):Fz K H (zqK ks) (.ref b):=by
 simp only [zqK,Fz]
 exact ⟨b,_,rfl,h,zni ks⟩
theorem zmK {k:D} {v:V} {q:KQ} (f:Tp K H k v) (e:keyOf k=some q):(∃ ks b,q=.inl ks/\k=zqK ks/\v=.ref b/\TAt H b (ks.map kV))\/∃ k1,q=.inr k1/\k=kD k1/\v=kV k1:=by
 cases k with
 | tuple xs =>
  simp only [keyOf,Option.map_eq_some_iff] at e
  obtain ⟨ks,e1,rfl⟩:=e
  have:=zm8 e1
  subst this
  obtain ⟨b,vs,rfl,tb,fa⟩:=(show ∃ a vs,v=.ref a/\TAt H a vs/\zak K H (ks.map kD) vs by simpa [Tp,Fz] using f)
  rw [zsM fa] at tb
  exact .inl ⟨ks,b,rfl,rfl,rfl,tb⟩
 | int i=>cases e;exact .inr ⟨.inl i,rfl,rfl,by simpa [Tp,Fz,kV] using f⟩
 | str i=>cases e;exact .inr ⟨.inr i,rfl,rfl,by simpa [Tp,Fz,kV] using f⟩
 | _=>cases e
theorem zsD:∀ {kvs:List (D × D)} {kk:List (List Key × V)},zb8 K H kvs kk->∀ q:List Key,(look kvs (.inl q)=none/\zlL kk q=none)\/∃ d v,look kvs (.inl q)=some d/\zlL kk q=some v/\Fz K H d v
 | [],kk,h,q=>by simp only [zb8] at h;subst h;exact .inl ⟨rfl,rfl⟩
 | (k,d) :: r,kk,h,q=>by
  simp only [zb8] at h
  obtain ⟨q',v,t,rfl,rfl,f,h2⟩:=h
  by_cases c:q'=q
  ·subst c
   exact .inr ⟨d,v,by simp [look,List.find?_cons,zfW],zfa rfl,f⟩
  ·have e1:look ((zqK q',d) :: r) (.inl q)=look r (.inl q):=by simp [look,List.find?_cons,zfW,c]
   rw [e1,zfb (p:=(q',v)) c]
   exact zsD h2 q
theorem zsE:∀ {kvs:List (D × D)} {kk:List (Key × V)},zb9 K H kvs kk->∀ q:Key,(look kvs (.inr q)=none/\zlL kk q=none)\/∃ d v,look kvs (.inr q)=some d/\zlL kk q=some v/\Fz K H d v
 | [],kk,h,q=>by simp only [zb9] at h;subst h;exact .inl ⟨rfl,rfl⟩
 | (k,d) :: r,kk,h,q=>by
  simp only [zb9] at h
  obtain ⟨q',v,t,rfl,rfl,f,h2⟩:=h
  by_cases c:q'=q
  ·subst c
   exact .inr ⟨d,v,by simp [look,List.find?_cons,zfX],zfa rfl,f⟩
  ·have e1:look ((kD q',d) :: r) (.inr q)=look r (.inr q):=by simp [look,List.find?_cons,zfX,c]
   rw [e1,zfb (p:=(q',v)) c]
   exact zsE h2 q
theorem zsK {kvs:List (D × D)} {kk:List (List Key × V)} (h:zb8 K H kvs kk) (c:keysOk false kvs=true):kvs=[]/\kk=[]:=by
 cases kvs with
 | nil=>simp only [zb8] at h;exact ⟨rfl,h⟩
 | cons p r =>
  obtain ⟨k,d⟩:=p
  simp only [zb8] at h
  obtain ⟨q',v,t,rfl,rfl,f,h2⟩:=h
  simp [keysOk,zfW,form] at c
theorem zsL {kvs:List (D × D)} {kk:List (Key × V)} (h:zb9 K H kvs kk) (c:keysOk true kvs=true):kvs=[]/\kk=[]:=by
 cases kvs with
 | nil=>simp only [zb9] at h;exact ⟨rfl,h⟩
 | cons p r =>
  obtain ⟨k,d⟩:=p
  simp only [zb9] at h
  obtain ⟨q',v,t,rfl,rfl,f,h2⟩:=h
  simp [keysOk,zfX,form] at c
theorem zja {d k:D} {x:List (D × D) × KQ} (h:dictAt d k=.ok x):d=.dict x.1/\keyOf k=some x.2/\keysOk (form x.2) x.1=true:=by
 cases d with
 | dict kvs =>
  obtain ⟨q,e1,h⟩:=zat (show (R.of (keyOf k)).bind _=.ok x from h)
  obtain ⟨c,h⟩:=zbi h
  cases h
  exact ⟨rfl,zpm e1,c⟩
 | _=>cases h
theorem zwq {d k:D} {x y:V} {o:Option D} (t:Tp K H d x) (f:Tp K H k y) (e:zhN d k=.ok o) :
  ∃ a r,x=.ref a/\IsD H a/\DG H a y r/\((o=none/\r=none)\/∃ d v,o=some d/\r=some v/\Fz K H d v):=by
 obtain ⟨⟨kvs,q⟩,e1,e⟩:=zat (show (dictAt d k).bind _=.ok o from e)
 cases e
 obtain ⟨rfl,ek,c⟩:=zja e1
 obtain ⟨a,ea,tt⟩:=(show ∃ a,x=.ref a/\((∃ kk,Rd H a (.dT kk)/\zb8 K H kvs kk)\/∃ kk,Rd H a (.dK kk)/\zb9 K H kvs kk) from t)
 subst ea
 rcases tt with ⟨kk,rd,h⟩ | ⟨kk,rd,h⟩
 ·refine ⟨a,?_⟩
  rcases zmK f ek with ⟨ks,b,rfl,rfl,rfl,tb⟩ | ⟨k1,rfl,rfl,rfl⟩
  ·refine ⟨zlL kk ks,rfl,.inr ⟨kk,rd⟩,.inl (.inr ⟨kk,ks,b,rd,rfl,tb,rfl⟩),?_⟩
   rcases zsD h ks with ⟨z1,z2⟩ | ⟨d,v,z1,z2,z3⟩
   ·exact .inl ⟨z1,z2⟩
   ·exact .inr ⟨d,v,z1,z2,z3⟩
  ·obtain ⟨rfl,rfl⟩:=zsK h c
   exact ⟨none,rfl,.inr ⟨[],rd⟩,.inr (.inr ⟨rfl,rd,k1,rfl⟩),.inl ⟨rfl,rfl⟩⟩
 ·refine ⟨a,?_⟩
  rcases zmK f ek with ⟨ks,b,rfl,rfl,rfl,tb⟩ | ⟨k1,rfl,rfl,rfl⟩
  ·obtain ⟨rfl,rfl⟩:=zsL h c
   exact ⟨none,rfl,.inl ⟨[],rd⟩,.inr (.inl ⟨rfl,rd,b,ks,rfl,tb⟩),.inl ⟨rfl,rfl⟩⟩
  ·refine ⟨zlL kk k1,rfl,.inl ⟨kk,rd⟩,.inl (.inl ⟨kk,k1,rd,rfl,rfl⟩),?_⟩
   rcases zsE h k1 with ⟨z1,z2⟩ | ⟨d,v,z1,z2,z3⟩
   ·exact .inl ⟨z1,z2⟩
   ·exact .inr ⟨d,v,z1,z2,z3⟩
theorem zwv:∀ {kvs:List (D × D)} {kk:List (List Key × V)},zb8 K H kvs kk->∀ q:List Key,(kvs.any fun kv=>decide (keyOf kv.1=some (.inl q)))=kk.any fun kv=>decide (kv.1=q)
 | [],kk,h,q=>by simp only [zb8] at h;subst h;rfl
 | (k,d) :: r,kk,h,q=>by
  simp only [zb8] at h
  obtain ⟨q',v,t,rfl,rfl,f,h2⟩:=h
  simp only [List.any_cons,zwv h2 q,zfW,Option.some.injEq,Sum.inl.injEq]
theorem zww:∀ {kvs:List (D × D)} {kk:List (Key × V)},zb9 K H kvs kk->∀ q:Key,(kvs.any fun kv=>decide (keyOf kv.1=some (.inr q)))=kk.any fun kv=>decide (kv.1=q)
 | [],kk,h,q=>by simp only [zb9] at h;subst h;rfl
 | (k,d) :: r,kk,h,q=>by
  simp only [zb9] at h
  obtain ⟨q',v,t,rfl,rfl,f,h2⟩:=h
  simp only [List.any_cons,zww h2 q,zfX,Option.some.injEq,Sum.inr.injEq]
theorem zu3 {d:D} {v:V} (f:Fz K H d v):∀ {kvs:List (D × D)} {kk:List (List Key × V)},zb8 K H kvs kk->∀ q:List Key,zb8 K H (kvs.map fun kv=>if keyOf kv.1=some (.inl q) then (kv.1,d) else kv) (kk.map fun kv=>if kv.1=q then (kv.1,v) else kv)
 | [],kk,h,q=>by simp only [zb8] at h;subst h;simp [zb8]
 | (k,d0) :: r,kk,h,q=>by
  simp only [zb8] at h
  obtain ⟨q',v0,t,rfl,rfl,f0,h2⟩:=h
  have ih:=zu3 f h2 q
  by_cases c:q'=q
  ·subst c
   simp only [List.map_cons,zfW,if_true,zb8]
   exact ⟨q',v,_,rfl,rfl,f,ih⟩
  ·simp only [List.map_cons,zfW,Option.some.injEq,Sum.inl.injEq,if_neg c,zb8]
   exact ⟨q',v0,_,rfl,rfl,f0,ih⟩
theorem zu4 {d:D} {v:V} (f:Fz K H d v):∀ {kvs:List (D × D)} {kk:List (Key × V)},zb9 K H kvs kk->∀ q:Key,zb9 K H (kvs.map fun kv=>if keyOf kv.1=some (.inr q) then (kv.1,d) else kv) (kk.map fun kv=>if kv.1=q then (kv.1,v) else kv)
 | [],kk,h,q=>by simp only [zb9] at h;subst h;simp [zb9]
 | (k,d0) :: r,kk,h,q=>by
  simp only [zb9] at h
  obtain ⟨q',v0,t,rfl,rfl,f0,h2⟩:=h
  have ih:=zu4 f h2 q
  by_cases c:q'=q
  ·subst c
   simp only [List.map_cons,zfX,if_true,zb9]
   exact ⟨q',v,_,rfl,rfl,f,ih⟩
  ·simp only [List.map_cons,zfX,Option.some.injEq,Sum.inr.injEq,if_neg c,zb9]
   exact ⟨q',v0,_,rfl,rfl,f0,ih⟩
theorem zwt {d:D} {v:V} (f:Fz K H d v) (q:List Key):∀ {kvs:List (D × D)} {kk:List (List Key × V)},zb8 K H kvs kk->zb8 K H (kvs ++ [(zqK q,d)]) (kk ++ [(q,v)])
 | [],kk,h=>by simp only [zb8] at h;subst h;simp only [List.nil_append,zb8];exact ⟨q,v,[],rfl,rfl,f,rfl⟩
 | (k,d0) :: r,kk,h=>by
  simp only [zb8] at h
  obtain ⟨q',v0,t,rfl,rfl,f0,h2⟩:=h
  simp only [List.cons_append,zb8]
  exact ⟨q',v0,_,rfl,rfl,f0,zwt f q h2⟩
theorem zwu {d:D} {v:V} (f:Fz K H d v) (q:Key):∀ {kvs:List (D × D)} {kk:List (Key × V)},zb9 K H kvs kk->zb9 K H (kvs ++ [(kD q,d)]) (kk ++ [(q,v)])
 | [],kk,h=>by simp only [zb9] at h;subst h;simp only [List.nil_append,zb9];exact ⟨q,v,[],rfl,rfl,f,rfl⟩
 | (k,d0) :: r,kk,h=>by
  simp only [zb9] at h
  obtain ⟨q',v0,t,rfl,rfl,f0,h2⟩:=h
  simp only [List.cons_append,zb9]
  exact ⟨q',v0,_,rfl,rfl,f0,zwu f q h2⟩
theorem zw8 {d:D} {v:V} {kvs:List (D × D)} {kk:List (List Key × V)} (h:zb8 K H kvs kk) (f:Fz K H d v) (q:List Key):zb8 K H (zsq kvs (zqK q) (.inl q) d) (putK kk q v):=by
 unfold zsq putK
 rw [zwv h q]
 split
 ·exact zu3 f h q
 ·exact zwt f q h
theorem zw9 {d:D} {v:V} {kvs:List (D × D)} {kk:List (Key × V)} (h:zb9 K H kvs kk) (f:Fz K H d v) (q:Key):zb9 K H (zsq kvs (kD q) (.inr q) d) (putK kk q v):=by
 unfold zsq putK
 rw [zww h q]
 split
 ·exact zu4 f h q
 ·exact zwu f q h
theorem zb8.len:∀ {kvs:List (D × D)} {kk:List (List Key × V)},zb8 K H kvs kk->kk.length=kvs.length
 | [],kk,h=>by simp only [zb8] at h;subst h;rfl
 | (k,d0) :: r,kk,h=>by
  simp only [zb8] at h
  obtain ⟨q',v0,t,rfl,rfl,f0,h2⟩:=h
  simp [h2.len]
theorem zb9.len:∀ {kvs:List (D × D)} {kk:List (Key × V)},zb9 K H kvs kk->kk.length=kvs.length
 | [],kk,h=>by simp only [zb9] at h;subst h;rfl
 | (k,d0) :: r,kk,h=>by
  simp only [zb9] at h
  obtain ⟨q',v0,t,rfl,rfl,f0,h2⟩:=h
  simp [h2.len]
theorem zpX {a:Addr} {u o:HO} (e:H a=some u) (ow:Own u):Fzn H (upd H a o):=fun b w eb st=>by
 rw [zau fun z=>by subst z;rw [e] at eb;cases eb;exact ow.zdA st]
 exact eb
theorem zwp {c k dv d':D} {a:Addr} {y v:V} (m:zbL K H a c) (f:Fz K H k y) (g:Fz K H dv v) (e:zqd c k dv=.ok d'):∃ o,DP H a y v (upd H a o)/\zbL K (upd H a o) a d':=by
 obtain ⟨⟨kvs,q⟩,e1,e⟩:=zat (show (dictAt c k).bind _=.ok d' from e)
 obtain ⟨l,e⟩:=zbi e
 cases e
 obtain ⟨rfl,ek,c⟩:=zja e1
 have hl:kvs.length + 1<=sizeLine:=Nat.le_trans (zjO l) zcF
 rcases (show (∃ kk,H a=some (.dT kk)/\zb8 K H kvs kk)\/∃ kk,H a=some (.dK kk)/\zb9 K H kvs kk from m) with ⟨kk,rd,h⟩ | ⟨kk,rd,h⟩
 ·have fz:∀ o,Fzn H (upd H a o):=fun o=>zpX rd trivial
  rcases zmK f.tp ek with ⟨ks,b,rfl,rfl,rfl,tb⟩ | ⟨k1,rfl,rfl,rfl⟩
  ·exact ⟨.dT (putK kk ks v),.inl (.inr ⟨kk,ks,b,rd,rfl,tb,by rw [h.len];omega,rfl⟩),.inl ⟨_,zap,(zw8 h g ks).mono (fz _)⟩⟩
  ·obtain ⟨rfl,rfl⟩:=zsK h c
   exact ⟨.dK [(k1,v)],.inr (.inr ⟨k1,rd,rfl,rfl⟩),.inr ⟨_,zap,by
    simp only [zsq,List.any_nil,Bool.false_eq_true,if_false,List.nil_append,zb9]
    exact ⟨k1,v,[],rfl,rfl,g.mono (fz _),rfl⟩⟩⟩
 ·have fz:∀ o,Fzn H (upd H a o):=fun o=>zpX rd trivial
  rcases zmK f.tp ek with ⟨ks,b,rfl,rfl,rfl,tb⟩ | ⟨k1,rfl,rfl,rfl⟩
  ·obtain ⟨rfl,rfl⟩:=zsL h c
   exact ⟨.dT [(ks,v)],.inr (.inl ⟨ks,b,rd,rfl,tb,rfl⟩),.inl ⟨_,zap,by
    simp only [zsq,List.any_nil,Bool.false_eq_true,if_false,List.nil_append,zb8]
    exact ⟨ks,v,[],rfl,rfl,g.mono (fz _),rfl⟩⟩⟩
  ·exact ⟨.dK (putK kk k1 v),.inl (.inl ⟨kk,k1,rd,rfl,by rw [h.len];omega,rfl⟩),.inr ⟨_,zap,(zw9 h g k1).mono (fz _)⟩⟩
end
end FL
namespace FL
open PySem L2 PySem.Spec
open PyProof.Rows hiding St
variable [Cs]
section
variable {X:Cx}
theorem ztQ (hu:X.A.units + 1 < cLine):OpR X (compareOp .NotIn) (rD X.K zuE):=by
 intro pins s σ H x y v u Q I rx ry h
 obtain ⟨dx,dy,d,tx,ty,e,q⟩:=h
 obtain ⟨o,e1,e⟩:=zat (show (zhN dy dx).bind _=.ok d from e)
 cases e
 obtain ⟨a,r,rfl,_,g,rel⟩:=zwq ty tx e1
 cases ry
 have hb:o.isSome=r.isSome:=by
  rcases rel with ⟨rfl,rfl⟩ | ⟨_,_,rfl,rfl,_⟩ <;> rfl
 exact zrV hu I g rx fun s3 I3=>⟨.bl (!r.isSome),H,I3,rfl,q _ H (zbj.refl _) (by rw [hb];simp [Fz])⟩
theorem zt7 (hu:X.A.units + 1 < cLine):IxR X (rD X.K zgn):=by
 intro value slice pins s σ H x y v u Q I rx ry h hs
 obtain ⟨dx,dy,d,tx,ty,e,q⟩:=h
 obtain ⟨o,e1,e⟩:=zat (show (zhN dx dy).bind _=.ok d from e)
 have eo:=zpm e
 subst eo
 obtain ⟨a,r,rfl,_,g,rel⟩:=zwq tx ty e1
 cases rx
 rcases rel with ⟨z,_⟩ | ⟨d',w,z,rfl,fz⟩
 ·cases z
 cases z
 rcases g with g | ⟨z,_⟩ | ⟨z,_⟩
 ·have hT:=zmr I g
  have h2:wpAny (model X.prog X.w) X.A (getItem (.ref a) u) (EP X pins σ Q) X.xe s:=zqf hu I g ry fun w' s3 I3 rw'=>⟨w,H,I3,rw',q w H (zbj.refl _) fz⟩
  unfold subscriptTail
  refine wpAny_bind ?_
  rw [getitemInPython_of_ne hT.not_modules]
  refine wpAny_bind (wpAny_specialOf hT PySem.F.slot_dict_getitem.lookup ?_)
  have fin:wpAny (model X.prog X.w) X.A (subscripted slice false (.ref a) u) (fun r s₃=>wpAny (model X.prog X.w) X.A (letTemporaryGo value (.ref a) r >>= fun _=>pure r) (EP X pins σ Q) X.xe s₃) X.xe s:=by
   rw [hs]
   exact wpAny_operating (wpAny_mono h2 (fun r s₃ h₃=>wpAny_bind (wpAny_letTemporaryGo (wpAny_pure h₃))) fun _ _ x=>x)
  first
   | exact wpAny_pure (wpAny_bind fin)
   | exact wpAny_bind (wpAny_pure (wpAny_bind fin))
   | exact wpAny_bind fin
 ·cases z
 ·cases z
end
section
variable {K:PySem.W.Frag} {X:Cx} {o e e':Expr} {fd fk fx f:EF} {apos cpos pos:Pos}
theorem zq4 {y:Str} {py ps':Pos} {ke:Expr} {k:EF} (i:Nat) (hu:X.A.units + 1 < cLine) (ha:PE X (.Name y py) (ziv i)) (he:PV K X e f) (hk:PV K X ke k)
  (hs:swapsWith e (some (.Subscript (.Name y py) ke ps')) pos.line X.env=pure false:=by rfl):PSV K X (.Assign [.Subscript (.Name y py) ke ps'] e pos) (zrW i k f):=fun hK C=>by
 subst hK
 refine (ztA hu ha (hk rfl) (he rfl) hs).weak fun Dn σ H=>?_
 rintro ⟨ρ,rel,g⟩
 refine zpV rel g fun dv ρ1 v H1 rel1 st1 fv g1=>?_
 obtain ⟨d,ed,g2⟩:=g1.bnd
 obtain ⟨a,at0,m0⟩:=rel1.rel.zpt ed
 refine ⟨.ref a,at0.2,zpV rel1 g2 fun dk ρ2 kv H2 rel2 st2 fk g3=>?_⟩
 obtain ⟨c,ec,g4⟩:=g3.bnd
 obtain ⟨d',ed',g5⟩:=g4.bnd
 obtain ⟨o,dp,mm⟩:=zwp (rel2.rel.again ec at0) fk (fv.mono (st2.fzn rel1.rel)) ed'
 obtain ⟨a2,at2,_⟩:=rel2.rel.zpt ec
 have:=at0.2.symm.trans at2.2
 cases this
 exact ⟨a,_,rfl,dp,zud rel2 at2 mm g5⟩
theorem zo4:PVN K X (.Dict [] [] pos) znp:=fun hK=>zrn.weak fun σ H Q=>by
 rintro ⟨ρ,rel,q⟩ p hp
 exact q.new rel (zbj.upd hp) p hp (.inl ⟨[],zap,by simp [zb8]⟩)
theorem zvp {tg l:Expr} {tl:TE} (hl:PE X l tl):PI X tg l (fun σ H R=>tl σ H fun x H1=>∃ d o,x=.ref d/\((∃ kvs,H1 d=some (.frz o (.dT kvs))/\R (zxJ d o kvs) H1)\/∃ kvs,H1 d=some (.frz o (.dK kvs))/\R (Itd d o kvs) H1)):=by
 intro pins s σ H R I h
 refine thn (hl pins s σ H _ I h) fun v s1 ⟨x,H1,I1,r1,q1⟩=>?_
 obtain ⟨d,o,e,q1⟩:=q1
 subst e
 cases r1
 rcases q1 with ⟨kvs,e,q⟩ | ⟨kvs,e,q⟩
 ·obtain ⟨e0,_,_,_,_,o',es,ep,e',_,dd,_⟩:=id (show zbx X.prog X.w H1 s1.heap d (.frz o (.dT kvs)) from I1.hok d _ e)
  rw [e0] at e'
  cases e'
  obtain ⟨xs,kt,da,he,sy⟩:=zmo (I1.hok d _ e) dd
  refine zv5 sy da ?_
  refine ⟨s1.heap.objs.size,[s1.heap.objs.size],_,_,H1,rfl,I1.kept (t':=s1.toks) fun b o e=>Heap.get?_push_of_some _ e,znO d _ dd,⟨_,Heap.get?_push_size _ rfl,rfl,rfl⟩,fun b hb=>?_,q⟩
  have e:b=s1.heap.objs.size:=by simpa using hb
  subst e
  exact I1.zrO (Nat.le_refl _) (I1.hok.fresh (Nat.le_refl _))
 ·obtain ⟨e0,_,_,vs0,_,o',es,ep,e',_,dd,_⟩:=id (show zbx X.prog X.w H1 s1.heap d (.frz o (.dK kvs)) from I1.hok d _ e)
  rw [e0] at e'
  cases e'
  obtain ⟨vs,kv,da,sy⟩:=zp2 (I1.hok d _ e) dd
  refine wpAny_pyIter_dict sy da ?_
  refine ⟨s1.heap.objs.size,[s1.heap.objs.size],_,_,H1,rfl,I1.kept (t':=s1.toks) fun b o e=>Heap.get?_push_of_some _ e,zoD d _ dd,⟨_,Heap.get?_push_size _ rfl,rfl,by rw [kv.len];rfl⟩,fun b hb=>?_,q⟩
  have e:b=s1.heap.objs.size:=by simpa using hb
  subst e
  exact I1.zrO (Nat.le_refl _) (I1.hok.fresh (Nat.le_refl _))
theorem zb8.at {H:Hp}:∀ {kvs:List (D × D)} {kk:List (List Key × V)} {i:Nat} {d:D},zb8 K H kvs kk->(kvs.map (·.1))[i]?=some d->∃ q v,kk[i]?=some (q,v)/\d=zqK q
 | [],kk,i,d,h,e=>by simp at e
 | (k,d0) :: r,kk,i,d,h,e=>by
  simp only [zb8] at h
  obtain ⟨q',v0,t,rfl,rfl,f0,h2⟩:=h
  cases i with
  | zero=>simp at e;exact ⟨q',v0,rfl,e.symm⟩
  | succ i =>
   obtain ⟨q,v,z1,z2⟩:=zb8.at h2 (i:=i) (by simpa using e)
   exact ⟨q,v,by simpa using z1,z2⟩
theorem zb9.at {H:Hp}:∀ {kvs:List (D × D)} {kk:List (Key × V)} {i:Nat} {d:D},zb9 K H kvs kk->(kvs.map (·.1))[i]?=some d->∃ q v,kk[i]?=some (q,v)/\d=kD q
 | [],kk,i,d,h,e=>by simp at e
 | (k,d0) :: r,kk,i,d,h,e=>by
  simp only [zb9] at h
  obtain ⟨q',v0,t,rfl,rfl,f0,h2⟩:=h
  cases i with
  | zero=>simp at e;exact ⟨q',v0,rfl,e.symm⟩
  | succ i =>
   obtain ⟨q,v,z1,z2⟩:=zb9.at h2 (i:=i) (by simpa using e)
   exact ⟨q,v,by simpa using z1,z2⟩
theorem zta {H:Hp} {a:Addr} {o:Obj} {kvs:List (D × D)} {kk:List (List Key × V)} (h:H a=some (.frz o (.dT kk))) (f:zb8 K H kvs kk):Walk K (zxJ a o kk) (kvs.map (·.1)) H:=by
 refine ⟨fun i d H' fz e=>?_,fun i H' fz e=>⟨fz _ _ h trivial,by rw [f.len];simpa using e⟩⟩
 obtain ⟨q,v,e1,rfl⟩:=f.at e
 refine ⟨⟨fz _ _ h trivial,(List.getElem?_eq_some_iff.mp e1).1⟩,fun x H'' y=>?_⟩
 obtain ⟨rfl,k,v',b,e2,rfl,tb⟩:=y
 rw [e1] at e2
 cases e2
 exact ⟨zbj.refl _,zp0 tb⟩
theorem ztb {H:Hp} {a:Addr} {o:Obj} {kvs:List (D × D)} {kk:List (Key × V)} (h:H a=some (.frz o (.dK kk))) (f:zb9 K H kvs kk):Walk K (Itd a o kk) (kvs.map (·.1)) H:=by
 refine ⟨fun i d H' fz e=>?_,fun i H' fz e=>⟨fz _ _ h trivial,by rw [f.len];simpa using e⟩⟩
 obtain ⟨q,v,e1,rfl⟩:=f.at e
 refine ⟨⟨fz _ _ h trivial,(List.getElem?_eq_some_iff.mp e1).1⟩,fun x H'' y=>?_⟩
 obtain ⟨rfl,k,v',e2,rfl⟩:=y
 rw [e1] at e2
 cases e2
 exact ⟨zbj.refl _,zuh⟩
theorem zgT {tg:Expr} (he:PV K X e f):PVI K X tg e (iD f):=fun hK=>by
 subst hK
 refine (zvp (he rfl)).weak fun σ H R=>?_
 rintro ⟨ρ,rel,q⟩
 refine goV rel q fun dx ρ1 x H1 rel1 st1 fx q1=>?_
 obtain ⟨items,ei,q2⟩:=q1.zgO
 cases dx with
 | dict kvs =>
  cases ei
  simp only [Fz] at fx
  obtain ⟨a,o,rfl,h⟩:=fx
  rcases h with ⟨kk,h1,h2⟩ | ⟨kk,h1,h2⟩
  ·exact ⟨a,o,rfl,.inl ⟨kk,h1,q2.now rel1 _ (zta h1 h2)⟩⟩
  ·exact ⟨a,o,rfl,.inr ⟨kk,h1,q2.now rel1 _ (ztb h1 h2)⟩⟩
 | _=>cases ei
end
end FL
namespace FL
open PySem L2 PySem.Spec
open PyProof.Rows hiding St
variable [Cs]
theorem zkB {α:Type} {le:α->α->Prop}:∀ {l1 l2:List α},l1.Perm l2->l1.Pairwise le->l2.Pairwise le->(∀ a ∈ l1,∀ b ∈ l1,le a b->le b a->a=b)->l1=l2
 | [],l2,h,_,_,_=>(List.nil_perm.mp h).symm
 | a :: r1,[],h,_,_,_=>by have:=h.length_eq;simp at this
 | a :: r1,b :: r2,h,p1,p2,an=>by
  rw [List.pairwise_cons] at p1 p2
  have e:a=b:=by
   have ha:a ∈ b :: r2:=h.mem_iff.mp (List.mem_cons_self ..)
   have hb:b ∈ a :: r1:=h.mem_iff.mpr (List.mem_cons_self ..)
   rcases List.mem_cons.mp ha with e | ha'
   ·exact e
   rcases List.mem_cons.mp hb with e | hb'
   ·exact e.symm
   exact an a (List.mem_cons_self ..) b (List.mem_cons_of_mem _ hb') (p1.1 b hb') (p2.1 a ha')
  subst e
  rw [zkB ((List.perm_cons a).mp h) p1.2 p2.2 fun x hx y hy=>an x (List.mem_cons_of_mem _ hx) y (List.mem_cons_of_mem _ hy)]
section
variable {K:PySem.W.Frag} {X:Cx} {H:Hp}
theorem zsH:∀ {kvs:List (D × D)} {kk:List (List Key × V)} {xs:List V},zb8 K H kvs kk->KTs H kk xs->zak K H (kvs.map (·.1)) xs
 | [],kk,xs,h,t=>by
  simp only [zb8] at h
  subst h
  have:xs=[]:=t
  subst this
  simp [zak]
 | (k,d) :: r,kk,xs,h,t=>by
  simp only [zb8] at h
  obtain ⟨q,v,t',rfl,rfl,f,h2⟩:=h
  obtain ⟨b,u,rfl,tb,t2⟩:=t
  simp only [List.map_cons,zak]
  exact ⟨_,_,rfl,zp0 tb,zsH h2 t2⟩
theorem zsJ:∀ {kvs:List (D × D)} {kk:List (Key × V)},zb9 K H kvs kk->zak K H (kvs.map (·.1)) (kk.map fun kv=>kV kv.1)
 | [],kk,h=>by simp only [zb9] at h;subst h;simp [zak]
 | (k,d) :: r,kk,h=>by
  simp only [zb9] at h
  obtain ⟨q,v,t',rfl,rfl,f,h2⟩:=h
  simp only [List.map_cons,zak]
  exact ⟨_,_,rfl,zuh,zsJ h2⟩
theorem zrT {kvs:List (D × D)} {d:Addr} {xs:List V} (h:Fz K H (.dict kvs) (.ref d)) (t:zsh H d xs):zak K H (kvs.map (·.1)) xs:=by
 simp only [Fz] at h
 obtain ⟨a,o,e,h⟩:=h
 cases e
 rcases h with ⟨kk,h1,h2⟩ | ⟨kk,h1,h2⟩
 ·rcases t with ⟨kk',rd,t⟩ | ⟨kk',rd,t⟩
  ·have:kk'=kk:=by
    rcases rd with z | ⟨o',z⟩
    ·rw [h1] at z;cases z
    ·rw [h1] at z;cases z;rfl
   subst this
   exact zsH h2 t
  ·rcases rd with z | ⟨o',z⟩
   ·rw [h1] at z;cases z
   ·rw [h1] at z;cases z
 ·rcases t with ⟨kk',rd,t⟩ | ⟨kk',rd,t⟩
  ·rcases rd with z | ⟨o',z⟩
   ·rw [h1] at z;cases z
   ·rw [h1] at z;cases z
  ·have:kk'=kk:=by
    rcases rd with z | ⟨o',z⟩
    ·rw [h1] at z;cases z
    ·rw [h1] at z;cases z;rfl
   subst this
   subst t
   exact zsJ h2
theorem zv9 {kvs:List (D × D)} {d:Addr} (h:Fz K H (.dict kvs) (.ref d)):IsD H d:=by
 simp only [Fz] at h
 obtain ⟨a,o,e,h⟩:=h
 cases e
 rcases h with ⟨kk,h1,h2⟩ | ⟨kk,h1,h2⟩
 ·exact .inr ⟨kk,.inr ⟨o,h1⟩⟩
 ·exact .inl ⟨kk,.inr ⟨o,h1⟩⟩
end
end FL
namespace FL
open PySem L2 PySem.Spec
open PyProof.Rows hiding St
variable [Cs]
section
variable {K:PySem.W.Frag} {X:Cx} {e ke ve:Expr} {f k v:EF} {pos p2:Pos}
theorem zvF (hu:X.A.units + 80 < cLine):OpR X (compareOp .In) (rD X.K zuF):=by
 intro pins s σ H x y v u Q I rx ry h
 obtain ⟨dx,dy,d,tx,ty,e,q⟩:=h
 cases dy with
 | list xs =>
  obtain ⟨c,e⟩:=zbi (show chk _ _=.ok d from e)
  cases e
  rw [Bool.and_eq_true] at c
  obtain ⟨as,ra⟩:=Is.reads I _ y u (ty.is (SeqAt.canLay_of_shaped c.1)) ry
  obtain ⟨bs,rb⟩:=Is.reads I _ x v (tx.is (SeqAt.canLay_of_shaped c.2)) rx
  exact SeqAt.in_list_reads ra rb (SeqAt.canLay_of_shaped c.1) (SeqAt.canLay_of_shaped c.2) (room_in_shaped c.2 (by omega)) ⟨.bl _,H,I,rfl,q _ H (zbj.refl _) (by simp [Fz])⟩
 | tuple xs =>
  obtain ⟨c,e⟩:=zbi (show chk _ _=.ok d from e)
  cases e
  rw [Bool.and_eq_true] at c
  obtain ⟨as,ra⟩:=Is.reads I _ y u (ty.is (SeqAt.canLay_of_shaped c.1)) ry
  obtain ⟨bs,rb⟩:=Is.reads I _ x v (tx.is (SeqAt.canLay_of_shaped c.2)) rx
  exact SeqAt.in_tuple_reads ra rb (SeqAt.canLay_of_shaped c.1) (SeqAt.canLay_of_shaped c.2) (room_in_shaped c.2 (by omega)) ⟨.bl _,H,I,rfl,q _ H (zbj.refl _) (by simp [Fz])⟩
 | _=>exact nomatch (show (R.bad:R D)=.ok d from e)
end
end FL
namespace FL
open PySem L2 PySem.Spec
open PyProof.Rows hiding St
def zfP (cs:List Addr) (K:PySem.W.Frag):PySem.W.Frag:=K.filter fun p=>!cs.contains p.1
theorem zes (cs:List Addr):∀ (K:PySem.W.Frag) (b:Addr),(zfP cs K).lookup b=if cs.contains b=true then none else K.lookup b
 | [],b=>by simp [zfP]
 | (c,o) :: K,b=>by
  have ih:=zes cs K b
  unfold zfP at ih ⊢
  rw [List.filter_cons]
  by_cases hc:cs.contains c=true
  ·rw [if_neg (by simp only [hc];decide),ih]
   by_cases hb:cs.contains b=true
   ·rw [if_pos hb,if_pos hb]
   ·have ne:b ≠ c:=fun z=>by rw [z] at hb;exact hb hc
    rw [if_neg hb,if_neg hb]
    simp [List.lookup_cons,show (b == c)=false from by simpa using ne]
  ·have hc':cs.contains c=false:=by simpa using hc
   rw [if_pos (by simp only [hc'];decide)]
   by_cases e:b=c
   ·subst e
    rw [if_neg hc]
    simp [List.lookup_cons]
   ·have e':(b == c)=false:=by simpa using e
    rw [List.lookup_cons,List.lookup_cons,e']
    exact ih
theorem zs0 {cs:List Addr} {K:PySem.W.Frag} {h:Heap} (x:K.In h):(zfP cs K).In h:=fun a o e=>by
 rw [zes] at e
 split at e
 ·cases e
 ·exact x a o e
def zuJ (cs:List Addr) (K:PySem.W.Frag):Prop:=∀ c ∈ cs,∃ o its n,K.lookup c=some o/\o.data=Data.seq its n
theorem znt {cs:List Addr} {K:PySem.W.Frag} (s:zuJ cs K) {b:Addr} {o:Obj} (e:K.lookup b=some o) (n:∀ its m,o.data ≠ .seq its m):(zfP cs K).lookup b=some o:=by
 rw [zes,if_neg,e]
 intro c
 obtain ⟨o',its,m,e',d⟩:=s b (by simpa using c)
 rw [e] at e'
 cases e'
 exact n _ _ d
theorem zon {cs:List Addr} {K:PySem.W.Frag} (s:zuJ cs K) {cd:Value} {q:Str} (h:PySem.W.codeIn K cd q=true):PySem.W.codeIn (zfP cs K) cd q=true:=by
 cases cd with
 | ref c =>
  unfold PySem.W.codeIn at h ⊢
  cases e:K.lookup c with
  | none=>simp only [e] at h;cases h
  | some o =>
   obtain ⟨oc,od,data,sl⟩:=o
   cases data with
   | fields vs =>
    simp only [e] at h
    simp only [znt s e fun _ _ z=>nomatch z]
    exact h
   | _=>simp only [e] at h;cases h
 | _=>cases h
theorem Fun.cut {cs:List Addr} {K:PySem.W.Frag} (s:zuJ cs K) {x q:Str} {st:Stmt} {f:Addr} {fd:FuncData} (F:Fun K x q st f fd):Fun (zfP cs K) x q st f fd:=by
 obtain ⟨⟨oc,od,kV,doc,pm,an,cdv,ct,osl,e,l,c⟩,kp⟩:=F
 have l':=znt s l fun _ _ z=>nomatch z
 refine ⟨⟨oc,od,kV,doc,pm,an,cdv,ct,osl,e,l',zon s c⟩,?_⟩
 unfold PySem.W.keepIn
 simp only [l']
theorem Has.cut {cs:List Addr} {K:PySem.W.Frag} {mg:Str->Option Value} (s:zuJ cs K) {x:Str} {st:Stmt} (h:Has K mg x st):Has (zfP cs K) mg x st:=by
 obtain ⟨f,fd,hm,F⟩:=h
 exact ⟨f,fd,hm,Fun.cut s F⟩
abbrev CL:=List (Addr × Obj × List V)
def zlN (cl:CL):Hp:=fun b=>(cl.lookup b).map fun p=>.frz p.1 (.tup p.2)
@[reducible] def zuI (cl:CL):Cs:=⟨zlN cl,fun a u h=>by
 unfold zlN at h
 rw [Option.map_eq_some_iff] at h
 obtain ⟨p,_,rfl⟩:=h
 exact ⟨_,_,rfl⟩⟩
def zlK (cl:CL) (K:PySem.W.Frag):Prop:=∀ p ∈ cl,K.lookup p.1=some p.2.1/\p.2.1.cls=.type "tuple"/\p.2.2.length<=sizeLine/\∃ (its:Array Value) (n:Nat),p.2.1.data=.seq its n/\Vals p.2.2 its.toList
theorem zlK.nil {K:PySem.W.Frag}:zlK [] K:=fun p hp=>by simp at hp
theorem zlK.cons {K:PySem.W.Frag} {a:Addr} {od:Option Addr} {its:Array Value} {n:Nat} {sl:Array (Option Value)} {xs:List V} {cl:CL} (e:K.lookup a=some ⟨.type "tuple",od,.seq its n,sl⟩) (hv:Vals xs its.toList) (hl:xs.length<=1000) (r:zlK cl K):zlK ((a,⟨.type "tuple",od,.seq its n,sl⟩,xs) :: cl) K:=fun p hp=>by
 rcases List.mem_cons.mp hp with rfl | hp
 ·exact ⟨e,rfl,Nat.le_of_lt (zoQ hl),its,n,rfl,hv⟩
 ·exact r p hp
theorem zlK.seqs {cl:CL} {K:PySem.W.Frag} (h:zlK cl K):zuJ (cl.map (·.1)) K:=fun c hc=>by
 obtain ⟨p,hp,rfl⟩:=List.mem_map.mp hc
 obtain ⟨e,_,_,its,n,d,_⟩:=h p hp
 exact ⟨_,its,n,e,d⟩
theorem mem_of_lookup {α:Type}:∀ {l:List (Addr × α)} {a:Addr} {x:α},l.lookup a=some x->(a,x) ∈ l
 | [],a,x,h=>by simp at h
 | (b,y) :: r,a,x,h=>by
  rw [List.lookup_cons] at h
  cases e:a == b with
  | true =>
   rw [e] at h
   cases h
   have:=eq_of_beq e
   subst this
   exact List.mem_cons_self ..
  | false =>
   rw [e] at h
   exact List.mem_cons_of_mem _ (mem_of_lookup h)
theorem zi7 {cl:CL} {K:PySem.W.Frag} (h:zlK cl K) {b:Addr} {u:HO} (e:zlN cl b=some u):(zfP (cl.map (·.1)) K).lookup b=none/\∃ (o:Obj) (xs:List V) (its:Array Value) (n:Nat),u=.frz o (.tup xs)/\K.lookup b=some o/\o.cls=.type "tuple"/\o.data=.seq its n/\xs.length<=sizeLine/\Vals xs its.toList:=by
 unfold zlN at e
 rw [Option.map_eq_some_iff] at e
 obtain ⟨⟨o,xs⟩,el,rfl⟩:=e
 have m:=mem_of_lookup el
 obtain ⟨h1,h2,h3,its,n,h4,h5⟩:=h _ m
 refine ⟨?_,o,xs,its,n,rfl,h1,h2,h4,h3,h5⟩
 rw [zes,if_pos]
 have:b ∈ cl.map (·.1):=List.mem_map.mpr ⟨_,m,rfl⟩
 simpa using this
theorem zpz {P:Program} {w:World} {K:PySem.W.Frag} {mg mb:Str->Option Value} {CX:CXT} {k:Nat} {fa a:Addr} {fd:FuncData} {x:Str} {sp:Sp} {s₁:Shared} {vs:List Value} {ns:List Int} {cl:CL}
  (KX:K.In s₁.heap) (hC:zlK cl K) (hns:s₁.heap.Ns mainGlobals mg) (hb:s₁.heap.Ns builtinsNs mb) (hbb:∀ x:Str,x ≠ "__name__"->mb x=bootBuiltins x) (hlim:s₁.heap.NoLimit) (hse:s₁.heap.NoSeer) (htr:P.given.tree=none) (hg:s₁.gens=#[])
  (ha:s₁.heap.get? a=some { cls:=.type "list",data:=.seq vs.toArray }) (hi:IntsAre vs ns) (hl:ns.length<=sizeLine) (hr:zcT k callerA)
  (F:∀ base:Heap,(zfP (cl.map (·.1)) K).In base->base.Ns mainGlobals mg->zkl P w (zfP (cl.map (·.1)) K) mg base CX k fa fd [x] sp) (hbind:∀ (s:Shared) (u:Value),BindsTo s fd ⟨[u],[]⟩ [(x,u)])
  (hsp:∀ H:Hp,(∀ b xs,H b ≠ some (.lst xs))->(∀ b u,zlN cl b=some u->H b=some u)->SqL (zfP (cl.map (·.1)) K) H a (ns.map V.int)->sp [.ref a] H (fun v _=>v=.bl true) fun _ _ _=>False)
  (hCX:∀ H e s',CX [] H s₁ (fun _ _ _=>False) e s'->False) :
  codeAny (model P w) callerA (.call (.ref fa) ⟨[.ref a],[]⟩) (fun r s'=>r=.ok (.ret (.bool true))/\OldK s₁.heap s'.heap/\s'.os=s₁.os/\AllBare s'.gens) s₁:=by
 have rv:=zkp hi
 have lenV:=hi.length
 have core:∀ H:Hp,(∀ b u,H b=some u->∃ o v,u=.frz o v/\o.cls ≠ .type "module"/\∀ es ep,o.data ≠ .dict es ep)->(∀ b xs,H b ≠ some (.lst xs))->(∀ b u,zlN cl b=some u->H b=some u)->SqL (zfP (cl.map (·.1)) K) H a (ns.map V.int)->HOk P w H s₁.heap->(∀ b,H b ≠ none->(zfP (cl.map (·.1)) K).lookup b=none) ->
   codeAny (model P w) callerA (.call (.ref fa) ⟨[.ref a],[]⟩) (fun r s'=>r=.ok (.ret (.bool true))/\OldK s₁.heap s'.heap/\s'.os=s₁.os/\AllBare s'.gens) s₁:=by
  intro H hO hL hcc hS hok hK
  have base_of:∀ {b:Addr} {o:Obj},s₁.heap.get? b=some o->H b=none->(zrK s₁.heap H).get? b=some o:=fun e n=>zrJ e n
  have noA:∀ {b:Addr} {o:Obj} {es:Array DictEntry} {ep:Nat},s₁.heap.get? b=some o->o.data=.dict es ep->H b=none:=fun {b o es ep} e d=>by
   cases q:H b with
   | none=>rfl
   | some u =>
    obtain ⟨o',v,rfl,_,nd⟩:=hO b u q
    obtain ⟨e',_⟩:=hok b _ q
    rw [e] at e'
    cases e'
    exact absurd d (nd es ep)
  have noM:∀ {b:Addr} {o:Obj},s₁.heap.get? b=some o->o.cls=.type "module"->H b=none:=fun {b o} e d=>by
   cases q:H b with
   | none=>rfl
   | some u =>
    obtain ⟨o',v,rfl,nd,_⟩:=hO b u q
    obtain ⟨e',_⟩:=hok b _ q
    rw [e] at e'
    cases e'
    exact absurd d nd
  have nsK:∀ {b:Addr} {m:Str->Option Value},s₁.heap.Ns b m->(zrK s₁.heap H).Ns b m:=fun {b m} ⟨o,es,ep,e,d,r⟩=>⟨o,es,ep,base_of e (noA e d),d,r⟩
  have hKb:(zfP (cl.map (·.1)) K).In (zrK s₁.heap H):=fun b o e=>base_of (zs0 KX b o e) (by
   cases q:H b with
   | none=>rfl
   | some u=>rw [hK b (by rw [q];simp)] at e;cases e)
  have hM:Mod (zfP (cl.map (·.1)) K) mg (zrK s₁.heap H):=⟨hKb,nsK hns,⟨mb,nsK hb,hbb⟩,let ⟨mc,h1,h2⟩:=hlim;⟨mc,nsK h1,h2⟩,(let ⟨mc,h1,h2⟩:=hse.statics;⟨mc,nsK h1,h2⟩),(let ⟨mc,h1,h2⟩:=hse.mods;⟨mc,nsK h1,h2⟩),(let ⟨mc,h1,h2⟩:=hse.imp;⟨mc,nsK h1,h2⟩),(let ⟨mg,bm,ob,h1,h2,h3,h4,h5⟩:=hse.main;⟨mg,bm,ob,nsK h1,h2,base_of h3 (noM h3 h4),h4,h5⟩)⟩
  have e0:zwO P w (zfP (cl.map (·.1)) K) mg (zrK s₁.heap H) callerA [] s₁ H:=⟨rfl,hM,fun b o e=>ztU e,Nat.le_of_eq (zpS _ _),trivial,fun b hb=>absurd (show b ∈ ([]:List Addr) from hb) (by simp),hok,.of_eq hg,htr⟩
  refine codeAny_mono ((F _ hKb (nsK hns)).run callerA [] s₁ H ⟨[.ref a],[]⟩ [.ref a] [.ref a] _ _ hr e0 (hbind s₁ (.ref a)) (.cons rfl .nil) (hsp H hL hcc hS)) fun r s' h=>?_
  cases r with
  | error e=>exact (hCX H e s' h).elim
  | ok fl =>
   cases fl with
   | next=>exact False.elim h
   | brk=>exact False.elim h
   | cont=>exact False.elim h
   | ret u =>
    obtain ⟨v,H',os,bare,un,hok',r',q⟩:=h
    have q':v=.bl true:=q
    subst q'
    obtain rfl:u=Value.bool true:=r'
    refine ⟨rfl,OldK.of_keep fun b o e=>?_,os,bare⟩
    cases q:H b with
    | none=>exact un.keep b o e q (by intro z;exact absurd (show b ∈ ([]:List Addr) from z) (by simp)) (by simp)
    | some u =>
     obtain ⟨ob,v,rfl,_,_⟩:=hO b u q
     have z2:=un.frzs b ob _ q
     obtain ⟨e1,_⟩:=hok b _ q
     obtain ⟨e2,_⟩:=hok' b _ z2
     rw [e] at e1;cases e1
     exact e2
 have cok:∀ {H:Hp} {b:Addr} {u:HO},zlN cl b=some u->zbx P w H s₁.heap b u:=fun {H b u} e=>by
  obtain ⟨_,o,xs,its,n,rfl,h1,h2,h3,h4,h5⟩:=zi7 hC e
  have hg:=KX b o h1
  exact ⟨hg,h4,its.toList,h5,o,hg,h2,n,by simpa using h3⟩
 have cfr:∀ {b:Addr} {u:HO},zlN cl b=some u->∃ o v,u=.frz o v/\o.cls ≠ .type "module"/\∀ es ep,o.data ≠ .dict es ep:=fun {b u} e=>by
  obtain ⟨_,o,xs,its,n,rfl,h1,h2,h3,h4,h5⟩:=zi7 hC e
  exact ⟨o,_,rfl,by rw [h2];simp,fun es ep z=>by rw [h3] at z;cases z⟩
 have clst:∀ {b:Addr} {xs:List V},zlN cl b ≠ some (.lst xs):=fun {b xs} e=>by
  obtain ⟨_,o,xs,its,n,z,_⟩:=zi7 hC e
  cases z
 cases hk:(zfP (cl.map (·.1)) K).lookup a with
 | some o =>
  have e:=zs0 KX a o hk
  rw [ha] at e
  cases e
  exact core (zlN cl) (fun b u e=>cfr e) (fun b xs e=>clst e) (fun _ _ e=>e) (.inr ⟨_,vs.toArray,_,hk,rfl,rfl,rfl,by rw [List.size_toArray,lenV];exact hl,by simpa using rv⟩) (fun b u z=>cok z) fun b hb=>by
   cases q:zlN cl b with
   | none=>exact absurd q hb
   | some u=>exact (zi7 hC q).1
 | none =>
  have na:∀ u,zlN cl a ≠ some u:=fun u z=>by
   obtain ⟨_,o,xs,its,n,rfl,h1,h2,h3,h4,h5⟩:=zi7 hC z
   have:=KX a o h1
   rw [ha] at this
   cases this
   simp at h2
  refine core (fun b=>if b=a then some (.frz { cls:=.type "list",data:=.seq vs.toArray } (.lst (ns.map V.int))) else zlN cl b) (fun b u e=>?_) (fun b xs e=>?_) (fun b u e=>?_) (.inl (.inr ⟨{ cls:=.type "list",data:=.seq vs.toArray },if_pos rfl⟩)) (fun b u z=>?_) fun b hb=>?_
  ·split at e
   ·cases e;exact ⟨_,_,rfl,by simp,fun es ep z=>nomatch z⟩
   ·exact cfr e
  ·split at e
   ·cases e
   ·exact clst e
  ·have:b ≠ a:=fun z=>by subst z;exact na u e
   simp only [if_neg this];exact e
  ·simp only at z
   split at z
   ·rename_i c
    cases z
    subst c
    exact ⟨ha,by rw [List.length_map];exact hl,vs,_,rv,ha⟩
   ·exact cok z
  ·by_cases c:b=a
   ·subst c;exact hk
   ·simp only [if_neg c] at hb
    cases q:zlN cl b with
    | none=>exact absurd q hb
    | some u=>exact (zi7 hC q).1
theorem zqR {l:PySem.W.OpenLaw} {k:Nat} {q:Program} {loose:List Str} {XP:(Str->Option Value)->Heap->Prop} {YP:World->Heap->Prop} {d:DefRec} {K:Params->PySem.W.Frag} {x:Str} {G:List D->R D}
  (hlaw:∀ ns:List Int,ns.length<=63->G [.list (ns.map PyData.int)]=.ok (.bool true)) (hn:l.most=some 63) (hdf:d.params.defaults=[]) (hi:importsNone q=true) (htr:l.prog.given.tree=none) (hr:zcT k callerA)
  (hY:∀ (w:World) (h:Heap),YP w h->(K w.params).In h)
  (F:∀ (w:World) (mg:Str->Option Value) (fa:Addr) (h:Heap),(K w.params).In h->h.Ns mainGlobals mg->mg d.name=some (.ref fa) ->
   ∃ (cl:CL) (fd:FuncData),zlK cl (K w.params)/\(∀ (s:Shared) (u:Value),BindsTo s fd ⟨[u],[]⟩ [(x,u)]) /\
    ∀ base:Heap,(zfP (cl.map (·.1)) (K w.params)).In base->base.Ns mainGlobals mg->zkl l.prog w (zfP (cl.map (·.1)) (K w.params)) mg base (CXe l.prog w) k fa fd [x] (@spP (zuI cl) (zfP (cl.map (·.1)) (K w.params)) 1 false G)) :
  PySem.W.WalkO q loose XP YP l.row.toRowW d [] (fun f vs=>PySem.call f vs):=by
 refine Att.zmw hn hdf fun w s₀ s₁ mg mb fa o pm cd doc a vs ns GG Y ho hd hcd hmg hobj hints hlen hg=>?_
 have KX:=hY w _ Y
 obtain ⟨cl,fd,hC,hb,hF⟩:=F w mg fa _ KX GG.T.g hmg
 refine zpz KX hC GG.T.g GG.T.b GG.T.builtins GG.T.nolimit (GG.T.seer hi) htr hg hobj hints (Nat.le_trans hlen (by decide)) hr hF hb (fun H hO hcc hS=>@zvV (zuI cl) _ G H a ns (hlaw ns hlen) hO hcc hS) fun H e s' ⟨_,_,_,_,_,_,_,_,_,_,_,_,_,_,_,z⟩=>z
variable [Cs]
theorem zkz {K:PySem.W.Frag} {X:Cx} {x:Str} {a:Addr} {pos:Pos} {ds:List D} {vs:List V} (hg:Gl X x) (hm:X.mg x=some (.ref a)) (hc:∃ o,Cs.C a=some (.frz o (.tup vs))) (hf:∀ H,zak K H ds vs) (hd:(x == ("__debug__":Str))=false:=by decide) :
  PV K X (.Name x pos) (eC (.tuple ds)):=fun _=>(ztI hg hm (v:=.ref a) rfl hd).weak fun σ H Q=>by
 rintro ⟨ρ,rel,g⟩
 obtain ⟨o,hc⟩:=hc
 refine g.now rel (.ref a) ?_
 simp only [Fz]
 exact ⟨a,vs,rfl,.inr ⟨o,rel.cst _ _ hc⟩,hf H⟩
end FL
namespace FL
open PySem L2 PySem.Spec
open PyProof.Rows hiding St
theorem zmJ {k:Nat} {A:Around} (hr:zcT k A):A.units + 1 < cLine:=by have:=hr.un;omega
theorem ztc {k:Nat} {A:Around} (hr:zcT k A):A.units + 80 < cLine:=by have:=hr.un;omega
theorem zoU {x y:V} {u:Value} (h1:L2.RelV x u) (h2:L2.RelV y u):x=y:=by
 cases x <;> cases y <;> simp only [L2.RelV] at h1 h2 <;> first
  | (subst h1;cases h2;rfl;done)
  | (subst h1;obtain ⟨t',h2⟩:=h2;cases h2;done)
  | (obtain ⟨t,rfl⟩:=h1;obtain ⟨t',h2⟩:=h2;cases h2;rfl;done)
  | (obtain ⟨t,rfl⟩:=h1;obtain ⟨t',h2⟩:=h2;cases h2;done)
  | (subst h1;cases h2;done)
  | (obtain ⟨t,rfl⟩:=h1;cases h2;done)
theorem zko:∀ {xs ys:List V} {us:List Value},Vals xs us->Vals ys us->xs=ys
 | _,_,_,.nil,.nil=>rfl
 | _,_,_,.cons r1 t1,.cons r2 t2=>by rw [zoU r1 r2,zko t1 t2]
theorem lookup_mem {α:Type}:∀ {l:List (Addr × α)} {a:Addr} {x:α},(a,x) ∈ l->∃ y,l.lookup a=some y
 | [],a,x,h=>by simp at h
 | (b,y) :: r,a,x,h=>by
  rw [List.lookup_cons]
  cases e:a == b with
  | true=>exact ⟨y,rfl⟩
  | false =>
   rcases List.mem_cons.mp h with z | z
   ·cases z;simp at e
   ·exact lookup_mem z
theorem zsQ {cl:CL} {K:PySem.W.Frag} (h:zlK cl K) {a:Addr} {o:Obj} {xs:List V} (m:(a,o,xs) ∈ cl):∃ o',(zuI cl).C a=some (.frz o' (.tup xs)):=by
 obtain ⟨⟨o2,ys⟩,el⟩:=lookup_mem m
 obtain ⟨h1,_,_,its,n,h2,h3⟩:=h _ m
 obtain ⟨g1,_,_,its',n',g2,g3⟩:=h _ (mem_of_lookup el)
 simp only at h1 h2 h3 g1 g2 g3
 rw [h1] at g1
 cases g1
 rw [h2] at g2
 cases g2
 refine ⟨o,?_⟩
 show zlN cl a=_
 unfold zlN
 rw [el,zko h3 g3]
 rfl
theorem zv7 {K:PySem.W.Frag} {h:Heap} {mg:Str->Option Value} {x:Str} {st:Stmt} {f:Addr} {oc:Value} {od an:Option Addr} {osl:Array (Option Value)} {kV doc pm cdv ct:Value} (X:K.In h) (G:h.Ns mainGlobals mg) (q:PySem.W.nsIn K mainGlobals x=some (some (.ref f)))
  (l:K.lookup f=some ⟨oc,od,.func (PySem.W.fnOf x x (zdl st) (zbI st) (zaA st) .none kV doc pm an cdv ct),osl⟩) (c:PySem.W.codeIn K cdv x=true) (k:PySem.W.keepIn K (.ref f)=true):Has K mg x st:=⟨f,_,PySem.W.mg_of X G q,zwa (st:=st) l c k⟩
theorem _root_.L2.Has.cut {cs:List Addr} {K:PySem.W.Frag} {mg:Str->Option Value} {x:Str} {st:Stmt} (h:Has K mg x st) (s:zuJ cs K):Has (zfP cs K) mg x st:=FL.Has.cut s h
end FL
namespace FL
open PySem
theorem zof (ns:List Int):intsOf (ns.map PyData.int)=some ns:=by
 induction ns with
 | nil=>rfl
 | cons n ns ih=>simp [intsOf,ih]
theorem zms (ns:List Bool):boolsOf (ns.map PyData.bool)=some ns:=by
 induction ns with
 | nil=>rfl
 | cons n ns ih=>simp [boolsOf,ih]
theorem zr9 (bs:List Bool):zwx (.list (bs.map PyData.bool))=.ok (.bool (bs.all id)):=by
 show ((R.of (boolsOf _)).bind _)=_
 rw [zms];rfl
theorem ztX {α β:Type} (g:α->β) (xs:List α) (lo hi:Option Int):cut (xs.map g) lo hi=(cut xs lo hi).map g:=by
 unfold cut
 simp [List.map_take,List.map_drop]
theorem zhk (lo hi:Int):rng lo hi=((List.range (hi - lo).toNat).map fun (i:Nat)=>lo + (i:Int)).map PyData.int:=by
 unfold rng
 rw [List.map_map];rfl
def Pl (n:Nat) (d:D):Prop:=PyData.canLay0 d=true/\d.depth<=n
theorem Pl.shaped {n:Nat} {d:D} (h:Pl n d) (hn:n<=64:=by decide):SeqAt.shaped d=true:=by
 unfold SeqAt.shaped
 rw [h.1,decide_eq_true (Nat.le_trans h.2 hn)];rfl
theorem ziZ (i:Int):Pl 0 (.int i):=⟨rfl,Nat.le_refl _⟩
theorem zpf {n:Nat}:∀ {ds:List D},(∀ d ∈ ds,Pl n d)->PyData.canLayAll0 ds=true/\PyData.depthAll ds<=n
 | [],_=>⟨rfl,Nat.zero_le _⟩
 | d :: ds,h=>by
  obtain ⟨a,b⟩:=zpf fun x m=>h x (List.mem_cons_of_mem d m)
  obtain ⟨c,e⟩:=h d (List.mem_cons_self ..)
  refine ⟨by simp only [PyData.canLayAll0];rw [c,a];rfl,?_⟩
  simp only [PyData.depthAll]
  omega
theorem zmU {n:Nat} {ds:List D} (h:∀ d ∈ ds,Pl n d):Pl (n + 1) (.tuple ds):=by
 obtain ⟨a,b⟩:=zpf h
 exact ⟨a,by simp only [PyData.depth];omega⟩
theorem zpe {n:Nat} {ds:List D} (h:∀ d ∈ ds,Pl n d):Pl (n + 1) (.list ds):=by
 obtain ⟨a,b⟩:=zpf h
 exact ⟨a,by simp only [PyData.depth];omega⟩
theorem zi8 {α:Type} [DecidableEq α] (f:α->D) (h:∀ a b,PyData.eqv (f a) (f b)=decide (a=b)):∀ xs ys:List α,PyData.eqvAll (xs.map f) (ys.map f)=decide (xs=ys)
 | [],[]=>rfl
 | [],y :: ys=>by simp [PyData.eqvAll]
 | x :: xs,[]=>by simp [PyData.eqvAll]
 | x :: xs,y :: ys=>by
  simp only [List.map_cons,PyData.eqvAll]
  rw [h,zi8 f h xs ys]
  by_cases e1:x=y <;> by_cases e2:xs=ys <;> simp [e1,e2]
theorem zmq (a b:Int):PyData.eqv (.int a) (.int b)=decide (a=b):=by
 show (a == b)=_
 rw [Bool.beq_eq_decide_eq]
abbrev tp (w:List Int):D:=.tuple (w.map PyData.int)
theorem zvm (w:List Int):Pl 1 (tp w):=zmU fun d m=>by
 obtain ⟨i,_,rfl⟩:=List.mem_map.mp m
 exact ziZ i
theorem zwh (a b:List Int):PyData.eqv (tp a) (tp b)=decide (a=b):=by
 show PyData.eqvAll _ _=_
 exact zi8 _ zmq a b
theorem zqa {n m:Nat} {a b:D} (ha:Pl n a) (hb:Pl m b) (hn:n<=64:=by decide) (hm:m<=64:=by decide):eqD a b=.ok (.bool (PyData.eqv a b)):=by
 unfold eqD
 rw [ha.shaped hn,hb.shaped hm];rfl
theorem zpr {n m:Nat} {a b:D} (ha:Pl n a) (hb:Pl m b) (hn:n<=64:=by decide) (hm:m<=64:=by decide):neD a b=.ok (.bool (!PyData.eqv a b)):=by
 unfold neD
 rw [ha.shaped hn,hb.shaped hm];rfl
theorem zvM (a b:List Int):neD (tp a) (tp b)=.ok (.bool (!decide (a=b))):=by rw [zpr (zvm a) (zvm b),zwh]
theorem zbT (a b:Int):eqD (.int a) (.int b)=.ok (.bool (decide (a=b))):=by rw [zqa (ziZ a) (ziZ b),zmq]
theorem zdc (a b:Int):neD (.int a) (.int b)=.ok (.bool (!decide (a=b))):=by rw [zpr (ziZ a) (ziZ b),zmq]
theorem zhE (i j:Int):gtD (.int i) (.int j)=.ok (.bool (decide (j < i))):=rfl
theorem zhw (i j:Int):ltD (.int i) (.int j)=.ok (.bool (decide (i < j))):=rfl
theorem zxp (i j:Int):leD (.int i) (.int j)=.ok (.bool (decide (i<=j))):=rfl
theorem zuf (i j:Int):geD (.int i) (.int j)=.ok (.bool (decide (j<=i))):=rfl
theorem zcY {j:Int} (h:0<=j) (h2:j<=1000000):zlY [.int j]=.ok (rng 0 j):=by
 show chk _ _=_
 refine zay ?_
 unfold zqX lim
 simp only [Bool.and_eq_true,leB_iff]
 omega
theorem zny {m:List (Nat × Sl)} (h:∀ i p d,m.lookup i ≠ some (.ow p d)):∀ (ρ:En) (n:Nat),bkL m n ρ=ρ
 | [],_=>rfl
 | x :: r,n=>by
  unfold bkL
  rw [zny h r (n + 1)]
  congr 1
  unfold bk1
  split
  ·rename_i p d q e h1 h2
   exact absurd h2 (h _ _ _)
  ·rfl
theorem zbV {α:Type} {f:α->D} {g:GF} {b:SF} (P:List α->En->Prop):∀ (xs:List α) (done:List α) (ρ:En),P done ρ ->
  (∀ pre x post ρ,done ++ xs=pre ++ x :: post->P pre ρ->∃ ρ' fl,(g (f x) ρ).bind b=.ok (fl,ρ')/\(fl=.nx\/fl=.ct)/\P (pre ++ [x]) ρ')->∃ ρ',forL g b (xs.map f) ρ=.ok (.nx,ρ')/\P (done ++ xs) ρ'
 | [],done,ρ,h,_=>⟨ρ,rfl,by simpa using h⟩
 | x :: xs,done,ρ,h,hx=>by
  obtain ⟨ρ1,fl,e,hf,h1⟩:=hx done x xs ρ rfl h
  obtain ⟨ρ2,e2,h2⟩:=zbV P xs (done ++ [x]) ρ1 h1 fun pre y post ρ e=>hx pre y post ρ (by simpa using e)
  refine ⟨ρ2,?_,by simpa using h2⟩
  show ((g (f x) ρ).bind fun ρ1=>(b ρ1).bind fun y=>match y.1 with
    | .nx | .ct=>forL g b (xs.map f) y.2
    | .bk=>.ok (.nx,y.2)
    | .rt d=>.ok (.rt d,y.2)
    | .rf d=>.ok (.rf d,y.2))=_
  cases e1:g (f x) ρ with
  | ok ρ3 =>
   rw [e1] at e
   rw [zac] at e ⊢
   rw [e,zac]
   rcases hf with rfl | rfl
   ·exact e2
   ·exact e2
  | bad=>rw [e1] at e;cases e
  | err c fs=>rw [e1] at e;cases e
def Np (x:Sl):Prop:=∀ e,x ≠ .ow true e
theorem za8:Np .no:=fun _ z=>nomatch z
theorem zaD (d:D):Np (.val d):=fun _ z=>nomatch z
theorem zvJ (d:D):Np (.ow false d):=fun _ z=>nomatch z
theorem zdG {ρ:En} {i:Nat} {d:D} {x:Sl} (h:ρ[i]?=some x) (n:Np x):gN i d ρ=.ok (ρ.set i (.val d)):=by
 unfold gN
 rw [h]
 cases x with
 | no=>rfl
 | val c=>rfl
 | ow p c=>cases p with
  | true=>exact absurd rfl (n c)
  | false=>rfl
theorem zcK {i:Nat} {f:EF} {ρ:En} {y:D × En} {x:Sl} (hf:f ρ=.ok y) (h:y.2[i]?=some x) (n:Np x):zcy i f ρ=.ok (.nx,y.2.set i (.ow false y.1)):=by
 unfold zcy
 rw [hf,zac,h]
 cases x with
 | no=>rfl
 | val c=>rfl
 | ow p c=>cases p with
  | true=>exact absurd rfl (n c)
  | false=>rfl
theorem zb1 {i:Nat} {f:EF} {ρ:En} {y:D × En} {x:Sl} (hf:f ρ=.ok y) (h:y.2[i]?=some x) (n:Np x):zax (gN i) f ρ=.ok (.nx,y.2.set i (.val y.1)):=by
 unfold zax
 rw [hf,zac,zdG h n];rfl
theorem zqr {m:List (Nat × Sl)} {i:Nat} {x:Sl} (h:m.lookup i=none):bk1 m i x=x:=by
 unfold bk1
 rw [h]
 cases x <;> rfl
theorem zaj {s t:SF} {ρ ρ1:En} (h:s ρ=.ok (.nx,ρ1)):zao s t ρ=t ρ1:=by
 unfold zao
 rw [h];rfl
end FL
namespace FL
open PySem
def zh1:SF:=(zao (zax (gN 2) (e2 zbb (e2 zbb (e2 za9 (e2 zbb (e2 zjH (eV 0) (e2 zbb (e2 ziY (eC (.int 10)) (eC (.int 18))) (eC (.int 9)))) (e2 za9 (eC (.int 7)) (eV 1))) (eC (.int 739108512309184756019283746561))) (e2 za9 (eC (.int 7919)) (eV 1))) (eC (.int 1))))
  (zao (zax (gN 2) (e2 zjH (e2 za9 (eV 2) (eV 2)) (e2 zbb (e2 ziY (eC (.int 10)) (eC (.int 60))) (eC (.int 7)))))
  (zav (e2 zjH (e2 za9 (e2 zbb (eV 2) (eC (.int 40503))) (e2 zbb (eV 2) (eC (.int 57)))) (e2 zbb (e2 ziY (eC (.int 10)) (eC (.int 60))) (eC (.int 7)))))))
def zkk:List D->R D:=zaZ false 2 3 zh1
def zka:SF:=(zao (sIf (tB (e2 ltD (eV 1) (e1 zcd (eV 0)))) (zav (e2 ixD (eV 0) (eV 1))) sNx)
  (zav (e2 zbb (e2 za9 (eC (.int 3)) (eV 1)) (eC (.int 1)))))
def zwN:List D->R D:=zaZ false 2 2 zka
def ze5:SF:=(zao (sIf (tB (e2 geD (eV 0) (e2 ziY (eC (.int 10)) (eC (.int 18))))) (zcA (zcz (zaa (e2 zit (eV 0) (e2 ziY (eC (.int 10)) (eC (.int 18)))) (zaa (eC (.int 0)) (zaa (eV 1) zai))))) sNx)
  (zcA (zcz (zaa (zae zkk (zaa (eV 0) (zaa (eV 1) zai))) (zaa (eC (.int 0)) (zaa (e2 zbb (e2 zjH (eV 0) (e2 zbb (e2 ziY (eC (.int 10)) (eC (.int 18))) (eC (.int 9)))) (eV 1)) zai))))))
def zkj:List D->R D:=zaZ true 2 2 ze5
def zf8:SF:=(zao (sIf (tB (e2 ltD (m2 ixD 0 (eC (.int 0))) (eV 1))) (zao (setM 0 (e2 zbb (m2 ixD 0 (eC (.int 1))) (eC (.int 1))) (eC (.int 1)))
  (setM 0 (e2 zbb (m2 ixD 0 (eC (.int 0))) (e2 za9 (eV 1) (zae zkk (zaa (m2 ixD 0 (eC (.int 2))) (zaa (e2 zbb (e2 za9 (eC (.int 11)) (m2 ixD 0 (eC (.int 1)))) (eC (.int 5))) zai))))) (eC (.int 0)))) sNx)
  (zao (zax (gN 2) (e2 zjH (m2 ixD 0 (eC (.int 0))) (eV 1)))
  (zao (setM 0 (e2 zaF (m2 ixD 0 (eC (.int 0))) (eV 1)) (eC (.int 0)))
  (zav (eV 2)))))
def zbM:List D->R (D × List D):=run [true,false] false 3 zf8
structure Bd (i:Int) (n:Nat):Prop where
 h:i.natAbs < 2 ^ n
theorem Bd.mono {i:Int} {n m:Nat} (h:Bd i n) (l:n<=m):Bd i m:=⟨Nat.lt_of_lt_of_le h.h (Nat.pow_le_pow_right (by decide) l)⟩
theorem Bd.add {i j:Int} {n m:Nat} (h:Bd i n) (k:Bd j m):Bd (i + j) (max n m + 1):=by
 constructor
 have a:=(h.mono (Nat.le_max_left n m)).h
 have b:=(k.mono (Nat.le_max_right n m)).h
 have c:=Int.natAbs_add_le i j
 rw [Nat.pow_succ]
 omega
theorem Bd.mul {i j:Int} {n m:Nat} (h:Bd i n) (k:Bd j m):Bd (i * j) (n + m):=by
 constructor
 rw [Int.natAbs_mul,Nat.pow_add]
 have a:=h.h
 have b:=k.h
 exact Nat.mul_lt_mul'' a b
theorem Bd.mod {i j:Int} {n:Nat} (h:Bd j n) (p:0 < j):Bd (i.fmod j) n:=by
 constructor
 have a:=h.h
 have b:=Int.fmod_nonneg_of_pos i p
 have c:=Int.fmod_lt_of_pos i p
 omega
theorem mulOk_of {i j:Int} {n m:Nat} (h:Bd i n) (k:Bd j m) (l:n + m<=100000000):zpu i j=true:=by
 unfold zpu
 refine zdS ?_
 have lg:∀ {i:Int} {n:Nat},Bd i n->i.natAbs.log2<=n:=by
  intro i n h
  by_cases z:i.natAbs=0
  ·rw [z];exact Nat.zero_le _
  ·exact Nat.le_of_lt ((Nat.log2_lt z).mpr h.h)
 have a:=lg h
 have b:=lg k
 omega
theorem zaO {i j:Int} {n m:Nat} (h:Bd i n) (k:Bd j m) (l:n + m<=100000000):za9 (.int i) (.int j)=.ok (.int (i * j)):=by
 show chk _ _=_
 exact zay (mulOk_of h k l)
theorem zhv {i j:Int} (p:0 < j):zjH (.int i) (.int j)=.ok (.int (i.fmod j)):=by
 show chk _ _=_
 exact zay (by simp;omega)
theorem zrP {i j:Int} {n:Nat} (p:0 < j) (h:Bd j n) (l:n<=8000):zaF (.int i) (.int j)=.ok (.int (i.fdiv j)):=by
 show chk _ _=_
 exact zay (by simp;omega)
def p18:Int:=1000000000000000000
def ztN:Int:=1000000000000000009
def p60:Int:=1000000000000000000000000000000000000000000000000000000000000
def ztM:Int:=1000000000000000000000000000000000000000000000000000000000007
def pm:Int:=739108512309184756019283746561
theorem zw3:ziY (.int 10) (.int 18)=.ok (.int p18):=rfl
theorem zyn:ziY (.int 10) (.int 60)=.ok (.int p60):=rfl
theorem zx0:p18 + 9=ztN:=rfl
theorem zyG:p60 + 7=ztM:=rfl
theorem zl4:0 < ztN:=by decide
theorem zhs:0 < ztM:=by decide
theorem b18:Bd ztN 60:=⟨by decide⟩
theorem b60:Bd ztM 200:=⟨by decide⟩
theorem bm:Bd pm 100:=⟨by decide⟩
theorem zaM {i:Int} (h:i.natAbs < 65536):Bd i 16:=⟨h⟩
def mx1 (c k:Int):Int:=(c.fmod ztN + 7 * k) * pm + 7919 * k + 1
def mx2 (c k:Int):Int:=(mx1 c k * mx1 c k).fmod ztM
def zsz (c k:Int):Int:=((mx2 c k + 40503) * (mx2 c k + 57)).fmod ztM
theorem zpv (c k:Int):0<=zsz c k:=Int.fmod_nonneg_of_pos _ zhs
theorem ztW (c k:Int):Bd (zsz c k) 200:=b60.mod zhs
theorem zm3 (c k:Int) {n:Nat} (hk:Bd k n) (hn:n<=1000):zkk [.int c,.int k]=.ok (.int (zsz c k)):=by
 have a1:=zhv (i:=c) zl4
 have a2:Bd (c.fmod ztN) 60:=b18.mod zl4
 have a3:=zaO (i:=7) (zaM (by decide)) hk (by omega)
 have a4:=(zaM (i:=7) (by decide)).mul hk
 have a5:=a2.add a4
 have a6:=zaO a5 bm (by omega)
 have a7:=zaO (i:=7919) (zaM (by decide)) hk (by omega)
 have a8:=((a5.mul bm).add ((zaM (i:=7919) (by decide)).mul hk)).add (zaM (i:=1) (by decide))
 have a9:=zaO a8 a8 (by omega)
 have b1:=zhv (i:=mx1 c k * mx1 c k) zhs
 have b2:Bd (mx2 c k) 200:=b60.mod zhs
 have b3:=zaO (b2.add (zaM (i:=40503) (by decide))) (b2.add (zaM (i:=57) (by decide))) (by decide)
 have b4:=zhv (i:=(mx2 c k + 40503) * (mx2 c k + 57)) zhs
 have hm:(PyData.int 739108512309184756019283746561)=.int pm:=rfl
 have f1:(c.fmod ztN + 7 * k) * pm + 7919 * k + 1=mx1 c k:=rfl
 have f2:(mx1 c k * mx1 c k).fmod ztM=mx2 c k:=rfl
 have f3:((mx2 c k + 40503) * (mx2 c k + 57)).fmod ztM=zsz c k:=rfl
 rw [f1] at a9
 simp only [zkk,zaZ,FL.run,List.length_cons,List.length_nil,Nat.reduceAdd,List.replicate,zh1,zao,zax,FL.e2,eV,slots,Bool.false_eq_true,if_false,Nat.reduceSub,List.cons_append,List.nil_append,List.getElem?_cons_zero,eC,zac,zw3,zbb,zx0,a1,List.getElem?_cons_succ,a3,hm,a6,a7,f1,gN,List.set_cons_succ,List.set_cons_zero,zyn,zyG,zav,a9,b1,f2,b3,b4,f3,outs,outD,if_true]
def zc4 (k:Nat) (d:D):Prop:=∃ n c s,d=.list [.int n,.int c,.int s]/\0<=n/\0<=c/\c<=k
theorem zc4.mono {k l:Nat} {d:D} (h:zc4 k d) (hl:k<=l):zc4 l d:=by
 obtain ⟨n,c,s,e,h1,h2,h3⟩:=h
 exact ⟨n,c,s,e,h1,h2,by omega⟩
theorem zrc (c k:Int) (hk:k.natAbs < 65536):∃ d,zkj [.int c,.int k]=.ok d/\zc4 0 d:=by
 have a1:=zhv (i:=c) zl4
 have hx1:=zm3 c k (zaM hk) (by decide)
 by_cases h:p18<=c
 ·refine ⟨_,?_,c - p18,0,k,rfl,by omega,by decide,by decide⟩
  have hg:geD (.int c) (.int p18)=.ok (.bool true):=by show R.ok (PyData.bool (decide (p18<=c)))=_;rw [decide_eq_true h]
  simp only [zkj,zaZ,FL.run,List.length_cons,List.length_nil,Nat.reduceAdd,List.replicate,ze5,zao,sIf,tB,FL.e2,eV,slots,Bool.false_eq_true,if_false,Nat.sub_self,List.cons_append,List.nil_append,List.getElem?_cons_zero,eC,zac,zw3,hg,zcA,zcz,zaa,zit,zai,sNx,List.getElem?_cons_succ,if_true,zae,zbb,outs,outD]
  rfl
 ·refine ⟨_,?_,zsz c k,0,c.fmod ztN + k,rfl,zpv c k,by decide,by decide⟩
  have hg:geD (.int c) (.int p18)=.ok (.bool false):=by show R.ok (PyData.bool (decide (p18<=c)))=_;rw [decide_eq_false h]
  simp only [zkj,zaZ,FL.run,List.length_cons,List.length_nil,Nat.reduceAdd,List.replicate,ze5,zao,sIf,tB,FL.e2,eV,slots,Bool.false_eq_true,if_false,Nat.sub_self,List.cons_append,List.nil_append,List.getElem?_cons_zero,eC,zac,zw3,hg,zcA,zcz,zaa,zit,zai,sNx,List.getElem?_cons_succ,zae,zbb,zx0,hx1,a1,outs,outD,if_true]
  rfl
theorem zb0 {k:Nat} {d:D} (h:zc4 k d) (hk:k<=60000) (m:Int) (hm1:1<=m) (hm2:m.natAbs < 65536):∃ g d',zbM [d,.int m]=.ok (.int g,[d',.int m])/\0<=g/\g < m/\zc4 (k + 1) d':=by
 obtain ⟨n,c,s,rfl,h1,h2,h3⟩:=h
 have i0:∀ x y z:D,atI [x,y,z] 0=some x:=fun _ _ _=>rfl
 have i1:∀ x y z:D,atI [x,y,z] 1=some y:=fun _ _ _=>rfl
 have i2:∀ x y z:D,atI [x,y,z] 2=some z:=fun _ _ _=>rfl
 have j0:ixN 3 0=some 0:=rfl
 have j1:ixN 3 1=some 1:=rfl
 have hlt:ltD (.int n) (.int m)=.ok (.bool (decide (n < m))):=rfl
 have hd:∀ i:Int,zaF (.int i) (.int m)=.ok (.int (i.fdiv m)):=fun i=>zrP (by omega) (zaM hm2) (by decide)
 have hm:∀ i:Int,zjH (.int i) (.int m)=.ok (.int (i.fmod m)):=fun i=>zhv (by omega)
 have gd:∀ i:Int,0<=i->0<=i.fdiv m:=fun i hi=>Int.fdiv_nonneg hi (by omega)
 by_cases hn:n < m
 ·rw [decide_eq_true hn] at hlt
  have hc:(c + 1).natAbs < 65536:=by omega
  have x1:=zaO (i:=11) (zaM (by decide)) (zaM hc) (by decide)
  have xb:=((zaM (i:=11) (by decide)).mul (zaM hc)).add (zaM (i:=5) (by decide))
  have x2:=zm3 s (11 * (c + 1) + 5) xb (by decide)
  have x3:=zaO (zaM hm2) (ztW s (11 * (c + 1) + 5)) (by decide)
  have nn:0<=n + m * zsz s (11 * (c + 1) + 5):=Int.add_nonneg h1 (Int.mul_nonneg (by omega) (zpv _ _))
  refine ⟨(n + m * zsz s (11 * (c + 1) + 5)).fmod m,.list [.int ((n + m * zsz s (11 * (c + 1) + 5)).fdiv m),.int (c + 1),.int s],?_,Int.fmod_nonneg_of_pos _ (by omega),Int.fmod_lt_of_pos _ (by omega),_,_,_,rfl,gd _ nn,by omega,by omega⟩
  simp only [zbM,FL.run,List.length_cons,List.length_nil,Nat.reduceAdd,zf8,zao,sIf,tB,FL.e2,m2,zaU,slots,if_true,Bool.false_eq_true,if_false,Nat.reduceSub,List.replicate,List.cons_append,List.nil_append,List.getElem?_cons_zero,eC,ixD,R.of,zac,i0,eV,List.getElem?_cons_succ,hlt,setM,zbb,ziz,zcn,zae,zaa,zai,sNx,i1,List.set_cons_zero,j1,List.set_cons_succ,i2,x1,x2,x3,j0,zax,gN,zav,hm,hd,outs,outD,List.head?_cons]
 ·rw [decide_eq_false hn] at hlt
  refine ⟨n.fmod m,.list [.int (n.fdiv m),.int c,.int s],?_,Int.fmod_nonneg_of_pos _ (by omega),Int.fmod_lt_of_pos _ (by omega),_,_,_,rfl,gd _ h1,by omega,by omega⟩
  simp only [zbM,FL.run,List.length_cons,List.length_nil,Nat.reduceAdd,zf8,zao,sIf,tB,FL.e2,m2,zaU,slots,if_true,Bool.false_eq_true,if_false,Nat.reduceSub,List.replicate,List.cons_append,List.nil_append,List.getElem?_cons_zero,eC,ixD,R.of,zac,i0,eV,List.getElem?_cons_succ,hlt,setM,zbb,ziz,zcn,zae,zaa,zai,sNx,i1,List.set_cons_zero,j1,List.set_cons_succ,i2,zax,gN,zav,hm,hd,j0,outs,outD,List.head?_cons]
theorem zxF (ns:List Int) (k:Int) (h0:0<=k) (hk:k.natAbs < 65536):∃ a,zwN [.list (ns.map PyData.int),.int k]=.ok (.int a):=by
 have a3:=zaO (i:=3) (zaM (by decide)) (zaM hk) (by decide)
 have hl:ltD (.int k) (.int (ns.length:Int))=.ok (.bool (decide (k < ns.length))):=rfl
 by_cases h:k < ns.length
 ·rw [decide_eq_true h] at hl
  have:∃ a,atI (ns.map PyData.int) k=some (.int a):=by
   unfold atI ixN
   rw [List.length_map,if_pos h0,if_pos h]
   exact ⟨ns[k.toNat]'(by omega),by simp [show k.toNat < ns.length by omega]⟩
  obtain ⟨a,ea⟩:=this
  refine ⟨a,?_⟩
  simp only [zwN,zaZ,FL.run,List.length_cons,List.length_nil,Nat.reduceAdd,List.replicate,zka,zao,sIf,tB,FL.e2,eV,slots,Bool.false_eq_true,if_false,Nat.sub_self,List.cons_append,List.nil_append,List.getElem?_cons_succ,List.getElem?_cons_zero,FL.e1,zcd,zac,List.length_map,hl,zav,ixD,R.of,sNx,ea,if_true,eC,zbb,outs,outD]
 ·rw [decide_eq_false h] at hl
  refine ⟨3 * k + 1,?_⟩
  simp only [zwN,zaZ,FL.run,List.length_cons,List.length_nil,Nat.reduceAdd,List.replicate,zka,zao,sIf,tB,FL.e2,eV,slots,Bool.false_eq_true,if_false,Nat.sub_self,List.cons_append,List.nil_append,List.getElem?_cons_succ,List.getElem?_cons_zero,FL.e1,zcd,zac,List.length_map,hl,zav,ixD,sNx,eC,zbb,a3,outs,outD,if_true]
theorem zlb {k:Nat} {ix:List Nat} {g:GF} {t:TF} {f:EF} (P:Nat->List D->En->Prop):∀ (items:List D) (i:Nat) (acc:List D) (ρ:En),acc.length + items.length<=lim->acc.length=i->P i acc ρ ->
  (∀ x ∈ items,∀ j acc ρ,j < i + items.length->P j acc ρ->∃ β y β',g x (blk k ix ρ)=.ok β/\t β=.ok (true,β)/\f β=.ok (y,β')/\P (j + 1) (acc ++ [y]) (back ρ ix (β'.drop k))) ->
  ∃ acc' ρ',ziK k ix g t f items ρ acc=.ok (acc',ρ')/\acc'.length=i + items.length/\P (i + items.length) acc' ρ'
 | [],i,acc,ρ,_,e,h,_=>⟨acc,ρ,rfl,e,h⟩
 | x :: xs,i,acc,ρ,hl,e,h,hx=>by
  obtain ⟨β,y,β',h1,h2,h3,h4⟩:=hx x (List.mem_cons_self ..) i acc ρ (by simp) h
  have hl':acc.length + (xs.length + 1)<=lim:=hl
  obtain ⟨acc',ρ',e1',e2',e3'⟩:=zlb P xs (i + 1) (acc ++ [y]) _ (by simp;omega) (by simp;omega) h4 fun x m j acc ρ hj=>hx x (List.mem_cons_of_mem _ m) j acc ρ (by rw [List.length_cons];omega)
  refine ⟨acc',ρ',?_,by simp;omega,by rw [List.length_cons,show i + (xs.length + 1)=i + 1 + xs.length by omega];exact e3'⟩
  unfold ziK
  rw [h1,zac,h2,zac,if_pos rfl,h3,zac,zay (zdS (by omega)),e1']
end FL
namespace FL
open PySem
theorem zmt {i:Nat} {x:Sl}:∀ (ρ:En) (n:Nat),i < n->bkL [(i,x)] n ρ=ρ
 | [],_,_=>rfl
 | y :: r,n,h=>by
  unfold bkL
  rw [zqr (by rw [List.lookup_cons,show (n == i)=false from beq_eq_false_iff_ne.mpr (by omega)];rfl),zmt r (n + 1) (by omega)]
theorem zqq {d d':D} {p:Bool}:∀ (ρ:En) (n i:Nat),ρ[i]?=some (.ow p d)->bkL [(n + i,.ow true d')] n ρ=ρ.set i (.ow p d')
 | [],_,_,h=>by simp at h
 | y :: r,n,0,h=>by
  have hy:y=.ow p d:=by simpa using h
  subst hy
  unfold bkL
  rw [Nat.add_zero,zmt r (n + 1) (Nat.lt_succ_self n)]
  have:bk1 [(n,Sl.ow true d')] n (.ow p d)=.ow p d':=by
   unfold bk1
   rw [List.lookup_cons,beq_self_eq_true]
  rw [this]
  rfl
 | y :: r,n,i + 1,h=>by
  unfold bkL
  rw [zqr (by rw [List.lookup_cons,show (n == n + (i + 1))=false from beq_eq_false_iff_ne.mpr (by omega)];rfl),show n + (i + 1)=n + 1 + i by omega,zqq r (n + 1) i (by simpa using h)]
  rfl
theorem zdn {F:List D->R (D × List D)} {i:Nat} {f:EF} {ρ:En} {p:Bool} {d v r d' v':D} (hi:ρ[i]?=some (.ow p d)) (hf:f ρ=.ok (v,ρ)) (hF:F [d,v]=.ok (r,[d',v'])):zan F [.m i,.v f] ρ=.ok (r,ρ.set i (.ow p d')):=by
 have hm:zaU ρ i=.ok d:=by unfold zaU;rw [hi]
 unfold zan
 simp only [znE,hm,zac,hf,zls,hF]
 have:=zqq (d:=d) (d':=d') (p:=p) ρ 0 i hi
 rw [Nat.zero_add] at this
 show R.ok (r,bkL [(i,.ow true d')] 0 ρ)=_
 rw [this]
theorem set_same {ρ:En} {i:Nat} {x:Sl} (h:ρ[i]?=some x):ρ.set i x=ρ:=by
 apply List.ext_getElem?
 intro j
 by_cases e:i=j
 ·subst e
  rw [List.getElem?_set_self (List.getElem?_eq_some_iff.mp h).1,h]
 ·rw [List.getElem?_set_ne e]
end FL
namespace L2
open PySem PySem.Spec PyProof.Rows
section
variable {X:Cx} {pins:List (Addr × Obj)} {σ:St} {H:Hp} {s:Shared} {a:Addr} {y v:V} {u r:Value} {A:Around} {E:Value->Shared->Prop}
theorem zqg {H':Hp} {Q:Unit->Shared->Prop} (hu:A.units + 1 < cLine) (I:Inv X pins σ H s) (g:zqI H a y v H') (ry:RelV y u) (rv:RelV v r) (h:∀ s',Inv X pins σ H' s'->Q () s') :
  wpAny (model X.prog X.w) A (dictSet a u r) Q E s:=by
 rcases g with ⟨kvs,k,e,ey,l,eH⟩ | ⟨kvs,k,b,e,ey,eb,l,eH⟩
 ·subst ey eH
  exact zxC I e l ry rv h
 ·subst ey eH
  cases (show u=Value.ref b from ry)
  obtain ⟨z,hd,xs,rel,dd⟩:=zwn I.hok e
  have hz:xs.length<=sizeLine:=by rw [<- Paired.length rel];exact z
  have hl:(putK kvs k v).length<=sizeLine:=by have:=zde kvs k v;omega
  refine wpAny_dictSet_heap (hsz:=hz) (show A.units < cLine from Nat.lt_of_succ_lt hu) (zi5 I.hok eb) dd fun h' dd' hs=>h _ ?_
  obtain ⟨q,es,ep,hq,h2,h3,h4,_,h5⟩:=dd'
  refine zf6 I (by rw [e];exact True.intro) hs ⟨q,hq⟩ ⟨hl,hd,_,(rel.put k eb rv).keeps fun c ys ec=>?_,q,es,ep,hq,h2,h3,h4,h5⟩
  exact ec.upd (fun _ z=>zkK z e (fun z=>nomatch z)) fun _ _ z=>zkK z e (fun z=>nomatch z)
theorem zuk {H':Hp} {Q:Unit->Shared->Prop} (hu:A.units + 1 < cLine) (I:Inv X pins σ H s) (g:DP H a y v H') (ry:RelV y u) (rv:RelV v r) (h:∀ s',Inv X pins σ H' s'->Q () s') :
  wpAny (model X.prog X.w) A (dictSet a u r) Q E s:=by
 rcases g with g | ⟨k,b,e,rfl,eb,rfl⟩ | ⟨k,e,rfl,rfl⟩
 ·exact zqg hu I g ry rv h
 ·have eb':TAt (upd H a (.dT [])) b (k.map kV):=eb.upd (fun _ z=>zkK z e (fun z=>nomatch z)) fun _ _ z=>zkK z e (fun z=>nomatch z)
  have g:=zqI.t (H:=upd H a (.dT [])) (a:=a) (v:=v) zap eb' (by decide)
  rw [zhc] at g
  exact zqg hu (I.kt e) g ry rv h
 ·have g:=zqI.k (H:=upd H a (.dK [])) (a:=a) (k:=k) (v:=v) zap (by decide)
  rw [zhc] at g
  exact zqg hu (I.tk e) g ry rv h
end
def zlU (k:Nat) (ix:List Nat) (wi:TI) (g:TG) (tc:TT) (tk tv:TE):TE:=fun σ H Q=>wi σ H fun J H1=>∀ l,H1 l=none ->
 ∃ W:Nat->Nat->Hp->Prop,(∃ m,W 0 m (upd H1 l (.dK [])))/\∀ i m H2,W i m H2 ->
  ((J.stop i H2/\Q (.ref l) H2)\/(J.go i H2/\∀ x H3,J.yld i H2 x H3->g x (zeA k ix σ) H3 fun σ2 H4=>tc σ2 H4 fun b H5 =>
   if b=true then tk σ2 H5 fun y H6=>tv σ2 H6 fun v H7=>∃ H8,DP H7 l y v H8/\∃ m',m' < m/\W (i + 1) m' H8 else ∃ m',m' < m/\W (i + 1) m' H5))
section
variable {X:Cx}
theorem zpj {kx vx tg iter:Expr} {ifs:List Expr} {scope:Scope} {pos:Pos} {L:List Str} {ix:List Nat} {wi:TI} {g:TG} {tc:TT} {tk tv:TE} (hu:X.A.units + 1 < cLine) (hc:X.calm=true) (S:zey X scope (zeB X ix)) (hix:∀ i ∈ ix,i < X.N.length) (hi:PI X tg iter wi)
  (hg:∀ C s₃ H₃ fp,PG (zar X (L ++ zeB X ix) scope C s₃ H₃ fp) tg g) (hgo:zmF L.length g)
  (ht:∀ C s₃ H₃ fp,PTs (zar X (L ++ zeB X ix) scope C s₃ H₃ fp) ifs tc) (hk:∀ C s₃ H₃ fp,PE (zar X (L ++ zeB X ix) scope C s₃ H₃ fp) kx tk) (he:∀ C s₃ H₃ fp,PE (zar X (L ++ zeB X ix) scope C s₃ H₃ fp) vx tv)
  (hs:∀ x,foldedSetIterable iter X.env x=pure x:=by intro _;rfl) :
  PE X (.DictComp kx vx [⟨tg,iter,ifs,0⟩] scope pos) (zlU L.length ix wi g tc tk tv):=by
 intro pins s σ H Q I h
 rw [arm_eval_DictComp]
 refine wpAny_comprehension_free (use:=none) rfl hs (zdm fun y hy e=>I.ok.has y.1 (.inl (S.cell y hy e))) S.kind S.loc (thn (hi pins s σ H _ I h) fun xv s1 h1=>thn h1 fun itv s2 h2=>?_)
 obtain ⟨it,fp,tn,J,H2,rfl,I2,T,st2,f2,q⟩:=h2
 have nD:H2 s2.heap.objs.size=none:=I2.hok.fresh (Nat.le_refl _)
 obtain ⟨W,⟨m0,w0⟩,turn⟩:=q _ nD
 generalize hD:s2.heap.objs.size=D at nD w0 turn
 have fD:∀ b ∈ fp,b < D:=fun b hb=>by
  obtain ⟨o,e,_⟩:=T.obj _ _ st2 b hb
  rw [<- hD]
  exact Heap.lt_size e
 have I3:Inv X pins σ (upd H2 D (.dK [])) { s2 with heap:=s2.heap.push { cls:=.type "dict",data:=.dict #[] },toks:=s2.toks }:=by
  rw [<- hD]
  exact I2.laid (t':=s2.toks) (fun b u e=>Heap.get?_push_of_some _ e) (Nat.le_refl _) (zrU s2.heap I2.big)
 refine wpAny_newObj_type (zl7 (fun h₁ hns₁ hsb₁ hcs₁=>?_)) (by show 0<=sizeLine + 1;exact Nat.zero_le _)
 rw [hD]
 have st3:tn 0 (s2.heap.push { cls:=.type "dict",data:=.dict #[] }):=T.keep _ _ _ st2 fun b hb o e=>Heap.get?_push_of_some _ e
 generalize hp3:s2.heap.push { cls:=.type "dict",data:=.dict #[] }=h3 at I3 st3 hns₁ hsb₁ hcs₁
 dsimp only at hns₁ hsb₁ hcs₁ ⊢
 have sz3:h3.objs.size=D + 1:=by rw [<- hp3,Heap.size_push,hD]
 have old:∀ b u,h3.get? b=some u->h₁.get? b=some u:=fun b u e=>hsb₁ b u e
 have f3:∀ b ∈ fp,zmG X pins (upd H2 D (.dK [])) b:=fun b hb=>⟨by rw [zau (Nat.ne_of_lt (fD b hb))];exact (f2 b hb).1,(f2 b hb).2⟩
 have I4:=zhB (L:=L) (ix:=ix) (t':=s2.toks) S I3 f3 (fun b hb=>by show b < h3.objs.size;rw [sz3];exact Nat.lt_succ_of_lt (fD b hb)) hix (h':=h₁) hns₁ old hcs₁
 have st4:tn 0 h₁:=T.keep _ _ _ st3 fun b hb o e=>old b o e
 generalize hC:(zar X (L ++ zeB X ix) scope h3.objs.size { s2 with heap:=h3,toks:=s2.toks } (upd H2 D (.dK [])) fp)=Y at I4
 have eEnv:Y.env=compEnvC scope (zkG h3.objs.size scope ++ zhX X.env.cells scope.names []) h3.objs.size X.env:=by rw [<- hC];rfl
 have hcY:Y.calm=true:=by rw [<- hC];exact hc
 have xeY:Y.xe=fun _ _=>False:=by rw [<- hC];rfl
 have eP:Y.prog=X.prog:=by rw [<- hC];rfl
 have eW:Y.w=X.w:=by rw [<- hC];rfl
 have eK:Y.K=X.K:=by rw [<- hC];rfl
 have eA:Y.A=X.A:=by rw [<- hC];rfl
 have gY:PG Y tg g:=by rw [<- hC];exact hg _ _ _ _
 have tY:PTs Y ifs tc:=by rw [<- hC];exact ht _ _ _ _
 have kY:PE Y kx tk:=by rw [<- hC];exact hk _ _ _ _
 have pY:PE Y vx tv:=by rw [<- hC];exact he _ _ _ _
 have stat:∀ {H':Hp},(∀ b ∈ fp,H' b=none)->∀ b ∈ fp,zmG Y [] H' b:=fun {H'} hn b hb=>by
  have z1:b ∈ Y.ex:=by rw [<- hC];exact hb
  have zp:Y.pn=[]:=by rw [<- hC];rfl
  refine ⟨hn b hb,(I4.ok.exf b z1).1,I4.ok.exfs b z1,.inl z1,(I4.ok.exf b z1).2,fun p hp=>?_⟩
  rw [zp] at hp
  exact absurd hp (by simp)
 have fin:∀ {H':Hp} {s':Shared},Inv Y [] (zeA L.length ix σ) H' s'->Q (.ref D) H'->compPost (model X.prog X.w) X.A X.xe none (EP X pins σ Q) (.ref D) h3.objs.size (.ok .next) s':=by
  intro H' s' J' qe
  obtain ⟨m,hm,_⟩:=J'.loc
  rw [eEnv] at hm
  refine ⟨m,hm,fun h' sb=>⟨.ref D,H',?_,rfl,qe⟩⟩
  have hfr:H' h3.objs.size=none:=by
   have:=J'.free
   rw [eEnv] at this
   exact this
  have neC:∀ b u,H' b=some u->b ≠ h3.objs.size:=fun b u e z=>by rw [z,hfr] at e;cases e
  have base:Un (frs X.stack) fp (upd H2 D (.dK [])) H' h3 s'.heap:=by
   have:=J'.base
   rw [<- hC] at this
   exact this
  have to':∀ b o,b ≠ h3.objs.size->s'.heap.get? b=some o->h'.get? b=some o:=fun b o hb e=>sb.extBut b o hb e
  have lt3:∀ b o,h3.get? b=some o->b ≠ h3.objs.size:=fun b o e=>Nat.ne_of_lt (Heap.lt_size e)
  have un:Un (frs X.stack) fp (upd H2 D (.dK [])) H' h3 h' :=
   ⟨fun b o e n hb hx=>to' b o (lt3 b o e) (base.keep b o e n hb hx),
    fun b o e n hb hx=>by
    obtain ⟨sl,z⟩:=base.slot b o e n hb hx
    exact ⟨sl,to' _ _ (lt3 b o e) z⟩,
    base.free,
    fun b o e hx=>by
    obtain ⟨o',z⟩:=base.there b o e hx
    exact ⟨o',to' _ _ (lt3 b o e) z⟩,
    base.tups,base.frzs,base.tbls⟩
  have hok:HOk X.prog X.w H' h':=fun b u e=>by
   have z:=J'.hok b u e
   rw [eP,eW] at z
   refine z.stay (fun c v hcv qv=>to' c v ?_ qv) (fun _ qq=>qq) fun _ _ qq=>qq
   rcases hcv with zz | zz
   ·rw [zz];exact neC b u e
   ·exact neC c _ zz
  refine I3.call' (s':={ s' with heap:=h' }) (ch:=fp) ?_ un hok J'.bare fun b hb=>?_
  ·have:=J'.os
   rw [<- hC] at this
   exact this
  ·obtain ⟨_,g1,g2,g3,g4,g5⟩:=f2 b hb
   exact ⟨g3,g1,g4,g5⟩
 have key:∀ s5:Shared,s5={ s2 with heap:=h₁,toks:=s2.toks } ->
   codeAny (model X.prog X.w) X.A (.compLoop (.DictComp kx vx [⟨tg,iter,ifs,0⟩] scope pos) 0 (.ref it) (.ref D) (compEnvC scope (zkG h3.objs.size scope ++ zhX X.env.cells scope.names []) h3.objs.size X.env))
    (compPost (model X.prog X.w) X.A X.xe none (EP X pins σ Q) (.ref D) h3.objs.size) s5:=by
  rintro s5 rfl
  rw [<- eEnv,<- eP,<- eW,<- eA]
  refine zla (fun n s'=>∃ i H',Inv Y [] (zeA L.length ix σ) H' s'/\tn i s'.heap/\(∀ b ∈ fp,H' b=none)/\W i n H') ?_ m0 ⟨0,_,?_,st4,fun b hb=>(f3 b hb).1,w0⟩
  ·rintro n s6 ⟨i,H6,I6,st6,fr6,w6⟩
   rcases turn i n H6 w6 with ⟨stop,qe⟩ | ⟨go,step⟩
   ·have Td:=T.done Y eP eW eK hcY i [] s6 _ H6 (fun _ _=>False) I6 (stat fr6) st6 stop
    rw [<- eP,<- eW] at Td
    refine wpAny_mono Td (fun r s7 hr7=>?_) fun _ _ f=>f.elim
    obtain ⟨hr,I7⟩:=hr7
    subst hr
    rw [eP,eW,eA]
    exact fin I7 qe
   ·have Ti:=T.item Y eP eW eK hcY i [] s6 _ H6 (fun _ _=>False) I6 (stat fr6) st6 go
    rw [<- eP,<- eW] at Ti
    refine wpAny_mono Ti (fun r s7 hr7=>?_) fun _ _ f=>f.elim
    obtain ⟨u,hr,h7⟩:=hr7
    subst hr
    refine wpAny_mono h7 (fun _ s8 hr8=>?_) fun _ _ f=>f.elim
    obtain ⟨x,H8,I8,r8,y8,st8,fr8⟩:=hr8
    have I8':=I8.pinned (stat fr8) (T.obj _ _ st8)
    have stp:=hgo _ _ _ _ (step x H8 y8)
    refine wpAny_mono (gY _ s8 _ H8 x u _ I8' r8 stp) (fun _ s9 ⟨σ9,H9,I9,⟨k1,k2⟩,q9⟩=>?_) fun _ _ f=>by rw [xeY] at f;exact f.elim
    have weak:∀ {Hz:Hp} {sz:Shared},Inv Y ([] ++ zhr fp s8.heap) σ9 Hz sz->Inv Y [] (zeA L.length ix σ) Hz sz/\tn (i + 1) sz.heap/\∀ b ∈ fp,Hz b=none:=fun {Hz sz} Iz=>by
     refine ⟨Iz.zel.weak k1.symm fun j v e=>?_,T.keep _ _ _ st8 fun b hb o e=>(Iz.pin (b,o) (List.mem_append_right _ (List.mem_append_right _ (zbt hb e)))).1,fun b hb=>?_⟩
     ·by_cases hj:L.length<=j
      ·rw [k2 j hj];exact e
      ·unfold zeA at e
       rw [List.getElem?_append_left (by simpa using Nat.lt_of_not_le hj),List.getElem?_replicate,if_pos (Nat.lt_of_not_le hj)] at e
       cases e
     ·obtain ⟨o,e,d⟩:=T.obj _ _ st8 b hb
      exact (Iz.pin (b,o) (List.mem_append_right _ (List.mem_append_right _ (zbt hb e)))).2.1
    refine wpAny_mono (tY _ s9 σ9 H9 _ I9 q9) (fun ok s10 ⟨H10,I10,q10⟩=>?_) fun _ _ f=>by rw [xeY] at f;exact f.elim
    cases ok with
    | false =>
     have q10':∃ m',m' < n/\W (i + 1) m' H10:=q10
     obtain ⟨m',hm',w10⟩:=q10'
     obtain ⟨z1,z2,z3⟩:=weak I10
     exact ⟨m',hm',i + 1,H10,z1,z2,z3,w10⟩
    | true =>
     refine wpAny_mono (kY _ s10 σ9 H10 _ I10 q10) (fun yv s11 ⟨y,H11,I11,r11,q11⟩=>?_) fun _ _ f=>by rw [xeY] at f;exact f.elim
     refine wpAny_mono (pY _ s11 σ9 H11 _ I11 q11) (fun xv s12 ⟨v,H12,I12,r12,H8',g12,m',hm',w12⟩=>?_) fun _ _ f=>by rw [xeY] at f;exact f.elim
     refine zuk (by rw [eA];exact hu) I12 g12 r11 r12 fun s13 I13=>?_
     obtain ⟨z1,z2,z3⟩:=weak I13
     exact ⟨m',hm',i + 1,_,z1,z2,z3,w12⟩
  ·exact I4
 exact codeAny_compStart_dict (key _ rfl) (T.self _ 0 _ _ _ st4 (key _ rfl))
theorem znW {kx vx tg iter:Expr} {ifs:List Expr} {scope:Scope} {pos:Pos} {wi:TI} {g:TG} {tc:TT} {tk tv:TE} (L:List Str) (ix:List Nat) (M:List Str) (hu:X.A.units + 1 < cLine) (hc:X.calm=true) (hk:scope.kind=.function)
  (hd:zb7 X.env.scope scope X.N ix=true) (hM:M=L ++ ix.map fun i=>X.N.getD i "") (hi:PI X tg iter wi)
  (hg:∀ C s₃ H₃ fp,PG (zar X M scope C s₃ H₃ fp) tg g) (hgo:zmF L.length g)
  (ht:∀ C s₃ H₃ fp,PTs (zar X M scope C s₃ H₃ fp) ifs tc) (hke:∀ C s₃ H₃ fp,PE (zar X M scope C s₃ H₃ fp) kx tk) (he:∀ C s₃ H₃ fp,PE (zar X M scope C s₃ H₃ fp) vx tv)
  (hs:∀ x,foldedSetIterable iter X.env x=pure x:=by intro _;rfl) :
  PE X (.DictComp kx vx [⟨tg,iter,ifs,0⟩] scope pos) (zlU L.length ix wi g tc tk tv):=by
 unfold zb7 at hd
 simp only [Bool.and_eq_true,List.all_eq_true,bne_iff_ne,ne_eq,Bool.or_eq_true,beq_iff_eq,decide_eq_true_eq,Bool.not_eq_true',List.contains_eq_mem,decide_eq_false_iff_not] at hd
 obtain ⟨⟨d1,d2⟩,d3⟩:=hd
 have eM:M=L ++ zeB X ix:=by rw [hM];unfold zeB;rfl
 subst eM
 refine zpj (L:=L) (ix:=ix) hu hc ⟨hk,fun y hy e=>?_,fun y hy e=>?_,fun x hx=>?_,fun y hy e=>?_⟩ d3 hi hg hgo ht hke he hs
 ·rcases (d1 y hy).1.1 with z | z
  ·exact absurd e z
  ·exact z
 ·rcases (d1 y hy).1.2 with z | z
  ·exact absurd e z
  ·exact z
 ·unfold zeB at hx
  exact d2 x hx
 ·rcases (d1 y hy).2 with z | z
  ·exact absurd e z
  ·exact z
end
end L2
namespace L2
open PySem PySem.Spec PyProof.Rows
end L2
namespace FL
open PySem
def enD:List D->R (List D)
 | [.list l]=>.ok (zft 0 l)
 | _=>.bad
def zpD:List D->R (List D)
 | [.list l,.list m]=>.ok (ziu l m)
 | _=>.bad
def zuG (a:AF):IF:=fun ρ=>(a ρ).bind fun x=>(enD x.1).bind fun l=>.ok (l,x.2)
def zne (a:AF):IF:=fun ρ=>(a ρ).bind fun x=>(zpD x.1).bind fun l=>.ok (l,x.2)
def zgo (k:Nat) (ix:List Nat) (g:GF) (t:TF) (kf vf:EF):List D->En->D->R (D × En)
 | [],ρ,acc=>.ok (acc,ρ)
 | x :: xs,ρ,acc=>(g x (blk k ix ρ)).bind fun β=>(t β).bind fun c =>
   if c.1=true then (kf c.2).bind fun y=>(vf y.2).bind fun z=>(zqd acc y.1 z.1).bind fun d=>zgo k ix g t kf vf xs (back ρ ix (z.2.drop k)) d
   else zgo k ix g t kf vf xs (back ρ ix (c.2.drop k)) acc
def zi9 (k:Nat) (ix:List Nat) (it:IF) (g:GF) (t:TF) (kf vf:EF):EF:=fun ρ=>(it ρ).bind fun x=>(zgo k ix g t kf vf x.1 x.2 (.dict [])).bind fun y=>.ok (y.1,y.2)
end FL
namespace FL
open PySem L2 PySem.Spec
open PyProof.Rows hiding St
theorem zqb:∀ (i:Nat) (l:List D),(zft i l).length=l.length
 | _,[]=>rfl
 | i,d :: r=>by rw [zft,List.length_cons,List.length_cons,zqb]
theorem zqc:∀ {i:Nat} {l:List D} {j:Nat} {x:D},(zft i l)[j]?=some x->∃ d,l[j]?=some d/\x=.tuple [.int ((i + j:Nat):Int),d]
 | _,[],_,_,h=>by simp [zft] at h
 | i,d :: r,0,x,h=>by
  simp only [zft,List.getElem?_cons_zero,Option.some.injEq] at h
  exact ⟨d,rfl,h.symm⟩
 | i,d :: r,j + 1,x,h=>by
  simp only [zft,List.getElem?_cons_succ] at h
  obtain ⟨d',h1,h2⟩:=zqc h
  refine ⟨d',by simpa using h1,?_⟩
  rw [h2,Nat.add_assoc,Nat.add_comm 1 j]
theorem zou:∀ {l m:List D} {j:Nat} {x:D},(ziu l m)[j]?=some x->∃ a b,l[j]?=some a/\m[j]?=some b/\x=.tuple [a,b]
 | [],_,_,_,h=>by simp [ziu] at h
 | _ :: _,[],_,_,h=>by simp [ziu] at h
 | a :: r,b :: s,0,x,h=>by
  simp only [ziu,List.getElem?_cons_zero,Option.some.injEq] at h
  exact ⟨a,b,rfl,rfl,h.symm⟩
 | a :: r,b :: s,j + 1,x,h=>by
  simp only [ziu,List.getElem?_cons_succ] at h
  obtain ⟨a',b',h1,h2,h3⟩:=zou h
  exact ⟨a',b',by simpa using h1,by simpa using h2,h3⟩
theorem zot:∀ (l m:List D),(ziu l m).length=min l.length m.length
 | [],_=>by simp [ziu]
 | _ :: _,[]=>by simp [ziu]
 | a :: r,b :: s=>by simp only [ziu,List.length_cons,zot r s];omega
section
variable [Cs] {K:PySem.W.Frag} {X:Cx} {e e':Expr} {fa:AF} {pos:Pos} {es:List Expr} {k:Nat} {p0 p:Pos}
theorem zpZ {H:Hp} {t:Addr} {a b:D} {u v:V} (h0:H t=none) (fa:Fz K H a u) (fb:Fz K H b v):Fz K (upd H t (.tup [u,v])) (.tuple [a,b]) (.ref t):=by
 have m:Fzn H (upd H t (.tup [u,v])):=Fzn.of (zbj.upd h0)
 simp only [Fz,zak]
 exact ⟨t,[u,v],rfl,.inl zap,u,[v],rfl,fa.mono m,v,[],rfl,fb.mono m,rfl⟩
theorem zoz {H:Hp} {a:Addr} {vs:List V} {items:List D} (h:FzL K H a vs) (f:zak K H items vs):Walk K (Ite K a) (zft 0 items) H:=by
 refine ⟨fun i d H' fz e=>?_,fun i H' fz e=>⟨vs,(fz.znR h).sq,by rw [f.len,<- zqb 0];exact e⟩⟩
 obtain ⟨d',e',rfl⟩:=zqc e
 obtain ⟨v,ev,fv⟩:=(f.mono fz).get e'
 refine ⟨⟨vs,v,(fz.znR h).sq,ev⟩,fun x H'' y=>?_⟩
 obtain ⟨t,v',rfl,ht,rfl,hv⟩:=y
 have ex:=hv vs (fz.znR h).sq
 rw [ev] at ex
 cases ex
 refine ⟨zbj.upd ht,?_⟩
 rw [Nat.zero_add]
 exact zpZ ht (zfs _) fv
theorem zqO {H:Hp} {a b:Addr} {vs ws:List V} {l m:List D} (h:FzL K H a vs) (f:zak K H l vs) (h':FzL K H b ws) (f':zak K H m ws):Walk K (Itz K a b) (ziu l m) H:=by
 refine ⟨fun i d H' fz e=>?_,fun i H' fz e=>⟨vs,ws,(fz.znR h).sq,(fz.znR h').sq,?_⟩⟩
 ·obtain ⟨x,y,e1,e2,rfl⟩:=zou e
  obtain ⟨u,eu,fu⟩:=(f.mono fz).get e1
  obtain ⟨v,ev,fv⟩:=(f'.mono fz).get e2
  refine ⟨⟨vs,ws,u,v,(fz.znR h).sq,(fz.znR h').sq,eu,ev⟩,fun x H'' y=>?_⟩
  obtain ⟨t,u',v',rfl,ht,rfl,hu,hv⟩:=y
  have ex:=hu vs (fz.znR h).sq
  rw [eu] at ex
  cases ex
  have ex:=hv ws (fz.znR h').sq
  rw [ev] at ex
  cases ex
  exact ⟨zbj.upd ht,zpZ ht fu fv⟩
 ·rw [zot] at e
  rw [f.len,f'.len]
  omega
theorem zmR (hg:Gl X "enumerate") (hm:X.mg "enumerate"=none) (ha:PVA K X [e] fa) (hs:starEach [e] X.env=[(false,eval e X.env)]:=by rfl):PVI K X (.Tuple es k p0) (.Call (.Name "enumerate" p) [e] [] pos) (zuG fa):=fun hK=>by
 subst hK
 refine (ztE hg hm (ha rfl) hs).weak fun σ H R=>?_
 rintro ⟨ρ,rel,q⟩
 refine goA rel q fun ds ρ1 vs H1 rel1 st1 fs q1=>?_
 obtain ⟨items,ei,q2⟩:=q1.zgO
 cases ds with
 | nil=>cases ei
 | cons d r =>
  cases r with
  | cons _ _=>cases d <;> cases ei
  | nil =>
   cases d with
   | list a =>
    cases ei
    simp only [zak,Fz] at fs
    obtain ⟨_,_,rfl,⟨l,vs,rfl,sx,f⟩,rfl⟩:=fs
    exact ⟨l,rfl,⟨vs,sx.sq⟩,q2.now rel1 _ (zoz sx f)⟩
   | _=>cases ei
theorem zhp (hg:Gl X "zip") (hm:X.mg "zip"=none) (ha:PVA K X [e,e'] fa) (hs:starEach [e,e'] X.env=[(false,eval e X.env),(false,eval e' X.env)]:=by rfl) (hs2:starEach [e'] X.env=[(false,eval e' X.env)]:=by rfl):PVI K X (.Tuple es k p0) (.Call (.Name "zip" p) [e,e'] [] pos) (zne fa):=fun hK=>by
 subst hK
 refine (zvn hg hm (ha rfl) hs hs2).weak fun σ H R=>?_
 rintro ⟨ρ,rel,q⟩
 refine goA rel q fun ds ρ1 vs H1 rel1 st1 fs q1=>?_
 obtain ⟨items,ei,q2⟩:=q1.zgO
 match ds,ei,fs with
 | [.list a,.list b],ei,fs =>
  cases ei
  simp only [zak,Fz] at fs
  obtain ⟨_,_,rfl,⟨l,vs,rfl,sx,f⟩,_,_,rfl,⟨l',vs',rfl,sx',f'⟩,rfl⟩:=fs
  exact ⟨l,l',rfl,⟨vs,sx.sq⟩,⟨vs',sx'.sq⟩,q2.now rel1 _ (zqO sx f sx' f')⟩
end
section
variable [Cs] {K:PySem.W.Frag} {X:Cx} {ke ve tg iter:Expr} {ifs:List Expr} {scope:Scope} {pos:Pos} {it:IF} {g:GF} {t:TF} {kf vf:EF} {dom:List Nat}
theorem zmX {o:HO} (h:Own o):¬ zwz o:=by cases o <;> simp [Own,zwz] at h ⊢
theorem zue {k:Nat} {ix:List Nat} (nd:ix.Nodup) (hgo:dom.all (fun i=>decide (i < k))=true) (σ:L2.St) (H:Hp) (Q:VK) (q:tN K (zi9 k ix it g t kf vf) σ H Q):zlU k ix (tI K it) (tG K dom g) (tT K t) (tV K kf) (tV K vf) σ H Q:=by
 revert q
 rintro ⟨ρ0,rel0,q⟩
 obtain ⟨x,ex,q⟩:=q.bnd
 refine ⟨ρ0,rel0,?_⟩
 rw [ex]
 intro H1 rel1 st1 J wk l hl
 obtain ⟨items,ρs⟩:=x
 have hl0:H l=none:=by
  cases e:H l with
  | none=>rfl
  | some o =>
   by_cases m:MA ρ0 σ l
   ·obtain ⟨o',e',_⟩:=rel1.zbe (st1.ma.mp m)
    rw [hl] at e';cases e'
   ·rw [st1.kp l o e m] at hl;cases hl
 have sl:zbj H1 (upd H1 l (.dK [])):=zbj.upd hl
 refine ⟨fun i m H2=>m=items.length - i/\i<=items.length/\∃ ρ acc,zbL K H2 l acc/\Rel K ρ σ H2/\¬ MA ρ σ l/\Fzn H1 H2/\Stp ρ0 ρ σ H H2 /\
  Good K ρ0 σ H ((zgo k ix g t kf vf (items.drop i) ρ acc).bind fun (y:D × En)=>.ok (y.1,y.2)) fun d ρ' H'=>∀ a,H a=none->zbL K H' a d->Q (.ref a) H',
  ⟨items.length,by simp,Nat.zero_le _,ρs,.dict [],.inr ⟨[],zap,by simp [zb9]⟩,rel1.same sl,fun z=>?_,Fzn.of sl,st1.trans (.of sl),q⟩,?_⟩
 ·obtain ⟨o',e',_⟩:=rel1.zbe z
  rw [hl] at e';cases e'
 rintro i m H2 ⟨rfl,hi,ρ,acc,mu,rel,nma,fz,st0,gd⟩
 obtain ⟨ob,hly,own⟩:=mu.own
 by_cases c:i < items.length
 ·have ed:=List.drop_eq_getElem_cons c
  rw [ed] at gd
  obtain ⟨hgo',hy⟩:=wk.1 i items[i] H2 fz (List.getElem?_eq_getElem c)
  refine .inr ⟨hgo',fun x H3 y=>?_⟩
  obtain ⟨sm,fx⟩:=hy x H3 y
  have rel3:Rel K ρ σ H3:=rel.same sm
  obtain ⟨w,ew,gd⟩:=gd.zgO
  obtain ⟨β1,e1,ew⟩:=zat (show (g items[i] (blk k ix ρ)).bind _=.ok w from ew)
  obtain ⟨c1,ec,ew⟩:=zat ew
  refine ⟨blk k ix ρ,items[i],β1,zqn nd rel3,fx,e1,fun σ1 relβ chg=>⟨β1,relβ,?_⟩⟩
  rw [ec]
  intro H5 rel5 st5
  have hσ:∀ j,σ1[k + j]?=(zeA k ix σ)[k + j]?:=fun j=>by
   rcases chg.2 (k + j) with ⟨_,c2⟩ | ⟨m,_⟩
   ·exact c2
   ·have:=of_decide_eq_true (List.all_eq_true.mp hgo _ m)
    omega
  have hβ:∀ j,β1[k + j]?=(blk k ix ρ)[k + j]?:=fun j=>by
   rcases chg.2 (k + j) with ⟨c2,_⟩ | ⟨m,_⟩
   ·exact c2
   ·have:=of_decide_eq_true (List.all_eq_true.mp hgo _ m)
    omega
  have hMA:∀ a,MA β1 σ1 a->MA (blk k ix ρ) (zeA k ix σ) a:=fun a ⟨j,⟨p,d,z1⟩,z2⟩=>by
   rcases chg.2 j with ⟨c1,c2⟩ | ⟨_,⟨d',c1⟩,_⟩
   ·exact ⟨j,⟨p,d,by rw [<- c1];exact z1⟩,by rw [<- c2];exact z2⟩
   ·rw [c1] at z1;cases z1
  have hMB:∀ a,MA (blk k ix ρ) (zeA k ix σ) a->MA ρ σ a:=fun a ⟨j,h⟩=>by
   obtain ⟨_,i,_,_,h⟩:=zjh h
   exact ⟨i,h⟩
  have h3l:H3 l=some ob:=sm l _ hly
  have n1:¬ MA β1 σ1 l:=fun z=>nma (hMB l (hMA l z))
  have h5l:H5 l=some ob:=st5.kp l _ h3l n1
  obtain ⟨cb,β2⟩:=c1
  cases cb with
  | true =>
   refine zsN ⟨β2,rel5,?_⟩
   obtain ⟨y,ey,ew⟩:=zat (show (kf β2).bind _=.ok w from ew)
   obtain ⟨z,ez,ew⟩:=zat ew
   obtain ⟨d',ed',ew⟩:=zat ew
   rw [ey]
   intro H6 rel6 st6 v fv
   refine ⟨y.2,rel6,?_⟩
   rw [ez]
   intro H7 rel7 st7 v2 fv2
   have n2:¬ MA β2 σ1 l:=fun z=>n1 (st5.ma.mpr z)
   have h6l:H6 l=some ob:=st6.kp l _ h5l n2
   have n3:¬ MA y.2 σ1 l:=fun z=>n2 (st6.ma.mpr z)
   have h7l:H7 l=some ob:=st7.kp l _ h6l n3
   have st:Stp β1 z.2 σ1 H3 H7:=(st5.trans st6).trans st7
   obtain ⟨rb,sb⟩:=zj9 (k:=k) nd rel3 hσ rel7 (fun j p=>by rw [<- hβ j];exact (st.md (k + j) p).symm) (fun a o h n=>st.kp a o h fun z=>n (hMA a z))
   have nmb:¬ MA (back ρ ix (z.2.drop k)) σ l:=fun z=>nma (sb.ma.mpr z)
   have fz6:Fzn H2 H7:=(Fzn.of sm).trans (sb.fzn rel3)
   have mut7:zbL K H7 l acc:=mu.mono fz6 (by rw [h7l,hly])
   obtain ⟨o',dp,mut8⟩:=zwp mut7 (fv.mono (st7.fzn rel6)) fv2 ed'
   have fz7:Fzn H7 (upd H7 l o'):=fun b u e s=>by
    rw [zau fun z=>by subst z;rw [h7l] at e;cases e;exact zmX own s]
    exact e
   refine ⟨_,dp,items.length - (i + 1),by omega,rfl,c,back ρ ix (z.2.drop k),d',mut8,rb.put nmb (fun u e=>by rw [h7l] at e;cases e;exact zmX own),nmb,(fz.trans fz6).trans fz7,⟨((st0.trans (.of sm)).trans sb).md,fun a o h n=>?_⟩,?_⟩
   ·rw [zau fun z=>by subst z;rw [hl0] at h;cases h]
    exact ((st0.trans (.of sm)).trans sb).kp a o h n
   ·rw [ew]
    exact gd
  | false =>
   obtain ⟨rb,sb⟩:=zj9 (k:=k) nd rel3 hσ rel5 (fun j p=>by rw [<- hβ j];exact (st5.md (k + j) p).symm) (fun a o h n=>st5.kp a o h fun z=>n (hMA a z))
   have nmb:¬ MA (back ρ ix (β2.drop k)) σ l:=fun z=>nma (sb.ma.mpr z)
   have fz6:Fzn H2 H5:=(Fzn.of sm).trans (sb.fzn rel3)
   refine zsO ⟨items.length - (i + 1),by omega,rfl,c,back ρ ix (β2.drop k),acc,mu.mono fz6 (by rw [h5l,hly]),rb,nmb,fz.trans fz6,(st0.trans (.of sm)).trans sb,?_⟩
   rw [show zgo k ix g t kf vf (items.drop (i + 1)) (back ρ ix (β2.drop k)) acc=.ok w from ew]
   exact gd
 ·have e:i=items.length:=by omega
  subst e
  rw [List.drop_length] at gd
  exact .inl ⟨wk.2 _ H2 fz (Nat.le_refl _),gd H2 rel st0 l hl0 mu⟩
theorem zo5 (L:List Str) (ix:List Nat) (M:List Str) (hu:X.A.units + 1 < cLine) (hc:X.calm=true) (hk:scope.kind=.function) (hd:zb7 X.env.scope scope X.N ix=true) (hM:M=L ++ ix.map fun i=>X.N.getD i "") (nd:ix.Nodup) (hi:PVI K X tg iter it)
  (hg:∀ C s₃ H₃ fp,PVG K (zar X M scope C s₃ H₃ fp) dom tg g) (hgo:dom.all (fun i=>decide (i < L.length))=true)
  (ht:∀ C s₃ H₃ fp,zs7 K (zar X M scope C s₃ H₃ fp) ifs t) (hke:∀ C s₃ H₃ fp,PV K (zar X M scope C s₃ H₃ fp) ke kf) (he:∀ C s₃ H₃ fp,PV K (zar X M scope C s₃ H₃ fp) ve vf)
  (hs:∀ x,foldedSetIterable iter X.env x=pure x:=by intro _;rfl) :
  PVN K X (.DictComp ke ve [⟨tg,iter,ifs,0⟩] scope pos) (zi9 L.length ix it g t kf vf):=fun hK=>by
 refine (znW L ix M hu hc hk hd hM (hi hK) (fun C s₃ H₃ fp=>hg C s₃ H₃ fp hK) (zjX hgo) (fun C s₃ H₃ fp=>ht C s₃ H₃ fp hK) (fun C s₃ H₃ fp=>hke C s₃ H₃ fp hK) (fun C s₃ H₃ fp=>he C s₃ H₃ fp hK) hs).weak fun σ H Q q=>zue nd hgo σ H Q q
end
end FL
namespace FL
open PySem L2 PySem.Spec
open PyProof.Rows hiding St
end FL
namespace PySem
open Spec
end PySem
namespace FL
open PySem L2 PySem.Spec
open PyProof.Rows hiding St
end FL
namespace FL
open PySem L2 PySem.Spec
open PyProof.Rows hiding St
end FL
namespace L2
open PySem PySem.Spec PyProof.Rows
open PySem.SeqAt
open PySem.AutoSeq1 (wpAny_loadPart')
open PySem.MeetsSeq PySem.MeetsSeq2 PySem.MeetsSeq3
end L2
namespace FL
open PySem L2 PySem.Spec
open PyProof.Rows hiding St
end FL
namespace FL
open PySem
def ziT:D->R D
 | .dict kvs=>(R.of (intsOf (kvs.map (·.1)))).bind fun ns=>chk (leB (ns.length + 1) 64) (.ok (.list ((zgj ns).map .int)))
 | _=>.bad
end FL
namespace L2
open PySem PySem.Spec PyProof.Rows PySem.W
theorem zj7 {X:Cx} (hc:X.calm=true):zgd X (.builtin "sorted") (fun xs H Q=>∃ (d:Addr) (ks:List Int),xs=[V.ref d]/\IsD H d/\(∀ vs,zsh H d vs->vs=ks.map V.int)/\ks.length < 64 /\
  ∀ (l:Addr) (ns:List Int),H l=none->ns.Perm ks->ns.Pairwise (·<=·)->Q (.ref l) (upd H l (.lst (ns.map V.int)))):=by
 intro pins s σ H xs us Q I r h
 obtain ⟨d,ks,rfl,rd,hk,lk,q⟩:=h
 obtain ⟨u,rfl,ru⟩:=vals1 r
 cases ru
 refine Calls.call_function_entry kind_sorted plain_sorted entry_sorted (args_sorted1 _) ?_
 unfold Builtin.«sorted»
 refine wpAny_bind (m:=checkCount "sorted" 1 1 _) (wpAny_pure ?_)
 refine wpAny_bind (zrZ (I.ok.hd hc) I rd (fun xs dk=>by rw [hk xs dk,List.length_map];exact lk) fun xs its s1 dk rv I1=>?_)
 have ex:=hk xs dk
 subst ex
 have hI:IntsAre its ks:=intsAre_of rv
 have li:its.length=ks.length:=by have:=hI.length;omega
 refine wpAny_bind (wpAny_newList ?_ (by rw [sizeLine_eq];omega))
 have hoL:(s1.heap.push (seqObj "list" its.toArray 0)).get? s1.heap.objs.size=some (seqObj "list" its.toArray 0):=Heap.get?_push_size _ rfl
 refine wpAny_bind (wpAny_holding (wpAny_call_entry slot_list_sort ⟨_,hoL,rfl⟩ entry_list_sort (list_sort_tree hoL hI (by omega) fun out ns' a1 a2 a3=>⟨_,rfl,?_⟩) (args_list_sort _)))
 refine wpAny_pure ⟨_,rfl,.ref s1.heap.objs.size,upd H s1.heap.objs.size (.lst (ns'.map V.int)),?_,rfl,q _ ns' (I1.hok.fresh (Nat.le_refl _)) a2 a3⟩
 obtain ⟨e,he⟩:=sortedHeap_at (out:=out) hoL
 have va:=ziQ a1
 refine I1.laid (t':=s1.toks) (fun b u eb=>?_) (Nat.le_refl _) ⟨by rw [List.length_map,a2.length_eq,sizeLine_eq];omega,out.toList,e,va,by simpa [seqObj] using he⟩
 have lt:=Heap.lt_size eb
 rw [sortedHeap_old (Nat.ne_of_lt lt) (by rw [Heap.size_push];exact Nat.lt_succ_of_lt lt)]
 exact Heap.get?_push_of_some _ eb
end L2
namespace FL
open PySem L2 PySem.Spec
open PyProof.Rows hiding St
variable [Cs]
section
variable {K:PySem.W.Frag} {X:Cx} {b:Expr} {h:EF} {pos:Pos}
theorem zrs {ds:List D} {d:D} (e:one ziT ds=.ok d):∃ kvs,ds=[.dict kvs]/\ziT (.dict kvs)=.ok d:=by
 match ds,e with
 | [x],e=>cases x <;> first | exact ⟨_,rfl,e⟩ | exact nomatch (show (R.bad:R D)=.ok d from e)
 | [],e=>exact nomatch (show (R.bad:R D)=.ok d from e)
 | _ :: _ :: _,e=>exact nomatch (show (R.bad:R D)=.ok d from e)
theorem zuu (hc:X.calm=true):zgd X (.builtin "sorted") (rDs X.K (one ziT)):=by
 intro pins s σ H xs us Q I r h
 obtain ⟨ds,d,fa,e,q⟩:=h
 obtain ⟨kvs,rfl,e⟩:=zrs e
 simp only [zak] at fa
 obtain ⟨v,_,rfl,fv,rfl⟩:=fa
 obtain ⟨ns,en,e⟩:=zat (show (R.of (intsOf (kvs.map (·.1)))).bind _=.ok d from e)
 obtain ⟨c,e⟩:=zbi e
 cases e
 have fv':=fv
 simp only [Fz] at fv'
 obtain ⟨a,o,rfl,_⟩:=fv'
 refine thn (zj7 hc pins s σ H _ us (fun v H1=>∃ p,v=.ref p/\H p=none/\H1=upd H p (.lst ((zgj ns).map V.int))) I r ⟨a,ns,rfl,zv9 fv,fun vs dk=>(zak.ints (zrT fv dk) (zpm en)).1,zjO c,fun l ms hl pm pw=>⟨l,rfl,hl,?_⟩⟩) fun _ _ z=>zk8 (zak.ofInts _) q z
 have:ms=zgj ns:=zkB (le:=(·<=·)) (pm.trans (zeZ ns).symm) pw (zdf ns) fun a _ b _ h1 h2=>Int.le_antisymm h1 h2
 rw [this]
theorem zvd {op:Operator} {g:D->D->R D} {y:Str} {py:Pos} (i:Nat) (ho:OpR X (binaryOp op) (rD X.K g)) (ha:PE X (.Name y py) (ziv i)) (hb:PV K X b h):PV K X (.BinOp (.Name y py) op b pos) (m2 g i h):=fun hK=>by
 subst hK
 exact (ztH ho ha (hb rfl)).weak fun σ H Q q=>zxW (fun _ _ _ _ z=>z) σ H Q q
end
end FL
namespace FL
open PySem L2 PySem.Spec
open PyProof.Rows hiding St
variable [Cs]
section
variable {P:Program} {w:World} {K:PySem.W.Frag} {mg:Str->Option Value} {base:Heap} {x:Str} {st:Stmt} {ps:List Str} {k:Nat} {b:SF} {fr:Bool}
theorem fnM (ms:List Bool) (N:List Str) (h:Has K mg x st)
  (hb:∀ {f:Addr} {cdv:Value} {A:Around} {outer:List Env} {s:Shared} {H:Hp} {E:XK},zcT k (A.deeper (envOfC x (zaA st) s.heap.objs.size f cdv))->N.Nodup->zlO K (zqL (CXe P w) P w K mg base N x (zaA st) f cdv A outer s H E).nox (zbI st) b)
  (S:zeh N ps (zaA st):=by exact ⟨rfl,rfl,rfl,by decide +kernel,rfl,by decide +kernel,by decide +kernel⟩) (hps:ps.length=ms.length:=by rfl) (hpN:ps.length<=N.length:=by decide)
  (hbi:∀ (kV doc pm:Value) (an:Option Addr) (cdv ct:Value) (us:List Value),us.length=ps.length->bindArgs (PySem.W.fnOf x x (zdl st) (zbI st) (zaA st) .none kV doc pm an cdv ct) ⟨us,[]⟩=pure (ps.zip us):=by
   first
    | exact fun _ _ _ _ _ _ us hl=>match us,hl with | [_],_=>rfl
    | exact fun _ _ _ _ _ _ us hl=>match us,hl with | [_,_],_=>rfl
    | exact fun _ _ _ _ _ _ us hl=>match us,hl with | [_,_,_],_=>rfl
    | exact fun _ _ _ _ _ _ us hl=>match us,hl with | [_,_,_,_],_=>rfl
    | exact fun _ _ _ _ _ _ us hl=>match us,hl with | [_,_,_,_,_],_=>rfl):Callee P w K mg base x (k + 1) ps (spF K ms fr (FL.run ms fr N.length b)) :=
 zwe ms fr h S hps hpN hbi fun f cdv A outer s H E hr=>zo0 (hb hr S.nd)
theorem fnP (N:List Str) (h:Has K mg x st)
  (hb:∀ {f:Addr} {cdv:Value} {A:Around} {outer:List Env} {s:Shared} {H:Hp} {E:XK},zcT k (A.deeper (envOfC x (zaA st) s.heap.objs.size f cdv))->N.Nodup->zlO K (zqL (CXe P w) P w K mg base N x (zaA st) f cdv A outer s H E).nox (zbI st) b)
  (S:zeh N ps (zaA st):=by exact ⟨rfl,rfl,rfl,by decide +kernel,rfl,by decide +kernel,by decide +kernel⟩) (hpN:ps.length<=N.length:=by decide)
  (hbi:∀ (kV doc pm:Value) (an:Option Addr) (cdv ct:Value) (us:List Value),us.length=ps.length->bindArgs (PySem.W.fnOf x x (zdl st) (zbI st) (zaA st) .none kV doc pm an cdv ct) ⟨us,[]⟩=pure (ps.zip us):=by
   first
    | exact fun _ _ _ _ _ _ us hl=>match us,hl with | [_],_=>rfl
    | exact fun _ _ _ _ _ _ us hl=>match us,hl with | [_,_],_=>rfl
    | exact fun _ _ _ _ _ _ us hl=>match us,hl with | [_,_,_],_=>rfl
    | exact fun _ _ _ _ _ _ us hl=>match us,hl with | [_,_,_,_],_=>rfl
    | exact fun _ _ _ _ _ _ us hl=>match us,hl with | [_,_,_,_,_],_=>rfl):Callee P w K mg base x (k + 1) ps (spP K ps.length fr (zaZ fr ps.length N.length b)) :=
 Callee.pure (fnM (List.replicate ps.length false) N h hb S (by simp) hpN hbi)
end
section
variable {K:PySem.W.Frag} {X:Cx} {a b c e:Expr} {es:List Expr} {f h g1 g2:EF} {fa:AF} {pos p:Pos} {j k:Nat}
theorem a1 (ha:PV K X a f) (hs:starEach [a] X.env=(false,eval a X.env) :: starEach [] X.env:=by rfl):PVA K X [a] (zaa f zai):=zjz ha zjy hs
theorem a2 (ha:PV K X a f) (hb:PV K X b h) (hs:starEach [a,b] X.env=(false,eval a X.env) :: starEach [b] X.env:=by rfl) (hs2:starEach [b] X.env=(false,eval b X.env) :: starEach [] X.env:=by rfl):PVA K X [a,b] (zaa f (zaa h zai)):=zjz ha (a1 hb hs2) hs
theorem a3 (ha:PV K X a f) (hb:PV K X b h) (hc:PV K X c g1) (hs:starEach [a,b,c] X.env=(false,eval a X.env) :: starEach [b,c] X.env:=by rfl) (hs2:starEach [b,c] X.env=(false,eval b X.env) :: starEach [c] X.env:=by rfl) (hs3:starEach [c] X.env=(false,eval c X.env) :: starEach [] X.env:=by rfl):PVA K X [a,b,c] (zaa f (zaa h (zaa g1 zai))):=zjz ha (a2 hb hc hs2 hs3) hs
variable {ps:List Str} {x y:Str} {G:List D->R D} {n:Nat} {py:Pos}
theorem zaK (cc:Callee X.prog X.w X.K X.mg X.base x k ps (spP X.K n false G)) (hr:zcT j X.A) (ha:PVA K X (e :: es) fa) (hl:zuC fa n:=by repeat (first | exact znF | refine zlu ?_)) (hg:Gl X x:=by rfl) (hj:k<=j:=by decide) (hdb:(x == ("__debug__":Str))=false:=by decide)
  (he:starEach (e :: es) X.env=(false,eval e X.env) :: starEach es X.env:=by rfl) (hpl:(backTo pos (starEach es X.env)).any (·.1)=false:=by rfl):PV K X (.Call (.Name x p) (e :: es) [] pos) (zae G fa):=ztt cc hr hg zjC ha hl hj hdb he hpl
theorem zc0 (cc:Callee X.prog X.w X.K X.mg X.base x k ps (spP X.K n true G)) (hr:zcT j X.A) (ha:PVA K X (e :: es) fa) (hl:zuC fa n:=by repeat (first | exact znF | refine zlu ?_)) (hg:Gl X x:=by rfl) (hj:k<=j:=by decide) (hdb:(x == ("__debug__":Str))=false:=by decide)
  (he:starEach (e :: es) X.env=(false,eval e X.env) :: starEach es X.env:=by rfl) (hpl:(backTo pos (starEach es X.env)).any (·.1)=false:=by rfl):PVN K X (.Call (.Name x p) (e :: es) [] pos) (zae G fa):=zq8 cc hr hg zjC ha hl hj hdb he hpl
variable {F:List D->R (D × List D)} {ar:List Ar}
theorem zez (cc:Callee X.prog X.w X.K X.mg X.base x k ps (spF X.K (arM ar) false F)) (hr:zcT j X.A) (ha:zqy K X (e :: es) ar) (ho:zuK F (arM ar).length:=by exact zmZ) (nd:(arI ar).Nodup:=by decide) (ct:arT ar<=1:=by decide) (hg:Gl X x:=by rfl) (hj:k<=j:=by decide) (hdb:(x == ("__debug__":Str))=false:=by decide)
  (he:starEach (e :: es) X.env=(false,eval e X.env) :: starEach es X.env:=by rfl) (hpl:(backTo pos (starEach es X.env)).any (·.1)=false:=by rfl):PV K X (.Call (.Name x p) (e :: es) [] pos) (zan F ar):=zrb cc ho nd ct hr hg zjC ha hj hdb he hpl
theorem zu9 (cc:Callee X.prog X.w X.K X.mg X.base x k ps (spF X.K (arM ar) true F)) (hr:zcT j X.A) (ha:zqy K X (e :: es) ar) (ho:zuK F (arM ar).length:=by exact zmZ) (nd:(arI ar).Nodup:=by decide) (ct:arT ar<=1:=by decide) (hg:Gl X x:=by rfl) (hj:k<=j:=by decide) (hdb:(x == ("__debug__":Str))=false:=by decide)
  (he:starEach (e :: es) X.env=(false,eval e X.env) :: starEach es X.env:=by rfl) (hpl:(backTo pos (starEach es X.env)).any (·.1)=false:=by rfl):PVN K X (.Call (.Name x p) (e :: es) [] pos) (zan F ar):=zo6 cc ho nd ct hr hg zjC ha hj hdb he hpl
theorem zlq (i:Nat) (h:zqy K X es ar) (ha:PE X (.Name y py) (ziv i):=by exact pv _) (hs:starEach (.Name y py :: es) X.env=(false,eval (.Name y py) X.env) :: starEach es X.env:=by rfl):zqy K X (.Name y py :: es) (.m i :: ar):=zva i ha h hs
theorem zeW {id:String} {g:D->R D} (hc:CallD X (.builtin id) g) (hm:X.mg x=none) (hv:bootBuiltins x=some (.builtin id)) (ha:PV K X e f) (hg:Gl X x:=by rfl) (hn:x ≠ "__name__":=by decide) (hdb:(x == ("__debug__":Str))=false:=by decide)
  (he:starEach [e] X.env=(false,eval e X.env) :: starEach [] X.env:=by rfl) (hpl:(backTo pos (starEach [] X.env)).any (·.1)=false:=by rfl):PV K X (.Call (.Name x p) [e] [] pos) (e1 g f):=zl2 (zmT (CallD.ds hc) hg hm hv (a1 ha he) hn hdb he hpl)
theorem zvb {T:String} {g:D->R D} (hc:CallD X (.type T) g) (hm:X.mg x=none) (hv:bootBuiltins x=some (.type T)) (ha:PV K X e f) (hg:Gl X x:=by rfl) (hn:x ≠ "__name__":=by decide) (hdb:(x == ("__debug__":Str))=false:=by decide)
  (he:starEach [e] X.env=(false,eval e X.env) :: starEach [] X.env:=by rfl) (hpl:(backTo pos (starEach [] X.env)).any (·.1)=false:=by rfl):PV K X (.Call (.Name x p) [e] [] pos) (e1 g f):=zl2 (zo8 (CallD.ds hc) hg hm hv (a1 ha he) hn hdb he hpl)
theorem zw6 {id:String} {g:D->R D} (i:Nat) (hc:CallD X (.builtin id) g) (hm:X.mg x=none) (hv:bootBuiltins x=some (.builtin id)) (hg:Gl X x:=by rfl) (ha:PE X (.Name y py) (ziv i):=by exact pv _) (hn:x ≠ "__name__":=by decide) (hdb:(x == ("__debug__":Str))=false:=by decide):PV K X (.Call (.Name x p) [.Name y py] [] pos) (m1 g i):=zvf i hc hg hm hv ha hn hdb
theorem zw4 {T:String} {g:D->R D} (i:Nat) (hc:CallD X (.type T) g) (hm:X.mg x=none) (hv:bootBuiltins x=some (.type T)) (hg:Gl X x:=by rfl) (ha:PE X (.Name y py) (ziv i):=by exact pv _) (hn:x ≠ "__name__":=by decide) (hdb:(x == ("__debug__":Str))=false:=by decide):PV K X (.Call (.Name x p) [.Name y py] [] pos) (m1 g i):=zve i hc hg hm hv ha hn hdb
theorem zjA {T:String} {tn:Str} {p2:Pos} (kt:zmy T) (hm:X.mg "isinstance"=none) (hm2:X.mg tn=none) (hv2:bootBuiltins tn=some (.type T)) (ha:PV K X a f) (hg:Gl X "isinstance":=by rfl) (hg2:Gl X tn:=by rfl) (hn:tn ≠ "__name__":=by decide) (hd:(tn == ("__debug__":Str))=false:=by decide)
  (hs1:starEach [a,.Name tn p2] X.env=(false,eval a X.env) :: starEach [.Name tn p2] X.env:=by rfl) (hs2:starEach [.Name tn p2] X.env=(false,eval (.Name tn p2) X.env) :: starEach [] X.env:=by rfl) (hpl:(backTo pos (starEach [.Name tn p2] X.env)).any (·.1)=false:=by rfl) :
  PV K X (.Call (.Name "isinstance" p) [a,.Name tn p2] [] pos) (e1 (zbB T) f):=zvg kt hg hm hg2 hm2 hv2 ha hn hd hs1 hs2 hpl
theorem znS (hr:zcT j X.A):OpR X (compareOp .Eq) (rD X.K eqD):=zyu hr.units
theorem zlZ (hr:zcT j X.A):OpR X (compareOp .NotEq) (rD X.K neD):=zyq hr.units
theorem zuD (hr:zcT j X.A):OpR X (compareOp .Lt) (rD X.K ltD):=zyr hr.units
theorem zwH (hr:zcT j X.A):OpR X (compareOp .Gt) (rD X.K gtD):=zys hr.units
theorem zxO (hr:zcT j X.A):OpR X (compareOp .GtE) (rD X.K geD):=zyt hr.units
theorem zu6 (hr:zcT j X.A):OpR X (compareOp .NotIn) (rD X.K zuE):=ztQ (zmJ hr)
theorem zw1 (hr:zcT j X.A):OpR X (compareOp .In) (rD X.K zuF):=zvF (ztc hr)
theorem zsn (hr:zcT j X.A):IxR X (rD X.K zgn):=zt7 (zmJ hr)
variable {op:CmpOp} {g:D->D->R D} {z:Str} {pz:Pos}
theorem zo7 (ho:OpR X (compareOp op) (rD X.K g)) (ha:PV K X a f) (hb:PV K X b h) (hm:behindInMarks op b=false:=by first | exact zpp _ | rfl):PV K X (.Compare a [op] [b] pos) (e2 g f h):=zvh ho ha hb hm
theorem zaI (ho:OpR X (compareOp op) (rD X.K g)) (ha:PV K X a f) (hb:PV K X b h) (hm:behindInMarks op b=false:=by first | exact zpp _ | rfl):PVT K X (.Compare a [op] [b] pos) (tB (e2 g f h)):=ztn ho ha hb hm
theorem zoZ (i:Nat) (ho:OpR X (compareOp op) (rD X.K g)) (hb:PV K X a f) (ha:PE X (.Name y py) (ziv i):=by exact pv _) (hm:behindInMarks op (.Name y py)=false:=by first | exact zpp _ | rfl):PVT K X (.Compare a [op] [.Name y py] pos) (tB (m2r g f i)):=ztm i ho hb ha hm
theorem zix (i:Nat) (ho:IxR X (rD X.K g)) (hb:PV K X b h) (ha:PE X (.Name y py) (ziv i):=by exact pv _) (hs:zkc b:=by exact fun _ _=>rfl):PV K X (.Subscript (.Name y py) b pos) (m2 g i h):=zvc i ho ha hb hs
theorem zw5 {op:Operator} (i:Nat) (ho:OpR X (binaryOp op) (rD X.K g)) (hb:PV K X b h) (ha:PE X (.Name y py) (ziv i):=by exact pv _):PV K X (.BinOp (.Name y py) op b pos) (m2 g i h):=zvd i ho ha hb
theorem zaQ (he:PV K X e f):zlO K X [.Return (some e) pos] (zav f):=zaq (ztp he)
theorem zaJ (i:Nat) (hN:X.N.Nodup) (he:PV K X e f) (hi:X.N[i]?=some x:=by rfl) (hx:Loc X.env.scope x:=by first | exact Or.inl rfl | exact Or.inr rfl) (hs:swapsWith e (some (.Name x py)) pos.line X.env=pure false:=by rfl) (hf:X.fn x=true\/X.env.scope.names.lookup x=some .local:=by first | exact .inl rfl | exact .inr rfl | assumption):PSV K X (.Assign [.Name x py] e pos) (zax (gN i) f):=zto hN hi hx he hs hf
theorem zfi (i:Nat) (hN:X.N.Nodup) (he:PVN K X e f) (hi:X.N[i]?=some x:=by rfl) (hx:Loc X.env.scope x:=by first | exact Or.inl rfl | exact Or.inr rfl) (hs:swapsWith e (some (.Name x py)) pos.line X.env=pure false:=by rfl) (hf:X.fn x=true\/X.env.scope.names.lookup x=some .local:=by first | exact .inl rfl | exact .inr rfl | assumption):PSV K X (.Assign [.Name x py] e pos) (zcy i f):=ztr hN hi hx he hs hf
theorem g_n (i:Nat) (hN:X.N.Nodup) (hi:X.N[i]?=some x:=by rfl) (hx:Loc X.env.scope x:=by first | exact Or.inl rfl | exact Or.inr rfl) (hf:X.fn x=true\/X.env.scope.names.lookup x=some .local:=by first | exact .inl rfl | exact .inr rfl | assumption):PVG K X [i] (.Name x pos) (gN i):=zq9 hN hi hx hf
theorem zkx (i j:Nat) {kt k2:Nat} {px pt pt2:Pos} (nd:X.N.Nodup) (ha:PV K X a f) (hb:PV K X b h) (hc:X.calm=true:=by rfl) (hi:X.N[i]?=some x:=by rfl) (hj:X.N[j]?=some y:=by rfl) (ij:i ≠ j:=by decide) (l1:X.env.scope.names.lookup x=some .local:=by rfl) (l2:X.env.scope.names.lookup y=some .local:=by rfl)
  (sw:swappedStores [.Tuple [.Name x px,.Name y py] kt pt] (.Tuple [a,b] k2 pt2) X.env=pure (some [x,y]):=by rfl) (s1:swapsWithSole [.Tuple [.Name x px,.Name y py] kt pt] (.Tuple [a,b] k2 pt2) pos.line X.env=pure false:=by rfl) (s2:starEach [a,b] X.env=(false,eval a X.env) :: starEach [b] X.env:=by rfl) (s3:starEach [b] X.env=(false,eval b X.env) :: starEach [] X.env:=by rfl) :
  PSV K X (.Assign [.Tuple [.Name x px,.Name y py] kt pt] (.Tuple [a,b] k2 pt2) pos) (ziw i j f h):=ztq hc nd hi hj ij l1 l2 ha hb sw s1 s2 s3
variable {it:IF} {gg:GF} {bb:SF} {body:List Stmt} {dom:List Nat} {tg:Expr}
theorem zcD (hi:PVI K X tg e it) (hg:PVG K X dom tg gg) (hb:zlO K X body bb) (hp:PassesOwn (model X.prog X.w) X.A X.env X.xe:=by exact PassesOwn.never) (hc:X.calm=true:=by rfl) (hs:∀ v,foldedSetIterable e X.env v=pure v:=by intro _;rfl):PSV K X (.For tg e body [] pos) (zc7 it gg bb):=zts hp hc hi hg hb hs
variable {elt iter ke ve:Expr} {ifs:List Expr} {scope:Scope} {t:TF} {kf vf:EF}
theorem cp (L:List Str) (ix:List Nat) (M:List Str) (hi:PVI K X tg iter it) (hg:∀ {C:Addr} {s₃:Shared} {H₃:Hp} {fp:List Addr},M.Nodup->PVG K (zar X M scope C s₃ H₃ fp) dom tg gg) (ht:∀ {C:Addr} {s₃:Shared} {H₃:Hp} {fp:List Addr},zs7 K (zar X M scope C s₃ H₃ fp) ifs t) (he:∀ {C:Addr} {s₃:Shared} {H₃:Hp} {fp:List Addr},PV K (zar X M scope C s₃ H₃ fp) elt f)
  (hc:X.calm=true:=by rfl) (hk:scope.kind=.function:=by rfl) (ho:zb7 X.env.scope scope X.N ix=true:=by kernel_rfl) (hM:M=L ++ ix.map (fun i=>X.N.getD i ""):=by rfl) (nd:ix.Nodup:=by decide) (hMn:M.Nodup:=by decide +kernel) (hd:(dom.all fun i=>decide (i < L.length))=true:=by decide) (hs:∀ v,foldedSetIterable iter X.env v=pure v:=by intro _;rfl) :
  PVN K X (.ListComp elt [⟨tg,iter,ifs,0⟩] scope pos) (zaV L.length ix it gg t f):=zq7 L ix M hc hk ho hM nd hi (fun _ _ _ _=>hg hMn) hd (fun _ _ _ _=>ht) (fun _ _ _ _=>he) hs
theorem cpS (i0:Nat) (L:List Str) (ix:List Nat) (M:List Str) (hN:X.N.Nodup) (hi:PVI K X tg iter it) (hg:∀ {C:Addr} {s₃:Shared} {H₃:Hp} {fp:List Addr},M.Nodup->PVG K (zar X M scope C s₃ H₃ fp) dom tg gg) (ht:∀ {C:Addr} {s₃:Shared} {H₃:Hp} {fp:List Addr},zs7 K (zar X M scope C s₃ H₃ fp) ifs t) (he:∀ {C:Addr} {s₃:Shared} {H₃:Hp} {fp:List Addr},PV K (zar X M scope C s₃ H₃ fp) elt f)
  (h0:X.N[i0]?=some x:=by rfl) (hl:X.env.scope.names.lookup x=some .local:=by rfl) (hsw:swapsWith (.ListComp elt [⟨tg,iter,ifs,0⟩] scope pos) (some (.Name x py)) p.line X.env=pure true:=by rfl) (hc:X.calm=true:=by rfl) (hk:scope.kind=.function:=by rfl) (ho:zb7 X.env.scope scope X.N ix=true:=by kernel_rfl) (hM:M=L ++ ix.map (fun i=>X.N.getD i ""):=by rfl) (nd:ix.Nodup:=by decide) (hMn:M.Nodup:=by decide +kernel) (hd:(dom.all fun i=>decide (i < L.length))=true:=by decide) (hs:∀ v,foldedSetIterable iter X.env v=pure v:=by intro _;rfl) :
  PSV K X (.Assign [.Name x py] (.ListComp elt [⟨tg,iter,ifs,0⟩] scope pos) p) (zcy i0 (zaV L.length ix it gg t f)):=zq2 i0 L ix M hN h0 hl hsw hc hk ho hM nd hi (fun _ _ _ _=>hg hMn) hd (fun _ _ _ _=>ht) (fun _ _ _ _=>he) hs
theorem dcp (L:List Str) (ix:List Nat) (M:List Str) (hr:zcT j X.A) (hi:PVI K X tg iter it) (hg:∀ {C:Addr} {s₃:Shared} {H₃:Hp} {fp:List Addr},M.Nodup->PVG K (zar X M scope C s₃ H₃ fp) dom tg gg) (ht:∀ {C:Addr} {s₃:Shared} {H₃:Hp} {fp:List Addr},zs7 K (zar X M scope C s₃ H₃ fp) ifs t) (hke:∀ {C:Addr} {s₃:Shared} {H₃:Hp} {fp:List Addr},PV K (zar X M scope C s₃ H₃ fp) ke kf) (hve:∀ {C:Addr} {s₃:Shared} {H₃:Hp} {fp:List Addr},PV K (zar X M scope C s₃ H₃ fp) ve vf)
  (hc:X.calm=true:=by rfl) (hk:scope.kind=.function:=by rfl) (ho:zb7 X.env.scope scope X.N ix=true:=by kernel_rfl) (hM:M=L ++ ix.map (fun i=>X.N.getD i ""):=by rfl) (nd:ix.Nodup:=by decide) (hMn:M.Nodup:=by decide +kernel) (hd:(dom.all fun i=>decide (i < L.length))=true:=by decide) (hs:∀ v,foldedSetIterable iter X.env v=pure v:=by intro _;rfl) :
  PVN K X (.DictComp ke ve [⟨tg,iter,ifs,0⟩] scope pos) (zi9 L.length ix it gg t kf vf):=zo5 L ix M (zmJ hr) hc hk ho hM nd hi (fun _ _ _ _=>hg hMn) hd (fun _ _ _ _=>ht) (fun _ _ _ _=>hke) (fun _ _ _ _=>hve) hs
end
abbrev CT (x:Str) (k:Nat) (ps:List Str) (n:Nat) (fr:Bool) (G:List D->R D) (P:Program) (w:World) (K:PySem.W.Frag) (mg:Str->Option Value) (base:Heap):Prop:=Callee P w K mg base x k ps (spP K n fr G)
abbrev CTM (x:Str) (k:Nat) (ps:List Str) (ms:List Bool) (fr:Bool) (F:List D->R (D × List D)) (P:Program) (w:World) (K:PySem.W.Frag) (mg:Str->Option Value) (base:Heap):Prop:=Callee P w K mg base x k ps (spF K ms fr F)
end FL
namespace FL
open PySem
def zmm:SF:=(zav (znq (e1 (zbB "int") (eV 0)) (zwm (e1 (zbB "bool") (eV 0)))))
def zgb:List D->R D:=zaZ false 1 1 zmm
def zbq:SF:=(zhi (zdK 3) (tB (e2 neD (eV 3) (eC (.int 0)))) (ziw 2 3 (eV 3) (e2 zjH (eV 2) (eV 3))))
def zbS:SF:=(zao (ziw 2 3 (e1 zqw (eV 0)) (e1 zqw (eV 1)))
  (zao zbq
  (zav (eV 2))))
def zal:List D->R D:=zaZ false 2 4 zbS
def zmk:SF:=(zao (zax (gN 2) (zae zal (zaa (e2 ixD (eV 0) (eC (.int 1))) (zaa (e2 ixD (eV 1) (eC (.int 1))) zai))))
  (zao (ziw 3 4 (e2 zaF (e2 ixD (eV 0) (eC (.int 1))) (eV 2)) (e2 zaF (e2 ixD (eV 1) (eC (.int 1))) (eV 2)))
  (zao (zax (gN 5) (e2 zbb (e2 za9 (e2 ixD (eV 0) (eC (.int 0))) (eV 4)) (e2 za9 (e2 ixD (eV 1) (eC (.int 0))) (eV 3))))
  (zao (zax (gN 6) (zae zal (zaa (eV 5) (zaa (eV 2) zai))))
  (zav (zbW (zaa (e2 zaF (eV 5) (eV 6)) (zaa (e2 za9 (eV 3) (e2 zaF (e2 ixD (eV 1) (eC (.int 1))) (eV 6))) zai))))))))
def zlG:List D->R D:=zaZ false 2 7 zmk
def zjZ:SF:=(zao (ziw 2 3 (zae zal (zaa (e2 ixD (eV 0) (eC (.int 0))) (zaa (e2 ixD (eV 1) (eC (.int 1))) zai))) (zae zal (zaa (e2 ixD (eV 1) (eC (.int 0))) (zaa (e2 ixD (eV 0) (eC (.int 1))) zai))))
  (zav (zbW (zaa (e2 za9 (e2 zaF (e2 ixD (eV 0) (eC (.int 0))) (eV 2)) (e2 zaF (e2 ixD (eV 1) (eC (.int 0))) (eV 3))) (zaa (e2 za9 (e2 zaF (e2 ixD (eV 0) (eC (.int 1))) (eV 3)) (e2 zaF (e2 ixD (eV 1) (eC (.int 1))) (eV 2))) zai)))))
def zki:List D->R D:=zaZ false 2 4 zjZ
end FL
namespace FL
open PySem
def num (r:Rat):D:=.tuple [.int r.num,.int (r.den:Int)]
theorem zrB {h l:Nat} (p:l ≠ 0):zjH (.int (h:Int)) (.int (l:Int))=.ok (.int ((h % l:Nat):Int)):=by
 show chk (decide ((l:Int) ≠ 0)) _=_
 rw [zay (by simpa using p)]
 rw [Int.fmod_eq_emod_of_nonneg _ (by omega)]
 rfl
theorem zjY (x0 x1:Sl):∀ (n h l:Nat),l < n->zg8 (tB (e2 neD (eV 3) (eC (.int 0)))) (ziw 2 3 (eV 3) (e2 zjH (eV 2) (eV 3))) n [x0,x1,.val (.int (h:Int)),.val (.int (l:Int))]=.ok (.nx,[x0,x1,.val (.int ((Nat.gcd h l:Nat):Int)),.val (.int 0)])
 | 0,h,l,p=>by omega
 | n + 1,h,l,p=>by
  unfold zg8
  by_cases c:l=0
  ·subst c
   have e:neD (.int ((0:Nat):Int)) (.int 0)=.ok (.bool false):=by rw [zdc];rfl
   simp only [tB,FL.e2,eV,List.getElem?_cons_succ,List.getElem?_cons_zero,eC,zac,e,ziw,gN,Bool.false_eq_true,if_false,Nat.gcd_zero_right]
   rfl
  ·have e:neD (.int (l:Int)) (.int 0)=.ok (.bool true):=by
    rw [zdc,decide_eq_false (by omega)];rfl
   simp only [tB,FL.e2,eV,List.getElem?_cons_succ,List.getElem?_cons_zero,eC,zac,e,ziw,gN,zrB c,List.set_cons_succ,List.set_cons_zero,if_true]
   have ih:=zjY x0 x1 n l (h % l) (by have:=Nat.mod_lt h (Nat.pos_of_ne_zero c);omega)
   rw [ih,Nat.gcd_comm l,<- Nat.gcd_rec,Nat.gcd_comm]
theorem znH (i:Int):zqw (.int i)=.ok (.int (i.natAbs:Int)):=by
 show R.ok (PyData.int (if i < 0 then -i else i))=_
 congr 2
 split <;> omega
theorem zgm (a b:Int):zal [.int a,.int b]=.ok (.int (Int.gcd a b:Int)):=by
 have e1:ziw 2 3 (FL.e1 zqw (eV 0)) (FL.e1 zqw (eV 1)) [.val (.int a),.val (.int b),.no,.no]=.ok (.nx,[.val (.int a),.val (.int b),.val (.int (a.natAbs:Int)),.val (.int (b.natAbs:Int))]):=by
  simp only [ziw,FL.e1,eV,List.getElem?_cons_zero,zac,znH,gN,List.getElem?_cons_succ,List.set_cons_succ,List.set_cons_zero]
 have e2:zbq [.val (.int a),.val (.int b),.val (.int (a.natAbs:Int)),.val (.int (b.natAbs:Int))]=.ok (.nx,[.val (.int a),.val (.int b),.val (.int ((Nat.gcd a.natAbs b.natAbs:Nat):Int)),.val (.int 0)]):=by
  unfold zbq zhi
  have:zdK 3 [.val (.int a),.val (.int b),.val (.int (a.natAbs:Int)),.val (.int (b.natAbs:Int))]=b.natAbs + 1:=by
   show ((b.natAbs:Int)).natAbs + 1=_
   simp
  rw [this]
  exact zjY _ _ _ _ _ (by omega)
 show ((zbS [.val (.int a),.val (.int b),.no,.no]).bind _).bind _=_
 unfold zbS
 rw [zaj e1,zaj e2]
 rfl
theorem zcS {i:Int} {j:Nat} {n:Nat} (hj:j ≠ 0) (hb:j < 2 ^ n) (hn:n<=90000000):zaF (.int i) (.int (j:Int))=.ok (.int (i / (j:Int))):=by
 show chk (decide ((j:Int) ≠ 0)) _=_
 rw [zay (by simpa using hj),Int.fdiv_eq_ediv_of_nonneg _ (by omega)]
theorem zlj {r:Rat} {n:Nat} (h:QR.Bd n r):Bd r.num n/\Bd (r.den:Int) n:=⟨⟨h.1⟩,⟨by simpa using h.2⟩⟩
theorem zgr {i:Int} {n:Nat} {j:Nat} (h:Bd i n):Bd (i / (j:Int)) n:=⟨Nat.lt_of_le_of_lt (Int.natAbs_ediv_le_natAbs i (j:Int)) h.h⟩
theorem zk4 {a:Int} {b:Nat} {n:Nat} (hb:b ≠ 0) (h:b < 2 ^ n):Int.gcd a (b:Int) ≠ 0/\Int.gcd a (b:Int) < 2 ^ n:=by
 have h1:0 < Int.gcd a (b:Int):=Int.gcd_pos_of_ne_zero_right a (by omega)
 have h2:Int.gcd a (b:Int) ∣ b:=by
  have:=Int.gcd_dvd_right a (b:Int)
  exact Int.natCast_dvd_natCast.mp this
 have h3:=Nat.le_of_dvd (Nat.pos_of_ne_zero hb) h2
 omega
theorem ztD {r s:Rat} {n:Nat} (hr:QR.Bd n r) (hs:QR.Bd n s) (hn:n<=40000000):zlG [num r,num s]=.ok (num (r + s)):=by
 have gS:=zk4 (a:=(r.den:Int)) s.den_nz hs.2
 generalize hg:Int.gcd (r.den:Int) (s.den:Int)=g at gS
 have k1:zal [.int (r.den:Int),.int (s.den:Int)]=.ok (.int (g:Int)):=by rw [zgm,hg]
 have k2:zaF (.int (r.den:Int)) (.int (g:Int))=.ok (.int ((r.den:Int) / (g:Int))):=zcS gS.1 gS.2 (by omega)
 have k3:zaF (.int (s.den:Int)) (.int (g:Int))=.ok (.int ((s.den:Int) / (g:Int))):=zcS gS.1 gS.2 (by omega)
 have br:=zlj hr
 have bs:=zlj hs
 have k4:za9 (.int r.num) (.int ((s.den:Int) / (g:Int)))=.ok (.int (r.num * ((s.den:Int) / (g:Int)))):=zaO br.1 (zgr bs.2) (by omega)
 have k5:za9 (.int s.num) (.int ((r.den:Int) / (g:Int)))=.ok (.int (s.num * ((r.den:Int) / (g:Int)))):=zaO bs.1 (zgr br.2) (by omega)
 generalize ht:r.num * ((s.den:Int) / (g:Int)) + s.num * ((r.den:Int) / (g:Int))=top
 have gT:=zk4 (a:=top) gS.1 gS.2
 generalize he:Int.gcd top (g:Int)=e at gT
 have k6:zal [.int top,.int (g:Int)]=.ok (.int (e:Int)):=by rw [zgm,he]
 have k7:zaF (.int top) (.int (e:Int))=.ok (.int (top / (e:Int))):=zcS gT.1 gT.2 (by omega)
 have k8:zaF (.int (s.den:Int)) (.int (e:Int))=.ok (.int ((s.den:Int) / (e:Int))):=zcS gT.1 gT.2 (by omega)
 have k9:za9 (.int ((r.den:Int) / (g:Int))) (.int ((s.den:Int) / (e:Int)))=.ok (.int (((r.den:Int) / (g:Int)) * ((s.den:Int) / (e:Int)))):=zaO (zgr br.2) (zgr bs.2) (by omega)
 have x0:∀ (a b:Int),ixD (.tuple [.int a,.int b]) (.int 0)=.ok (.int a):=fun a b=>rfl
 have x1:∀ (a b:Int),ixD (.tuple [.int a,.int b]) (.int 1)=.ok (.int b):=fun a b=>rfl
 have l2:leB 2 lim=true:=by decide
 have ad:∀ (a b:Int),zbb (.int a) (.int b)=.ok (.int (a + b)):=fun _ _=>rfl
 have fin:num (r + s)=.tuple [.int (top / (e:Int)),.int (((r.den:Int) / (g:Int)) * ((s.den:Int) / (e:Int)))]:=by
  have h1:=Q1.zl3 (QR.low r) (QR.low s)
  rw [QR.add] at h1
  unfold Q1.znU at h1
  simp only [hg,ht,he] at h1
  unfold num
  rw [<- (Prod.mk.inj h1).1,<- (Prod.mk.inj h1).2]
 have s1:zax (gN 2) (zae zal (zaa (e2 ixD (eV 0) (eC (.int 1))) (zaa (e2 ixD (eV 1) (eC (.int 1))) zai))) [.val (num r),.val (num s),.no,.no,.no,.no,.no]=.ok (.nx,[.val (num r),.val (num s),.val (.int (g:Int)),.no,.no,.no,.no]):=by
  unfold num
  simp only [zax,zae,zaa,FL.e2,eV,List.getElem?_cons_zero,eC,zac,x1,zai,List.getElem?_cons_succ,k1,gN,List.set_cons_succ,List.set_cons_zero]
 have s2:ziw 3 4 (e2 zaF (e2 ixD (eV 0) (eC (.int 1))) (eV 2)) (e2 zaF (e2 ixD (eV 1) (eC (.int 1))) (eV 2)) [.val (num r),.val (num s),.val (.int (g:Int)),.no,.no,.no,.no]=.ok (.nx,[.val (num r),.val (num s),.val (.int (g:Int)),.val (.int ((r.den:Int) / (g:Int))),.val (.int ((s.den:Int) / (g:Int))),.no,.no]):=by
  unfold num
  simp only [ziw,FL.e2,eV,List.getElem?_cons_zero,eC,zac,x1,List.getElem?_cons_succ,k2,gN,k3,List.set_cons_succ,List.set_cons_zero]
 have s3:zax (gN 5) (e2 zbb (e2 za9 (e2 ixD (eV 0) (eC (.int 0))) (eV 4)) (e2 za9 (e2 ixD (eV 1) (eC (.int 0))) (eV 3))) [.val (num r),.val (num s),.val (.int (g:Int)),.val (.int ((r.den:Int) / (g:Int))),.val (.int ((s.den:Int) / (g:Int))),.no,.no]=.ok (.nx,[.val (num r),.val (num s),.val (.int (g:Int)),.val (.int ((r.den:Int) / (g:Int))),.val (.int ((s.den:Int) / (g:Int))),.val (.int top),.no]):=by
  unfold num
  simp only [zax,FL.e2,eV,List.getElem?_cons_zero,eC,zac,x0,List.getElem?_cons_succ,k4,k5,ad,ht,gN,List.set_cons_succ,List.set_cons_zero]
 have s4:zax (gN 6) (zae zal (zaa (eV 5) (zaa (eV 2) zai))) [.val (num r),.val (num s),.val (.int (g:Int)),.val (.int ((r.den:Int) / (g:Int))),.val (.int ((s.den:Int) / (g:Int))),.val (.int top),.no]=.ok (.nx,[.val (num r),.val (num s),.val (.int (g:Int)),.val (.int ((r.den:Int) / (g:Int))),.val (.int ((s.den:Int) / (g:Int))),.val (.int top),.val (.int (e:Int))]):=by
  simp only [zax,zae,zaa,eV,List.getElem?_cons_succ,List.getElem?_cons_zero,zai,zac,k6,gN,List.set_cons_succ,List.set_cons_zero]
 have s5:zav (zbW (zaa (e2 zaF (eV 5) (eV 6)) (zaa (e2 za9 (eV 3) (e2 zaF (e2 ixD (eV 1) (eC (.int 1))) (eV 6))) zai))) [.val (num r),.val (num s),.val (.int (g:Int)),.val (.int ((r.den:Int) / (g:Int))),.val (.int ((s.den:Int) / (g:Int))),.val (.int top),.val (.int (e:Int))]=.ok (.rt (num (r + s)),[.val (num r),.val (num s),.val (.int (g:Int)),.val (.int ((r.den:Int) / (g:Int))),.val (.int ((s.den:Int) / (g:Int))),.val (.int top),.val (.int (e:Int))]):=by
  rw [fin]
  unfold num
  simp only [zav,zbW,zaa,FL.e2,eV,List.getElem?_cons_succ,List.getElem?_cons_zero,zac,k7,eC,zai,x1,k8,k9,List.length_cons,List.length_nil,Nat.reduceAdd,zay l2]
 show ((zmk [.val (num r),.val (num s),.no,.no,.no,.no,.no]).bind _).bind _=_
 unfold zmk
 rw [zaj s1,zaj s2,zaj s3,zaj s4,s5]
 rfl
theorem zmL {r s:Rat} {n:Nat} (hr:QR.Bd n r) (hs:QR.Bd n s) (hn:n<=40000000):zki [num r,num s]=.ok (num (r * s)):=by
 have gS:=zk4 (a:=r.num) s.den_nz hs.2
 generalize hg:Int.gcd r.num (s.den:Int)=g at gS
 have gT:=zk4 (a:=s.num) r.den_nz hr.2
 generalize he:Int.gcd s.num (r.den:Int)=e at gT
 have k1:zal [.int r.num,.int (s.den:Int)]=.ok (.int (g:Int)):=by rw [zgm,hg]
 have k2:zal [.int s.num,.int (r.den:Int)]=.ok (.int (e:Int)):=by rw [zgm,he]
 have k3:zaF (.int r.num) (.int (g:Int))=.ok (.int (r.num / (g:Int))):=zcS gS.1 gS.2 (by omega)
 have k4:zaF (.int s.num) (.int (e:Int))=.ok (.int (s.num / (e:Int))):=zcS gT.1 gT.2 (by omega)
 have k5:zaF (.int (r.den:Int)) (.int (e:Int))=.ok (.int ((r.den:Int) / (e:Int))):=zcS gT.1 gT.2 (by omega)
 have k6:zaF (.int (s.den:Int)) (.int (g:Int))=.ok (.int ((s.den:Int) / (g:Int))):=zcS gS.1 gS.2 (by omega)
 have br:=zlj hr
 have bs:=zlj hs
 have k7:za9 (.int (r.num / (g:Int))) (.int (s.num / (e:Int)))=.ok (.int (r.num / (g:Int) * (s.num / (e:Int)))):=zaO (zgr br.1) (zgr bs.1) (by omega)
 have k8:za9 (.int ((r.den:Int) / (e:Int))) (.int ((s.den:Int) / (g:Int)))=.ok (.int ((r.den:Int) / (e:Int) * ((s.den:Int) / (g:Int)))):=zaO (zgr br.2) (zgr bs.2) (by omega)
 have x0:∀ (a b:Int),ixD (.tuple [.int a,.int b]) (.int 0)=.ok (.int a):=fun a b=>rfl
 have x1:∀ (a b:Int),ixD (.tuple [.int a,.int b]) (.int 1)=.ok (.int b):=fun a b=>rfl
 have l2:leB 2 lim=true:=by decide
 have fin:num (r * s)=.tuple [.int (r.num / (g:Int) * (s.num / (e:Int))),.int ((r.den:Int) / (e:Int) * ((s.den:Int) / (g:Int)))]:=by
  have h1:=Q1.zqV (QR.low r) (QR.low s)
  rw [QR.mul] at h1
  unfold Q1.zmM at h1
  simp only [hg,he] at h1
  unfold num
  rw [<- (Prod.mk.inj h1).1,<- (Prod.mk.inj h1).2]
 have s1:ziw 2 3 (zae zal (zaa (e2 ixD (eV 0) (eC (.int 0))) (zaa (e2 ixD (eV 1) (eC (.int 1))) zai))) (zae zal (zaa (e2 ixD (eV 1) (eC (.int 0))) (zaa (e2 ixD (eV 0) (eC (.int 1))) zai))) [.val (num r),.val (num s),.no,.no]=.ok (.nx,[.val (num r),.val (num s),.val (.int (g:Int)),.val (.int (e:Int))]):=by
  unfold num
  simp only [ziw,zae,zaa,FL.e2,eV,List.getElem?_cons_zero,eC,zac,x0,zai,List.getElem?_cons_succ,x1,k1,gN,k2,List.set_cons_succ,List.set_cons_zero]
 have s5:zav (zbW (zaa (e2 za9 (e2 zaF (e2 ixD (eV 0) (eC (.int 0))) (eV 2)) (e2 zaF (e2 ixD (eV 1) (eC (.int 0))) (eV 3))) (zaa (e2 za9 (e2 zaF (e2 ixD (eV 0) (eC (.int 1))) (eV 3)) (e2 zaF (e2 ixD (eV 1) (eC (.int 1))) (eV 2))) zai))) [.val (num r),.val (num s),.val (.int (g:Int)),.val (.int (e:Int))]=.ok (.rt (num (r * s)),[.val (num r),.val (num s),.val (.int (g:Int)),.val (.int (e:Int))]):=by
  rw [fin]
  unfold num
  simp only [zav,zbW,zaa,FL.e2,eV,List.getElem?_cons_zero,eC,zac,x0,List.getElem?_cons_succ,k3,k4,k7,zai,x1,k5,k6,k8,List.length_cons,List.length_nil,Nat.reduceAdd,zay l2]
 show ((zjZ [.val (num r),.val (num s),.no,.no]).bind _).bind _=_
 unfold zjZ
 rw [zaj s1,s5]
 rfl
end FL
namespace FL
open PySem
abbrev Sm:=List (List Int × Rat)
theorem zsx (r s:Rat):neD (num r) (num s)=.ok (.bool (!decide (r=s))):=by
 have e:decide (([r.num,(r.den:Int)]:List Int)=[s.num,(s.den:Int)])=decide (r=s):=by
  by_cases c:r=s
  ·subst c;simp
  ·rw [decide_eq_false c,decide_eq_false]
   intro z
   simp only [List.cons.injEq,and_true,Int.natCast_inj] at z
   exact c (Rat.ext z.1 z.2)
 rw [<- e]
 exact zvM [r.num,(r.den:Int)] [s.num,(s.den:Int)]
theorem zyv:(PyData.tuple [.int 0,.int 1]:D)=num 0:=rfl
def Nk (s:Sm):Prop:=(s.map (·.1)).Nodup
structure zyN (P:Nat->Rat->Prop) (Q:Rat->Prop) (N:Nat):Prop where
 z:∀ i,P i 0
 up:∀ i r,P i r->P (i + 1) r
 add:∀ i r q,P i r->Q q->P (i + 1) (r + q)
 bp:∀ i r,i<=N->P i r->QR.Bd 4000 r
 bq:∀ q,Q q->QR.Bd 4000 q
structure Fit (P:Nat->Rat->Prop) (i:Nat) (s:Sm):Prop where
 nk:Nk s
 sz:∀ p ∈ s,P i p.2
end FL
namespace FL
open PySem
def Ws (n:Nat) (s:Sm):Prop:=∀ p ∈ s,p.1.length<=n
def Iv (M:Nat) (r:Rat):Prop:=r.den=1/\r.num.natAbs<=M
structure Whl (l M n:Nat) (s:Sm):Prop where
 nk:Nk s
 ln:s.length<=l
 sz:∀ p ∈ s,Iv M p.2
 ws:Ws n s
end FL
namespace FL
open PySem
theorem zbz {k n:Nat} {b:SF} {ds:List D} {ρ:En} {d:D} (hl:ds.length=k) (h:b (slots (List.replicate k false) ds ++ List.replicate (n - ds.length) .no)=.ok (.rt d,ρ)):zaZ false k n b ds=.ok d:=by
 unfold zaZ FL.run
 rw [if_pos (by rw [List.length_replicate];exact hl),h]
 rfl
theorem zdL {k n:Nat} {b:SF} {ds:List D} {ρ:En} {d:D} (hl:ds.length=k) (h:b (slots (List.replicate k false) ds ++ List.replicate (n - ds.length) .no)=.ok (.rf d,ρ)):zaZ true k n b ds=.ok d:=by
 unfold zaZ FL.run
 rw [if_pos (by rw [List.length_replicate];exact hl),h]
 rfl
theorem zti {k n:Nat} {b:SF} {ds:List D} {ρ:En} (hl:ds.length=k) (h:b (slots (List.replicate k false) ds ++ List.replicate (n - ds.length) .no)=.ok (.nx,ρ)):zaZ false k n b ds=.ok .none:=by
 unfold zaZ FL.run
 rw [if_pos (by rw [List.length_replicate];exact hl),h]
 rfl
inductive Tr where
 | leaf (i:Int)
 | node (a b:Tr)
deriving DecidableEq
def nB:Tr->Nat
 | .leaf _=>1
 | .node a b=>nB a + nB b
def kyS (p:List Int × Rat):WK:=((p.1.length:Int),p.1)
def zxT (x:List Int × Rat):Sm->Sm
 | []=>[x]
 | y :: r=>if ltW (kyS y) (kyS x)=true then y :: zxT x r else x :: y :: r
def zuY:Sm->Sm
 | []=>[]
 | x :: r=>zxT x (zuY r)
def tln (p:List Int × Rat):D:=.tuple [tp p.1,num p.2]
end FL
namespace FL
open PySem
def zdU:SF:=(zhi (zdK 3) (tB (e2 neD (eV 3) (eC (.int 0)))) (ziw 2 3 (eV 3) (e2 zjH (eV 2) (eV 3))))
def zf4:SF:=(zao (zax (gN 2) (e1 zqw (eV 0)))
  (zao (zax (gN 3) (eV 1))
  (zao zdU
  (zav (zbW (zaa (e2 zaF (eV 0) (eV 2)) (zaa (e2 zaF (eV 1) (eV 2)) zai)))))))
def zbo:List D->R D:=zaZ false 2 4 zf4
def zd6:SF:=(zao (sIf (FL.tOr (FL.zce (tE (e1 (zbB "tuple") (eV 0)))) (tB (e2 neD (e1 zcd (eV 0)) (eC (.int 2))))) (zav (eC (.bool false))) sNx)
  (zao (zax (gT [(gN 1),(gN 2)]) (eV 0))
  (zao (sIf (FL.tOr (FL.zce (tE (zae zgb (zaa (eV 1) zai)))) (FL.tOr (FL.zce (tE (zae zgb (zaa (eV 2) zai)))) (tB (e2 ltD (eV 2) (eC (.int 1)))))) (zav (eC (.bool false))) sNx)
  (zav (e2 eqD (zae zal (zaa (eV 1) (zaa (eV 2) zai))) (eC (.int 1)))))))
def zij:List D->R D:=zaZ false 1 3 zd6
def ze2:SF:=(zav (zae zbo (zaa (e2 zbb (e2 za9 (e2 ixD (eV 0) (eC (.int 0))) (e2 ixD (eV 1) (eC (.int 1)))) (e2 za9 (e2 ixD (eV 1) (eC (.int 0))) (e2 ixD (eV 0) (eC (.int 1))))) (zaa (e2 za9 (e2 ixD (eV 0) (eC (.int 1))) (e2 ixD (eV 1) (eC (.int 1)))) zai))))
def zc5:List D->R D:=zaZ false 2 2 ze2
def zhI:SF:=(zav (zae zbo (zaa (e2 za9 (e2 ixD (eV 0) (eC (.int 0))) (e2 ixD (eV 1) (eC (.int 0)))) (zaa (e2 za9 (e2 ixD (eV 0) (eC (.int 1))) (e2 ixD (eV 1) (eC (.int 1)))) zai))))
def zg5:List D->R D:=zaZ false 2 2 zhI
end FL
namespace FL
open PySem
theorem zjJ (t:Int) {b n:Nat} (hb:b ≠ 0) (hl:b < 2 ^ n) (hn:n<=90000000):zbo [.int t,.int (b:Int)]=.ok (.tuple [.int (Q1.fr t (b:Int)).1,.int (Q1.fr t (b:Int)).2]):=by
 have gS:=zk4 (a:=t) hb hl
 have s1:zax (gN 2) (FL.e1 zqw (eV 0)) [.val (.int t),.val (.int (b:Int)),.no,.no]=.ok (.nx,[.val (.int t),.val (.int (b:Int)),.val (.int (t.natAbs:Int)),.no]):=by
  simp only [zax,FL.e1,eV,List.getElem?_cons_zero,zac,znH,gN,List.getElem?_cons_succ,List.set_cons_succ,List.set_cons_zero]
 have s2:zax (gN 3) (eV 1) [.val (.int t),.val (.int (b:Int)),.val (.int (t.natAbs:Int)),.no]=.ok (.nx,[.val (.int t),.val (.int (b:Int)),.val (.int (t.natAbs:Int)),.val (.int (b:Int))]):=rfl
 have s3:zdU [.val (.int t),.val (.int (b:Int)),.val (.int (t.natAbs:Int)),.val (.int (b:Int))]=.ok (.nx,[.val (.int t),.val (.int (b:Int)),.val (.int ((Int.gcd t (b:Int):Nat):Int)),.val (.int 0)]):=by
  unfold zdU zhi
  have:zdK 3 [.val (.int t),.val (.int (b:Int)),.val (.int (t.natAbs:Int)),.val (.int (b:Int))]=b + 1:=by
   show ((b:Int)).natAbs + 1=_
   simp
  rw [this]
  exact zjY _ _ _ _ _ (by omega)
 have k1:zaF (.int t) (.int ((Int.gcd t (b:Int):Nat):Int))=.ok (.int (t / ((Int.gcd t (b:Int):Nat):Int))):=zcS gS.1 gS.2 hn
 have k2:zaF (.int (b:Int)) (.int ((Int.gcd t (b:Int):Nat):Int))=.ok (.int ((b:Int) / ((Int.gcd t (b:Int):Nat):Int))):=zcS gS.1 gS.2 hn
 have l2:leB 2 lim=true:=by decide
 show ((zf4 [.val (.int t),.val (.int (b:Int)),.no,.no]).bind _).bind _=_
 unfold zf4
 rw [zaj s1,zaj s2,zaj s3]
 simp only [zav,zbW,zaa,FL.e2,eV,List.getElem?_cons_zero,zac,List.getElem?_cons_succ,k1,zai,k2,List.length_cons,List.length_nil,Nat.reduceAdd,zay l2,List.replicate,outs,outD]
 rw [Q1.znj (by omega)]
theorem zsB (t:Int) {b n:Nat} (hb:b ≠ 0) (hl:b < 2 ^ n) (hn:n<=90000000):zbo [.int t,.int (b:Int)]=.ok (num (Rat.normalize t b hb)):=by
 rw [zjJ t hb hl hn,QR.norm hb]
 rfl
theorem lx0 (a b:Int):ixD (.tuple [.int a,.int b]) (.int 0)=.ok (.int a):=rfl
theorem lx1 (a b:Int):ixD (.tuple [.int a,.int b]) (.int 1)=.ok (.int b):=rfl
theorem zjI {r s:Rat} {n:Nat} (hr:QR.Bd n r) (hs:QR.Bd n s) (hn:n<=40000000):zc5 [num r,num s]=.ok (num (r + s)):=by
 have br:=zlj hr
 have bs:=zlj hs
 have k1:za9 (.int r.num) (.int (s.den:Int))=.ok (.int (r.num * (s.den:Int))):=zaO br.1 bs.2 (by omega)
 have k2:za9 (.int s.num) (.int (r.den:Int))=.ok (.int (s.num * (r.den:Int))):=zaO bs.1 br.2 (by omega)
 have k3:za9 (.int (r.den:Int)) (.int (s.den:Int))=.ok (.int ((r.den:Int) * (s.den:Int))):=zaO br.2 bs.2 (by omega)
 have ad:∀ (a b:Int),zbb (.int a) (.int b)=.ok (.int (a + b)):=fun _ _=>rfl
 have nz:r.den * s.den ≠ 0:=Nat.mul_ne_zero r.den_nz s.den_nz
 have k4:zbo [.int (r.num * (s.den:Int) + s.num * (r.den:Int)),.int ((r.den:Int) * (s.den:Int))]=.ok (num (r + s)):=by
  have:=zjJ (r.num * (s.den:Int) + s.num * (r.den:Int)) nz (QR.zfn hr.2 hs.2) (by omega)
  rw [Int.natCast_mul] at this
  rw [this,QR.add]
  rfl
 refine zbz (ρ:=[.val (num r),.val (num s)]) rfl ?_
 show ze2 [.val (num r),.val (num s)]=.ok (_,[.val (num r),.val (num s)])
 unfold ze2 num
 simp only [zav,zae,zaa,FL.e2,eV,List.getElem?_cons_zero,eC,zac,lx0,List.getElem?_cons_succ,lx1,k1,k2,ad,zai,k3,k4]
 rfl
theorem zsF {r s:Rat} {n:Nat} (hr:QR.Bd n r) (hs:QR.Bd n s) (hn:n<=40000000):zg5 [num r,num s]=.ok (num (r * s)):=by
 have br:=zlj hr
 have bs:=zlj hs
 have k1:za9 (.int r.num) (.int s.num)=.ok (.int (r.num * s.num)):=zaO br.1 bs.1 (by omega)
 have k3:za9 (.int (r.den:Int)) (.int (s.den:Int))=.ok (.int ((r.den:Int) * (s.den:Int))):=zaO br.2 bs.2 (by omega)
 have nz:r.den * s.den ≠ 0:=Nat.mul_ne_zero r.den_nz s.den_nz
 have k4:zbo [.int (r.num * s.num),.int ((r.den:Int) * (s.den:Int))]=.ok (num (r * s)):=by
  have:=zjJ (r.num * s.num) nz (QR.zfn hr.2 hs.2) (by omega)
  rw [Int.natCast_mul] at this
  rw [this,QR.mul]
  rfl
 refine zbz (ρ:=[.val (num r),.val (num s)]) rfl ?_
 show zhI [.val (num r),.val (num s)]=.ok (_,[.val (num r),.val (num s)])
 unfold zhI num
 simp only [zav,zae,zaa,FL.e2,eV,List.getElem?_cons_zero,eC,zac,lx0,List.getElem?_cons_succ,k1,zai,lx1,k3,k4]
 rfl
end FL
namespace FL
open PySem
def told (s:Sm):D:=.list ((zuY s).map tln)
theorem zjb {α:Type} {k:Nat} {ix:List Nat} {g:GF} {t:TF} {kf vf:EF} {ρ:En} {f:α->D} (all:List α) (P:List α->D->Prop)
  (st:∀ done x rest acc,all=done ++ x :: rest->P done acc->∃ acc',P (done ++ [x]) acc'/\∀ tail,zgo k ix g t kf vf (f x :: tail) ρ acc=zgo k ix g t kf vf tail ρ acc'):∀ (xs done:List α) (acc:D),all=done ++ xs->P done acc ->
  ∃ acc',P all acc'/\zgo k ix g t kf vf (xs.map f) ρ acc=.ok (acc',ρ)
 | [],done,acc,ha,h=>⟨acc,by rw [ha];simpa using h,rfl⟩
 | x :: r,done,acc,ha,h=>by
  obtain ⟨a1,h1,e1'⟩:=st done x r acc ha h
  obtain ⟨a2,h2,e2'⟩:=zjb all P st r (done ++ [x]) a1 (by rw [ha];simp) h1
  refine ⟨a2,h2,?_⟩
  rw [List.map_cons,e1',e2']
theorem zt9 (r:Rat):zij [num r]=.ok (.bool true):=by
 have k1:zbB "tuple" (num r)=.ok (.bool true):=rfl
 have wh:∀ i:Int,zgb [.int i]=.ok (.bool true):=fun _=>rfl
 have k3:ltD (.int (r.den:Int)) (.int 1)=.ok (.bool false):=by
  rw [zhw];congr 2
  have:=r.den_nz
  exact decide_eq_false (by omega)
 have k4:zal [.int r.num,.int (r.den:Int)]=.ok (.int 1):=by
  rw [zgm];congr 2
  have:=(QR.low r).cop
  omega
 have k5:neD (.int 2) (.int 2)=.ok (.bool false):=by rw [zdc];rfl
 have k6:eqD (.int 1) (.int 1)=.ok (.bool true):=by rw [zbT];rfl
 have k7:gT [gN 1,gN 2] (num r) [.val (num r),.no,.no]=.ok [.val (num r),.val (.int r.num),.val (.int (r.den:Int))]:=rfl
 refine zbz (ρ:=[.val (num r),.val (.int r.num),.val (.int (r.den:Int))]) rfl ?_
 show zd6 [.val (num r),.no,.no]=_
 unfold zd6
 have s1:sIf (FL.tOr (FL.zce (tE (FL.e1 (zbB "tuple") (eV 0)))) (tB (FL.e2 neD (FL.e1 zcd (eV 0)) (eC (.int 2))))) (zav (eC (.bool false))) sNx [.val (num r),.no,.no]=.ok (.nx,[.val (num r),.no,.no]):=by
  have l2:zcd (num r)=.ok (.int 2):=rfl
  simp only [sIf,FL.tOr,FL.zce,tE,tB,FL.e1,FL.e2,eV,eC,sNx,zac,List.getElem?_cons_zero,k1,l2,k5,zlS,Bool.not_true,Bool.false_eq_true,if_false,if_true]
 have s2:zax (gT [gN 1,gN 2]) (eV 0) [.val (num r),.no,.no]=.ok (.nx,[.val (num r),.val (.int r.num),.val (.int (r.den:Int))]):=rfl
 rw [zaj s1,zaj s2]
 simp only [zao,sIf,FL.tOr,FL.zce,tE,zae,zaa,eV,List.getElem?_cons_succ,List.getElem?_cons_zero,zai,zac,wh,zlS,Bool.not_true,tB,FL.e2,eC,Bool.false_eq_true,k3,if_false,zav,sNx,k4,k6]
end FL
namespace FL
open PySem
structure Wok (c:Int) (p:List Int × Rat):Prop where
 ln:p.1.length<=5
 lt:∀ x ∈ p.1,0<=x/\x < c
 nz:p.2 ≠ 0
inductive zwD (p:List Int × Rat):D->Prop where
 | none:zwD p .none
 | some (p':List Int × Rat):ltW (kyS p') (kyS p)=true->zwD p (tln p')
end FL
namespace FL
open PySem
theorem zql {F:List D->R (D × List D)} {i:Nat} {ρ:En} {p:Bool} {d r d':D} (hi:ρ[i]?=some (.ow p d)) (hF:F [d]=.ok (r,[d'])):zan F [.m i] ρ=.ok (r,ρ.set i (.ow p d')):=by
 have h:=zdn (F:=fun l=>match l with | [a,b]=>(F [a]).bind fun y=>.ok (y.1,y.2 ++ [b]) | _=>.bad) (f:=eC .none) (v:=.none) (v':=.none) (r:=r) (d':=d') hi rfl (by show (F [d]).bind _=_;rw [hF];rfl)
 have hm:zaU ρ i=.ok d:=by unfold zaU;rw [hi]
 unfold zan at h ⊢
 simp only [znE,hm,zac,eC,zls,hF] at h ⊢
 exact h
structure Dr (c:Int) (n:Nat) (s:Sm):Prop where
 nk:Nk s
 wk:∀ p ∈ s,Wok c p
 bd:∀ p ∈ s,QR.Bd 14 p.2
 ln:s.length<=n
end FL
namespace MD
abbrev Rw:=Nat->Int
def ex (f:List Nat->Int) (w:Rw):List Nat->List Nat->Int
 | _,[]=>0
 | pre,c :: cs=>w c * f (pre ++ cs) - ex f w (pre ++ [c]) cs
def det:List Rw->List Nat->Int
 | [],[]=>1
 | [],_ :: _=>0
 | w :: ws,cs=>ex (det ws) w [] cs
def Alt (f:List Nat->Int):Prop:=∀ pre c d post,f (pre ++ c :: d :: post)=- f (pre ++ d :: c :: post)
theorem zno {f:List Nat->Int} (h:Alt f) (w:Rw):∀ (post A B:List Nat) (c d:Nat),ex f w (A ++ c :: d :: B) post=- ex f w (A ++ d :: c :: B) post
 | [],_,_,_,_=>by simp [ex]
 | x :: post,A,B,c,d=>by
  have e1:=h A c d (B ++ post)
  have e2:=zno h w post A (B ++ [x]) c d
  simp only [ex,List.append_assoc,List.cons_append] at e1 e2 ⊢
  rw [e1,e2]
  grind
theorem zsU {f:List Nat->Int} (h:Alt f) (w:Rw):∀ (pre A:List Nat) (c d:Nat) (post:List Nat),ex f w A (pre ++ c :: d :: post)=- ex f w A (pre ++ d :: c :: post)
 | [],A,c,d,post=>by
  have e2:=zno h w post A [] c d
  simp only [ex,List.nil_append,List.append_assoc,List.cons_append] at e2 ⊢
  rw [e2]
  grind
 | x :: pre,A,c,d,post=>by
  have e1:=h (A ++ pre) c d post
  have e2:=zsU h w pre (A ++ [x]) c d post
  simp only [ex,List.append_assoc,List.cons_append] at e1 e2 ⊢
  rw [e1,e2]
  grind
theorem zj4:∀ ws:List Rw,Alt (det ws)
 | []=>fun pre c d post=>by cases pre <;> simp [det]
 | w :: ws=>fun pre c d post=>zsU (zj4 ws) w pre [] c d post
theorem zqv {f:List Nat->Int} (h:Alt f) (pre:List Nat) (c:Nat) (post:List Nat):f (pre ++ c :: c :: post)=0:=by
 have:=h pre c c post
 omega
theorem zfE {f:List Nat->Int} (h:Alt f):∀ (mid pre post:List Nat),∃ e:Int,(e=1\/e=-1)/\∀ c,f (pre ++ c :: (mid ++ post))=e * f (pre ++ (mid ++ c :: post))
 | [],pre,post=>⟨1,.inl rfl,fun c=>by simp⟩
 | m :: mid,pre,post=>by
  obtain ⟨e,he,q⟩:=zfE h mid (pre ++ [m]) post
  refine ⟨-e,by omega,fun c=>?_⟩
  have e1:=h pre c m (mid ++ post)
  have e2:=q c
  simp only [List.append_assoc,List.cons_append,List.nil_append] at e1 e2 ⊢
  rw [e1,e2]
  grind
theorem zhO {ws:List Rw} {l:Nat} {pre post:List Nat} {c:Nat} (h:c ∈ pre ++ post):det ws (pre ++ c :: post)=0:=by
 have A:=zj4 ws
 rcases List.mem_append.mp h with h | h
 ·obtain ⟨p1,p2,rfl⟩:=List.append_of_mem h
  obtain ⟨e,_,q⟩:=zfE A p2 (p1 ++ [c]) post
  have z:=zqv A p1 c (p2 ++ post)
  have q':=q c
  simp only [List.append_assoc,List.cons_append,List.nil_append] at q' z ⊢
  rw [z] at q'
  rcases (by assumption:e=1\/e=-1) with r | r <;> rw [r] at q' <;> omega
 ·obtain ⟨p1,p2,rfl⟩:=List.append_of_mem h
  obtain ⟨e,_,q⟩:=zfE A p1 pre (c :: p2)
  have z:=zqv A (pre ++ p1) c p2
  have q':=q c
  simp only [List.append_assoc,List.cons_append,List.nil_append] at q' z ⊢
  rw [q',z,Int.mul_zero]
def Sp:List Rw->Rw->Prop
 | [],v=>∀ j,v j=0
 | w :: ws,v=>∃ (a:Int) (z:Rw),Sp ws z/\∀ j,v j=a * w j + z j
theorem Sp.lin:∀ {ws:List Rw} {u v:Rw} (a b:Int),Sp ws u->Sp ws v->Sp ws (fun j=>a * u j + b * v j)
 | [],_,_,_,_,h1,h2=>fun j=>by simp [h1 j,h2 j]
 | w :: ws,u,v,a,b,⟨x,y,h1,e1⟩,⟨x',y',h2,e2⟩=>⟨a * x + b * x',_,Sp.lin a b h1 h2,fun j=>by show a * u j + b * v j=(a * x + b * x') * w j + (a * y j + b * y' j);rw [e1 j,e2 j];grind⟩
theorem Sp.zero:∀ (ws:List Rw),Sp ws (fun _=>0)
 | []=>fun _=>rfl
 | w :: ws=>⟨0,_,Sp.zero ws,fun j=>by simp⟩
theorem Sp.of_eq {ws:List Rw} {u v:Rw} (h:Sp ws u) (e:∀ j,u j=v j):Sp ws v:=(funext e:u=v) ▸ h
theorem Sp.old {ws:List Rw} {w v:Rw} (h:Sp ws v):Sp (w :: ws) v:=⟨0,v,h,fun j=>by simp⟩
theorem zmp {ws:List Rw} (h:∀ cs,Sp ws (fun j=>det ws (j :: cs))) (w:Rw):∀ (cs B:List Nat),Sp ws (fun j=>ex (det ws) w (j :: B) cs)
 | [],B=>(Sp.zero ws).of_eq fun j=>by simp [ex]
 | c :: cs,B=>((h (B ++ cs)).lin (w c) (-1) (zmp h w cs (B ++ [c]))).of_eq fun j=>by simp only [ex,List.cons_append];grind
theorem zg0:∀ (ws:List Rw) (cs:List Nat),Sp ws (fun j=>det ws (j :: cs))
 | [],cs=>fun j=>rfl
 | w :: ws,cs=>⟨det ws cs,_,(zmp (zg0 ws) w cs []).lin (-1) 0 (Sp.zero ws),fun j=>by simp only [det,ex,List.nil_append];grind⟩
theorem zwg {f:List Nat->Int} {w:Rw} {A M N:Nat} (hw:∀ j,(w j).natAbs<=A) (hf:∀ cs,cs.length<=N->(f cs).natAbs<=M):∀ (cs B:List Nat),B.length + cs.length<=N + 1->(ex f w B cs).natAbs<=cs.length * (A * M)
 | [],B,_=>by simp [ex]
 | c :: cs,B,hl=>by
  have hl':B.length + cs.length<=N:=by simp only [List.length_cons] at hl;omega
  have h1:=zwg hw hf cs (B ++ [c]) (by simp only [List.length_append,List.length_cons,List.length_nil];omega)
  have h2:(w c * f (B ++ cs)).natAbs<=A * M:=by rw [Int.natAbs_mul];exact Nat.mul_le_mul (hw c) (hf _ (by simpa using hl'))
  have h3:(cs.length + 1) * (A * M)=cs.length * (A * M) + A * M:=by rw [Nat.add_mul,Nat.one_mul]
  simp only [ex,List.length_cons]
  rw [h3]
  omega
theorem zqe {A N:Nat}:∀ (ws:List Rw) (cs:List Nat),(∀ w ∈ ws,∀ j,(w j).natAbs<=A)->cs.length<=N->(det ws cs).natAbs<=(N * A) ^ ws.length
 | [],[],_,_=>by simp [det]
 | [],_ :: _,_,_=>by simp [det]
 | w :: ws,cs,h,hl=>by
  have h1:=zwg (f:=det ws) (M:=(N * A) ^ ws.length) (N:=N) (h w (.head _)) (fun cs hc=>zqe ws cs (fun v hv=>h v (.tail _ hv)) hc) cs [] (by simp;omega)
  have h2:cs.length * (A * (N * A) ^ ws.length)<=N * (A * (N * A) ^ ws.length):=Nat.mul_le_mul_right _ hl
  have h3:N * (A * (N * A) ^ ws.length)=(N * A) ^ (ws.length + 1):=by rw [Nat.pow_succ,<- Nat.mul_assoc,Nat.mul_comm]
  show (ex (det ws) w [] cs).natAbs<=(N * A) ^ (ws.length + 1)
  omega
def Inj (ws:List Rw) (S:List Nat):Prop:=∀ v,Sp ws v->(∀ s ∈ S,v s=0)->∀ j,v j=0
theorem zua:Inj [] []:=fun _ h _=>h
theorem zun (ws:List Rw) (w:Rw) (cs:List Nat):∃ z,Sp ws z/\∀ j,det (w :: ws) (j :: cs)=det ws cs * w j + z j :=
 ⟨_,(zmp (zg0 ws) w cs []).lin (-1) 0 (Sp.zero ws),fun j=>by simp only [det,ex,List.nil_append];grind⟩
theorem zdQ {a b:Int} (h:a ≠ 0) (g:b ≠ 0):a * b ≠ 0:=fun e=>(Int.mul_eq_zero.mp e).elim h g
theorem step {ws:List Rw} {S:List Nat} {w v z:Rw} {p:Nat} {k a:Int} (hD:det ws S ≠ 0) (hi:Inj ws S) (hk:k ≠ 0) (hz:Sp ws z) (he:∀ j,k * v j=a * w j + z j) (hv:∀ s ∈ S,v s=0) (hp:v p ≠ 0) :
  det (w :: ws) (p :: S) ≠ 0/\Inj (w :: ws) (p :: S):=by
 obtain ⟨z',hz',e'⟩:=zun ws w S
 have u0:∀ s ∈ S,det (w :: ws) (s :: S)=0:=fun s hs=>zhO (l:=0) (pre:=[]) (by simpa using hs)
 have hu:det (w :: ws) (p :: S) ≠ 0:=by
  have q:=hi _ (hz.lin (det ws S) (-a) hz') (fun s hs=>by
   have h1:=he s
   have h2:=e' s
   rw [hv s hs] at h1
   rw [u0 s hs] at h2
   grind) p
  have h1:=he p
  have h2:=e' p
  intro h0
  rw [h0] at h2
  have:det ws S * (k * v p)=0:=by grind
  exact zdQ hD (zdQ hk hp) this
 refine ⟨hu,fun x hx hs j=>?_⟩
 obtain ⟨b,y,hy,ex⟩:=hx
 have q:=hi _ (hy.lin (det ws S) (-b) hz') (fun s hs'=>by
  have h1:=ex s
  have h2:=e' s
  rw [hs s (.tail _ hs')] at h1
  rw [u0 s hs'] at h2
  grind)
 have b0:b=0:=by
  have h1:=ex p
  have h2:=e' p
  have h3:=q p
  rw [hs p (.head _)] at h1
  have:b * det (w :: ws) (p :: S)=0:=by grind
  exact (Int.mul_eq_zero.mp this).resolve_right hu
 have h1:=ex j
 have h3:=q j
 have:det ws S * x j=0:=by grind
 exact (Int.mul_eq_zero.mp this).resolve_left hD
theorem zhK {a D:Int} {h:Rw} (ha:a ≠ 0) (hd:∀ j,a ∣ D * h j) (prim:∀ q:Int,(∀ j,q ∣ h j)->q ∣ 1):a ∣ D:=by
 have g0:0 < Nat.gcd a.natAbs D.natAbs:=Nat.gcd_pos_of_pos_left _ (by omega)
 obtain ⟨a',ea⟩:=Nat.gcd_dvd_left a.natAbs D.natAbs
 obtain ⟨d',ed⟩:=Nat.gcd_dvd_right a.natAbs D.natAbs
 have co:Nat.Coprime a' d':=by
  have:=Nat.coprime_div_gcd_div_gcd g0
  rwa [Nat.div_eq_of_eq_mul_right g0 ea,Nat.div_eq_of_eq_mul_right g0 ed] at this
 have gd:=Nat.gcd_dvd_right a.natAbs D.natAbs
 generalize Nat.gcd a.natAbs D.natAbs=g at *
 have q:=prim (a':Int) (fun j=>by
  have:=Int.natAbs_dvd_natAbs.mpr (hd j)
  rw [Int.natAbs_mul,ea,ed,Nat.mul_assoc] at this
  exact Int.natAbs_dvd_natAbs.mp (by simpa using co.dvd_of_dvd_mul_left (Nat.dvd_of_mul_dvd_mul_left g0 this)))
 have:a'=1:=by
  have:=Int.natAbs_dvd_natAbs.mpr q
  simpa using this
 subst this
 rw [Nat.mul_one] at ea
 exact Int.natAbs_dvd_natAbs.mp (by rw [ea];exact gd)
theorem zub {ws:List Rw} {pre post:List Nat} {l A N:Nat} {h:Rw} {k:Int} (hD:det ws (pre ++ l :: post) ≠ 0) (hi:Inj ws (pre ++ l :: post)) (hk:k ≠ 0) (hs:Sp ws fun j=>k * h j)
  (hz:∀ s ∈ pre ++ post,h s=0) (prim:∀ q:Int,(∀ j,q ∣ h j)->q ∣ 1) (hA:∀ w ∈ ws,∀ j,(w j).natAbs<=A) (hN:(pre ++ l :: post).length<=N) (j:Nat):(h j).natAbs<=(N * A) ^ ws.length:=by
 obtain ⟨e,he,q⟩:=zfE (zj4 ws) pre [] post
 simp only [List.nil_append] at q
 have e1:e * e=1:=by rcases he with r | r <;> rw [r] <;> rfl
 have su:Sp ws (fun j=>det ws (pre ++ j :: post)):=((zg0 ws (pre ++ post)).lin e 0 (Sp.zero ws)).of_eq fun j=>by rw [q j,<- Int.mul_assoc,e1];simp
 have r:=hi _ (hs.lin (det ws (pre ++ l :: post)) (-(k * h l)) su) (fun s hs'=>by
  by_cases c:s=l
  ·subst c;grind
  ·have m:s ∈ pre ++ post:=by
    rcases List.mem_append.mp hs' with m | m
    ·exact List.mem_append_left _ m
    ·exact List.mem_append_right _ ((List.mem_cons.mp m).resolve_left c)
   have z1:=hz s m
   have z2:det ws (pre ++ s :: post)=0:=zhO (l:=0) m
   simp [z1,z2])
 have r':∀ j,det ws (pre ++ l :: post) * h j=h l * det ws (pre ++ j :: post):=fun j=>by
  have:=r j
  have:k * (det ws (pre ++ l :: post) * h j - h l * det ws (pre ++ j :: post))=0:=by grind
  have:=(Int.mul_eq_zero.mp this).resolve_left hk
  omega
 have hl:h l ≠ 0:=fun h0=>by
  have:∀ j,h j=0:=fun j=>by
   have:=r' j
   rw [h0,Int.zero_mul] at this
   exact (Int.mul_eq_zero.mp this).resolve_left hD
  have:=prim 0 (fun j=>by rw [this j];exact Int.dvd_refl 0)
  omega
 obtain ⟨t,et⟩:=zhK hl (fun j=>⟨_,r' j⟩) prim
 have t0:t ≠ 0:=fun h0=>hD (by rw [et,h0,Int.mul_zero])
 have eu:det ws (pre ++ j :: post)=t * h j:=by
  have:=r' j
  rw [et,Int.mul_assoc] at this
  exact (Int.eq_of_mul_eq_mul_left hl this).symm
 have b:=zqe ws (pre ++ j :: post) hA (by simpa using hN)
 rw [eu,Int.natAbs_mul] at b
 have:(h j).natAbs<=t.natAbs * (h j).natAbs:=Nat.le_mul_of_pos_left _ (by omega)
 omega
end MD
namespace MD
def fn (xs:List Int):Rw:=fun j=>xs.getD j 0
def zf0 (g:Nat) (xs:List Int):Nat:=xs.foldl (fun g x=>Nat.gcd g x.natAbs) g
theorem zer:∀ (xs:List Int) (g:Nat),zf0 g xs ∣ g/\∀ x ∈ xs,zf0 g xs ∣ x.natAbs
 | [],g=>⟨Nat.dvd_refl g,fun _ h=>nomatch h⟩
 | x :: xs,g=>by
  obtain ⟨h1,h2⟩:=zer xs (Nat.gcd g x.natAbs)
  refine ⟨Nat.dvd_trans h1 (Nat.gcd_dvd_left _ _),fun y hy=>?_⟩
  rcases List.mem_cons.mp hy with e | hy
  ·subst e;exact Nat.dvd_trans h1 (Nat.gcd_dvd_right _ _)
  ·exact h2 y hy
theorem znr {d:Nat}:∀ (xs:List Int) (g:Nat),d ∣ g->(∀ x ∈ xs,d ∣ x.natAbs)->d ∣ zf0 g xs
 | [],_,h,_=>h
 | x :: xs,g,h,hx=>znr xs _ (Nat.dvd_gcd h (hx x (.head _))) fun y hy=>hx y (.tail _ hy)
def zlT (xs:List Int):List Int:=if zf0 0 xs=0 then xs else xs.map (· / (zf0 0 xs:Int))
def Prim (h:Rw):Prop:=∀ q:Int,(∀ j,q ∣ h j)->q ∣ 1
theorem zsT {f:Int->Int} (f0:f 0=0) (xs:List Int) (j:Nat):fn (xs.map f) j=f (fn xs j):=by
 unfold fn
 rw [List.getD_eq_getElem?_getD,List.getD_eq_getElem?_getD,List.getElem?_map]
 cases xs[j]? with
 | none=>exact f0.symm
 | some x=>rfl
theorem zp7 {xs:List Int} {j:Nat}:fn xs j=0\/fn xs j ∈ xs:=by
 unfold fn
 rw [List.getD_eq_getElem?_getD]
 cases h:xs[j]? with
 | none=>exact .inl rfl
 | some x=>exact .inr (List.mem_of_getElem? h)
theorem zm5 {xs:List Int} {x:Int} (h:x ∈ xs):∃ j,j < xs.length/\fn xs j=x:=by
 obtain ⟨j,hj,e⟩:=List.getElem_of_mem h
 exact ⟨j,hj,by unfold fn;rw [List.getD_eq_getElem?_getD,List.getElem?_eq_getElem hj,e];rfl⟩
theorem zk7 {xs:List Int} {j:Nat} (h:xs.length<=j):fn xs j=0:=by
 unfold fn
 rw [List.getD_eq_getElem?_getD,List.getElem?_eq_none h]
 rfl
theorem zmN (xs:List Int):(zlT xs).length=xs.length:=by unfold zlT;split <;> simp
theorem zem (xs:List Int):∃ g:Int,0 < g/\∀ j,g * fn (zlT xs) j=fn xs j:=by
 unfold zlT
 split
 ·exact ⟨1,by decide,fun j=>by simp⟩
 ·refine ⟨(zf0 0 xs:Int),by omega,fun j=>?_⟩
  rw [zsT (by simp)]
  rcases zp7 (xs:=xs) (j:=j) with e | e
  ·rw [e];simp
  ·exact Int.mul_ediv_cancel' (Int.natAbs_dvd_natAbs.mp (by simpa using (zer xs 0).2 _ e))
theorem zte (xs:List Int) (j:Nat):(fn (zlT xs) j).natAbs<=(fn xs j).natAbs:=by
 obtain ⟨g,g0,h⟩:=zem xs
 rw [<- h j,Int.natAbs_mul]
 exact Nat.le_mul_of_pos_left _ (by omega)
theorem zoG {xs:List Int} (h:∃ j,fn xs j ≠ 0):Prim (fn (zlT xs)):=by
 obtain ⟨j,hj⟩:=h
 have g0:zf0 0 xs ≠ 0:=fun e=>by
  rcases zp7 (xs:=xs) (j:=j) with c | c
  ·exact hj c
  ·have:=(zer xs 0).2 _ c
   rw [e] at this
   have:=Nat.eq_zero_of_zero_dvd this
   omega
 intro q hq
 have e:∀ j,(zf0 0 xs:Int) * fn (zlT xs) j=fn xs j:=fun j=>by
  unfold zlT
  rw [if_neg g0,zsT (by simp)]
  rcases zp7 (xs:=xs) (j:=j) with e | e
  ·rw [e];simp
  ·exact Int.mul_ediv_cancel' (Int.natAbs_dvd_natAbs.mp (by simpa using (zer xs 0).2 _ e))
 have d:=znr (d:=zf0 0 xs * q.natAbs) xs 0 (Nat.dvd_zero _) (fun x hx=>by
  obtain ⟨j,_,ej⟩:=zm5 hx
  rw [<- ej,<- e j,Int.natAbs_mul,Int.natAbs_natCast]
  exact Nat.mul_dvd_mul_left _ (Int.natAbs_dvd_natAbs.mpr (hq j)))
 have d':=Nat.dvd_of_mul_dvd_mul_left (Nat.pos_of_ne_zero g0) (show zf0 0 xs * q.natAbs ∣ zf0 0 xs * 1 by rwa [Nat.mul_one])
 exact Int.natAbs_dvd_natAbs.mp (by simpa using d')
def cleared (w o:List Int) (p:Nat):List Int:=if fn w p=0 then w else zlT (List.zipWith (fun m i=>fn o p * m - fn w p * i) w o)
theorem zp5 {f:Int->Int->Int} (f0:f 0 0=0) {xs ys:List Int} (h:xs.length=ys.length) (j:Nat):fn (List.zipWith f xs ys) j=f (fn xs j) (fn ys j):=by
 by_cases c:j < xs.length
 ·unfold fn
  rw [List.getD_eq_getElem?_getD,List.getD_eq_getElem?_getD,List.getD_eq_getElem?_getD,List.getElem?_zipWith,List.getElem?_eq_getElem c,List.getElem?_eq_getElem (h ▸ c)]
  rfl
 ·rw [zk7 (by simp;omega),zk7 (Nat.le_of_not_lt c),zk7 (by omega),f0]
theorem zhW {w o:List Int} (h:w.length=o.length) (p:Nat):(cleared w o p).length=w.length:=by
 unfold cleared
 split
 ·rfl
 ·rw [zmN];simp;omega
theorem zjf {w o:List Int} {p:Nat} (h:w.length=o.length) (ho:fn o p ≠ 0):∃ g a b:Int,g ≠ 0/\a ≠ 0/\∀ j,g * fn (cleared w o p) j=a * fn w j + b * fn o j:=by
 unfold cleared
 split
 ·exact ⟨1,1,0,by decide,by decide,fun j=>by simp⟩
 ·obtain ⟨g,g0,e⟩:=zem (List.zipWith (fun m i=>fn o p * m - fn w p * i) w o)
  refine ⟨g,fn o p,- fn w p,by omega,ho,fun j=>?_⟩
  rw [e j,zp5 (by simp) h]
  grind
theorem zjg {w o:List Int} {p:Nat} (h:w.length=o.length):fn (cleared w o p) p=0:=by
 unfold cleared
 split
 ·assumption
 ·obtain ⟨g,g0,e⟩:=zem (List.zipWith (fun m i=>fn o p * m - fn w p * i) w o)
  have:=e p
  rw [zp5 (by simp) h] at this
  have:g * fn (zlT (List.zipWith (fun m i=>fn o p * m - fn w p * i) w o)) p=0:=by rw [this];grind
  exact (Int.mul_eq_zero.mp this).resolve_left (by omega)
theorem zd8 {w o:List Int} {p s:Nat} (h:w.length=o.length) (hw:fn w s=0) (ho:fn o s=0):fn (cleared w o p) s=0:=by
 unfold cleared
 split
 ·exact hw
 ·obtain ⟨g,g0,e⟩:=zem (List.zipWith (fun m i=>fn o p * m - fn w p * i) w o)
  have:=e s
  rw [zp5 (by simp) h,hw,ho] at this
  have:g * fn (zlT (List.zipWith (fun m i=>fn o p * m - fn w p * i) w o)) s=0:=by rw [this];grind
  exact (Int.mul_eq_zero.mp this).resolve_left (by omega)
def PZ (h:Rw):Prop:=(∀ j,h j=0)\/Prim h
theorem zoF (xs:List Int):PZ (fn (zlT xs)):=by
 by_cases c:∃ j,fn xs j ≠ 0
 ·exact .inr (zoG c)
 ·refine .inl fun j=>?_
  obtain ⟨g,g0,e⟩:=zem xs
  have:=e j
  have z:fn xs j=0:=Classical.byContradiction fun q=>c ⟨j,q⟩
  rw [z] at this
  exact (Int.mul_eq_zero.mp this).resolve_left (by omega)
theorem zjd {w o:List Int} {p:Nat} (h:PZ (fn w)):PZ (fn (cleared w o p)):=by
 unfold cleared
 split
 ·exact h
 ·exact zoF _
end MD
namespace MD
abbrev zbn:=List (Nat × List Int)
structure zse (n:Nat) (ws:List Rw) (S:List Nat) (l:Nat) (h:List Int):Prop where
 len:h.length=n
 lt:l < n
 ne:fn h l ≠ 0
 zero:∀ s ∈ S,s ≠ l->fn h s=0
 prim:Prim (fn h)
 sp:∃ k:Int,k ≠ 0/\Sp ws fun j=>k * fn h j
 low:∀ j,j < l->fn h j=0
structure zbf (n:Nat) (ws:List Rw) (S:List Nat) (held:zbn):Prop where
 keys:held.map (·.1)=S.reverse
 det:det ws S ≠ 0
 inj:Inj ws S
 row:∀ e ∈ held,zse n ws S e.1 e.2
theorem zrL (n:Nat):zbf n [] [] []:=⟨rfl,by decide,zua,fun _ h=>nomatch h⟩
def clears (held:zbn) (w:List Int):List Int:=held.foldl (fun x e=>cleared x e.2 e.1) w
structure zsd (n:Nat) (ws:List Rw) (S done:List Nat) (w x:List Int):Prop where
 len:x.length=n
 pz:PZ (fn x)
 zero:∀ s ∈ done,fn x s=0
 sp:∃ (k a:Int) (z:Rw),k ≠ 0/\a ≠ 0/\Sp ws z/\(∀ s ∈ S,s ∉ done->z s=0)/\∀ j,k * fn x j=a * fn w j + z j
theorem zox {n:Nat} {ws:List Rw} {S done:List Nat} {w x h:List Int} {l:Nat} (R:zse n ws S l h) (W:zsd n ws S done w x) (hd:∀ s ∈ done,s ∈ S/\s ≠ l):zsd n ws S (l :: done) w (cleared x h l):=by
 have hl:x.length=h.length:=W.len.trans R.len.symm
 refine ⟨(zhW hl l).trans W.len,zjd W.pz,fun s hs=>?_,?_⟩
 ·rcases List.mem_cons.mp hs with e | hs
  ·subst e;exact zjg hl
  ·exact zd8 hl (W.zero s hs) (R.zero s (hd s hs).1 (hd s hs).2)
 ·obtain ⟨g,a1,b1,g0,a0,e1⟩:=zjf hl R.ne
  obtain ⟨k,a,z,k0,a0',hz,nz,e2⟩:=W.sp
  obtain ⟨kh,kh0,hh⟩:=R.sp
  refine ⟨k * kh * g,a1 * kh * a,_,zdQ (zdQ k0 kh0) g0,zdQ (zdQ a0 kh0) a0',hz.lin (a1 * kh) (b1 * k) hh,fun s hs hn=>?_,fun j=>?_⟩
  ·have z1:=nz s hs fun c=>hn (.tail _ c)
   have z2:=R.zero s hs fun c=>hn (c ▸ .head _)
   simp [z1,z2]
  have q1:=e1 j
  have q2:=e2 j
  grind
theorem zle {n:Nat} {ws:List Rw} {S:List Nat} {w:List Int}:∀ (held:zbn) (done:List Nat) (x:List Int),(∀ e ∈ held,zse n ws S e.1 e.2)->(∀ e ∈ held,e.1 ∈ S)->(∀ s ∈ done,s ∈ S)->(held.map (·.1) ++ done).Nodup->zsd n ws S done w x ->
  ∃ done',(∀ s,s ∈ done' ↔ s ∈ held.map (·.1)\/s ∈ done)/\zsd n ws S done' w (clears held x)
 | [],done,x,_,_,_,_,W=>⟨done,fun s=>by simp,W⟩
 | e :: held,done,x,hr,hm,hd,hn,W=>by
  rw [List.map_cons,List.cons_append,List.nodup_cons] at hn
  have W':=zox (hr e (.head _)) W (fun s hs=>⟨hd s hs,fun c=>hn.1 (List.mem_append_right _ (c ▸ hs))⟩)
  obtain ⟨d,h1,h2⟩:=zle held (e.1 :: done) _ (fun y hy=>hr y (.tail _ hy)) (fun y hy=>hm y (.tail _ hy)) (fun s hs=>(List.mem_cons.mp hs).elim (fun c=>c ▸ hm e (.head _)) (hd s)) (by
   rw [List.nodup_append] at hn ⊢
   refine ⟨hn.2.1,List.nodup_cons.mpr ⟨fun c=>hn.1 (List.mem_append_right _ c),hn.2.2.1⟩,fun a ha b hb c=>?_⟩
   rcases List.mem_cons.mp hb with r | r
   ·exact hn.1 (List.mem_append_left _ (by rw [<- r,<- c];exact ha))
   ·exact hn.2.2.2 a ha b r c) W'
  exact ⟨d,fun s=>by rw [h1];simp only [List.map_cons,List.mem_cons];grind,h2⟩
theorem zfm {ws:List Rw}:∀ (S pre:List Nat),det ws (pre ++ S) ≠ 0->S.Nodup
 | [],_,_=>List.nodup_nil
 | s :: S,pre,h=>List.nodup_cons.mpr ⟨fun c=>h (zhO (l:=0) (List.mem_append_right _ c)),zfm S (pre ++ [s]) (by simpa using h)⟩
theorem zcE {ws:List Rw} {S:List Nat} (h:det ws S ≠ 0):S.Nodup:=zfm S [] h
theorem zbf.mem {n:Nat} {ws:List Rw} {S:List Nat} {held:zbn} (H:zbf n ws S held) {e:Nat × List Int} (h:e ∈ held):e.1 ∈ S:=by
 have:=List.mem_map_of_mem (f:=(·.1)) h
 rw [H.keys] at this
 exact List.mem_reverse.mp this
theorem zld {n:Nat} {ws:List Rw} {S:List Nat} {held:zbn} {w:List Int} (H:zbf n ws S held) (hw:w.length=n) (pz:PZ (fn w)):zsd n ws S S w (clears held w):=by
 have W:zsd n ws S [] w w:=⟨hw,pz,fun _ h=>(nomatch h),1,1,_,by decide,by decide,Sp.zero ws,fun _ _ _=>rfl,fun j=>by simp⟩
 obtain ⟨d,h1,h2⟩:=zle held [] w H.row (fun e he=>H.mem he) (fun _ h=>(nomatch h)) (by rw [List.append_nil,H.keys];exact List.pairwise_reverse.mpr ((zcE H.det).imp fun h=>h.symm)) W
 obtain ⟨k,a,z,k0,a0,hz,_,e⟩:=h2.sp
 exact ⟨h2.len,h2.pz,fun s hs=>h2.zero s ((h1 s).mpr (.inl (by rw [H.keys];exact List.mem_reverse.mpr hs))),k,a,z,k0,a0,hz,fun s hs hn=>absurd hs hn,e⟩
theorem zsb {n:Nat} {ws:List Rw} {S:List Nat} {held:zbn} {w:List Int} (H:zbf n ws S held) (hw:w.length=n) (pz:PZ (fn w)) (h0:∀ j,fn (clears held w) j=0):∃ k:Int,k ≠ 0/\Sp ws fun j=>k * fn w j:=by
 obtain ⟨k,a,z,k0,a0,hz,_,e⟩:=(zld H hw pz).sp
 refine ⟨a,a0,(hz.lin (-1) 0 (Sp.zero ws)).of_eq fun j=>?_⟩
 have:=e j
 rw [h0 j] at this
 grind
theorem ziX {h:Rw} (p:PZ h) {l:Nat} (hl:h l ≠ 0):Prim h:=p.resolve_left fun z=>hl (z l)
theorem zsa {n:Nat} {ws:List Rw} {S:List Nat} {held:zbn} {w x:List Int} {p:Nat} (H:zbf n ws S held) (hw:w.length=n) (pz:PZ (fn w)) (hx:x=clears held w) (hp:fn x p ≠ 0) (lo:∀ j,j < p->fn x j=0) :
  zbf n (fn w :: ws) (p :: S) (held.map (fun e=>(e.1,cleared e.2 x p)) ++ [(p,x)]):=by
 have W:=zld H hw pz
 rw [<- hx] at W
 obtain ⟨k,a,z,k0,a0,hz,_,e⟩:=W.sp
 obtain ⟨hD,hI⟩:=step H.det H.inj k0 hz e W.zero hp
 have pn:p < n:=Nat.lt_of_not_le fun c=>hp (zk7 (W.len ▸ c))
 have sx:Sp (fn w :: ws) fun j=>k * fn x j:=⟨a,z,hz,e⟩
 refine ⟨by simp [H.keys,List.map_map,Function.comp_def] ,hD,hI,fun y hy=>?_⟩
 rcases List.mem_append.mp hy with hy | hy
 ·obtain ⟨⟨l,h⟩,he,rfl⟩:=List.mem_map.mp hy
  have R:=H.row _ he
  have ml:=H.mem he
  simp only at R ml ⊢
  have hl:h.length=x.length:=R.len.trans W.len.symm
  obtain ⟨g,a1,b1,g0,a10,e1⟩:=zjf hl hp
  have ne:fn (cleared h x p) l ≠ 0:=fun c=>by
   have:=e1 l
   rw [c,W.zero l ml] at this
   have:a1 * fn h l=0:=by grind
   exact zdQ a10 R.ne this
  refine ⟨(zhW hl p).trans R.len,R.lt,ne,fun s hs sl=>?_,ziX (zjd (.inr R.prim)) ne,?_,fun j hj=>?_⟩
  ·rcases List.mem_cons.mp hs with c | hs
   ·subst c;exact zjg hl
   ·exact zd8 hl (R.zero s hs sl) (W.zero s hs)
  ·obtain ⟨kh,kh0,hh⟩:=R.sp
   refine ⟨k * kh * g,zdQ (zdQ k0 kh0) g0,(hh.old.lin (k * a1) (kh * b1) sx).of_eq fun j=>?_⟩
   have:=e1 j
   grind
  ·by_cases c:j < p
   ·exact zd8 hl (R.low j hj) (lo j c)
   ·have z:fn h p=0:=R.low p (by omega)
    unfold cleared
    rw [if_pos z]
    exact R.low j hj
 ·rw [List.mem_singleton.mp hy]
  exact ⟨W.len,pn,hp,fun s hs c=>W.zero s ((List.mem_cons.mp hs).resolve_left c),ziX W.pz hp,⟨k,k0,sx⟩,lo⟩
theorem zbf.le {n:Nat} {ws:List Rw} {S:List Nat} {held:zbn} {A N:Nat} (H:zbf n ws S held) (hA:∀ w ∈ ws,∀ j,(w j).natAbs<=A) (hN:S.length<=N) {e:Nat × List Int} (he:e ∈ held) (j:Nat):(fn e.2 j).natAbs<=(N * A) ^ ws.length:=by
 have R:=H.row e he
 obtain ⟨pre,post,rfl⟩:=List.append_of_mem (H.mem he)
 obtain ⟨k,k0,sp⟩:=R.sp
 have nd:=zcE H.det
 refine zub H.det H.inj k0 sp (fun s hs=>R.zero s ?_ ?_) R.prim hA hN j
 ·rcases List.mem_append.mp hs with m | m
  ·exact List.mem_append_left _ m
  ·exact List.mem_append_right _ (.tail _ m)
 ·intro c
  subst c
  exact H.det (zhO (l:=0) hs)
end MD
namespace MD
abbrev Rq:=Nat->Rat
def SpQ:List Rw->Rq->Prop
 | [],v=>∀ j,v j=0
 | w :: ws,v=>∃ (a:Rat) (z:Rq),SpQ ws z/\∀ j,v j=a * (w j:Rat) + z j
theorem SpQ.lin:∀ {ws:List Rw} {u v:Rq} (a b:Rat),SpQ ws u->SpQ ws v->SpQ ws (fun j=>a * u j + b * v j)
 | [],_,_,_,_,h1,h2=>fun j=>by simp only [h1 j,h2 j];grind
 | w :: ws,u,v,a,b,⟨x,y,h1,e1⟩,⟨x',y',h2,e2⟩=>⟨a * x + b * x',_,SpQ.lin a b h1 h2,fun j=>by show a * u j + b * v j=(a * x + b * x') * w j + (a * y j + b * y' j);rw [e1 j,e2 j];grind⟩
theorem SpQ.zero:∀ (ws:List Rw),SpQ ws (fun _=>0)
 | []=>fun _=>rfl
 | w :: ws=>⟨0,_,SpQ.zero ws,fun j=>by grind⟩
theorem SpQ.of_eq {ws:List Rw} {u v:Rq} (h:SpQ ws u) (e:∀ j,u j=v j):SpQ ws v:=(funext e:u=v) ▸ h
theorem SpQ.of:∀ {ws:List Rw} {v:Rw},Sp ws v->SpQ ws (fun j=>(v j:Rat))
 | [],v,h=>fun j=>by show ((v j:Int):Rat)=0;rw [h j];rfl
 | w :: ws,v,⟨a,z,h,e⟩=>⟨(a:Rat),_,SpQ.of h,fun j=>by show ((v j:Int):Rat)=_;rw [e j];push_cast;rfl⟩
theorem SpQ.ofk {ws:List Rw} {v:Rw} {k:Int} (k0:k ≠ 0) (h:Sp ws fun j=>k * v j):SpQ ws (fun j=>(v j:Rat)):=by
 have q:=(SpQ.of h).lin (1 / (k:Rat)) 0 (SpQ.zero ws)
 refine q.of_eq fun j=>?_
 have:(k:Rat) ≠ 0:=by simpa using k0
 push_cast
 grind
theorem SpQ.clear:∀ {ws:List Rw} {v:Rq},SpQ ws v->∃ (d:Int) (z:Rw),d ≠ 0/\Sp ws z/\∀ j,(d:Rat) * v j=(z j:Rat)
 | [],v,h=>⟨1,fun _=>0,by decide,fun _=>rfl,fun j=>by rw [h j];grind⟩
 | w :: ws,v,⟨a,y,h,e⟩=>by
  obtain ⟨d,z,d0,hz,ez⟩:=SpQ.clear h
  have den0:(a.den:Int) ≠ 0:=by have:=a.den_pos;omega
  refine ⟨d * a.den,fun j=>d * a.num * w j + a.den * z j,zdQ d0 den0,⟨d * a.num,_,hz.lin a.den 0 (Sp.zero ws),fun j=>by simp⟩,fun j=>?_⟩
  have q:=ez j
  have dn:(a.den:Rat) ≠ 0:=by have:=a.den_pos;simp;omega
  have an:a * (a.den:Rat)=(a.num:Rat):=by have:=Rat.mkRat_self a;rw [Rat.mkRat_eq_div] at this;grind
  rw [e j]
  push_cast
  rw [<- q,<- an]
  grind
theorem zyK {ws:List Rw} {S:List Nat} (h:Inj ws S) {v:Rq} (hv:SpQ ws v) (h0:∀ s ∈ S,v s=0) (j:Nat):v j=0:=by
 obtain ⟨d,z,d0,hz,e⟩:=hv.clear
 have d0':(d:Rat) ≠ 0:=by simpa using d0
 have q:=h z hz (fun s hs=>by
  have:=e s
  rw [h0 s hs] at this
  have:((z s:Int):Rat)=0:=by grind
  simpa using this) j
 have:=e j
 rw [q] at this
 have:(d:Rat) * v j=0:=by rw [this];rfl
 grind
def kr (e:Nat × List Int):Rq:=fun j=>(fn e.2 j:Rat) / (fn e.2 e.1:Rat)
def zby (l:List Rat):Rat:=l.foldr (· + ·) 0
theorem SpQ.sum {ws:List Rw}:∀ (held:zbn) (c:Nat × List Int->Rat),(∀ e ∈ held,SpQ ws (kr e))->SpQ ws (fun j=>zby (held.map fun e=>c e * kr e j))
 | [],_,_=>SpQ.zero ws
 | e :: held,c,h=>((h e (.head _)).lin (c e) 1 (SpQ.sum held c fun y hy=>h y (.tail _ hy))).of_eq fun j=>by simp only [List.map_cons,zby,List.foldr_cons];grind
theorem zbf.zwJ {n:Nat} {ws:List Rw} {S:List Nat} {held:zbn} (H:zbf n ws S held) {e:Nat × List Int} (he:e ∈ held):SpQ ws (kr e):=by
 obtain ⟨k,k0,h⟩:=(H.row e he).sp
 refine ((SpQ.ofk k0 h).lin (1 / (fn e.2 e.1:Rat)) 0 (SpQ.zero ws)).of_eq fun j=>?_
 unfold kr
 grind
theorem zbf.zxr {n:Nat} {ws:List Rw} {S:List Nat} {held:zbn} (H:zbf n ws S held) {e:Nat × List Int} (he:e ∈ held):kr e e.1=1:=by
 have:(fn e.2 e.1:Rat) ≠ 0:=by simpa using (H.row e he).ne
 unfold kr
 grind
theorem zbf.zsI {n:Nat} {ws:List Rw} {S:List Nat} {held:zbn} (H:zbf n ws S held) {e:Nat × List Int} (he:e ∈ held) {s:Nat} (hs:s ∈ S) (c:s ≠ e.1):kr e s=0:=by
 unfold kr
 rw [(H.row e he).zero s hs c]
 show ((0:Int):Rat) / _=0
 grind
theorem zlV {f:Nat × List Int->Rat} {s:Nat} {v:Rat}:∀ held:zbn,(held.map (·.1)).Nodup->s ∈ held.map (·.1)->(∀ e ∈ held,e.1=s->f e=v)->(∀ e ∈ held,e.1 ≠ s->f e=0)->zby (held.map f)=v
 | [],_,h,_,_=>nomatch h
 | e :: held,nd,h,h1,h2=>by
  rw [List.map_cons,List.nodup_cons] at nd
  by_cases c:e.1=s
  ·have:zby (held.map f)=0:=by
    have z:∀ held:zbn,(∀ y ∈ held,f y=0)->zby (held.map f)=0:=fun held=>by
     induction held with
     | nil=>exact fun _=>rfl
     | cons y ys ih=>exact fun h=>by simp only [List.map_cons,zby,List.foldr_cons];rw [h y (.head _)];have:=ih fun z hz=>h z (.tail _ hz);simp only [zby] at this;rw [this];grind
    exact z held fun y hy=>h2 y (.tail _ hy) fun q=>nd.1 (by rw [c,<- q];exact List.mem_map_of_mem (f:=(·.1)) hy)
   simp only [List.map_cons,zby,List.foldr_cons] at this ⊢
   rw [this,h1 e (.head _) c]
   grind
  ·have hs:s ∈ held.map (·.1):=(List.mem_cons.mp h).resolve_left fun q=>c q.symm
   have:=zlV held nd.2 hs (fun y hy=>h1 y (.tail _ hy)) (fun y hy=>h2 y (.tail _ hy))
   simp only [List.map_cons,zby,List.foldr_cons] at this ⊢
   rw [this,h2 e (.head _) c]
   grind
theorem zbf.room {n:Nat} {ws:List Rw} {S:List Nat} {held:zbn} (H:zbf n ws S held) {v:Rq} (hv:SpQ ws v) (j:Nat):v j=zby (held.map fun e=>v e.1 * kr e j):=by
 have nd:(held.map (·.1)).Nodup:=by rw [H.keys];exact List.pairwise_reverse.mpr ((zcE H.det).imp fun h=>h.symm)
 have q:=zyK H.inj (hv.lin 1 (-1) (SpQ.sum held (fun e=>v e.1) fun e he=>H.zwJ he)) (fun s hs=>by
  have ms:s ∈ held.map (·.1):=by rw [H.keys];exact List.mem_reverse.mpr hs
  have:=zlV (f:=fun e=>v e.1 * kr e s) (v:=v s) held nd ms (fun e he c=>by subst c;rw [H.zxr he];grind) (fun e he c=>by rw [H.zsI he hs fun q=>c q.symm];grind)
  rw [this]
  grind) j
 grind
end MD
namespace MD
def adj (ws:List Rw) (pre post:List Nat):Rw:=fun j=>det ws (pre ++ j :: post)
theorem zwy (ws:List Rw) (pre post:List Nat):Sp ws (adj ws pre post):=by
 obtain ⟨e,he,q⟩:=zfE (zj4 ws) pre [] post
 simp only [List.nil_append] at q
 have e1:e * e=1:=by rcases he with r | r <;> rw [r] <;> rfl
 exact ((zg0 ws (pre ++ post)).lin e 0 (Sp.zero ws)).of_eq fun j=>by unfold adj;rw [q j,<- Int.mul_assoc,e1];simp
def yOf (ws:List Rw) (S:List Nat) (w:Rw) (D:Int):List (List Nat × Nat × List Nat)->Rw
 | []=>fun j=>D * w j
 | (pre,l,post) :: r=>fun j=>yOf ws S w D r j - w l * adj ws pre post j
theorem zsj {ws:List Rw} {S:List Nat} {w:Rw} {D:Int} {A M:Nat} (hw:∀ j,(w j).natAbs<=A) (hD:D.natAbs<=M):∀ (ps:List (List Nat × Nat × List Nat)),(∀ p ∈ ps,∀ j,(adj ws p.1 p.2.2 j).natAbs<=M)->∀ j,(yOf ws S w D ps j).natAbs<=(ps.length + 1) * (A * M)
 | [],_,j=>by
  simp only [yOf,List.length_nil,Nat.zero_add,Nat.one_mul,Int.natAbs_mul]
  rw [Nat.mul_comm]
  exact Nat.mul_le_mul (hw j) hD
 | (pre,l,post) :: r,h,j=>by
  have h1:=zsj (S:=S) hw hD r (fun p hp=>h p (.tail _ hp)) j
  have h2:(w l * adj ws pre post j).natAbs<=A * M:=by rw [Int.natAbs_mul];exact Nat.mul_le_mul (hw l) (h _ (.head _) j)
  have h3:(r.length + 1 + 1) * (A * M)=(r.length + 1) * (A * M) + A * M:=by rw [Nat.add_mul _ 1,Nat.one_mul]
  simp only [yOf,List.length_cons]
  rw [h3]
  omega
theorem zsi {ws:List Rw} {S:List Nat} {w:Rw} {D:Int}:∀ (ps:List (List Nat × Nat × List Nat)),∃ z,Sp ws z/\∀ j,yOf ws S w D ps j=D * w j + z j
 | []=>⟨_,Sp.zero ws,fun j=>by simp [yOf]⟩
 | (pre,l,post) :: r=>by
  obtain ⟨z,hz,e⟩:=zsi (ws:=ws) (S:=S) (w:=w) (D:=D) r
  exact ⟨_,hz.lin 1 (-(w l)) (zwy ws pre post),fun j=>by simp only [yOf];rw [e j];grind⟩
theorem zsk {ws:List Rw} {S:List Nat} {w:Rw} {D:Int} (hD:D=det ws S) {s:Nat} (hs:s ∈ S):∀ (ps:List (List Nat × Nat × List Nat)),(ps.map (·.2.1)).Nodup->(∀ p ∈ ps,S=p.1 ++ p.2.1 :: p.2.2)->yOf ws S w D ps s=if s ∈ ps.map (·.2.1) then 0 else D * w s
 | [],_,_=>by simp [yOf]
 | (pre,l,post) :: r,nd,h=>by
  rw [List.map_cons,List.nodup_cons] at nd
  have ih:=zsk (w:=w) hD hs r nd.2 fun p hp=>h p (.tail _ hp)
  have eS:=h _ (.head _)
  simp only at eS
  simp only [yOf]
  rw [ih]
  by_cases c:s=l
  ·subst c
   have e1:adj ws pre post s=D:=by unfold adj;rw [<- eS,hD]
   have n1:¬ s ∈ r.map (·.2.1):=nd.1
   rw [e1,if_neg n1,if_pos (by simp)]
   grind
  ·have m:s ∈ pre ++ post:=by
    rw [eS] at hs
    rcases List.mem_append.mp hs with m | m
    ·exact List.mem_append_left _ m
    ·exact List.mem_append_right _ ((List.mem_cons.mp m).resolve_left c)
   have e1:adj ws pre post s=0:=zhO (l:=0) m
   have e2:(s ∈ ((pre,l,post) :: r).map (·.2.1)) ↔ s ∈ r.map (·.2.1):=by simp [c]
   rw [e1,Int.mul_zero,Int.sub_zero]
   by_cases d:s ∈ r.map (·.2.1)
   ·rw [if_pos d,if_pos (e2.mpr d)]
   ·rw [if_neg d,if_neg fun z=>d (e2.mp z)]
theorem zwQ {ws:List Rw} {S:List Nat} {w x z:Rw} {k a:Int} {A M:Nat} {done:List Nat} (hD:det ws S ≠ 0) (hi:Inj ws S) (hw:∀ j,(w j).natAbs<=A) (hM:∀ cs,cs.length=S.length->(det ws cs).natAbs<=M)
  (k0:k ≠ 0) (a0:a ≠ 0) (hz:Sp ws z) (e:∀ j,k * x j=a * w j + z j) (nd:done.Nodup) (hd:∀ s ∈ done,s ∈ S/\x s=0) (hn:∀ s ∈ S,s ∉ done->z s=0) (pz:PZ x) (j:Nat):(x j).natAbs<=(done.length + 1) * (A * M):=by
 have pick:∀ done:List Nat,(∀ s ∈ done,s ∈ S)->∃ ps:List (List Nat × Nat × List Nat),ps.map (·.2.1)=done/\∀ p ∈ ps,S=p.1 ++ p.2.1 :: p.2.2:=fun done=>by
  induction done with
  | nil=>exact fun _=>⟨[],rfl,fun _ h=>nomatch h⟩
  | cons s r ih =>
   intro h
   obtain ⟨ps,h1,h2⟩:=ih fun t ht=>h t (.tail _ ht)
   obtain ⟨pre,post,e⟩:=List.append_of_mem (h s (.head _))
   refine ⟨(pre,s,post) :: ps,by rw [List.map_cons,h1],fun p hp=>?_⟩
   rcases List.mem_cons.mp hp with c | hp
   ·rw [c];exact e
   ·exact h2 p hp
 obtain ⟨ps,hp1,hp2⟩:=pick done fun s hs=>(hd s hs).1
 obtain ⟨zy,hzy,ey⟩:=zsi (ws:=ws) (S:=S) (w:=w) (D:=det ws S) ps
 have q:=hi _ (hz.lin (det ws S) (-a) hzy) (fun s hs=>by
  have h1:=e s
  have h2:=ey s
  rw [zsk rfl hs ps (hp1 ▸ nd) hp2] at h2
  by_cases c:s ∈ done
  ·rw [if_pos (hp1 ▸ c)] at h2
   rw [(hd s c).2] at h1
   grind
  ·rw [if_neg (by rw [hp1];exact c)] at h2
   rw [hn s hs c]
   grind)
 have r:∀ j,a * yOf ws S w (det ws S) ps j=(det ws S * k) * x j:=fun j=>by
  have h1:=e j
  have h2:=ey j
  have h3:=q j
  grind
 rcases pz with pz | pz
 ·rw [pz j];simp
 ·obtain ⟨t,et⟩:=zhK a0 (fun j=>⟨_,(r j).symm⟩) pz
  have t0:t ≠ 0:=fun h0=>zdQ hD k0 (by rw [et,h0,Int.mul_zero])
  have ex:yOf ws S w (det ws S) ps j=t * x j:=by
   have:=r j
   rw [et,Int.mul_assoc] at this
   exact Int.eq_of_mul_eq_mul_left a0 this
  have b:=zsj (ws:=ws) (S:=S) (w:=w) (D:=det ws S) hw (hM S rfl) ps (fun p hp j=>hM _ (by
   have:=congrArg List.length (hp2 p hp)
   simp at this ⊢
   omega)) j
  have lp:ps.length=done.length:=by rw [<- hp1,List.length_map]
  rw [ex,Int.natAbs_mul,lp] at b
  have:(x j).natAbs<=t.natAbs * (x j).natAbs:=Nat.le_mul_of_pos_left _ (by omega)
  omega
end MD
namespace MD
theorem zjc {n:Nat} {ws:List Rw} {S:List Nat} {w:List Int}:∀ (held:zbn) (done:List Nat) (x:List Int),(∀ e ∈ held,zse n ws S e.1 e.2)->(∀ e ∈ held,e.1 ∈ S)->(∀ s ∈ done,s ∈ S)->(held.map (·.1) ++ done).Nodup->zsd n ws S done w x ->
  zsd n ws S ((held.map (·.1)).reverse ++ done) w (clears held x)
 | [],done,x,_,_,_,_,W=>W
 | e :: held,done,x,hr,hm,hd,hn,W=>by
  rw [List.map_cons,List.cons_append,List.nodup_cons] at hn
  have W':=zox (hr e (.head _)) W (fun s hs=>⟨hd s hs,fun c=>hn.1 (List.mem_append_right _ (c ▸ hs))⟩)
  have:=zjc held (e.1 :: done) _ (fun y hy=>hr y (.tail _ hy)) (fun y hy=>hm y (.tail _ hy)) (fun s hs=>(List.mem_cons.mp hs).elim (fun c=>c ▸ hm e (.head _)) (hd s)) (by
   rw [List.nodup_append] at hn ⊢
   refine ⟨hn.2.1,List.nodup_cons.mpr ⟨fun c=>hn.1 (List.mem_append_right _ c),hn.2.2.1⟩,fun a ha b hb c=>?_⟩
   rcases List.mem_cons.mp hb with r | r
   ·exact hn.1 (List.mem_append_left _ (by rw [<- r,<- c];exact ha))
   ·exact hn.2.2.2 a ha b r c) W'
  rw [List.map_cons,List.reverse_cons,List.append_assoc]
  exact this
theorem zjF {n:Nat} {ws:List Rw} {S:List Nat} {held:zbn} (H:zbf n ws S held):(held.map (·.1)).Nodup:=by
 rw [H.keys];exact List.pairwise_reverse.mpr ((zcE H.det).imp fun h=>h.symm)
theorem zgV {n:Nat} {ws:List Rw} {S:List Nat} {held:zbn} (H:zbf n ws S held):held.length=S.length:=by
 have:=congrArg List.length H.keys
 simpa using this
theorem zj3:∀ {ws:List Rw} {S:List Nat},det ws S ≠ 0->ws.length=S.length:=by
 have ex0:∀ (f:List Nat->Int) (w:Rw) (cs B:List Nat),(∀ (cs' B':List Nat),(B' ++ cs').length + 1=B.length + cs.length->f (B' ++ cs')=0)->ex f w B cs=0:=by
  intro f w cs
  induction cs with
  | nil=>exact fun _ _=>rfl
  | cons c cs ih =>
   intro B h
   simp only [ex]
   rw [h cs B (by simp;omega),ih (B ++ [c]) (fun cs' B' e=>h cs' B' (by simp at e ⊢;omega))]
   simp
 intro ws
 induction ws with
 | nil =>
  intro S h
  cases S with
  | nil=>rfl
  | cons s S=>exact absurd rfl h
 | cons w ws ih =>
  intro S h
  refine Classical.byContradiction fun ne=>h ?_
  show ex (det ws) w [] S=0
  refine ex0 _ _ _ _ fun cs' B' e=>Classical.byContradiction fun z=>ne ?_
  have:=ih z
  simp at e this ⊢
  omega
theorem zvl {n:Nat} {ws:List Rw} {S:List Nat} {held:zbn} {w:List Int} {A N:Nat} (H:zbf n ws S held) (hw:w.length=n) (pz:PZ (fn w)) (hA:∀ v ∈ ws,∀ j,(v j).natAbs<=A) (hwA:∀ j,(fn w j).natAbs<=A) (hN:ws.length<=N) (h1:1<=A) (i:Nat) :
  (clears (held.take i) w).length=n/\∀ j,(fn (clears (held.take i) w) j).natAbs<=(N + 1) * (A * (N * A) ^ N):=by
 have W:zsd n ws S [] w w:=⟨hw,pz,fun _ h=>(nomatch h),1,1,_,by decide,by decide,Sp.zero ws,fun _ _ _=>rfl,fun j=>by simp⟩
 have lS:=zj3 H.det
 have nd:((held.take i).map (·.1)).Nodup:=by rw [List.map_take];exact (zjF H).sublist (List.take_sublist _ _)
 have R:=zjc (held.take i) [] w (fun e he=>H.row e (List.mem_of_mem_take he)) (fun e he=>H.mem (List.mem_of_mem_take he)) (fun _ h=>(nomatch h)) (by rw [List.append_nil];exact nd) W
 rw [List.append_nil] at R
 refine ⟨R.len,fun j=>?_⟩
 obtain ⟨k,a,z,k0,a0,hz,nz,e⟩:=R.sp
 have hM:∀ cs:List Nat,cs.length=S.length->(det ws cs).natAbs<=(N * A) ^ ws.length:=fun cs hc=>zqe ws cs hA (by omega)
 have b:=zwQ (M:=(N * A) ^ ws.length) H.det H.inj hwA hM k0 a0 hz e (List.pairwise_reverse.mpr (nd.imp fun h=>h.symm)) (fun s hs=>⟨by
  obtain ⟨e',me,rfl⟩:=List.mem_map.mp (List.mem_reverse.mp hs)
  exact H.mem (List.mem_of_mem_take me),R.zero s hs⟩) nz R.pz j
 have l1:((held.take i).map (·.1)).reverse.length<=N:=by
  have:=zgV H
  simp
  omega
 refine Nat.le_trans b (Nat.mul_le_mul (by omega) (Nat.mul_le_mul_left _ ?_))
 rcases Nat.eq_zero_or_pos N with c | c
 ·have:ws.length=0:=by omega
  rw [this,c]
  exact Nat.le_refl _
 ·exact Nat.pow_le_pow_right (Nat.mul_pos c h1) hN
theorem zuc {n:Nat} {ws:List Rw} {S:List Nat} {held:zbn} {A N:Nat} (H:zbf n ws S held) (hA:∀ v ∈ ws,∀ j,(v j).natAbs<=A) (hN:ws.length<=N) (h1:1<=A) {e:Nat × List Int} (he:e ∈ held) (j:Nat):(fn e.2 j).natAbs<=(N + 1) * (A * (N * A) ^ N):=by
 have lS:=zj3 H.det
 have b:=H.le (N:=N) hA (by omega) he j
 rcases Nat.eq_zero_or_pos N with c | c
 ·have:held.length=0:=by rw [zgV H];omega
  rw [List.length_eq_zero_iff.mp this] at he
  cases he
 ·have p:=Nat.pow_le_pow_right (n:=N * A) (Nat.mul_pos c h1) hN
  have q:1 * (1 * (N * A) ^ N)<=(N + 1) * (A * (N * A) ^ N):=Nat.mul_le_mul (by omega) (Nat.mul_le_mul_right _ h1)
  omega
end MD
namespace MD
theorem zaR (a:Rat) (l:List Rat):zby (a :: l)=a + zby l:=rfl
theorem zen:zby []=0:=rfl
theorem zju:∀ (l m:List Rat),zby (l ++ m)=zby l + zby m
 | [],m=>by rw [List.nil_append,zen];grind
 | a :: l,m=>by rw [List.cons_append,zaR,zaR,zju l m];grind
theorem zfd {α:Type} (a b:Rat) (f g:α->Rat):∀ l:List α,zby (l.map fun x=>a * f x + b * g x)=a * zby (l.map f) + b * zby (l.map g)
 | []=>by simp only [List.map_nil,zen];grind
 | x :: l=>by simp only [List.map_cons,zaR,zfd a b f g l];grind
theorem zbl {α:Type} {f:α->Rat}:∀ {l:List α},(∀ x ∈ l,f x=0)->zby (l.map f)=0
 | [],_=>rfl
 | x :: l,h=>by rw [List.map_cons,zaR,h x (.head _),zbl fun y hy=>h y (.tail _ hy)];grind
theorem zaE {α:Type} {f g:α->Rat}:∀ {l:List α},(∀ x ∈ l,f x=g x)->zby (l.map f)=zby (l.map g)
 | [],_=>rfl
 | x :: l,h=>by rw [List.map_cons,List.map_cons,zaR,zaR,h x (.head _),zaE fun y hy=>h y (.tail _ hy)]
theorem zqW {α:Type} (a:Rat) (f:α->Rat) (l:List α):zby (l.map fun x=>a * f x)=a * zby (l.map f):=by
 have:=zfd a 0 f f l
 rw [<- zaE (f:=fun x=>a * f x) fun x _=>by grind] at this
 rw [this];grind
def ip (n:Nat) (u v:Rq):Rat:=zby ((List.range n).map fun j=>u j * v j)
theorem zfY (n:Nat) (u v:Rq):ip n u v=ip n v u:=zaE fun j _=>by grind
theorem zpQ (n:Nat) (t:Rq) (a b:Rat) (u v:Rq):ip n t (fun j=>a * u j + b * v j)=a * ip n t u + b * ip n t v:=by
 unfold ip
 rw [<- zfd]
 exact zaE fun j _=>by grind
theorem zpO (n:Nat) (t:Rq):ip n t (fun _=>0)=0:=zbl fun j _=>by grind
theorem zjW {n:Nat} {t u v:Rq} (h:∀ j,j < n->u j=v j):ip n t u=ip n t v:=zaE fun j hj=>by rw [h j (List.mem_range.mp hj)]
theorem zsP {α:Type} (n:Nat) (t:Rq) (l:List α) (c:α->Rat) (u:α->Rq):ip n t (fun j=>zby (l.map fun x=>c x * u x j))=zby (l.map fun x=>c x * ip n t (u x)):=by
 induction l with
 | nil=>exact zpO n t
 | cons x l ih =>
  rw [List.map_cons,zaR,<- ih]
  have:=zpQ n t (c x) 1 (u x) (fun j=>zby (l.map fun x=>c x * u x j))
  rw [<- zjW (u:=fun j=>zby ((x :: l).map fun x=>c x * u x j)) fun j _=>by rw [List.map_cons,zaR];grind] at this
  rw [this];grind
theorem zjt (v:Rq) (g:Rq) (p:Nat) (x:Rat):∀ n:Nat,p < n->zby ((List.range n).map fun j=>(if p=j then x else g j) * v j)=zby ((List.range n).map fun j=>g j * v j) + (x - g p) * v p
 | 0,h=>by omega
 | n + 1,h=>by
  simp only [List.range_succ,List.map_append,List.map_cons,List.map_nil,zju,zaR,zen]
  by_cases c:p=n
  ·subst c
   rw [if_pos rfl,zaE (f:=fun j=>(if p=j then x else g j) * v j) (g:=fun j=>g j * v j) fun j hj=>by rw [if_neg (by have:=List.mem_range.mp hj;omega)]]
   grind
  ·rw [if_neg c,zjt v g p x n (by omega)]
   grind
theorem SpQ.ind {P:Rq->Prop} (h0:P fun _=>0) (hl:∀ a b u v,P u->P v->P fun j=>a * u j + b * v j):∀ {ws:List Rw} {v:Rq},(∀ w ∈ ws,P fun j=>(w j:Rat))->SpQ ws v->P v
 | [],v,_,h=>by
  have:v=fun _=>0:=funext h
  rw [this];exact h0
 | w :: ws,v,hw,⟨a,z,h,e⟩=>by
  have:v=fun j=>a * (w j:Rat) + 1 * z j:=funext fun j=>by rw [e j];grind
  rw [this]
  exact hl a 1 _ _ (hw w (.head _)) (SpQ.ind h0 hl (fun y hy=>hw y (.tail _ hy)) h)
end MD
namespace FL
open PySem
def zbw:SF:=(sIf (tB (e2 neD (eV 2) (eC (.int 0)))) (zav (eV 1)) sNx)
def zgl:SF:=(zc7 (zuG (zaa (eV 0) zai)) (gT [(gN 1),(gN 2)]) zbw)
def zf3:SF:=(zao zgl
  (zav (eC .none)))
def zig:List D->R D:=zaZ false 1 3 zf3
def zhH:SF:=(zav (znq (e1 (zbB "int") (eV 0)) (zwm (e1 (zbB "bool") (eV 0)))))
def zbp:List D->R D:=zaZ false 1 1 zhH
def zeR:EF:=(zaV 1 [] (iR1 (zaa (eV 0) zai)) (gN 0) za2 (zbW (zaa (eC (.int 0)) (zaa (eC (.int 1)) zai))))
def zd2:SF:=(zcA zeR)
def zbs:List D->R D:=zaZ true 1 1 zd2
def ze3:SF:=(zao (sIf (tB (e2 eqD (eV 1) (eC (.int 0)))) zlM sNx)
  (zao (zax (gN 2) (zae zal (zaa (eV 0) (zaa (eV 1) zai))))
  (zao (sIf (tB (e2 ltD (eV 1) (eC (.int 0)))) (zax (gN 2) (e1 zgJ (eV 2))) sNx)
  (zav (zbW (zaa (e2 zaF (eV 0) (eV 2)) (zaa (e2 zaF (eV 1) (eV 2)) zai)))))))
def zcj:List D->R D:=zaZ false 2 3 ze3
def zbv:SF:=(zao (zax (gN 1) (zae zal (zaa (eV 1) (zaa (eV 2) zai))))
  (sIf (tB (e2 eqD (eV 1) (eC (.int 1)))) zu0 sNx))
def zgk:SF:=(zc7 (iE (eV 0)) (gN 2) zbv)
def zdX:EF:=(zaV 1 [1] (iE (eV 0)) (gN 0) za2 (e2 zaF (eV 0) (eV 1)))
def zf1:SF:=(zao (zax (gN 1) (eC (.int 0)))
  (zao zgk
  (zao (sIf (tB (e2 eqD (eV 1) (eC (.int 0)))) (zav (eV 0)) sNx)
  (zav zdX))))
def zif:List D->R D:=zaZ false 1 3 zf1
def zb6:SF:=(zao (sIf (FL.tOr (FL.zce (tE (e1 (zbB "tuple") (eV 0)))) (tB (e2 neD (e1 zcd (eV 0)) (eC (.int 2))))) (zav (eC (.bool false))) sNx)
  (zao (sIf (FL.tOr (FL.zce (tE (zae zbp (zaa (e2 ixD (eV 0) (eC (.int 0))) zai)))) (FL.zce (tE (zae zbp (zaa (e2 ixD (eV 0) (eC (.int 1))) zai))))) (zav (eC (.bool false))) sNx)
  (zav (znq (e2 geD (e2 ixD (eV 0) (eC (.int 1))) (eC (.int 1))) (e2 eqD (zae zbo (zaa (e2 ixD (eV 0) (eC (.int 0))) (zaa (e2 ixD (eV 0) (eC (.int 1))) zai))) (eV 0))))))
def zef:List D->R D:=zaZ false 1 1 zb6
def zml:SF:=(zao (zax (gT [(gN 2),(gN 3)]) (eV 1))
  (zao (sIf (tB (e2 eqD (eV 2) (eC (.int 0)))) zlM sNx)
  (zav (zae zki (zaa (eV 0) (zaa (eIf (tB (e2 gtD (eV 2) (eC (.int 0)))) (zbW (zaa (eV 3) (zaa (eV 2) zai))) (zbW (zaa (e1 zgJ (eV 3)) (zaa (e1 zgJ (eV 2)) zai)))) zai))))))
def zqF:List D->R D:=zaZ false 2 4 zml
def ze1:EF:=(zaV 1 [] (iE (eV 0)) (gN 0) za2 (zae zij (zaa (eV 0) zai)))
def zhJ:SF:=(zav (znq (e1 (zbB "list") (eV 0)) (e1 zwx ze1)))
def zg6:List D->R D:=zaZ false 1 1 zhJ
def zk3:SF:=(zax (gN 2) (zae zlG (zaa (eV 2) (zaa (zae zki (zaa (eV 3) (zaa (eV 4) zai))) zai))))
def zdT:SF:=(zc7 (zne (zaa (eV 0) (zaa (eV 1) zai))) (gT [(gN 3),(gN 4)]) zk3)
def zf2:SF:=(zao (zax (gN 2) (eC (.tuple [(.int 0),(.int 1)])))
  (zao zdT
  (zav (eV 2))))
def zfJ:List D->R D:=zaZ false 2 5 zf2
def zbU:SF:=(zax (gN 1) (e2 za9 (e2 zaF (eV 1) (zae zal (zaa (eV 1) (zaa (e2 ixD (eV 2) (eC (.int 1))) zai)))) (e2 ixD (eV 2) (eC (.int 1)))))
def zeQ:SF:=(zc7 (iE (eV 0)) (gN 2) zbU)
def zcL:EF:=(zaV 1 [1] (iE (eV 0)) (gN 0) za2 (e2 za9 (e2 ixD (eV 0) (eC (.int 0))) (e2 zaF (eV 1) (e2 ixD (eV 0) (eC (.int 1))))))
def zd0:SF:=(zao (zax (gN 1) (eC (.int 1)))
  (zao zeQ
  (zav (zae zif (zaa zcL zai)))))
def ze6:List D->R D:=zaZ false 1 3 zd0
def zdZ:EF:=(zaV 2 [0,1,2] (zne (zaa (eV 0) (zaa (eV 1) zai))) (gT [(gN 0),(gN 1)]) za2 (e2 zit (e2 za9 (e2 ixD (eV 3) (eV 4)) (eV 0)) (e2 za9 (e2 ixD (eV 2) (eV 4)) (eV 1))))
def zf5:SF:=(zao (sIf (tB (e2 eqD (e2 ixD (eV 0) (eV 2)) (eC (.int 0)))) (zav (eV 0)) sNx)
  (zav (zae zif (zaa zdZ zai))))
def zeg:List D->R D:=zaZ false 3 3 zf5
def zdW:SF:=(setM 3 (zae zcj (zaa (e1 zgJ (e2 ixD (e2 zgn (eV 0) (eV 4)) (eV 1))) (zaa (e2 ixD (e2 zgn (eV 0) (eV 4)) (eV 4)) zai))) (eV 4))
def zct:SF:=(zc7 (iD (eV 0)) (gN 4) zdW)
def zdh:SF:=(zao (zcy 3 (zsW (eC (.tuple [(.int 0),(.int 1)])) (eV 2)))
  (zao (setM 3 (eC (.tuple [(.int 1),(.int 1)])) (eV 1))
  (zao zct
  (zhj 3))))
def zgE:List D->R D:=zaZ true 3 5 zdh
def zci:SF:=(zao (zax (gN 1) (zan zbM [.m 0,.v (eC (.int 6))]))
  (zao (sIf (tB (e2 ltD (eV 1) (eC (.int 3)))) (zav (e2 ixD (zcz (zaa (zbW (zaa (eC (.int 0)) (zaa (eC (.int 1)) zai))) (zaa (zbW (zaa (eC (.int 1)) (zaa (eC (.int 1)) zai))) (zaa (zbW (zaa (e1 zgJ (eC (.int 1))) (zaa (eC (.int 1)) zai))) zai)))) (eV 1))) sNx)
  (zao (sIf (tB (e2 ltD (eV 1) (eC (.int 5)))) (zav (zae zbo (zaa (e2 zit (zan zbM [.m 0,.v (eC (.int 13))]) (eC (.int 6))) (zaa (e2 zbb (eC (.int 1)) (e2 za9 (zan zbM [.m 0,.v (eC (.int 4))]) (e2 zit (eV 1) (eC (.int 3))))) zai)))) sNx)
  (zav (zae zbo (zaa (e2 zit (zan zbM [.m 0,.v (e2 zbb (e2 za9 (eC (.int 2)) (e2 ziY (eC (.int 10)) (eC (.int 4)))) (eC (.int 1)))]) (e2 ziY (eC (.int 10)) (eC (.int 4)))) (zaa (e2 zbb (eC (.int 1)) (zan zbM [.m 0,.v (eC (.int 30))])) zai)))))))
def zaW:List D->R (D × List D):=run [true] false 2 zci
def zcv:EF:=(zaV 1 [] (iE (eV 0)) (gN 0) (FL.zce (tE (zae zef (zaa (eV 0) zai)))) (eV 0))
def zdj:SF:=(zao (sIf (FL.tOr (FL.zce (tE (e1 (zbB "list") (eV 0)))) (tB (e2 neD (e1 zcd (eV 0)) (eV 1)))) (zav (eC (.bool false))) sNx)
  (zav (e2 eqD zcv (zcz zai))))
def zgF:List D->R D:=zaZ false 2 2 zdj
def zeS:EF:=(zaV 2 [] (zne (zaa (eV 0) (zaa (eV 1) zai))) (gT [(gN 0),(gN 1)]) za2 (zae zc5 (zaa (eV 0) (zaa (eV 1) zai))))
def zd3:SF:=(zcA zeS)
def zcw:List D->R D:=zaZ true 2 2 zd3
def zdY:EF:=(zaV 1 [0] (iE (eV 1)) (gN 0) za2 (zae zg5 (zaa (eV 1) (zaa (eV 0) zai))))
def zdi:SF:=(zcA zdY)
def zbZ:List D->R D:=zaZ true 2 2 zdi
def zgM:SF:=(zax (gN 2) (zae zc5 (zaa (eV 2) (zaa (zae zg5 (zaa (eV 3) (zaa (eV 4) zai))) zai))))
def zb2:SF:=(zc7 (zne (zaa (eV 0) (zaa (eV 1) zai))) (gT [(gN 3),(gN 4)]) zgM)
def zcR:SF:=(zao (zax (gN 2) (zbW (zaa (eC (.int 0)) (zaa (eC (.int 1)) zai))))
  (zao zb2
  (zav (eV 2))))
def zfK:List D->R D:=zaZ false 2 5 zcR
def zd5:SF:=(zav (znq (zae zg6 (zaa (eV 0) zai)) (e2 eqD (e1 zcd (eV 0)) (eV 1))))
def zii:List D->R D:=zaZ false 2 2 zd5
def zbF:SF:=(zax (gN 3) (zae zeg (zaa (eV 3) (zaa (e2 zgn (eV 1) (eV 4)) (zaa (eV 4) zai)))))
def zbD:SF:=(zc7 (iD (eV 1)) (gN 4) zbF)
def za4:EF:=(zi9 1 [1,3,5] (iD (eV 1)) (gN 0) za2 (eV 0) (zae zeg (zaa (e2 zgn (eV 1) (eV 0)) (zaa (eV 2) (zaa (eV 3) zai)))))
def zbE:SF:=(zao (zax (gN 3) (zae ze6 (zaa (eV 2) zai)))
  (zao zbD
  (zao (zax (gN 5) (zae zig (zaa (eV 3) zai)))
  (sIf (tB (e2 zvK (eV 5) (eC .none))) (zao (zcy 1 za4)
  (zc8 1 (zrW 1 (eV 5) (eV 3)))) sNx))))
def zbC:SF:=(zc7 (iE (eV 0)) (gN 2) zbE)
def zb5:SF:=(zao (zcy 1 znp)
  (zao (zqJ 1 zbC)
  (zav (eV 1))))
def zaP:List D->R D:=zaZ false 1 6 zb5
def zcM:EF:=(zaV 1 [0] (iR1 (zaa (eV 1) zai)) (gN 0) za2 (zan zaW [.m 1]))
def zbm:SF:=(zao (zax (gN 4) (zan zbM [.m 0,.v (eC (.int 6))]))
  (zao (zc8 5 (zcy 5 zcM))
  (zao (sIf (FL.zis (tB (e2 eqD (eV 4) (eC (.int 0)))) (tB (e2 gtD (m1 zcd 2) (eC (.int 1))))) (zax (gN 5) (zae zcw (zaa (zae zbZ (zaa (zan zaW [.m 0]) (zaa (m2 ixD 2 (eC (.int 0))) zai))) (zaa (m2 ixD 2 (e1 zgJ (eC (.int 1)))) zai)))) (sIf (tB (e2 eqD (eV 4) (eC (.int 1)))) (zax (gN 5) (e2 ixD (zcz (zaa (zae zbs (zaa (eV 1) zai)) (zaa (e2 ixD (m2 zbb 2 (zcz (zaa (eV 5) zai))) (eC (.int 0))) zai))) (zan zbM [.m 0,.v (eC (.int 2))]))) sNx))
  (zwF 2 zuw (e1 zkO (eV 5))))))
def zbh:SF:=(zqJ 3 (zcy 3 (zae zcw (zaa (eV 3) (zaa (zae zbZ (zaa (eV 4) (zaa (eV 5) zai))) zai)))))
def zbg:SF:=(zc7 (zne (zaa (eV 0) (zaa (eV 1) zai))) (gT [(gN 4),(gN 5)]) zbh)
def zbH:SF:=(zao (zcy 3 (zae zbs (zaa (eV 2) zai)))
  (zao zbg
  (zhj 3)))
def zc6:List D->R D:=zaZ true 3 6 zbH
def zb3:SF:=(sIf (FL.zce (tE (zae zii (zaa (eV 3) (zaa (eV 1) zai))))) zlM sNx)
def zdB:SF:=(zc7 (zuG (zaa (eV 0) zai)) (gT [(gN 2),(gN 3)]) zb3)
def zcP:SF:=zdB
def zdt:List D->R D:=zaZ false 2 4 zcP
def zcO:EF:=(zaV 1 [0,1] (iE (e2 zgn (eV 1) (eV 0))) (gN 0) za2 (zae zcj (zaa (eV 0) (zaa (e2 ixD (e2 zgn (eV 2) (eV 1)) (eV 1)) zai))))
def zcN:EF:=(zaV 1 [1] (iE (e1 ziT (eV 1))) (gN 0) za2 zcO)
def zd4:SF:=(zao (zax (gN 1) (zae zaP (zaa (eV 0) zai)))
  (zcA zcN))
def zih:List D->R D:=zaZ true 1 2 zd4
def zcu:EF:=(zaV 1 [0] (iE (eV 1)) (gN 0) za2 (e2 ixD (eV 0) (eV 1)))
def zbG:EF:=(zaV 1 [0,1] (iR1 (zaa (e1 zcd (eV 1)) zai)) (gN 0) za2 (e2 zbb zcu (zcz (zaa (e2 ixD (eV 2) (eV 0)) zai))))
def zdV:SF:=(setM 4 (zae zcj (zaa (e2 ixD (e2 zgn (eV 3) (eV 5)) (e1 zgJ (eC (.int 1)))) (zaa (e2 ixD (e2 zgn (eV 3) (eV 5)) (eV 5)) zai))) (eV 5))
def zcr:SF:=(zc7 (iD (eV 3)) (gN 5) zdV)
def zdg:SF:=(zao (zc8 2 (zcy 2 zbG))
  (zao (zax (gN 3) (zae zaP (zaa (eV 2) zai)))
  (zao (zcy 4 (zsW (eC (.tuple [(.int 0),(.int 1)])) (e1 zcd (eV 0))))
  (zao zcr
  (zhj 4)))))
def zgD:List D->R D:=zaZ true 2 6 zdg
def zb4:EF:=(zaV 1 [1,2] (iR1 (zaa (eV 1) zai)) (gN 0) (tB (e2 zuE (eV 0) (eV 2))) (zae zgE (zaa (eV 2) (zaa (eV 0) (zaa (eV 1) zai)))))
def zcQ:SF:=(zao (zax (gN 2) (zae zaP (zaa (eV 0) zai)))
  (zcA (zae zih (zaa zb4 zai))))
def zdu:List D->R D:=zaZ true 2 3 zcQ
def ze0:EF:=(zaV 1 [3] (iE (eV 2)) (gN 0) za2 (zae zqF (zaa (eV 0) (zaa (eV 1) zai))))
def zbr:SF:=(zao (zax (gN 3) (zae zfJ (zaa (eV 2) (zaa (eV 1) zai))))
  (sIf (tB (e2 neD (eV 3) (eC (.tuple [(.int 0),(.int 1)])))) (zav (zbW (zaa (eC (.str "apart")) (zaa ze0 zai)))) sNx))
def zcs:SF:=(zc7 (iE (zae zdu (zaa (eV 0) (zaa (e1 zcd (eV 1)) zai)))) (gN 2) zbr)
def zd1:SF:=(zao (sIf (FL.zce (tE (zae zg6 (zaa (eV 1) zai)))) zlM sNx)
  (zao (sE (zae zdt (zaa (eV 0) (zaa (e1 zcd (eV 1)) zai))))
  (zao zcs
  (zav (zbW (zaa (eC (.str "sum")) (zaa (zae zgD (zaa (eV 0) (zaa (eV 1) zai))) zai)))))))
def znJ:List D->R D:=zaZ false 2 4 zd1
end FL
namespace FL
open PySem MD
theorem zhT {α:Type} {f0:α->D} {k:Nat} {ix:List Nat} {g:GF} {t:TF} {f:EF} {ρ:En} (P:α->Bool) (h:α->D):∀ (xs:List α) (acc:List D),acc.length + xs.length<=lim ->
  (∀ x ∈ xs,∃ β,g (f0 x) (blk k ix ρ)=.ok β/\t β=.ok (P x,β)/\(P x=true->f β=.ok (h x,β))/\back ρ ix (β.drop k)=ρ)->ziK k ix g t f (xs.map f0) ρ acc=.ok (acc ++ (xs.filter P).map h,ρ)
 | [],acc,_,_=>by simp [ziK]
 | x :: xs,acc,hl,hx=>by
  obtain ⟨β,h1,h2,h3,h4⟩:=hx x (List.mem_cons_self ..)
  have rest:=fun y m=>hx y (List.mem_cons_of_mem x m)
  simp only [List.length_cons] at hl
  rw [List.map_cons]
  unfold ziK
  rw [h1,zac,h2,zac]
  cases c:P x with
  | true =>
   rw [if_pos rfl,h3 c,zac,zay (zdS (by omega)),h4,zhT P h xs _ (by simp;omega) rest,List.filter_cons_of_pos c]
   simp
  | false =>
   rw [if_neg (by simp),h4,zhT P h xs acc (by omega) rest,List.filter_cons_of_neg (by simp [c])]
theorem zfu {α:Type} {f0:α->D} {k:Nat} {ix:List Nat} {it:IF} {g:GF} {t:TF} {f:EF} {ρ:En} {xs:List α} (P:α->Bool) (h:α->D) (hi:it ρ=.ok (xs.map f0,ρ)) (hl:xs.length<=lim)
  (hx:∀ x ∈ xs,∃ β,g (f0 x) (blk k ix ρ)=.ok β/\t β=.ok (P x,β)/\(P x=true->f β=.ok (h x,β))/\back ρ ix (β.drop k)=ρ):zaV k ix it g t f ρ=.ok (.list ((xs.filter P).map h),ρ):=by
 unfold zaV
 rw [hi,zac,zhT P h xs [] (by simpa using hl) hx]
 rfl
theorem zbc {α:Type} {f0:α->D} {k:Nat} {ix:List Nat} {it:IF} {g:GF} {f:EF} {ρ:En} {xs:List α} (h:α->D) (hi:it ρ=.ok (xs.map f0,ρ)) (hl:xs.length<=lim)
  (hx:∀ x ∈ xs,∃ β,g (f0 x) (blk k ix ρ)=.ok β/\f β=.ok (h x,β)/\back ρ ix (β.drop k)=ρ):zaV k ix it g za2 f ρ=.ok (.list (xs.map h),ρ):=by
 rw [zfu (fun _=>true) h hi hl fun x m=>by
  obtain ⟨β,h1,h2,h3⟩:=hx x m
  exact ⟨β,h1,rfl,fun _=>h2,h3⟩]
 rw [List.filter_eq_self.mpr (fun _ _=>rfl)]
def zuz:En->Prop
 | []=>True
 | .ow _ _ :: _=>False
 | _ :: r=>zuz r
theorem zuz.look:∀ {ix:List Nat} {cs:En},zuz cs->∀ i p d,(ix.zip cs).lookup i ≠ some (.ow p d)
 | [],_,_,i,p,d,z=>by simp at z
 | _ :: _,[],_,i,p,d,z=>by simp at z
 | j :: ix,c :: cs,h,i,p,d,z=>by
  have hr:zuz cs:=by cases c <;> first | exact h | exact h.elim
  rw [List.zip_cons_cons,List.lookup_cons] at z
  split at z
  ·cases z;exact h
  ·exact zuz.look hr i p d z
theorem zba {ρ:En} {ix:List Nat} {cs:En} (h:zuz cs):back ρ ix cs=ρ:=zny (zuz.look h) _ _
def IR (xs:List Int):D:=.list (xs.map PyData.int)
def zah (xs:List Rat):D:=.list (xs.map num)
def zad (M:List (List Rat)):D:=.list (M.map zah)
def hent (e:Nat × List Int):D × D:=(.int (e.1:Int),IR e.2)
def hD (held:zbn):D:=.dict (held.map hent)
theorem zjE (i:Int):zgJ (.int i)=.ok (.int (-i)):=rfl
theorem zdk {i j:Int} (hj:j ≠ 0) (d:j ∣ i):zaF (.int i) (.int j)=.ok (.int (i / j)):=by
 show chk (decide (j ≠ 0)) _=_
 rw [zay (by simpa using hj),Int.fdiv_eq_ediv_of_dvd d]
theorem num_divInt (t b:Int) (hb:b ≠ 0):num (Rat.divInt t b)=.tuple [.int (t / (if b < 0 then -(Int.gcd t b:Int) else (Int.gcd t b:Int))),.int (b / (if b < 0 then -(Int.gcd t b:Int) else (Int.gcd t b:Int)))]:=by
 match b,hb with
 | .ofNat d,hb =>
  have d0:d ≠ 0:=fun z=>hb (by rw [z];rfl)
  have e:Rat.divInt t (Int.ofNat d)=Rat.normalize t d d0:=by
   show mkRat t d=_
   unfold mkRat
   rw [dif_neg d0]
  have h:=QR.norm (t:=t) d0
  rw [Q1.znj (by omega)] at h
  have h1:=congrArg Prod.fst h
  have h2:=congrArg Prod.snd h
  simp only at h1 h2
  unfold num
  rw [e,<- h1,<- h2,if_neg (show ¬ Int.ofNat d < 0 from Int.not_lt.mpr (Int.natCast_nonneg d))]
  rfl
 | .negSucc d,hb =>
  have e:Rat.divInt t (Int.negSucc d)=Rat.normalize (-t) (d + 1) (Nat.succ_ne_zero d):=rfl
  have h:=QR.norm (t:=-t) (Nat.succ_ne_zero d)
  rw [Q1.znj (by omega)] at h
  have h1:=congrArg Prod.fst h
  have h2:=congrArg Prod.snd h
  simp only at h1 h2
  have ng:Int.negSucc d=-((d + 1:Nat):Int):=rfl
  have lt:Int.negSucc d < 0:=by omega
  unfold num
  rw [e,<- h1,<- h2,if_pos lt,ng,Int.gcd_neg,Int.neg_gcd,Int.ediv_neg,Int.ediv_neg,Int.neg_ediv_of_dvd (Int.gcd_dvd_left ..),Int.neg_ediv_of_dvd (Int.gcd_dvd_right ..),Int.neg_neg]
theorem ze4 (t b:Int) (hb:b ≠ 0):zcj [.int t,.int b]=.ok (num (Rat.divInt t b)):=by
 have g0:(Int.gcd t b:Int) ≠ 0:=by
  have:=Int.gcd_pos_of_ne_zero_right t hb
  omega
 have l2:leB 2 lim=true:=by decide
 have d1:(Int.gcd t b:Int) ∣ t:=Int.gcd_dvd_left ..
 have d2:(Int.gcd t b:Int) ∣ b:=Int.gcd_dvd_right ..
 rw [num_divInt t b hb]
 show ((ze3 [.val (.int t),.val (.int b),.no]).bind _).bind _=_
 unfold ze3
 have s1:sIf (tB (FL.e2 eqD (eV 1) (eC (.int 0)))) zlM sNx [.val (.int t),.val (.int b),.no]=.ok (.nx,[.val (.int t),.val (.int b),.no]):=by
  simp only [sIf,tB,FL.e2,eV,List.getElem?_cons_succ,List.getElem?_cons_zero,eC,zac,zbT,decide_eq_false hb,zlM,sNx,Bool.false_eq_true,if_false]
 have s2:zax (gN 2) (zae zal (zaa (eV 0) (zaa (eV 1) zai))) [.val (.int t),.val (.int b),.no]=.ok (.nx,[.val (.int t),.val (.int b),.val (.int (Int.gcd t b))]):=by
  simp only [zax,zae,zaa,eV,List.getElem?_cons_zero,zai,zac,List.getElem?_cons_succ,zgm,gN,List.set_cons_succ,List.set_cons_zero]
 rw [zaj s1,zaj s2]
 by_cases c:b < 0
 ·have s3:sIf (tB (FL.e2 ltD (eV 1) (eC (.int 0)))) (zax (gN 2) (FL.e1 zgJ (eV 2))) sNx [.val (.int t),.val (.int b),.val (.int (Int.gcd t b))]=.ok (.nx,[.val (.int t),.val (.int b),.val (.int (-(Int.gcd t b:Int)))]):=by
   simp only [sIf,tB,FL.e2,eV,List.getElem?_cons_succ,List.getElem?_cons_zero,eC,zac,zhw,decide_eq_true c,zax,FL.e1,gN,sNx,zjE,List.set_cons_succ,List.set_cons_zero,if_true]
  rw [zaj s3]
  simp only [zav,zbW,zaa,FL.e2,eV,List.getElem?_cons_zero,zac,List.getElem?_cons_succ,zdk (Int.neg_ne_zero.mpr g0) (Int.neg_dvd.mpr d1),zai,zdk (Int.neg_ne_zero.mpr g0) (Int.neg_dvd.mpr d2),List.length_cons,List.length_nil,Nat.reduceAdd,zay l2,List.replicate,outs,outD,if_pos c]
 ·have s3:sIf (tB (FL.e2 ltD (eV 1) (eC (.int 0)))) (zax (gN 2) (FL.e1 zgJ (eV 2))) sNx [.val (.int t),.val (.int b),.val (.int (Int.gcd t b))]=.ok (.nx,[.val (.int t),.val (.int b),.val (.int (Int.gcd t b))]):=by
   simp only [sIf,tB,FL.e2,eV,List.getElem?_cons_succ,List.getElem?_cons_zero,eC,zac,zhw,decide_eq_false c,zax,FL.e1,gN,sNx,Bool.false_eq_true,if_false]
  rw [zaj s3]
  simp only [zav,zbW,zaa,FL.e2,eV,List.getElem?_cons_zero,zac,List.getElem?_cons_succ,zdk g0 d1,zai,zdk g0 d2,List.length_cons,List.length_nil,Nat.reduceAdd,zay l2,List.replicate,outs,outD,if_neg c]
theorem zkq (x0:Sl):∀ (xs:List Int) (g:Nat) (x2:Sl),Np x2->∃ x2',Np x2'/\forL (gN 2) zbv (xs.map PyData.int) [x0,.val (.int (g:Int)),x2]=.ok (.nx,[x0,.val (.int (zf0 g xs:Int)),x2'])
 | [],g,x2,h=>⟨x2,h,rfl⟩
 | x :: xs,g,x2,h=>by
  have e0:gN 2 (.int x) [x0,.val (.int (g:Int)),x2]=.ok [x0,.val (.int (g:Int)),.val (.int x)]:=zdG (x:=x2) rfl h
  have eg:Int.gcd (g:Int) x=Nat.gcd g x.natAbs:=by simp [Int.gcd]
  have s1:zax (gN 1) (zae zal (zaa (eV 1) (zaa (eV 2) zai))) [x0,.val (.int (g:Int)),.val (.int x)]=.ok (.nx,[x0,.val (.int ((Nat.gcd g x.natAbs:Nat):Int)),.val (.int x)]):=by
   simp only [zax,zae,zaa,eV,List.getElem?_cons_succ,List.getElem?_cons_zero,zai,zac,zgm,eg,gN,List.set_cons_succ,List.set_cons_zero]
  by_cases c:Nat.gcd g x.natAbs=1
  ·have s2:zbv [x0,.val (.int (g:Int)),.val (.int x)]=.ok (.bk,[x0,.val (.int ((Nat.gcd g x.natAbs:Nat):Int)),.val (.int x)]):=by
    unfold zbv
    rw [zaj s1]
    simp only [sIf,tB,FL.e2,eV,c,List.getElem?_cons_succ,List.getElem?_cons_zero,eC,zac,zbT,decide_eq_true (show ((1:Nat):Int)=1 from rfl),zu0,sNx,if_true]
   have e1:zf0 g (x :: xs)=1:=by
    have:zf0 g (x :: xs) ∣ Nat.gcd g x.natAbs:=by
     show zf0 (Nat.gcd g x.natAbs) xs ∣ _
     exact (zer xs _).1
    rw [c] at this
    exact Nat.dvd_one.mp this
   refine ⟨.val (.int x),zaD _,?_⟩
   rw [List.map_cons]
   unfold forL
   rw [e0,zac,s2,zac,e1,c]
  ·have s2:zbv [x0,.val (.int (g:Int)),.val (.int x)]=.ok (.nx,[x0,.val (.int ((Nat.gcd g x.natAbs:Nat):Int)),.val (.int x)]):=by
    unfold zbv
    rw [zaj s1]
    simp only [sIf,tB,FL.e2,eV,List.getElem?_cons_succ,List.getElem?_cons_zero,eC,zac,zbT,decide_eq_false (show ¬((Nat.gcd g x.natAbs:Nat):Int)=1 by omega),zu0,sNx,Bool.false_eq_true,if_false]
   obtain ⟨x2',h2,e2⟩:=zkq x0 xs (Nat.gcd g x.natAbs) (.val (.int x)) (zaD _)
   refine ⟨x2',h2,?_⟩
   rw [List.map_cons]
   unfold forL
   rw [e0,zac,s2,zac]
   exact e2
theorem ziS (xs:List Int) (hl:xs.length<=lim):zif [IR xs]=.ok (IR (zlT xs)):=by
 obtain ⟨x2,h2,e⟩:=zkq (.val (IR xs)) xs 0 .no za8
 have s1:zax (gN 1) (eC (.int 0)) [.val (IR xs),.no,.no]=.ok (.nx,[.val (IR xs),.val (.int ((0:Nat):Int)),.no]):=rfl
 have s2:zgk [.val (IR xs),.val (.int ((0:Nat):Int)),.no]=.ok (.nx,[.val (IR xs),.val (.int (zf0 0 xs:Int)),x2]):=e
 show ((zf1 [.val (IR xs),.no,.no]).bind _).bind _=_
 unfold zf1
 rw [zaj s1,zaj s2]
 unfold zlT
 by_cases c:zf0 0 xs=0
 ·rw [if_pos c,c]
  simp only [zao,sIf,tB,FL.e2,eV,List.getElem?_cons_succ,List.getElem?_cons_zero,eC,zac,zbT,decide_eq_true (show ((0:Nat):Int)=0 from rfl),zav,sNx,if_true,List.replicate,outs,outD]
 ·rw [if_neg c]
  have s3:sIf (tB (FL.e2 eqD (eV 1) (eC (.int 0)))) (zav (eV 0)) sNx [.val (IR xs),.val (.int (zf0 0 xs:Int)),x2]=.ok (.nx,[.val (IR xs),.val (.int (zf0 0 xs:Int)),x2]):=by
   simp only [sIf,tB,FL.e2,eV,List.getElem?_cons_succ,List.getElem?_cons_zero,eC,zac,zbT,decide_eq_false (show ¬((zf0 0 xs:Nat):Int)=0 by omega),zav,sNx,Bool.false_eq_true,if_false]
  rw [zaj s3]
  have q:zdX [.val (IR xs),.val (.int (zf0 0 xs:Int)),x2]=.ok (IR (xs.map (· / (zf0 0 xs:Int))),[.val (IR xs),.val (.int (zf0 0 xs:Int)),x2]):=by
   unfold zdX IR
   rw [zbc (f0:=PyData.int) (xs:=xs) (fun i=>.int (i / (zf0 0 xs:Int))) rfl hl fun i mi=>?_]
   ·rw [List.map_map];rfl
   ·refine ⟨[.val (.int i),.val (.int (zf0 0 xs:Int))],rfl,?_,zba trivial⟩
    have fd:zaF (.int i) (.int (zf0 0 xs:Int))=.ok (.int (i / (zf0 0 xs:Int))):=zdk (by omega) (Int.ofNat_dvd_left.mpr ((zer xs 0).2 i mi))
    simp only [FL.e2,eV,List.getElem?_cons_zero,zac,List.getElem?_cons_succ,fd]
  unfold zav
  rw [q]
  rfl
def ze7 (L:Nat) (xs:List Rat):Nat:=xs.foldl (fun L r=>L / Nat.gcd L r.den * r.den) L
def zbO (xs:List Rat):List Int:=zlT (xs.map fun r=>r.num * ((ze7 1 xs / r.den:Nat):Int))
theorem zfp (L d:Nat):L / Nat.gcd L d * d=Nat.lcm L d:=by
 rw [Nat.lcm,Nat.div_mul_right_comm (Nat.gcd_dvd_left L d)]
theorem zjP:∀ (xs:List Rat) (L:Nat),L ∣ ze7 L xs/\∀ r ∈ xs,r.den ∣ ze7 L xs
 | [],L=>⟨Nat.dvd_refl _,fun _ h=>nomatch h⟩
 | x :: xs,L=>by
  have ih:=zjP xs (L / Nat.gcd L x.den * x.den)
  rw [zfp] at ih
  have e:ze7 L (x :: xs)=ze7 (Nat.lcm L x.den) xs:=by
   show ze7 (L / Nat.gcd L x.den * x.den) xs=_
   rw [zfp]
  rw [e]
  refine ⟨Nat.dvd_trans (Nat.dvd_lcm_left ..) ih.1,fun r hr=>?_⟩
  rcases List.mem_cons.mp hr with rfl | hr
  ·exact Nat.dvd_trans (Nat.dvd_lcm_right ..) ih.1
  ·exact ih.2 r hr
theorem zm7:∀ (xs:List Rat) (L:Nat),0 < L->0 < ze7 L xs
 | [],L,h=>h
 | x :: xs,L,h=>by
  refine zm7 xs _ ?_
  show 0 < L / Nat.gcd L x.den * x.den
  rw [zfp]
  exact Nat.lcm_pos h (Nat.pos_of_ne_zero x.den_nz)
theorem zoN {L d a n:Nat} (h:L < 2 ^ a) (hd:d < 2 ^ n):L / Nat.gcd L d * d < 2 ^ (a + n):=Nat.lt_of_le_of_lt (Nat.mul_le_mul_right _ (Nat.div_le_self ..)) (QR.zfn h hd)
theorem zmb {n:Nat}:∀ (xs:List Rat) (L a:Nat),L < 2 ^ a->(∀ r ∈ xs,r.den < 2 ^ n)->ze7 L xs < 2 ^ (a + n * xs.length)
 | [],L,a,h,_=>by simpa [ze7] using h
 | x :: xs,L,a,h,hx=>by
  have:=zmb (n:=n) xs (L / Nat.gcd L x.den * x.den) (a + n) (zoN h (hx x (List.mem_cons_self ..))) fun r hr=>hx r (List.mem_cons_of_mem _ hr)
  rw [List.length_cons,Nat.mul_succ,show a + (n * xs.length + n)=a + n + n * xs.length by omega]
  exact this
theorem ziO {n:Nat} (x0:Sl):∀ (xs:List Rat) (L a:Nat) (x2:Sl),Np x2->0 < L->L < 2 ^ a->a + n * xs.length<=10000000->(∀ r ∈ xs,r.den < 2 ^ n) ->
  ∃ x2',Np x2'/\forL (gN 2) zbU (xs.map num) [x0,.val (.int (L:Int)),x2]=.ok (.nx,[x0,.val (.int (ze7 L xs:Int)),x2'])
 | [],L,a,x2,h,_,_,_,_=>⟨x2,h,rfl⟩
 | x :: xs,L,a,x2,h,hp,hL,ha,hx=>by
  rw [List.length_cons,Nat.mul_succ] at ha
  have hd:=hx x (List.mem_cons_self ..)
  have e0:gN 2 (num x) [x0,.val (.int (L:Int)),x2]=.ok [x0,.val (.int (L:Int)),.val (num x)]:=zdG (x:=x2) rfl h
  have k1:zal [.int (L:Int),.int (x.den:Int)]=.ok (.int ((Nat.gcd L x.den:Nat):Int)):=by rw [zgm];rfl
  have k2:zaF (.int (L:Int)) (.int ((Nat.gcd L x.den:Nat):Int))=.ok (.int ((L / Nat.gcd L x.den:Nat):Int)):=by
   have:=Nat.gcd_pos_of_pos_left x.den hp
   rw [zdk (by omega) (Int.natCast_dvd_natCast.mpr (Nat.gcd_dvd_left ..))]
   rfl
  have k3:za9 (.int ((L / Nat.gcd L x.den:Nat):Int)) (.int (x.den:Int))=.ok (.int ((L / Nat.gcd L x.den * x.den:Nat):Int)):=by
   rw [zaO (n:=a) (m:=n) ⟨by rw [Int.natAbs_natCast];exact Nat.lt_of_le_of_lt (Nat.div_le_self ..) hL⟩ ⟨by simpa using hd⟩ (by omega)]
   rfl
  have s1:zbU [x0,.val (.int (L:Int)),.val (num x)]=.ok (.nx,[x0,.val (.int ((L / Nat.gcd L x.den * x.den:Nat):Int)),.val (num x)]):=by
   unfold zbU num
   simp only [zax,FL.e2,eV,List.getElem?_cons_succ,List.getElem?_cons_zero,zae,zaa,eC,zac,zai,lx1,k1,k2,k3,gN,List.set_cons_succ,List.set_cons_zero]
  obtain ⟨x2',h2,e2⟩:=ziO (n:=n) x0 xs (L / Nat.gcd L x.den * x.den) (a + n) (.val (num x)) (zaD _) (by rw [zfp];exact Nat.lcm_pos hp (Nat.pos_of_ne_zero x.den_nz)) (zoN hL hd) (by omega) fun r hr=>hx r (List.mem_cons_of_mem _ hr)
  refine ⟨x2',h2,?_⟩
  rw [List.map_cons]
  unfold forL
  rw [e0,zac,s1,zac]
  exact e2
theorem zqN {xs:List Rat} {n:Nat} (hx:∀ r ∈ xs,QR.Bd n r) (hn:n * (xs.length + 1) + 1<=1000000) (hl:xs.length<=lim):ze6 [zah xs]=.ok (IR (zbO xs)):=by
 have hd:∀ r ∈ xs,r.den < 2 ^ n:=fun r hr=>(hx r hr).2
 rw [Nat.mul_succ] at hn
 obtain ⟨x2,h2,e⟩:=ziO (n:=n) (.val (zah xs)) xs 1 1 .no za8 (by decide) (by decide) (by omega) hd
 have s1:zax (gN 1) (eC (.int 1)) [.val (zah xs),.no,.no]=.ok (.nx,[.val (zah xs),.val (.int ((1:Nat):Int)),.no]):=rfl
 have s2:zeQ [.val (zah xs),.val (.int ((1:Nat):Int)),.no]=.ok (.nx,[.val (zah xs),.val (.int (ze7 1 xs:Int)),x2]):=e
 have q:zcL [.val (zah xs),.val (.int (ze7 1 xs:Int)),x2]=.ok (IR (xs.map fun r=>r.num * ((ze7 1 xs / r.den:Nat):Int)),[.val (zah xs),.val (.int (ze7 1 xs:Int)),x2]):=by
  unfold zcL IR
  rw [zbc (f0:=num) (xs:=xs) (fun r=>.int (r.num * ((ze7 1 xs / r.den:Nat):Int))) rfl hl fun r mr=>?_]
  ·rw [List.map_map];rfl
  ·refine ⟨[.val (num r),.val (.int (ze7 1 xs:Int))],rfl,?_,zba trivial⟩
   ·have fd:zaF (.int (ze7 1 xs:Int)) (.int (r.den:Int))=.ok (.int ((ze7 1 xs / r.den:Nat):Int)):=by
     have:=r.den_nz
     rw [zdk (by omega) (Int.natCast_dvd_natCast.mpr ((zjP xs 1).2 r mr))]
     rfl
    have b1:=zmb xs 1 1 (by decide) hd
    have mu:za9 (.int r.num) (.int ((ze7 1 xs / r.den:Nat):Int))=.ok (.int (r.num * ((ze7 1 xs / r.den:Nat):Int))):=zaO (n:=n) (m:=1 + n * xs.length) ⟨(hx r mr).1⟩ ⟨by rw [Int.natAbs_natCast];exact Nat.lt_of_le_of_lt (Nat.div_le_self ..) b1⟩ (by omega)
    unfold num
    simp only [FL.e2,eV,List.getElem?_cons_zero,eC,zac,lx0,List.getElem?_cons_succ,lx1,fd,mu]
 refine zbz (ρ:=[.val (zah xs),.val (.int (ze7 1 xs:Int)),x2]) rfl ?_
 show zd0 [.val (zah xs),.no,.no]=_
 unfold zd0
 rw [zaj s1,zaj s2]
 unfold zav zae zaa zai
 rw [q]
 simp only [zac]
 rw [ziS _ (by simpa using hl)]
 rfl
def fq (xs:List Rat):Rq:=fun j=>xs.getD j 0
theorem zk6 {xs:List Rat} (f:Rat->Int) (f0:f 0=0) (j:Nat):fn (xs.map f) j=f (fq xs j):=by
 unfold fn fq
 simp only [List.getD_eq_getElem?_getD,List.getElem?_map]
 cases xs[j]? <;> simp [f0]
theorem znk {xs:List Rat} (j:Nat):fq xs j=0\/fq xs j ∈ xs:=by
 unfold fq
 rw [List.getD_eq_getElem?_getD]
 cases e:xs[j]? with
 | none=>exact .inl rfl
 | some x=>exact .inr (List.mem_of_getElem? e)
theorem den_mul (r:Rat):r * (r.den:Rat)=(r.num:Rat):=by
 have dn:(r.den:Rat) ≠ 0:=by have:=r.den_pos;simp;omega
 have:=Rat.mkRat_self r
 rw [Rat.mkRat_eq_div] at this
 grind
theorem zov (xs:List Rat):∃ q:Rat,q ≠ 0/\∀ j,(fn (zbO xs) j:Rat)=q * fq xs j:=by
 obtain ⟨g,g0,hg⟩:=zem (xs.map fun r=>r.num * ((ze7 1 xs / r.den:Nat):Int))
 have L0:=zm7 xs 1 (by decide)
 have L0':((ze7 1 xs:Nat):Rat) ≠ 0:=by simp;omega
 have g0':((g:Int):Rat) ≠ 0:=by simp;omega
 refine ⟨(ze7 1 xs:Rat) / (g:Rat),by grind,fun j=>?_⟩
 have h:=hg j
 rw [zk6 (fun r=>r.num * ((ze7 1 xs / r.den:Nat):Int)) (by simp)] at h
 have h':(g:Rat) * (fn (zbO xs) j:Rat)=((fq xs j).num:Rat) * ((ze7 1 xs / (fq xs j).den:Nat):Rat):=by
  have:=congrArg (Int.cast (R:=Rat)) h
  push_cast at this
  exact this
 have hd:(fq xs j).den ∣ ze7 1 xs:=by
  rcases znk (xs:=xs) j with z | z
  ·rw [z];exact Nat.one_dvd _
  ·exact (zjP xs 1).2 _ z
 obtain ⟨c,hc⟩:=hd
 have dp:=(fq xs j).den_pos
 have e1:ze7 1 xs / (fq xs j).den=c:=by rw [hc];exact Nat.mul_div_cancel_left c dp
 rw [e1] at h'
 have e2:((ze7 1 xs:Nat):Rat)=((fq xs j).den:Rat) * (c:Rat):=by rw [hc];push_cast;rfl
 have e3:=den_mul (fq xs j)
 rw [e2]
 generalize ((fq xs j).den:Rat)=dd at *
 generalize ((fq xs j).num:Rat)=nn at *
 grind
theorem znK (xs:List Rat):(zbO xs).length=xs.length:=by unfold zbO;rw [zmN,List.length_map]
theorem zow (xs:List Rat):PZ (fn (zbO xs)):=zoF _
theorem zg7 {xs:List Rat} {n:Nat} (hx:∀ r ∈ xs,QR.Bd n r) (j:Nat):(fn (zbO xs) j).natAbs < 2 ^ (n * (xs.length + 1) + 1):=by
 refine Nat.lt_of_le_of_lt (zte _ j) ?_
 rw [zk6 (fun r=>r.num * ((ze7 1 xs / r.den:Nat):Int)) (by simp)]
 rcases znk (xs:=xs) j with z | z
 ·rw [z];simpa using Nat.pow_pos (by decide)
 ·have b1:=zmb xs 1 1 (by decide) fun r hr=>(hx r hr).2
  rw [Int.natAbs_mul,Int.natAbs_natCast,show n * (xs.length + 1) + 1=n + (1 + n * xs.length) by rw [Nat.mul_succ];omega]
  exact QR.zfn (hx _ z).1 (Nat.lt_of_le_of_lt (Nat.div_le_self ..) b1)
end FL
namespace FL
open PySem MD
theorem zkS (i:Int):keyOf (.int i)=some (.inr (.inl i)):=rfl
theorem zpC (a p:Nat):decide (keyOf (.int (a:Int))=some (.inr (.inl (p:Int))))=decide (a=p):=by
 rw [zkS]
 by_cases c:a=p
 ·subst c;simp
 ·rw [decide_eq_false c]
  exact decide_eq_false fun z=>c (Int.ofNat.inj (Sum.inl.inj (Sum.inr.inj (Option.some.inj z))))
theorem zkR:∀ h:zbn,keysOk false (h.map hent)=true
 | []=>rfl
 | e :: r=>by
  have ih:=zkR r
  unfold keysOk at ih ⊢
  rw [List.map_cons,List.all_cons,ih,Bool.and_true]
  rfl
theorem zhM (h:zbn) (p:Nat):dictAt (hD h) (.int (p:Int))=.ok (h.map hent,.inr (.inl (p:Int))):=by
 unfold hD dictAt
 rw [zkS]
 exact zay (zkR h)
theorem zma (p:Nat):∀ h:zbn,look (h.map hent) (.inr (.inl (p:Int)))=((h.find? fun e=>decide (e.1=p)).map fun e=>IR e.2)
 | []=>rfl
 | e :: r=>by
  have ih:=zma p r
  unfold look at ih ⊢
  simp only [List.map_cons,List.find?_cons]
  rw [show decide (keyOf (hent e).1=some (.inr (.inl (p:Int))))=decide (e.1=p) from zpC e.1 p]
  cases decide (e.1=p) with
  | true=>rfl
  | false=>exact ih
theorem zp9 {h:zbn} (nd:(h.map (·.1)).Nodup) {e:Nat × List Int} (he:e ∈ h):h.find? (fun y=>decide (y.1=e.1))=some e:=by
 induction h with
 | nil=>exact nomatch he
 | cons y r ih =>
  rw [List.map_cons,List.nodup_cons] at nd
  rcases List.mem_cons.mp he with rfl | he
  ·rw [List.find?_cons_of_pos (by simp)]
  ·rw [List.find?_cons_of_neg (by
    simp only [decide_eq_true_eq]
    intro z
    exact nd.1 (z ▸ List.mem_map_of_mem (f:=(·.1)) he))]
   exact ih nd.2 he
theorem zfv {h:zbn} (nd:(h.map (·.1)).Nodup) {e:Nat × List Int} (he:e ∈ h):zgn (hD h) (.int (e.1:Int))=.ok (IR e.2):=by
 unfold zgn zhN
 rw [zhM,zac,zac,zma,zp9 nd he]
 rfl
theorem find_none {h:zbn} {p:Nat} (hp:p ∉ h.map (·.1)):h.find? (fun y=>decide (y.1=p))=none:=by
 rw [List.find?_eq_none]
 intro e he
 simp only [decide_eq_true_eq]
 intro z
 exact hp (z ▸ List.mem_map_of_mem (f:=(·.1)) he)
theorem zk9 {h:zbn} {p:Nat} (hp:p ∉ h.map (·.1)) (hl:h.length + 1<=lim) (x:List Int):zqd (hD h) (.int (p:Int)) (IR x)=.ok (hD (h ++ [(p,x)])):=by
 unfold zqd
 rw [zhM,zac]
 show chk (leB ((h.map hent).length + 1) lim) _=_
 rw [zay (by rw [List.length_map];exact zdS hl)]
 unfold zsq
 rw [if_neg]
 ·rw [hD,List.map_append];rfl
 ·rw [Bool.not_eq_true,List.any_eq_false]
  intro y hy
  obtain ⟨e,he,rfl⟩:=List.mem_map.mp hy
  rw [show decide (keyOf (hent e).1=some (.inr (.inl (p:Int))))=decide (e.1=p) from zpC e.1 p]
  simp only [decide_eq_true_eq]
  intro z
  exact hp (z ▸ List.mem_map_of_mem (f:=(·.1)) he)
theorem zry (h:zbn) (p:Nat):zuE (.int (p:Int)) (hD h)=.ok (.bool (decide (p ∉ h.map (·.1)))):=by
 unfold zuE zhN
 rw [zhM,zac,zac,zma]
 by_cases c:p ∈ h.map (·.1)
 ·obtain ⟨e,he,rfl⟩:=List.mem_map.mp c
  have:(h.find? fun y=>decide (y.1=e.1)).isSome=true:=by
   rw [List.find?_isSome]
   exact ⟨e,he,by simp⟩
  rw [Option.isSome_map,this,decide_eq_false (fun z=>z c)]
  rfl
 ·rw [find_none c,decide_eq_true c];rfl
theorem zfq (h:zbn):zvW (hD h)=.ok (h.map fun e=>.int (e.1:Int)):=by
 show R.ok ((h.map hent).map (·.1))=_
 rw [List.map_map];rfl
theorem zs4 {α:Type} {xs:List α} {i:Nat} (h:i < xs.length):atI xs (i:Int)=xs[i]?:=by
 unfold atI ixN
 rw [if_pos (by omega),if_pos (by omega)]
 simp
theorem zod {xs:List Int} {i:Nat} (h:i < xs.length):ixD (IR xs) (.int (i:Int))=.ok (.int (fn xs i)):=by
 show R.of (atI (xs.map PyData.int) (i:Int))=_
 rw [zs4 (by simpa using h),List.getElem?_map,List.getElem?_eq_getElem h]
 show R.ok _=_
 unfold fn
 rw [List.getD_eq_getElem?_getD,List.getElem?_eq_getElem h]
 rfl
theorem zt8 {xs:List Rat} {i:Nat} (h:i < xs.length):ixD (zah xs) (.int (i:Int))=.ok (num (fq xs i)):=by
 show R.of (atI (xs.map num) (i:Int))=_
 rw [zs4 (by simpa using h),List.getElem?_map,List.getElem?_eq_getElem h]
 show R.ok _=_
 unfold fq
 rw [List.getD_eq_getElem?_getD,List.getElem?_eq_getElem h]
 rfl
def zfo:List Int->Option Nat
 | []=>none
 | x :: xs=>if x=0 then (zfo xs).map (· + 1) else some 0
theorem zi2:∀ {xs:List Int} {p:Nat},zfo xs=some p->fn xs p ≠ 0/\∀ j,j < p->fn xs j=0
 | [],p,h=>nomatch h
 | x :: xs,p,h=>by
  unfold zfo at h
  split at h
  ·rename_i c
   rw [Option.map_eq_some_iff] at h
   obtain ⟨q,hq,rfl⟩:=h
   obtain ⟨h1,h2⟩:=zi2 hq
   refine ⟨h1,fun j hj=>?_⟩
   cases j with
   | zero=>exact c
   | succ j=>exact h2 j (by omega)
  ·rename_i c
   cases h
   exact ⟨c,fun j hj=>by omega⟩
theorem zi3:∀ {xs:List Int},zfo xs=none->∀ j,fn xs j=0
 | [],h,j=>by simp [fn]
 | x :: xs,h,j=>by
  unfold zfo at h
  split at h
  ·rename_i c
   rw [Option.map_eq_none_iff] at h
   cases j with
   | zero=>exact c
   | succ j=>exact zi3 h j
  ·cases h
def zxg:Option Nat->D
 | none=>.none
 | some p=>.int (p:Int)
theorem zkQ (x0:Sl):∀ (xs:List Int) (i:Nat) (x1 x2:Sl),Np x1->Np x2->∃ y1 y2,Np y1/\Np y2/\forL (gT [(gN 1),(gN 2)]) zbw (zft i (xs.map PyData.int)) [x0,x1,x2]=.ok (match zfo xs with
  | none=>.nx
  | some p=>.rt (.int ((i + p:Nat):Int)),[x0,y1,y2])
 | [],i,x1,x2,h1,h2=>⟨x1,x2,h1,h2,rfl⟩
 | x :: xs,i,x1,x2,h1,h2=>by
  have e0:gT [(gN 1),(gN 2)] (.tuple [.int (i:Int),.int x]) [x0,x1,x2]=.ok [x0,.val (.int (i:Int)),.val (.int x)]:=by
   show (gN 1 (.int (i:Int)) [x0,x1,x2]).bind _=_
   rw [zdG (x:=x1) rfl h1,zac]
   show (gN 2 (.int x) [x0,.val (.int (i:Int)),x2]).bind _=_
   rw [zdG (x:=x2) rfl h2]
   rfl
  rw [List.map_cons]
  unfold zft forL
  rw [e0,zac]
  unfold zfo
  by_cases c:x=0
  ·have s1:zbw [x0,.val (.int (i:Int)),.val (.int x)]=.ok (.nx,[x0,.val (.int (i:Int)),.val (.int x)]):=by
    unfold zbw
    simp only [sIf,tB,FL.e2,eV,List.getElem?_cons_succ,List.getElem?_cons_zero,eC,zac,zdc,decide_eq_true c,Bool.not_true,zav,sNx,Bool.false_eq_true,if_false]
   rw [s1,zac,if_pos c]
   obtain ⟨y1,y2,g1,g2,e⟩:=zkQ x0 xs (i + 1) (.val (.int (i:Int))) (.val (.int x)) (zaD _) (zaD _)
   refine ⟨y1,y2,g1,g2,e.trans ?_⟩
   cases zfo xs with
   | none=>rfl
   | some p=>simp only [Option.map_some];rw [show i + 1 + p=i + (p + 1) by omega]
  ·have s1:zbw [x0,.val (.int (i:Int)),.val (.int x)]=.ok (.rt (.int (i:Int)),[x0,.val (.int (i:Int)),.val (.int x)]):=by
    unfold zbw
    simp only [sIf,tB,FL.e2,eV,List.getElem?_cons_succ,List.getElem?_cons_zero,eC,zac,zdc,decide_eq_false c,Bool.not_false,zav,sNx,if_true]
   rw [s1,zac,if_neg c]
   exact ⟨_,_,zaD _,zaD _,rfl⟩
theorem ztZ (xs:List Int):zig [IR xs]=.ok (zxg (zfo xs)):=by
 obtain ⟨y1,y2,_,_,e⟩:=zkQ (.val (IR xs)) xs 0 .no .no za8 za8
 have s1:zgl [.val (IR xs),.no,.no]=.ok (match zfo xs with
  | none=>.nx
  | some p=>.rt (.int ((0 + p:Nat):Int)),[.val (IR xs),y1,y2]):=e
 show ((zf3 [.val (IR xs),.no,.no]).bind _).bind _=_
 unfold zf3 zao
 rw [s1,zac]
 cases zfo xs with
 | none=>rfl
 | some p=>simp only [Nat.zero_add];rfl
theorem zje {w o:List Int} {p a b:Nat} (hl:w.length=o.length) (hp:p < w.length) (hw:∀ j,(fn w j).natAbs < 2 ^ a) (ho:∀ j,(fn o j).natAbs < 2 ^ b) (hab:a + b<=100000000) (hm:w.length<=lim) :
  zeg [IR w,IR o,.int (p:Int)]=.ok (IR (cleared w o p)):=by
 have i1:=zod hp
 have i2:=zod (hl ▸ hp)
 show ((zf5 [.val (IR w),.val (IR o),.val (.int (p:Int))]).bind _).bind _=_
 unfold zf5 cleared
 by_cases c:fn w p=0
 ·rw [if_pos c]
  simp only [zao,sIf,tB,FL.e2,eV,List.getElem?_cons_zero,zac,List.getElem?_cons_succ,i1,eC,zbT,decide_eq_true c,zav,sNx,if_true,zae,zaa,zai,List.replicate,outs,outD]
 ·rw [if_neg c]
  have s1:sIf (tB (FL.e2 eqD (FL.e2 ixD (eV 0) (eV 2)) (eC (.int 0)))) (zav (eV 0)) sNx [.val (IR w),.val (IR o),.val (.int (p:Int))]=.ok (.nx,[.val (IR w),.val (IR o),.val (.int (p:Int))]):=by
   simp only [sIf,tB,FL.e2,eV,List.getElem?_cons_zero,zac,List.getElem?_cons_succ,i1,eC,zbT,decide_eq_false c,zav,sNx,Bool.false_eq_true,if_false]
  rw [zaj s1]
  have zm:∀ (xs ys:List Int),ziu (xs.map PyData.int) (ys.map PyData.int)=(xs.zip ys).map fun q=>.tuple [.int q.1,.int q.2]:=by
   intro xs
   induction xs with
   | nil=>intro ys;cases ys <;> rfl
   | cons x xs ih =>
    intro ys
    cases ys with
    | nil=>rfl
    | cons y ys=>simp only [List.map_cons,ziu,List.zip_cons_cons,ih]
  have q:zdZ [.val (IR w),.val (IR o),.val (.int (p:Int))]=.ok (IR (List.zipWith (fun m i=>fn o p * m - fn w p * i) w o),[.val (IR w),.val (IR o),.val (.int (p:Int))]):=by
   unfold zdZ
   rw [zbc (f0:=fun q:Int × Int=>.tuple [.int q.1,.int q.2]) (xs:=w.zip o) (fun q=>.int (fn o p * q.1 - fn w p * q.2)) (by
    rw [<- zm];rfl) (by rw [List.length_zip];omega) fun q mi=>?_]
   ·have:∀ (xs ys:List Int),(xs.zip ys).map (fun q=>PyData.int (fn o p * q.1 - fn w p * q.2))=(List.zipWith (fun m i=>fn o p * m - fn w p * i) xs ys).map PyData.int:=by
     intro xs
     induction xs with
     | nil=>intro ys;cases ys <;> rfl
     | cons x xs ih=>intro ys;cases ys with
      | nil=>rfl
      | cons y ys=>simp only [List.zip_cons_cons,List.map_cons,List.zipWith_cons_cons,ih]
    rw [this];rfl
   ·obtain ⟨x,y⟩:=q
    refine ⟨[.val (.int x),.val (.int y),.val (IR w),.val (IR o),.val (.int (p:Int))],rfl,?_,zba trivial⟩
    have mx:∃ j,fn w j=x:=let ⟨j,_,e⟩:=zm5 (List.of_mem_zip mi).1;⟨j,e⟩
    have my:∃ j,fn o j=y:=let ⟨j,_,e⟩:=zm5 (List.of_mem_zip mi).2;⟨j,e⟩
    obtain ⟨jx,rfl⟩:=mx
    obtain ⟨jy,rfl⟩:=my
    have m1:za9 (.int (fn o p)) (.int (fn w jx))=.ok (.int (fn o p * fn w jx)):=zaO (n:=b) (m:=a) ⟨ho _⟩ ⟨hw _⟩ (by omega)
    have m2:za9 (.int (fn w p)) (.int (fn o jy))=.ok (.int (fn w p * fn o jy)):=zaO (n:=a) (m:=b) ⟨hw _⟩ ⟨ho _⟩ (by omega)
    simp only [FL.e2,eV,List.getElem?_cons_succ,List.getElem?_cons_zero,zac,i2,m1,zit,i1,m2]
  unfold zav zae zaa zai
  rw [q]
  simp only [zac]
  rw [ziS _ (by rw [List.length_zipWith];omega)]
  rfl
end FL
namespace FL
open PySem MD
theorem zoo (h:zbn) (e:Nat × List Int) (w:List Int):clears (h ++ [e]) w=cleared (clears h w) e.2 e.1:=by
 unfold clears
 rw [List.foldl_append]
 rfl
theorem zr0 {n B:Nat} {held:zbn} {w:List Int} {x0 x2 x5:Sl} (nd:(held.map (·.1)).Nodup) (hr:∀ e ∈ held,e.2.length=n/\e.1 < n/\∀ j,(fn e.2 j).natAbs < 2 ^ B)
  (hw:∀ i,(clears (held.take i) w).length=n/\∀ j,(fn (clears (held.take i) w) j).natAbs < 2 ^ B) (hB:B<=10000000) (hn:n<=1000) {x4:Sl} (h4:Np x4) :
  ∃ y4,Np y4/\zbD [x0,.val (hD held),x2,.val (IR w),x4,x5]=.ok (.nx,[x0,.val (hD held),x2,.val (IR (clears held w)),y4,x5]):=by
 obtain ⟨ρ',e,y4,g4,rfl⟩:=zbV (f:=fun e:Nat × List Int=>.int (e.1:Int)) (g:=gN 4) (b:=zbF) (fun done ρ=>∃ y4,Np y4/\ρ=[x0,.val (hD held),x2,.val (IR (clears done w)),y4,x5]) held [] [x0,.val (hD held),x2,.val (IR w),x4,x5] ⟨x4,h4,rfl⟩ (by
  rintro pre e post ρ heq ⟨y4,g4,rfl⟩
  rw [List.nil_append] at heq
  have me:e ∈ held:=by rw [heq];simp
  obtain ⟨h1,h2,h3⟩:=hr e me
  obtain ⟨k1,k2⟩:=hw pre.length
  have tk:held.take pre.length=pre:=by rw [heq];simp
  rw [tk] at k1 k2
  have c:=zje (w:=clears pre w) (o:=e.2) (p:=e.1) (a:=B) (b:=B) (k1.trans h1.symm) (by omega) k2 h3 (by omega) (by show _<=1000000;omega)
  refine ⟨_,.nx,?_,.inl rfl,.val (.int (e.1:Int)),zaD _,rfl⟩
  rw [zdG (x:=y4) rfl g4,zac]
  unfold zbF
  have dx:=zfv nd me
  simp only [zax,zae,zaa,eV,List.set_cons_succ,List.set_cons_zero,List.getElem?_cons_succ,List.getElem?_cons_zero,FL.e2,zai,zac,dx,c,gN]
  rw [zoo])
 refine ⟨y4,g4,?_⟩
 unfold zbD zc7
 have:iD (eV 1) [x0,.val (hD held),x2,.val (IR w),x4,x5]=.ok (held.map (fun e=>.int (e.1:Int)),[x0,.val (hD held),x2,.val (IR w),x4,x5]):=by
  simp only [iD,eV,List.getElem?_cons_succ,List.getElem?_cons_zero,zac,zfq]
 rw [this,zac]
 simpa using e
theorem zom {n B p:Nat} {held:zbn} {x:List Int} {x0 x2 x4:Sl} (nd:(held.map (·.1)).Nodup) (hr:∀ e ∈ held,e.2.length=n/\∀ j,(fn e.2 j).natAbs < 2 ^ B) (hx:x.length=n) (hx2:∀ j,(fn x j).natAbs < 2 ^ B) (hp:p < n) (hB:B<=10000000) (hn:n<=1000) (hl:held.length + 1<=lim) :
  za4 [x0,.val (hD held),x2,.val (IR x),x4,.val (.int (p:Int))]=.ok (hD (held.map fun e=>(e.1,cleared e.2 x p)),[x0,.val (hD held),x2,.val (IR x),x4,.val (.int (p:Int))]):=by
 unfold za4 zi9
 have it:iD (eV 1) [x0,.val (hD held),x2,.val (IR x),x4,.val (.int (p:Int))]=.ok (held.map (fun e=>.int (e.1:Int)),[x0,.val (hD held),x2,.val (IR x),x4,.val (.int (p:Int))]):=by
  simp only [iD,eV,List.getElem?_cons_succ,List.getElem?_cons_zero,zac,zfq]
 rw [it,zac]
 obtain ⟨acc,h1,h2⟩:=zjb (k:=1) (ix:=[1,3,5]) (g:=gN 0) (t:=za2) (kf:=eV 0) (vf:=zae zeg (zaa (FL.e2 zgn (eV 1) (eV 0)) (zaa (eV 2) (zaa (eV 3) zai)))) (ρ:=[x0,.val (hD held),x2,.val (IR x),x4,.val (.int (p:Int))])
  (f:=fun e:Nat × List Int=>.int (e.1:Int)) held (fun done acc=>acc=hD (done.map fun e=>(e.1,cleared e.2 x p))) (by
  rintro done e rest acc heq rfl
  have me:e ∈ held:=by rw [heq];simp
  obtain ⟨k1,k2⟩:=hr e me
  have c:=zje (w:=e.2) (o:=x) (p:=p) (a:=B) (b:=B) (k1.trans hx.symm) (by omega) k2 hx2 (by omega) (by show _<=1000000;omega)
  have dx:=zfv nd me
  have np:e.1 ∉ (done.map fun e=>(e.1,cleared e.2 x p)).map (·.1):=by
   rw [List.map_map]
   rw [heq,List.map_append,List.map_cons,List.nodup_append] at nd
   intro z
   exact nd.2.2 e.1 (by simpa using z) e.1 (List.mem_cons_self ..) rfl
  have pt:=zk9 np (by have:=congrArg List.length heq;simp at this ⊢;omega) (cleared e.2 x p)
  refine ⟨_,rfl,fun tail=>?_⟩
  show ((gN 0 (.int (e.1:Int)) [.no,.val (hD held),.val (IR x),.val (.int (p:Int))]).bind _)=_
  rw [show gN 0 (.int (e.1:Int)) [.no,.val (hD held),.val (IR x),.val (.int (p:Int))]=.ok [.val (.int (e.1:Int)),.val (hD held),.val (IR x),.val (.int (p:Int))] from rfl,zac]
  have vf:zae zeg (zaa (FL.e2 zgn (eV 1) (eV 0)) (zaa (eV 2) (zaa (eV 3) zai))) [.val (.int (e.1:Int)),.val (hD held),.val (IR x),.val (.int (p:Int))]=.ok (IR (cleared e.2 x p),[.val (.int (e.1:Int)),.val (hD held),.val (IR x),.val (.int (p:Int))]):=by
   simp only [zae,zaa,FL.e2,eV,List.getElem?_cons_succ,List.getElem?_cons_zero,zac,dx,zai,c]
  rw [show za2 [.val (.int (e.1:Int)),.val (hD held),.val (IR x),.val (.int (p:Int))]=.ok (true,[.val (.int (e.1:Int)),.val (hD held),.val (IR x),.val (.int (p:Int))]) from rfl,zac,if_pos rfl]
  rw [show eV 0 [.val (.int (e.1:Int)),.val (hD held),.val (IR x),.val (.int (p:Int))]=.ok (.int (e.1:Int),[.val (.int (e.1:Int)),.val (hD held),.val (IR x),.val (.int (p:Int))]) from rfl,zac,vf,zac,pt,zac]
  rw [show (done.map fun e=>(e.1,cleared e.2 x p)) ++ [(e.1,cleared e.2 x p)]=(done ++ [e]).map fun e=>(e.1,cleared e.2 x p) by simp]
  rw [zba (cs:=List.drop 1 (IR (cleared e.2 x p),[Sl.val (.int (e.1:Int)),.val (hD held),.val (IR x),.val (.int (p:Int))]).2) trivial]) held [] (.dict []) rfl rfl
 rw [h2,zac,h1]
theorem _root_.MD.SpQ.old {ws:List Rw} {w:Rw} {v:Rq} (h:SpQ ws v):SpQ (w :: ws) v:=⟨0,v,h,fun j=>by grind⟩
theorem _root_.MD.SpQ.new (ws:List Rw) (w:Rw):SpQ (w :: ws) (fun j=>(w j:Rat)):=⟨1,_,SpQ.zero ws,fun j=>by grind⟩
structure zlJ (n:Nat) (M:List (List Rat)) (ws:List Rw) (S:List Nat) (held:zbn):Prop where
 ok:zbf n ws S held
 src:∀ w ∈ ws,∃ r ∈ M,w=fn (zbO r)
 sp:∀ r ∈ M,SpQ ws (fq r)
 len:ws.length<=M.length
theorem zoO {ws:List Rw} {r:List Rat} (h:SpQ ws (fun j=>(fn (zbO r) j:Rat))):SpQ ws (fq r):=by
 obtain ⟨q,q0,e⟩:=zov r
 refine (h.lin (1 / q) 0 (SpQ.zero ws)).of_eq fun j=>?_
 rw [e j]
 grind
def zfx (b n:Nat):Nat:=b * (n + 1) + 1
def za5 (b n N:Nat):Nat:=(zfx b n + 4) * (N + 1) + 1
theorem znv {a N K:Nat} (hN:N<=15) (h:K<=(N + 1) * (2 ^ a * (N * 2 ^ a) ^ N)):K < 2 ^ ((a + 4) * (N + 1) + 1):=by
 have h1:N + 1<=2 ^ 4:=by omega
 have h2:N * 2 ^ a<=2 ^ (a + 4):=by
  rw [Nat.pow_add,Nat.mul_comm]
  exact Nat.mul_le_mul_left _ (by omega)
 have h3:(N * 2 ^ a) ^ N<=2 ^ ((a + 4) * N):=by
  rw [Nat.pow_mul]
  exact Nat.pow_le_pow_left h2 N
 have h4:(N + 1) * (2 ^ a * (N * 2 ^ a) ^ N)<=2 ^ 4 * (2 ^ a * 2 ^ ((a + 4) * N)):=Nat.mul_le_mul h1 (Nat.mul_le_mul_left _ h3)
 rw [<- Nat.pow_add,<- Nat.pow_add] at h4
 have h5:2 ^ (4 + (a + (a + 4) * N)) < 2 ^ ((a + 4) * (N + 1) + 1):=Nat.pow_lt_pow_right (by decide) (by rw [Nat.mul_succ];omega)
 omega
theorem zlJ.bd {n b N:Nat} {M:List (List Rat)} {ws:List Rw} {S:List Nat} {held:zbn} (E:zlJ n M ws S held) (hM:∀ r ∈ M,r.length=n/\∀ x ∈ r,QR.Bd b x) (hN:M.length<=N) (h15:N<=15) {e:Nat × List Int} (he:e ∈ held) (j:Nat):(fn e.2 j).natAbs < 2 ^ za5 b n N:=by
 refine znv h15 (zuc E.ok (fun v hv j=>?_) (Nat.le_trans E.len hN) Nat.one_le_two_pow he j)
 obtain ⟨r,hr,rfl⟩:=E.src v hv
 have:=zg7 (hM r hr).2 j
 rw [(hM r hr).1] at this
 exact Nat.le_of_lt this
theorem zj8 {n b:Nat} {M:List (List Rat)} (hM:∀ r ∈ M,r.length=n/\∀ x ∈ r,QR.Bd b x) (hN:M.length<=15) (hn:n<=1000) (hB:za5 b n M.length<=10000000) (hb:zfx b n<=1000000) :
  ∃ ws S held,zaP [zad M]=.ok (hD held)/\zlJ n M ws S held:=by
 have start:∃ ρ',zbC [.val (zad M),.val (hD []),.no,.no,.no,.no]=.ok (.nx,ρ')/\∃ ws S held x2 x3 x4 x5,Np x2/\Np x3/\Np x4/\Np x5/\ρ'=[.val (zad M),.val (hD held),x2,x3,x4,x5]/\zlJ n M ws S held:=by
  refine zbV (f:=zah) (g:=gN 2) (b:=zbE) (fun done ρ=>∃ ws S held x2 x3 x4 x5,Np x2/\Np x3/\Np x4/\Np x5/\ρ=[.val (zad M),.val (hD held),x2,x3,x4,x5]/\zlJ n done ws S held) M [] _ ⟨[],[],[],.no,.no,.no,.no,za8,za8,za8,za8,rfl,zrL n,(fun _ h=>nomatch h),(fun _ h=>nomatch h),Nat.le_refl _⟩ ?_
  rintro pre r post ρ heq ⟨ws,S,held,x2,x3,x4,x5,n2,n3,n4,n5,rfl,E⟩
  rw [List.nil_append] at heq
  have mr:r ∈ M:=by rw [heq];simp
  have mp:∀ q ∈ pre,q ∈ M:=fun q hq=>by rw [heq];simp [hq]
  have lp:pre.length + 1<=M.length:=by rw [heq];simp
  obtain ⟨lr,br⟩:=hM r mr
  have hMp:∀ r ∈ pre,r.length=n/\∀ x ∈ r,QR.Bd b x:=fun q hq=>hM q (mp q hq)
  have e0:gN 2 (zah r) [.val (zad M),.val (hD held),x2,x3,x4,x5]=.ok [.val (zad M),.val (hD held),.val (zah r),x3,x4,x5]:=zdG (x:=x2) rfl n2
  have wo:=zqN br (by rw [lr];exact hb) (by rw [lr];show n<=1000000;omega)
  have s1:zax (gN 3) (zae ze6 (zaa (eV 2) zai)) [.val (zad M),.val (hD held),.val (zah r),x3,x4,x5]=.ok (.nx,[.val (zad M),.val (hD held),.val (zah r),.val (IR (zbO r)),x4,x5]):=by
   refine zb1 (i:=3) (y:=(IR (zbO r),[.val (zad M),.val (hD held),.val (zah r),x3,x4,x5])) (x:=x3) ?_ rfl n3
   simp only [zae,zaa,zai,eV,List.getElem?_cons_succ,List.getElem?_cons_zero,zac,wo]
  have lw:(zbO r).length=n:=(znK r).trans lr
  have pz:=zow r
  have hwA:∀ j,(fn (zbO r) j).natAbs<=2 ^ zfx b n:=fun j=>by
   have:=zg7 br j
   rw [lr] at this
   exact Nat.le_of_lt this
  have hA:∀ v ∈ ws,∀ j,(v j).natAbs<=2 ^ zfx b n:=fun v hv j=>by
   obtain ⟨q,hq,rfl⟩:=E.src v hv
   have:=zg7 (hMp q hq).2 j
   rw [(hMp q hq).1] at this
   exact Nat.le_of_lt this
  have nd:=zjF E.ok
  have hh:∀ e ∈ held,e.2.length=n/\e.1 < n/\∀ j,(fn e.2 j).natAbs < 2 ^ za5 b n M.length:=fun e he=>⟨(E.ok.row e he).len,(E.ok.row e he).lt,E.bd hMp (by omega) hN he⟩
  have hc:∀ i,(clears (held.take i) (zbO r)).length=n/\∀ j,(fn (clears (held.take i) (zbO r)) j).natAbs < 2 ^ za5 b n M.length:=fun i=>by
   obtain ⟨p1,p2⟩:=zvl (N:=M.length) E.ok lw pz hA hwA (Nat.le_trans E.len (by omega)) Nat.one_le_two_pow i
   exact ⟨p1,fun j=>znv hN (p2 j)⟩
  obtain ⟨y4,g4,s2⟩:=zr0 (x0:=.val (zad M)) (x2:=.val (zah r)) (x5:=x5) nd hh hc hB hn n4
  have full:=hc held.length
  rw [List.take_length] at full
  have hx:=full
  generalize hxx:clears held (zbO r)=x at s2 hx
  have s3:zax (gN 5) (zae zig (zaa (eV 3) zai)) [.val (zad M),.val (hD held),.val (zah r),.val (IR x),y4,x5]=.ok (.nx,[.val (zad M),.val (hD held),.val (zah r),.val (IR x),y4,.val (zxg (zfo x))]):=by
   refine zb1 (i:=5) (y:=(zxg (zfo x),[.val (zad M),.val (hD held),.val (zah r),.val (IR x),y4,x5])) (x:=x5) ?_ rfl n5
   simp only [zae,zaa,zai,eV,List.getElem?_cons_succ,List.getElem?_cons_zero,zac,ztZ]
  rw [e0,zac]
  unfold zbE
  rw [zaj s1,zaj s2,zaj s3]
  cases hl:zfo x with
  | none =>
   refine ⟨_,.nx,rfl,.inl rfl,ws,S,held,_,_,_,_,zaD _,zaD _,g4,zaD _,rfl,E.ok,fun w hw=>?_,fun q hq=>?_,?_⟩
   ·obtain ⟨q,hq,e⟩:=E.src w hw
    exact ⟨q,List.mem_append_left _ hq,e⟩
   ·rcases List.mem_append.mp hq with hq | hq
    ·exact E.sp q hq
    ·rw [List.mem_singleton.mp hq]
     obtain ⟨k,k0,h⟩:=zsb E.ok lw pz (by rw [hxx];exact zi3 hl)
     exact zoO (SpQ.ofk k0 h)
   ·rw [List.length_append];have:=E.len;omega
  | some p =>
   obtain ⟨hp,lo⟩:=zi2 hl
   have AS:=zsa E.ok lw pz hxx.symm hp lo
   have pn:p < n:=Nat.lt_of_not_le fun c=>hp (zk7 (hx.1 ▸ c))
   have lh:held.length<=15:=by
    have l1:=zgV E.ok
    have l2:=zj3 E.ok.det
    have:=E.len
    omega
   have dc:=zom (x0:=.val (zad M)) (x2:=.val (zah r)) (x4:=y4) nd (fun e he=>⟨(hh e he).1,(hh e he).2.2⟩) hx.1 hx.2 pn hB hn (by show _<=1000000;omega)
   have s4:zcy 1 za4 [.val (zad M),.val (hD held),.val (zah r),.val (IR x),y4,.val (.int (p:Int))]=.ok (.nx,[.val (zad M),.ow false (hD (held.map fun e=>(e.1,cleared e.2 x p))),.val (zah r),.val (IR x),y4,.val (.int (p:Int))]):=zcK (x:=.val (hD held)) dc rfl (zaD _)
   have np:p ∉ (held.map fun e=>(e.1,cleared e.2 x p)).map (·.1):=by
    have k:=AS.keys
    have nd':=zjF AS
    rw [List.map_append,List.nodup_append] at nd'
    intro z
    exact nd'.2.2 p z p (by simp) rfl
   have pt:=zk9 np (by rw [List.length_map];show _<=1000000;omega) x
   refine ⟨_,.nx,?_,.inl rfl,fn (zbO r) :: ws,p :: S,_,.val (zah r),.val (IR x),y4,.val (.int (p:Int)),zaD _,zaD _,g4,zaD _,rfl,AS,fun w hw=>?_,fun q hq=>?_,?_⟩
   ·show sIf (tB (FL.e2 zvK (eV 5) (eC .none))) _ sNx [.val (zad M),.val (hD held),.val (zah r),.val (IR x),y4,.val (.int (p:Int))]=_
    unfold sIf
    rw [show tB (FL.e2 zvK (eV 5) (eC .none)) [.val (zad M),.val (hD held),.val (zah r),.val (IR x),y4,.val (.int (p:Int))]=.ok (true,[.val (zad M),.val (hD held),.val (zah r),.val (IR x),y4,.val (.int (p:Int))]) from rfl,zac,if_pos rfl,zaj s4]
    simp only [zc8,zrW,eV,List.getElem?_cons_succ,List.getElem?_cons_zero,zaU,zcn,zac,List.set_cons_succ,List.set_cons_zero,pt]
   ·rcases List.mem_cons.mp hw with rfl | hw
    ·exact ⟨r,by simp,rfl⟩
    ·obtain ⟨q,hq,e⟩:=E.src w hw
     exact ⟨q,List.mem_append_left _ hq,e⟩
   ·rcases List.mem_append.mp hq with hq | hq
    ·exact (E.sp q hq).old
    ·rw [List.mem_singleton.mp hq]
     exact zoO (SpQ.new ws _)
   ·rw [List.length_append,List.length_cons];have:=E.len;simp;omega
 obtain ⟨ρ',e,ws,S,held,x2,x3,x4,x5,_,_,_,_,rfl,E⟩:=start
 refine ⟨ws,S,held,?_,E⟩
 refine zbz (ρ:=[.val (zad M),.val (hD held),x2,x3,x4,x5]) rfl ?_
 show zb5 [.val (zad M),.no,.no,.no,.no,.no]=_
 unfold zb5
 rw [zaj (show zcy 1 znp [.val (zad M),.no,.no,.no,.no,.no]=.ok (.nx,[.val (zad M),.ow false (hD []),.no,.no,.no,.no]) from rfl)]
 rw [zaj (show zqJ 1 zbC [.val (zad M),.ow false (hD []),.no,.no,.no,.no]=.ok (.nx,_) from e)]
 rfl
end FL
namespace FL
open PySem MD
def zbu (e:Nat × List Int):List Rat:=e.2.map fun x=>Rat.divInt x (fn e.2 e.1)
theorem zj2 (p q:Int):Rat.divInt p q=(p:Rat) / (q:Rat):=Rat.divInt_eq_div p q
theorem zp4 (e:Nat × List Int) (j:Nat):fq (zbu e) j=kr e j:=by
 unfold fq zbu kr fn
 simp only [List.getD_eq_getElem?_getD,List.getElem?_map]
 cases e.2[j]? with
 | none=>simp only [Option.map_none,Option.getD_none];show (0:Rat)=((0:Int):Rat) / _;grind
 | some x=>simp only [Option.map_some,Option.getD_some];exact zj2 _ _
theorem zhZ {p q:Int} {n:Nat} (hp:p.natAbs < 2 ^ n) (hq:q.natAbs < 2 ^ n) (q0:q ≠ 0):QR.Bd n (Rat.divInt p q):=by
 have h:=QR.zoi p q
 have e:num (Rat.divInt p q)=.tuple [.int (Q1.fr p q).1,.int (Q1.fr p q).2]:=by
  rw [num_divInt p q q0]
  unfold Q1.fr
  by_cases c:q < 0
  ·rw [if_pos c,if_pos c]
  ·rw [if_neg c,if_neg c]
 unfold num at e
 have e1:=congrArg (fun d=>match d with | PyData.tuple [.int a,.int b]=>(a,b) | _=>(0,0)) e
 simp only [Prod.mk.injEq] at e1
 refine ⟨?_,?_⟩
 ·rw [e1.1];omega
 ·have:=h.2
  rw [<- e1.2,Int.natAbs_natCast] at this
  omega
theorem zkC {α β:Type} (f:α->β) {l m:List β} (p:l.Perm m):∀ xs:List α,xs.map f=m->∃ ys:List α,ys.Perm xs/\ys.map f=l:=by
 induction p with
 | nil=>intro xs h;exact ⟨xs,.refl _,h⟩
 | cons a p ih =>
  intro xs h
  match xs,h with
  | x :: xs,h =>
   rw [List.map_cons,List.cons.injEq] at h
   obtain ⟨ys,h1,h2⟩:=ih xs h.2
   exact ⟨x :: ys,h1.cons x,by rw [List.map_cons,h.1,h2]⟩
 | swap a b l =>
  intro xs h
  match xs,h with
  | x :: y :: xs,h =>
   simp only [List.map_cons,List.cons.injEq] at h
   exact ⟨y :: x :: xs,.swap x y xs,by simp only [List.map_cons,h.1,h.2.1,h.2.2]⟩
 | trans p q ih1 ih2 =>
  intro xs h
  obtain ⟨ys,h1,h2⟩:=ih2 xs h
  obtain ⟨zs,h3,h4⟩:=ih1 ys h2
  exact ⟨zs,h3.trans h1,h4⟩
theorem zoP (held:zbn) (hl:held.length < 64):∃ K:zbn,K.Perm held/\(K.map fun e=>(e.1:Int)).Pairwise (·<=·)/\ziT (hD held)=.ok (.list (K.map fun e=>.int (e.1:Int))):=by
 obtain ⟨K,h1,h2⟩:=zkC (fun e:Nat × List Int=>(e.1:Int)) (zeZ (held.map fun e=>(e.1:Int))) held rfl
 refine ⟨K,h1,by rw [h2];exact zdf _,?_⟩
 have e:(held.map hent).map (·.1)=(held.map fun e=>(e.1:Int)).map PyData.int:=by rw [List.map_map,List.map_map];rfl
 show (R.of (intsOf ((held.map hent).map (·.1)))).bind _=_
 rw [e,zof]
 show chk (leB ((held.map fun e=>(e.1:Int)).length + 1) 64) _=_
 rw [zay (by rw [List.length_map];exact zdS hl),<- h2,List.map_map]
 rfl
theorem zn8 {n:Nat} {held:zbn} (nd:(held.map (·.1)).Nodup) (hr:∀ e ∈ held,e.2.length=n/\e.1 < n/\fn e.2 e.1 ≠ 0) (hn:n<=1000) {e:Nat × List Int} (he:e ∈ held) :
  zcO [.val (.int (e.1:Int)),.val (hD held)]=.ok (zah (zbu e),[.val (.int (e.1:Int)),.val (hD held)]):=by
 obtain ⟨h1,h2,h3⟩:=hr e he
 have dx:=zfv nd he
 unfold zcO
 rw [zbc (f0:=PyData.int) (xs:=e.2) (fun x=>num (Rat.divInt x (fn e.2 e.1))) (by
  simp only [iE,FL.e2,eV,List.getElem?_cons_succ,List.getElem?_cons_zero,zac,dx,znc]
  rfl) (by rw [h1];show n<=1000000;omega) fun x mx=>?_]
 ·unfold zah zbu;rw [List.map_map];rfl
 ·refine ⟨[.val (.int x),.val (.int (e.1:Int)),.val (hD held)],rfl,?_,zba trivial⟩
  have ix:=zod (xs:=e.2) (i:=e.1) (by omega)
  have fr:=ze4 x _ h3
  simp only [zae,zaa,eV,List.getElem?_cons_zero,FL.e2,zai,zac,List.getElem?_cons_succ,dx,ix,fr]
structure HR (n:Nat) (held:zbn):Prop where
 nd:(held.map (·.1)).Nodup
 row:∀ e ∈ held,e.2.length=n/\e.1 < n/\fn e.2 e.1 ≠ 0
 len:held.length<=15
theorem zlJ.hr {n:Nat} {M:List (List Rat)} {ws:List Rw} {S:List Nat} {held:zbn} (E:zlJ n M ws S held) (hN:M.length<=15):HR n held:=by
 refine ⟨zjF E.ok,fun e he=>⟨(E.ok.row e he).len,(E.ok.row e he).lt,(E.ok.row e he).ne⟩,?_⟩
 have l1:=zgV E.ok
 have l2:=zj3 E.ok.det
 have:=E.len
 omega
theorem zt2 {n b:Nat} {M:List (List Rat)} (hM:∀ r ∈ M,r.length=n/\∀ x ∈ r,QR.Bd b x) (hN:M.length<=15) (hn:n<=1000) (hB:za5 b n M.length<=10000000) (hb:zfx b n<=1000000) :
  ∃ (ws:List Rw) (S:List Nat) (held K:zbn),zih [zad M]=.ok (zad (K.map zbu))/\zlJ n M ws S held/\K.Perm held/\(K.map fun e=>(e.1:Int)).Pairwise (·<=·):=by
 obtain ⟨ws,S,held,e,E⟩:=zj8 hM hN hn hB hb
 have h:=E.hr hN
 obtain ⟨K,p,srt,es⟩:=zoP held (by have:=h.len;omega)
 refine ⟨ws,S,held,K,?_,E,p,srt⟩
 have s1:zax (gN 1) (zae zaP (zaa (eV 0) zai)) [.val (zad M),.no]=.ok (.nx,[.val (zad M),.val (hD held)]):=by
  simp only [zax,zae,zaa,eV,List.getElem?_cons_zero,zai,zac,e,gN,List.getElem?_cons_succ,List.set_cons_succ,List.set_cons_zero]
 have q:zcN [.val (zad M),.val (hD held)]=.ok (zad (K.map zbu),[.val (zad M),.val (hD held)]):=by
  unfold zcN
  rw [zbc (f0:=fun e:Nat × List Int=>.int (e.1:Int)) (xs:=K) (fun e=>zah (zbu e)) (by
   simp only [iE,FL.e1,eV,List.getElem?_cons_succ,List.getElem?_cons_zero,zac,es,znc]) (by rw [p.length_eq];have:=h.len;show _<=1000000;omega) fun x mx=>?_]
  ·unfold zad;rw [List.map_map];rfl
  ·exact ⟨[.val (.int (x.1:Int)),.val (hD held)],rfl,zn8 h.nd h.row hn (p.subset mx),zba trivial⟩
 refine zdL (ρ:=[.val (zad M),.val (hD held)]) rfl ?_
 show zd4 [.val (zad M),.no]=_
 unfold zd4
 rw [zaj s1]
 unfold zcA
 rw [q]
 rfl
def zd7 (f:Nat × List Int->Rat) (base:Nat->Rat) (held:zbn) (n:Nat):List Rat:=(List.range n).map fun j=>match held.find? (fun e=>decide (e.1=j)) with
 | some e=>f e
 | none=>base j
theorem zgX (f:Nat × List Int->Rat) (base:Nat->Rat) (held:zbn) (n:Nat):(zd7 f base held n).length=n:=by unfold zd7;simp
theorem zj0 (f:Nat × List Int->Rat) (base:Nat->Rat) (held:zbn) {n j:Nat} (h:j < n):fq (zd7 f base held n) j=match held.find? (fun e=>decide (e.1=j)) with
 | some e=>f e
 | none=>base j:=by
 unfold fq zd7
 rw [List.getD_eq_getElem?_getD,List.getElem?_map,List.getElem?_range h]
 rfl
theorem znm {f:Nat × List Int->Rat} {base:Nat->Rat} {held:zbn} {n j:Nat} (hj:j ∉ held.map (·.1)) (h:j < n):fq (zd7 f base held n) j=base j:=by
 rw [zj0 f base held h,find_none hj]
theorem znl {f:Nat × List Int->Rat} {base:Nat->Rat} {done:zbn} {n:Nat} {e:Nat × List Int} (hn:e.1 ∉ done.map (·.1)):(zd7 f base done n).set e.1 (f e)=zd7 f base (done ++ [e]) n:=by
 apply List.ext_getElem?
 intro j
 unfold zd7
 rw [List.getElem?_set,List.getElem?_map,List.getElem?_map,List.length_map,List.length_range]
 by_cases c:e.1=j
 ·subst c
  rw [if_pos rfl]
  by_cases l:e.1 < n
  ·rw [if_pos l,List.getElem?_range l]
   simp only [Option.map_some,List.find?_append,find_none hn,Option.none_or]
   rw [show [e].find? (fun y=>decide (y.1=e.1))=some e by simp]
  ·rw [if_neg l,List.getElem?_eq_none (by simpa using l)];rfl
 ·rw [if_neg c]
  have:[e].find? (fun y=>decide (y.1=j))=none:=by simp [c]
  by_cases l:j < n
  ·rw [List.getElem?_range l]
   simp only [Option.map_some,List.find?_append,this,Option.or_none]
  ·rw [List.getElem?_eq_none (by simpa using l)];rfl
theorem znn {f:Nat × List Int->Rat} {base:Nat->Rat} {held:zbn} {n:Nat} {x:Rat} (h:x ∈ zd7 f base held n):(∃ e ∈ held,x=f e)\/∃ j,x=base j:=by
 unfold zd7 at h
 obtain ⟨j,_,rfl⟩:=List.mem_map.mp h
 cases e:held.find? (fun e=>decide (e.1=j)) with
 | none=>exact .inr ⟨j,rfl⟩
 | some y=>exact .inl ⟨y,List.mem_of_find?_eq_some e,rfl⟩
theorem zjw {xs:List Rat} {i:Nat} {v:Rat}:(xs.map num).set i (num v)=(xs.set i v).map num:=by rw [List.map_set]
theorem zjV {n i:Nat} (h:i < n):ixN n (i:Int)=some i:=by
 unfold ixN
 rw [if_pos (by omega),if_pos (by omega)]
 simp
def nf (free:Nat) (e:Nat × List Int):Rat:=Rat.divInt (-(fn e.2 free)) (fn e.2 e.1)
def nb (free:Nat) (j:Nat):Rat:=if j=free then 1 else 0
def zgh (held:zbn) (n free:Nat):List Rat:=zd7 (nf free) (nb free) held n
theorem zlX (n:Nat) (r:Rat):List.replicate n (num r)=(List.replicate n r).map num:=by simp
theorem zjD {n free:Nat} {held:zbn} (h:HR n held) (hf:free < n) (hfr:free ∉ held.map (·.1)) (hn:n<=1000):zgE [hD held,.int (free:Int),.int (n:Int)]=.ok (zah (zgh held n free)):=by
 have s1:zcy 3 (zsW (eC (.tuple [(.int 0),(.int 1)])) (eV 2)) [.val (hD held),.val (.int (free:Int)),.val (.int (n:Int)),.no,.no]=.ok (.nx,[.val (hD held),.val (.int (free:Int)),.val (.int (n:Int)),.ow false (zah (List.replicate n 0)),.no]):=by
  refine zcK (i:=3) (x:=.no) (y:=(zah (List.replicate n 0),[.val (hD held),.val (.int (free:Int)),.val (.int (n:Int)),.no,.no])) ?_ rfl za8
  show chk (decide ((0:Int)<=(n:Int)) && leB ((n:Int).toNat) 1000000) _=_
  rw [zay (by rw [Bool.and_eq_true];exact ⟨by simp,zdS (by simp;omega)⟩)]
  show R.ok (PyData.list (List.replicate (n:Int).toNat (num 0)),_)=_
  rw [Int.toNat_natCast,zlX]
  rfl
 have s2:setM 3 (eC (.tuple [(.int 1),(.int 1)])) (eV 1) [.val (hD held),.val (.int (free:Int)),.val (.int (n:Int)),.ow false (zah (List.replicate n 0)),.no]=.ok (.nx,[.val (hD held),.val (.int (free:Int)),.val (.int (n:Int)),.ow false (zah (zgh [] n free)),.no]):=by
  show (R.of (ixN ((List.replicate n (0:Rat)).map num).length (free:Int))).bind _=_
  rw [zjV (by simpa using hf)]
  show R.ok (Fl.nx,[Sl.val (hD held),.val (.int (free:Int)),.val (.int (n:Int)),.ow false (.list (((List.replicate n (0:Rat)).map num).set free (num 1))),.no])=_
  rw [zjw]
  have:(List.replicate n (0:Rat)).set free 1=zgh [] n free:=by
   apply List.ext_getElem?
   intro j
   unfold zgh zd7 nb
   rw [List.getElem?_set,List.getElem?_map,List.length_replicate,List.getElem?_replicate]
   by_cases c:free=j
   ·subst c
    rw [if_pos rfl,if_pos hf,List.getElem?_range hf]
    simp
   ·rw [if_neg c]
    by_cases l:j < n
    ·rw [if_pos l,List.getElem?_range l]
     simp [Ne.symm c]
    ·rw [if_neg l,List.getElem?_eq_none (by simpa using l)];rfl
  rw [this]
  rfl
 obtain ⟨ρ',e,y4,g4,rfl⟩:=zbV (f:=fun e:Nat × List Int=>.int (e.1:Int)) (g:=gN 4) (b:=zdW) (fun done ρ=>∃ y4,Np y4/\ρ=[.val (hD held),.val (.int (free:Int)),.val (.int (n:Int)),.ow false (zah (zgh done n free)),y4]) held [] _ ⟨.no,za8,rfl⟩ (by
  rintro pre e post ρ heq ⟨y4,g4,rfl⟩
  rw [List.nil_append] at heq
  have me:e ∈ held:=by rw [heq];simp
  obtain ⟨h1,h2,h3⟩:=h.row e me
  have dx:=zfv h.nd me
  have i1:=zod (xs:=e.2) (i:=free) (by omega)
  have i2:=zod (xs:=e.2) (i:=e.1) (by omega)
  have fr:=ze4 (-(fn e.2 free)) _ h3
  have np:e.1 ∉ pre.map (·.1):=by
   have nd:=h.nd
   rw [heq,List.map_append,List.map_cons,List.nodup_append] at nd
   intro z
   exact nd.2.2 e.1 z e.1 (List.mem_cons_self ..) rfl
  refine ⟨_,.nx,?_,.inl rfl,.val (.int (e.1:Int)),zaD _,rfl⟩
  rw [zdG (x:=y4) rfl g4,zac]
  have fe:zae zcj (zaa (FL.e1 zgJ (FL.e2 ixD (FL.e2 zgn (eV 0) (eV 4)) (eV 1))) (zaa (FL.e2 ixD (FL.e2 zgn (eV 0) (eV 4)) (eV 4)) zai)) [.val (hD held),.val (.int (free:Int)),.val (.int (n:Int)),.ow false (zah (zgh pre n free)),.val (.int (e.1:Int))]=.ok (num (nf free e),[.val (hD held),.val (.int (free:Int)),.val (.int (n:Int)),.ow false (zah (zgh pre n free)),.val (.int (e.1:Int))]):=by
   simp only [zae,zaa,FL.e1,FL.e2,eV,List.getElem?_cons_zero,zac,List.getElem?_cons_succ,dx,i1,zjE,zai,i2,fr]
   rfl
  show setM 3 _ (eV 4) [.val (hD held),.val (.int (free:Int)),.val (.int (n:Int)),.ow false (zah (zgh pre n free)),.val (.int (e.1:Int))]=_
  unfold setM
  rw [fe]
  show (R.of (ixN ((zgh pre n free).map num).length (e.1:Int))).bind _=_
  rw [zjV (by rw [List.length_map,zgh,zgX];exact h2)]
  show R.ok (Fl.nx,[Sl.val (hD held),.val (.int (free:Int)),.val (.int (n:Int)),.ow false (.list (((zgh pre n free).map num).set e.1 (num (nf free e)))),.val (.int (e.1:Int))])=_
  rw [zjw,zgh,znl np]
  rfl)
 refine zdL (ρ:=[.val (hD held),.val (.int (free:Int)),.val (.int (n:Int)),.ow false (zah (zgh held n free)),y4]) rfl ?_
 show zdh [.val (hD held),.val (.int (free:Int)),.val (.int (n:Int)),.no,.no]=_
 unfold zdh
 rw [zaj s1,zaj s2]
 have it:iD (eV 0) [.val (hD held),.val (.int (free:Int)),.val (.int (n:Int)),.ow false (zah (zgh [] n free)),.no]=.ok (held.map (fun e=>.int (e.1:Int)),[.val (hD held),.val (.int (free:Int)),.val (.int (n:Int)),.ow false (zah (zgh [] n free)),.no]):=by
  simp only [iD,eV,List.getElem?_cons_succ,List.getElem?_cons_zero,zac,zfq]
 have s3:zct [.val (hD held),.val (.int (free:Int)),.val (.int (n:Int)),.ow false (zah (zgh [] n free)),.no]=.ok (.nx,[.val (hD held),.val (.int (free:Int)),.val (.int (n:Int)),.ow false (zah (zgh held n free)),y4]):=by
  unfold zct zc7
  rw [it,zac]
  simpa using e
 rw [zaj s3]
 rfl
def frees (held:zbn) (n:Nat):List Nat:=(List.range n).filter fun j=>decide (j ∉ held.map (·.1))
def ziy (held:zbn) (n:Nat):List (List Rat):=(frees held n).map (zgh held n)
theorem zkN {held:zbn} {n j:Nat}:j ∈ frees held n ↔ j < n/\j ∉ held.map (·.1):=by
 unfold frees
 rw [List.mem_filter,List.mem_range,decide_eq_true_eq]
theorem zk5 (held:zbn) (n:Nat):(frees held n).length<=n:=by
 have:=List.length_filter_le (fun j=>decide (j ∉ held.map (·.1))) (List.range n)
 rw [List.length_range] at this
 exact this
theorem zrw {n b:Nat} {held:zbn} (h:HR n held) (hB:∀ e ∈ held,∀ j,(fn e.2 j).natAbs < 2 ^ b) (hb:1<=b):∀ r ∈ ziy held n,r.length=n/\∀ x ∈ r,QR.Bd b x:=by
 intro r hr
 obtain ⟨free,hf,rfl⟩:=List.mem_map.mp hr
 refine ⟨zgX ..,fun x hx=>?_⟩
 rcases znn hx with ⟨e,he,rfl⟩ | ⟨j,rfl⟩
 ·exact zhZ (by rw [Int.natAbs_neg];exact hB e he free) (hB e he e.1) (h.row e he).2.2
 ·unfold nb
  have o:(1:Nat) < 2 ^ b:=Nat.one_lt_two_pow (by omega)
  split
  ·exact ⟨o,o⟩
  ·exact ⟨Nat.lt_of_lt_of_le (by decide) (Nat.le_of_lt o),o⟩
theorem znY {n b N:Nat} {M:List (List Rat)} (hM:∀ r ∈ M,r.length=n/\∀ x ∈ r,QR.Bd b x) (hN:M.length<=N) (hN15:N<=15) (hn:n<=15) (hb:zfx b n<=1000000) (hB:za5 b n N<=10000000) (hb2:zfx (za5 b n N) n<=1000000) (hB2:za5 (za5 b n N) n n<=10000000) :
  ∃ (ws:List Rw) (S:List Nat) (held:zbn) (ws2:List Rw) (S2:List Nat) (held2 K:zbn),zdu [zad M,.int (n:Int)]=.ok (zad (K.map zbu))/\zlJ n M ws S held/\zlJ n (ziy held n) ws2 S2 held2/\K.Perm held2/\(K.map fun e=>(e.1:Int)).Pairwise (·<=·)/\(∀ r ∈ ziy held n,r.length=n/\∀ x ∈ r,QR.Bd (za5 b n N) x):=by
 have mono:za5 b n M.length<=za5 b n N:=by unfold za5;exact Nat.add_le_add_right (Nat.mul_le_mul_left _ (by omega)) 1
 obtain ⟨ws,S,held,e,E⟩:=zj8 hM (by omega) (by omega) (by omega) hb
 have h:=E.hr (by omega)
 have nB:=zrw h (fun e he j=>E.bd hM hN hN15 he j) (by unfold za5;omega)
 have nl:(ziy held n).length<=n:=by unfold ziy;rw [List.length_map];exact zk5 held n
 have mono2:za5 (za5 b n N) n (ziy held n).length<=za5 (za5 b n N) n n:=by rw [za5,za5];exact Nat.add_le_add_right (Nat.mul_le_mul_left _ (by omega)) 1
 obtain ⟨ws2,S2,held2,K,e2,E2,p,srt⟩:=zt2 nB (by omega) (by omega) (by omega) hb2
 refine ⟨ws,S,held,ws2,S2,held2,K,?_,E,E2,p,srt,nB⟩
 have s1:zax (gN 2) (zae zaP (zaa (eV 0) zai)) [.val (zad M),.val (.int (n:Int)),.no]=.ok (.nx,[.val (zad M),.val (.int (n:Int)),.val (hD held)]):=by
  simp only [zax,zae,zaa,eV,List.getElem?_cons_zero,zai,zac,e,gN,List.getElem?_cons_succ,List.set_cons_succ,List.set_cons_zero]
 have q:zb4 [.val (zad M),.val (.int (n:Int)),.val (hD held)]=.ok (zad (ziy held n),[.val (zad M),.val (.int (n:Int)),.val (hD held)]):=by
  unfold zb4
  have it:iR1 (zaa (eV 1) zai) [.val (zad M),.val (.int (n:Int)),.val (hD held)]=.ok ((List.range n).map (fun i:Nat=>PyData.int (i:Int)),[.val (zad M),.val (.int (n:Int)),.val (hD held)]):=by
   simp only [iR1,zaa,zai,eV,List.getElem?_cons_succ,List.getElem?_cons_zero,zac]
   rw [zcY (by omega) (by omega),zac,zhk,List.map_map]
   simp
  rw [zfu (f0:=fun i:Nat=>.int (i:Int)) (xs:=List.range n) (fun j=>decide (j ∉ held.map (·.1))) (fun j=>zah (zgh held n j)) it (by rw [List.length_range];show n<=1000000;omega) fun j mj=>?_]
  ·unfold zad ziy frees;rw [List.map_map];rfl
  ·refine ⟨[.val (.int (j:Int)),.val (.int (n:Int)),.val (hD held)],rfl,?_,fun c=>?_,zba trivial⟩
   ·simp only [tB,FL.e2,eV,List.getElem?_cons_succ,List.getElem?_cons_zero,zac,zry]
   ·have nr:=zjD h (List.mem_range.mp mj) (of_decide_eq_true c) (by omega)
    simp only [zae,zaa,eV,List.getElem?_cons_succ,List.getElem?_cons_zero,zai,zac,nr]
 refine zdL (ρ:=[.val (zad M),.val (.int (n:Int)),.val (hD held)]) rfl ?_
 show zcQ [.val (zad M),.val (.int (n:Int)),.no]=_
 unfold zcQ
 rw [zaj s1]
 unfold zcA zae zaa zai
 rw [q]
 simp only [zac,e2]
end FL
namespace FL
open PySem MD
theorem zmj {f:Nat × List Int->Rat} {base:Nat->Rat} {n:Nat} (v:Rq):∀ held:zbn,(held.map (·.1)).Nodup->(∀ e ∈ held,e.1 < n)->ip n (fq (zd7 f base held n)) v=zby ((List.range n).map fun j=>base j * v j) + zby (held.map fun e=>(f e - base e.1) * v e.1)
 | [],_,_=>by
  unfold ip
  rw [List.map_nil,zen,zaE (g:=fun j=>base j * v j) fun j hj=>by rw [znm (by simp) (List.mem_range.mp hj)]]
  grind
 | e :: r,nd,hl=>by
  rw [List.map_cons,List.nodup_cons] at nd
  have ih:=zmj (f:=f) (base:=base) v r nd.2 fun y hy=>hl y (.tail _ hy)
  have h1:=zjt v (fq (zd7 f base r n)) e.1 (f e) n (hl e (.head _))
  rw [znm nd.1 (hl e (.head _))] at h1
  unfold ip at ih ⊢
  rw [ih] at h1
  rw [List.map_cons,zaR,zaE (g:=fun j=>(if e.1=j then f e else fq (zd7 f base r n) j) * v j) fun j hj=>?_,h1]
  ·grind
  ·have hj:=List.mem_range.mp hj
   rw [zj0 f base (e :: r) hj,zj0 f base r hj]
   by_cases c:e.1=j
   ·rw [if_pos c,List.find?_cons_of_pos (by simpa using c)]
   ·rw [if_neg c,List.find?_cons_of_neg (by simpa using c)]
theorem zpP {n free:Nat} {held:zbn} (h:HR n held) (hf:free < n) (hfr:free ∉ held.map (·.1)) (v:Rq):ip n (fq (zgh held n free)) v=v free - zby (held.map fun e=>kr e free * v e.1):=by
 unfold zgh
 rw [zmj v held h.nd fun e he=>(h.row e he).2.1]
 have e1:zby ((List.range n).map fun j=>nb free j * v j)=v free:=by
  have:=zjt v (fun _=>0) free 1 n hf
  rw [zbl (f:=fun j=>(0:Rat) * v j) fun j _=>by grind] at this
  have hc:∀ j ∈ List.range n,nb free j * v j=(if free=j then 1 else 0) * v j:=fun j _=>by
   unfold nb
   by_cases c:j=free
   ·subst c;rfl
   ·rw [if_neg c,if_neg fun z=>c z.symm]
  rw [zaE hc,this]
  grind
 have e2:zby (held.map fun e=>(nf free e - nb free e.1) * v e.1)=-zby (held.map fun e=>kr e free * v e.1):=by
  have:=zqW (-1) (fun e:Nat × List Int=>kr e free * v e.1) held
  rw [show -zby (held.map fun e=>kr e free * v e.1)=-1 * zby (held.map fun e=>kr e free * v e.1) by grind,<- this]
  refine zaE fun e he=>?_
  have ne:e.1 ≠ free:=fun z=>hfr (z ▸ List.mem_map_of_mem (f:=(·.1)) he)
  unfold nf nb kr
  rw [if_neg ne,zj2]
  push_cast
  grind
 rw [e1,e2]
 grind
theorem zlJ.ind {n:Nat} {M:List (List Rat)} {ws:List Rw} {S:List Nat} {held:zbn} (E:zlJ n M ws S held) {P:Rq->Prop} (h0:P fun _=>0) (hl:∀ a b u v,P u->P v->P fun j=>a * u j + b * v j) (hM:∀ r ∈ M,P (fq r)) {v:Rq} (hv:SpQ ws v):P v:=by
 refine SpQ.ind h0 hl (fun w hw=>?_) hv
 obtain ⟨r,hr,rfl⟩:=E.src w hw
 obtain ⟨q,_,e⟩:=zov r
 have:(fun j=>(fn (zbO r) j:Rat))=fun j=>q * fq r j + 0 * (fun _=>(0:Rat)) j:=funext fun j=>by rw [e j];grind
 rw [this]
 exact hl q 0 _ _ (hM r hr) h0
theorem zlJ.zyp {n:Nat} {M:List (List Rat)} {ws:List Rw} {S:List Nat} {held:zbn} (E:zlJ n M ws S held) {t:Rq} (hM:∀ r ∈ M,ip n t (fq r)=0) {v:Rq} (hv:SpQ ws v):ip n t v=0 :=
 E.ind (P:=fun v=>ip n t v=0) (zpO n t) (fun a b u v hu hv=>by rw [zpQ,hu,hv];grind) hM hv
theorem zpo {n free:Nat} {M:List (List Rat)} {ws:List Rw} {S:List Nat} {held:zbn} (E:zlJ n M ws S held) (h:HR n held) (hf:free < n) (hfr:free ∉ held.map (·.1)) {v:Rq} (hv:SpQ ws v):ip n (fq (zgh held n free)) v=0:=by
 rw [zpP h hf hfr,E.ok.room hv free,zaE (g:=fun e=>v e.1 * kr e free) fun e _=>by grind]
 grind
theorem zku {n:Nat} {M:List (List Rat)} {ws:List Rw} {S:List Nat} {held:zbn} (E:zlJ n M ws S held) (h:HR n held) {y:Rq} (hy:∀ free,free ∈ frees held n->ip n (fq (zgh held n free)) y=0):∀ j,j < n->y j=zby (held.map fun e=>y e.1 * kr e j):=by
 intro j hj
 by_cases c:j ∈ held.map (·.1)
 ·have ms:j ∈ S:=by
   rw [E.ok.keys] at c
   exact List.mem_reverse.mp c
  exact (zlV (f:=fun e=>y e.1 * kr e j) (v:=y j) held h.nd c (fun e he c=>by subst c;rw [E.ok.zxr he];grind) (fun e he c=>by rw [E.ok.zsI he ms fun q=>c q.symm];grind)).symm
 ·have:=hy j (zkN.mpr ⟨hj,c⟩)
  rw [zpP h hj c,zaE (g:=fun e=>y e.1 * kr e j) fun e _=>by grind] at this
  grind
theorem zns:∀ (xs ys:List Rat) (n:Nat),xs.length=n->ys.length=n->QR.dot xs ys=ip n (fq xs) (fq ys)
 | [],[],n,h,_=>by
  have:n=0:=h.symm
  subst this;rfl
 | [],_ :: _,n,h,k=>by simp at h k;omega
 | _ :: _,[],n,h,k=>by simp at h k;omega
 | x :: xs,y :: ys,n,h,k=>by
  cases n with
  | zero=>simp at h
  | succ n =>
   have ih:=zns xs ys n (by simpa using h) (by simpa using k)
   unfold ip at ih ⊢
   rw [List.range_succ_eq_map,List.map_cons,List.map_map,zaR]
   show x * y + QR.dot xs ys=_
   rw [ih]
   rfl
theorem zwE:∀ (xs ys:List Rat),ziu (xs.map num) (ys.map num)=(xs.zip ys).map fun q=>.tuple [num q.1,num q.2]
 | [],ys=>by cases ys <;> rfl
 | x :: xs,[]=>rfl
 | x :: xs,y :: ys=>by simp only [List.map_cons,ziu,List.zip_cons_cons,zwE xs ys]
theorem zrq (pre:List (Rat × Rat)) (q:Rat × Rat):QR.dot ((pre ++ [q]).map (·.1)) ((pre ++ [q]).map (·.2))=QR.dot (pre.map (·.1)) (pre.map (·.2)) + q.1 * q.2:=by
 induction pre with
 | nil=>show q.1 * q.2 + 0=0 + q.1 * q.2;grind
 | cons p pre ih =>
  simp only [List.cons_append,List.map_cons]
  show p.1 * p.2 + QR.dot ((pre ++ [q]).map (·.1)) ((pre ++ [q]).map (·.2))=p.1 * p.2 + QR.dot (pre.map (·.1)) (pre.map (·.2)) + q.1 * q.2
  rw [ih];grind
theorem zkF {G:List D->R D} {Gt Gp:List D->R D} {b c:Nat} {xs ys:List Rat} {x0 x1:Sl} (ht:∀ {r s:Rat} {n:Nat},QR.Bd n r->QR.Bd n s->n<=40000000->Gt [num r,num s]=.ok (num (r * s))) (hp:∀ {r s:Rat} {n:Nat},QR.Bd n r->QR.Bd n s->n<=40000000->Gp [num r,num s]=.ok (num (r + s)))
  (hx:∀ r ∈ xs,QR.Bd b r) (hy:∀ r ∈ ys,QR.Bd c r) (hb:(xs.length + 1) * (b + c + 1) + 1<=40000000) :
  ∃ y3 y4,forL (gT [(gN 3),(gN 4)]) (zax (gN 2) (zae Gp (zaa (eV 2) (zaa (zae Gt (zaa (eV 3) (zaa (eV 4) zai))) zai)))) ((xs.zip ys).map fun q=>.tuple [num q.1,num q.2]) [x0,x1,.val (num 0),.no,.no]=.ok (.nx,[x0,x1,.val (num (QR.dot ((xs.zip ys).map (·.1)) ((xs.zip ys).map (·.2)))),y3,y4]):=by
 obtain ⟨ρ',e,y3,y4,g3,g4,rfl⟩:=zbV (f:=fun q:Rat × Rat=>.tuple [num q.1,num q.2]) (g:=gT [(gN 3),(gN 4)]) (b:=zax (gN 2) (zae Gp (zaa (eV 2) (zaa (zae Gt (zaa (eV 3) (zaa (eV 4) zai))) zai)))) (fun done ρ=>∃ y3 y4,Np y3/\Np y4/\ρ=[x0,x1,.val (num (QR.dot (done.map (·.1)) (done.map (·.2)))),y3,y4]) (xs.zip ys) [] [x0,x1,.val (num 0),.no,.no] ⟨.no,.no,za8,za8,rfl⟩ (by
  rintro pre q post ρ heq ⟨y3,y4,g3,g4,rfl⟩
  rw [List.nil_append] at heq
  have mq:q ∈ xs.zip ys:=by rw [heq];simp
  have mp:∀ p ∈ pre,p ∈ xs.zip ys:=fun p hp=>by rw [heq];simp [hp]
  obtain ⟨m1,m2⟩:=List.of_mem_zip (a:=q.1) (b:=q.2) mq
  have lp:pre.length + 1<=xs.length:=by
   have:=congrArg List.length heq
   rw [List.length_zip,List.length_append,List.length_cons] at this
   omega
  have hb':pre.length * (b + c + 1) + (b + c + 1) + (b + c + 1)<=(xs.length + 1) * (b + c + 1):=by
   have:=Nat.mul_le_mul_right (b + c + 1) (show pre.length + 2<=xs.length + 1 by omega)
   rw [Nat.add_mul] at this
   omega
  have bd:=QR.zsX (xs:=pre.map (·.1)) (ys:=pre.map (·.2)) (n:=b) (m:=c) (by simp) (fun r hr=>by
   obtain ⟨p,hp,rfl⟩:=List.mem_map.mp hr
   exact hx _ (List.of_mem_zip (a:=p.1) (b:=p.2) (mp p hp)).1) (fun r hr=>by
   obtain ⟨p,hp,rfl⟩:=List.mem_map.mp hr
   exact hy _ (List.of_mem_zip (a:=p.1) (b:=p.2) (mp p hp)).2)
  rw [List.length_map] at bd
  have t1:=ht ((hx _ m1).mono (show b<=b + c by omega)) ((hy _ m2).mono (show c<=b + c by omega)) (by omega)
  have p1:=hp (bd.mono (show _<=pre.length * (b + c + 1) + 1 + (b + c) by omega)) (((hx _ m1).mul (hy _ m2)).mono (show _<=pre.length * (b + c + 1) + 1 + (b + c) by omega)) (by omega)
  refine ⟨_,.nx,?_,.inl rfl,.val (num q.1),.val (num q.2),zaD _,zaD _,rfl⟩
  have e0:gT [(gN 3),(gN 4)] (.tuple [num q.1,num q.2]) [x0,x1,.val (num (QR.dot (pre.map (·.1)) (pre.map (·.2)))),y3,y4]=.ok [x0,x1,.val (num (QR.dot (pre.map (·.1)) (pre.map (·.2)))),.val (num q.1),.val (num q.2)]:=by
   show (gN 3 (num q.1) _).bind _=_
   rw [zdG (x:=y3) rfl g3,zac]
   show (gN 4 (num q.2) [x0,x1,.val (num (QR.dot (pre.map (·.1)) (pre.map (·.2)))),.val (num q.1),y4]).bind _=_
   rw [zdG (x:=y4) rfl g4]
   rfl
  rw [e0,zac]
  simp only [zax,zae,zaa,eV,List.getElem?_cons_succ,List.getElem?_cons_zero,zai,zac,t1,p1,gN,List.set_cons_succ,List.set_cons_zero]
  rw [zrq])
 exact ⟨y3,y4,by simpa using e⟩
theorem zlP:∀ {xs ys:List Rat},xs.length=ys.length->(xs.zip ys).map (·.1)=xs/\(xs.zip ys).map (·.2)=ys
 | [],[],_=>⟨rfl,rfl⟩
 | [],_ :: _,h=>by simp at h
 | _ :: _,[],h=>by simp at h
 | x :: xs,y :: ys,h=>by
  obtain ⟨h1,h2⟩:=zlP (xs:=xs) (ys:=ys) (by simpa using h)
  simp only [List.zip_cons_cons,List.map_cons,h1,h2,and_self]
theorem znX {b c n:Nat} {xs ys:List Rat} (lx:xs.length=n) (ly:ys.length=n) (hx:∀ r ∈ xs,QR.Bd b r) (hy:∀ r ∈ ys,QR.Bd c r) (hb:(n + 1) * (b + c + 1) + 1<=40000000):zfJ [zah xs,zah ys]=.ok (num (ip n (fq xs) (fq ys))):=by
 obtain ⟨y3,y4,e⟩:=zkF (G:=zlG) (Gt:=zki) (Gp:=zlG) (x0:=.val (zah xs)) (x1:=.val (zah ys)) zmL ztD hx hy (by rw [lx];exact hb)
 obtain ⟨z1,z2⟩:=zlP (lx.trans ly.symm)
 rw [z1,z2,zns xs ys n lx ly] at e
 refine zbz (ρ:=[.val (zah xs),.val (zah ys),.val (num (ip n (fq xs) (fq ys))),y3,y4]) rfl ?_
 show zf2 [.val (zah xs),.val (zah ys),.no,.no,.no]=_
 unfold zf2
 rw [zaj (show zax (gN 2) (eC (.tuple [(.int 0),(.int 1)])) [.val (zah xs),.val (zah ys),.no,.no,.no]=.ok (.nx,[.val (zah xs),.val (zah ys),.val (num 0),.no,.no]) from rfl)]
 have s2:zdT [.val (zah xs),.val (zah ys),.val (num 0),.no,.no]=.ok (.nx,[.val (zah xs),.val (zah ys),.val (num (ip n (fq xs) (fq ys))),y3,y4]):=by
  unfold zdT zc7
  rw [show zne (zaa (eV 0) (zaa (eV 1) zai)) [.val (zah xs),.val (zah ys),.val (num 0),.no,.no]=.ok (ziu (xs.map num) (ys.map num),[.val (zah xs),.val (zah ys),.val (num 0),.no,.no]) from rfl,zac,zwE]
  exact e
 rw [zaj s2]
 rfl
theorem zhx {b c n:Nat} {xs ys:List Rat} (lx:xs.length=n) (ly:ys.length=n) (hx:∀ r ∈ xs,QR.Bd b r) (hy:∀ r ∈ ys,QR.Bd c r) (hb:(n + 1) * (b + c + 1) + 1<=40000000):zfK [zah xs,zah ys]=.ok (num (ip n (fq xs) (fq ys))):=by
 obtain ⟨y3,y4,e⟩:=zkF (G:=zlG) (Gt:=zg5) (Gp:=zc5) (x0:=.val (zah xs)) (x1:=.val (zah ys)) zsF zjI hx hy (by rw [lx];exact hb)
 obtain ⟨z1,z2⟩:=zlP (lx.trans ly.symm)
 rw [z1,z2,zns xs ys n lx ly] at e
 refine zbz (ρ:=[.val (zah xs),.val (zah ys),.val (num (ip n (fq xs) (fq ys))),y3,y4]) rfl ?_
 show zcR [.val (zah xs),.val (zah ys),.no,.no,.no]=_
 unfold zcR
 rw [zaj (show zax (gN 2) (zbW (zaa (eC (.int 0)) (zaa (eC (.int 1)) zai))) [.val (zah xs),.val (zah ys),.no,.no,.no]=.ok (.nx,[.val (zah xs),.val (zah ys),.val (num 0),.no,.no]) from rfl)]
 have s2:zb2 [.val (zah xs),.val (zah ys),.val (num 0),.no,.no]=.ok (.nx,[.val (zah xs),.val (zah ys),.val (num (ip n (fq xs) (fq ys))),y3,y4]):=by
  unfold zb2 zc7
  rw [show zne (zaa (eV 0) (zaa (eV 1) zai)) [.val (zah xs),.val (zah ys),.val (num 0),.no,.no]=.ok (ziu (xs.map num) (ys.map num),[.val (zah xs),.val (zah ys),.val (num 0),.no,.no]) from rfl,zac,zwE]
  exact e
 rw [zaj s2]
 rfl
theorem num_inv {s:Rat} (h:s ≠ 0):num s⁻¹=if 0 < s.num then .tuple [.int (s.den:Int),.int s.num] else .tuple [.int (-(s.den:Int)),.int (-s.num)]:=by
 have n0:s.num ≠ 0:=fun z=>h (Rat.num_eq_zero.mp z)
 rw [Rat.inv_def,num_divInt _ _ n0]
 have g1:Int.gcd (s.den:Int) s.num=1:=by
  rw [Int.gcd_comm]
  have:=s.reduced
  simpa [Int.gcd] using this
 rw [g1]
 by_cases c:s.num < 0
 ·rw [if_pos c,if_neg (by omega)]
  simp
 ·rw [if_neg c,if_pos (by omega)]
  simp
theorem zs1 {s:Rat} {n:Nat} (hs:QR.Bd n s) (h:s ≠ 0):QR.Bd n s⁻¹:=by
 have e:=num_inv h
 unfold num at e
 refine ⟨?_,?_⟩
 ·split at e
  ·have e1:=congrArg (fun d=>match d with | PyData.tuple [.int a,.int b]=>(a,b) | _=>(0,0)) e
   simp only [Prod.mk.injEq] at e1
   rw [e1.1];simpa using hs.2
  ·have e1:=congrArg (fun d=>match d with | PyData.tuple [.int a,.int b]=>(a,b) | _=>(0,0)) e
   simp only [Prod.mk.injEq] at e1
   rw [e1.1];simpa using hs.2
 ·split at e
  ·have e1:=congrArg (fun d=>match d with | PyData.tuple [.int a,.int b]=>(a,b) | _=>(0,0)) e
   simp only [Prod.mk.injEq] at e1
   have:=hs.1
   omega
  ·have e1:=congrArg (fun d=>match d with | PyData.tuple [.int a,.int b]=>(a,b) | _=>(0,0)) e
   simp only [Prod.mk.injEq] at e1
   have:=hs.1
   omega
theorem ztO {r s:Rat} {n:Nat} (hr:QR.Bd n r) (hs:QR.Bd n s) (h:s ≠ 0) (hn:n<=40000000):zqF [num r,num s]=.ok (num (r / s)):=by
 have n0:s.num ≠ 0:=fun z=>h (Rat.num_eq_zero.mp z)
 have l2:leB 2 lim=true:=by decide
 have bi:=zs1 hs h
 have t:=zmL hr bi hn
 rw [Rat.div_def]
 show ((zml [.val (num r),.val (num s),.no,.no]).bind _).bind _=_
 unfold zml
 rw [zaj (show zax (gT [(gN 2),(gN 3)]) (eV 1) [.val (num r),.val (num s),.no,.no]=.ok (.nx,[.val (num r),.val (num s),.val (.int s.num),.val (.int (s.den:Int))]) from rfl)]
 have s2:sIf (tB (FL.e2 eqD (eV 2) (eC (.int 0)))) zlM sNx [.val (num r),.val (num s),.val (.int s.num),.val (.int (s.den:Int))]=.ok (.nx,[.val (num r),.val (num s),.val (.int s.num),.val (.int (s.den:Int))]):=by
  simp only [sIf,tB,FL.e2,eV,List.getElem?_cons_succ,List.getElem?_cons_zero,eC,zac,zbT,decide_eq_false n0,zlM,sNx,Bool.false_eq_true,if_false]
 rw [zaj s2]
 by_cases c:0 < s.num
 ·rw [num_inv h,if_pos c] at t
  simp only [zav,zae,zaa,eV,List.getElem?_cons_zero,eIf,tB,FL.e2,eC,zac,zbW,zai,FL.e1,List.getElem?_cons_succ,zhE,decide_eq_true c,List.length_cons,List.length_nil,Nat.reduceAdd,zay l2,if_true,t,List.replicate,outs,outD]
 ·rw [num_inv h,if_neg c] at t
  simp only [zav,zae,zaa,eV,List.getElem?_cons_zero,eIf,tB,FL.e2,eC,zac,zbW,zai,FL.e1,List.getElem?_cons_succ,zhE,decide_eq_false c,Bool.false_eq_true,List.length_cons,List.length_nil,Nat.reduceAdd,zay l2,zjE,if_false,t,List.replicate,outs,outD]
end FL
namespace FL
open PySem MD
theorem all_true {α:Type} (xs:List α):zwx (.list (xs.map fun _=>PyData.bool true))=.ok (.bool true):=by
 have:=zr9 (xs.map fun _=>true)
 rw [List.map_map] at this
 rw [show xs.map (fun _=>PyData.bool true)=xs.map (PyData.bool ∘ fun _=>true) from rfl,this]
 simp
theorem zk1 (xs:List Rat) (hl:xs.length<=1000):zg6 [zah xs]=.ok (.bool true):=by
 have q:ze1 [.val (zah xs)]=.ok (.list (xs.map fun _=>PyData.bool true),[.val (zah xs)]):=by
  unfold ze1
  exact zbc (f0:=num) (xs:=xs) (fun _=>PyData.bool true) rfl (by show _<=1000000;omega) fun r mr=>⟨[.val (num r)],rfl,by simp only [zae,zaa,eV,List.getElem?_cons_zero,zai,zac,zt9],zba trivial⟩
 refine zbz (ρ:=[.val (zah xs)]) rfl ?_
 show zhJ [.val (zah xs)]=_
 unfold zhJ
 have k1:zbB "list" (zah xs)=.ok (.bool true):=rfl
 simp only [zav,znq,FL.e1,eV,List.getElem?_cons_zero,zac,k1,q,all_true]
theorem zk2 {xs:List Rat} {n:Nat} (hl:xs.length=n) (hn:n<=1000):zii [zah xs,.int (n:Int)]=.ok (.bool true):=by
 refine zbz (ρ:=[.val (zah xs),.val (.int (n:Int))]) rfl ?_
 show zd5 [.val (zah xs),.val (.int (n:Int))]=_
 unfold zd5
 have k1:zcd (zah xs)=.ok (.int (n:Int)):=by
  show R.ok (PyData.int ((xs.map num).length:Int))=_
  rw [List.length_map,hl]
 simp only [zav,znq,zae,zaa,zai,FL.e1,FL.e2,eV,List.getElem?_cons_succ,List.getElem?_cons_zero,zac,zk1 xs (by omega),k1,zbT,decide_true]
theorem zwk:∀ (M:List (List Rat)) (i:Nat),zft i (M.map zah)=(M.zipIdx i).map fun q=>.tuple [.int (q.2:Int),zah q.1]
 | [],_=>rfl
 | r :: M,i=>by simp only [List.map_cons,zft,List.zipIdx_cons,zwk M (i + 1)]
theorem zoV {M:List (List Rat)} {n:Nat} (hM:∀ r ∈ M,r.length=n) (hn:n<=1000):zdt [zad M,.int (n:Int)]=.ok .none:=by
 obtain ⟨ρ',e,y2,y3,g2,g3,rfl⟩:=zbV (f:=fun q:List Rat × Nat=>.tuple [.int (q.2:Int),zah q.1]) (g:=gT [(gN 2),(gN 3)]) (b:=zb3) (fun done ρ=>∃ y2 y3,Np y2/\Np y3/\ρ=[.val (zad M),.val (.int (n:Int)),y2,y3]) (M.zipIdx 0) [] [.val (zad M),.val (.int (n:Int)),.no,.no] ⟨.no,.no,za8,za8,rfl⟩ (by
  rintro pre q post ρ heq ⟨y2,y3,g2,g3,rfl⟩
  rw [List.nil_append] at heq
  have mq:q ∈ M.zipIdx 0:=by rw [heq];simp
  have mr:q.1 ∈ M:=(List.mem_zipIdx' (x:=q.1) (i:=q.2) mq).2 ▸ List.getElem_mem _
  refine ⟨_,.nx,?_,.inl rfl,.val (.int (q.2:Int)),.val (zah q.1),zaD _,zaD _,rfl⟩
  have e0:gT [(gN 2),(gN 3)] (.tuple [.int (q.2:Int),zah q.1]) [.val (zad M),.val (.int (n:Int)),y2,y3]=.ok [.val (zad M),.val (.int (n:Int)),.val (.int (q.2:Int)),.val (zah q.1)]:=by
   show (gN 2 _ _).bind _=_
   rw [zdG (x:=y2) rfl g2,zac]
   show (gN 3 (zah q.1) [.val (zad M),.val (.int (n:Int)),.val (.int (q.2:Int)),y3]).bind _=_
   rw [zdG (x:=y3) rfl g3]
   rfl
  rw [e0,zac]
  unfold zb3
  simp only [sIf,FL.zce,tE,zae,zaa,eV,List.getElem?_cons_succ,List.getElem?_cons_zero,zai,zac,zk2 (hM _ mr) hn,zlS,Bool.not_true,zlM,sNx,Bool.false_eq_true,if_false])
 refine zti (ρ:=[.val (zad M),.val (.int (n:Int)),y2,y3]) rfl ?_
 show zcP [.val (zad M),.val (.int (n:Int)),.no,.no]=_
 unfold zcP zdB zc7
 rw [show zuG (zaa (eV 0) zai) [.val (zad M),.val (.int (n:Int)),.no,.no]=.ok (zft 0 (M.map zah),[.val (zad M),.val (.int (n:Int)),.no,.no]) from rfl,zac,zwk]
 simpa using e
def zbJ (M:List (List Rat)) (y:List Rat) (p:Nat):List Rat:=M.map (fun r=>fq r p) ++ [fq y p]
def asked (M:List (List Rat)) (y:List Rat) (n:Nat):List (List Rat):=(List.range n).map (zbJ M y)
theorem znD {M:List (List Rat)} {y:List Rat} {p k:Nat} (h:k < M.length):fq (zbJ M y p) k=fq (M.getD k []) p:=by
 unfold zbJ
 rw [fq,List.getD_eq_getElem?_getD,List.getElem?_append_left (by simpa using h),List.getElem?_map,List.getElem?_eq_getElem h,List.getD_eq_getElem?_getD,List.getElem?_eq_getElem h]
 rfl
theorem zjl {M:List (List Rat)} {y:List Rat} {p:Nat}:fq (zbJ M y p) M.length=fq y p:=by
 unfold zbJ
 rw [fq,List.getD_eq_getElem?_getD,List.getElem?_append_right (by simp)]
 simp
def zjo (held:zbn) (m:Nat):List Rat:=zd7 (fun e=>Rat.divInt (fn e.2 m) (fn e.2 e.1)) (fun _=>0) held m
theorem zt6 {xs:List Int} {m:Nat} (h:xs.length=m + 1):ixD (IR xs) (.int (-1))=.ok (.int (fn xs m)):=by
 show R.of (atI (xs.map PyData.int) (-1))=_
 unfold atI ixN
 rw [if_neg (by omega),if_pos (by rw [List.length_map];omega),Option.bind_some,List.length_map,h,show ((-1:Int) + ((m + 1:Nat):Int)).toNat=m by omega,List.getElem?_map,List.getElem?_eq_getElem (by omega)]
 show R.ok _=_
 unfold fn
 rw [List.getD_eq_getElem?_getD,List.getElem?_eq_getElem (by omega)]
 rfl
theorem zr7 {M:List (List Rat)} {y:List Rat} {n:Nat} (hM:∀ r ∈ M,r.length=n) (hy:y.length=n) (hm:M.length<=1000) (hn:n<=1000) :
  zbG [.val (zad M),.val (zah y),.no,.no,.no,.no]=.ok (zad (asked M y n),[.val (zad M),.val (zah y),.no,.no,.no,.no]):=by
 unfold zbG
 have it:iR1 (zaa (FL.e1 zcd (eV 1)) zai) [.val (zad M),.val (zah y),.no,.no,.no,.no]=.ok ((List.range n).map (fun i:Nat=>PyData.int (i:Int)),[.val (zad M),.val (zah y),.no,.no,.no,.no]):=by
  have k1:zcd (zah y)=.ok (.int (n:Int)):=by
   show R.ok (PyData.int ((y.map num).length:Int))=_
   rw [List.length_map,hy]
  simp only [iR1,zaa,zai,FL.e1,eV,List.getElem?_cons_succ,List.getElem?_cons_zero,zac,k1]
  rw [zcY (by omega) (by omega),zac,zhk,List.map_map]
  simp
 rw [zbc (f0:=fun i:Nat=>.int (i:Int)) (xs:=List.range n) (fun p=>zah (zbJ M y p)) it (by rw [List.length_range];show n<=1000000;omega) fun p mp=>?_]
 ·unfold zad asked;rw [List.map_map];rfl
 ·have hp:=List.mem_range.mp mp
  refine ⟨[.val (.int (p:Int)),.val (zad M),.val (zah y)],rfl,?_,zba trivial⟩
  have q0:zcu [.val (.int (p:Int)),.val (zad M),.val (zah y)]=.ok (.list (M.map fun r=>num (fq r p)),[.val (.int (p:Int)),.val (zad M),.val (zah y)]):=by
   unfold zcu
   refine zbc (f0:=zah) (xs:=M) (fun r=>num (fq r p)) rfl (by show _<=1000000;omega) fun r mr=>?_
   refine ⟨[.val (zah r),.val (.int (p:Int))],rfl,?_,zba trivial⟩
   have ix:=zt8 (xs:=r) (i:=p) (by rw [hM r mr];exact hp)
   simp only [FL.e2,eV,List.getElem?_cons_zero,zac,List.getElem?_cons_succ,ix]
  have ix:=zt8 (xs:=y) (i:=p) (by omega)
  have l1:leB 1 lim=true:=by decide
  have ad:zbb (.list (M.map fun r=>num (fq r p))) (.list [num (fq y p)])=.ok (zah (zbJ M y p)):=by
   show chk (leB ((M.map fun r=>num (fq r p)).length + 1) lim) _=_
   rw [zay (by rw [List.length_map];exact zdS (by show _<=1000000;omega))]
   unfold zah zbJ
   rw [List.map_append,List.map_map]
   rfl
  simp only [FL.e2,q0,zac,zcz,zaa,zai,eV,List.getElem?_cons_succ,List.getElem?_cons_zero,ix,List.length_cons,List.length_nil,Nat.reduceAdd,zay l1,ad]
theorem znL {M:List (List Rat)} {y:List Rat} {n b:Nat} (hM:∀ r ∈ M,r.length=n/\∀ x ∈ r,QR.Bd b x) (hy:y.length=n) (hyb:∀ x ∈ y,QR.Bd b x) (hb1:1<=b) (hm:M.length<=15) (hn:n<=15) (hb:zfx b (M.length + 1)<=1000000) (hB:za5 b (M.length + 1) n<=10000000)
  {c:Nat->Rat} (hc:∀ p,p < n->fq y p=zby ((List.range M.length).map fun k=>c k * fq (M.getD k []) p)) :
  ∃ w:List Rat,zgD [zad M,zah y]=.ok (zah w)/\w.length=M.length/\(∀ x ∈ w,QR.Bd (za5 b (M.length + 1) n) x)/\∀ p,p < n->fq y p=zby ((List.range M.length).map fun k=>fq w k * fq (M.getD k []) p):=by
 have ha:∀ r ∈ asked M y n,r.length=M.length + 1/\∀ x ∈ r,QR.Bd b x:=by
  intro r hr
  obtain ⟨p,hp,rfl⟩:=List.mem_map.mp hr
  have z0:QR.Bd b 0:=by
   have:=QR.Bd.zero (b - 1)
   rw [show b - 1 + 1=b by omega] at this
   exact this
  have fb:∀ xs:List Rat,(∀ x ∈ xs,QR.Bd b x)->QR.Bd b (fq xs p):=fun xs hx=>by
   rcases znk (xs:=xs) p with z | z
   ·rw [z];exact z0
   ·exact hx _ z
  refine ⟨by unfold zbJ;simp,fun x hx=>?_⟩
  rcases List.mem_append.mp hx with hx | hx
  ·obtain ⟨r,hr,rfl⟩:=List.mem_map.mp hx
   exact fb r (hM r hr).2
  ·rw [List.mem_singleton.mp hx]
   exact fb y hyb
 have la:(asked M y n).length=n:=by unfold asked;simp
 obtain ⟨ws,S,held,e,E⟩:=zj8 ha (by omega) (by omega) (by rw [la];exact hB) hb
 have h:=E.hr (by omega)
 have P:∀ v,SpQ ws v->v M.length=zby ((List.range M.length).map fun k=>c k * v k):=fun v hv=>by
  refine E.ind (P:=fun v=>v M.length=zby ((List.range M.length).map fun k=>c k * v k)) ?_ ?_ ?_ hv
  ·exact (zbl fun k _=>by grind).symm
  ·intro a b u v hu hv
   show a * u M.length + b * v M.length=_
   rw [hu,hv,<- zfd]
   exact zaE fun k _=>by grind
  ·intro r hr
   obtain ⟨p,hp,rfl⟩:=List.mem_map.mp hr
   have hp:=List.mem_range.mp hp
   rw [zjl,hc p hp]
   exact zaE fun k hk=>by rw [znD (List.mem_range.mp hk)]
 have lt:∀ e ∈ held,e.1 < M.length:=fun e he=>by
  have h1:=(E.ok.row e he).lt
  refine Nat.lt_of_le_of_ne (by omega) fun z=>?_
  have h2:=P _ (E.ok.zwJ he)
  have h3:=E.ok.zxr he
  rw [<- z] at h2
  rw [h3,zbl fun k hk=>by
   have:kr e k=0:=by
    unfold kr
    rw [(E.ok.row e he).low k (by have:=List.mem_range.mp hk;omega)]
    show ((0:Int):Rat) / _=0
    grind
   rw [this];grind] at h2
  exact absurd h2 (by decide)
 refine ⟨zjo held M.length,?_,zgX ..,fun x hx=>?_,fun p hp=>?_⟩
 ·have s1:zc8 2 (zcy 2 zbG) [.val (zad M),.val (zah y),.no,.no,.no,.no]=.ok (.nx,[.val (zad M),.val (zah y),.val (zad (asked M y n)),.no,.no,.no]):=by
   unfold zc8
   rw [zcK (x:=.no) (zr7 (fun r hr=>(hM r hr).1) hy (by omega) (by omega)) rfl za8]
   rfl
  have s2:zax (gN 3) (zae zaP (zaa (eV 2) zai)) [.val (zad M),.val (zah y),.val (zad (asked M y n)),.no,.no,.no]=.ok (.nx,[.val (zad M),.val (zah y),.val (zad (asked M y n)),.val (hD held),.no,.no]):=by
   simp only [zax,zae,zaa,eV,List.getElem?_cons_succ,List.getElem?_cons_zero,zai,zac,e,gN,List.set_cons_succ,List.set_cons_zero]
  have s3:zcy 4 (zsW (eC (.tuple [(.int 0),(.int 1)])) (FL.e1 zcd (eV 0))) [.val (zad M),.val (zah y),.val (zad (asked M y n)),.val (hD held),.no,.no]=.ok (.nx,[.val (zad M),.val (zah y),.val (zad (asked M y n)),.val (hD held),.ow false (zah (zjo [] M.length)),.no]):=by
   refine zcK (i:=4) (x:=.no) (y:=(zah (zjo [] M.length),[.val (zad M),.val (zah y),.val (zad (asked M y n)),.val (hD held),.no,.no])) ?_ rfl za8
   have k1:FL.e1 zcd (eV 0) [.val (zad M),.val (zah y),.val (zad (asked M y n)),.val (hD held),.no,.no]=.ok (.int (M.length:Int),[.val (zad M),.val (zah y),.val (zad (asked M y n)),.val (hD held),.no,.no]):=by
    show R.ok (PyData.int ((M.map zah).length:Int),_)=_
    rw [List.length_map]
   unfold zsW
   rw [show eC (.tuple [(.int 0),(.int 1)]) [.val (zad M),.val (zah y),.val (zad (asked M y n)),.val (hD held),.no,.no]=.ok (num 0,[.val (zad M),.val (zah y),.val (zad (asked M y n)),.val (hD held),.no,.no]) from rfl,zac,k1,zac]
   show chk (decide ((0:Int)<=(M.length:Int)) && leB ((M.length:Int).toNat) 1000000) _=_
   rw [zay (by rw [Bool.and_eq_true];exact ⟨by simp,zdS (by simp;omega)⟩),Int.toNat_natCast,zlX]
   have:List.replicate M.length (0:Rat)=zjo [] M.length:=by
    apply List.ext_getElem?
    intro j
    unfold zjo zd7
    rw [List.getElem?_map,List.getElem?_replicate]
    by_cases l:j < M.length
    ·rw [if_pos l,List.getElem?_range l];rfl
    ·rw [if_neg l,List.getElem?_eq_none (by simpa using l)];rfl
   rw [this];rfl
  obtain ⟨ρ',e',y5,g5,rfl⟩:=zbV (f:=fun e:Nat × List Int=>.int (e.1:Int)) (g:=gN 5) (b:=zdV) (fun done ρ=>∃ y5,Np y5/\ρ=[.val (zad M),.val (zah y),.val (zad (asked M y n)),.val (hD held),.ow false (zah (zjo done M.length)),y5]) held [] _ ⟨.no,za8,rfl⟩ (by
   rintro pre e post ρ heq ⟨y5,g5,rfl⟩
   rw [List.nil_append] at heq
   have me:e ∈ held:=by rw [heq];simp
   obtain ⟨h1,h2,h3⟩:=h.row e me
   have dx:=zfv h.nd me
   have i1:=zt6 h1
   have i2:=zod (xs:=e.2) (i:=e.1) (by omega)
   have fr:=ze4 (fn e.2 M.length) _ h3
   have np:e.1 ∉ pre.map (·.1):=by
    have nd:=h.nd
    rw [heq,List.map_append,List.map_cons,List.nodup_append] at nd
    intro z
    exact nd.2.2 e.1 z e.1 (List.mem_cons_self ..) rfl
   refine ⟨_,.nx,?_,.inl rfl,.val (.int (e.1:Int)),zaD _,rfl⟩
   rw [zdG (x:=y5) rfl g5,zac]
   have ng:zgJ (.int 1)=.ok (.int (-1)):=rfl
   have fe:zae zcj (zaa (FL.e2 ixD (FL.e2 zgn (eV 3) (eV 5)) (FL.e1 zgJ (eC (.int 1)))) (zaa (FL.e2 ixD (FL.e2 zgn (eV 3) (eV 5)) (eV 5)) zai)) [.val (zad M),.val (zah y),.val (zad (asked M y n)),.val (hD held),.ow false (zah (zjo pre M.length)),.val (.int (e.1:Int))]=.ok (num (Rat.divInt (fn e.2 M.length) (fn e.2 e.1)),[.val (zad M),.val (zah y),.val (zad (asked M y n)),.val (hD held),.ow false (zah (zjo pre M.length)),.val (.int (e.1:Int))]):=by
    simp only [zae,zaa,FL.e2,eV,List.getElem?_cons_succ,List.getElem?_cons_zero,zac,dx,FL.e1,eC,ng,i1,zai,i2,fr]
   show setM 4 _ (eV 5) [.val (zad M),.val (zah y),.val (zad (asked M y n)),.val (hD held),.ow false (zah (zjo pre M.length)),.val (.int (e.1:Int))]=_
   unfold setM
   rw [fe]
   show (R.of (ixN ((zjo pre M.length).map num).length (e.1:Int))).bind _=_
   rw [zjV (by rw [List.length_map,zjo,zgX];exact lt e me)]
   show R.ok (Fl.nx,[Sl.val (zad M),.val (zah y),.val (zad (asked M y n)),.val (hD held),.ow false (.list (((zjo pre M.length).map num).set e.1 (num (Rat.divInt (fn e.2 M.length) (fn e.2 e.1))))),.val (.int (e.1:Int))])=_
   have fp:=znl (f:=fun e=>Rat.divInt (fn e.2 M.length) (fn e.2 e.1)) (base:=fun _=>0) (n:=M.length) np
   rw [zjw,zjo,fp]
   rfl)
  refine zdL (ρ:=[.val (zad M),.val (zah y),.val (zad (asked M y n)),.val (hD held),.ow false (zah (zjo held M.length)),y5]) rfl ?_
  show zdg [.val (zad M),.val (zah y),.no,.no,.no,.no]=_
  unfold zdg
  rw [zaj s1,zaj s2,zaj s3]
  have it:iD (eV 3) [.val (zad M),.val (zah y),.val (zad (asked M y n)),.val (hD held),.ow false (zah (zjo [] M.length)),.no]=.ok (held.map (fun e=>.int (e.1:Int)),[.val (zad M),.val (zah y),.val (zad (asked M y n)),.val (hD held),.ow false (zah (zjo [] M.length)),.no]):=by
   simp only [iD,eV,List.getElem?_cons_succ,List.getElem?_cons_zero,zac,zfq]
  have s4:zcr [.val (zad M),.val (zah y),.val (zad (asked M y n)),.val (hD held),.ow false (zah (zjo [] M.length)),.no]=.ok (.nx,[.val (zad M),.val (zah y),.val (zad (asked M y n)),.val (hD held),.ow false (zah (zjo held M.length)),y5]):=by
   unfold zcr zc7
   rw [it,zac]
   simpa using e'
  rw [zaj s4]
  rfl
 ·rcases znn hx with ⟨e,he,rfl⟩ | ⟨j,rfl⟩
  ·exact zhZ (E.bd ha (by omega) (by omega) he _) (E.bd ha (by omega) (by omega) he _) (h.row e he).2.2
  ·exact QR.Bd.mono (QR.Bd.zero 0) (by unfold za5;omega)
 ·have hr:=E.ok.room (E.sp (zbJ M y p) (List.mem_map_of_mem (List.mem_range.mpr hp))) M.length
  rw [zjl] at hr
  rw [hr]
  have q:=zmj (n:=M.length) (f:=fun e=>Rat.divInt (fn e.2 M.length) (fn e.2 e.1)) (base:=fun _=>0) (fun k=>fq (M.getD k []) p) held h.nd lt
  rw [zbl (f:=fun j=>(0:Rat) * fq (M.getD j []) p) fun j _=>by grind] at q
  have q2:zby ((List.range M.length).map fun k=>fq (zjo held M.length) k * fq (M.getD k []) p)=0 + zby (held.map fun e=>(Rat.divInt (fn e.2 M.length) (fn e.2 e.1) - 0) * fq (M.getD e.1 []) p):=q
  rw [q2,zaE (f:=fun e=>(Rat.divInt (fn e.2 M.length) (fn e.2 e.1) - 0) * fq (M.getD e.1 []) p) (g:=fun e=>fq (zbJ M y p) e.1 * kr e M.length) fun e he=>by
   rw [znD (lt e he),zj2]
   unfold kr
   grind]
  grind
theorem zxo (xs:List Rat):zcd (zah xs)=.ok (.int (xs.length:Int)):=by
 show R.ok (PyData.int ((xs.map num).length:Int))=_
 rw [List.length_map]
theorem zvU (M:List (List Rat)):zcd (zad M)=.ok (.int (M.length:Int)):=by
 show R.ok (PyData.int ((M.map zah).length:Int))=_
 rw [List.length_map]
inductive Told (M:List (List Rat)) (y:List Rat) (n B T:Nat):D->Prop where
 | sum (w:List Rat) (hl:w.length=M.length) (hb:∀ x ∈ w,QR.Bd B x) (h:∀ p,p < n->fq y p=zby ((List.range M.length).map fun k=>fq w k * fq (M.getD k []) p)):Told M y n B T (.tuple [.str "sum",zah w])
 | apart (t:List Rat) (hl:t.length=n) (hb:∀ x ∈ t,QR.Bd T x) (h:∀ r ∈ M,ip n (fq t) (fq r)=0) (h1:ip n (fq t) (fq y)=1):Told M y n B T (.tuple [.str "apart",zah t])
theorem zsc {b b' k l:Nat} (hb:b<=b') (hk:k<=l):zfx b k<=zfx b' l:=by unfold zfx;exact Nat.add_le_add_right (Nat.mul_le_mul hb (by omega)) 1
theorem zr6 {b b' k l p q:Nat} (hb:b<=b') (hk:k<=l) (hp:p<=q):za5 b k p<=za5 b' l q:=by
 unfold za5
 exact Nat.add_le_add_right (Nat.mul_le_mul (Nat.add_le_add_right (zsc hb hk) 4) (by omega)) 1
theorem zrG (e:Nat × List Int):(zbu e).length=e.2.length:=by unfold zbu;simp
theorem zt1 {e:Nat × List Int} {b:Nat} (h:∀ j,(fn e.2 j).natAbs < 2 ^ b) (h0:fn e.2 e.1 ≠ 0):∀ x ∈ zbu e,QR.Bd b x:=by
 intro x hx
 obtain ⟨i,hi,rfl⟩:=List.mem_map.mp hx
 obtain ⟨j,_,rfl⟩:=zm5 hi
 exact zhZ (h j) (h _) h0
theorem zup {n:Nat} {M:List (List Rat)} {ws:List Rw} {S:List Nat} {held:zbn} (E:zlJ n M ws S held) {v:Rq} (hv:SpQ ws v):∃ c:Nat->Rat,∀ p,v p=zby ((List.range M.length).map fun k=>c k * fq (M.getD k []) p):=by
 refine E.ind (P:=fun v=>∃ c:Nat->Rat,∀ p,v p=zby ((List.range M.length).map fun k=>c k * fq (M.getD k []) p)) ⟨fun _=>0,fun p=>(zbl fun k _=>by grind).symm⟩ ?_ ?_ hv
 ·rintro a b u v ⟨c,hc⟩ ⟨d,hd⟩
  refine ⟨fun k=>a * c k + b * d k,fun p=>?_⟩
  show a * u p + b * v p=_
  rw [hc p,hd p,<- zfd]
  exact zaE fun k _=>by grind
 ·intro r hr
  obtain ⟨i,hi,e⟩:=List.mem_iff_getElem.mp hr
  refine ⟨fun k=>if i=k then 1 else 0,fun p=>?_⟩
  have:=zjt (fun k=>fq (M.getD k []) p) (fun _=>0) i 1 M.length hi
  rw [zbl (f:=fun j=>(0:Rat) * fq (M.getD j []) p) fun j _=>by grind] at this
  rw [this,List.getD_eq_getElem?_getD,List.getElem?_eq_getElem hi,e]
  simp only [Option.getD_some]
  grind
theorem zoI {n b b' N L B T:Nat} {M:List (List Rat)} {y:List Rat} (hM:∀ r ∈ M,r.length=n/\∀ x ∈ r,QR.Bd b x) (hy:y.length=n) (hyb:∀ x ∈ y,QR.Bd b' x) (hb1:1<=b) (hbb:b<=b') (hN:M.length<=N) (hN15:N<=14) (hn:n<=L) (hL:L<=14)
  (c1:zfx b L<=1000000) (c2:za5 b L N<=10000000) (c3:zfx (za5 b L N) L<=1000000) (c4:za5 (za5 b L N) L L<=B) (c5:zfx b' (N + 1)<=1000000) (c6:za5 b' (N + 1) L<=B) (c7:b'<=B) (c8:(L + 2) * (B + b' + 1) + B + 10<=T) (c9:T<=5000000) :
  ∃ d,znJ [zad M,zah y]=.ok d/\Told M y n B T d:=by
 have hX:(n + 2) * (B + b' + 1)<=(L + 2) * (B + b' + 1):=Nat.mul_le_mul_right _ (by omega)
 have hX1:(n + 2) * (B + b' + 1)=n * (B + b' + 1) + 2 * (B + b' + 1):=Nat.add_mul ..
 have hX2:(n + 1) * (B + b' + 1)=n * (B + b' + 1) + (B + b' + 1):=by rw [Nat.add_mul];omega
 have q2:za5 b n N<=za5 b L N:=zr6 (Nat.le_refl _) hn (Nat.le_refl _)
 have q4:za5 (za5 b n N) n n<=B:=Nat.le_trans (zr6 q2 hn hn) c4
 obtain ⟨ws,S,held,ws2,S2,held2,K,e,E,E2,p,srt,nB⟩:=znY hM hN (by omega) (by omega) (Nat.le_trans (zsc (Nat.le_refl _) hn) c1) (by omega) (Nat.le_trans (zsc q2 hn) c3) (by omega)
 have h:=E.hr (by omega)
 have nl:(ziy held n).length<=n:=by unfold ziy;rw [List.length_map];exact zk5 held n
 have h2:=E2.hr (by omega)
 have kb:∀ e ∈ K,(zbu e).length=n/\∀ x ∈ zbu e,QR.Bd B x:=fun e he=>by
  have he:=p.subset he
  refine ⟨(zrG e).trans (h2.row e he).1,fun x hx=>(zt1 (fun j=>E2.bd nB nl (by omega) he j) (h2.row e he).2.2 x hx).mono q4⟩
 have ko:∀ e ∈ K,∀ v,SpQ ws v->ip n (fq (zbu e)) v=0:=fun e he v hv=>by
  rw [show fq (zbu e)=kr e from funext (zp4 e),zfY]
  refine E2.zyp (fun r hr=>?_) (E2.ok.zwJ (p.subset he))
  obtain ⟨free,hf,rfl⟩:=List.mem_map.mp hr
  obtain ⟨f1,f2⟩:=zkN.mp hf
  rw [zfY]
  exact zpo E h f1 f2 hv
 have pr:∀ e ∈ K,zfJ [zah (zbu e),zah y]=.ok (num (ip n (fq (zbu e)) (fq y))):=fun e he=>znX (kb e he).1 hy (kb e he).2 hyb (by omega)
 have s1:sIf (FL.zce (tE (zae zg6 (zaa (eV 1) zai)))) zlM sNx [.val (zad M),.val (zah y),.no,.no]=.ok (.nx,[.val (zad M),.val (zah y),.no,.no]):=by
  simp only [sIf,FL.zce,tE,zae,zaa,eV,List.getElem?_cons_succ,List.getElem?_cons_zero,zai,zac,zk1 y (by omega),zlS,Bool.not_true,zlM,sNx,Bool.false_eq_true,if_false]
 have s2:sE (zae zdt (zaa (eV 0) (zaa (FL.e1 zcd (eV 1)) zai))) [.val (zad M),.val (zah y),.no,.no]=.ok (.nx,[.val (zad M),.val (zah y),.no,.no]):=by
  have:=zoV (fun r hr=>(hM r hr).1) (n:=n) (by omega)
  simp only [sE,zae,zaa,zai,FL.e1,eV,List.getElem?_cons_succ,List.getElem?_cons_zero,zac,zxo,hy,this]
 have it:iE (zae zdu (zaa (eV 0) (zaa (FL.e1 zcd (eV 1)) zai))) [.val (zad M),.val (zah y),.no,.no]=.ok ((K.map zbu).map zah,[.val (zad M),.val (zah y),.no,.no]):=by
  simp only [iE,zae,zaa,zai,FL.e1,eV,List.getElem?_cons_succ,List.getElem?_cons_zero,zac,zxo,hy,e]
  rfl
 have loop:∀ (L:zbn),(∀ e ∈ L,e ∈ K)->∀ x2 x3,Np x2->Np x3->(∃ y2 y3,(∀ e ∈ L,ip n (fq (zbu e)) (fq y)=0)/\forL (gN 2) zbr ((L.map zbu).map zah) [.val (zad M),.val (zah y),x2,x3]=.ok (.nx,[.val (zad M),.val (zah y),y2,y3])) \/
   ∃ d ρ',forL (gN 2) zbr ((L.map zbu).map zah) [.val (zad M),.val (zah y),x2,x3]=.ok (.rt d,ρ')/\Told M y n B T d:=by
  intro L
  induction L with
  | nil=>exact fun _ x2 x3 _ _=>.inl ⟨x2,x3,(fun _ h=>nomatch h),rfl⟩
  | cons t L ih =>
   intro hL x2 x3 n2 n3
   have ht:=hL t (.head _)
   have e0:gN 2 (zah (zbu t)) [.val (zad M),.val (zah y),x2,x3]=.ok [.val (zad M),.val (zah y),.val (zah (zbu t)),x3]:=zdG (x:=x2) rfl n2
   have u1:zax (gN 3) (zae zfJ (zaa (eV 2) (zaa (eV 1) zai))) [.val (zad M),.val (zah y),.val (zah (zbu t)),x3]=.ok (.nx,[.val (zad M),.val (zah y),.val (zah (zbu t)),.val (num (ip n (fq (zbu t)) (fq y)))]):=by
    refine zb1 (i:=3) (y:=(num (ip n (fq (zbu t)) (fq y)),[.val (zad M),.val (zah y),.val (zah (zbu t)),x3])) (x:=x3) ?_ rfl n3
    simp only [zae,zaa,zai,eV,List.getElem?_cons_succ,List.getElem?_cons_zero,zac,pr t ht]
   rw [List.map_cons,List.map_cons]
   unfold forL
   rw [e0,zac]
   have ne:=zsx (ip n (fq (zbu t)) (fq y)) 0
   rw [<- zyv] at ne
   by_cases c:ip n (fq (zbu t)) (fq y)=0
   ·have u2:zbr [.val (zad M),.val (zah y),.val (zah (zbu t)),x3]=.ok (.nx,[.val (zad M),.val (zah y),.val (zah (zbu t)),.val (num (ip n (fq (zbu t)) (fq y)))]):=by
     unfold zbr
     rw [zaj u1]
     simp only [sIf,tB,FL.e2,eV,List.getElem?_cons_succ,List.getElem?_cons_zero,eC,zac,ne,decide_eq_true c,Bool.not_true,zav,zbW,zaa,zai,sNx,Bool.false_eq_true,if_false]
    rw [u2,zac]
    rcases ih (fun e he=>hL e (.tail _ he)) _ _ (zaD _) (zaD _) with ⟨y2,y3,h1,h2⟩ | ⟨d,ρ',h1,h2⟩
    ·refine .inl ⟨y2,y3,fun e he=>?_,h2⟩
     rcases List.mem_cons.mp he with rfl | he
     ·exact c
     ·exact h1 e he
    ·exact .inr ⟨d,ρ',h1,h2⟩
   ·have tb:=(kb t ht).2
    have wb:QR.Bd ((n + 1) * (B + b' + 1)) (ip n (fq (zbu t)) (fq y)):=by
     rw [<- zns (zbu t) y n (kb t ht).1 hy]
     have:=QR.zsX ((kb t ht).1.trans hy.symm) tb hyb
     rw [(kb t ht).1] at this
     exact this.mono (by omega)
    have wi:∀ x ∈ zbu t,zqF [num x,num (ip n (fq (zbu t)) (fq y))]=.ok (num (x / ip n (fq (zbu t)) (fq y))):=fun x hx=>ztO ((tb x hx).mono (show B<=(n + 1) * (B + b' + 1) by omega)) wb c (by omega)
    have q:ze0 [.val (zad M),.val (zah y),.val (zah (zbu t)),.val (num (ip n (fq (zbu t)) (fq y)))]=.ok (zah ((zbu t).map fun x=>x / ip n (fq (zbu t)) (fq y)),[.val (zad M),.val (zah y),.val (zah (zbu t)),.val (num (ip n (fq (zbu t)) (fq y)))]):=by
     unfold ze0
     rw [zbc (f0:=num) (xs:=zbu t) (fun x=>num (x / ip n (fq (zbu t)) (fq y))) rfl (by rw [(kb t ht).1];show n<=1000000;omega) fun x mx=>?_]
     ·unfold zah;rw [List.map_map];rfl
     ·refine ⟨[.val (num x),.val (num (ip n (fq (zbu t)) (fq y)))],rfl,?_,zba trivial⟩
      simp only [zae,zaa,eV,List.getElem?_cons_zero,zai,zac,List.getElem?_cons_succ,wi x mx]
    have u2:zbr [.val (zad M),.val (zah y),.val (zah (zbu t)),x3]=.ok (.rt (.tuple [.str "apart",zah ((zbu t).map fun x=>x / ip n (fq (zbu t)) (fq y))]),[.val (zad M),.val (zah y),.val (zah (zbu t)),.val (num (ip n (fq (zbu t)) (fq y)))]):=by
     unfold zbr
     rw [zaj u1]
     have l2:leB 2 lim=true:=by decide
     simp only [sIf,tB,FL.e2,eV,List.getElem?_cons_succ,List.getElem?_cons_zero,eC,zac,ne,decide_eq_false c,Bool.not_false,zav,zbW,zaa,zai,sNx,q,List.length_cons,List.length_nil,Nat.reduceAdd,zay l2,if_true]
    rw [u2,zac]
    refine .inr ⟨_,_,rfl,?_⟩
    have fd:∀ v,ip n (fq ((zbu t).map fun x=>x / ip n (fq (zbu t)) (fq y))) v=ip n (fq (zbu t)) v / ip n (fq (zbu t)) (fq y):=fun v=>by
     have:fq ((zbu t).map fun x=>x / ip n (fq (zbu t)) (fq y))=fun j=>(1 / ip n (fq (zbu t)) (fq y)) * fq (zbu t) j + 0 * (fun _=>(0:Rat)) j:=funext fun j=>by
      unfold fq
      rw [List.getD_eq_getElem?_getD,List.getD_eq_getElem?_getD,List.getElem?_map]
      cases (zbu t)[j]? with
      | none=>simp only [Option.map_none,Option.getD_none];grind
      | some x=>simp only [Option.map_some,Option.getD_some];grind
     rw [this,zfY,zpQ,zfY n v]
     grind
    refine .apart _ (by rw [List.length_map];exact (kb t ht).1) (fun x hx=>?_) (fun r hr=>?_) ?_
    ·obtain ⟨z,hz,rfl⟩:=List.mem_map.mp hx
     rw [Rat.div_def]
     exact ((tb z hz).mul (zs1 wb c)).mono (by omega)
    ·rw [fd,ko t ht _ (E.sp r hr)];grind
    ·rw [fd];grind
 rcases loop K (fun _ h=>h) .no .no za8 za8 with ⟨y2,y3,hz,hl⟩ | ⟨d,ρ',hl,hT⟩
 ·have nz:∀ free,free ∈ frees held n->ip n (fq (zgh held n free)) (fq y)=0:=fun free hf=>by
   have sp:=E2.sp _ (List.mem_map_of_mem (f:=zgh held n) hf)
   rw [zfY,zjW (v:=fun j=>zby (held2.map fun e=>fq (zgh held n free) e.1 * kr e j)) fun j _=>E2.ok.room sp j,zsP]
   refine zbl fun e he=>?_
   have:=hz e (p.symm.subset he)
   rw [show fq (zbu e)=kr e from funext (zp4 e),zfY] at this
   rw [this];grind
  have rm:=zku E h nz
  obtain ⟨c,hc⟩:=zup E (SpQ.sum held (fun e=>fq y e.1) fun e he=>E.ok.zwJ he)
  obtain ⟨w,ew,lw,bw,hw⟩:=znL (fun r hr=>⟨(hM r hr).1,fun x hx=>((hM r hr).2 x hx).mono hbb⟩) hy hyb (by omega) (by omega) (by omega) (Nat.le_trans (zsc (Nat.le_refl _) (by omega)) c5) (Nat.le_trans (zr6 (Nat.le_refl _) (by omega) hn) (by omega:za5 b' (N + 1) L<=10000000)) (c:=c) fun q hq=>(rm q hq).trans (hc q)
  refine ⟨_,?_,.sum w lw (fun x hx=>(bw x hx).mono ?_) hw⟩
  ·refine zbz (ρ:=[.val (zad M),.val (zah y),y2,y3]) rfl ?_
   show zd1 [.val (zad M),.val (zah y),.no,.no]=_
   unfold zd1
   have s3:zcs [.val (zad M),.val (zah y),.no,.no]=.ok (.nx,[.val (zad M),.val (zah y),y2,y3]):=by
    unfold zcs zc7
    rw [it,zac]
    exact hl
   rw [zaj s1,zaj s2,zaj s3]
   have l2:leB 2 lim=true:=by decide
   simp only [zav,zbW,zaa,eC,zae,eV,zai,zac,List.getElem?_cons_zero,List.getElem?_cons_succ,ew,List.length_cons,List.length_nil,Nat.reduceAdd,zay l2]
  ·exact Nat.le_trans (zr6 (Nat.le_refl _) (by omega) hn) c6
 ·refine ⟨d,?_,hT⟩
  refine zbz (ρ:=ρ') rfl ?_
  show zd1 [.val (zad M),.val (zah y),.no,.no]=_
  unfold zd1
  have s3:zcs [.val (zad M),.val (zah y),.no,.no]=.ok (.rt d,ρ'):=by
   unfold zcs zc7
   rw [it,zac]
   exact hl
  rw [zaj s1,zaj s2]
  unfold zao
  rw [s3]
  rfl
end FL
namespace FL
open PySem MD
theorem zoT {k:Nat} {d:D} (h:zc4 k d) (hk:k<=50000):∃ (r:Rat) (d':D),zaW [d]=.ok (num r,[d'])/\QR.Bd 15 r/\zc4 (k + 3) d':=by
 obtain ⟨w,d1,t1,w0,w5,p1⟩:=zb0 h (by omega) 6 (by decide) (by decide)
 have lt3:ltD (.int w) (.int 3)=.ok (.bool (decide (w < 3))):=zhw _ _
 have lt5:ltD (.int w) (.int 5)=.ok (.bool (decide (w < 5))):=zhw _ _
 by_cases c1:w < 3
 ·have l3:leB 3 lim=true:=by decide
  have l2:leB 2 lim=true:=by decide
  have ng:zgJ (.int 1)=.ok (.int (-1)):=rfl
  have c:w=0\/w=1\/w=2:=by omega
  rw [decide_eq_true c1] at lt3
  rcases c with rfl | rfl | rfl
  ·refine ⟨0,d1,?_,⟨by decide,by decide⟩,p1.mono (by omega)⟩
   simp only [zaW,FL.run,List.length_cons,List.length_nil,Nat.reduceAdd,zci,zao,zax,zan,znE,zaU,slots,if_true,Nat.reduceSub,List.replicate,List.cons_append,List.nil_append,List.getElem?_cons_zero,eC,zac,zlr,zls,bkL,bk1,t1,zjm,List.lookup_cons,List.lookup_nil,gN,List.getElem?_cons_succ,List.set_cons_succ,List.set_cons_zero,sIf,tB,FL.e2,eV,zav,zcz,zaa,zbW,zai,zay l2,FL.e1,ng,zay l3,sNx,zae,zit,lt3,outs,outD]
   rfl
  ·refine ⟨1,d1,?_,⟨by decide,by decide⟩,p1.mono (by omega)⟩
   simp only [zaW,FL.run,List.length_cons,List.length_nil,Nat.reduceAdd,zci,zao,zax,zan,znE,zaU,slots,if_true,Nat.reduceSub,List.replicate,List.cons_append,List.nil_append,List.getElem?_cons_zero,eC,zac,zlr,zls,bkL,bk1,t1,zjm,List.lookup_cons,List.lookup_nil,gN,List.getElem?_cons_succ,List.set_cons_succ,List.set_cons_zero,sIf,tB,FL.e2,eV,zav,zcz,zaa,zbW,zai,zay l2,FL.e1,ng,zay l3,sNx,zae,zit,lt3,outs,outD]
   rfl
  ·refine ⟨-1,d1,?_,⟨by decide,by decide⟩,p1.mono (by omega)⟩
   simp only [zaW,FL.run,List.length_cons,List.length_nil,Nat.reduceAdd,zci,zao,zax,zan,znE,zaU,slots,if_true,Nat.reduceSub,List.replicate,List.cons_append,List.nil_append,List.getElem?_cons_zero,eC,zac,zlr,zls,bkL,bk1,t1,zjm,List.lookup_cons,List.lookup_nil,gN,List.getElem?_cons_succ,List.set_cons_succ,List.set_cons_zero,sIf,tB,FL.e2,eV,zav,zcz,zaa,zbW,zai,zay l2,FL.e1,ng,zay l3,sNx,zae,zit,lt3,outs,outD]
   rfl
 ·rw [decide_eq_false c1] at lt3
  by_cases c2:w < 5
  ·rw [decide_eq_true c2] at lt5
   obtain ⟨v,d2,t2,v0,v1,p2⟩:=zb0 p1 (by omega) 13 (by decide) (by decide)
   obtain ⟨u,d3,t3,u0,u1,p3⟩:=zb0 p2 (by omega) 4 (by decide) (by decide)
   have pr:0<=u * (w - 3)/\u * (w - 3)<=3:=by
    have:w - 3=0\/w - 3=1:=by omega
    rcases this with z | z <;> rw [z] <;> omega
   have hb:(1 + u * (w - 3)).toNat ≠ 0:=by omega
   have hl:=zsB (v - 6) (b:=(1 + u * (w - 3)).toNat) (n:=15) hb (by omega) (by decide)
   rw [show (((1 + u * (w - 3)).toNat:Nat):Int)=1 + u * (w - 3) by omega] at hl
   refine ⟨Rat.normalize (v - 6) (1 + u * (w - 3)).toNat hb,d3,?_,?_,p3⟩
   ·have sb:zit (.int v) (.int 6)=.ok (.int (v - 6)):=rfl
    have sb2:zit (.int w) (.int 3)=.ok (.int (w - 3)):=rfl
    have ml:za9 (.int u) (.int (w - 3))=.ok (.int (u * (w - 3))):=zaO (n:=16) (m:=16) (zaM (by omega)) (zaM (by omega)) (by decide)
    have ad2:zbb (.int 1) (.int (u * (w - 3)))=.ok (.int (1 + u * (w - 3))):=rfl
    simp only [zaW,FL.run,List.length_cons,List.length_nil,Nat.reduceAdd,zci,zao,zax,zan,znE,zaU,slots,if_true,Nat.reduceSub,List.replicate,List.cons_append,List.nil_append,List.getElem?_cons_zero,eC,zac,zlr,zls,bkL,bk1,t1,zjm,List.lookup_cons,beq_self_eq_true,gN,List.getElem?_cons_succ,List.set_cons_succ,List.set_cons_zero,sIf,tB,FL.e2,eV,zav,zcz,zaa,zbW,zai,FL.e1,sNx,zae,zit,lt3,Bool.false_eq_true,if_false,lt5,t2,t3,ml,ad2,hl,outs,outD,List.head?_cons]
   ·have h1:=QR.norm (t:=v - 6) hb
    have h2:=QR.zoi (v - 6) ((1 + u * (w - 3)).toNat:Int)
    rw [h1] at h2
    exact ⟨by have:=h2.1;omega,by have:=h2.2;omega⟩
  ·rw [decide_eq_false c2] at lt5
   obtain ⟨v,d2,t2,v0,v1,p2⟩:=zb0 p1 (by omega) 20001 (by decide) (by decide)
   obtain ⟨u,d3,t3,u0,u1,p3⟩:=zb0 p2 (by omega) 30 (by decide) (by decide)
   have hb:(1 + u).toNat ≠ 0:=by omega
   have hl:=zsB (v - 10000) (b:=(1 + u).toNat) (n:=15) hb (by omega) (by decide)
   rw [show (((1 + u).toNat:Nat):Int)=1 + u by omega] at hl
   refine ⟨Rat.normalize (v - 10000) (1 + u).toNat hb,d3,?_,?_,p3⟩
   ·have pw:ziY (.int 10) (.int 4)=.ok (.int 10000):=rfl
    have ml:za9 (.int 2) (.int 10000)=.ok (.int 20000):=rfl
    have ad:zbb (.int 20000) (.int 1)=.ok (.int 20001):=rfl
    have ad2:zbb (.int 1) (.int u)=.ok (.int (1 + u)):=rfl
    have sb:zit (.int v) (.int 10000)=.ok (.int (v - 10000)):=rfl
    simp only [zaW,FL.run,List.length_cons,List.length_nil,Nat.reduceAdd,zci,zao,zax,zan,znE,zaU,slots,if_true,Nat.reduceSub,List.replicate,List.cons_append,List.nil_append,List.getElem?_cons_zero,eC,zac,zlr,zls,bkL,bk1,t1,zjm,List.lookup_cons,beq_self_eq_true,gN,List.getElem?_cons_succ,List.set_cons_succ,List.set_cons_zero,sIf,tB,FL.e2,eV,zav,zcz,zaa,zbW,zai,FL.e1,sNx,zae,zit,pw,ml,ad,lt3,Bool.false_eq_true,if_false,lt5,t2,t3,ad2,hl,outs,outD,List.head?_cons]
   ·have h1:=QR.norm (t:=v - 10000) hb
    have h2:=QR.zoi (v - 10000) ((1 + u).toNat:Int)
    rw [h1] at h2
    exact ⟨by have:=h2.1;omega,by have:=h2.2;omega⟩
theorem zqp {d d':D} {p p':Bool}:∀ (ρ:En) (n i:Nat),ρ[i]?=some (.ow p d)->bkL [(n + i,.ow p' d')] n ρ=ρ.set i (.ow p d')
 | [],n,i,h=>by simp at h
 | x :: r,n,0,h=>by
  simp only [List.getElem?_cons_zero,Option.some.injEq] at h
  subst h
  unfold bkL
  rw [List.set_cons_zero]
  congr 1
  ·simp [bk1,List.lookup_cons]
  ·refine zmt r (n + 1) (by omega)
 | x :: r,n,i + 1,h=>by
  unfold bkL
  rw [List.set_cons_succ,show n + (i + 1)=(n + 1) + i by omega,zqp r (n + 1) i (by simpa using h)]
  congr 1
  refine zqr ?_
  rw [List.lookup_cons]
  have:(n == n + 1 + i)=false:=by simp;omega
  rw [this]
  rfl
theorem zj1 {ρ:En} {ip:Nat} {p:Bool} {d:D} {k:Nat} {it:IF} {items:List D} (hi:ρ[ip]?=some (.ow p d)) (hp:zc4 k d) (hit:it ρ=.ok (items,ρ)) (hl:items.length<=100) (hk:k + 3 * items.length<=40000) :
  ∃ (xs:List Rat) (d':D),zaV 1 [ip] it (gN 0) za2 (zan zaW [.m 1]) ρ=.ok (zah xs,ρ.set ip (.ow p d'))/\xs.length=items.length/\(∀ r ∈ xs,QR.Bd 15 r)/\zc4 (k + 3 * items.length) d':=by
 obtain ⟨acc,ρ',ec,el,xs,d',rfl,hx,hp',rfl⟩:=zlb (k:=1) (ix:=[ip]) (g:=gN 0) (t:=za2) (f:=zan zaW [.m 1])
  (fun i acc ρ'=>∃ (xs:List Rat) (d':D),acc=xs.map num/\(∀ r ∈ xs,QR.Bd 15 r)/\zc4 (k + 3 * i) d'/\ρ'=ρ.set ip (.ow p d')) items 0 [] ρ (by show 0 + _<=1000000;omega) rfl ⟨[],d,rfl,by simp,hp,(set_same hi).symm⟩ (by
   rintro x hx i acc ρ' hi' ⟨xs,d1,rfl,hxs,hp1,rfl⟩
   obtain ⟨r,d2,en,rb,hp2⟩:=zoT hp1 (by omega)
   have g1:(ρ.set ip (.ow p d1))[ip]?=some (.ow p d1):=by
    rw [List.getElem?_set_self]
    exact (List.getElem?_eq_some_iff.mp hi).1
   have eb:blk 1 [ip] (ρ.set ip (.ow p d1))=[.no,.ow p d1]:=by
    unfold blk
    rw [List.map_cons,List.map_nil,g1]
    rfl
   refine ⟨[.val x,.ow p d1],num r,[.val x,.ow p d2],by rw [eb];rfl,rfl,zql (i:=1) rfl en,xs ++ [r],d2,by simp,fun z hz=>?_,by rw [show k + 3 * (i + 1)=k + 3 * i + 3 by omega];exact hp2,?_⟩
   ·rcases List.mem_append.mp hz with hz | hz
    ·exact hxs z hz
    ·rw [List.mem_singleton.mp hz];exact rb
   ·show bkL [(ip,.ow p d2)] 0 (ρ.set ip (.ow p d1))=_
    have:=zqp (d':=d2) (p':=p) (ρ.set ip (.ow p d1)) 0 ip g1
    rw [Nat.zero_add] at this
    rw [this,List.set_set])
 refine ⟨xs,d',?_,by simpa using el,hx,by simpa using hp'⟩
 unfold zaV
 rw [hit,zac,ec]
 rfl
theorem znx {n:Nat} (hn:n<=1000):zbs [.int (n:Int)]=.ok (zah (List.replicate n 0)):=by
 refine zdL (ρ:=[.val (.int (n:Int))]) rfl ?_
 show zd2 [.val (.int (n:Int))]=_
 unfold zd2 zcA zeR
 have it:iR1 (zaa (eV 0) zai) [.val (.int (n:Int))]=.ok ((List.range n).map (fun i:Nat=>PyData.int (i:Int)),[.val (.int (n:Int))]):=by
  simp only [iR1,zaa,zai,eV,List.getElem?_cons_zero,zac]
  rw [zcY (by omega) (by omega),zac,zhk,List.map_map]
  simp
 have l2:leB 2 lim=true:=by decide
 rw [zbc (f0:=fun i:Nat=>.int (i:Int)) (xs:=List.range n) (fun _=>num 0) it (by rw [List.length_range];show n<=1000000;omega) fun p mp=>?_]
 ·rw [zac]
  unfold zah
  rw [<- zlX]
  simp [List.map_const']
 ·exact ⟨[.val (.int (p:Int))],rfl,rfl,zba trivial⟩
theorem zkt {c:Rat} {xs:List Rat} {b:Nat} (hc:QR.Bd b c) (hx:∀ x ∈ xs,QR.Bd b x) (hb:b<=40000000) (hl:xs.length<=1000):zbZ [num c,zah xs]=.ok (zah (xs.map fun x=>c * x)):=by
 refine zdL (ρ:=[.val (num c),.val (zah xs)]) rfl ?_
 show zdi [.val (num c),.val (zah xs)]=_
 unfold zdi zcA zdY
 rw [zbc (f0:=num) (xs:=xs) (fun x=>num (c * x)) rfl (by show _<=1000000;omega) fun x mx=>?_]
 ·unfold zah;rw [List.map_map];rfl
 ·refine ⟨[.val (num x),.val (num c)],rfl,?_,zba trivial⟩
  simp only [zae,zaa,eV,List.getElem?_cons_succ,List.getElem?_cons_zero,zai,zac,zsF hc (hx x mx) hb]
theorem znG {xs ys:List Rat} {b:Nat} (hx:∀ x ∈ xs,QR.Bd b x) (hy:∀ y ∈ ys,QR.Bd b y) (hb:b<=40000000) (hl:xs.length<=1000):zcw [zah xs,zah ys]=.ok (zah (List.zipWith (· + ·) xs ys)):=by
 refine zdL (ρ:=[.val (zah xs),.val (zah ys)]) rfl ?_
 show zd3 [.val (zah xs),.val (zah ys)]=_
 unfold zd3 zcA zeS
 rw [zbc (f0:=fun q:Rat × Rat=>.tuple [num q.1,num q.2]) (xs:=xs.zip ys) (fun q=>num (q.1 + q.2)) (by
  rw [<- zwE];rfl) (by rw [List.length_zip];show _<=1000000;omega) fun q mq=>?_]
 ·have:∀ (xs ys:List Rat),(xs.zip ys).map (fun q=>num (q.1 + q.2))=(List.zipWith (· + ·) xs ys).map num:=by
   intro xs
   induction xs with
   | nil=>intro ys;cases ys <;> rfl
   | cons x xs ih=>intro ys;cases ys with
    | nil=>rfl
    | cons y ys=>simp only [List.zip_cons_cons,List.map_cons,List.zipWith_cons_cons,ih]
  rw [this];rfl
 ·obtain ⟨x,y⟩:=q
  obtain ⟨m1,m2⟩:=List.of_mem_zip mq
  refine ⟨[.val (num x),.val (num y)],rfl,?_,zba trivial⟩
  simp only [zae,zaa,eV,List.getElem?_cons_zero,zai,zac,List.getElem?_cons_succ,zjI (hx x m1) (hy y m2) hb]
theorem zp3 (c:Rat) (xs:List Rat) (j:Nat):fq (xs.map fun x=>c * x) j=c * fq xs j:=by
 unfold fq
 rw [List.getD_eq_getElem?_getD,List.getD_eq_getElem?_getD,List.getElem?_map]
 cases xs[j]? with
 | none=>simp only [Option.map_none,Option.getD_none];grind
 | some x=>rfl
theorem zrN {xs ys:List Rat} (h:xs.length=ys.length) (j:Nat):fq (List.zipWith (· + ·) xs ys) j=fq xs j + fq ys j:=by
 unfold fq
 rw [List.getD_eq_getElem?_getD,List.getD_eq_getElem?_getD,List.getD_eq_getElem?_getD,List.getElem?_zipWith]
 by_cases l:j < xs.length
 ·rw [List.getElem?_eq_getElem l,List.getElem?_eq_getElem (h ▸ l)];rfl
 ·rw [List.getElem?_eq_none (by omega),List.getElem?_eq_none (by omega)]
  simp only [Option.getD_none]
  grind
theorem zwc (n j:Nat):fq (List.replicate n 0) j=0:=by
 unfold fq
 rw [List.getD_eq_getElem?_getD,List.getElem?_replicate]
 split <;> rfl
theorem zwd {xs ys:List Rat} {n:Nat} (hx:xs.length=n) (hy:ys.length=n) (h:∀ j,j < n->fq xs j=fq ys j):xs=ys:=by
 apply List.ext_getElem?
 intro j
 by_cases l:j < n
 ·have:=h j l
  unfold fq at this
  rw [List.getD_eq_getElem?_getD,List.getD_eq_getElem?_getD,List.getElem?_eq_getElem (by omega),List.getElem?_eq_getElem (by omega)] at this
  rw [List.getElem?_eq_getElem (by omega),List.getElem?_eq_getElem (by omega)]
  exact congrArg some this
 ·rw [List.getElem?_eq_none (by omega),List.getElem?_eq_none (by omega)]
theorem zfy {c:Rat} {xs:List Rat} {b b':Nat} (hc:QR.Bd b c) (hx:∀ x ∈ xs,QR.Bd b' x):∀ x ∈ xs.map (fun x=>c * x),QR.Bd (b + b') x:=by
 intro x h
 obtain ⟨z,hz,rfl⟩:=List.mem_map.mp h
 exact hc.mul (hx z hz)
theorem zm4 {f:Rat->Rat->Rat}:∀ {xs ys:List Rat} {z:Rat},z ∈ List.zipWith f xs ys->∃ x ∈ xs,∃ y ∈ ys,z=f x y
 | [],ys,z,h=>by cases ys <;> simp at h
 | x :: xs,[],z,h=>by simp at h
 | x :: xs,y :: ys,z,h=>by
  rw [List.zipWith_cons_cons] at h
  rcases List.mem_cons.mp h with rfl | h
  ·exact ⟨x,by simp,y,by simp,rfl⟩
  ·obtain ⟨a,ha,b,hb,e⟩:=zm4 h
   exact ⟨a,.tail _ ha,b,.tail _ hb,e⟩
theorem znz {xs ys:List Rat} {b b':Nat} (hx:∀ x ∈ xs,QR.Bd b x) (hy:∀ x ∈ ys,QR.Bd b' x):∀ x ∈ List.zipWith (· + ·) xs ys,QR.Bd (b + b' + 1) x:=by
 intro z h
 obtain ⟨x,h1,y,h2,rfl⟩:=zm4 h
 exact (hx x h1).add (hy y h2)
def comb (n:Nat) (q:List (Rat × List Rat)):List Rat:=q.foldl (fun t p=>List.zipWith (· + ·) t (p.2.map fun x=>p.1 * x)) (List.replicate n 0)
theorem zg1 (n:Nat) (q:List (Rat × List Rat)) (p:Rat × List Rat):comb n (q ++ [p])=List.zipWith (· + ·) (comb n q) (p.2.map fun x=>p.1 * x):=by
 unfold comb
 rw [List.foldl_append]
 rfl
theorem zf7 {n b b':Nat} (hb:1<=b + b'):∀ (q:List (Rat × List Rat)),(∀ p ∈ q,QR.Bd b p.1/\p.2.length=n/\∀ x ∈ p.2,QR.Bd b' x)->(comb n q).length=n/\(∀ x ∈ comb n q,QR.Bd ((q.length + 1) * (b + b' + 1)) x)/\∀ j,fq (comb n q) j=zby (q.map fun p=>p.1 * fq p.2 j):=by
 have key:∀ (q r:List (Rat × List Rat)),(∀ p ∈ q ++ r,QR.Bd b p.1/\p.2.length=n/\∀ x ∈ p.2,QR.Bd b' x)->((comb n q).length=n/\(∀ x ∈ comb n q,QR.Bd ((q.length + 1) * (b + b' + 1)) x)/\∀ j,fq (comb n q) j=zby (q.map fun p=>p.1 * fq p.2 j))->(comb n (q ++ r)).length=n/\(∀ x ∈ comb n (q ++ r),QR.Bd (((q ++ r).length + 1) * (b + b' + 1)) x)/\∀ j,fq (comb n (q ++ r)) j=zby ((q ++ r).map fun p=>p.1 * fq p.2 j):=by
  intro q r
  induction r generalizing q with
  | nil=>intro _ h;rw [List.append_nil];exact h
  | cons p r ih =>
   intro hp h
   rw [show q ++ p :: r=(q ++ [p]) ++ r by simp]
   obtain ⟨h1,h2,h3⟩:=h
   obtain ⟨k1,k2,k3⟩:=hp p (by simp)
   refine ih (q ++ [p]) (fun z hz=>hp z (by simpa using hz)) ⟨?_,fun x hx=>?_,fun j=>?_⟩
   ·rw [zg1,List.length_zipWith,List.length_map,h1,k2];omega
   ·rw [zg1] at hx
    refine (znz h2 (zfy k1 k3) x hx).mono ?_
    rw [List.length_append,List.length_singleton,Nat.add_mul (q.length + 1) 1,Nat.one_mul]
    exact Nat.le_refl _
   ·rw [zg1,zrN (by rw [List.length_map,h1,k2]),h3,zp3,List.map_append,zju,List.map_cons,List.map_nil,zaR,zen]
    grind
 intro q hq
 have:=key [] q hq ⟨by simp [comb],fun x hx=>?_,fun j=>by rw [List.map_nil,zen];exact zwc n j⟩
 ·simpa using this
 ·have:x=0:=by
   unfold comb at hx
   exact List.eq_of_mem_replicate hx
  rw [this]
  exact (QR.Bd.zero 0).mono (by simp)
theorem zuL:∀ (xs:List Rat) (M:List (List Rat)),ziu (xs.map num) (M.map zah)=(xs.zip M).map fun q=>.tuple [num q.1,zah q.2]
 | [],ys=>by cases ys <;> rfl
 | x :: xs,[]=>rfl
 | x :: xs,y :: ys=>by simp only [List.map_cons,ziu,List.zip_cons_cons,zuL xs ys]
theorem zhU {n b b':Nat} {cs:List Rat} {M:List (List Rat)} (hc:∀ c ∈ cs,QR.Bd b c) (hM:∀ r ∈ M,r.length=n/\∀ x ∈ r,QR.Bd b' x) (hb:1<=b + b') (hn:n<=1000) (hl:(cs.length + 2) * (b + b' + 1)<=40000000) :
  zc6 [zah cs,zad M,.int (n:Int)]=.ok (zah (comb n (cs.zip M))):=by
 have hq:∀ p ∈ cs.zip M,QR.Bd b p.1/\p.2.length=n/\∀ x ∈ p.2,QR.Bd b' x:=fun p hp=>by
  obtain ⟨m1,m2⟩:=List.of_mem_zip (a:=p.1) (b:=p.2) hp
  exact ⟨hc _ m1,hM _ m2⟩
 have s1:zcy 3 (zae zbs (zaa (eV 2) zai)) [.val (zah cs),.val (zad M),.val (.int (n:Int)),.no,.no,.no]=.ok (.nx,[.val (zah cs),.val (zad M),.val (.int (n:Int)),.ow false (zah (comb n [])),.no,.no]):=by
  refine zcK (i:=3) (x:=.no) (y:=(zah (comb n []),[.val (zah cs),.val (zad M),.val (.int (n:Int)),.no,.no,.no])) ?_ rfl za8
  simp only [zae,zaa,zai,eV,List.getElem?_cons_succ,List.getElem?_cons_zero,zac,znx hn]
  rfl
 obtain ⟨ρ',e,y4,y5,g4,g5,rfl⟩:=zbV (f:=fun q:Rat × List Rat=>.tuple [num q.1,zah q.2]) (g:=gT [(gN 4),(gN 5)]) (b:=zbh) (fun done ρ=>∃ y4 y5,Np y4/\Np y5/\ρ=[.val (zah cs),.val (zad M),.val (.int (n:Int)),.ow false (zah (comb n done)),y4,y5]) (cs.zip M) [] _ ⟨.no,.no,za8,za8,rfl⟩ (by
  rintro pre q post ρ heq ⟨y4,y5,g4,g5,rfl⟩
  rw [List.nil_append] at heq
  have mq:q ∈ cs.zip M:=by rw [heq];simp
  have lp:pre.length + 1<=cs.length:=by
   have:=congrArg List.length heq
   rw [List.length_zip,List.length_append,List.length_cons] at this
   omega
  obtain ⟨k1,k2,k3⟩:=hq q mq
  obtain ⟨h1,h2,_⟩:=zf7 hb pre fun p hp=>hq p (by rw [heq];simp [hp])
  have hm:(pre.length + 1) * (b + b' + 1) + (b + b' + 1)<=(cs.length + 2) * (b + b' + 1):=by
   have:=Nat.mul_le_mul_right (b + b' + 1) (show pre.length + 2<=cs.length + 2 by omega)
   rw [show pre.length + 2=(pre.length + 1) + 1 by omega,Nat.add_mul (pre.length + 1) 1] at this
   omega
  have sc:=zkt (b:=b + b') (k1.mono (by omega)) (fun x hx=>(k3 x hx).mono (by omega)) (by omega) (by omega)
  have ad:=znG (b:=(pre.length + 1) * (b + b' + 1)) h2 (fun x hx=>(zfy k1 k3 x hx).mono (by rw [Nat.add_mul];omega)) (by omega) (by omega)
  refine ⟨_,.nx,?_,.inl rfl,.val (num q.1),.val (zah q.2),zaD _,zaD _,rfl⟩
  have e0:gT [(gN 4),(gN 5)] (.tuple [num q.1,zah q.2]) [.val (zah cs),.val (zad M),.val (.int (n:Int)),.ow false (zah (comb n pre)),y4,y5]=.ok [.val (zah cs),.val (zad M),.val (.int (n:Int)),.ow false (zah (comb n pre)),.val (num q.1),.val (zah q.2)]:=by
   show (gN 4 _ _).bind _=_
   rw [zdG (x:=y4) rfl g4,zac]
   show (gN 5 (zah q.2) [.val (zah cs),.val (zad M),.val (.int (n:Int)),.ow false (zah (comb n pre)),.val (num q.1),y5]).bind _=_
   rw [zdG (x:=y5) rfl g5]
   rfl
  rw [e0,zac]
  unfold zbh
  simp only [zqJ,List.getElem?_cons_succ,List.getElem?_cons_zero,zcy,zae,zaa,eV,List.set_cons_succ,List.set_cons_zero,zai,zac,sc,ad]
  rw [zg1])
 refine zdL (ρ:=[.val (zah cs),.val (zad M),.val (.int (n:Int)),.ow false (zah (comb n (cs.zip M))),y4,y5]) rfl ?_
 show zbH [.val (zah cs),.val (zad M),.val (.int (n:Int)),.no,.no,.no]=_
 unfold zbH
 rw [zaj s1]
 have s2:zbg [.val (zah cs),.val (zad M),.val (.int (n:Int)),.ow false (zah (comb n [])),.no,.no]=.ok (.nx,[.val (zah cs),.val (zad M),.val (.int (n:Int)),.ow false (zah (comb n (cs.zip M))),y4,y5]):=by
  unfold zbg zc7
  rw [show zne (zaa (eV 0) (zaa (eV 1) zai)) [.val (zah cs),.val (zad M),.val (.int (n:Int)),.ow false (zah (comb n [])),.no,.no]=.ok (ziu (cs.map num) (M.map zah),[.val (zah cs),.val (zad M),.val (.int (n:Int)),.ow false (zah (comb n [])),.no,.no]) from rfl,zac,zuL]
  simpa using e
 rw [zaj s2]
 rfl
theorem zn3 {r:Rat} {b:Nat} (h:QR.Bd b r) (hb:b<=40000000):zef [num r]=.ok (.bool true):=by
 have k1:zbB "tuple" (num r)=.ok (.bool true):=rfl
 have wh:∀ i:Int,zbp [.int i]=.ok (.bool true):=fun _=>rfl
 have l2:zcd (num r)=.ok (.int 2):=rfl
 have k3:geD (.int (r.den:Int)) (.int 1)=.ok (.bool true):=by
  rw [zuf];congr 2
  have:=r.den_nz
  exact decide_eq_true (by omega)
 have k4:zbo [.int r.num,.int (r.den:Int)]=.ok (num r):=by
  rw [zjJ r.num r.den_nz h.2 (by omega),Q1.zsC (QR.low r)]
  rfl
 have k5:eqD (num r) (num r)=.ok (.bool true):=by
  have:=zsx r r
  unfold neD at this
  unfold eqD
  cases c:(SeqAt.shaped (num r) && SeqAt.shaped (num r)) with
  | false=>rw [c] at this;cases this
  | true =>
   rw [c] at this
   have e:(!PyData.eqv (num r) (num r))=!decide (r=r):=by
    have t2:R.ok (PyData.bool (!PyData.eqv (num r) (num r)))=R.ok (PyData.bool (!decide (r=r))):=this
    injection t2 with t3
    injection t3
   rw [zay rfl]
   simp at e
   rw [e]
 have k6:neD (.int 2) (.int 2)=.ok (.bool false):=by rw [zdc];rfl
 refine zbz (ρ:=[.val (num r)]) rfl ?_
 show zb6 [.val (num r)]=_
 unfold zb6
 have i0:ixD (num r) (.int 0)=.ok (.int r.num):=rfl
 have i1:ixD (num r) (.int 1)=.ok (.int (r.den:Int)):=rfl
 have s1:sIf (FL.tOr (FL.zce (tE (FL.e1 (zbB "tuple") (eV 0)))) (tB (FL.e2 neD (FL.e1 zcd (eV 0)) (eC (.int 2))))) (zav (eC (.bool false))) sNx [.val (num r)]=.ok (.nx,[.val (num r)]):=by
  simp only [sIf,FL.tOr,FL.zce,tE,tB,FL.e1,FL.e2,eV,eC,sNx,zac,List.getElem?_cons_zero,k1,l2,k6,zlS,Bool.not_true,Bool.false_eq_true,if_false,if_true]
 have s2:sIf (FL.tOr (FL.zce (tE (zae zbp (zaa (FL.e2 ixD (eV 0) (eC (.int 0))) zai)))) (FL.zce (tE (zae zbp (zaa (FL.e2 ixD (eV 0) (eC (.int 1))) zai))))) (zav (eC (.bool false))) sNx [.val (num r)]=.ok (.nx,[.val (num r)]):=by
  simp only [sIf,FL.tOr,FL.zce,tE,zae,zaa,zai,FL.e2,eV,eC,sNx,zac,List.getElem?_cons_zero,i0,i1,wh,zlS,Bool.not_true,Bool.false_eq_true,if_false,if_true]
 rw [zaj s1,zaj s2]
 simp only [zav,znq,FL.e2,zae,zaa,zai,eV,eC,zac,List.getElem?_cons_zero,i0,i1,k3,k4,k5]
theorem eq_nil:eqD (.list []) (.list [])=.ok (.bool true):=rfl
theorem zpx {xs:List Rat} {n b:Nat} (hl:xs.length=n) (hx:∀ x ∈ xs,QR.Bd b x) (hb:b<=40000000) (hn:n<=1000):zgF [zah xs,.int (n:Int)]=.ok (.bool true):=by
 have k1:zbB "list" (zah xs)=.ok (.bool true):=rfl
 have k2:neD (.int (n:Int)) (.int (n:Int))=.ok (.bool false):=by rw [zdc];simp
 have q:zcv [.val (zah xs),.val (.int (n:Int))]=.ok (.list [],[.val (zah xs),.val (.int (n:Int))]):=by
  unfold zcv
  rw [zfu (f0:=num) (xs:=xs) (fun _=>false) num rfl (by show _<=1000000;omega) fun x mx=>?_]
  ·simp
  ·refine ⟨[.val (num x)],rfl,?_,(fun c=>by cases c),zba trivial⟩
   simp only [FL.zce,tE,zae,zaa,zai,eV,List.getElem?_cons_zero,zac,zn3 (hx x mx) hb,zlS,Bool.not_true]
 refine zbz (ρ:=[.val (zah xs),.val (.int (n:Int))]) rfl ?_
 show zdj [.val (zah xs),.val (.int (n:Int))]=_
 unfold zdj
 have s1:sIf (FL.tOr (FL.zce (tE (FL.e1 (zbB "list") (eV 0)))) (tB (FL.e2 neD (FL.e1 zcd (eV 0)) (eV 1)))) (zav (eC (.bool false))) sNx [.val (zah xs),.val (.int (n:Int))]=.ok (.nx,[.val (zah xs),.val (.int (n:Int))]):=by
  simp only [sIf,FL.tOr,FL.zce,tE,tB,FL.e1,FL.e2,eV,eC,sNx,zac,List.getElem?_cons_zero,List.getElem?_cons_succ,k1,zxo,hl,k2,zlS,Bool.not_true,Bool.false_eq_true,if_false,if_true]
 rw [zaj s1]
 have l0:leB 0 lim=true:=by decide
 simp only [zav,FL.e2,q,zcz,zai,zac,List.length_nil,zay l0,eq_nil]
end FL
namespace FL
open PySem MD
def zgW (m:Int):SF:=(zc7 (iR1 (zaa (zan zbM [.m 0,.v (eC (.int m))]) zai)) (gN 3) zbm)
def zqG (m:Int):List D->R (D × List D):=FL.run [true,false] true 6 (zao (zcy 2 (zcz zai)) (zao (zgW m) (zhj 2)))
structure Drw (n:Nat) (M:List (List Rat)):Prop where
 row:∀ r ∈ M,r.length=n/\∀ x ∈ r,QR.Bd (15 + 31 * M.length) x
 hd:∀ r,M.head?=some r->∀ x ∈ r,QR.Bd 15 x
theorem Drw.add {n:Nat} {M:List (List Rat)} {r:List Rat} (h:Drw n M) (hl:r.length=n) (hb:∀ x ∈ r,QR.Bd (15 + 31 * (M.length + 1)) x) (h0:M=[]->∀ x ∈ r,QR.Bd 15 x):Drw n (M ++ [r]):=by
 refine ⟨fun q hq=>?_,fun q hq=>?_⟩
 ·rw [List.length_append,List.length_singleton]
  rcases List.mem_append.mp hq with hq | hq
  ·exact ⟨(h.row q hq).1,fun x hx=>((h.row q hq).2 x hx).mono (by omega)⟩
  ·rw [List.mem_singleton.mp hq];exact ⟨hl,hb⟩
 ·cases M with
  | nil =>
   simp only [List.nil_append,List.head?_cons,Option.some.injEq] at hq
   subst hq;exact h0 rfl
  | cons a M=>exact h.hd q hq
theorem zsm {n:Nat} (hn:n<=1000) {i:Nat} {ρ:En} (h:ρ[i]?=some (.val (.int (n:Int)))):iR1 (zaa (eV i) zai) ρ=.ok (rng 0 (n:Int),ρ)/\(rng 0 (n:Int)).length=n:=by
 refine ⟨?_,by rw [zhk];simp⟩
 simp only [iR1,zaa,zai,eV,h,zac]
 rw [zcY (by omega) (by omega)]
 rfl
theorem zpM (a:D) (l:List D):ixD (.list (a :: l)) (.int 0)=.ok a:=by
 show R.of (atI (a :: l) 0)=_
 unfold atI ixN
 rw [if_pos (by decide),if_pos (by rw [List.length_cons];omega)]
 rfl
theorem zp8 {M:List (List Rat)} (h:M ≠ []):∃ r ∈ M,M.head?=some r/\ixD (zad M) (.int 0)=.ok (zah r):=by
 cases M with
 | nil=>exact absurd rfl h
 | cons a M=>exact ⟨a,by simp,rfl,zpM _ _⟩
theorem zrE {M:List (List Rat)} (h:M ≠ []):∃ r ∈ M,ixD (zad M) (.int (-1))=.ok (zah r):=by
 refine ⟨M.getLast h,List.getLast_mem h,?_⟩
 have hl:M.length=M.dropLast.length + 1:=by rw [List.length_dropLast];have:=List.length_pos_iff.mpr h;omega
 show R.of (atI (M.map zah) (-1))=_
 unfold atI ixN
 rw [if_neg (by omega),if_pos (by rw [List.length_map];omega),Option.bind_some,List.length_map,show ((-1:Int) + (M.length:Int)).toNat=M.length - 1 by omega,List.getElem?_map,List.getLast_eq_getElem,List.getElem?_eq_getElem (by omega)]
 rfl
theorem Drw.one {n:Nat} {M:List (List Rat)} {xs:List Rat} (hM:Drw n M) (lx:xs.length=n) (bx:∀ x ∈ xs,QR.Bd 15 x):∃ q,ixD (zad (M ++ [xs])) (.int 0)=.ok (zah q)/\q.length=n/\∀ x ∈ q,QR.Bd 15 x:=by
 cases M with
 | nil=>exact ⟨xs,rfl,lx,bx⟩
 | cons r0 M'=>exact ⟨r0,zpM _ _,(hM.row r0 (by simp)).1,hM.hd r0 rfl⟩
set_option maxHeartbeats 2000000 in
theorem zok {k n:Nat} {d:D} (hp:zc4 k d) (hk:k + 3 * n + 10<=30000) (hn:n<=100) {M:List (List Rat)} (hM:Drw n M) (hl:M.length<=100) {x3 y4 y5:Sl} (g4:Np y4) (g5:Np y5) :
  ∃ r d' z4 z5,Np z4/\Np z5/\zbm [.ow true d,.val (.int (n:Int)),.ow false (zad M),x3,y4,y5]=.ok (.nx,[.ow true d',.val (.int (n:Int)),.ow false (zad (M ++ [r])),x3,z4,z5])/\Drw n (M ++ [r])/\zc4 (k + 3 * n + 5) d':=by
 obtain ⟨w,d1,t1,w0,w6,p1⟩:=zb0 hp (by omega) 6 (by decide) (by decide)
 have s1:zax (gN 4) (zan zbM [.m 0,.v (eC (.int 6))]) [.ow true d,.val (.int (n:Int)),.ow false (zad M),x3,y4,y5]=.ok (.nx,[.ow true d1,.val (.int (n:Int)),.ow false (zad M),x3,.val (.int w),y5]) :=
  zb1 (i:=4) (y:=(.int w,[.ow true d1,.val (.int (n:Int)),.ow false (zad M),x3,y4,y5])) (zdn (p:=true) (d:=d) rfl rfl t1) rfl g4
 obtain ⟨it,il⟩:=zsm (n:=n) (by omega) (i:=1) (ρ:=[.ow true d1,.val (.int (n:Int)),.ow false (zad M),x3,.val (.int w),y5]) rfl
 obtain ⟨xs,d2,eq,lx,bx,p2⟩:=zj1 (ip:=0) (p:=true) (d:=d1) (ρ:=[.ow true d1,.val (.int (n:Int)),.ow false (zad M),x3,.val (.int w),y5]) rfl p1 it (by omega) (by omega)
 rw [il] at lx p2
 have s2:zc8 5 (zcy 5 zcM) [.ow true d1,.val (.int (n:Int)),.ow false (zad M),x3,.val (.int w),y5]=.ok (.nx,[.ow true d2,.val (.int (n:Int)),.ow false (zad M),x3,.val (.int w),.val (zah xs)]):=by
  unfold zc8 zcM
  rw [zcK (i:=5) (x:=y5) eq rfl g5]
  rfl
 have l2:leB 2 lim=true:=by decide
 have l1:leB 1 lim=true:=by decide
 have fin:∀ (r:List Rat) (d':D),zwF 2 zuw (FL.e1 zkO (eV 5)) [.ow true d',.val (.int (n:Int)),.ow false (zad M),x3,.val (.int w),.val (zah r)]=.ok (.nx,[.ow true d',.val (.int (n:Int)),.ow false (zad (M ++ [r])),x3,.val (.int w),.val (zah r)]):=fun r d'=>by
  have ap:zuw (M.map zah) (zah r)=.ok ((M ++ [r]).map zah):=by
   unfold zuw
   rw [zay (zdS (by rw [List.length_map];show _<=1000000;omega)),List.map_append]
   rfl
  show (zuw (M.map zah) (zah r)).bind _=_
  rw [ap]
  rfl
 have main:∀ (r:List Rat) (d':D),sIf (FL.zis (tB (FL.e2 eqD (eV 4) (eC (.int 0)))) (tB (FL.e2 gtD (m1 zcd 2) (eC (.int 1))))) (zax (gN 5) (zae zcw (zaa (zae zbZ (zaa (zan zaW [.m 0]) (zaa (m2 ixD 2 (eC (.int 0))) zai))) (zaa (m2 ixD 2 (FL.e1 zgJ (eC (.int 1)))) zai)))) (sIf (tB (FL.e2 eqD (eV 4) (eC (.int 1)))) (zax (gN 5) (FL.e2 ixD (zcz (zaa (zae zbs (zaa (eV 1) zai)) (zaa (FL.e2 ixD (m2 zbb 2 (zcz (zaa (eV 5) zai))) (eC (.int 0))) zai))) (zan zbM [.m 0,.v (eC (.int 2))]))) sNx) [.ow true d2,.val (.int (n:Int)),.ow false (zad M),x3,.val (.int w),.val (zah xs)]=.ok (.nx,[.ow true d',.val (.int (n:Int)),.ow false (zad M),x3,.val (.int w),.val (zah r)]) ->
   r.length=n->(∀ x ∈ r,QR.Bd (15 + 31 * (M.length + 1)) x)->(M=[]->∀ x ∈ r,QR.Bd 15 x)->zc4 (k + 3 * n + 5) d'->∃ r d' z4 z5,Np z4/\Np z5/\zbm [.ow true d,.val (.int (n:Int)),.ow false (zad M),x3,y4,y5]=.ok (.nx,[.ow true d',.val (.int (n:Int)),.ow false (zad (M ++ [r])),x3,z4,z5])/\Drw n (M ++ [r])/\zc4 (k + 3 * n + 5) d':=fun r d' e h1 h2 h3 h4=>by
  refine ⟨r,d',.val (.int w),.val (zah r),zaD _,zaD _,?_,hM.add h1 h2 h3,h4⟩
  unfold zbm
  rw [zaj s1,zaj s2,zaj e]
  exact fin r d'
 have plain:∀ x ∈ xs,QR.Bd (15 + 31 * (M.length + 1)) x:=fun x hx=>(bx x hx).mono (by omega)
 have e0:eqD (.int w) (.int 0)=.ok (.bool (decide (w=0))):=zbT _ _
 have e1':eqD (.int w) (.int 1)=.ok (.bool (decide (w=1))):=zbT _ _
 have lM:zcd (zad M)=.ok (.int (M.length:Int)):=zvU M
 have gt:gtD (.int (M.length:Int)) (.int 1)=.ok (.bool (decide ((1:Int) < (M.length:Int)))):=zhE _ _
 by_cases c0:w=0
 ·rw [decide_eq_true c0] at e0
  rw [decide_eq_false (show ¬ w=1 by omega)] at e1'
  by_cases cl:(1:Int) < (M.length:Int)
  ·rw [decide_eq_true cl] at gt
   obtain ⟨c,d3,en,cb,p3⟩:=zoT p2 (by omega)
   have ne:M ≠ []:=fun z=>by rw [z] at cl;simp at cl
   obtain ⟨r0,m0,hh,i0⟩:=zp8 ne
   obtain ⟨rl,ml,il⟩:=zrE ne
   have h0:=hM.hd r0 hh
   have hr0:=hM.row r0 m0
   have hl':=hM.row rl ml
   have sc:=zkt (c:=c) (xs:=r0) cb h0 (by decide) (by omega)
   have ad:=znG (xs:=r0.map fun x=>c * x) (ys:=rl) (b:=15 + 31 * M.length + 30) (fun x hx=>(zfy cb h0 x hx).mono (by omega)) (fun x hx=>(hl'.2 x hx).mono (by omega)) (by omega) (by rw [List.length_map];omega)
   refine main _ d3 ?_ ?_ (fun x hx=>(znz (zfy cb h0) hl'.2 x hx).mono (by omega)) (fun z=>absurd z ne) (p3.mono (by omega))
   ·have ng:zgJ (.int 1)=.ok (.int (-1)):=rfl
    have cn:zan zaW [.m 0] [.ow true d2,.val (.int (n:Int)),.ow false (zad M),x3,.val (.int w),.val (zah xs)]=.ok (num c,[.ow true d3,.val (.int (n:Int)),.ow false (zad M),x3,.val (.int w),.val (zah xs)]):=zql (p:=true) (d:=d2) rfl en
    have t1:FL.zis (tB (FL.e2 eqD (eV 4) (eC (.int 0)))) (tB (FL.e2 gtD (m1 zcd 2) (eC (.int 1)))) [.ow true d2,.val (.int (n:Int)),.ow false (zad M),x3,.val (.int w),.val (zah xs)]=.ok (true,[.ow true d2,.val (.int (n:Int)),.ow false (zad M),x3,.val (.int w),.val (zah xs)]):=by
     simp only [FL.zis,tB,FL.e2,m1,zaU,eV,eC,zac,List.getElem?_cons_zero,List.getElem?_cons_succ,e0,lM,gt,if_true]
    unfold sIf
    rw [t1,zac,if_pos rfl]
    refine zb1 (i:=5) (y:=(_,[.ow true d3,.val (.int (n:Int)),.ow false (zad M),x3,.val (.int w),.val (zah xs)])) (x:=.val (zah xs)) ?_ rfl (zaD _)
    simp only [zae,zaa,zai,cn,m2,zaU,FL.e1,eC,zac,List.getElem?_cons_zero,List.getElem?_cons_succ,i0,ng,il,sc,ad]
    rfl
   ·rw [List.length_zipWith,List.length_map,hr0.1,hl'.1];omega
  ·rw [decide_eq_false cl] at gt
   refine main xs d2 ?_ lx plain (fun _=>bx) (p2.mono (by omega))
   have t1:FL.zis (tB (FL.e2 eqD (eV 4) (eC (.int 0)))) (tB (FL.e2 gtD (m1 zcd 2) (eC (.int 1)))) [.ow true d2,.val (.int (n:Int)),.ow false (zad M),x3,.val (.int w),.val (zah xs)]=.ok (false,[.ow true d2,.val (.int (n:Int)),.ow false (zad M),x3,.val (.int w),.val (zah xs)]):=by
    simp only [FL.zis,tB,FL.e2,m1,zaU,eV,eC,zac,List.getElem?_cons_zero,List.getElem?_cons_succ,e0,lM,gt,if_true]
   have t2:tB (FL.e2 eqD (eV 4) (eC (.int 1))) [.ow true d2,.val (.int (n:Int)),.ow false (zad M),x3,.val (.int w),.val (zah xs)]=.ok (false,[.ow true d2,.val (.int (n:Int)),.ow false (zad M),x3,.val (.int w),.val (zah xs)]):=by
    simp only [tB,FL.e2,eV,eC,zac,List.getElem?_cons_zero,List.getElem?_cons_succ,e1']
   unfold sIf
   rw [t1,zac,if_neg (by simp),t2,zac,if_neg (by simp)]
   rfl
 ·rw [decide_eq_false c0] at e0
  have t1:FL.zis (tB (FL.e2 eqD (eV 4) (eC (.int 0)))) (tB (FL.e2 gtD (m1 zcd 2) (eC (.int 1)))) [.ow true d2,.val (.int (n:Int)),.ow false (zad M),x3,.val (.int w),.val (zah xs)]=.ok (false,[.ow true d2,.val (.int (n:Int)),.ow false (zad M),x3,.val (.int w),.val (zah xs)]):=by
   simp only [FL.zis,tB,FL.e2,m1,zaU,eV,eC,zac,List.getElem?_cons_zero,List.getElem?_cons_succ,e0,Bool.false_eq_true,if_false]
  by_cases c1:w=1
  ·rw [decide_eq_true c1] at e1'
   have t2:tB (FL.e2 eqD (eV 4) (eC (.int 1))) [.ow true d2,.val (.int (n:Int)),.ow false (zad M),x3,.val (.int w),.val (zah xs)]=.ok (true,[.ow true d2,.val (.int (n:Int)),.ow false (zad M),x3,.val (.int w),.val (zah xs)]):=by
    simp only [tB,FL.e2,eV,eC,zac,List.getElem?_cons_zero,List.getElem?_cons_succ,e1']
   obtain ⟨v,d3,t3,v0,v2,p3⟩:=zb0 p2 (by omega) 2 (by decide) (by decide)
   have cm:zan zbM [.m 0,.v (eC (.int 2))] [.ow true d2,.val (.int (n:Int)),.ow false (zad M),x3,.val (.int w),.val (zah xs)]=.ok (.int v,[.ow true d3,.val (.int (n:Int)),.ow false (zad M),x3,.val (.int w),.val (zah xs)]):=zdn (p:=true) (d:=d2) rfl rfl t3
   have ad:zbb (zad M) (.list [zah xs])=.ok (zad (M ++ [xs])):=by
    show chk (leB ((M.map zah).length + 1) lim) _=_
    rw [zay (zdS (by rw [List.length_map];show _<=1000000;omega))]
    unfold zad
    rw [List.map_append]
    rfl
   obtain ⟨q,hq,lq,bq⟩:=hM.one lx bx
   have ex:∀ (a b:D),(ixD (.list [a,b]) (.int v))=.ok (if v=0 then a else b):=fun a b=>by
    have:v=0\/v=1:=by omega
    rcases this with z | z <;> subst z <;> rfl
   have ee:FL.e2 ixD (zcz (zaa (zae zbs (zaa (eV 1) zai)) (zaa (FL.e2 ixD (m2 zbb 2 (zcz (zaa (eV 5) zai))) (eC (.int 0))) zai))) (zan zbM [.m 0,.v (eC (.int 2))]) [.ow true d2,.val (.int (n:Int)),.ow false (zad M),x3,.val (.int w),.val (zah xs)]=.ok (if v=0 then zah (List.replicate n 0) else zah q,[.ow true d3,.val (.int (n:Int)),.ow false (zad M),x3,.val (.int w),.val (zah xs)]):=by
    simp only [FL.e2,zcz,zae,zaa,zai,m2,zaU,eV,eC,zac,List.getElem?_cons_zero,List.getElem?_cons_succ,znx (show n<=1000 by omega),List.length_cons,List.length_nil,Nat.reduceAdd,zay l1,zay l2,ad,hq,cm,ex]
   have s3:∀ r,(if v=0 then zah (List.replicate n 0) else zah q)=zah r->sIf (FL.zis (tB (FL.e2 eqD (eV 4) (eC (.int 0)))) (tB (FL.e2 gtD (m1 zcd 2) (eC (.int 1))))) (zax (gN 5) (zae zcw (zaa (zae zbZ (zaa (zan zaW [.m 0]) (zaa (m2 ixD 2 (eC (.int 0))) zai))) (zaa (m2 ixD 2 (FL.e1 zgJ (eC (.int 1)))) zai)))) (sIf (tB (FL.e2 eqD (eV 4) (eC (.int 1)))) (zax (gN 5) (FL.e2 ixD (zcz (zaa (zae zbs (zaa (eV 1) zai)) (zaa (FL.e2 ixD (m2 zbb 2 (zcz (zaa (eV 5) zai))) (eC (.int 0))) zai))) (zan zbM [.m 0,.v (eC (.int 2))]))) sNx) [.ow true d2,.val (.int (n:Int)),.ow false (zad M),x3,.val (.int w),.val (zah xs)]=.ok (.nx,[.ow true d3,.val (.int (n:Int)),.ow false (zad M),x3,.val (.int w),.val (zah r)]):=fun r e=>by
    unfold sIf
    rw [t1,zac,if_neg (by simp),t2,zac,if_pos rfl]
    rw [e] at ee
    exact zb1 (i:=5) (y:=(zah r,[.ow true d3,.val (.int (n:Int)),.ow false (zad M),x3,.val (.int w),.val (zah xs)])) (x:=.val (zah xs)) ee rfl (zaD _)
   by_cases cv:v=0
   ·have z:∀ x ∈ List.replicate n (0:Rat),QR.Bd 15 x:=fun x hx=>by rw [List.eq_of_mem_replicate hx];exact ⟨by decide,by decide⟩
    exact main (List.replicate n 0) d3 (s3 _ (if_pos cv)) (by simp) (fun x hx=>(z x hx).mono (by omega)) (fun _=>z) (p3.mono (by omega))
   ·exact main q d3 (s3 _ (if_neg cv)) lq (fun x hx=>(bq x hx).mono (by omega)) (fun _=>bq) (p3.mono (by omega))
  ·rw [decide_eq_false c1] at e1'
   refine main xs d2 ?_ lx plain (fun _=>bx) (p2.mono (by omega))
   have t2:tB (FL.e2 eqD (eV 4) (eC (.int 1))) [.ow true d2,.val (.int (n:Int)),.ow false (zad M),x3,.val (.int w),.val (zah xs)]=.ok (false,[.ow true d2,.val (.int (n:Int)),.ow false (zad M),x3,.val (.int w),.val (zah xs)]):=by
    simp only [tB,FL.e2,eV,eC,zac,List.getElem?_cons_zero,List.getElem?_cons_succ,e1']
   unfold sIf
   rw [t1,zac,if_neg (by simp),t2,zac,if_neg (by simp)]
   rfl
theorem zrR {k n m:Nat} {d:D} (hp:zc4 k d) (hk:k<=10000) (hn:n<=10) (m1:1<=m) (hm:m<=10):∃ (M:List (List Rat)) (d':D),zqG (m:Int) [d,.int (n:Int)]=.ok (zad M,[d',.int (n:Int)])/\M.length < m/\Drw n M/\zc4 (k + 1 + 35 * 10) d':=by
 obtain ⟨c,d0,t0,c0,c1,p0⟩:=zb0 hp (by omega) (m:Int) (by omega) (by omega)
 have hr:zlY [.int c]=.ok (rng 0 c):=zcY (by omega) (by omega)
 have hlen:(rng 0 c).length=c.toNat:=by rw [zhk];simp
 obtain ⟨ρ',e,M,d',y3,y4,y5,h3,h4,h5,lM,rfl,dr,pp⟩:=zbV (f:=fun x:D=>x) (g:=gN 3) (b:=zbm)
  (fun done ρ=>∃ (M:List (List Rat)) (d':D) (y3 y4 y5:Sl),Np y3/\Np y4/\Np y5/\M.length=done.length/\ρ=[.ow true d',.val (.int (n:Int)),.ow false (zad M),y3,y4,y5]/\Drw n M/\zc4 (k + 1 + 35 * done.length) d')
  (rng 0 c) [] [.ow true d0,.val (.int (n:Int)),.ow false (zad []),.no,.no,.no] ⟨[],d0,.no,.no,.no,za8,za8,za8,rfl,rfl,⟨(fun _ h=>nomatch h),(fun _ h=>nomatch h)⟩,p0⟩ (by
   rintro pre x post ρ heq ⟨M,d1,y3,y4,y5,h3,h4,h5,lM,rfl,dr,pp⟩
   rw [List.nil_append] at heq
   have lp:pre.length + 1<=c.toNat:=by rw [<- hlen,heq];simp
   obtain ⟨r,d2,z4,z5,g4,g5,es,dr',pp'⟩:=zok (x3:=.val x) pp (by omega) (by omega) dr (by omega) h4 h5
   refine ⟨_,.nx,by rw [zdG (x:=y3) rfl h3,zac];exact es,.inl rfl,M ++ [r],d2,.val x,z4,z5,zaD _,g4,g5,by simp [lM],rfl,dr',pp'.mono (by simp;omega)⟩)
 refine ⟨M,d',?_,?_,dr,pp.mono (by simp [hlen];omega)⟩
 ·have s2:zgW (m:Int) [.ow true d,.val (.int (n:Int)),.ow false (zad []),.no,.no,.no]=.ok (.nx,[.ow true d',.val (.int (n:Int)),.ow false (zad M),y3,y4,y5]):=by
   unfold zgW zc7
   have cm:zan zbM [.m 0,.v (eC (.int (m:Int)))] [.ow true d,.val (.int (n:Int)),.ow false (zad []),.no,.no,.no]=.ok (.int c,[.ow true d0,.val (.int (n:Int)),.ow false (zad []),.no,.no,.no]):=zdn (p:=true) (d:=d) rfl rfl t0
   have hi:iR1 (zaa (zan zbM [.m 0,.v (eC (.int (m:Int)))]) zai) [.ow true d,.val (.int (n:Int)),.ow false (zad []),.no,.no,.no]=.ok (rng 0 c,[.ow true d0,.val (.int (n:Int)),.ow false (zad []),.no,.no,.no]):=by
    simp only [iR1,zaa,zai,zac,cm,hr]
   rw [hi,zac]
   simpa using e
  show ((zao (zcy 2 (zcz zai)) (zao (zgW (m:Int)) (zhj 2)) [.ow true d,.val (.int (n:Int)),.no,.no,.no,.no]).bind _)=_
  rw [zaj (show zcy 2 (zcz zai) [.ow true d,.val (.int (n:Int)),.no,.no,.no,.no]=.ok (.nx,[.ow true d,.val (.int (n:Int)),.ow false (zad []),.no,.no,.no]) from rfl),zaj s2]
  rfl
 ·rw [lM]
  simp only [List.nil_append,hlen]
  omega
end FL
namespace FL
open PySem MD
theorem zsu (r:Rat):Pl 1 (num r):=zmU fun d h=>by
 simp only [List.mem_cons,List.not_mem_nil,or_false] at h
 rcases h with rfl | rfl <;> exact ziZ _
theorem zpg (xs:List Rat):Pl 2 (zah xs):=zpe fun d h=>by
 obtain ⟨r,_,rfl⟩:=List.mem_map.mp h
 exact zsu r
theorem zri (M:List (List Rat)):Pl 3 (zad M):=zpe fun d h=>by
 obtain ⟨r,_,rfl⟩:=List.mem_map.mp h
 exact zpg r
theorem zm2 {n:Nat} {a:D} (h:Pl n a) (hn:n<=64:=by decide):neD a a=.ok (.bool false):=by
 rw [zpr h h hn hn,SeqAt.eqv_refl a h.1];rfl
theorem zoK (g:List Rat->Rat):∀ (w:List Rat) (M:List (List Rat)),w.length=M.length->zby ((w.zip M).map fun p=>p.1 * g p.2)=zby ((List.range M.length).map fun k=>fq w k * g (M.getD k []))
 | [],[],_=>rfl
 | [],_ :: _,h=>by simp at h
 | _ :: _,[],h=>by simp at h
 | x :: w,r :: M,h=>by
  have ih:=zoK g w M (by simpa using h)
  rw [List.zip_cons_cons,List.map_cons,zaR,ih,List.length_cons,List.range_succ_eq_map,List.map_cons,List.map_map,zaR]
  rfl
theorem zuq {n b b':Nat} {w:List Rat} {M:List (List Rat)} {y:List Rat} (hb:1<=b + b') (hw:∀ c ∈ w,QR.Bd b c) (hM:∀ r ∈ M,r.length=n/\∀ x ∈ r,QR.Bd b' x) (hy:y.length=n) (hl:w.length=M.length) (h:∀ p,p < n->fq y p=zby ((List.range M.length).map fun k=>fq w k * fq (M.getD k []) p)):comb n (w.zip M)=y:=by
 obtain ⟨h1,_,h3⟩:=zf7 hb (w.zip M) fun p hp=>by
  obtain ⟨m1,m2⟩:=List.of_mem_zip (a:=p.1) (b:=p.2) hp
  exact ⟨hw _ m1,hM _ m2⟩
 refine zwd h1 hy fun j hj=>?_
 rw [h3,h j hj]
 exact zoK (fun r=>fq r j) w M hl
end FL
namespace K03
open PySem FL
def zji:SF:=(zav (znq (e1 (zbB "int") (eV 0)) (zwm (e1 (zbB "bool") (eV 0)))))
def zgc:List D->R D:=zaZ false 1 1 zji
def zcC:SF:=(zhi (zdK 3) (tB (e2 neD (eV 3) (eC (.int 0)))) (ziw 2 3 (eV 3) (e2 zjH (eV 2) (eV 3))))
def zdC:SF:=(zao (ziw 2 3 (e1 zqw (eV 0)) (e1 zqw (eV 1)))
  (zao zcC
  (zav (eV 2))))
def zaB:List D->R D:=zaZ false 2 4 zdC
def zhf:SF:=(sIf (tB (e2 neD (eV 2) (eC (.int 0)))) (zav (eV 1)) sNx)
def zhb:SF:=(zc7 (zuG (zaa (eV 0) zai)) (gT [(gN 1),(gN 2)]) zhf)
def zlm:SF:=(zao zhb
  (zav (eC .none)))
def zlI:List D->R D:=zaZ false 1 3 zlm
def zgv:SF:=(zao (zax (gN 2) (e2 zbb (e2 zbb (e2 za9 (e2 zbb (e2 zjH (eV 0) (e2 zbb (e2 ziY (eC (.int 10)) (eC (.int 18))) (eC (.int 9)))) (e2 za9 (eC (.int 7)) (eV 1))) (eC (.int 739108512309184756019283746561))) (e2 za9 (eC (.int 7919)) (eV 1))) (eC (.int 1))))
  (zao (zax (gN 2) (e2 zjH (e2 za9 (eV 2) (eV 2)) (e2 zbb (e2 ziY (eC (.int 10)) (eC (.int 60))) (eC (.int 7)))))
  (zav (e2 zjH (e2 za9 (e2 zbb (eV 2) (eC (.int 40503))) (e2 zbb (eV 2) (eC (.int 57)))) (e2 zbb (e2 ziY (eC (.int 10)) (eC (.int 60))) (eC (.int 7)))))))
def zei:List D->R D:=zaZ false 2 3 zgv
def zlp:SF:=(zao (sIf (tB (e2 ltD (eV 1) (e1 zcd (eV 0)))) (zav (e2 ixD (eV 0) (eV 1))) sNx)
  (zav (e2 zbb (e2 za9 (eC (.int 3)) (eV 1)) (eC (.int 1)))))
def zfO:List D->R D:=zaZ false 2 2 zlp
def zge:SF:=(zhi (zdK 3) (tB (e2 neD (eV 3) (eC (.int 0)))) (ziw 2 3 (eV 3) (e2 zjH (eV 2) (eV 3))))
def zjk:SF:=(zao (zax (gN 2) (e1 zqw (eV 0)))
  (zao (zax (gN 3) (eV 1))
  (zao zge
  (zav (zbW (zaa (e2 zaF (eV 0) (eV 2)) (zaa (e2 zaF (eV 1) (eV 2)) zai)))))))
def zck:List D->R D:=zaZ false 2 4 zjk
def zea:SF:=(zav (znq (e1 (zbB "int") (eV 0)) (zwm (e1 (zbB "bool") (eV 0)))))
def zcx:List D->R D:=zaZ false 1 1 zea
def zeM:EF:=(zaV 1 [] (iR1 (zaa (eV 0) zai)) (gN 0) za2 (zbW (zaa (eC (.int 0)) (zaa (eC (.int 1)) zai))))
def zgx:SF:=(zcA zeM)
def zej:List D->R D:=zaZ true 1 1 zgx
def zh4:SF:=(zao (sIf (FL.tOr (FL.zce (tE (e1 (zbB "tuple") (eV 0)))) (tB (e2 neD (e1 zcd (eV 0)) (eC (.int 2))))) (zav (eC (.bool false))) sNx)
  (zao (zax (gT [(gN 1),(gN 2)]) (eV 0))
  (zao (sIf (FL.tOr (FL.zce (tE (zae zgc (zaa (eV 1) zai)))) (FL.tOr (FL.zce (tE (zae zgc (zaa (eV 2) zai)))) (tB (e2 ltD (eV 2) (eC (.int 1)))))) (zav (eC (.bool false))) sNx)
  (zav (e2 eqD (zae zaB (zaa (eV 1) (zaa (eV 2) zai))) (eC (.int 1)))))))
def zio:List D->R D:=zaZ false 1 3 zh4
def zjj:SF:=(zao (sIf (tB (e2 eqD (eV 1) (eC (.int 0)))) zlM sNx)
  (zao (zax (gN 2) (zae zaB (zaa (eV 0) (zaa (eV 1) zai))))
  (zao (sIf (tB (e2 ltD (eV 1) (eC (.int 0)))) (zax (gN 2) (e1 zgJ (eV 2))) sNx)
  (zav (zbW (zaa (e2 zaF (eV 0) (eV 2)) (zaa (e2 zaF (eV 1) (eV 2)) zai)))))))
def zex:List D->R D:=zaZ false 2 3 zjj
def zs2:SF:=(zao (zax (gN 2) (zae zaB (zaa (e2 ixD (eV 0) (eC (.int 1))) (zaa (e2 ixD (eV 1) (eC (.int 1))) zai))))
  (zao (ziw 3 4 (e2 zaF (e2 ixD (eV 0) (eC (.int 1))) (eV 2)) (e2 zaF (e2 ixD (eV 1) (eC (.int 1))) (eV 2)))
  (zao (zax (gN 5) (e2 zbb (e2 za9 (e2 ixD (eV 0) (eC (.int 0))) (eV 4)) (e2 za9 (e2 ixD (eV 1) (eC (.int 0))) (eV 3))))
  (zao (zax (gN 6) (zae zaB (zaa (eV 5) (zaa (eV 2) zai))))
  (zav (zbW (zaa (e2 zaF (eV 5) (eV 6)) (zaa (e2 za9 (eV 3) (e2 zaF (e2 ixD (eV 1) (eC (.int 1))) (eV 6))) zai))))))))
def zs8:List D->R D:=zaZ false 2 7 zs2
def zqs:SF:=(zao (ziw 2 3 (zae zaB (zaa (e2 ixD (eV 0) (eC (.int 0))) (zaa (e2 ixD (eV 1) (eC (.int 1))) zai))) (zae zaB (zaa (e2 ixD (eV 1) (eC (.int 0))) (zaa (e2 ixD (eV 0) (eC (.int 1))) zai))))
  (zav (zbW (zaa (e2 za9 (e2 zaF (e2 ixD (eV 0) (eC (.int 0))) (eV 2)) (e2 zaF (e2 ixD (eV 1) (eC (.int 0))) (eV 3))) (zaa (e2 za9 (e2 zaF (e2 ixD (eV 0) (eC (.int 1))) (eV 3)) (e2 zaF (e2 ixD (eV 1) (eC (.int 1))) (eV 2))) zai)))))
def zmH:List D->R D:=zaZ false 2 4 zqs
def zhd:SF:=(zao (zax (gN 1) (zae zaB (zaa (eV 1) (zaa (eV 2) zai))))
  (sIf (tB (e2 eqD (eV 1) (eC (.int 1)))) zu0 sNx))
def zg9:SF:=(zc7 (iE (eV 0)) (gN 2) zhd)
def zhl:EF:=(zaV 1 [1] (iE (eV 0)) (gN 0) za2 (e2 zaF (eV 0) (eV 1)))
def zlk:SF:=(zao (zax (gN 1) (eC (.int 0)))
  (zao zg9
  (zao (sIf (tB (e2 eqD (eV 1) (eC (.int 0)))) (zav (eV 0)) sNx)
  (zav zhl))))
def zil:List D->R D:=zaZ false 1 3 zlk
def zgu:SF:=(zao (sIf (tB (e2 geD (eV 0) (e2 ziY (eC (.int 10)) (eC (.int 18))))) (zcA (zcz (zaa (e2 zit (eV 0) (e2 ziY (eC (.int 10)) (eC (.int 18)))) (zaa (eC (.int 0)) (zaa (eV 1) zai))))) sNx)
  (zcA (zcz (zaa (zae zei (zaa (eV 0) (zaa (eV 1) zai))) (zaa (eC (.int 0)) (zaa (e2 zbb (e2 zjH (eV 0) (e2 zbb (e2 ziY (eC (.int 10)) (eC (.int 18))) (eC (.int 9)))) (eV 1)) zai))))))
def zcI:List D->R D:=zaZ true 2 2 zgu
def zh5:SF:=(zao (sIf (tB (e2 ltD (m2 ixD 0 (eC (.int 0))) (eV 1))) (zao (setM 0 (e2 zbb (m2 ixD 0 (eC (.int 1))) (eC (.int 1))) (eC (.int 1)))
  (setM 0 (e2 zbb (m2 ixD 0 (eC (.int 0))) (e2 za9 (eV 1) (zae zei (zaa (m2 ixD 0 (eC (.int 2))) (zaa (e2 zbb (e2 za9 (eC (.int 11)) (m2 ixD 0 (eC (.int 1)))) (eC (.int 5))) zai))))) (eC (.int 0)))) sNx)
  (zao (zax (gN 2) (e2 zjH (m2 ixD 0 (eC (.int 0))) (eV 1)))
  (zao (setM 0 (e2 zaF (m2 ixD 0 (eC (.int 0))) (eV 1)) (eC (.int 0)))
  (zav (eV 2)))))
def zam:List D->R (D × List D):=run [true,false] false 3 zh5
def zh6:SF:=(zav (zae zck (zaa (e2 zbb (e2 za9 (e2 ixD (eV 0) (eC (.int 0))) (e2 ixD (eV 1) (eC (.int 1)))) (e2 za9 (e2 ixD (eV 1) (eC (.int 0))) (e2 ixD (eV 0) (eC (.int 1))))) (zaa (e2 za9 (e2 ixD (eV 0) (eC (.int 1))) (e2 ixD (eV 1) (eC (.int 1)))) zai))))
def za0:List D->R D:=zaZ false 2 2 zh6
def zlo:SF:=(zav (zae zck (zaa (e2 za9 (e2 ixD (eV 0) (eC (.int 0))) (e2 ixD (eV 1) (eC (.int 0)))) (zaa (e2 za9 (e2 ixD (eV 0) (eC (.int 1))) (e2 ixD (eV 1) (eC (.int 1)))) zai))))
def zir:List D->R D:=zaZ false 2 2 zlo
def zdD:SF:=(zao (sIf (FL.tOr (FL.zce (tE (e1 (zbB "tuple") (eV 0)))) (tB (e2 neD (e1 zcd (eV 0)) (eC (.int 2))))) (zav (eC (.bool false))) sNx)
  (zao (sIf (FL.tOr (FL.zce (tE (zae zcx (zaa (e2 ixD (eV 0) (eC (.int 0))) zai)))) (FL.zce (tE (zae zcx (zaa (e2 ixD (eV 0) (eC (.int 1))) zai))))) (zav (eC (.bool false))) sNx)
  (zav (znq (e2 geD (e2 ixD (eV 0) (eC (.int 1))) (eC (.int 1))) (e2 eqD (zae zck (zaa (e2 ixD (eV 0) (eC (.int 0))) (zaa (e2 ixD (eV 0) (eC (.int 1))) zai))) (eV 0))))))
def zdF:List D->R D:=zaZ false 1 1 zdD
def zs3:SF:=(zao (zax (gT [(gN 2),(gN 3)]) (eV 1))
  (zao (sIf (tB (e2 eqD (eV 2) (eC (.int 0)))) zlM sNx)
  (zav (zae zmH (zaa (eV 0) (zaa (eIf (tB (e2 gtD (eV 2) (eC (.int 0)))) (zbW (zaa (eV 3) (zaa (eV 2) zai))) (zbW (zaa (e1 zgJ (eV 3)) (zaa (e1 zgJ (eV 2)) zai)))) zai))))))
def zs9:List D->R D:=zaZ false 2 4 zs3
def ziW:EF:=(zaV 1 [] (iE (eV 0)) (gN 0) za2 (zae zio (zaa (eV 0) zai)))
def znC:SF:=(zav (znq (e1 (zbB "list") (eV 0)) (e1 zwx ziW)))
def zkm:List D->R D:=zaZ false 1 1 znC
def zhe:SF:=(zax (gN 2) (zae zs8 (zaa (eV 2) (zaa (zae zmH (zaa (eV 3) (zaa (eV 4) zai))) zai))))
def zha:SF:=(zc7 (zne (zaa (eV 0) (zaa (eV 1) zai))) (gT [(gN 3),(gN 4)]) zhe)
def zll:SF:=(zao (zax (gN 2) (eC (.tuple [(.int 0),(.int 1)])))
  (zao zha
  (zav (eV 2))))
def zlH:List D->R D:=zaZ false 2 5 zll
def zfc:SF:=(zax (gN 1) (e2 za9 (e2 zaF (eV 1) (zae zaB (zaa (eV 1) (zaa (e2 ixD (eV 2) (eC (.int 1))) zai)))) (e2 ixD (eV 2) (eC (.int 1)))))
def ze9:SF:=(zc7 (iE (eV 0)) (gN 2) zfc)
def zfe:EF:=(zaV 1 [1] (iE (eV 0)) (gN 0) za2 (e2 za9 (e2 ixD (eV 0) (eC (.int 0))) (e2 zaF (eV 1) (e2 ixD (eV 0) (eC (.int 1))))))
def zh0:SF:=(zao (zax (gN 1) (eC (.int 1)))
  (zao ze9
  (zav (zae zil (zaa zfe zai)))))
def zik:List D->R D:=zaZ false 1 3 zh0
def zho:EF:=(zaV 2 [0,1,2] (zne (zaa (eV 0) (zaa (eV 1) zai))) (gT [(gN 0),(gN 1)]) za2 (e2 zit (e2 za9 (e2 ixD (eV 3) (eV 4)) (eV 0)) (e2 za9 (e2 ixD (eV 2) (eV 4)) (eV 1))))
def zln:SF:=(zao (sIf (tB (e2 eqD (e2 ixD (eV 0) (eV 2)) (eC (.int 0)))) (zav (eV 0)) sNx)
  (zav (zae zil (zaa zho zai))))
def ziq:List D->R D:=zaZ false 3 3 zln
def zeH:SF:=(setM 3 (zae zex (zaa (e1 zgJ (e2 ixD (e2 zgn (eV 0) (eV 4)) (eV 1))) (zaa (e2 ixD (e2 zgn (eV 0) (eV 4)) (eV 4)) zai))) (eV 4))
def zeE:SF:=(zc7 (iD (eV 0)) (gN 4) zeH)
def zgt:SF:=(zao (zcy 3 (zsW (eC (.tuple [(.int 0),(.int 1)])) (eV 2)))
  (zao (setM 3 (eC (.tuple [(.int 1),(.int 1)])) (eV 1))
  (zao zeE
  (zhj 3))))
def zgH:List D->R D:=zaZ true 3 5 zgt
def zfC:SF:=(zao (zax (gN 1) (zan zam [.m 0,.v (eC (.int 6))]))
  (zao (sIf (tB (e2 ltD (eV 1) (eC (.int 3)))) (zav (e2 ixD (zcz (zaa (zbW (zaa (eC (.int 0)) (zaa (eC (.int 1)) zai))) (zaa (zbW (zaa (eC (.int 1)) (zaa (eC (.int 1)) zai))) (zaa (zbW (zaa (e1 zgJ (eC (.int 1))) (zaa (eC (.int 1)) zai))) zai)))) (eV 1))) sNx)
  (zao (sIf (tB (e2 ltD (eV 1) (eC (.int 5)))) (zav (zae zck (zaa (e2 zit (zan zam [.m 0,.v (eC (.int 13))]) (eC (.int 6))) (zaa (e2 zbb (eC (.int 1)) (e2 za9 (zan zam [.m 0,.v (eC (.int 4))]) (e2 zit (eV 1) (eC (.int 3))))) zai)))) sNx)
  (zav (zae zck (zaa (e2 zit (zan zam [.m 0,.v (e2 zbb (e2 za9 (eC (.int 2)) (e2 ziY (eC (.int 10)) (eC (.int 4)))) (eC (.int 1)))]) (e2 ziY (eC (.int 10)) (eC (.int 4)))) (zaa (e2 zbb (eC (.int 1)) (zan zam [.m 0,.v (eC (.int 30))])) zai)))))))
def zbd:List D->R (D × List D):=run [true] false 2 zfC
def zdO:EF:=(zaV 1 [] (iE (eV 0)) (gN 0) (FL.zce (tE (zae zdF (zaa (eV 0) zai)))) (eV 0))
def zfD:SF:=(zao (sIf (FL.tOr (FL.zce (tE (e1 (zbB "list") (eV 0)))) (tB (e2 neD (e1 zcd (eV 0)) (eV 1)))) (zav (eC (.bool false))) sNx)
  (zav (e2 eqD zdO (zcz zai))))
def zaX:List D->R D:=zaZ false 2 2 zfD
def zeN:EF:=(zaV 2 [] (zne (zaa (eV 0) (zaa (eV 1) zai))) (gT [(gN 0),(gN 1)]) za2 (zae za0 (zaa (eV 0) (zaa (eV 1) zai))))
def zgy:SF:=(zcA zeN)
def zek:List D->R D:=zaZ true 2 2 zgy
def zdN:EF:=(zaV 1 [0] (iE (eV 1)) (gN 0) za2 (zae zir (zaa (eV 1) (zaa (eV 0) zai))))
def zfB:SF:=(zcA zdN)
def zdv:List D->R D:=zaZ true 2 2 zfB
def zdx:SF:=(zax (gN 2) (zae za0 (zaa (eV 2) (zaa (zae zir (zaa (eV 3) (zaa (eV 4) zai))) zai))))
def zdw:SF:=(zc7 (zne (zaa (eV 0) (zaa (eV 1) zai))) (gT [(gN 3),(gN 4)]) zdx)
def zeT:SF:=(zao (zax (gN 2) (zbW (zaa (eC (.int 0)) (zaa (eC (.int 1)) zai))))
  (zao zdw
  (zav (eV 2))))
def za1:List D->R D:=zaZ false 2 5 zeT
def zh3:SF:=(zav (znq (zae zkm (zaa (eV 0) zai)) (e2 eqD (e1 zcd (eV 0)) (eV 1))))
def zin:List D->R D:=zaZ false 2 2 zh3
def zcX:SF:=(zax (gN 3) (zae ziq (zaa (eV 3) (zaa (e2 zgn (eV 1) (eV 4)) (zaa (eV 4) zai)))))
def zcV:SF:=(zc7 (iD (eV 1)) (gN 4) zcX)
def zcZ:EF:=(zi9 1 [1,3,5] (iD (eV 1)) (gN 0) za2 (eV 0) (zae ziq (zaa (e2 zgn (eV 1) (eV 0)) (zaa (eV 2) (zaa (eV 3) zai)))))
def zcW:SF:=(zao (zax (gN 3) (zae zik (zaa (eV 2) zai)))
  (zao zcV
  (zao (zax (gN 5) (zae zlI (zaa (eV 3) zai)))
  (sIf (tB (e2 zvK (eV 5) (eC .none))) (zao (zcy 1 zcZ)
  (zc8 1 (zrW 1 (eV 5) (eV 3)))) sNx))))
def zcU:SF:=(zc7 (iE (eV 0)) (gN 2) zcW)
def zd9:SF:=(zao (zcy 1 znp)
  (zao (zqJ 1 zcU)
  (zav (eV 1))))
def zbN:List D->R D:=zaZ false 1 6 zd9
def zeL:EF:=(zaV 1 [0] (iR1 (zaa (eV 1) zai)) (gN 0) za2 (zan zbd [.m 1]))
def zeI:SF:=(zao (zax (gN 4) (zan zam [.m 0,.v (eC (.int 6))]))
  (zao (zc8 5 (zcy 5 zeL))
  (zao (sIf (FL.zis (tB (e2 eqD (eV 4) (eC (.int 0)))) (tB (e2 gtD (m1 zcd 2) (eC (.int 1))))) (zax (gN 5) (zae zek (zaa (zae zdv (zaa (zan zbd [.m 0]) (zaa (m2 ixD 2 (eC (.int 0))) zai))) (zaa (m2 ixD 2 (e1 zgJ (eC (.int 1)))) zai)))) (sIf (tB (e2 eqD (eV 4) (eC (.int 1)))) (zax (gN 5) (e2 ixD (zcz (zaa (zae zej (zaa (eV 1) zai)) (zaa (e2 ixD (m2 zbb 2 (zcz (zaa (eV 5) zai))) (eC (.int 0))) zai))) (zan zam [.m 0,.v (eC (.int 2))]))) sNx))
  (zwF 2 zuw (e1 zkO (eV 5))))))
def zeF:SF:=(zc7 (iR1 (zaa (zan zam [.m 0,.v (eC (.int 6))]) zai)) (gN 3) zeI)
def zgw:SF:=(zao (zcy 2 (zcz zai))
  (zao zeF
  (zhj 2)))
def zcJ:List D->R (D × List D):=run [true,false] true 6 zgw
def zcb:SF:=(zqJ 3 (zcy 3 (zae zek (zaa (eV 3) (zaa (zae zdv (zaa (eV 4) (zaa (eV 5) zai))) zai)))))
def zca:SF:=(zc7 (zne (zaa (eV 0) (zaa (eV 1) zai))) (gT [(gN 4),(gN 5)]) zcb)
def zcG:SF:=(zao (zcy 3 (zae zej (zaa (eV 2) zai)))
  (zao zca
  (zhj 3)))
def zaw:List D->R D:=zaZ true 3 6 zcG
def zdI:SF:=(sIf (FL.zce (tE (zae zin (zaa (eV 3) (zaa (eV 1) zai))))) zlM sNx)
def zdH:SF:=(zc7 (zuG (zaa (eV 0) zai)) (gT [(gN 2),(gN 3)]) zdI)
def zfz:SF:=zdH
def zfM:List D->R D:=zaZ false 2 4 zfz
def zfg:EF:=(zaV 1 [0,1] (iE (e2 zgn (eV 1) (eV 0))) (gN 0) za2 (zae zex (zaa (eV 0) (zaa (e2 ixD (e2 zgn (eV 2) (eV 1)) (eV 1)) zai))))
def zff:EF:=(zaV 1 [1] (iE (e1 ziT (eV 1))) (gN 0) za2 zfg)
def zh2:SF:=(zao (zax (gN 1) (zae zbN (zaa (eV 0) zai)))
  (zcA zff))
def zim:List D->R D:=zaZ true 1 2 zh2
def zeK:EF:=(zaV 1 [0] (iE (eV 1)) (gN 0) za2 (e2 ixD (eV 0) (eV 1)))
def zeJ:EF:=(zaV 1 [0,1] (iR1 (zaa (e1 zcd (eV 1)) zai)) (gN 0) za2 (e2 zbb zeK (zcz (zaa (e2 ixD (eV 2) (eV 0)) zai))))
def zeG:SF:=(setM 4 (zae zex (zaa (e2 ixD (e2 zgn (eV 3) (eV 5)) (e1 zgJ (eC (.int 1)))) (zaa (e2 ixD (e2 zgn (eV 3) (eV 5)) (eV 5)) zai))) (eV 5))
def zeD:SF:=(zc7 (iD (eV 3)) (gN 5) zeG)
def zgs:SF:=(zao (zc8 2 (zcy 2 zeJ))
  (zao (zax (gN 3) (zae zbN (zaa (eV 2) zai)))
  (zao (zcy 4 (zsW (eC (.tuple [(.int 0),(.int 1)])) (e1 zcd (eV 0))))
  (zao zeD
  (zhj 4)))))
def zgG:List D->R D:=zaZ true 2 6 zgs
def zdM:EF:=(zaV 1 [1,2] (iR1 (zaa (eV 1) zai)) (gN 0) (tB (e2 zuE (eV 0) (eV 2))) (zae zgH (zaa (eV 2) (zaa (eV 0) (zaa (eV 1) zai)))))
def zfA:SF:=(zao (zax (gN 2) (zae zbN (zaa (eV 0) zai)))
  (zcA (zae zim (zaa zdM zai))))
def zfN:List D->R D:=zaZ true 2 3 zfA
def ziV:EF:=(zaV 1 [3] (iE (eV 2)) (gN 0) za2 (zae zs9 (zaa (eV 0) (zaa (eV 1) zai))))
def ziR:SF:=(zao (zax (gN 3) (zae zlH (zaa (eV 2) (zaa (eV 1) zai))))
  (sIf (tB (e2 neD (eV 3) (eC (.tuple [(.int 0),(.int 1)])))) (zav (zbW (zaa (eC (.str "apart")) (zaa ziV zai)))) sNx))
def ziP:SF:=(zc7 (iE (zae zfN (zaa (eV 0) (zaa (e1 zcd (eV 1)) zai)))) (gN 2) ziR)
def znB:SF:=(zao (sIf (FL.zce (tE (zae zkm (zaa (eV 1) zai)))) zlM sNx)
  (zao (sE (zae zfM (zaa (eV 0) (zaa (e1 zcd (eV 1)) zai))))
  (zao ziP
  (zav (zbW (zaa (eC (.str "sum")) (zaa (zae zgG (zaa (eV 0) (zaa (eV 1) zai))) zai)))))))
def zfL:List D->R D:=zaZ false 2 4 znB
def zhn:EF:=(zaV 1 [2] (iR1 (zaa (eV 3) zai)) (gN 0) za2 (zan zbd [.m 1]))
def zhm:EF:=(zaV 1 [2] (iE (eV 4)) (gN 0) za2 (zan zbd [.m 1]))
def zfS:EF:=(zaV 1 [] (iE (eV 4)) (gN 0) za2 (e1 zkO (eV 0)))
def zfR:EF:=(zaV 1 [10] (iE (eV 4)) (gN 0) (tB (e2 neD (e2 ixD (zae za1 (zaa (e2 ixD (eV 1) (eC (.int 1))) (zaa (eV 0) zai))) (eC (.int 0))) (eC (.int 0)))) (eV 0))
def zhg:SF:=(zao (zcy 2 (zae zcI (zaa (eV 1) (zaa (eC (.int 3)) zai))))
  (zao (zax (gN 3) (zan zam [.m 2,.v (eC (.int 6))]))
  (zao (zax (gN 4) (zan zcJ [.m 2,.v (eV 3)]))
  (zao (zax (gN 5) (zan zam [.m 2,.v (eC (.int 4))]))
  (zao (zcy 6 zhn)
  (zao (sIf (tB (e2 gtD (eV 5) (eC (.int 0)))) (zcy 6 (zae zaw (zaa zhm (zaa (eV 4) (zaa (eV 3) zai))))) sNx)
  (zao (sIf (FL.zis (tB (e2 eqD (eV 5) (eC (.int 3)))) (tB (e2 gtD (eV 3) (eC (.int 0))))) (zao (zax (gN 7) (zan zam [.m 2,.v (eV 3)]))
  (setM 6 (zae za0 (zaa (m2 ixD 6 (eV 7)) (zaa (zbW (zaa (eC (.int 1)) (zaa (e2 zbb (eC (.int 1)) (zan zam [.m 2,.v (eC (.int 7))])) zai))) zai))) (eV 7))) sNx)
  (zao (zc8 8 (zcy 8 zfS))
  (zao (zax (gN 9) (m1 zkO 6))
  (zao (zax (gN 10) (zae zfL (zaa (eV 8) (zaa (eV 9) zai))))
  (zao (sIf (FL.tOr (tB (e2 neD (eV 8) (eV 4))) (FL.tOr (tB (m2r neD (eV 9) 6)) (FL.tOr (FL.zce (tE (e1 (zbB "tuple") (eV 10)))) (tB (e2 neD (e1 zcd (eV 10)) (eC (.int 2))))))) (zav (eC (.bool false))) sNx)
  (sIf (tB (e2 eqD (e2 ixD (eV 10) (eC (.int 0))) (eC (.str "sum")))) (zc8 6 (sIf (FL.tOr (FL.zce (tE (zae zaX (zaa (e2 ixD (eV 10) (eC (.int 1))) (zaa (e1 zcd (eV 4)) zai))))) (tB (m2r neD (zae zaw (zaa (e2 ixD (eV 10) (eC (.int 1))) (zaa (eV 4) (zaa (eV 3) zai)))) 6))) (zav (eC (.bool false))) sNx)) (zao (sIf (FL.tOr (tB (e2 neD (e2 ixD (eV 10) (eC (.int 0))) (eC (.str "apart")))) (FL.tOr (FL.zce (tE (zae zaX (zaa (e2 ixD (eV 10) (eC (.int 1))) (zaa (eV 3) zai))))) (tB (e2 zuF (eV 5) (zcz (zaa (eC (.int 1)) (zaa (eC (.int 2)) zai))))))) (zav (eC (.bool false))) sNx)
  (zao (sIf (tB (e2 neD zfR (zcz zai))) (zav (eC (.bool false))) sNx)
  (zqJ 6 (sIf (tB (e2 neD (zae za1 (zaa (e2 ixD (eV 10) (eC (.int 1))) (zaa (eV 6) zai))) (zbW (zaa (eC (.int 1)) (zaa (eC (.int 1)) zai))))) (zav (eC (.bool false))) sNx))))))))))))))))
def zjp:SF:=(zc7 (iE (e2 zbb (eSl (eV 0) zrv (zru (eC (.int 3)))) (zcz (zaa (zae zfO (zaa (eV 0) (zaa (eC (.int 3)) zai))) zai)))) (gN 1) zhg)
def zr5:SF:=(zao zjp
  (zav (eC (.bool true))))
def zqH:List D->R D:=zaZ false 1 11 zr5
end K03
namespace K03
open PySem L2 PySem.Spec FL
open PyProof.Rows hiding St
def top (i:Nat):Stmt:=PySem.Challenge.pw_swaprest_k03_sums_or_tests.main.body.getD i (.Pass ⟨0,0,0,0⟩)
variable [Cs]
structure Cst (mg:Str->Option Value) (zbX:Addr) (ziL:Addr):Prop where
  zeq:mg "NOUGHT"=some (.ref zbX)
  v_NOUGHT:∃ o,Cs.C zbX=some (.frz o (.tup [.int 0,.int 1]))
  ztY:mg "ONE"=some (.ref ziL)
  v_ONE:∃ o,Cs.C ziL=some (.frz o (.tup [.int 1,.int 1]))
section
variable {P:Program} {w:World} {K:PySem.W.Frag} {mg:Str->Option Value} {base:Heap}
abbrev zjn:=CT "is_whole" 1 ["one"] 1 false zgc
abbrev zaL:=CT "common_divisor" 1 ["one","other"] 2 false zaB
abbrev zlw:=CT "lead_of" 1 ["whole"] 1 false zlI
abbrev zeb:=CT "_law_mixed" 1 ["_law_cell","_law_k"] 2 false zei
abbrev zly:=CT "_law_at" 1 ["_law_script","_law_k"] 2 false zfO
abbrev zc3:=CT "_law_low" 1 ["_law_top","_law_bottom"] 2 false zck
abbrev zec:=CT "_law_is_whole" 1 ["_law_told"] 1 false zcx
abbrev zed:=CT "_law_blank" 1 ["_law_width"] 1 true zej
abbrev zib:=CT "is_number" 2 ["one"] 1 false zio
abbrev zew:=CT "fraction" 2 ["top","bottom"] 2 false zex
abbrev zs5:=CT "plus" 2 ["one","other"] 2 false zs8
abbrev zmx:=CT "times" 2 ["one","other"] 2 false zmH
abbrev zh8:=CT "thinned" 2 ["wholes"] 1 false zil
abbrev zgB:=CT "_law_purse" 2 ["_law_cell","_law_k"] 2 true zcI
abbrev zdp:=CTM "_law_take" 2 ["_law_purse_here","_law_many"] [true,false] false zam
abbrev zdr:=CT "_law_plus" 2 ["_law_one","_law_other"] 2 false za0
abbrev zic:=CT "_law_by" 2 ["_law_one","_law_other"] 2 false zir
abbrev zdE:=CT "_law_is_number" 2 ["_law_told"] 1 false zdF
abbrev zs6:=CT "over" 3 ["one","other"] 2 false zs9
abbrev zkb:=CT "is_row" 3 ["row"] 1 false zkm
abbrev zlv:=CT "pairing" 3 ["one","other"] 2 false zlH
abbrev zh7:=CT "whole_row" 3 ["row"] 1 false zik
abbrev zlx:=CT "cleared" 3 ["whole","other","place"] 3 false ziq
abbrev zgA:=CT "nought_row" 3 ["held","free","width"] 3 true zgH
abbrev zds:=CTM "_law_number" 3 ["_law_purse_here"] [true] false zbd
abbrev zfH:=CT "_law_is_row" 3 ["_law_told","_law_width"] 2 false zaX
abbrev zee:=CT "_law_added" 3 ["_law_one","_law_other"] 2 true zek
abbrev zdq:=CT "_law_scaled" 3 ["_law_number_here","_law_row"] 2 true zdv
abbrev zeU:=CT "_law_pairing" 3 ["_law_one","_law_other"] 2 false za1
abbrev zia:=CT "is_row_of" 4 ["row","width"] 2 false zin
abbrev zbK:=CT "rows_by_leads" 4 ["rows"] 1 false zbN
abbrev zgC:=CTM "_law_drawn" 4 ["_law_purse_here","_law_width"] [true,false] true zcJ
abbrev zcH:=CT "_law_as_combined" 4 ["_law_weights","_law_rows","_law_width"] 3 true zaw
abbrev zfF:=CT "refuse_rows" 5 ["rows","width"] 2 false zfM
abbrev zh9:=CT "kept_rows" 5 ["rows"] 1 true zim
abbrev zgz:=CT "weights_of" 5 ["rows","row"] 2 true zgG
abbrev zfG:=CT "nought_rows" 6 ["rows","width"] 2 true zfN
abbrev znI:=CT "summed" 7 ["rows","row"] 2 false zfL
variable {zbX:Addr} {ziL:Addr} (B:Blt mg) (C:Cst mg zbX ziL)
include B C
theorem zn9 (h:Has K mg "is_whole" (top 7)):zjn P w K mg base:=fnP ["one"] h fun hr nd=>by
  unfold zji
  exact (zaQ (zkA (zjA zpB B.zaG B.zps Bt.int (zab 0)) (zky (zso (zjA znb B.zaG B.zkM Bt.bool (zab 0))))))
theorem zgK (h:Has K mg "common_divisor" (top 8)):zaL P w K mg base:=fnP ["one","other","high","low"] h fun hr nd=>by
  unfold zdC zcC
  exact (zag (zkx 2 3 nd (zeW zuv B.zn0 Bt.abs (zab 0)) (zeW zuv B.zn0 Bt.abs (zab 1)))
      (zag (zkw (zdK 3) PassesOwn.never (zaI (zlZ hr) (zab 3) zaf) (zaq (zkx 2 3 nd (zab 3) (zas zl5 (zab 2) (zab 3)))))
      (zaQ (zab 2))))
theorem zpI (h:Has K mg "lead_of" (top 21)):zlw P w K mg base:=fnP ["whole","place","one"] h fun hr nd=>by
  unfold zlm zhb zhf
  exact (zag (zcD (zmR rfl B.zcq (a1 (zab 0))) (zdb rfl (zaH (g_n 1 nd) (zaH (g_n 2 nd) zcf))) (zaq (zaN (zaI (zlZ hr) (zab 2) zaf) (zaQ (zab 1)) zaC)))
      (zaQ zsp))
theorem zkW (h:Has K mg "_law_mixed" (top 30)):zeb P w K mg base:=fnP ["_law_cell","_law_k","_law_number_here"] h fun hr nd=>by
  unfold zgv
  exact (zag (zaJ 2 nd (zas zcp (zas zcp (zas zcg (zas zcp (zas zl5 (zab 0) (zas zcp (zas zkH zaf zaf) zaf)) (zas zcg zaf (zab 1))) zaf) (zas zcg zaf (zab 1))) zaf))
      (zag (zaJ 2 nd (zas zl5 (zas zcg (zab 2) (zab 2)) (zas zcp (zas zkH zaf zaf) zaf)))
      (zaQ (zas zl5 (zas zcg (zas zcp (zab 2) zaf) (zas zcp (zab 2) zaf)) (zas zcp (zas zkH zaf zaf) zaf)))))
theorem zpL (h:Has K mg "_law_at" (top 33)):zly P w K mg base:=fnP ["_law_script","_law_k"] h fun hr nd=>by
  unfold zlp
  exact (zag (zaN (zaI (zuD hr) (zab 1) (zeW zgN B.zeX Bt.len (zab 0))) (zaQ (zaz zbk (zab 0) (zab 1))) zaC)
      (zaQ (zas zcp (zas zcg zaf (zab 1)) zaf)))
theorem zob (h:Has K mg "_law_low" (top 34)):zc3 P w K mg base:=fnP ["_law_top","_law_bottom","_law_one","_law_other"] h fun hr nd=>by
  unfold zjk zge
  exact (zag (zaJ 2 nd (zeW zuv B.zn0 Bt.abs (zab 0)))
      (zag (zaJ 3 nd (zab 1))
      (zag (zkw (zdK 3) PassesOwn.never (zaI (zlZ hr) (zab 3) zaf) (zaq (zkx 2 3 nd (zab 3) (zas zl5 (zab 2) (zab 3)))))
      (zaQ (zcm (a2 (zas (zcc hr) (zab 0) (zab 2)) (zas (zcc hr) (zab 1) (zab 2))))))))
theorem zhz (h:Has K mg "_law_is_whole" (top 39)):zec P w K mg base:=fnP ["_law_told"] h fun hr nd=>by
  unfold zea
  exact (zaQ (zkA (zjA zpB B.zaG B.zps Bt.int (zab 0)) (zky (zso (zjA znb B.zaG B.zkM Bt.bool (zab 0))))))
theorem zkY (h:Has K mg "_law_blank" (top 47)):zed P w K mg base:=fnP ["_law_width"] h fun hr nd=>by
  unfold zgx zeM
  exact (zaq (zda (cp ["_law_place"] [] ["_law_place"] (zch rfl B.zdd (a1 (zab 0))) (fun nd=>(g_n 0 nd)) zaS (zcm (a2 zaf zaf)))))
theorem zmg (h:Has K mg "is_number" (top 9)) (c_common_divisor:zaL P w K mg base) (c_is_whole:zjn P w K mg base):zib P w K mg base:=fnP ["one","top","bottom"] h fun hr nd=>by
  unfold zh4
  exact (zag (zaN (PVW.pvt (zdz (zbQ (zbP zfQ (zjA kit_tuple B.zaG B.zfT Bt.tuple (zab 0)))) (zdP (zaI (zlZ hr) (zeW zgN B.zeX Bt.len (zab 0)) zaf)))) (zaQ zhq) zaC)
      (zag (zo2 (zab 0) (zdb rfl (zaH (g_n 1 nd) (zaH (g_n 2 nd) zcf))))
      (zag (zaN (PVW.pvt (zdz (zbQ (zbP zfQ (zaK c_is_whole hr (a1 (zab 1))))) (zdz (zbQ (zbP zfQ (zaK c_is_whole hr (a1 (zab 2))))) (zdP (zaI (zuD hr) (zab 2) zaf))))) (zaQ zhq) zaC)
      (zaQ (zo7 (znS hr) (zaK c_common_divisor hr (a2 (zab 1) (zab 2))) zaf)))))
theorem zoa (h:Has K mg "fraction" (top 10)) (c_common_divisor:zaL P w K mg base):zew P w K mg base:=fnP ["top","bottom","shared"] h fun hr nd=>by
  unfold zjj
  exact (zag (zaN (zaI (znS hr) (zab 1) zaf) (zaq zfj) zaC)
      (zag (zaJ 2 nd (zaK c_common_divisor hr (a2 (zab 0) (zab 1))))
      (zag (zaN (zaI (zuD hr) (zab 1) zaf) (zaq (zaJ 2 nd (zl1 zlR (zab 2)))) zaC)
      (zaQ (zcm (a2 (zas (zcc hr) (zab 0) (zab 2)) (zas (zcc hr) (zab 1) (zab 2))))))))
theorem zv1 (h:Has K mg "plus" (top 11)) (c_common_divisor:zaL P w K mg base):zs5 P w K mg base:=fnP ["one","other","shared","mine","its","top","again"] h fun hr nd=>by
  unfold zs2
  exact (zag (zaJ 2 nd (zaK c_common_divisor hr (a2 (zaz zbk (zab 0) zaf) (zaz zbk (zab 1) zaf))))
      (zag (zkx 3 4 nd (zas (zcc hr) (zaz zbk (zab 0) zaf) (zab 2)) (zas (zcc hr) (zaz zbk (zab 1) zaf) (zab 2)))
      (zag (zaJ 5 nd (zas zcp (zas zcg (zaz zbk (zab 0) zaf) (zab 4)) (zas zcg (zaz zbk (zab 1) zaf) (zab 3))))
      (zag (zaJ 6 nd (zaK c_common_divisor hr (a2 (zab 5) (zab 2))))
      (zaQ (zcm (a2 (zas (zcc hr) (zab 5) (zab 6)) (zas zcg (zab 3) (zas (zcc hr) (zaz zbk (zab 1) zaf) (zab 6))))))))))
theorem zt3 (h:Has K mg "times" (top 12)) (c_common_divisor:zaL P w K mg base):zmx P w K mg base:=fnP ["one","other","mine","its"] h fun hr nd=>by
  unfold zqs
  exact (zag (zkx 2 3 nd (zaK c_common_divisor hr (a2 (zaz zbk (zab 0) zaf) (zaz zbk (zab 1) zaf))) (zaK c_common_divisor hr (a2 (zaz zbk (zab 1) zaf) (zaz zbk (zab 0) zaf))))
      (zaQ (zcm (a2 (zas zcg (zas (zcc hr) (zaz zbk (zab 0) zaf) (zab 2)) (zas (zcc hr) (zaz zbk (zab 1) zaf) (zab 3))) (zas zcg (zas (zcc hr) (zaz zbk (zab 0) zaf) (zab 3)) (zas (zcc hr) (zaz zbk (zab 1) zaf) (zab 2)))))))
theorem zpG (h:Has K mg "thinned" (top 19)) (c_common_divisor:zaL P w K mg base):zh8 P w K mg base:=fnP ["wholes","shared","one"] h fun hr nd=>by
  unfold zlk zhl zg9 zhd
  exact (zag (zaJ 1 nd zaf)
      (zag (zcD (za7 (zab 0)) (g_n 2 nd) (zag (zaJ 1 nd (zaK c_common_divisor hr (a2 (zab 1) (zab 2))))
      (zaq (zaN (zaI (znS hr) (zab 1) zaf) (zaq zo1) zaC))))
      (zag (zaN (zaI (znS hr) (zab 1) zaf) (zaQ (zab 0)) zaC)
      (zaQ (PVN.pv (cp ["one"] [1] ["one","shared"] (za7 (zab 0)) (fun nd=>(g_n 0 nd)) zaS (zas (zcc hr) (zab 0) (zab 1))))))))
theorem zkV (h:Has K mg "_law_purse" (top 31)) (c__law_mixed:zeb P w K mg base):zgB P w K mg base:=fnP ["_law_cell","_law_k"] h fun hr nd=>by
  unfold zgu
  exact (zag (zaN (zaI (zxO hr) (zab 0) (zas zkH zaf zaf)) (zaq (zda (zcl (a3 (zas zpn (zab 0) (zas zkH zaf zaf)) zaf (zab 1))))) zaC)
      (zaq (zda (zcl (a3 (zaK c__law_mixed hr (a2 (zab 0) (zab 1))) zaf (zas zcp (zas zl5 (zab 0) (zas zcp (zas zkH zaf zaf) zaf)) (zab 1)))))))
theorem zmh (h:Has K mg "_law_take" (top 32)) (c__law_mixed:zeb P w K mg base):zdp P w K mg base:=fnM [true,false] ["_law_purse_here","_law_many","_law_got"] h fun hr nd=>by
  unfold zh5
  exact (zag (zaN (zaI (zuD hr) (zix 0 zbk zaf) (zab 1)) (zag (zc9 0 (pv 0) (zas zcp (zix 0 zbk zaf) zaf) zaf)
      (zaq (zc9 0 (pv 0) (zas zcp (zix 0 zbk zaf) (zas zcg (zab 1) (zaK c__law_mixed hr (a2 (zix 0 zbk zaf) (zas zcp (zas zcg zaf (zix 0 zbk zaf)) zaf))))) zaf))) zaC)
      (zag (zaJ 2 nd (zas zl5 (zix 0 zbk zaf) (zab 1)))
      (zag (zc9 0 (pv 0) (zas (zcc hr) (zix 0 zbk zaf) (zab 1)) zaf)
      (zaQ (zab 2)))))
theorem zmi (h:Has K mg "_law_plus" (top 35)) (c__law_low:zc3 P w K mg base):zdr P w K mg base:=fnP ["_law_one","_law_other"] h fun hr nd=>by
  unfold zh6
  exact (zaQ (zaK c__law_low hr (a2 (zas zcp (zas zcg (zaz zbk (zab 0) zaf) (zaz zbk (zab 1) zaf)) (zas zcg (zaz zbk (zab 1) zaf) (zaz zbk (zab 0) zaf))) (zas zcg (zaz zbk (zab 0) zaf) (zaz zbk (zab 1) zaf)))))
theorem zpK (h:Has K mg "_law_by" (top 36)) (c__law_low:zc3 P w K mg base):zic P w K mg base:=fnP ["_law_one","_law_other"] h fun hr nd=>by
  unfold zlo
  exact (zaQ (zaK c__law_low hr (a2 (zas zcg (zaz zbk (zab 0) zaf) (zaz zbk (zab 1) zaf)) (zas zcg (zaz zbk (zab 0) zaf) (zaz zbk (zab 1) zaf)))))
theorem zgL (h:Has K mg "_law_is_number" (top 40)) (c__law_is_whole:zec P w K mg base) (c__law_low:zc3 P w K mg base):zdE P w K mg base:=fnP ["_law_told"] h fun hr nd=>by
  unfold zdD
  exact (zag (zaN (PVW.pvt (zdz (zbQ (zbP zfQ (zjA kit_tuple B.zaG B.zfT Bt.tuple (zab 0)))) (zdP (zaI (zlZ hr) (zeW zgN B.zeX Bt.len (zab 0)) zaf)))) (zaQ zhq) zaC)
      (zag (zaN (PVW.pvt (zdz (zbQ (zbP zfQ (zaK c__law_is_whole hr (a1 (zaz zbk (zab 0) zaf))))) (zdP (zbQ (zbP zfQ (zaK c__law_is_whole hr (a1 (zaz zbk (zab 0) zaf)))))))) (zaQ zhq) zaC)
      (zaQ (zkA (zo7 (zxO hr) (zaz zbk (zab 0) zaf) zaf) (zky (zo7 (znS hr) (zaK c__law_low hr (a2 (zaz zbk (zab 0) zaf) (zaz zbk (zab 0) zaf))) (zab 0)))))))
theorem zv2 (h:Has K mg "over" (top 13)) (c_times:zmx P w K mg base):zs6 P w K mg base:=fnP ["one","other","top","bottom"] h fun hr nd=>by
  unfold zs3
  exact (zag (zo2 (zab 1) (zdb rfl (zaH (g_n 2 nd) (zaH (g_n 3 nd) zcf))))
      (zag (zaN (zaI (znS hr) (zab 2) zaf) (zaq zfj) zaC)
      (zaQ (zaK c_times hr (a2 (zab 0) (zw7 (zaI (zwH hr) (zab 2) zaf) (zcm (a2 (zab 3) (zab 2))) (zcm (a2 (zl1 zlR (zab 3)) (zl1 zlR (zab 2))))))))))
theorem zrI (h:Has K mg "is_row" (top 15)) (c_is_number:zib P w K mg base):zkb P w K mg base:=fnP ["row"] h fun hr nd=>by
  unfold znC ziW
  exact (zaQ (zkA (zjA zna B.zaG B.zgi Bt.list (zab 0)) (zky (zeW (zxD rfl) B.zrz Bt.all (PVN.pv (cp ["one"] [] ["one"] (za7 (zab 0)) (fun nd=>(g_n 0 nd)) zaS (zaK c_is_number hr (a1 (zab 0)))))))))
theorem zpH (h:Has K mg "pairing" (top 18)) (c_plus:zs5 P w K mg base) (c_times:zmx P w K mg base):zlv P w K mg base:=fnP ["one","other","total","mine","its"] h fun hr nd=>by
  unfold zll zha zhe
  exact (zag (zaJ 2 nd (zkz rfl C.zeq C.v_NOUGHT (fun _=>by simp [zak,Fz])))
      (zag (zcD (zhp rfl B.zkL (a2 (zab 0) (zab 1))) (zdb rfl (zaH (g_n 3 nd) (zaH (g_n 4 nd) zcf))) (zaq (zaJ 2 nd (zaK c_plus hr (a2 (zab 2) (zaK c_times hr (a2 (zab 3) (zab 4))))))))
      (zaQ (zab 2))))
theorem zmd (h:Has K mg "whole_row" (top 20)) (c_thinned:zh8 P w K mg base) (c_common_divisor:zaL P w K mg base):zh7 P w K mg base:=fnP ["row","shared","one"] h fun hr nd=>by
  unfold zh0 zfe ze9 zfc
  exact (zag (zaJ 1 nd zaf)
      (zag (zcD (za7 (zab 0)) (g_n 2 nd) (zaq (zaJ 1 nd (zas zcg (zas (zcc hr) (zab 1) (zaK c_common_divisor hr (a2 (zab 1) (zaz zbk (zab 2) zaf)))) (zaz zbk (zab 2) zaf)))))
      (zaQ (zaK c_thinned hr (a1 (PVN.pv (cp ["one"] [1] ["one","shared"] (za7 (zab 0)) (fun nd=>(g_n 0 nd)) zaS (zas zcg (zaz zbk (zab 0) zaf) (zas (zcc hr) (zab 1) (zaz zbk (zab 0) zaf))))))))))
theorem zpJ (h:Has K mg "cleared" (top 22)) (c_thinned:zh8 P w K mg base):zlx P w K mg base:=fnP ["whole","other","place"] h fun hr nd=>by
  unfold zln zho
  exact (zag (zaN (zaI (znS hr) (zaz zbk (zab 0) (zab 2)) zaf) (zaQ (zab 0)) zaC)
      (zaQ (zaK c_thinned hr (a1 (PVN.pv (cp ["mine","its"] [0,1,2] ["mine","its","whole","other","place"] (zhp rfl B.zkL (a2 (zab 0) (zab 1))) (fun nd=>(zdb rfl (zaH (g_n 0 nd) (zaH (g_n 1 nd) zcf)))) zaS (zas zpn (zas zcg (zaz zbk (zab 3) (zab 4)) (zab 0)) (zas zcg (zaz zbk (zab 2) (zab 4)) (zab 1)))))))))
theorem zkU (h:Has K mg "nought_row" (top 25)) (c_fraction:zew P w K mg base):zgA P w K mg base:=fnP ["held","free","width","row","lead"] h fun hr nd=>by
  unfold zgt zeE zeH
  exact (zag (zfi 3 nd (zo3 (zkz rfl C.zeq C.v_NOUGHT (fun _=>by simp [zak,Fz])) (zab 2)))
      (zag (zc9 3 (pv 3) (zkz rfl C.ztY C.v_ONE (fun _=>by simp [zak,Fz])) (zab 1))
      (zag (zcD (zgT (zab 0)) (g_n 4 nd) (zaq (zc9 3 (pv 3) (zaK c_fraction hr (a2 (zl1 zlR (zaz zbk (zaz (zsn hr) (zab 0) (zab 4)) (zab 1))) (zaz zbk (zaz (zsn hr) (zab 0) (zab 4)) (zab 4)))) (zab 4))))
      (zaq (zgS 3 (pv 3))))))
theorem zjT (h:Has K mg "_law_number" (top 38)) (c__law_take:zdp P w K mg base) (c__law_low:zc3 P w K mg base):zds P w K mg base:=fnM [true] ["_law_purse_here","_law_way"] h fun hr nd=>by
  unfold zfC
  exact (zag (zaJ 1 nd (zez c__law_take hr (zlq 0 (zc1 zaf zaT))))
      (zag (zaN (zaI (zuD hr) (zab 1) zaf) (zaQ (zaz zbk (PVN.pv (zcl (a3 (zcm (a2 zaf zaf)) (zcm (a2 zaf zaf)) (zcm (a2 (zl1 zlR zaf) zaf))))) (zab 1))) zaC)
      (zag (zaN (zaI (zuD hr) (zab 1) zaf) (zaQ (zaK c__law_low hr (a2 (zas zpn (zez c__law_take hr (zlq 0 (zc1 zaf zaT))) zaf) (zas zcp zaf (zas zcg (zez c__law_take hr (zlq 0 (zc1 zaf zaT))) (zas zpn (zab 1) zaf)))))) zaC)
      (zaQ (zaK c__law_low hr (a2 (zas zpn (zez c__law_take hr (zlq 0 (zc1 (zas zcp (zas zcg zaf (zas zkH zaf zaf)) zaf) zaT))) (zas zkH zaf zaf)) (zas zcp zaf (zez c__law_take hr (zlq 0 (zc1 zaf zaT))))))))))
theorem zjU (h:Has K mg "_law_is_row" (top 41)) (c__law_is_number:zdE P w K mg base):zfH P w K mg base:=fnP ["_law_told","_law_width"] h fun hr nd=>by
  unfold zfD zdO
  exact (zag (zaN (PVW.pvt (zdz (zbQ (zbP zfQ (zjA zna B.zaG B.zgi Bt.list (zab 0)))) (zdP (zaI (zlZ hr) (zeW zgN B.zeX Bt.len (zab 0)) (zab 1))))) (zaQ zhq) zaC)
      (zaQ (zo7 (znS hr) (PVN.pv (cp ["_law_one"] [] ["_law_one"] (za7 (zab 0)) (fun nd=>(g_n 0 nd)) (zjx (zbQ (zbP zfQ (zaK c__law_is_number hr (a1 (zab 0)))))) (zab 0))) (PVN.pv (zcl zjy)))))
theorem zkZ (h:Has K mg "_law_added" (top 43)) (c__law_plus:zdr P w K mg base):zee P w K mg base:=fnP ["_law_one","_law_other"] h fun hr nd=>by
  unfold zgy zeN
  exact (zaq (zda (cp ["_law_a","_law_b"] [] ["_law_a","_law_b"] (zhp rfl B.zkL (a2 (zab 0) (zab 1))) (fun nd=>(zdb rfl (zaH (g_n 0 nd) (zaH (g_n 1 nd) zcf)))) zaS (zaK c__law_plus hr (a2 (zab 0) (zab 1))))))
theorem zjS (h:Has K mg "_law_scaled" (top 44)) (c__law_by:zic P w K mg base):zdq P w K mg base:=fnP ["_law_number_here","_law_row"] h fun hr nd=>by
  unfold zfB zdN
  exact (zaq (zda (cp ["_law_one"] [0] ["_law_one","_law_number_here"] (za7 (zab 1)) (fun nd=>(g_n 0 nd)) zaS (zaK c__law_by hr (a2 (zab 1) (zab 0))))))
theorem ziI (h:Has K mg "_law_pairing" (top 45)) (c__law_plus:zdr P w K mg base) (c__law_by:zic P w K mg base):zeU P w K mg base:=fnP ["_law_one","_law_other","_law_total","_law_a","_law_b"] h fun hr nd=>by
  unfold zeT zdw zdx
  exact (zag (zaJ 2 nd (zcm (a2 zaf zaf)))
      (zag (zcD (zhp rfl B.zkL (a2 (zab 0) (zab 1))) (zdb rfl (zaH (g_n 3 nd) (zaH (g_n 4 nd) zcf))) (zaq (zaJ 2 nd (zaK c__law_plus hr (a2 (zab 2) (zaK c__law_by hr (a2 (zab 3) (zab 4))))))))
      (zaQ (zab 2))))
theorem zmf (h:Has K mg "is_row_of" (top 16)) (c_is_row:zkb P w K mg base):zia P w K mg base:=fnP ["row","width"] h fun hr nd=>by
  unfold zh3
  exact (zaQ (zkA (zaK c_is_row hr (a1 (zab 0))) (zky (zo7 (znS hr) (zeW zgN B.zeX Bt.len (zab 0)) (zab 1)))))
theorem zhy (h:Has K mg "rows_by_leads" (top 23)) (c_whole_row:zh7 P w K mg base) (c_lead_of:zlw P w K mg base) (c_cleared:zlx P w K mg base):zbK P w K mg base:=fnP ["rows","held","row","whole","place","lead"] h fun hr nd=>by
  unfold zd9 zcU zcW zcZ zcV zcX
  exact (zag (zfi 1 nd zo4)
      (zag (zl0 1 (zcD (za7 (zab 0)) (g_n 2 nd) (zag (zaJ 3 nd (zaK c_whole_row hr (a1 (zab 2))))
      (zag (zcD (zgT (zab 1)) (g_n 4 nd) (zaq (zaJ 3 nd (zaK c_cleared hr (a3 (zab 3) (zaz (zsn hr) (zab 1) (zab 4)) (zab 4))))))
      (zag (zaJ 5 nd (zaK c_lead_of hr (a1 (zab 3))))
      (zaq (zaN (zaI zvI (zab 5) zsp) (zag (zfi 1 nd (dcp ["at"] [1,3,5] ["at","held","whole","lead"] hr (zgT (zab 1)) (fun nd=>(g_n 0 nd)) zaS (zab 0) (zaK c_cleared hr (a3 (zaz (zsn hr) (zab 1) (zab 0)) (zab 2) (zab 3)))))
      (zaq (zfh 1 (zq4 1 (zmJ hr) (pv 1) (zab 3) (zab 5))))) zaC)))))))
      (zaQ (zab 1))))
theorem zkX (h:Has K mg "_law_drawn" (top 49)) (c__law_take:zdp P w K mg base) (c__law_number:zds P w K mg base) (c__law_added:zee P w K mg base) (c__law_scaled:zdq P w K mg base) (c__law_blank:zed P w K mg base):zgC P w K mg base:=fnM [true,false] ["_law_purse_here","_law_width","_law_rows","_law_k","_law_way","_law_row"] h fun hr nd=>by
  unfold zgw zeF zeI zeL
  exact (zag (zfi 2 nd (zcl zjy))
      (zag (zcD (zch rfl B.zdd (a1 (zez c__law_take hr (zlq 0 (zc1 zaf zaT))))) (g_n 3 nd) (zag (zaJ 4 nd (zez c__law_take hr (zlq 0 (zc1 zaf zaT))))
      (zag (zfh 5 (cpS 5 ["_law_place"] [0] ["_law_place","_law_purse_here"] nd (zch rfl B.zdd (a1 (zab 1))) (fun nd=>(g_n 0 nd)) zaS (zez c__law_number hr (zlq 1 zaT))))
      (zag (zaN (PVW.pvt (zoY (zaI (znS hr) (zab 4) zaf) (zmQ (zaI (zwH hr) (zw6 2 zgN B.zeX Bt.len) zaf)))) (zaq (zaJ 5 nd (PVN.pv (zc0 c__law_added hr (a2 (PVN.pv (zc0 c__law_scaled hr (a2 (zez c__law_number hr (zlq 0 zaT)) (zix 2 zbk zaf)))) (zix 2 zbk (zl1 zlR zaf))))))) (zaq (zaN (zaI (znS hr) (zab 4) zaf) (zaq (zaJ 5 nd (zaz zbk (PVN.pv (zcl (a2 (PVN.pv (zc0 c__law_blank hr (a1 (zab 1)))) (zaz zbk (zw5 2 zcp (PVN.pv (zcl (a1 (zab 5))))) zaf)))) (zez c__law_take hr (zlq 0 (zc1 zaf zaT)))))) zaC)))
      (zaq (znT 2 rfl (pv 2) (zvb zqm B.zgi Bt.list (zab 5))))))))
      (zaq (zgS 2 (pv 2)))))
theorem zfr (h:Has K mg "_law_as_combined" (top 50)) (c__law_blank:zed P w K mg base) (c__law_added:zee P w K mg base) (c__law_scaled:zdq P w K mg base):zcH P w K mg base:=fnP ["_law_weights","_law_rows","_law_width","_law_total","_law_number_here","_law_row"] h fun hr nd=>by
  unfold zcG zca zcb
  exact (zag (zfi 3 nd (zc0 c__law_blank hr (a1 (zab 2))))
      (zag (zcD (zhp rfl B.zkL (a2 (zab 0) (zab 1))) (zdb rfl (zaH (g_n 4 nd) (zaH (g_n 5 nd) zcf))) (zaq (zl0 3 (zfi 3 nd (zc0 c__law_added hr (a2 (zab 3) (PVN.pv (zc0 c__law_scaled hr (a2 (zab 4) (zab 5))))))))))
      (zaq (zgS 3 (pv 3)))))
theorem zjQ (h:Has K mg "refuse_rows" (top 17)) (c_is_row_of:zia P w K mg base):zfF P w K mg base:=fnP ["rows","width","place","row"] h fun hr nd=>by
  unfold zfz zdH zdI
  exact (zaq (zcD (zmR rfl B.zcq (a1 (zab 0))) (zdb rfl (zaH (g_n 2 nd) (zaH (g_n 3 nd) zcf))) (zaq (zaN (zbQ (zbP zfQ (zaK c_is_row_of hr (a2 (zab 3) (zab 1))))) (zaq zfj) zaC))))
theorem zme (h:Has K mg "kept_rows" (top 24)) (c_rows_by_leads:zbK P w K mg base) (c_fraction:zew P w K mg base):zh9 P w K mg base:=fnP ["rows","held"] h fun hr nd=>by
  unfold zh2 zff zfg
  exact (zag (zaJ 1 nd (zaK c_rows_by_leads hr (a1 (zab 0))))
      (zaq (zda (cp ["lead"] [1] ["lead","held"] (za7 (zl2 (zmT (zuu rfl) rfl B.zjG Bt.sorted (a1 (zab 1))))) (fun nd=>(g_n 0 nd)) zaS (PVN.pv (cp ["one"] [0,1] ["one","lead","held"] (za7 (zaz (zsn hr) (zab 1) (zab 0))) (fun nd=>(g_n 0 nd)) zaS (zaK c_fraction hr (a2 (zab 0) (zaz zbk (zaz (zsn hr) (zab 2) (zab 1)) (zab 1))))))))))
theorem zkT (h:Has K mg "weights_of" (top 27)) (c_rows_by_leads:zbK P w K mg base) (c_fraction:zew P w K mg base):zgz P w K mg base:=fnP ["rows","row","asked","held","weights","lead"] h fun hr nd=>by
  unfold zgs zeD zeG zeJ zeK
  exact (zag (zfh 2 (cpS 2 ["place"] [0,1] ["place","rows","row"] nd (zch rfl B.zdd (a1 (zeW zgN B.zeX Bt.len (zab 1)))) (fun nd=>(g_n 0 nd)) zaS (zas zcp (PVN.pv (cp ["other"] [0] ["other","place"] (za7 (zab 1)) (fun nd=>(g_n 0 nd)) zaS (zaz zbk (zab 0) (zab 1)))) (PVN.pv (zcl (a1 (zaz zbk (zab 2) (zab 0))))))))
      (zag (zaJ 3 nd (zaK c_rows_by_leads hr (a1 (zab 2))))
      (zag (zfi 4 nd (zo3 (zkz rfl C.zeq C.v_NOUGHT (fun _=>by simp [zak,Fz])) (zeW zgN B.zeX Bt.len (zab 0))))
      (zag (zcD (zgT (zab 3)) (g_n 5 nd) (zaq (zc9 4 (pv 4) (zaK c_fraction hr (a2 (zaz zbk (zaz (zsn hr) (zab 3) (zab 5)) (zl1 zlR zaf)) (zaz zbk (zaz (zsn hr) (zab 3) (zab 5)) (zab 5)))) (zab 5))))
      (zaq (zgS 4 (pv 4)))))))
theorem zjR (h:Has K mg "nought_rows" (top 26)) (c_rows_by_leads:zbK P w K mg base) (c_kept_rows:zh9 P w K mg base) (c_nought_row:zgA P w K mg base):zfG P w K mg base:=fnP ["rows","width","held"] h fun hr nd=>by
  unfold zfA zdM
  exact (zag (zaJ 2 nd (zaK c_rows_by_leads hr (a1 (zab 0))))
      (zaq (zda (zc0 c_kept_rows hr (a1 (PVN.pv (cp ["free"] [1,2] ["free","width","held"] (zch rfl B.zdd (a1 (zab 1))) (fun nd=>(g_n 0 nd)) (zjx (zaI (zu6 hr) (zab 0) (zab 2))) (PVN.pv (zc0 c_nought_row hr (a3 (zab 2) (zab 0) (zab 1)))))))))))
theorem zrH (h:Has K mg "summed" (top 28)) (c_refuse_rows:zfF P w K mg base) (c_nought_rows:zfG P w K mg base) (c_is_row:zkb P w K mg base) (c_pairing:zlv P w K mg base) (c_weights_of:zgz P w K mg base) (c_over:zs6 P w K mg base):znI P w K mg base:=fnP ["rows","row","test","worth"] h fun hr nd=>by
  unfold znB ziP ziR ziV
  exact (zag (zaN (zbQ (zbP zfQ (zaK c_is_row hr (a1 (zab 1))))) (zaq zfj) zaC)
      (zag (zq3 (zaK c_refuse_rows hr (a2 (zab 0) (zeW zgN B.zeX Bt.len (zab 1)))))
      (zag (zcD (za7 (PVN.pv (zc0 c_nought_rows hr (a2 (zab 0) (zeW zgN B.zeX Bt.len (zab 1)))))) (g_n 2 nd) (zag (zaJ 3 nd (zaK c_pairing hr (a2 (zab 2) (zab 1))))
      (zaq (zaN (zaI (zlZ hr) (zab 3) (zkz rfl C.zeq C.v_NOUGHT (fun _=>by simp [zak,Fz]))) (zaQ (zcm (a2 zmS (PVN.pv (cp ["one"] [3] ["one","worth"] (za7 (zab 2)) (fun nd=>(g_n 0 nd)) zaS (zaK c_over hr (a2 (zab 0) (zab 1)))))))) zaC))))
      (zaQ (zcm (a2 zmS (PVN.pv (zc0 c_weights_of hr (a2 (zab 0) (zab 1))))))))))
set_option maxHeartbeats 0 in
theorem zxs {fa:Addr} {fd:FuncData} (h:Fun K "law" "law" (top 51) fa fd) (c__law_purse:zgB P w K mg base) (c__law_take:zdp P w K mg base) (c__law_drawn:zgC P w K mg base) (c_summed:znI P w K mg base) (c__law_at:zly P w K mg base) (c__law_number:zds P w K mg base) (c__law_as_combined:zcH P w K mg base) (c__law_plus:zdr P w K mg base) (c__law_pairing:zeU P w K mg base) (c__law_is_row:zfH P w K mg base):zkl P w K mg base (CXe P w) 8 fa fd ["_law_script"] (spP K 1 false zqH):=by
  have S:zeh ["_law_script","_law_cell","_law_purse_here","_law_width","_law_rows","_law_way","_law_row","_law_at_here","_law_handed","_law_asked","_law_told"] ["_law_script"] (zaA (top 51)):=⟨rfl,rfl,rfl,by decide +kernel,rfl,by decide +kernel,by decide +kernel⟩
  refine zkl.pure (zp6 (List.replicate 1 false) false h S rfl (by decide) fun cdv A outer s H E hr=>?_)
  have nd:=S.nd
  refine zo0 ?_
  unfold zr5 zjp zhg zfR zfS zhm zhn
  exact (zag (zcD (za7 (zas zcp (zra zwX (zab 0) zq6 (zq5 zaf)) (PVN.pv (zcl (a1 (zaK c__law_at hr (a2 (zab 0) zaf))))))) (g_n 1 nd) (zag (zfi 2 nd (zc0 c__law_purse hr (a2 (zab 1) zaf)))
      (zag (zaJ 3 nd (zez c__law_take hr (zlq 2 (zc1 zaf zaT))))
      (zag (zaJ 4 nd (PVN.pv (zu9 c__law_drawn hr (zlq 2 (zc1 (zab 3) zaT)))))
      (zag (zaJ 5 nd (zez c__law_take hr (zlq 2 (zc1 zaf zaT))))
      (zag (cpS 6 ["_law_place"] [2] ["_law_place","_law_purse_here"] nd (zch rfl B.zdd (a1 (zab 3))) (fun nd=>(g_n 0 nd)) zaS (zez c__law_number hr (zlq 1 zaT)))
      (zag (zaN (zaI (zwH hr) (zab 5) zaf) (zaq (zfi 6 nd (zc0 c__law_as_combined hr (a3 (PVN.pv (cp ["_law_one"] [2] ["_law_one","_law_purse_here"] (za7 (zab 4)) (fun nd=>(g_n 0 nd)) zaS (zez c__law_number hr (zlq 1 zaT)))) (zab 4) (zab 3))))) zaC)
      (zag (zaN (PVW.pvt (zoY (zaI (znS hr) (zab 5) zaf) (zmQ (zaI (zwH hr) (zab 3) zaf)))) (zag (zaJ 7 nd (zez c__law_take hr (zlq 2 (zc1 (zab 3) zaT))))
      (zaq (zc9 6 (pv 6) (zaK c__law_plus hr (a2 (zix 6 zbk (zab 7)) (zcm (a2 zaf (zas zcp zaf (zez c__law_take hr (zlq 2 (zc1 zaf zaT)))))))) (zab 7)))) zaC)
      (zag (zfh 8 (cpS 8 ["_law_one"] [] ["_law_one"] nd (za7 (zab 4)) (fun nd=>(g_n 0 nd)) zaS (zvb zqm B.zgi Bt.list (zab 0))))
      (zag (zaJ 9 nd (zw4 6 zqm B.zgi Bt.list))
      (zag (zaJ 10 nd (zaK c_summed hr (a2 (zab 8) (zab 9))))
      (zag (zaN (PVW.pvt (zdz (zaI (zlZ hr) (zab 8) (zab 4)) (zdz (zoZ 6 (zlZ hr) (zab 9)) (zdz (zbQ (zbP zfQ (zjA kit_tuple B.zaG B.zfT Bt.tuple (zab 10)))) (zdP (zaI (zlZ hr) (zeW zgN B.zeX Bt.len (zab 10)) zaf)))))) (zaQ zhq) zaC)
      (zaq (zaN (zaI (znS hr) (zaz zbk (zab 10) zaf) zmS) (zaq (zfh 6 (zaN (PVW.pvt (zdz (zbQ (zbP zfQ (zaK c__law_is_row hr (a2 (zaz zbk (zab 10) zaf) (zeW zgN B.zeX Bt.len (zab 4)))))) (zdP (zoZ 6 (zlZ hr) (PVN.pv (zc0 c__law_as_combined hr (a3 (zaz zbk (zab 10) zaf) (zab 4) (zab 3)))))))) (zaQ zhq) zaC))) (zag (zaN (PVW.pvt (zdz (zaI (zlZ hr) (zaz zbk (zab 10) zaf) zmS) (zdz (zbQ (zbP zfQ (zaK c__law_is_row hr (a2 (zaz zbk (zab 10) zaf) (zab 3))))) (zdP (zaI (zw1 hr) (zab 5) (PVN.pv (zcl (a2 zaf zaf)))))))) (zaQ zhq) zaC)
      (zag (zaN (zaI (zlZ hr) (PVN.pv (cp ["_law_one"] [10] ["_law_one","_law_told"] (za7 (zab 4)) (fun nd=>(g_n 0 nd)) (zjx (zaI (zlZ hr) (zaz zbk (zaK c__law_pairing hr (a2 (zaz zbk (zab 1) zaf) (zab 0))) zaf) zaf)) (zab 0))) (PVN.pv (zcl zjy))) (zaQ zhq) zaC)
      (zaq (zl0 6 (zaN (zaI (zlZ hr) (zaK c__law_pairing hr (a2 (zaz zbk (zab 10) zaf) (zab 6))) (zcm (a2 zaf zaf))) (zaQ zhq) zaC)))))))))))))))))))
      (zaQ zhq))
end
end K03
namespace K03
open PySem L2 PySem.Spec FL
open PyProof.Rows hiding St
theorem all_mk {l:PySem.W.OpenLaw} {w:World} {K:PySem.W.Frag} {h:Heap} {mg:Str->Option Value} {fa:Addr} (X:K.In h) (G:h.Ns mainGlobals mg) (hfa:mg "law"=some (.ref fa))
  {zbX:Addr} {ziL:Addr}
  {ou_NOUGHT:Option Addr} {nn_NOUGHT:Nat} {su_NOUGHT:Array (Option Value)} {k0_NOUGHT k1_NOUGHT:Tok}
  {ou_ONE:Option Addr} {nn_ONE:Nat} {su_ONE:Array (Option Value)} {k0_ONE k1_ONE:Tok}
  (zoq:Has K mg "is_whole" (top 7))
  (zgP:Has K mg "common_divisor" (top 8))
  (zqB:Has K mg "lead_of" (top 21))
  (zlC:Has K mg "_law_mixed" (top 30))
  (zqE:Has K mg "_law_at" (top 33))
  (zos:Has K mg "_law_low" (top 34))
  (zie:Has K mg "_law_is_whole" (top 39))
  (zlE:Has K mg "_law_blank" (top 47))
  (zmC:Has K mg "is_number" (top 9))
  (zor:Has K mg "fraction" (top 10))
  (zwA:Has K mg "plus" (top 11))
  (zuA:Has K mg "times" (top 12))
  (zqz:Has K mg "thinned" (top 19))
  (zlB:Has K mg "_law_purse" (top 31))
  (zmD:Has K mg "_law_take" (top 32))
  (zmE:Has K mg "_law_plus" (top 35))
  (zqD:Has K mg "_law_by" (top 36))
  (zgQ:Has K mg "_law_is_number" (top 40))
  (zwB:Has K mg "over" (top 13))
  (zsg:Has K mg "is_row" (top 15))
  (zqA:Has K mg "pairing" (top 18))
  (zmz:Has K mg "whole_row" (top 20))
  (zqC:Has K mg "cleared" (top 22))
  (zlA:Has K mg "nought_row" (top 25))
  (zkg:Has K mg "_law_number" (top 38))
  (zkh:Has K mg "_law_is_row" (top 41))
  (zlF:Has K mg "_law_added" (top 43))
  (zkf:Has K mg "_law_scaled" (top 44))
  (ziM:Has K mg "_law_pairing" (top 45))
  (zmB:Has K mg "is_row_of" (top 16))
  (zid:Has K mg "rows_by_leads" (top 23))
  (zlD:Has K mg "_law_drawn" (top 49))
  (zfI:Has K mg "_law_as_combined" (top 50))
  (zkd:Has K mg "refuse_rows" (top 17))
  (zmA:Has K mg "kept_rows" (top 24))
  (zlz:Has K mg "weights_of" (top 27))
  (zke:Has K mg "nought_rows" (top 26))
  (zsf:Has K mg "summed" (top 28))
  (zxK:Has K mg "law" (top 51))
  (zeq:PySem.W.nsIn K mainGlobals "NOUGHT"=some (some (.ref zbX)))
  (zrF:K.lookup zbX=some ⟨.type "tuple",ou_NOUGHT,.seq #[.int 0 k0_NOUGHT,.int 1 k1_NOUGHT] nn_NOUGHT,su_NOUGHT⟩)
  (ztY:PySem.W.nsIn K mainGlobals "ONE"=some (some (.ref ziL)))
  (zxq:K.lookup ziL=some ⟨.type "tuple",ou_ONE,.seq #[.int 1 k0_ONE,.int 1 k1_ONE] nn_ONE,su_ONE⟩)
  (zn0:PySem.W.nsIn K mainGlobals "abs"=some none)
  (zaG:PySem.W.nsIn K mainGlobals "isinstance"=some none)
  (zps:PySem.W.nsIn K mainGlobals "int"=some none)
  (zkM:PySem.W.nsIn K mainGlobals "bool"=some none)
  (zfT:PySem.W.nsIn K mainGlobals "tuple"=some none)
  (zgi:PySem.W.nsIn K mainGlobals "list"=some none)
  (zvO:PySem.W.nsIn K mainGlobals "str"=some none)
  (zeX:PySem.W.nsIn K mainGlobals "len"=some none)
  (zrz:PySem.W.nsIn K mainGlobals "all"=some none)
  (zdd:PySem.W.nsIn K mainGlobals "range"=some none)
  (zkL:PySem.W.nsIn K mainGlobals "zip"=some none)
  (zcq:PySem.W.nsIn K mainGlobals "enumerate"=some none)
  (zvQ:PySem.W.nsIn K mainGlobals "max"=some none)
  (zvP:PySem.W.nsIn K mainGlobals "min"=some none)
  (zvN:PySem.W.nsIn K mainGlobals "sum"=some none)
  (zjG:PySem.W.nsIn K mainGlobals "sorted"=some none)
  (zsy:PySem.W.nsIn K mainGlobals "dict"=some none)
  (zvR:PySem.W.nsIn K mainGlobals "any"=some none) :
  ∃ (cl:CL) (fd:FuncData),zlK cl K/\(∀ (s:Shared) (v:Value),BindsTo s fd ⟨[v],[]⟩ [("_law_script",v)])/\∀ base:Heap,(zfP (cl.map (·.1)) K).In base->base.Ns mainGlobals mg->zkl l.prog w (zfP (cl.map (·.1)) K) mg base (CXe l.prog w) 8 fa fd ["_law_script"] (@spP (zuI cl) (zfP (cl.map (·.1)) K) 1 false zqH):=by
 obtain ⟨f,fd,hm,Fl⟩:=id zxK
 have e:=hfa.symm.trans hm
 cases e
 obtain ⟨oc,od,kV,dc,pm,an,cd,ct,sl,rfl,lk,hcd⟩:=id Fl.ex
 have hC:zlK [(zbX,⟨.type "tuple",ou_NOUGHT,.seq #[.int 0 k0_NOUGHT,.int 1 k1_NOUGHT] nn_NOUGHT,su_NOUGHT⟩,[.int 0,.int 1]),(ziL,⟨.type "tuple",ou_ONE,.seq #[.int 1 k0_ONE,.int 1 k1_ONE] nn_ONE,su_ONE⟩,[.int 1,.int 1])] K:=(zlK.cons zrF (.cons ⟨_,rfl⟩ (.cons ⟨_,rfl⟩ (.nil))) (by decide) (zlK.cons zxq (.cons ⟨_,rfl⟩ (.cons ⟨_,rfl⟩ (.nil))) (by decide) zlK.nil))
 refine ⟨_,PySem.W.fnOf "law" "law" (zdl (top 51)) (zbI (top 51)) (zaA (top 51)) .none kV dc pm an cd ct,hC,fun s v=>.of_eq rfl,fun base _ _=>?_⟩
 have B:Blt mg:=⟨PySem.W.mg_none_of X G zn0,PySem.W.mg_none_of X G zaG,PySem.W.mg_none_of X G zps,PySem.W.mg_none_of X G zkM,PySem.W.mg_none_of X G zfT,PySem.W.mg_none_of X G zgi,PySem.W.mg_none_of X G zvO,PySem.W.mg_none_of X G zeX,PySem.W.mg_none_of X G zrz,PySem.W.mg_none_of X G zdd,PySem.W.mg_none_of X G zkL,PySem.W.mg_none_of X G zcq,PySem.W.mg_none_of X G zvQ,PySem.W.mg_none_of X G zvP,PySem.W.mg_none_of X G zvN,PySem.W.mg_none_of X G zjG,PySem.W.mg_none_of X G zsy,PySem.W.mg_none_of X G zvR⟩
 letI:Cs:=zuI [(zbX,⟨.type "tuple",ou_NOUGHT,.seq #[.int 0 k0_NOUGHT,.int 1 k1_NOUGHT] nn_NOUGHT,su_NOUGHT⟩,[.int 0,.int 1]),(ziL,⟨.type "tuple",ou_ONE,.seq #[.int 1 k0_ONE,.int 1 k1_ONE] nn_ONE,su_ONE⟩,[.int 1,.int 1])]
 have C:Cst mg zbX ziL:=⟨PySem.W.mg_of X G zeq,zsQ hC (List.Mem.head _),PySem.W.mg_of X G ztY,zsQ hC (List.Mem.tail _ (List.Mem.head _))⟩
 have d_is_whole:=zn9 (P:=l.prog) (w:=w) (base:=base) B C (zoq.cut hC.seqs)
 have d_common_divisor:=zgK (P:=l.prog) (w:=w) (base:=base) B C (zgP.cut hC.seqs)
 have d_lead_of:=zpI (P:=l.prog) (w:=w) (base:=base) B C (zqB.cut hC.seqs)
 have d__law_mixed:=zkW (P:=l.prog) (w:=w) (base:=base) B C (zlC.cut hC.seqs)
 have d__law_at:=zpL (P:=l.prog) (w:=w) (base:=base) B C (zqE.cut hC.seqs)
 have d__law_low:=zob (P:=l.prog) (w:=w) (base:=base) B C (zos.cut hC.seqs)
 have d__law_is_whole:=zhz (P:=l.prog) (w:=w) (base:=base) B C (zie.cut hC.seqs)
 have d__law_blank:=zkY (P:=l.prog) (w:=w) (base:=base) B C (zlE.cut hC.seqs)
 have d_is_number:=zmg (P:=l.prog) (w:=w) (base:=base) B C (zmC.cut hC.seqs) d_common_divisor d_is_whole
 have d_fraction:=zoa (P:=l.prog) (w:=w) (base:=base) B C (zor.cut hC.seqs) d_common_divisor
 have d_plus:=zv1 (P:=l.prog) (w:=w) (base:=base) B C (zwA.cut hC.seqs) d_common_divisor
 have d_times:=zt3 (P:=l.prog) (w:=w) (base:=base) B C (zuA.cut hC.seqs) d_common_divisor
 have d_thinned:=zpG (P:=l.prog) (w:=w) (base:=base) B C (zqz.cut hC.seqs) d_common_divisor
 have d__law_purse:=zkV (P:=l.prog) (w:=w) (base:=base) B C (zlB.cut hC.seqs) d__law_mixed
 have d__law_take:=zmh (P:=l.prog) (w:=w) (base:=base) B C (zmD.cut hC.seqs) d__law_mixed
 have d__law_plus:=zmi (P:=l.prog) (w:=w) (base:=base) B C (zmE.cut hC.seqs) d__law_low
 have d__law_by:=zpK (P:=l.prog) (w:=w) (base:=base) B C (zqD.cut hC.seqs) d__law_low
 have d__law_is_number:=zgL (P:=l.prog) (w:=w) (base:=base) B C (zgQ.cut hC.seqs) d__law_is_whole d__law_low
 have d_over:=zv2 (P:=l.prog) (w:=w) (base:=base) B C (zwB.cut hC.seqs) d_times
 have d_is_row:=zrI (P:=l.prog) (w:=w) (base:=base) B C (zsg.cut hC.seqs) d_is_number
 have d_pairing:=zpH (P:=l.prog) (w:=w) (base:=base) B C (zqA.cut hC.seqs) d_plus d_times
 have d_whole_row:=zmd (P:=l.prog) (w:=w) (base:=base) B C (zmz.cut hC.seqs) d_thinned d_common_divisor
 have d_cleared:=zpJ (P:=l.prog) (w:=w) (base:=base) B C (zqC.cut hC.seqs) d_thinned
 have d_nought_row:=zkU (P:=l.prog) (w:=w) (base:=base) B C (zlA.cut hC.seqs) d_fraction
 have d__law_number:=zjT (P:=l.prog) (w:=w) (base:=base) B C (zkg.cut hC.seqs) d__law_take d__law_low
 have d__law_is_row:=zjU (P:=l.prog) (w:=w) (base:=base) B C (zkh.cut hC.seqs) d__law_is_number
 have d__law_added:=zkZ (P:=l.prog) (w:=w) (base:=base) B C (zlF.cut hC.seqs) d__law_plus
 have d__law_scaled:=zjS (P:=l.prog) (w:=w) (base:=base) B C (zkf.cut hC.seqs) d__law_by
 have d__law_pairing:=ziI (P:=l.prog) (w:=w) (base:=base) B C (ziM.cut hC.seqs) d__law_plus d__law_by
 have d_is_row_of:=zmf (P:=l.prog) (w:=w) (base:=base) B C (zmB.cut hC.seqs) d_is_row
 have d_rows_by_leads:=zhy (P:=l.prog) (w:=w) (base:=base) B C (zid.cut hC.seqs) d_whole_row d_lead_of d_cleared
 have d__law_drawn:=zkX (P:=l.prog) (w:=w) (base:=base) B C (zlD.cut hC.seqs) d__law_take d__law_number d__law_added d__law_scaled d__law_blank
 have d__law_as_combined:=zfr (P:=l.prog) (w:=w) (base:=base) B C (zfI.cut hC.seqs) d__law_blank d__law_added d__law_scaled
 have d_refuse_rows:=zjQ (P:=l.prog) (w:=w) (base:=base) B C (zkd.cut hC.seqs) d_is_row_of
 have d_kept_rows:=zme (P:=l.prog) (w:=w) (base:=base) B C (zmA.cut hC.seqs) d_rows_by_leads d_fraction
 have d_weights_of:=zkT (P:=l.prog) (w:=w) (base:=base) B C (zlz.cut hC.seqs) d_rows_by_leads d_fraction
 have d_nought_rows:=zjR (P:=l.prog) (w:=w) (base:=base) B C (zke.cut hC.seqs) d_rows_by_leads d_kept_rows d_nought_row
 have d_summed:=zrH (P:=l.prog) (w:=w) (base:=base) B C (zsf.cut hC.seqs) d_refuse_rows d_nought_rows d_is_row d_pairing d_weights_of d_over
 have d_law:=zxs (P:=l.prog) (w:=w) (base:=base) B C (Fun.cut hC.seqs Fl) d__law_purse d__law_take d__law_drawn d_summed d__law_at d__law_number d__law_as_combined d__law_plus d__law_pairing d__law_is_row
 exact d_law
theorem walk {l:PySem.W.OpenLaw} {q:Program} {loose:List Str} {XP:(Str->Option Value)->Heap->Prop} {YP:World->Heap->Prop} {d:DefRec} {K:Params->PySem.W.Frag} (hlaw:∀ ns:List Int,ns.length<=63->zqH [.list (ns.map PyData.int)]=.ok (.bool true)) (hn:l.most=some 63) (hdf:d.params.defaults=[]) (hi:importsNone q=true) (htr:l.prog.given.tree=none)
  (hY:∀ (w:World) (h:Heap),YP w h->(K w.params).In h)
  (F:∀ (w:World) (mg:Str->Option Value) (fa:Addr) (h:Heap),(K w.params).In h->h.Ns mainGlobals mg->mg d.name=some (.ref fa) ->
   ∃ (cl:CL) (fd:FuncData),zlK cl (K w.params)/\(∀ (s:Shared) (u:Value),BindsTo s fd ⟨[u],[]⟩ [("_law_script",u)])/\∀ base:Heap,(zfP (cl.map (·.1)) (K w.params)).In base->base.Ns mainGlobals mg->zkl l.prog w (zfP (cl.map (·.1)) (K w.params)) mg base (CXe l.prog w) 8 fa fd ["_law_script"] (@spP (zuI cl) (zfP (cl.map (·.1)) (K w.params)) 1 false zqH)) :
  PySem.W.WalkO q loose XP YP l.row.toRowW d [] (fun f vs=>PySem.call f vs) :=
 zqR (k:=8) (x:="_law_script") hlaw hn hdf hi htr ⟨rfl,by decide,by decide,rfl⟩ hY F
end K03
namespace K03
open PySem FL MD
theorem zoH:zam=zbM:=rfl
theorem zrd:zcI=zkj:=rfl
theorem zxG:zfO=zwN:=rfl
theorem zrS:zcJ=zqG ((6:Nat):Int):=rfl
theorem zkI:zbd=zaW:=rfl
theorem zhV:zaw=zc6:=rfl
theorem zoJ:zfL=znJ:=rfl
theorem zi0:za1=zfK:=rfl
theorem znd:zaX=zgF:=rfl
theorem zl3:za0=zc5:=rfl
abbrev E (a0 a1 a2 a3 a4 a5 a6 a7 a8 a9 a10:Sl):En:=[a0,a1,a2,a3,a4,a5,a6,a7,a8,a9,a10]
structure Yk (n:Nat) (M:List (List Rat)) (way:Int) (y:List Rat):Prop where
  len:y.length=n
  bd:∀ x ∈ y,QR.Bd 1130 x
  cmb:way=1\/way=2->∃ q:List (Rat × List Rat),(∀ p ∈ q,p.2 ∈ M)/\∀ j,fq y j=zby (q.map fun p=>p.1 * fq p.2 j)
theorem zqU {n:Nat} {M:List (List Rat)} {way:Int} {y t:List Rat} (Y:Yk n M way y) (h:∀ r ∈ M,ip n (fq t) (fq r)=0) (h1:ip n (fq t) (fq y)=1):¬ (way=1\/way=2):=fun c=>by
  obtain ⟨q,hq,e⟩:=Y.cmb c
  rw [zjW (v:=fun j=>zby (q.map fun p=>p.1 * fq p.2 j)) fun j _=>e j,zsP] at h1
  rw [zbl fun p hp=>by rw [h _ (hq p hp)];grind] at h1
  exact absurd h1 (by decide)
set_option maxHeartbeats 4000000 in
theorem zu2 {n:Nat} {M:List (List Rat)} {way:Int} {S c:Sl} {d:D} {k:Nat} (hp:zc4 k d) (hk:k<=10000) (hn:n<=5) (hM:Drw n M) (hl:M.length<=5) (w0:0<=way) (w4:way < 4) {x6 x7 x8 x9 x10:Sl} (n6:Np x6) (n7:Np x7) {rest:SF} :
    ∃ y d' y7,Np y7/\Yk n M way y/\zao (zcy 6 zhn)
    (zao (sIf (tB (e2 gtD (eV 5) (eC (.int 0)))) (zcy 6 (zae zaw (zaa zhm (zaa (eV 4) (zaa (eV 3) zai))))) sNx)
    (zao (sIf (FL.zis (tB (e2 eqD (eV 5) (eC (.int 3)))) (tB (e2 gtD (eV 3) (eC (.int 0))))) (zao (zax (gN 7) (zan zam [.m 2,.v (eV 3)]))
    (setM 6 (zae za0 (zaa (m2 ixD 6 (eV 7)) (zaa (zbW (zaa (eC (.int 1)) (zaa (e2 zbb (eC (.int 1)) (zan zam [.m 2,.v (eC (.int 7))])) zai))) zai))) (eV 7))) sNx) rest)) (E S c (.ow false d) (.val (.int (n:Int))) (.val (zad M)) (.val (.int way)) x6 x7 x8 x9 x10)=rest (E S c (.ow false d') (.val (.int (n:Int))) (.val (zad M)) (.val (.int way)) (.ow false (zah y)) y7 x8 x9 x10):=by
  have hMb:∀ r ∈ M,r.length=n/\∀ x ∈ r,QR.Bd 170 x:=fun r hr=>⟨(hM.row r hr).1,fun x hx=>((hM.row r hr).2 x hx).mono (by omega)⟩
  obtain ⟨it,il⟩:=zsm (n:=n) (by omega) (i:=3) (ρ:=E S c (.ow false d) (.val (.int (n:Int))) (.val (zad M)) (.val (.int way)) x6 x7 x8 x9 x10) rfl
  obtain ⟨xs,d1,eq1,lx,bx,p1⟩:=zj1 (ip:=2) (p:=false) (d:=d) (ρ:=E S c (.ow false d) (.val (.int (n:Int))) (.val (zad M)) (.val (.int way)) x6 x7 x8 x9 x10) rfl hp it (by omega) (by omega)
  rw [il] at lx p1
  have s1:zcy 6 zhn (E S c (.ow false d) (.val (.int (n:Int))) (.val (zad M)) (.val (.int way)) x6 x7 x8 x9 x10)=.ok (.nx,E S c (.ow false d1) (.val (.int (n:Int))) (.val (zad M)) (.val (.int way)) (.ow false (zah xs)) x7 x8 x9 x10):=by
    unfold zhn
    rw [zkI]
    exact zcK (i:=6) (x:=x6) eq1 rfl n6
  rw [zaj s1]
  have g0:gtD (.int way) (.int 0)=.ok (.bool (decide (0 < way))):=zhE _ _
  obtain ⟨y1,d2,s2,ly,by1,cy,p2⟩:∃ y1 d2,sIf (tB (e2 gtD (eV 5) (eC (.int 0)))) (zcy 6 (zae zaw (zaa zhm (zaa (eV 4) (zaa (eV 3) zai))))) sNx (E S c (.ow false d1) (.val (.int (n:Int))) (.val (zad M)) (.val (.int way)) (.ow false (zah xs)) x7 x8 x9 x10)=.ok (.nx,E S c (.ow false d2) (.val (.int (n:Int))) (.val (zad M)) (.val (.int way)) (.ow false (zah y1)) x7 x8 x9 x10)/\y1.length=n/\(∀ x ∈ y1,QR.Bd 1120 x)/\(0 < way->∃ q:List (Rat × List Rat),(∀ p ∈ q,p.2 ∈ M)/\∀ j,fq y1 j=zby (q.map fun p=>p.1 * fq p.2 j))/\zc4 (k + 100) d2:=by
    by_cases cw:0 < way
    · rw [decide_eq_true cw] at g0
      obtain ⟨cs,d2,eq2,lc,bc,p2⟩:=zj1 (ip:=2) (p:=false) (d:=d1) (it:=iE (eV 4)) (items:=M.map zah) (ρ:=E S c (.ow false d1) (.val (.int (n:Int))) (.val (zad M)) (.val (.int way)) (.ow false (zah xs)) x7 x8 x9 x10) rfl p1 rfl (by rw [List.length_map];omega) (by rw [List.length_map];omega)
      rw [List.length_map] at lc p2
      have hm:(cs.length + 2) * (15 + 170 + 1)<=7 * (15 + 170 + 1):=Nat.mul_le_mul_right _ (by omega)
      have cb:=zhU bc hMb (by decide) (by omega) (by omega)
      have hq:∀ p ∈ cs.zip M,QR.Bd 15 p.1/\p.2.length=n/\∀ x ∈ p.2,QR.Bd 170 x:=fun p hp=>by
        obtain ⟨m1,m2⟩:=List.of_mem_zip (a:=p.1) (b:=p.2) hp
        exact ⟨bc _ m1,hMb _ m2⟩
      obtain ⟨h1,h2,h3⟩:=zf7 (b:=15) (b':=170) (by decide) (cs.zip M) hq
      refine ⟨comb n (cs.zip M),d2,?_,h1,fun x hx=>(h2 x hx).mono ?_,fun _=>⟨cs.zip M,fun p hp=>(List.of_mem_zip (a:=p.1) (b:=p.2) hp).2,h3⟩,p2.mono (by omega)⟩
      · unfold sIf
        rw [show tB (e2 gtD (eV 5) (eC (.int 0))) (E S c (.ow false d1) (.val (.int (n:Int))) (.val (zad M)) (.val (.int way)) (.ow false (zah xs)) x7 x8 x9 x10)=.ok (true,E S c (.ow false d1) (.val (.int (n:Int))) (.val (zad M)) (.val (.int way)) (.ow false (zah xs)) x7 x8 x9 x10) by simp only [tB,FL.e2,eV,eC,zac,List.getElem?_cons_zero,List.getElem?_cons_succ,g0],zac,if_pos rfl]
        refine zcK (i:=6) (x:=.ow false (zah xs)) (y:=(zah (comb n (cs.zip M)),E S c (.ow false d2) (.val (.int (n:Int))) (.val (zad M)) (.val (.int way)) (.ow false (zah xs)) x7 x8 x9 x10)) ?_ rfl (zvJ _)
        unfold zhm
        rw [zkI,zhV]
        unfold zae
        rw [zaa,eq2]
        simp only [zaa,zai,eV,zac,List.set_cons_zero,List.set_cons_succ,List.getElem?_cons_zero,List.getElem?_cons_succ,cb]
      · rw [List.length_zip]
        have:=Nat.mul_le_mul_right (15 + 170 + 1) (show min cs.length M.length + 1<=6 by omega)
        omega
    · rw [decide_eq_false cw] at g0
      refine ⟨xs,d1,?_,lx,fun x hx=>(bx x hx).mono (by decide),fun z=>absurd z cw,p1.mono (by omega)⟩
      unfold sIf
      rw [show tB (e2 gtD (eV 5) (eC (.int 0))) (E S c (.ow false d1) (.val (.int (n:Int))) (.val (zad M)) (.val (.int way)) (.ow false (zah xs)) x7 x8 x9 x10)=.ok (false,E S c (.ow false d1) (.val (.int (n:Int))) (.val (zad M)) (.val (.int way)) (.ow false (zah xs)) x7 x8 x9 x10) by simp only [tB,FL.e2,eV,eC,zac,List.getElem?_cons_zero,List.getElem?_cons_succ,g0],zac,if_neg (by simp)]
      rfl
  rw [zaj s2]
  have e3:eqD (.int way) (.int 3)=.ok (.bool (decide (way=3))):=zbT _ _
  have gn:gtD (.int (n:Int)) (.int 0)=.ok (.bool (decide ((0:Int) < (n:Int)))):=zhE _ _
  by_cases c3:way=3/\(0:Int) < (n:Int)
  · rw [decide_eq_true c3.1] at e3
    rw [decide_eq_true c3.2] at gn
    obtain ⟨i,d3,t3,i0,i1,p3⟩:=zb0 p2 (by omega) (n:Int) (by omega) (by omega)
    obtain ⟨v,d4,t4,v0,v1,p4⟩:=zb0 p3 (by omega) 7 (by decide) (by decide)
    rw [<- zoH] at t3 t4
    obtain ⟨j,rfl⟩:∃ j:Nat,i=(j:Int):=⟨i.toNat,by omega⟩
    have hv:(1 + v).toNat ≠ 0:=by omega
    have num1v:(.tuple [.int 1,.int (1 + v)]:D)=num (Rat.normalize 1 (1 + v).toNat hv):=by
      have h:=QR.norm (t:=1) hv
      have hlow:Q1.Low 1 ((1 + v).toNat:Int):=⟨by omega,by simp [Int.gcd]⟩
      rw [Q1.zsC hlow] at h
      have h1:=congrArg Prod.fst h
      have h2:=congrArg Prod.snd h
      simp only at h1 h2
      unfold num
      rw [<- h1,<- h2,show (((1 + v).toNat:Nat):Int)=1 + v by omega]
    have bv:QR.Bd 4 (Rat.normalize 1 (1 + v).toNat hv):=by
      have h1:=QR.norm (t:=1) hv
      have h2:=QR.zoi 1 ((1 + v).toNat:Int)
      rw [h1] at h2
      exact ⟨by have:=h2.1;omega,by have:=h2.2;omega⟩
    have bj:QR.Bd 1120 (fq y1 j):=by
      rcases znk (xs:=y1) j with z | z
      · rw [z];exact (QR.Bd.zero 0).mono (by decide)
      · exact by1 _ z
    have pl:=zjI bj (bv.mono (show 4<=1120 by decide)) (by decide)
    rw [<- num1v,<- zl3] at pl
    refine ⟨y1.set j (fq y1 j + Rat.normalize 1 (1 + v).toNat hv),d4,.val (.int (j:Int)),zaD _,⟨by rw [List.length_set];exact ly,fun x hx=>?_,fun z=>by omega⟩,?_⟩
    · rcases List.mem_or_eq_of_mem_set hx with h | h
      · exact (by1 x h).mono (by decide)
      · rw [h];exact (bj.add bv).mono (by decide)
    · have ix:=zt8 (xs:=y1) (i:=j) (by omega)
      have s3:sIf (FL.zis (tB (e2 eqD (eV 5) (eC (.int 3)))) (tB (e2 gtD (eV 3) (eC (.int 0))))) (zao (zax (gN 7) (zan zam [.m 2,.v (eV 3)]))
    (setM 6 (zae za0 (zaa (m2 ixD 6 (eV 7)) (zaa (zbW (zaa (eC (.int 1)) (zaa (e2 zbb (eC (.int 1)) (zan zam [.m 2,.v (eC (.int 7))])) zai))) zai))) (eV 7))) sNx (E S c (.ow false d2) (.val (.int (n:Int))) (.val (zad M)) (.val (.int way)) (.ow false (zah y1)) x7 x8 x9 x10)=.ok (.nx,E S c (.ow false d4) (.val (.int (n:Int))) (.val (zad M)) (.val (.int way)) (.ow false (zah (y1.set j (fq y1 j + Rat.normalize 1 (1 + v).toNat hv)))) (.val (.int (j:Int))) x8 x9 x10):=by
        unfold sIf
        rw [show FL.zis (tB (e2 eqD (eV 5) (eC (.int 3)))) (tB (e2 gtD (eV 3) (eC (.int 0)))) (E S c (.ow false d2) (.val (.int (n:Int))) (.val (zad M)) (.val (.int way)) (.ow false (zah y1)) x7 x8 x9 x10)=.ok (true,E S c (.ow false d2) (.val (.int (n:Int))) (.val (zad M)) (.val (.int way)) (.ow false (zah y1)) x7 x8 x9 x10) by simp only [FL.zis,tB,FL.e2,eV,eC,zac,List.getElem?_cons_zero,List.getElem?_cons_succ,e3,gn,if_true],zac,if_pos rfl]
        rw [zaj (zb1 (i:=7) (y:=(.int (j:Int),E S c (.ow false d3) (.val (.int (n:Int))) (.val (zad M)) (.val (.int way)) (.ow false (zah y1)) x7 x8 x9 x10)) (zdn (i:=2) (p:=false) (d:=d2) rfl rfl t3) rfl n7)]
        have cm:zan zam [.m 2,.v (eC (.int 7))] (E S c (.ow false d3) (.val (.int (n:Int))) (.val (zad M)) (.val (.int way)) (.ow false (zah y1)) (.val (.int (j:Int))) x8 x9 x10)=.ok (.int v,E S c (.ow false d4) (.val (.int (n:Int))) (.val (zad M)) (.val (.int way)) (.ow false (zah y1)) (.val (.int (j:Int))) x8 x9 x10):=zdn (i:=2) (p:=false) (d:=d3) rfl rfl t4
        have ad:zbb (.int 1) (.int v)=.ok (.int (1 + v)):=rfl
        have l2:leB 2 lim=true:=by decide
        have fe:zae za0 (zaa (m2 ixD 6 (eV 7)) (zaa (zbW (zaa (eC (.int 1)) (zaa (e2 zbb (eC (.int 1)) (zan zam [.m 2,.v (eC (.int 7))])) zai))) zai)) (E S c (.ow false d3) (.val (.int (n:Int))) (.val (zad M)) (.val (.int way)) (.ow false (zah y1)) (.val (.int (j:Int))) x8 x9 x10)=.ok (num (fq y1 j + Rat.normalize 1 (1 + v).toNat hv),E S c (.ow false d4) (.val (.int (n:Int))) (.val (zad M)) (.val (.int way)) (.ow false (zah y1)) (.val (.int (j:Int))) x8 x9 x10):=by
          simp only [zae,zaa,zai,m2,zaU,zbW,FL.e2,show ∀ ρ,eC (.int 1) ρ=.ok (.int 1,ρ) from fun _=>rfl,eV,zac,List.getElem?_cons_zero,List.getElem?_cons_succ,ix,cm,ad,List.length_cons,List.length_nil,Nat.reduceAdd,zay l2,pl]
        show setM 6 _ (eV 7) (E S c (.ow false d3) (.val (.int (n:Int))) (.val (zad M)) (.val (.int way)) (.ow false (zah y1)) (.val (.int (j:Int))) x8 x9 x10)=_
        unfold setM
        rw [fe]
        show (R.of (ixN (y1.map num).length (j:Int))).bind _=_
        rw [zjV (by rw [List.length_map];omega)]
        show R.ok (Fl.nx,E S c (.ow false d4) (.val (.int (n:Int))) (.val (zad M)) (.val (.int way)) (.ow false (.list ((y1.map num).set j (num (fq y1 j + Rat.normalize 1 (1 + v).toNat hv))))) (.val (.int (j:Int))) x8 x9 x10)=_
        rw [zjw]
        rfl
      rw [zaj s3]
  · refine ⟨y1,d2,x7,n7,⟨ly,fun x hx=>(by1 x hx).mono (by decide),fun z=>cy (by omega)⟩,?_⟩
    have s3:sIf (FL.zis (tB (e2 eqD (eV 5) (eC (.int 3)))) (tB (e2 gtD (eV 3) (eC (.int 0))))) (zao (zax (gN 7) (zan zam [.m 2,.v (eV 3)]))
    (setM 6 (zae za0 (zaa (m2 ixD 6 (eV 7)) (zaa (zbW (zaa (eC (.int 1)) (zaa (e2 zbb (eC (.int 1)) (zan zam [.m 2,.v (eC (.int 7))])) zai))) zai))) (eV 7))) sNx (E S c (.ow false d2) (.val (.int (n:Int))) (.val (zad M)) (.val (.int way)) (.ow false (zah y1)) x7 x8 x9 x10)=.ok (.nx,E S c (.ow false d2) (.val (.int (n:Int))) (.val (zad M)) (.val (.int way)) (.ow false (zah y1)) x7 x8 x9 x10):=by
      unfold sIf
      have t0:FL.zis (tB (e2 eqD (eV 5) (eC (.int 3)))) (tB (e2 gtD (eV 3) (eC (.int 0)))) (E S c (.ow false d2) (.val (.int (n:Int))) (.val (zad M)) (.val (.int way)) (.ow false (zah y1)) x7 x8 x9 x10)=.ok (false,E S c (.ow false d2) (.val (.int (n:Int))) (.val (zad M)) (.val (.int way)) (.ow false (zah y1)) x7 x8 x9 x10):=by
        by_cases c3a:way=3
        · rw [decide_eq_true c3a] at e3
          rw [decide_eq_false fun z=>c3 ⟨c3a,z⟩] at gn
          simp only [FL.zis,tB,FL.e2,eV,eC,zac,List.getElem?_cons_zero,List.getElem?_cons_succ,e3,gn,if_true]
        · rw [decide_eq_false c3a] at e3
          simp only [FL.zis,tB,FL.e2,eV,eC,zac,List.getElem?_cons_zero,List.getElem?_cons_succ,e3,Bool.false_eq_true,if_false]
      rw [t0,zac,if_neg (by simp)]
      rfl
    rw [zaj s3]
theorem zpT {M:List (List Rat)} {ρ:En} (h:ρ[4]?=some (.val (zad M))) (hl:M.length<=1000):zfS ρ=.ok (zad M,ρ):=by
  unfold zfS
  rw [zbc (f0:=zah) (xs:=M) zah (by simp only [iE,eV,h,zac];rfl) (by show _<=1000000;omega) fun r mr=>?_]
  · rfl
  · exact ⟨[.val (zah r)],rfl,rfl,zba trivial⟩
theorem zst:Pl 0 (.str "sum"):=⟨by decide +kernel,by decide +kernel⟩
theorem zmV:Pl 0 (.str "apart"):=⟨by decide +kernel,by decide +kernel⟩
theorem zwi {n:Nat} {a:D} (h:Pl n a) (hn:n<=64:=by decide):eqD a a=.ok (.bool true):=by
  rw [zqa h h hn hn,SeqAt.eqv_refl a h.1]
set_option maxHeartbeats 4000000 in
theorem ztd {n:Nat} {M:List (List Rat)} {way:Int} {y:List Rat} {S c P x7 x8 x9 x10:Sl} (hn:n<=5) (hM:Drw n M) (hl:M.length<=5) (w0:0<=way) (w4:way < 4) (Y:Yk n M way y) (n8:Np x8) (n9:Np x9) (n10:Np x10) :
    ∃ d,(zao (zc8 8 (zcy 8 zfS))
    (zao (zax (gN 9) (m1 zkO 6))
    (zao (zax (gN 10) (zae zfL (zaa (eV 8) (zaa (eV 9) zai))))
    (zao (sIf (FL.tOr (tB (e2 neD (eV 8) (eV 4))) (FL.tOr (tB (m2r neD (eV 9) 6)) (FL.tOr (FL.zce (tE (e1 (zbB "tuple") (eV 10)))) (tB (e2 neD (e1 zcd (eV 10)) (eC (.int 2))))))) (zav (eC (.bool false))) sNx)
    (sIf (tB (e2 eqD (e2 ixD (eV 10) (eC (.int 0))) (eC (.str "sum")))) (zc8 6 (sIf (FL.tOr (FL.zce (tE (zae zaX (zaa (e2 ixD (eV 10) (eC (.int 1))) (zaa (e1 zcd (eV 4)) zai))))) (tB (m2r neD (zae zaw (zaa (e2 ixD (eV 10) (eC (.int 1))) (zaa (eV 4) (zaa (eV 3) zai)))) 6))) (zav (eC (.bool false))) sNx)) (zao (sIf (FL.tOr (tB (e2 neD (e2 ixD (eV 10) (eC (.int 0))) (eC (.str "apart")))) (FL.tOr (FL.zce (tE (zae zaX (zaa (e2 ixD (eV 10) (eC (.int 1))) (zaa (eV 3) zai))))) (tB (e2 zuF (eV 5) (zcz (zaa (eC (.int 1)) (zaa (eC (.int 2)) zai))))))) (zav (eC (.bool false))) sNx)
    (zao (sIf (tB (e2 neD zfR (zcz zai))) (zav (eC (.bool false))) sNx)
    (zqJ 6 (sIf (tB (e2 neD (zae za1 (zaa (e2 ixD (eV 10) (eC (.int 1))) (zaa (eV 6) zai))) (zbW (zaa (eC (.int 1)) (zaa (eC (.int 1)) zai))))) (zav (eC (.bool false))) sNx))))))))) (E S c P (.val (.int (n:Int))) (.val (zad M)) (.val (.int way)) (.ow false (zah y)) x7 x8 x9 x10)=.ok (.nx,E S c P (.val (.int (n:Int))) (.val (zad M)) (.val (.int way)) (.val (zah y)) x7 (.val (zad M)) (.val (zah y)) (.val d)):=by
  have hMb:∀ r ∈ M,r.length=n/\∀ x ∈ r,QR.Bd 170 x:=fun r hr=>⟨(hM.row r hr).1,fun x hx=>((hM.row r hr).2 x hx).mono (by omega)⟩
  obtain ⟨d,ed,T⟩:=zoI (B:=221467) (T:=1779663) (L:=5) hMb Y.len Y.bd (by decide) (by decide) hl (by decide) hn (by decide) (by decide) (by decide) (by decide) (by decide) (by decide) (by decide) (by decide) (by decide) (by decide)
  rw [<- zoJ] at ed
  refine ⟨d,?_⟩
  have s1:zc8 8 (zcy 8 zfS) (E S c P (.val (.int (n:Int))) (.val (zad M)) (.val (.int way)) (.ow false (zah y)) x7 x8 x9 x10)=.ok (.nx,E S c P (.val (.int (n:Int))) (.val (zad M)) (.val (.int way)) (.ow false (zah y)) x7 (.val (zad M)) x9 x10):=by
    unfold zc8
    rw [zcK (i:=8) (x:=x8) (zpT rfl (by omega)) rfl n8]
    rfl
  have s2:zax (gN 9) (m1 zkO 6) (E S c P (.val (.int (n:Int))) (.val (zad M)) (.val (.int way)) (.ow false (zah y)) x7 (.val (zad M)) x9 x10)=.ok (.nx,E S c P (.val (.int (n:Int))) (.val (zad M)) (.val (.int way)) (.ow false (zah y)) x7 (.val (zad M)) (.val (zah y)) x10) :=
    zb1 (i:=9) (y:=(zah y,E S c P (.val (.int (n:Int))) (.val (zad M)) (.val (.int way)) (.ow false (zah y)) x7 (.val (zad M)) x9 x10)) rfl rfl n9
  have s3:zax (gN 10) (zae zfL (zaa (eV 8) (zaa (eV 9) zai))) (E S c P (.val (.int (n:Int))) (.val (zad M)) (.val (.int way)) (.ow false (zah y)) x7 (.val (zad M)) (.val (zah y)) x10)=.ok (.nx,E S c P (.val (.int (n:Int))) (.val (zad M)) (.val (.int way)) (.ow false (zah y)) x7 (.val (zad M)) (.val (zah y)) (.val d)):=by
    refine zb1 (i:=10) (y:=(d,E S c P (.val (.int (n:Int))) (.val (zad M)) (.val (.int way)) (.ow false (zah y)) x7 (.val (zad M)) (.val (zah y)) x10)) ?_ rfl n10
    simp only [zae,zaa,zai,eV,zac,List.getElem?_cons_zero,List.getElem?_cons_succ,ed]
  rw [zaj s1,zaj s2,zaj s3]
  have ne1:=zm2 (zri M)
  have ne2:=zm2 (zpg y)
  have n22:neD (.int 2) (.int 2)=.ok (.bool false):=by rw [zdc];rfl
  have sh:∃ a b,d=.tuple [a,b]:=by cases T <;> exact ⟨_,_,rfl⟩
  have s4:sIf (FL.tOr (tB (e2 neD (eV 8) (eV 4))) (FL.tOr (tB (m2r neD (eV 9) 6)) (FL.tOr (FL.zce (tE (e1 (zbB "tuple") (eV 10)))) (tB (e2 neD (e1 zcd (eV 10)) (eC (.int 2))))))) (zav (eC (.bool false))) sNx (E S c P (.val (.int (n:Int))) (.val (zad M)) (.val (.int way)) (.ow false (zah y)) x7 (.val (zad M)) (.val (zah y)) (.val d))=.ok (.nx,E S c P (.val (.int (n:Int))) (.val (zad M)) (.val (.int way)) (.ow false (zah y)) x7 (.val (zad M)) (.val (zah y)) (.val d)):=by
    obtain ⟨a,b,rfl⟩:=sh
    have k1:zbB "tuple" (.tuple [a,b])=.ok (.bool true):=rfl
    have k2:zcd (.tuple [a,b])=.ok (.int 2):=rfl
    simp only [sIf,FL.tOr,FL.zce,tE,tB,FL.e1,FL.e2,m2r,zaU,eV,eC,sNx,zac,List.getElem?_cons_zero,List.getElem?_cons_succ,ne1,ne2,k1,k2,n22,zlS,Bool.not_true,Bool.false_eq_true,if_false,if_true]
  rw [zaj s4]
  have l2:leB 2 lim=true:=by decide
  have l0:leB 0 lim=true:=by decide
  cases T with
  | sum w lw bw hw =>
    have i0:ixD (.tuple [.str "sum",zah w]) (.int 0)=.ok (.str "sum"):=rfl
    have i1:ixD (.tuple [.str "sum",zah w]) (.int 1)=.ok (zah w):=rfl
    have es:eqD (.str "sum") (.str "sum")=.ok (.bool true):=zwi zst
    have ir:=zpx lw bw (by decide) (by omega)
    have cb:=zhU bw hMb (by decide) (by omega) (by rw [lw];have:=Nat.mul_le_mul_right (221467 + 170 + 1) (show M.length + 2<=7 by omega);omega)
    rw [zuq (by decide) bw hMb Y.len lw hw] at cb
    rw [<- znd] at ir
    rw [<- zhV] at cb
    have lM:=zvU M
    show sIf _ _ _ (E S c P (.val (.int (n:Int))) (.val (zad M)) (.val (.int way)) (.ow false (zah y)) x7 (.val (zad M)) (.val (zah y)) (.val (.tuple [.str "sum",zah w])))=_
    rw [sIf]
    rw [show tB (e2 eqD (e2 ixD (eV 10) (eC (.int 0))) (eC (.str "sum"))) (E S c P (.val (.int (n:Int))) (.val (zad M)) (.val (.int way)) (.ow false (zah y)) x7 (.val (zad M)) (.val (zah y)) (.val (.tuple [.str "sum",zah w])))=.ok (true,E S c P (.val (.int (n:Int))) (.val (zad M)) (.val (.int way)) (.ow false (zah y)) x7 (.val (zad M)) (.val (zah y)) (.val (.tuple [.str "sum",zah w]))) by simp only [tB,FL.e2,eV,eC,zac,List.getElem?_cons_zero,List.getElem?_cons_succ,i0,es],zac,if_pos rfl]
    have tt:FL.tOr (FL.zce (tE (zae zaX (zaa (e2 ixD (eV 10) (eC (.int 1))) (zaa (e1 zcd (eV 4)) zai))))) (tB (m2r neD (zae zaw (zaa (e2 ixD (eV 10) (eC (.int 1))) (zaa (eV 4) (zaa (eV 3) zai)))) 6)) (E S c P (.val (.int (n:Int))) (.val (zad M)) (.val (.int way)) (.ow false (zah y)) x7 (.val (zad M)) (.val (zah y)) (.val (.tuple [.str "sum",zah w])))=.ok (false,E S c P (.val (.int (n:Int))) (.val (zad M)) (.val (.int way)) (.ow false (zah y)) x7 (.val (zad M)) (.val (zah y)) (.val (.tuple [.str "sum",zah w]))):=by
      simp only [FL.tOr,FL.zce,tE,tB,zae,zaa,zai,FL.e1,FL.e2,m2r,zaU,eV,eC,zac,List.getElem?_cons_zero,List.getElem?_cons_succ,i1,lM,ir,cb,ne2,zlS,Bool.not_true,Bool.false_eq_true,if_false]
    unfold zc8
    rw [sIf,tt,zac,if_neg (by simp)]
    rfl
  | apart t lt bt ht h1 =>
    have nw:=zqU Y ht h1
    have i0:ixD (.tuple [.str "apart",zah t]) (.int 0)=.ok (.str "apart"):=rfl
    have i1:ixD (.tuple [.str "apart",zah t]) (.int 1)=.ok (zah t):=rfl
    have es:eqD (.str "apart") (.str "sum")=.ok (.bool false):=by
      rw [zqa zmV zst]
      have:PyData.eqv (.str "apart") (.str "sum")=false:=by decide +kernel
      rw [this]
    have ea:neD (.str "apart") (.str "apart")=.ok (.bool false):=zm2 zmV
    have ir:=zpx lt bt (by decide) (by omega)
    rw [<- znd] at ir
    have inn:zuF (.int way) (.list [.int 1,.int 2])=.ok (.bool false):=by
      have:way=0\/way=3:=by omega
      rcases this with z | z <;> subst z <;> rfl
    have hT:(n + 1) * (1779663 + 1130 + 1) + 1<=40000000:=Nat.le_trans (Nat.add_le_add_right (Nat.mul_le_mul_right _ (show n + 1<=6 by omega)) 1) (by decide)
    have py:=zhx lt Y.len bt Y.bd hT
    rw [h1,<- zi0] at py
    have pr:∀ r ∈ M,za1 [zah t,zah r]=.ok (num 0):=fun r hr=>by
      have:=zhx lt (hMb r hr).1 bt (fun x hx=>((hMb r hr).2 x hx).mono (show 170<=1130 by decide)) hT
      rw [ht r hr,<- zi0] at this
      exact this
    have n11:neD (num 1) (.tuple [.int 1,.int 1])=.ok (.bool false):=zm2 (zsu 1)
    have n00:neD (.int 0) (.int 0)=.ok (.bool false):=by rw [zdc];rfl
    have nnil:neD (.list []) (.list [])=.ok (.bool false):=rfl
    show sIf _ _ _ (E S c P (.val (.int (n:Int))) (.val (zad M)) (.val (.int way)) (.ow false (zah y)) x7 (.val (zad M)) (.val (zah y)) (.val (.tuple [.str "apart",zah t])))=_
    rw [sIf]
    rw [show tB (e2 eqD (e2 ixD (eV 10) (eC (.int 0))) (eC (.str "sum"))) (E S c P (.val (.int (n:Int))) (.val (zad M)) (.val (.int way)) (.ow false (zah y)) x7 (.val (zad M)) (.val (zah y)) (.val (.tuple [.str "apart",zah t])))=.ok (false,E S c P (.val (.int (n:Int))) (.val (zad M)) (.val (.int way)) (.ow false (zah y)) x7 (.val (zad M)) (.val (zah y)) (.val (.tuple [.str "apart",zah t]))) by simp only [tB,FL.e2,eV,eC,zac,List.getElem?_cons_zero,List.getElem?_cons_succ,i0,es],zac,if_neg (by simp)]
    have u1:sIf (FL.tOr (tB (e2 neD (e2 ixD (eV 10) (eC (.int 0))) (eC (.str "apart")))) (FL.tOr (FL.zce (tE (zae zaX (zaa (e2 ixD (eV 10) (eC (.int 1))) (zaa (eV 3) zai))))) (tB (e2 zuF (eV 5) (zcz (zaa (eC (.int 1)) (zaa (eC (.int 2)) zai))))))) (zav (eC (.bool false))) sNx (E S c P (.val (.int (n:Int))) (.val (zad M)) (.val (.int way)) (.ow false (zah y)) x7 (.val (zad M)) (.val (zah y)) (.val (.tuple [.str "apart",zah t])))=.ok (.nx,E S c P (.val (.int (n:Int))) (.val (zad M)) (.val (.int way)) (.ow false (zah y)) x7 (.val (zad M)) (.val (zah y)) (.val (.tuple [.str "apart",zah t]))):=by
      simp only [sIf,FL.tOr,FL.zce,tE,tB,zae,zcz,zaa,zai,FL.e2,eV,eC,sNx,zac,List.getElem?_cons_zero,List.getElem?_cons_succ,i0,i1,ea,ir,inn,List.length_cons,List.length_nil,Nat.reduceAdd,zay l2,zlS,Bool.not_true,Bool.false_eq_true,if_false,if_true]
    have q3:zfR (E S c P (.val (.int (n:Int))) (.val (zad M)) (.val (.int way)) (.ow false (zah y)) x7 (.val (zad M)) (.val (zah y)) (.val (.tuple [.str "apart",zah t])))=.ok (.list [],E S c P (.val (.int (n:Int))) (.val (zad M)) (.val (.int way)) (.ow false (zah y)) x7 (.val (zad M)) (.val (zah y)) (.val (.tuple [.str "apart",zah t]))):=by
      unfold zfR
      rw [zfu (f0:=zah) (xs:=M) (fun _=>false) zah rfl (by show _<=1000000;omega) fun r mr=>?_]
      · simp
      · refine ⟨[.val (zah r),.val (.tuple [.str "apart",zah t])],rfl,?_,(fun c=>by cases c),zba trivial⟩
        have iz:ixD (num 0) (.int 0)=.ok (.int 0):=rfl
        simp only [tB,FL.e2,zae,zaa,zai,eV,eC,zac,List.getElem?_cons_zero,List.getElem?_cons_succ,i1,pr r mr,iz,n00]
    have u2:sIf (tB (e2 neD zfR (zcz zai))) (zav (eC (.bool false))) sNx (E S c P (.val (.int (n:Int))) (.val (zad M)) (.val (.int way)) (.ow false (zah y)) x7 (.val (zad M)) (.val (zah y)) (.val (.tuple [.str "apart",zah t])))=.ok (.nx,E S c P (.val (.int (n:Int))) (.val (zad M)) (.val (.int way)) (.ow false (zah y)) x7 (.val (zad M)) (.val (zah y)) (.val (.tuple [.str "apart",zah t]))):=by
      simp only [sIf,tB,FL.e2,q3,zcz,zai,sNx,zac,List.length_nil,zay l0,nnil,Bool.false_eq_true,if_false]
    rw [zaj u1,zaj u2]
    show sIf _ _ _ (E S c P (.val (.int (n:Int))) (.val (zad M)) (.val (.int way)) (.val (zah y)) x7 (.val (zad M)) (.val (zah y)) (.val (.tuple [.str "apart",zah t])))=_
    simp only [sIf,tB,FL.e2,zae,zbW,zaa,zai,eV,eC,sNx,zac,List.getElem?_cons_zero,List.getElem?_cons_succ,i1,py,List.length_cons,List.length_nil,Nat.reduceAdd,zay l2,n11,Bool.false_eq_true,if_false]
theorem zus (S:Sl) (a:Int) {x2 x3 x4 x5 x6 x7 x8 x9 x10:Sl} (n2:Np x2) (n3:Np x3) (n4:Np x4) (n5:Np x5) (n6:Np x6) (n7:Np x7) (n8:Np x8) (n9:Np x9) (n10:Np x10) :
    ∃ y2 y3 y4 y5 y6 y7 y8 y9 y10,Np y2/\Np y3/\Np y4/\Np y5/\Np y6/\Np y7/\Np y8/\Np y9/\Np y10/\zhg (E S (.val (.int a)) x2 x3 x4 x5 x6 x7 x8 x9 x10)=.ok (.nx,E S (.val (.int a)) y2 y3 y4 y5 y6 y7 y8 y9 y10):=by
  obtain ⟨d,ed,pd⟩:=zrc a 3 (by decide)
  obtain ⟨n',d1,t1,n0,n1,p1⟩:=zb0 pd (by decide) 6 (by decide) (by decide)
  obtain ⟨n,rfl⟩:∃ n:Nat,n'=(n:Int):=⟨n'.toNat,by omega⟩
  obtain ⟨M,d2,eM,lM,hM,p2⟩:=zrR (m:=6) p1 (by decide) (n:=n) (by omega) (by decide) (by decide)
  obtain ⟨way,d3,t3,w0,w4,p3⟩:=zb0 p2 (by decide) 4 (by decide) (by decide)
  rw [<- zrd] at ed
  rw [<- zoH] at t1 t3
  rw [<- zrS] at eM
  have s1:zcy 2 (zae zcI (zaa (eV 1) (zaa (eC (.int 3)) zai))) (E S (.val (.int a)) x2 x3 x4 x5 x6 x7 x8 x9 x10)=.ok (.nx,E S (.val (.int a)) (.ow false d) x3 x4 x5 x6 x7 x8 x9 x10) :=
    zcK (i:=2) (y:=(d,E S (.val (.int a)) x2 x3 x4 x5 x6 x7 x8 x9 x10)) (by simp only [zae,zaa,zai,eV,eC,zac,List.getElem?_cons_zero,List.getElem?_cons_succ,ed]) rfl n2
  have s2:zax (gN 3) (zan zam [.m 2,.v (eC (.int 6))]) (E S (.val (.int a)) (.ow false d) x3 x4 x5 x6 x7 x8 x9 x10)=.ok (.nx,E S (.val (.int a)) (.ow false d1) (.val (.int (n:Int))) x4 x5 x6 x7 x8 x9 x10) :=
    zb1 (i:=3) (y:=(.int (n:Int),E S (.val (.int a)) (.ow false d1) x3 x4 x5 x6 x7 x8 x9 x10)) (zdn (i:=2) (p:=false) (d:=d) rfl rfl t1) rfl n3
  have s3:zax (gN 4) (zan zcJ [.m 2,.v (eV 3)]) (E S (.val (.int a)) (.ow false d1) (.val (.int (n:Int))) x4 x5 x6 x7 x8 x9 x10)=.ok (.nx,E S (.val (.int a)) (.ow false d2) (.val (.int (n:Int))) (.val (zad M)) x5 x6 x7 x8 x9 x10) :=
    zb1 (i:=4) (y:=(zad M,E S (.val (.int a)) (.ow false d2) (.val (.int (n:Int))) x4 x5 x6 x7 x8 x9 x10)) (zdn (i:=2) (p:=false) (d:=d1) rfl rfl eM) rfl n4
  have s4:zax (gN 5) (zan zam [.m 2,.v (eC (.int 4))]) (E S (.val (.int a)) (.ow false d2) (.val (.int (n:Int))) (.val (zad M)) x5 x6 x7 x8 x9 x10)=.ok (.nx,E S (.val (.int a)) (.ow false d3) (.val (.int (n:Int))) (.val (zad M)) (.val (.int way)) x6 x7 x8 x9 x10) :=
    zb1 (i:=5) (y:=(.int way,E S (.val (.int a)) (.ow false d3) (.val (.int (n:Int))) (.val (zad M)) x5 x6 x7 x8 x9 x10)) (zdn (i:=2) (p:=false) (d:=d2) rfl rfl t3) rfl n5
  obtain ⟨y,d4,y7,g7,Y,er⟩:=zu2 (S:=S) (c:=.val (.int a)) (x8:=x8) (x9:=x9) (x10:=x10) p3 (by decide) (by omega) hM (by omega) w0 w4 n6 n7 (rest:=_)
  obtain ⟨td,et⟩:=ztd (S:=S) (c:=.val (.int a)) (P:=.ow false d4) (x7:=y7) (by omega) hM (by omega) w0 w4 Y n8 n9 n10
  refine ⟨.ow false d4,.val (.int (n:Int)),.val (zad M),.val (.int way),.val (zah y),y7,.val (zad M),.val (zah y),.val td,zvJ _,zaD _,zaD _,zaD _,zaD _,g7,zaD _,zaD _,zaD _,?_⟩
  unfold zhg
  rw [zaj s1,zaj s2,zaj s3,zaj s4]
  exact er.trans et
theorem zrD (ns:List Int) (hl:ns.length<=63):zqH [.list (ns.map PyData.int)]=.ok (.bool true):=by
  obtain ⟨a,ea⟩:=zxF ns 3 (by decide) (by decide)
  rw [<- zxG] at ea
  obtain ⟨ρ',e,_⟩:=zbV (f:=fun i:Int=>PyData.int i) (g:=gN 1) (b:=zhg)
    (fun done ρ=>∃ y1 y2 y3 y4 y5 y6 y7 y8 y9 y10,Np y1/\Np y2/\Np y3/\Np y4/\Np y5/\Np y6/\Np y7/\Np y8/\Np y9/\Np y10/\ρ=E (.val (.list (ns.map PyData.int))) y1 y2 y3 y4 y5 y6 y7 y8 y9 y10)
    (cut ns none (some 3) ++ [a]) [] (E (.val (.list (ns.map PyData.int))) .no .no .no .no .no .no .no .no .no .no) ⟨.no,.no,.no,.no,.no,.no,.no,.no,.no,.no,za8,za8,za8,za8,za8,za8,za8,za8,za8,za8,rfl⟩ (by
      rintro pre i post ρ e ⟨y1,y2,y3,y4,y5,y6,y7,y8,y9,y10,h1,h2,h3,h4,h5,h6,h7,h8,h9,h10,rfl⟩
      obtain ⟨z2,z3,z4,z5,z6,z7,z8,z9,z10,m2,m3,m4,m5,m6,m7,m8,m9,m10,et⟩:=zus (.val (.list (ns.map PyData.int))) i h2 h3 h4 h5 h6 h7 h8 h9 h10
      exact ⟨_,.nx,by rw [zdG (x:=y1) rfl h1,zac];exact et,.inl rfl,_,z2,z3,z4,z5,z6,z7,z8,z9,z10,zaD _,m2,m3,m4,m5,m6,m7,m8,m9,m10,rfl⟩)
  have l1:leB 1 lim=true:=by decide
  have sl:zoR (.list (ns.map PyData.int)) none (some 3)=.ok (.list ((cut ns none (some 3)).map PyData.int)):=by
    show R.ok (PyData.list (cut (ns.map PyData.int) none (some 3)))=_
    rw [ztX]
  have ad:zbb (.list ((cut ns none (some 3)).map PyData.int)) (.list [.int a])=.ok (.list ((cut ns none (some 3) ++ [a]).map PyData.int)):=by
    show chk (leB (((cut ns none (some 3)).map PyData.int).length + 1) lim) _=_
    rw [zay (zdS (by
      rw [List.length_map]
      have:(cut ns none (some 3)).length<=ns.length:=by unfold cut;rw [List.length_take,List.length_drop];omega
      show _<=1000000;omega)),List.map_append]
    rfl
  have s1:zjp (E (.val (.list (ns.map PyData.int))) .no .no .no .no .no .no .no .no .no .no)=.ok (.nx,ρ'):=by
    unfold zjp zc7
    have hi:iE (e2 zbb (eSl (eV 0) zrv (zru (eC (.int 3)))) (zcz (zaa (zae zfO (zaa (eV 0) (zaa (eC (.int 3)) zai))) zai))) (E (.val (.list (ns.map PyData.int))) .no .no .no .no .no .no .no .no .no .no)=.ok ((cut ns none (some 3) ++ [a]).map PyData.int,E (.val (.list (ns.map PyData.int))) .no .no .no .no .no .no .no .no .no .no):=by
      simp only [iE,FL.e2,eSl,zrv,zru,zcz,zae,zaa,zai,eV,eC,zac,List.getElem?_cons_zero,sl,ea,List.length_cons,List.length_nil,Nat.reduceAdd,zay l1,ad,znc]
    rw [hi,zac]
    exact e
  refine zbz (ρ:=ρ') rfl ?_
  show zr5 (E (.val (.list (ns.map PyData.int))) .no .no .no .no .no .no .no .no .no .no)=_
  unfold zr5
  rw [zaj s1]
  rfl
end K03
open PySem PySem.W PyProof.Rows
theorem PySem.W.Fast.tw3298121251350645796 : True := trivial
theorem PySem.W.Fast.tw5428023217905875142 : True := trivial
theorem PySem.W.Fast.tw18154850302393641995 : True := trivial
theorem PySem.W.Fast.tw16678816660456306828 : True := trivial
theorem PySem.W.Fast.tw12952257935414012976 : True := trivial
theorem PySem.W.Fast.tw12198799927257386352 : True := trivial
theorem PySem.W.Fast.tw13729799472487964852 : True := trivial
theorem PySem.W.Fast.tw9619564953172849595 : True := trivial
theorem PySem.W.Fast.tw9168793560650573500 : True := trivial
theorem PySem.W.Fast.tw1523076216039125693 : True := trivial
set_option maxRecDepth 100000 in
set_option maxHeartbeats 0 in
theorem PySem.Challenge.cw_swaprest_k03_sums_or_tests_holds : PySem.Challenge.rw_swaprest_k03_sums_or_tests.Holds := by
 w_on; o_law; k_head; (case hw => w_witness2)
 k_fill
 refine K03.walk (l:=PySem.Challenge.rw_swaprest_k03_sums_or_tests) K03.zrD rfl rfl (by decide +kernel) rfl (fun w h Y => PySem.W.kIn_of Y) ?F
 case F =>
  intro w mg fa h KX G hmg
  refine' K03.all_mk KX G hmg ?oo0 ?oo1 ?oo2 ?oo3 ?oo4 ?oo5 ?oo6 ?oo7 ?oo8 ?oo9 ?oo10 ?oo11 ?oo12 ?oo13 ?oo14 ?oo15 ?oo16 ?oo17 ?oo18 ?oo19 ?oo20 ?oo21 ?oo22 ?oo23 ?oo24 ?oo25 ?oo26 ?oo27 ?oo28 ?oo29 ?oo30 ?oo31 ?oo32 ?oo33 ?oo34 ?oo35 ?oo36 ?oo37 ?oo38 ?oo39 ?oo40 ?oo41 ?oo42 ?oo43 ?oo44 ?oo45 ?oo46 ?oo47 ?oo48 ?oo49 ?oo50 ?oo51 ?oo52 ?oo53 ?oo54 ?oo55 ?oo56 ?oo57 ?oo58 ?oo59 ?oo60
  (case oo0 | oo1 | oo2 | oo3 | oo4 | oo5 | oo6 | oo7 | oo8 | oo9 | oo10 | oo11 | oo12 | oo13 | oo14 | oo15 | oo16 | oo17 | oo18 | oo19 | oo20 | oo21 | oo22 | oo23 | oo24 | oo25 | oo26 | oo27 | oo28 | oo29 | oo30 | oo31 | oo32 | oo33 | oo34 | oo35 | oo36 | oo37 | oo38 => refine' FL.zv7 KX G ?Zq ?Zl ?Zc ?Zk; (case Zq => k_is); (case Zl => k_is); (case Zc => k_is); (case Zk => k_is))
  (case oo39 | oo40 | oo41 | oo42 | oo43 | oo44 | oo45 | oo46 | oo47 | oo48 | oo49 | oo50 | oo51 | oo52 | oo53 | oo54 | oo55 | oo56 | oo57 | oo58 | oo59 | oo60 => k_is)
