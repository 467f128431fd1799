import PyProof.Rows.All
import Wide.All
import OpenK.AllK
import Wide.FinOn
import Lean
import PyProof.EqAt
import PyProof.EqKinds
import PyProof.TupleCall
import PyProof.EqLayable
import PyProof.StationsW
import PyProof.NsDelKeeps
import PyProof.ExcArgsOwn
import PyProof.ExcAttrAll.ValueError
import PyProof.ZipIter
import PyProof.EnumFor
import PyProof.EnumStmt
import PyProof.EnumMake
import PyProof.ConsumeWalk
import PyProof.Cells
import PyProof.CompUse
import PyProof.DictIter
import PyProof.DictWalks
import PyProof.CollectWalk
import PyProof.WalksS
import PyProof.DictRoadsH
import KE.KSortTup
import PyProof.P3In
import KE.KRevSl
import PyProof.P3Statements
import KE.KMinKey
import PyProof.ReprReads
import PyProof.ReprRoads
import PyProof.Conv_int_bool
import PySem.Challenge.RW_swaprest_k06_squares_back
set_option Elab.async false
set_option linter.all false
set_option maxRecDepth 100000
set_option maxHeartbeats 4000000
namespace L2
open PySem PySem.Spec PyProof.Rows
abbrev Key:=Sum Int Str
def zmU:Key->Value->Bool
 | .inl k,v=>Value.isInt k v
 | .inr x,v=>Value.isStrOf x v
def zzA (w:World):Key->Int
 | .inl k=>hashInt k
 | .inr x=>hashStr w x
theorem za2:∀ {k:Key} {v:Value},zmU k v=true->(∃ i t,k=Sum.inl i/\v=Value.int i t)\/(∃ x t,k=Sum.inr x/\v=Value.str x t)
 | .inl i,v,h=>by
  obtain ⟨t,e⟩:=Value.isInt_shape (k:=i) (v:=v) h
  exact .inl ⟨i,t,rfl,e⟩
 | .inr x,v,h=>by
  obtain ⟨t,e⟩:=Value.isStrOf_shape (x:=x) (v:=v) h
  exact .inr ⟨x,t,rfl,e⟩
theorem zqD (i:Int) (t:Tok):zmU (.inl i) (.int i t)=true:=by simp [zmU,Value.isInt]
theorem zqC (x:Str) (t:Tok):zmU (.inr x) (.str x t)=true:=by simp [zmU,Value.isStrOf]
theorem zw6 (a b:Int):decide ((Sum.inl a:Key)=Sum.inl b)=(a == b):=by
 by_cases e:a=b
 ·subst e;simp
 ·have h:¬ (Sum.inl a:Key)=Sum.inl b:=fun q=>e (Sum.inl.inj q)
  rw [decide_eq_false h]
  exact (beq_eq_false_iff_ne.mpr e).symm
theorem zw3 (a b:Str):decide ((Sum.inr a:Key)=Sum.inr b)=decide (a=b):=by
 by_cases e:a=b
 ·subst e;simp
 ·have h:¬ (Sum.inr a:Key)=Sum.inr b:=fun q=>e (Sum.inr.inj q)
  rw [decide_eq_false h,decide_eq_false e]
theorem zw5 (a:Int) (b:Str):decide ((Sum.inl a:Key)=Sum.inr b)=false:=decide_eq_false (fun q=>nomatch q)
theorem zw4 (a:Str) (b:Int):decide ((Sum.inr a:Key)=Sum.inl b)=false:=decide_eq_false (fun q=>nomatch q)
def za6 (prog:Program) (w:World):PySem.KeyKind prog w Key where
 is:=zmU
 hash:=zzA w
 inj:=fun v a b ha hb=>by
  rcases za2 ha with ⟨i,t,rfl,rfl⟩ | ⟨x,t,rfl,rfl⟩
  ·rcases za2 hb with ⟨j,u,rfl,e⟩ | ⟨y,u,rfl,e⟩
   ·injection e with e1 _;rw [e1]
   ·exact nomatch e
  ·rcases za2 hb with ⟨j,u,rfl,e⟩ | ⟨y,u,rfl,e⟩
   ·exact nomatch e
   ·injection e with e1 _;rw [e1]
 byValue:=fun k v h=>by
  rcases za2 h with ⟨i,t,rfl,rfl⟩ | ⟨x,t,rfl,rfl⟩ <;> rfl
 pyHash:=fun hv h=>by
  rcases za2 hv with ⟨i,t,rfl,rfl⟩ | ⟨x,t,rfl,rfl⟩
  ·exact wpAny_pyHash_int h
  ·exact wpAny_pyHash_str h
 eqBool:=fun hu hv h=>by
  rcases za2 hu with ⟨i,t,rfl,rfl⟩ | ⟨x,t,rfl,rfl⟩
  ·rcases za2 hv with ⟨j,u,rfl,rfl⟩ | ⟨y,u,rfl,rfl⟩
   ·rw [zw6] at h;exact wpAny_eqBool_int h
   ·rw [zw5] at h;exact SeqAt.EqAt.int_str i t y u _ _ _ _ h
  ·rcases za2 hv with ⟨j,u,rfl,rfl⟩ | ⟨y,u,rfl,rfl⟩
   ·rw [zw4] at h;exact SeqAt.EqAt.str_int x t j u _ _ _ _ h
   ·rw [zw3] at h;exact wpAny_eqBool_str h
 «strs»:=fun k x t v h=>by
  rcases za2 h with ⟨i,u,rfl,e⟩ | ⟨y,u,rfl,e⟩
  ·exact nomatch e
  ·injection e with e1 _
   subst e1
   cases v <;> rfl
theorem zmQ (prog:Program) (w:World) (i:Int) (t:Tok):(za6 prog w).is (.inl i) (.int i t)=true:=zqD i t
theorem zmP (prog:Program) (w:World) (x:Str) (t:Tok):(za6 prog w).is (.inr x) (.str x t)=true:=zqC x t
end L2
namespace L2
open PySem PySem.Spec PyProof.Rows
inductive V where
 | non | bl (b:Bool) | int (i:Int) | str (x:Str) | byt (b:Array UInt8) | flt (b:UInt64) | ref (a:Addr) | ty (n:String)
 deriving DecidableEq
def RelV:V->Value->Prop
 | .non,u=>u=Value.none
 | .bl b,u=>u=Value.bool b
 | .int i,u=>∃ t,u=Value.int i t
 | .str x,u=>∃ t,u=Value.str x t
 | .byt b,u=>∃ t,u=Value.bytes b t
 | .flt b,u=>∃ t,u=Value.float b t
 | .ref a,u=>u=Value.ref a
 | .ty n,u=>u=Value.type n
abbrev Vals:List V->List Value->Prop:=Paired RelV
theorem Vals.length {xs:List V} {us:List Value} (r:Vals xs us):xs.length=us.length:=Paired.length r
theorem Vals.get:∀ {xs:List V} {us:List Value} {i:Nat} {x:V},Vals xs us->xs[i]?=some x->∃ u,us[i]?=some u/\RelV x u
 | _,_,_,_,.nil,e=>by simp at e
 | _,_,0,_,.cons r _,e=>by simp at e;subst e;exact ⟨_,rfl,r⟩
 | _,_,i + 1,x,.cons _ t,e=>by
  obtain ⟨u,h1,h2⟩:=Vals.get (i:=i) (x:=x) t (by simpa using e)
  exact ⟨u,by simpa using h1,h2⟩
theorem Vals.set {x:V} {u:Value} (r:RelV x u):∀ {xs:List V} {us:List Value} (i:Nat),Vals xs us->Vals (xs.set i x) (us.set i u)
 | _,_,_,.nil=>.nil
 | _,_,0,.cons _ t=>.cons r t
 | _,_,i + 1,.cons q t=>.cons q (Vals.set r i t)
theorem Vals.append:∀ {xs ys:List V} {us ws:List Value},Vals xs us->Vals ys ws->Vals (xs ++ ys) (us ++ ws)
 | _,_,_,_,.nil,s=>s
 | _,_,_,_,.cons r t,s=>.cons r (Vals.append t s)
theorem Vals.take:∀ {xs:List V} {us:List Value} (n:Nat),Vals xs us->Vals (xs.take n) (us.take n)
 | _,_,0,_=>.nil
 | _,_,_ + 1,.nil=>.nil
 | _,_,n + 1,.cons r t=>.cons r (Vals.take n t)
theorem Vals.drop:∀ {xs:List V} {us:List Value} (n:Nat),Vals xs us->Vals (xs.drop n) (us.drop n)
 | _,_,0,r=>r
 | _,_,_ + 1,.nil=>.nil
 | _,_,n + 1,.cons _ t=>Vals.drop n t
def zrM:Option V->Option Value->Prop
 | some v,some u=>RelV v u
 | none,none=>True
 | _,_=>False
def KV {κ:Type}:List (κ × V)->List (κ × Value)->Prop:=Paired fun (p:κ × V) (q:κ × Value)=>p.1=q.1/\RelV p.2 q.2
def kV:Key->V
 | .inl i=>.int i
 | .inr x=>.str x
inductive HO where
 /-- a list -/
 | lst (xs:List V)
 /-- a tuple (never changes) -/
 | tup (xs:List V)
 /-- a dict whose keys are ints and texts;one whose keys are tuples of ints and texts (the empty one is both) -/
 | dK (kvs:List (Key × V)) | dT (kvs:List (List Key × V))
 /-- a set of ints: its members,its size -/
 | set (S:Int->Bool) (n:Nat)
 /-- an instance of the class at C,its dict at dx,its attributes -/
 | ins (C dx:Addr) (fs:List (Str × V))
 /-- the dict of the instance at x -/
 | own (x:Addr)
 /-- the dict of an exception -/
 | xd (fs:List (Str × V))
 /-- a bound method,f of x -/
 | met (f x:Addr)
 /-- a range object lo,lo + 1,.. below hi -/
 | rng (lo hi:Int)
 /-- a thing that is known to the object (the script;a dict while a loop walks it): read,never written while it is so -/
 | frz (o:Obj) (u:HO)
 /-- a code object's table -/
 | tbl (ps:Array Value)
 /-- any other thing,by what is true of its one object (a def of one's own: SetO a S n:=HO.ext fun h=>..) -/
 | ext (φ:Heap->Prop)
abbrev Hp:=Addr->Option HO
def upd (H:Hp) (a:Addr) (o:HO):Hp:=fun b=>if b=a then some o else H b
theorem zao {H:Hp} {a:Addr} {o:HO}:upd H a o a=some o:=by unfold upd;rw [if_pos rfl]
theorem zax {H:Hp} {a b:Addr} {o:HO} (h:b ≠ a):upd H a o b=H b:=by unfold upd;rw [if_neg h]
theorem zhF {H:Hp} {a:Addr} {o u:HO}:upd (upd H a o) a u=upd H a u:=by
 funext b;unfold upd;split <;> rfl
theorem zlx {H:Hp} {a b:Addr} {o u:HO} (h:H a=some o) (h':H b=some u) (d:o ≠ u):a ≠ b:=by
 intro e;subst e;rw [h] at h';exact d (Option.some.inj h')
theorem zb2 {H:Hp} {a b:Addr} {o:HO} (h:H a=some o) (h':H b=none):a ≠ b:=by
 intro e;subst e;rw [h] at h';cases h'
def TAt (H:Hp) (b:Addr) (xs:List V):Prop:=H b=some (.tup xs)\/∃ o,H b=some (.frz o (.tup xs))
theorem TAt.upd {H:Hp} {a b:Addr} {u:HO} {xs:List V} (q:TAt H b xs) (n1:∀ ys,H b=some (.tup ys)->b ≠ a) (n2:∀ o ys,H b=some (.frz o (.tup ys))->b ≠ a):TAt (upd H a u) b xs:=by
 rcases q with q | ⟨o,q⟩
 ·left;rw [zax (n1 _ q)];exact q
 ·right;exact ⟨o,by rw [zax (n2 _ _ q)];exact q⟩
section
variable (P:Program) (w:World)
def zbJ (H:Hp) (h:Heap) (a:Addr):HO->Prop
 | .lst xs=>xs.length<=sizeLine/\∃ (its:List Value) (n:Nat),Vals xs its/\h.get? a=some { cls:=.type "list",data:=.seq its.toArray n }
 | .tup xs=>xs.length<=sizeLine/\∃ its:List Value,Vals xs its/\IsTup h a its.toArray
 | .dK kvs=>kvs.length<=sizeLine/\(a == sysModules)=false/\∃ vs,KV kvs vs/\h.DictOf (za6 P w) a vs
 | .dT kvs=>kvs.length<=sizeLine/\(a == sysModules)=false/\∃ xs:List (List Key × Addr × Value),
   Paired (fun (p:List Key × V) (q:List Key × Addr × Value)=>p.1=q.1/\TAt H q.2.1 (p.1.map kV)/\RelV p.2 q.2.2) kvs xs /\
   ∃ o es ep,h.get? a=some o/\o.ExactDict/\o.data=.dict es ep/\es.toList=xs.map (entryOfKey (tupleKind (za6 P w)))/\(xs.map (·.1)).Nodup
 | .set S n=>h.SetOf (intKind P w) a S n
 | .ins C dx fs=>H dx=some (.own a)/\fs.length<=1000/\dx ≠ a/\h.get? a=some (PySem.W.instObj C dx) /\
   ∃ mA,h.Ns1 dx mA/\(∀ f,zrM (fs.lookup f) (mA f))/\PySem.Within mA (fs.map (·.1))
 | .own _=>∃ o,h.get? a=some o
 | .xd fs=>∃ mA,h.Ns1 a mA/\∀ f,zrM (fs.lookup f) (mA f)
 | .rng lo hi=>∃ t u v,h.get? a=some { cls:=.type "range",data:=.fields #[.int lo t,.int hi u,.int 1 v] }
 | .frz o u=>h.get? a=some o/\zbJ H h a u
 | .tbl ps=>h.get? a=some { cls:=.none,data:=.fields ps }
 | .met f x=>h.get? a=some (PySem.W.methodObj (.ref f) (.ref x))
 | .ext φ=>φ h/\(∃ o,h.get? a=some o)/\∀ h1 h2:Heap,φ h1->(∀ o,h1.get? a=some o->h2.get? a=some o)->φ h2
def HOk (H:Hp) (h:Heap):Prop:=∀ a o,H a=some o->zbJ P w H h a o
end
section
variable {P:Program} {w:World} {H H':Hp} {h h':Heap} {a:Addr} {o:HO}
theorem zbJ.lt (x:zbJ P w H h a o):a < h.objs.size:=by
 cases o with
 | lst xs=>obtain ⟨_,_,_,_,e⟩:=x;exact Heap.lt_size e
 | tup xs=>obtain ⟨_,_,_,p⟩:=x;exact p.lt
 | dK kvs=>obtain ⟨_,_,_,_,o,_,_,e,_⟩:=x;exact Heap.lt_size e
 | dT kvs=>obtain ⟨_,_,_,_,o,_,_,e,_⟩:=x;exact Heap.lt_size e
 | set S n=>obtain ⟨o,_,_,_,e,_⟩:=x;exact Heap.lt_size e
 | ins C dx fs=>obtain ⟨_,_,_,e,_⟩:=x;exact Heap.lt_size e
 | own y=>obtain ⟨_,e⟩:=x;exact Heap.lt_size e
 | xd fs=>obtain ⟨_,⟨_,_,_,e,_⟩,_⟩:=x;exact Heap.lt_size e
 | rng lo hi=>obtain ⟨_,_,_,e⟩:=x;exact Heap.lt_size e
 | frz ob u=>obtain ⟨e,_⟩:=x;exact Heap.lt_size e
 | tbl ps=>exact Heap.lt_size (show h.get? a=some _ from x)
 | met f y=>exact Heap.lt_size (show h.get? a=some _ from x)
 | ext φ=>obtain ⟨_,⟨_,e⟩,_⟩:=x;exact Heap.lt_size e
theorem Paired.zyq {α β:Type} {F G:α->β->Prop}:∀ {l₁:List α} {l₂:List β},Paired F l₁ l₂->(∀ a b,F a b->G a b)->Paired G l₁ l₂
 | _,_,.nil,_=>.nil
 | _,_,.cons r t,f=>.cons (f _ _ r) (Paired.zyq t f)
theorem zbJ.stay (x:zbJ P w H h a o) (k:∀ b u,(b=a\/H b=some (.own a))->h.get? b=some u->h'.get? b=some u)
  (ho:∀ b,H b=some (.own a)->H' b=some (.own a)) (ht:∀ b xs,TAt H b xs->TAt H' b xs):zbJ P w H' h' a o:=by
 induction o with
 | lst xs=>obtain ⟨z,its,n,r,e⟩:=x;exact ⟨z,its,n,r,k _ _ (.inl rfl) e⟩
 | tup xs=>obtain ⟨z,its,r,ob,e,c⟩:=x;exact ⟨z,its,r,ob,k _ _ (.inl rfl) e,c⟩
 | dK kvs=>obtain ⟨z,y,vs,r,ob,es,ep,e,c⟩:=x;exact ⟨z,y,vs,r,ob,es,ep,k _ _ (.inl rfl) e,c⟩
 | dT kvs =>
  obtain ⟨z,y,xs,r,ob,es,ep,e,c⟩:=x
  exact ⟨z,y,xs,Paired.zyq r fun p q z=>⟨z.1,ht _ _ z.2.1,z.2.2⟩,ob,es,ep,k _ _ (.inl rfl) e,c⟩
 | set S n=>obtain ⟨ob,es,ep,t,e,c⟩:=x;exact ⟨ob,es,ep,t,k _ _ (.inl rfl) e,c⟩
 | ins C dx fs =>
  obtain ⟨d,z,ne,e,mA,⟨od,es,ep,e2,c⟩,r⟩:=x
  exact ⟨ho _ d,z,ne,k _ _ (.inl rfl) e,mA,⟨od,es,ep,k _ _ (.inr d) e2,c⟩,r⟩
 | own y=>obtain ⟨ob,e⟩:=x;exact ⟨ob,k _ _ (.inl rfl) e⟩
 | xd fs=>obtain ⟨mA,⟨od,es,ep,e,c⟩,r⟩:=x;exact ⟨mA,⟨od,es,ep,k _ _ (.inl rfl) e,c⟩,r⟩
 | rng lo hi=>obtain ⟨t,u,v,e⟩:=x;exact ⟨t,u,v,k _ _ (.inl rfl) e⟩
 | frz ob u ih=>obtain ⟨e,q⟩:=x;exact ⟨k _ _ (.inl rfl) e,ih q⟩
 | tbl ps =>
  have e:h.get? a=some { cls:=.none,data:=.fields ps }:=x
  show h'.get? a=some { cls:=.none,data:=.fields ps }
  exact k a _ (.inl rfl) e
 | met f y =>
  have e:h.get? a=some (PySem.W.methodObj (.ref f) (.ref y)):=x
  show h'.get? a=some (PySem.W.methodObj (.ref f) (.ref y))
  exact k a _ (.inl rfl) e
 | ext φ=>obtain ⟨p,⟨o,e⟩,st⟩:=x;exact ⟨st _ _ p fun o q=>k _ _ (.inl rfl) q,⟨o,k _ _ (.inl rfl) e⟩,st⟩
theorem HOk.lt (x:HOk P w H h) (e:H a=some o):a < h.objs.size:=(x a o e).lt
theorem HOk.fresh (x:HOk P w H h) (e:h.objs.size<=a):H a=none:=by
 cases q:H a with
 | none=>rfl
 | some u=>exact absurd (Nat.lt_of_lt_of_le (x.lt q) e) (Nat.lt_irrefl _)
theorem HOk.kept (x:HOk P w H h) (k:∀ b u,h.get? b=some u->h'.get? b=some u):HOk P w H h':=fun a o e =>
 (x a o e).stay (fun b u _ q=>k b u q) (fun _ q=>q) fun _ _ q=>q
theorem HOk.laid (x:HOk P w H h) (k:∀ b u,h.get? b=some u->h'.get? b=some u) (hp:h.objs.size<=a) (new:zbJ P w (upd H a o) h' a o):HOk P w (upd H a o) h':=fun b u e=>by
 have hn:=x.fresh hp
 by_cases hb:b=a
 ·subst hb;rw [zao] at e;cases e;exact new
 ·rw [zax hb] at e
  exact (x b u e).stay (fun c v _ q=>k c v q) (fun c q=>by rw [zax (zb2 q hn)];exact q) fun c xs q=>q.upd (fun _ r=>zb2 r hn) fun _ _ r=>zb2 r hn
end
def Rd (H:Hp) (a:Addr) (u:HO):Prop:=H a=some u\/∃ o,H a=some (.frz o u)
theorem Rd.ok {P:Program} {w:World} {H:Hp} {h:Heap} {a:Addr} {u:HO} (r:Rd H a u) (x:HOk P w H h):zbJ P w H h a u:=by
 rcases r with r | ⟨o,r⟩
 ·exact x a u r
 ·obtain ⟨_,q⟩:=x a _ r
  exact q
def Mut:Option HO->Prop
 | some (.lst _)=>True
 | some (.dK _)=>True
 | some (.dT _)=>True
 | some (.set _ _)=>True
 | some (.ins _ _ _)=>True
 | some (.ext _)=>True
 | _=>False
section
variable {P:Program} {w:World} {H:Hp} {h h':Heap} {x e:Addr} {o':HO}
theorem HOk.write (ok:HOk P w H h) (mu:Mut (H x)) (he:e=x\/H e=some (.own x)) (k:∀ b u,b ≠ e->h.get? b=some u->h'.get? b=some u) (heo:∃ u,h'.get? e=some u)
  (new:zbJ P w (upd H x o') h' x o'):HOk P w (upd H x o') h':=fun b u q=>by
 have nown:∀ c y,H c=some (.own y)->c ≠ x:=fun c y r z=>by subst z;rw [r] at mu;exact mu
 have ntup:∀ c xs,H c=some (.tup xs)->c ≠ x:=fun c xs r z=>by subst z;rw [r] at mu;exact mu
 by_cases hb:b=x
 ·subst hb;rw [zao] at q;cases q;exact new
 ·rw [zax hb] at q
  by_cases hbe:b=e
  ·have q':H b=some (.own x):=by
    rcases he with z | z
    ·exact absurd (hbe.trans z) hb
    ·rw [hbe];exact z
   rw [q] at q';cases q'
   obtain ⟨v,hv⟩:=heo
   exact ⟨v,by rw [hbe];exact hv⟩
  ·refine (ok b u q).stay (fun c v hc r=>k c v ?_ r) (fun c r=>by rw [zax (nown c b r)];exact r) fun c xs r=>r.upd (fun ys z=>ntup c ys z) fun o ys z e=>by subst e;rw [z] at mu;exact mu
   rcases hc with rfl | hc
   ·exact hbe
   ·rintro rfl
    rcases he with z | z
    ·exact nown c b hc z
    ·rw [hc] at z;cases z;exact hb rfl
end
structure Un (fs ex:List Addr) (H H':Hp) (h h':Heap):Prop where
 keep:∀ b o,h.get? b=some o->H b=none->b ∉ fs->b ∉ ex->h'.get? b=some o
 slot:∀ b o,h.get? b=some o->H b=none->b ∈ fs->b ∉ ex->∃ sl,h'.get? b=some { o with slots:=sl }
 free:∀ b o,h.get? b=some o->H b=none->b ∉ ex->H' b=none
 there:∀ b o,h.get? b=some o->b ∉ ex->∃ o',h'.get? b=some o'
 tups:∀ b xs,H b=some (.tup xs)->H' b=some (.tup xs)
 frzs:∀ b o u,H b=some (.frz o u)->H' b=some (.frz o u)
 tbls:∀ b ps,H b=some (.tbl ps)->∃ more,H' b=some (.tbl (ps ++ more))
section
variable {fs fs' ex ex':List Addr} {H H1 H2:Hp} {h h1 h2 h':Heap} {a x e:Addr} {o:HO}
theorem Un.any (u:Un fs ex H H1 h h1) {b:Addr} {ob:Obj} (q:h.get? b=some ob) (n:H b=none) (hx:b ∉ ex):∃ sl,h1.get? b=some { ob with slots:=sl }:=by
 by_cases hb:b ∈ fs
 ·exact u.slot b ob q n hb hx
 ·exact ⟨ob.slots,u.keep b ob q n hb hx⟩
theorem Un.kept (k:∀ b u,h.get? b=some u->h'.get? b=some u):Un fs ex H H h h' :=
 ⟨fun b ob q _ _ _=>k b ob q,fun b ob q _ _ _=>⟨ob.slots,k b ob q⟩,fun _ _ _ n _=>n,fun b ob q _=>⟨ob,k b ob q⟩,fun _ _ q=>q,fun _ _ _ q=>q,fun _ ps q=>⟨#[],by rw [q];simp⟩⟩
theorem Un.refl:Un fs ex H H h h:=Un.kept fun _ _ q=>q
theorem Un.laid (k:∀ b u,h.get? b=some u->h'.get? b=some u) (hp:h.objs.size<=a) (hn:H a=none):Un fs ex H (upd H a o) h h' where
 keep:=fun b u q _ _ _=>k b u q
 slot:=fun b u q _ _ _=>⟨u.slots,k b u q⟩
 free:=fun b u q n _=>by rw [zax (Nat.ne_of_lt (Nat.lt_of_lt_of_le (Heap.lt_size q) hp))];exact n
 there:=fun b u q _=>⟨u,k b u q⟩
 tups:=fun b xs q=>by rw [zax (zb2 q hn)];exact q
 frzs:=fun b u xs q=>by rw [zax (zb2 q hn)];exact q
 tbls:=fun b ps q=>⟨#[],by rw [zax (zb2 q hn),q];simp⟩
theorem Un.write (mu:Mut (H x)) (he:e=x\/H e=some (.own x)) (k:∀ b u,b ≠ e->h.get? b=some u->h'.get? b=some u) (heo:∃ u,h'.get? e=some u):Un fs ex H (upd H x o) h h':=by
 have hx:∀ b,H b=none->b ≠ x:=fun b n z=>by subst z;rw [n] at mu;exact mu
 have hb:∀ b,H b=none->b ≠ e:=fun b n z=>by
  subst z
  rcases he with r | r
  ·exact hx b n r
  ·rw [n] at r;cases r
 have hm:∀ b u,H b=some u->¬ Mut (some u)->b ≠ x:=fun b u q nm z=>by subst z;rw [q] at mu;exact nm mu
 refine ⟨fun b u q n _ _=>k b u (hb b n) q,fun b u q n _ _=>⟨u.slots,k b u (hb b n) q⟩,fun b u q n _=>by rw [zax (hx b n)];exact n,fun b u q _=>?_,
  fun b xs q=>by rw [zax (hm b _ q fun z=>z)];exact q,fun b u xs q=>by rw [zax (hm b _ q fun z=>z)];exact q,fun b ps q=>⟨#[],by rw [zax (hm b _ q fun z=>z),q];simp⟩⟩
 by_cases hbe:b=e
 ·subst hbe;exact heo
 ·exact ⟨u,k b u hbe q⟩
end
def trk (h:Heap) (H:Hp):List Addr:=(List.range h.objs.size).filter fun a=>(H a).isSome
def zsI (h:Heap) (H:Hp):Heap:=PySem.W.hideAll h (trk h H)
theorem zqQ (h:Heap) (H:Hp):(zsI h H).objs.size=h.objs.size:=PySem.W.hideAll_size _ _
theorem zsH {h:Heap} {H:Hp} {b:Addr} {o:Obj} (e:h.get? b=some o) (n:H b=none):(zsI h H).get? b=some o :=
 PySem.W.hideAll_get _ e fun hm=>by
  have q:(H b).isSome=true:=(List.mem_filter.mp hm).2
  rw [n] at q;simp at q
theorem zuV {h:Heap} {H:Hp} {b:Addr} {o:Obj} (e:(zsI h H).get? b=some o):h.get? b=some o/\H b=none:=by
 have e':h.get? b=some o:=PySem.W.of_hideAll (trk h H) e
 refine ⟨e',?_⟩
 cases q:H b with
 | none=>rfl
 | some x =>
  have hm:b ∈ trk h H:=List.mem_filter.mpr ⟨List.mem_range.mpr (Heap.lt_size e'),by simp [q]⟩
  have z:(zsI h H).get? b=none:=PySem.W.hideAll_none (trk h H) hm
  rw [z] at e;cases e
def zvC (g h:Heap) (L:Addr):List (Addr × Obj):=(List.range h.objs.size).filterMap fun a=>if a=L\/(g.get? a).isSome=true then none else (h.get? a).map fun o=>(a,o)
def rest (g h:Heap) (L d:Addr):List (Addr × Obj):=(zvC g h L).filter fun p=>decide (p.1 ≠ d)
end L2
namespace L2
open PySem PySem.Spec PyProof.Rows
structure Mod (K:PySem.W.Frag) (mg:Str->Option Value) (base:Heap):Prop where
 kin:K.In base
 glob:base.Ns mainGlobals mg
 blt:∃ mb,base.Ns builtinsNs mb/\∀ x:Str,x ≠ "__name__"->mb x=bootBuiltins x
 nolimit:base.NoLimit
 seer:base.NoSeer
def zzM (l:List Env):Prop:=∃ env r,l=env :: r/\env.scope.isGenerator=false/\env.scope.isCoroutine=false/\env.builtins=builtinsNs/\env.globals=mainGlobals
structure Cx where
 prog:Program
 w:World
 K:PySem.W.Frag
 mg:Str->Option Value
 base:Heap
 A:Around
 N:List Str
 s₀:Shared
 H₀:Hp
 env:Env
 outer:List Env
 stack:List Env
 ex:List Addr
 fn:Str->Bool
 calm:Bool
 pn:List (Addr × Obj)
 xe:Value->Shared->Prop
def frs (l:List Env):List Addr:=l.filterMap (·.frame)
abbrev Cx.fs (X:Cx):List Addr:=frs X.outer
def Vis (sc:Scope) (x:Str):Prop:=sc.names.lookup x=some .local\/sc.names.lookup x=some .cell\/sc.names.lookup x=some .free
def Loc (sc:Scope) (x:Str):Prop:=sc.names.lookup x=some .local\/sc.names.lookup x=some .cell
def Look (env:Env) (h:Heap) (m:Str->Option Value) (x:Str) (u:Value):Prop :=
 (env.kindOf x=some .local/\m x=some u)\/((env.kindOf x=some .cell\/env.kindOf x=some .free)/\∃ c,env.cells.lookup x=some c/\h.IsCell c (some u))
structure Cx.Ok (X:Cx):Prop where
 mod:Mod X.K X.mg X.base
 kind:X.env.scope.kind=.function
 glob:X.env.globals=mainGlobals
 blt:X.env.builtins=builtinsNs
 above:X.s₀.heap.objs.size<=X.env.locals
 inj:∀ x y c,X.env.cells.lookup x=some c->X.env.cells.lookup y=some c->x=y
 has:∀ x,(X.env.kindOf x=some .cell\/X.env.kindOf x=some .free)->∃ c,X.env.cells.lookup x=some c
 cab:∀ x c,X.fn x=true->X.env.cells.lookup x=some c->X.s₀.heap.objs.size<=c
 hd:X.calm=true->X.A.handled=none
 frames:X.A.frames=some X.stack
 stk:X.stack=X.outer\/(X.stack=X.env :: X.outer/\X.env.frame=some X.env.locals)
 exf:∀ b ∈ X.ex,b ≠ X.env.locals/\∀ x c,X.env.cells.lookup x=some c->c ≠ b
 bs:∀ b o,X.base.get? b=some o->X.s₀.heap.get? b=some o/\X.H₀ b=none
 bsz:X.base.objs.size<=X.s₀.heap.objs.size
 noex:∀ b o,X.base.get? b=some o->b ∉ X.ex
 exfs:∀ b ∈ X.ex,b ∉ X.fs
 zqY:X.s₀.heap.FunFrames X.base X.outer
 frf:∀ b ∈ X.fs,X.H₀ b=none
 tree:X.prog.given.tree=none
 sk:zzM X.stack
structure Inv (X:Cx) (pins:List (Addr × Obj)) (σ:List (Option V)) (H:Hp) (s:Shared):Prop where
 ok:X.Ok
 os:s.os=X.s₀.os
 bare:AllBare s.gens
 base:Un X.fs X.ex X.H₀ H X.s₀.heap s.heap
 loc:∃ m,s.heap.Ns X.env.locals m/\∀ (i:Nat) (x:Str) (v:V),X.N[i]?=some x->σ[i]?=some (some v)->Vis X.env.scope x->∃ u,RelV v u/\Look X.env s.heap m x u
 cell:∀ x c,X.env.cells.lookup x=some c->∃ v,s.heap.IsCell c v
 free:H X.env.locals=none
 freeC:∀ x c,X.env.cells.lookup x=some c->H c=none
 pin:∀ p ∈ X.pn ++ pins,s.heap.get? p.1=some p.2/\H p.1=none/\p.1 ≠ X.env.locals/\p.1 ∉ X.fs/\∀ v,p.2.data ≠ .cell v
 hok:HOk X.prog X.w H s.heap
 len:σ.length=X.N.length
section
variable {X:Cx} {pins:List (Addr × Obj)} {σ:List (Option V)} {H H':Hp} {s:Shared} {h':Heap}
theorem Cx.Ok.zzv (ok:X.Ok) {b:Addr} {o:Obj} (e:X.base.get? b=some o):b ∉ X.fs:=fun hb=>by
 have:=(ok.zqY.mem hb).1
 rw [e] at this;cases this
theorem Inv.bs (I:Inv X pins σ H s):∀ b o,X.base.get? b=some o->s.heap.get? b=some o/\H b=none:=fun b o e =>
 ⟨I.base.keep b o (I.ok.bs b o e).1 (I.ok.bs b o e).2 (I.ok.zzv e) (I.ok.noex b o e),I.base.free b o (I.ok.bs b o e).1 (I.ok.bs b o e).2 (I.ok.noex b o e)⟩
theorem Inv.bk (I:Inv X pins σ H s):∀ b o,X.base.get? b=some o->s.heap.get? b=some o:=fun b o e=>(I.bs b o e).1
theorem Inv.mod (I:Inv X pins σ H s):Mod X.K X.mg X.base:=I.ok.mod
theorem Inv.kIn (I:Inv X pins σ H s):X.K.In s.heap:=I.ok.mod.kin.keeps I.bk
theorem Inv.nolimit (I:Inv X pins σ H s):s.heap.NoLimit:=I.ok.mod.nolimit.keeps I.bk
theorem Inv.lt (I:Inv X pins σ H s):X.env.locals < s.heap.objs.size:=let ⟨_,hn,_⟩:=I.loc;hn.lt
theorem Inv.sz (I:Inv X pins σ H s):X.s₀.heap.objs.size<=s.heap.objs.size:=Nat.le_trans I.ok.above (Nat.le_of_lt I.lt)
theorem Inv.zzu (I:Inv X pins σ H s) {a:Addr} (h:s.heap.objs.size<=a):a ∉ X.fs:=fun hb=>by
 obtain ⟨_,o,ho,_⟩:=I.ok.zqY.mem hb
 exact absurd (Nat.lt_of_lt_of_le (Heap.lt_size ho) (Nat.le_trans I.sz h)) (Nat.lt_irrefl _)
theorem Inv.cne (I:Inv X pins σ H s):∀ x c,X.env.cells.lookup x=some c->c ≠ X.env.locals:=fun x c e z=>by
 obtain ⟨v,o,ho,hd⟩:=I.cell x c e
 obtain ⟨m,⟨o',es,ep,ho',hd',_⟩,_⟩:=I.loc
 rw [z,ho'] at ho;cases ho;rw [hd'] at hd;cases hd
theorem Inv.zqY (I:Inv X pins σ H s):s.heap.FunFrames X.base X.outer:=by
 have all:∀ (l:List Env),(∀ b ∈ frs l,b ∈ X.fs)->X.s₀.heap.FunFrames X.base l->s.heap.FunFrames X.base l:=by
  intro l
  induction l with
  | nil=>intro _ _;trivial
  | cons env r ih =>
   intro hs hl
   obtain ⟨hk,⟨L,o,hf,hn,ho,hd⟩,hr⟩:=hl
   have hL:L ∈ X.fs:=hs L (by unfold frs;rw [List.filterMap_cons,hf];exact List.mem_cons_self)
   obtain ⟨sl,e⟩:=I.base.slot L o ho (I.ok.frf L hL) hL fun z=>I.ok.exfs L z hL
   exact ⟨hk,⟨L,_,hf,hn,e,hd⟩,ih (fun b hb=>hs b (by unfold frs;rw [List.filterMap_cons,hf];exact List.mem_cons_of_mem _ hb)) hr⟩
 exact all X.outer (fun _ hb=>hb) I.ok.zqY
theorem Inv.stack (I:Inv X pins σ H s):s.heap.FunFrames X.base X.stack:=by
 rcases I.ok.stk with e | ⟨e,hf⟩
 ·rw [e];exact I.zqY
 ·rw [e]
  obtain ⟨m,hn,_⟩:=I.loc
  refine .cons (by rw [I.ok.kind];decide) hf hn ?_ I.zqY
  exact Heap.get?_none_of_le (Nat.le_trans I.ok.bsz I.ok.above)
theorem Inv.zpI (I:Inv X pins σ H s):∀ b ∈ frs X.stack,b ∈ X.env.locals :: X.fs:=fun b hb=>by
 rcases I.ok.stk with e | ⟨e,hf⟩
 ·rw [e] at hb;exact List.mem_cons_of_mem _ hb
 ·rw [e] at hb
  unfold frs at hb
  rw [List.filterMap_cons,hf] at hb
  exact hb
theorem Inv.zpJ (I:Inv X pins σ H s):∀ b ∈ frs X.stack,H b=none:=fun b hb=>by
 rcases List.mem_cons.mp (I.zpI b hb) with e | hb
 ·rw [e];exact I.free
 ·obtain ⟨_,o,ho,_⟩:=I.ok.zqY.mem hb
  exact I.base.free b o ho (I.ok.frf b hb) fun z=>I.ok.exfs b z hb
theorem Inv.step {g':Array GenState} {t':Nat} {d':Drawn} {ch:List Addr} (I:Inv X pins σ H s)
  (hch:∀ b ∈ ch,(b ∈ X.ex\/X.s₀.heap.objs.size<=b)/\b ≠ X.env.locals/\(∀ x c,X.env.cells.lookup x=some c->c ≠ b)/\∀ p ∈ X.pn ++ pins,p.1 ≠ b)
  (keep:∀ b o,b ≠ X.env.locals->b ∉ X.fs->b ∉ ch->s.heap.get? b=some o->H b=none->h'.get? b=some o)
  (slot:∀ b o,b ≠ X.env.locals->b ∈ X.fs->b ∉ ch->s.heap.get? b=some o->H b=none->∃ sl,h'.get? b=some { o with slots:=sl }) (free:∀ b o,b ∉ ch->s.heap.get? b=some o->H b=none->H' b=none)
  (there:∀ b o,b ∉ ch->s.heap.get? b=some o->∃ o',h'.get? b=some o')
  (tups:∀ b xs,H b=some (.tup xs)->H' b=some (.tup xs)) (frzs:∀ b o u,H b=some (.frz o u)->H' b=some (.frz o u)) (tbls:∀ b ps,H b=some (.tbl ps)->∃ more,H' b=some (.tbl (ps ++ more)))
  (ns:∀ m,s.heap.Ns X.env.locals m->h'.Ns X.env.locals m) (hok:HOk X.prog X.w H' h') (hg:AllBare g') :
  Inv X pins σ H' { s with heap:=h',gens:=g',drawn:=d',toks:=t' }:=by
 have neL:∀ b o,X.s₀.heap.get? b=some o->b ≠ X.env.locals:=fun b o e=>Nat.ne_of_lt (Nat.lt_of_lt_of_le (Heap.lt_size e) I.ok.above)
 have neC:∀ b o,X.s₀.heap.get? b=some o->b ∉ X.ex->b ∉ ch:=fun b o e hx hb=>by
  rcases (hch b hb).1 with z | z
  ·exact hx z
  ·exact absurd (Nat.lt_of_lt_of_le (Heap.lt_size e) z) (Nat.lt_irrefl _)
 have cellK:∀ x c,X.env.cells.lookup x=some c->∀ v,s.heap.IsCell c v->h'.IsCell c v:=fun x c e v ⟨o,ho,hd⟩=>by
  have nch:c ∉ ch:=fun z=>(hch c z).2.2.1 x c e rfl
  by_cases hc:c ∈ X.fs
  ·obtain ⟨sl,q⟩:=slot c o (I.cne x c e) hc nch ho (I.freeC x c e)
   exact ⟨_,q,hd⟩
  ·exact ⟨o,keep c o (I.cne x c e) hc nch ho (I.freeC x c e),hd⟩
 refine ⟨I.ok,I.os,hg,⟨fun b o e n hb hx=>?_,fun b o e n hb hx=>?_,fun b o e n hx=>?_,fun b o e hx=>?_,fun b xs e=>tups b xs (I.base.tups b xs e),fun b o xs e=>frzs b o xs (I.base.frzs b o xs e),fun b ps e=>?_⟩,?_,fun x c e=>?_,?_,fun x c e=>?_,fun p hp=>?_,hok,I.len⟩
 ·exact keep b o (neL b o e) hb (neC b o e hx) (I.base.keep b o e n hb hx) (I.base.free b o e n hx)
 ·obtain ⟨sl,e1⟩:=I.base.slot b o e n hb hx
  obtain ⟨sl',e2⟩:=slot b _ (neL b o e) hb (neC b o e hx) e1 (I.base.free b o e n hx)
  exact ⟨sl',e2⟩
 ·obtain ⟨o',e1⟩:=I.base.there b o e hx
  exact free b o' (neC b o e hx) e1 (I.base.free b o e n hx)
 ·obtain ⟨o',e1⟩:=I.base.there b o e hx
  exact there b o' (neC b o e hx) e1
 ·obtain ⟨m1,e1⟩:=I.base.tbls b ps e
  obtain ⟨m2,e2⟩:=tbls b _ e1
  exact ⟨m1 ++ m2,by rw [e2,Array.append_assoc]⟩
 ·obtain ⟨m,hn,hl⟩:=I.loc
  refine ⟨m,ns m hn,fun i x v e1 e2 e3=>?_⟩
  obtain ⟨u,r,l⟩:=hl i x v e1 e2 e3
  refine ⟨u,r,?_⟩
  rcases l with l | ⟨k,c,e,z⟩
  ·exact .inl l
  ·exact .inr ⟨k,c,e,cellK x c e _ z⟩
 ·obtain ⟨v,z⟩:=I.cell x c e
  exact ⟨v,cellK x c e v z⟩
 ·obtain ⟨m,⟨o,_,_,ho,_⟩,_⟩:=I.loc
  exact free _ o (fun z=>(hch _ z).2.1 rfl) ho I.free
 ·obtain ⟨v,o,ho,hd⟩:=I.cell x c e
  exact free c o (fun z=>(hch c z).2.2.1 x c e rfl) ho (I.freeC x c e)
 ·obtain ⟨e,n,ne,nf,d⟩:=I.pin p hp
  have nch:p.1 ∉ ch:=fun z=>(hch p.1 z).2.2.2 p hp rfl
  exact ⟨keep p.1 p.2 ne nf nch e n,free p.1 p.2 nch e n,ne,nf,d⟩
theorem Inv.un {t':Nat} (I:Inv X pins σ H s) (u:Un X.fs [] H H' s.heap h') (hok:HOk X.prog X.w H' h'):Inv X pins σ H' { s with heap:=h',toks:=t' }:=by
 obtain ⟨m,⟨o,es,ep,ho,r⟩,_⟩:=id I.loc
 obtain ⟨sl,hL⟩:=u.any ho I.free (by simp)
 exact I.step (g':=s.gens) (d':=s.drawn) (ch:=[]) (fun _ z=>nomatch z) (fun b o _ hb _ e n=>u.keep b o e n hb (by simp)) (fun b o _ hb _ e n=>u.slot b o e n hb (by simp)) (fun b o _ e n=>u.free b o e n (by simp)) (fun b o _ e=>u.there b o e (by simp)) u.tups u.frzs u.tbls (fun m' hm=>by
  obtain ⟨o',es',ep',ho',r'⟩:=hm
  rw [ho] at ho';cases ho'
  exact ⟨_,es',ep',hL,r'⟩) hok I.bare
theorem Inv.call {g':Array GenState} {t':Nat} {d':Drawn} {ch:List Addr} (I:Inv X pins σ H s) (u:Un (frs X.stack) ch H H' s.heap h') (hok:HOk X.prog X.w H' h') (hg:AllBare g')
  (hch:∀ b ∈ ch,(b ∈ X.ex\/X.s₀.heap.objs.size<=b)/\b ≠ X.env.locals/\(∀ x c,X.env.cells.lookup x=some c->c ≠ b)/\∀ p ∈ X.pn ++ pins,p.1 ≠ b) :
  Inv X pins σ H' { s with heap:=h',gens:=g',drawn:=d',toks:=t' }:=by
 obtain ⟨m,⟨o,es,ep,ho,r⟩,_⟩:=id I.loc
 obtain ⟨sl,hL⟩:=u.any ho I.free fun z=>(hch _ z).2.1 rfl
 exact I.step (ch:=ch) hch (fun b o hL hb hc e n=>u.keep b o e n (fun z=>(List.mem_cons.mp (I.zpI b z)).elim hL hb) hc) (fun b o _ _ hc e n=>u.any e n hc) (fun b o hc e n=>u.free b o e n hc) (fun b o hc e=>u.there b o e hc) u.tups u.frzs u.tbls (fun m' hm=>by
  obtain ⟨o',es',ep',ho',r'⟩:=hm
  rw [ho] at ho';cases ho'
  exact ⟨_,es',ep',hL,r'⟩) hok hg
theorem Inv.turned {t':Nat} {it:Addr} (I:Inv X pins σ H s) (k:∀ b o,b ≠ it->s.heap.get? b=some o->h'.get? b=some o) (hn:H it=none) (hL:it ≠ X.env.locals)
  (h1:it ∈ X.ex\/X.s₀.heap.objs.size<=it) (h2:∀ x c,X.env.cells.lookup x=some c->c ≠ it) (h3:∀ p ∈ X.pn ++ pins,p.1 ≠ it):Inv X pins σ H { s with heap:=h',toks:=t' }:=by
 have nit:∀ b u,H b=some u->b ≠ it:=fun b u e z=>by rw [z,hn] at e;cases e
 refine I.step (g':=s.gens) (d':=s.drawn) (ch:=[it]) (fun b hb=>?_) (fun b o _ _ hc e _=>k b o (fun z=>hc (by simp [z])) e) (fun b o _ _ hc e _=>⟨o.slots,k b o (fun z=>hc (by simp [z])) e⟩) (fun _ _ _ _ n=>n)
  (fun b o hc e=>⟨o,k b o (fun z=>hc (by simp [z])) e⟩) (fun _ _ e=>e) (fun _ _ _ e=>e) (fun b ps e=>⟨#[],by rw [e];simp⟩) (fun m hm=>?_) (fun b u e=>?_) I.bare
 ·have e:b=it:=by simpa using hb
  subst e
  exact ⟨h1,hL,h2,h3⟩
 ·obtain ⟨o,es,ep,ho,r⟩:=hm
  exact ⟨o,es,ep,k _ o (Ne.symm hL) ho,r⟩
 ·refine (I.hok b u e).stay (fun c v hc q=>k c v ?_ q) (fun _ q=>q) fun _ _ q=>q
  rcases hc with z | z
  ·rw [z];exact nit b u e
  ·exact nit c _ z
theorem Inv.tok (I:Inv X pins σ H s) (t:Nat):Inv X pins σ H { s with toks:=t }:=I.un (h':=s.heap) (t':=t) Un.refl I.hok
theorem Inv.kept {t':Nat} (I:Inv X pins σ H s) (k:∀ b u,s.heap.get? b=some u->h'.get? b=some u):Inv X pins σ H { s with heap:=h',toks:=t' }:=I.un (Un.kept k) (I.hok.kept k)
theorem Inv.laid {a:Addr} {o:HO} {t':Nat} (I:Inv X pins σ H s) (k:∀ b u,s.heap.get? b=some u->h'.get? b=some u) (hp:s.heap.objs.size<=a) (new:zbJ X.prog X.w (upd H a o) h' a o) :
  Inv X pins σ (upd H a o) { s with heap:=h',toks:=t' }:=I.un (Un.laid k hp (I.hok.fresh hp)) (I.hok.laid k hp new)
theorem Inv.write {x e:Addr} {o:HO} {t':Nat} (I:Inv X pins σ H s) (mu:Mut (H x)) (he:e=x\/H e=some (.own x)) (k:∀ b u,b ≠ e->s.heap.get? b=some u->h'.get? b=some u) (heo:∃ u,h'.get? e=some u)
  (new:zbJ X.prog X.w (upd H x o) h' x o):Inv X pins σ (upd H x o) { s with heap:=h',toks:=t' }:=I.un (Un.write mu he k heo) (I.hok.write mu he k heo new)
theorem Inv.weak {σ':List (Option V)} (I:Inv X pins σ H s) (hl:σ'.length=σ.length) (w:∀ (i:Nat) v,σ'[i]?=some (some v)->σ[i]?=some (some v)):Inv X pins σ' H s :=
 ⟨I.ok,I.os,I.bare,I.base,let ⟨m,hn,hl'⟩:=I.loc;⟨m,hn,fun i x v e1 e2 e3=>hl' i x v e1 (w i v e2) e3⟩,I.cell,I.free,I.freeC,I.pin,I.hok,hl.trans I.len⟩
theorem Inv.zqd {pins':List (Addr × Obj)} (I:Inv X pins σ H s) (h:∀ p ∈ pins',s.heap.get? p.1=some p.2/\H p.1=none/\p.1 ≠ X.env.locals/\p.1 ∉ X.fs/\∀ v,p.2.data ≠ .cell v):Inv X pins' σ H s :=
 ⟨I.ok,I.os,I.bare,I.base,I.loc,I.cell,I.free,I.freeC,fun p hp=>(List.mem_append.mp hp).elim (fun z=>I.pin p (List.mem_append_left _ z)) (h p),I.hok,I.len⟩
theorem znV {N:List Str} (hN:N.Nodup) {i j:Nat} {x:Str} (a:N[i]?=some x) (b:N[j]?=some x):i=j:=by
 obtain ⟨h1,e1⟩:=List.getElem?_eq_some_iff.mp a
 obtain ⟨h2,e2⟩:=List.getElem?_eq_some_iff.mp b
 exact (List.getElem_inj hN).mp (e1.trans e2.symm)
theorem zlh {M:Model} {A:Around} {E:Value->Shared->Prop} {i:Nat} {x:Str} {v:V} {u:Value} {Q:Unit->Shared->Prop} (I:Inv X pins σ H s) (hN:X.N.Nodup) (hi:X.N[i]?=some x) (hx:Loc X.env.scope x) (r:RelV v u)
  (h:∀ s',Inv X pins (σ.set i (some v)) H s'->(∃ a,Heap.SameBut a s.heap s'.heap/\(a=X.env.locals\/X.env.cells.lookup x=some a))->Q () s') (hf:X.fn x=true\/X.env.scope.names.lookup x=some .local:=by first | exact .inl rfl | exact .inr rfl | assumption):wpAny M A (storeName X.env x u) Q E s:=by
 obtain ⟨m,hn,hl⟩:=id I.loc
 have hcls:(X.env.scope.kind == .class || (X.env.scope.kind == .module && X.env.locals != X.env.globals))=false:=by rw [I.ok.kind];rfl
 have hiσ:i < σ.length:=by rw [I.len];exact (List.getElem?_eq_some_iff.mp hi).1
 have cne:=I.cne
 have tracked:∀ {a:Addr} {h':Heap},(∃ o,s.heap.get? a=some o/\H a=none)->Heap.SameBut a s.heap h'->HOk X.prog X.w H h':=fun {a h'} ha hs b ob e=>by
  obtain ⟨_,_,hfree⟩:=ha
  refine (I.hok b ob e).stay (fun c w' hc q=>(hs.2 c ?_).trans q) (fun _ q=>q) fun _ _ q=>q
  rintro rfl
  rcases hc with rfl | hc
  ·rw [hfree] at e;cases e
  ·rw [hfree] at hc;cases hc
 rcases hx with hk | hk
 ·refine wpAny_storeName_local hk hn (fun h' hn' hs=>?_) hcls
  obtain ⟨oL,_,_,hoL,_⟩:=id hn
  refine h _ ⟨I.ok,I.os,I.bare,⟨fun b o e n hb hx=>?_,fun b o e n hb hx=>?_,I.base.free,fun b o e hx=>?_,I.base.tups,I.base.frzs,I.base.tbls⟩,⟨_,hn',fun j y v' e1 e2 e3=>?_⟩,fun y c e=>?_,I.free,I.freeC,fun p hp=>?_,tracked ⟨oL,hoL,I.free⟩ hs,by simpa using I.len⟩ ⟨_,hs,.inl rfl⟩
  ·exact (hs.2 b (Nat.ne_of_lt (Nat.lt_of_lt_of_le (Heap.lt_size e) I.ok.above))).trans (I.base.keep b o e n hb hx)
  ·obtain ⟨sl,e1⟩:=I.base.slot b o e n hb hx
   exact ⟨sl,(hs.2 b (Nat.ne_of_lt (Nat.lt_of_lt_of_le (Heap.lt_size e) I.ok.above))).trans e1⟩
  ·obtain ⟨o',e1⟩:=I.base.there b o e hx
   exact ⟨o',(hs.2 b (Nat.ne_of_lt (Nat.lt_of_lt_of_le (Heap.lt_size e) I.ok.above))).trans e1⟩
  ·by_cases hj:j=i
   ·subst hj
    rw [hi] at e1;cases e1
    rw [List.getElem?_set_self hiσ] at e2
    cases e2
    exact ⟨u,r,.inl ⟨hk,by simp⟩⟩
   ·rw [List.getElem?_set_ne (Ne.symm hj)] at e2
    obtain ⟨u',r',q⟩:=hl j y v' e1 e2 e3
    refine ⟨u',r',?_⟩
    rcases q with ⟨k,e⟩ | ⟨k,c,e,z⟩
    ·refine .inl ⟨k,?_⟩
     have:y ≠ x:=fun e=>hj (znV hN e1 (e ▸ hi))
     simp [this,e]
    ·exact .inr ⟨k,c,e,z.sameBut hs (cne y c e)⟩
  ·obtain ⟨w',z⟩:=I.cell y c e
   exact ⟨w',z.sameBut hs (cne y c e)⟩
  ·obtain ⟨e,n,ne,nf,d⟩:=I.pin p hp
   exact ⟨(hs.2 p.1 ne).trans e,n,ne,nf,d⟩
 ·have hfn:X.fn x=true:=by
   rcases hf with z | z
   ·exact z
   ·rw [z] at hk;cases hk
  obtain ⟨c,hc⟩:=I.ok.has x (.inl hk)
  obtain ⟨w',z⟩:=I.cell x c hc
  refine wpAny_storeName_cell I.ok.kind hk hc z (fun h' hc' hs=>?_)
  obtain ⟨oc,hoc,hocd⟩:=id z
  refine h { s with heap:=h' } ⟨I.ok,I.os,I.bare,⟨fun b o e n hb hx=>?_,fun b o e n hb hx=>?_,I.base.free,fun b o e hx=>?_,I.base.tups,I.base.frzs,I.base.tbls⟩,⟨m,hn.sameBut hs (Ne.symm (cne x c hc)),fun j y v' e1 e2 e3=>?_⟩,fun y c' e=>?_,I.free,I.freeC,fun p hp=>?_,tracked ⟨oc,hoc,I.freeC x c hc⟩ hs,by simpa using I.len⟩ ⟨c,hs,.inr hc⟩
  ·exact (hs.2 b (Nat.ne_of_lt (Nat.lt_of_lt_of_le (Heap.lt_size e) (I.ok.cab x c hfn hc)))).trans (I.base.keep b o e n hb hx)
  ·obtain ⟨sl,e1⟩:=I.base.slot b o e n hb hx
   exact ⟨sl,(hs.2 b (Nat.ne_of_lt (Nat.lt_of_lt_of_le (Heap.lt_size e) (I.ok.cab x c hfn hc)))).trans e1⟩
  ·obtain ⟨o',e1⟩:=I.base.there b o e hx
   exact ⟨o',(hs.2 b (Nat.ne_of_lt (Nat.lt_of_lt_of_le (Heap.lt_size e) (I.ok.cab x c hfn hc)))).trans e1⟩
  ·by_cases hj:j=i
   ·subst hj
    rw [hi] at e1;cases e1
    rw [List.getElem?_set_self hiσ] at e2
    cases e2
    exact ⟨u,r,.inr ⟨.inl hk,c,hc,hc'⟩⟩
   ·rw [List.getElem?_set_ne (Ne.symm hj)] at e2
    obtain ⟨u',r',q⟩:=hl j y v' e1 e2 e3
    refine ⟨u',r',?_⟩
    rcases q with q | ⟨k,c',e,z'⟩
    ·exact .inl q
    ·refine .inr ⟨k,c',e,z'.sameBut hs ?_⟩
     rintro rfl
     exact hj (znV hN e1 (I.ok.inj _ _ _ e hc ▸ hi))
  ·by_cases hcc:c'=c
   ·subst hcc;exact ⟨_,hc'⟩
   ·obtain ⟨w2,z2⟩:=I.cell y c' e
    exact ⟨w2,z2.sameBut hs hcc⟩
  ·obtain ⟨e,n,ne,nf,d⟩:=I.pin p hp
   refine ⟨(hs.2 p.1 ?_).trans e,n,ne,nf,d⟩
   intro q
   rw [q,hoc] at e
   have q':oc=p.2:=Option.some.inj e
   exact d w' (by rw [<- q'];exact hocd)
theorem zhl {M:Model} {A:Around} {E:Value->Shared->Prop} {i:Nat} {x:Str} {v:V} {u:Value} {Q:Unit->Shared->Prop} (I:Inv X pins σ H s) (hN:X.N.Nodup) (hi:X.N[i]?=some x) (hx:Loc X.env.scope x) (r:RelV v u)
  (h:∀ s',Inv X pins (σ.set i (some v)) H s'->Q () s') (hf:X.fn x=true\/X.env.scope.names.lookup x=some .local:=by first | exact .inl rfl | exact .inr rfl | assumption):wpAny M A (storeName X.env x u) Q E s :=
 zlh I hN hi hx r (fun s' I' _=>h s' I') hf
theorem Inv.call' {s':Shared} {ch:List Addr} (I:Inv X pins σ H s) (ho:s'.os=s.os) (u:Un (frs X.stack) ch H H' s.heap s'.heap) (hok:HOk X.prog X.w H' s'.heap) (hg:AllBare s'.gens)
  (hch:∀ b ∈ ch,(b ∈ X.ex\/X.s₀.heap.objs.size<=b)/\b ≠ X.env.locals/\(∀ x c,X.env.cells.lookup x=some c->c ≠ b)/\∀ p ∈ X.pn ++ pins,p.1 ≠ b):Inv X pins σ H' s':=by
 obtain ⟨h',g',d',t',o'⟩:=s'
 have e:o'=s.os:=ho
 subst e
 exact I.call (g':=g') (t':=t') (d':=d') u hok hg hch
end
abbrev XK:=Value->Option Addr->Hp->Prop
abbrev St:=List (Option V)
abbrev VK:=V->Hp->Prop
abbrev TE:=St->Hp->VK->Prop
abbrev TT:=St->Hp->(Bool->Hp->Prop)->Prop
abbrev TA:=St->Hp->(List V->Hp->Prop)->Prop
structure Ends where
 nx:St->Hp->Prop
 rt:VK
 bk:St->Hp->Prop:=fun _ _=>False
 ct:St->Hp->Prop:=fun _ _=>False
abbrev TS:=Ends->St->Hp->Prop
def EP (X:Cx) (pins:List (Addr × Obj)) (σ:St) (Q:VK) (u:Value) (s':Shared):Prop:=∃ v H',Inv X pins σ H' s'/\RelV v u/\Q v H'
def TP (X:Cx) (pins:List (Addr × Obj)) (σ:St) (Q:Bool->Hp->Prop) (b:Bool) (s':Shared):Prop:=∃ H',Inv X pins σ H' s'/\Q b H'
def AP (X:Cx) (pins:List (Addr × Obj)) (σ:St) (Q:List V->Hp->Prop) (us:List Value) (s':Shared):Prop:=∃ vs H',Inv X pins σ H' s'/\Vals vs us/\Q vs H'
def SP (X:Cx) (pins:List (Addr × Obj)) (D:Ends) (f:Flow) (s':Shared):Prop :=
 match f with
 | .next=>∃ σ' H',Inv X pins σ' H' s'/\D.nx σ' H'
 | .brk=>∃ σ' H',Inv X pins σ' H' s'/\D.bk σ' H'
 | .cont=>∃ σ' H',Inv X pins σ' H' s'/\D.ct σ' H'
 | .ret u=>∃ v σ' H',Inv X pins σ' H' s'/\RelV v u/\D.rt v H'
def PE (X:Cx) (e:Expr) (t:TE):Prop :=
 ∀ (pins:List (Addr × Obj)) (s:Shared) (σ:St) (H:Hp) (Q:VK),Inv X pins σ H s->t σ H Q->wpAny (model X.prog X.w) X.A (eval e X.env) (EP X pins σ Q) X.xe s
def PT (X:Cx) (e:Expr) (t:TT):Prop :=
 ∀ (pins:List (Addr × Obj)) (s:Shared) (σ:St) (H:Hp) (Q:Bool->Hp->Prop),Inv X pins σ H s->t σ H Q->wpAny (model X.prog X.w) X.A (isTrue e X.env (eval e X.env)) (TP X pins σ Q) X.xe s
def PW (X:Cx) (e:Expr) (t:TT):Prop :=
 ∀ (whole:Sem Value) (pins:List (Addr × Obj)) (s:Shared) (σ:St) (H:Hp) (Q:Bool->Hp->Prop),Inv X pins σ H s->t σ H Q->wpAny (model X.prog X.w) X.A (isTrue e X.env whole) (TP X pins σ Q) X.xe s
theorem PW.pt {X:Cx} {e:Expr} {t:TT} (h:PW X e t):PT X e t:=h _
def PA (X:Cx) (es:List Expr) (t:TA):Prop :=
 ∀ (pos:Pos) (pins:List (Addr × Obj)) (s:Shared) (σ:St) (H:Hp) (Q:List V->Hp->Prop),Inv X pins σ H s->t σ H Q->wpAny (model X.prog X.w) X.A (spliced (backTo pos (starEach es X.env))) (AP X pins σ Q) X.xe s
def PS (X:Cx) (st:Stmt) (t:TS):Prop :=
 ∀ (pins:List (Addr × Obj)) (s:Shared) (σ:St) (H:Hp) (D:Ends),Inv X pins σ H s->t D σ H->wpAny (model X.prog X.w) X.A (exec st X.env) (SP X pins D) X.xe s
def PSs (X:Cx) (st:List Stmt) (t:TS):Prop :=
 ∀ (pins:List (Addr × Obj)) (s:Shared) (σ:St) (H:Hp) (D:Ends),Inv X pins σ H s->t D σ H->wpAny (model X.prog X.w) X.A (execs st X.env) (SP X pins D) X.xe s
theorem thn {α:Type} {t:Sem α} {Q Q':α->Shared->Prop} {M:Model} {A:Around} {E:Value->Shared->Prop} {s:Shared} (h:wpAny M A t Q E s) (hQ:∀ a s,Q a s->Q' a s):wpAny M A t Q' E s:=wpAny_mono h hQ fun _ _ x=>x
end L2
namespace L2
open PySem PySem.Spec PyProof.Rows
section
variable {X:Cx}
def zrJ (i:Nat):TE:=fun σ H Q=>∃ v,σ[i]?=some (some v)/\Q v H
def tC (v:V):TE:=fun _ H Q=>Q v H
theorem ztw {i:Nat} {x:Str} {pos:Pos} (hN:X.N[i]?=some x) (hv:Vis X.env.scope x) (hd:(x == ("__debug__":Str))=false:=by decide) (hcd:(x == ("__classdict__":Str))=false:=by decide):PE X (.Name x pos) (zrJ i):=by
 intro pins s σ H Q I h
 obtain ⟨v,e,h⟩:=h
 obtain ⟨m,hn,hl⟩:=I.loc
 obtain ⟨u,r,l⟩:=hl i x v hN e hv
 have fin:EP X pins σ Q u s:=⟨v,H,I,r,h⟩
 rcases l with ⟨hk,hm⟩ | ⟨hk,c,hc,hcell⟩
 ·exact wpAny_Name (wpAny_loadName_local I.ok.kind hk hn hm fin) hd
 ·rcases hk with hk | hk
  ·exact wpAny_Name (wpAny_loadName_cell I.ok.kind hk hc hcell fin) hd
  ·exact wpAny_Name (wpAny_loadName_free I.ok.kind hk hc hcell fin hcd) hd
theorem zwB {i j pos}:PE X (.Constant (.int i) j pos) (tC (.int i)):=fun _ _ _ H _ I h=>wpAny_Constant_int ⟨.int i,H,I.tok _,⟨_,rfl⟩,h⟩
theorem zyj {b j pos}:PE X (.Constant (.bool b) j pos) (tC (.bl b)):=fun _ _ _ H _ I h=>Constant_bool ⟨.bl b,H,I,rfl,h⟩
theorem zwz {j pos}:PE X (.Constant .none j pos) (tC .non):=fun _ _ _ H _ I h=>Constant_none ⟨.non,H,I,rfl,h⟩
theorem zwv {x j pos}:PE X (.Constant (.str x) j pos) (tC (.str x)):=fun _ _ _ H _ I h=>Calls.Constant_str ⟨.str x,H,I.tok _,⟨_,rfl⟩,h⟩
def Gl (X:Cx) (x:Str):Prop:=X.env.kindOf x=some .globalImplicit
theorem zqv {E:Value->Shared->Prop} {pins:List (Addr × Obj)} {s:Shared} {σ:St} {H:Hp} {x:Str} {u:Value} {pos:Pos} {Q:Value->Shared->Prop} (I:Inv X pins σ H s) (hg:Gl X x) (hm:X.mg x=some u) (h:Q u s)
  (hd:(x == ("__debug__":Str))=false:=by decide):wpAny (model X.prog X.w) X.A (eval (.Name x pos) X.env) Q E s :=
 Calls.Name_function_global I.ok.kind hg (Calls.loadGlobal_global (by rw [I.ok.glob];exact I.mod.glob.keeps I.bk) hm h) hd
theorem zjL {E:Value->Shared->Prop} {pins:List (Addr × Obj)} {s:Shared} {σ:St} {H:Hp} {x:Str} {u:Value} {pos:Pos} {Q:Value->Shared->Prop} (I:Inv X pins σ H s) (hg:Gl X x) (hm:X.mg x=none) (hv:bootBuiltins x=some u) (h:Q u s)
  (hn:x ≠ "__name__":=by decide) (hd:(x == ("__debug__":Str))=false:=by decide):wpAny (model X.prog X.w) X.A (eval (.Name x pos) X.env) Q E s:=by
 obtain ⟨mb,h1,h2⟩:=I.mod.blt
 exact Calls.Name_function_global I.ok.kind hg (Calls.loadGlobal_builtin (by rw [I.ok.glob];exact I.mod.glob.keeps I.bk) hm (by rw [I.ok.blt];exact h1.keeps I.bk) ((h2 x hn).trans hv) h) hd
theorem zqf {x:Str} {v:V} {u:Value} {pos:Pos} (hg:Gl X x) (hm:X.mg x=some u) (r:RelV v u) (hd:(x == ("__debug__":Str))=false:=by decide):PE X (.Name x pos) (tC v) :=
 fun _ _ _ H _ I h=>zqv I hg hm ⟨v,H,I,r,h⟩ hd
theorem zuN {x:Str} {v:V} {u:Value} {pos:Pos} (hg:Gl X x) (hm:X.mg x=none) (hv:bootBuiltins x=some u) (r:RelV v u) (hn:x ≠ "__name__":=by decide) (hd:(x == ("__debug__":Str))=false:=by decide):PE X (.Name x pos) (tC v) :=
 fun _ _ _ H _ I h=>zjL I hg hm hv ⟨v,H,I,r,h⟩ hn hd
variable {a b:Expr} {ta tb:TE} {pos:Pos}
def tB (t:TE):TT:=fun σ H Q=>t σ H fun x H1=>∃ c,x=.bl c/\Q c H1
variable {tA tB':TT} {rest:List Expr}
def zmH (t u:TT):TT:=fun σ H Q=>t σ H fun c H1=>if c=true then u σ H1 Q else Q false H1
def tOr (t u:TT):TT:=fun σ H Q=>t σ H fun c H1=>if c=true then Q true H1 else u σ H1 Q
def zbX (t:TT):TT:=fun σ H Q=>t σ H fun c H1=>Q (!c) H1
theorem zui (ha:PT X a tA):PW X (.BoolOp .And [a] pos) tA:=by
 intro wh pins s σ H Q I h
 refine isTrue_and (thn (ha pins s σ H Q I h) fun c s1 e=>?_)
 cases c with
 | true=>exact isTrue_and_nil e
 | false=>exact e
theorem zwc (ha:PT X a tA):PW X (.BoolOp .Or [a] pos) tA:=by
 intro wh pins s σ H Q I h
 refine isTrue_or (thn (ha pins s σ H Q I h) fun c s1 e=>?_)
 cases c with
 | false=>exact isTrue_or_nil e
 | true=>exact e
theorem zwd (ha:PT X a tA) (hb:PW X (.BoolOp .And (b :: rest) pos) tB'):PW X (.BoolOp .And (a :: b :: rest) pos) (zmH tA tB'):=by
 intro wh pins s σ H Q I h
 refine isTrue_and (thn (ha pins s σ H _ I h) fun c s1 ⟨H1,I1,q1⟩=>?_)
 cases c with
 | true=>exact hb wh pins s1 σ H1 Q I1 q1
 | false=>exact ⟨H1,I1,q1⟩
theorem zya (ha:PT X a tA) (hb:PW X (.BoolOp .Or (b :: rest) pos) tB'):PW X (.BoolOp .Or (a :: b :: rest) pos) (tOr tA tB'):=by
 intro wh pins s σ H Q I h
 refine isTrue_or (thn (ha pins s σ H _ I h) fun c s1 ⟨H1,I1,q1⟩=>?_)
 cases c with
 | true=>exact ⟨H1,I1,q1⟩
 | false=>exact hb wh pins s1 σ H1 Q I1 q1
theorem zwk (ha:PT X a tA):PT X (.UnaryOp .Not a pos) (zbX tA):=by
 intro pins s σ H Q I h
 exact isTrue_not (ha pins s σ H (fun c H1=>Q (!c) H1) I h)
def zx6 (ta tb:TE):TE:=fun σ H Q=>ta σ H fun x H1=>∃ c,x=.bl c/\if c=true then tb σ H1 Q else Q (.bl false) H1
def zx3 (ta:TE):TE:=fun σ H Q=>ta σ H fun x H1=>∃ c,x=.bl c/\Q (.bl (!c)) H1
theorem zwx {op} {t:TE} (h:PE X a t):PE X (.BoolOp op [a] pos) t:=fun pins s σ H Q I hw=>BoolOp_one (h pins s σ H Q I hw)
theorem zwC (ha:PE X a ta) (hb:PE X (.BoolOp .And (b :: rest) pos) tb):PE X (.BoolOp .And (a :: b :: rest) pos) (zx6 ta tb):=by
 intro pins s σ H Q I h
 refine BoolOp_and (thn (ha pins s σ H _ I h) fun v s1 ⟨x,H1,I1,r1,q1⟩=>?_)
 obtain ⟨c,rfl,q1⟩:=q1
 cases r1
 refine wpAny_truthy_bool ?_
 cases c with
 | true=>exact hb pins s1 σ H1 Q I1 q1
 | false=>exact ⟨.bl false,H1,I1,rfl,q1⟩
theorem zwy (ha:PE X a ta):PE X (.UnaryOp .Not a pos) (zx3 ta):=by
 intro pins s σ H Q I h
 refine UnaryOp_ (thn (ha pins s σ H _ I h) fun v s1 ⟨x,H1,I1,r1,q1⟩=>?_)
 obtain ⟨c,rfl,q1⟩:=q1
 cases r1
 exact not_of (wpAny_truthy_bool ⟨.bl (!c),H1,I1,rfl,q1⟩)
def tIf (t:TT) (ta tb:TE):TE:=fun σ H Q=>t σ H fun c H1=>if c=true then ta σ H1 Q else tb σ H1 Q
theorem zsj {c:Expr} (hc:PT X c tA) (ha:PE X a ta) (hb:PE X b tb):PE X (.IfExp c a b pos) (tIf tA ta tb):=by
 intro pins s σ H Q I h
 refine wpAny_IfExp (thn (hc pins s σ H _ I h) fun d s1 ⟨H1,I1,q1⟩=>?_)
 cases d with
 | true=>exact ha pins s1 σ H1 Q I1 q1
 | false=>exact hb pins s1 σ H1 Q I1 q1
end
end L2
namespace L2
open PySem PySem.Spec PyProof.Rows
def SqL (K:PySem.W.Frag) (H:Hp) (a:Addr) (xs:List V):Prop :=
 Rd H a (.lst xs) \/
  ∃ (o:Obj) (its:Array Value) (n:Nat),K.lookup a=some o/\o.cls=.type "list"/\o.dict=none/\o.data=.seq its n/\its.size<=sizeLine/\Vals xs its.toList
def SqT (K:PySem.W.Frag) (H:Hp) (a:Addr) (xs:List V):Prop :=
 Rd H a (.tup xs) \/
  ∃ (o:Obj) (its:Array Value) (n:Nat),K.lookup a=some o/\o.cls=.type "tuple"/\o.data=.seq its n/\its.size<=sizeLine/\Vals xs its.toList
def zzK:Value->Option V
 | .none=>some .non
 | .bool b=>some (.bl b)
 | .int i _=>some (.int i)
 | .str x _=>some (.str x)
 | .bytes b _=>some (.byt b)
 | .float b _=>some (.flt b)
 | .ref a=>some (.ref a)
 | .type n=>some (.ty n)
 | _=>none
theorem RelV.abs {x:V} {u:Value} (r:RelV x u):zzK u=some x:=by
 cases x with
 | non=>cases r;rfl
 | bl _=>cases r;rfl
 | int _=>obtain ⟨t,rfl⟩:=r;rfl
 | str _=>obtain ⟨t,rfl⟩:=r;rfl
 | byt _=>obtain ⟨t,rfl⟩:=r;rfl
 | flt _=>obtain ⟨t,rfl⟩:=r;rfl
 | ref _=>cases r;rfl
 | ty _=>cases r;rfl
theorem RelV.inj {x y:V} {u:Value} (r:RelV x u) (q:RelV y u):x=y:=Option.some.inj (r.abs.symm.trans q.abs)
theorem Vals.inj:∀ {xs ys:List V} {us:List Value},Vals xs us->Vals ys us->xs=ys
 | _,_,_,.nil,.nil=>rfl
 | _,_,_,.cons r t,.cons r' t'=>by rw [r.inj r',Vals.inj t t']
section
variable {X:Cx} {pins:List (Addr × Obj)} {σ:St} {H:Hp} {s:Shared} {a:Addr} {xs ys:List V}
theorem SqL.of {K:PySem.W.Frag} (h:H a=some (.lst xs)):SqL K H a xs:=.inl (.inl h)
theorem Inv.list (I:Inv X pins σ H s) (h:SqL X.K H a xs):∃ its:List Value,Vals xs its/\PlainL s.heap a its.toArray/\xs.length<=sizeLine:=by
 rcases h with h | ⟨o,its,n,hk,hc,hd,hs,hz,r⟩
 ·obtain ⟨z,its,n,r,e⟩:=h.ok I.hok
  exact ⟨its,r,⟨_,n,e,rfl,rfl,rfl⟩,z⟩
 ·refine ⟨its.toList,r,⟨o,n,I.kIn a o hk,hc,hd,by simpa using hs⟩,?_⟩
  have e:=r.length
  simp only [Array.length_toList] at e
  omega
theorem Inv.tuple (I:Inv X pins σ H s) (h:SqT X.K H a xs):∃ its:List Value,Vals xs its/\IsTup s.heap a its.toArray/\xs.length<=sizeLine:=by
 rcases h with h | ⟨o,its,n,hk,hc,hs,hz,r⟩
 ·obtain ⟨z,its,r,p⟩:=h.ok I.hok
  exact ⟨its,r,p,z⟩
 ·refine ⟨its.toList,r,⟨o,I.kIn a o hk,hc,n,by simpa using hs⟩,?_⟩
  have e:=r.length
  simp only [Array.length_toList] at e
  omega
theorem Inv.zho (I:Inv X pins σ H s) (h:SqL X.K H a xs) (h':SqL X.K H a ys):xs=ys:=by
 obtain ⟨its,r,⟨o,n,e,_,_,d⟩,_⟩:=I.list h
 obtain ⟨its',r',⟨o',n',e',_,_,d'⟩,_⟩:=I.list h'
 rw [e] at e';cases e'
 rw [d] at d'
 injection d' with d1 _
 have:its=its':=by simpa using congrArg Array.toList d1
 subst this
 exact r.inj r'
theorem Inv.zpE (I:Inv X pins σ H s) (h:SqT X.K H a xs) (h':SqT X.K H a ys):xs=ys:=by
 obtain ⟨its,r,⟨o,e,_,n,d⟩,_⟩:=I.tuple h
 obtain ⟨its',r',⟨o',e',_,n',d'⟩,_⟩:=I.tuple h'
 rw [e] at e';cases e'
 rw [d] at d'
 injection d' with d1 _
 have:its=its':=by simpa using congrArg Array.toList d1
 subst this
 exact r.inj r'
end
abbrev Cx.wish (X:Cx) (E:Value->Shared->Prop):Cx:={ X with xe:=E }
abbrev Cx.nox (X:Cx):Cx:=X.wish fun _ _=>False
theorem Cx.Ok.wish {X:Cx} (ok:X.Ok) (E:Value->Shared->Prop):(X.wish E).Ok :=
 ⟨ok.mod,ok.kind,ok.glob,ok.blt,ok.above,ok.inj,ok.has,ok.cab,ok.hd,ok.frames,ok.stk,ok.exf,ok.bs,ok.bsz,ok.noex,ok.exfs,ok.zqY,ok.frf,ok.tree,ok.sk⟩
theorem Cx.Ok.zgL {X:Cx} {E:Value->Shared->Prop} (ok:(X.wish E).Ok):X.Ok :=
 ⟨ok.mod,ok.kind,ok.glob,ok.blt,ok.above,ok.inj,ok.has,ok.cab,ok.hd,ok.frames,ok.stk,ok.exf,ok.bs,ok.bsz,ok.noex,ok.exfs,ok.zqY,ok.frf,ok.tree,ok.sk⟩
section
variable {X:Cx} {pins:List (Addr × Obj)} {σ:St} {H:Hp} {s:Shared} {E:Value->Shared->Prop}
theorem Inv.wish (I:Inv X pins σ H s) (E:Value->Shared->Prop):Inv (X.wish E) pins σ H s:=⟨I.ok.wish E,I.os,I.bare,I.base,I.loc,I.cell,I.free,I.freeC,I.pin,I.hok,I.len⟩
theorem Inv.zgL (I:Inv (X.wish E) pins σ H s):Inv X pins σ H s:=⟨I.ok.zgL,I.os,I.bare,I.base,I.loc,I.cell,I.free,I.freeC,I.pin,I.hok,I.len⟩
theorem SP.zgL {D:Ends} {f:Flow} {s':Shared} (h:SP (X.wish E) pins D f s'):SP X pins D f s':=by
 cases f with
 | next=>obtain ⟨σ',H',I,q⟩:=h;exact ⟨σ',H',I.zgL,q⟩
 | brk=>obtain ⟨σ',H',I,q⟩:=h;exact ⟨σ',H',I.zgL,q⟩
 | cont=>obtain ⟨σ',H',I,q⟩:=h;exact ⟨σ',H',I.zgL,q⟩
 | ret u=>obtain ⟨v,σ',H',I,r,q⟩:=h;exact ⟨v,σ',H',I.zgL,r,q⟩
theorem PSs.nox {st:List Stmt} {t:TS} (h:PSs X.nox st t):PSs X st t:=fun pins s σ H D I hw =>
 wpAny_mono (h pins s σ H D (I.wish _) hw) (fun _ _ q=>q.zgL) fun _ _ z=>False.elim z
end
section
variable {X:Cx} {st:Stmt} {rest:List Stmt} {t u:TS} {e:Expr} {te:TE} {pos:Pos}
def zx4:TS:=fun D σ H=>D.nx σ H
def zy4 (t u:TS):TS:=fun D σ H=>t { D with nx:=u D } σ H
theorem zuA:PSs X [] zx4:=fun _ _ σ H _ I h=>wpAny_execs_nil ⟨σ,H,I,h⟩
theorem zsb (h1:PS X st t) (h2:PSs X rest u):PSs X (st :: rest) (zy4 t u):=by
 intro pins s σ H D I h
 refine wpAny_execs_cons (thn (h1 pins s σ H { D with nx:=u D } I h) fun f s1 q=>?_)
 cases f with
 | next =>
  obtain ⟨σ',H',I',q⟩:=q
  exact h2 pins s1 σ' H' D I' q
 | ret v=>exact q
 | brk=>exact q
 | cont=>exact q
theorem zuz (h1:PS X st t):PSs X [st] t:=by
 intro pins s σ H D I h
 refine wpAny_execs_cons (thn (h1 pins s σ H D I h) fun f s1 q=>?_)
 cases f with
 | next=>exact wpAny_execs_nil q
 | ret v=>exact q
 | brk=>exact q
 | cont=>exact q
def zv0:TS:=fun D σ H=>D.bk σ H
theorem zse:PS X (.Break pos) zv0:=fun _ _ σ H _ I h=>wpAny_Break ⟨σ,H,I,h⟩
def zy5 (te:TE):TS:=fun D σ H=>te σ H D.rt
theorem zp6 (he:PE X e te):PS X (.Return (some e) pos) (zy5 te):=by
 intro pins s σ H D I h
 exact wpAny_Return_some (thn (he pins s σ H _ I h) fun v s1 ⟨x,H1,I1,r1,q1⟩=>⟨x,σ,H1,I1,r1,q1⟩)
def zy9 (c:TT) (t u:TS):TS:=fun D σ H=>c σ H fun b H1=>if b=true then t D σ H1 else u D σ H1
theorem zyf {c:Expr} {a b:List Stmt} {tc:TT} (hc:PT X c tc) (ha:PSs X a t) (hb:PSs X b u):PS X (.If c a b pos) (zy9 tc t u):=by
 intro pins s σ H D I h
 refine wpAny_If (thn (hc pins s σ H _ I h) fun d s1 ⟨H1,I1,q1⟩=>?_)
 cases d with
 | true=>exact ha pins s1 σ H1 D I1 q1
 | false=>exact hb pins s1 σ H1 D I1 q1
def zvY:TS:=fun _ _ _=>False
theorem zsd:PS X st zvY:=fun _ _ _ _ _ _ h=>h.elim
end
abbrev TG:=V->St->Hp->(St->Hp->Prop)->Prop
abbrev TGs:=List V->St->Hp->(St->Hp->Prop)->Prop
def PG (X:Cx) (target:Expr) (t:TG):Prop :=
 ∀ (pins:List (Addr × Obj)) (s:Shared) (σ:St) (H:Hp) (v:V) (u:Value) (Q:St->Hp->Prop),Inv X pins σ H s->RelV v u->t v σ H Q ->
  wpAny (model X.prog X.w) X.A (assign target X.env u) (fun _ s'=>∃ σ' H',Inv X pins σ' H' s'/\Q σ' H') X.xe s
def PGs (X:Cx) (ts:List Expr) (t:TGs):Prop :=
 ∀ (pins:List (Addr × Obj)) (s:Shared) (σ:St) (H:Hp) (vs:List V) (us:List Value) (Q:St->Hp->Prop),Inv X pins σ H s->Vals vs us->t vs σ H Q ->
  wpAny (model X.prog X.w) X.A (assignInOrder ((assignEach ts X.env).map (·.2)) us) (fun _ s'=>∃ σ' H',Inv X pins σ' H' s'/\Q σ' H') X.xe s
abbrev zyH:=V->V->V->Hp->(Hp->Prop)->Prop
def zyY (X:Cx) (t:zyH):Prop :=
 ∀ (pins:List (Addr × Obj)) (s:Shared) (σ:St) (H:Hp) (o i v:V) (ov iv u:Value) (Q:Hp->Prop),Inv X pins σ H s->RelV o ov->RelV i iv->RelV v u->t o i v H Q ->
  wpAny (model X.prog X.w) X.A (setItem ov iv u) (fun _ s'=>∃ H',Inv X pins σ H' s'/\Q H') X.xe s
section
variable {X:Cx} {pos:Pos}
def zqT (i:Nat):TG:=fun v σ H Q=>Q (σ.set i (some v)) H
theorem zuK {i:Nat} {x:Str} (hN:X.N.Nodup) (hi:X.N[i]?=some x) (hx:Loc X.env.scope x) (hf:X.fn x=true\/X.env.scope.names.lookup x=some .local:=by first | exact .inl rfl | exact .inr rfl | assumption):PG X (.Name x pos) (zqT i):=by
 intro pins s σ H v u Q I r h
 exact wpAny_assign_Name (zhl I hN hi hx r (fun s' I'=>⟨_,H,I',h⟩) hf)
def zzG:TGs:=fun vs σ H Q=>vs=[]/\Q σ H
def zyw (t:TG) (u:TGs):TGs:=fun vs σ H Q=>∃ v r,vs=v :: r/\t v σ H fun σ' H'=>u r σ' H' Q
theorem zuJ:PGs X [] zzG:=by
 intro pins s σ H vs us Q I r h
 obtain ⟨e,h⟩:=h
 subst e
 cases r
 exact assignInOrder_nil ⟨σ,H,I,h⟩
theorem zsh {e:Expr} {es:List Expr} {t:TG} {u:TGs} (h1:PG X e t) (h2:PGs X es u)
  (hs:(assignEach (e :: es) X.env).map (·.2)=assign e X.env :: (assignEach es X.env).map (·.2):=by rfl):PGs X (e :: es) (zyw t u):=by
 intro pins s σ H vs us Q I r h
 obtain ⟨v,vr,e1,h⟩:=h
 subst e1
 cases r with
 | cons r rr =>
  rw [hs]
  refine assignInOrder_cons (thn (h1 pins s σ H _ _ _ I r h) fun _ s1 ⟨σ1,H1,I1,q1⟩=>?_)
  exact h2 pins s1 σ1 H1 _ _ Q I1 rr q1
def zzE (K:PySem.W.Frag) (n:Nat) (t:TGs):TG:=fun v σ H Q=>∃ a xs,v=.ref a/\SqT K H a xs/\xs.length=n/\t xs σ H Q
theorem zws {es:List Expr} {k:Nat} {t:TGs} {n:Nat} (hc:X.calm=true) (h:PGs X es t)
  (hn:(assignEach es X.env).length=n:=by rfl) (hst:(assignEach es X.env).findIdx? (·.1)=none:=by rfl):PG X (.Tuple es k pos) (zzE X.K n t):=by
 intro pins s σ H v u Q I r hw
 obtain ⟨a,xs,e1,hq,hl,hw⟩:=hw
 subst e1
 cases r
 obtain ⟨its,rv,ht,hz⟩:=I.tuple hq
 refine assign_Tuple_tuple (I.ok.hd hc) ht (by simp [hn,<- hl,rv.length]) hst fun h' hx=>?_
 have I1:Inv X pins σ H { s with heap:=h' }:=I.kept (t':=s.toks) fun b o e=>hx b o (Nat.ne_of_lt (Heap.lt_size e)) e
 exact h pins _ σ H xs _ Q I1 (by simpa using rv) hw
def zzF (to ti:TE) (t:zyH):TG:=fun v σ H Q=>to σ H fun o H1=>ti σ H1 fun i H2=>t o i v H2 fun H3=>Q σ H3
theorem zwt {o i:Expr} {to ti:TE} {t:zyH} (ho:PE X o to) (hi:PE X i ti) (hs:zyY X t)
  (ha:∀ v,assign (.Subscript o i pos) X.env v=(do
   let ov <- holding [v] (eval o X.env)
   let iv <- holding [v,ov] (eval i X.env)
   standAt pos
   holding [v,ov,iv] (setItem ov iv v)
   release [v,ov,iv] []):=by intro _;rfl):PG X (.Subscript o i pos) (zzF to ti t):=by
 intro pins s σ H v u Q I r h
 rw [ha]
 refine wpAny_bind (wpAny_holding (thn (ho pins s σ H _ I h) fun ov s1 ⟨x,H1,I1,r1,q1⟩=>?_))
 refine wpAny_bind (wpAny_holding (thn (hi pins s1 σ H1 _ I1 q1) fun iv s2 ⟨y,H2,I2,r2,q2⟩=>?_))
 refine wpAny_bind (wpAny_standAt (wpAny_bind (wpAny_holding (thn (hs pins s2 σ H2 x y v ov iv u _ I2 r1 r2 r q2) fun _ s3 ⟨H3,I3,q3⟩=>?_))))
 exact wpAny_release ⟨σ,H3,I3,q3⟩
def zv1 (te:TE) (g:TG):TS:=fun D σ H=>te σ H fun x H1=>g x σ H1 D.nx
theorem ztv {tg e:Expr} {te:TE} {g:TG} (he:PE X e te) (hg:PG X tg g) (hs:swapsWithSole [tg] e pos.line X.env=pure false:=by rfl) (hw:swappedStores [tg] e X.env=pure none:=by rfl)
  (h1:(assignEach [tg] X.env).map (·.2)=[assign tg X.env]:=by rfl):PS X (.Assign [tg] e pos) (zv1 te g):=by
 intro pins s σ H D I h
 refine wpAny_Assign_stores (thn (he pins s σ H _ I h) fun v s1 ⟨x,H1,I1,r1,q1⟩=>?_) hs hw
 rw [h1]
 exact thn (hg pins s1 σ H1 x v _ I1 r1 q1) fun _ s2 q=>q
theorem ztu {i:Nat} {x:Str} {e:Expr} {te:TE} {pos':Pos} (hN:X.N.Nodup) (hi:X.N[i]?=some x) (hx:Loc X.env.scope x) (he:PE X e te) (hs:swapsWith e (some (.Name x pos')) pos.line X.env=pure false:=by rfl) (hf:X.fn x=true\/X.env.scope.names.lookup x=some .local:=by first | exact .inl rfl | exact .inr rfl | assumption) :
  PS X (.Assign [.Name x pos'] e pos) (zv1 te (zqT i)):=by
 intro pins s σ H D I h
 refine wpAny_Assign_Name (thn (he pins s σ H _ I h) fun v s1 ⟨y,H1,I1,r1,q1⟩=>?_) hs
 exact zhl I1 hN hi hx r1 (fun s2 I2=>⟨_,H1,I2,q1⟩) hf
def zy6 (i j:Nat) (ta:TA):TS:=fun D σ H=>ta σ H fun vs H1=>∃ v w,vs=[v,w]/\D.nx ((σ.set i (some v)).set j (some w)) H1
theorem zwl {i j:Nat} {x y:Str} {a b:Expr} {ta:TA} {px py pt:Pos} {kt k2 pt2} (hc:X.calm=true) (hN:X.N.Nodup) (hi:X.N[i]?=some x) (hj:X.N[j]?=some y) (hij:i ≠ j)
  (hx:X.env.scope.names.lookup x=some .local) (hy:X.env.scope.names.lookup y=some .local) (ha:PA X [a,b] ta)
  (hw:swappedStores [.Tuple [.Name x px,.Name y py] kt pt] (.Tuple [a,b] k2 pt2) X.env=pure (some [x,y]))
  (hs:swapsWithSole [.Tuple [.Name x px,.Name y py] kt pt] (.Tuple [a,b] k2 pt2) pos.line X.env=pure false:=by rfl) :
  PS X (.Assign [.Tuple [.Name x px,.Name y py] kt pt] (.Tuple [a,b] k2 pt2) pos) (zy6 i j ta):=by
 intro pins s σ H D I h
 rw [exec_Assign_arm]
 refine wpAny_bind (wpAny_standAt ?_)
 rw [hs]
 refine wpAny_bind (wpAny_pure ?_)
 rw [if_neg (by decide)]
 refine wpAny_bind (Tuple_ (thn (ha _ pins s σ H _ I h) fun us s1 ⟨vs,H1,I1,r1,q1⟩=>?_))
 obtain ⟨v,w,e1,q1⟩:=q1
 subst e1
 obtain ⟨u1,u2,rfl,rv,rw'⟩:∃ u1 u2,us=[u1,u2]/\RelV v u1/\RelV w u2:=by
  cases r1 with
  | cons p q =>
   cases q with
   | cons p' q' =>
    cases q'
    exact ⟨_,_,rfl,p,p'⟩
 refine wpAny_newObj_type ?_ (by show 2<=sizeLine;decide)
 have I2:Inv X pins σ H1 { s1 with heap:=s1.heap.push { cls:=.type "tuple",data:=.seq [u1,u2].toArray } }:=I1.kept (t':=s1.toks) fun b o e=>Heap.get?_push_of_some _ e
 rw [hw]
 refine wpAny_bind (wpAny_pure ?_)
 show wpAny (model X.prog X.w) X.A (do rule "assign.swapped-stores";let items <- unpackItems (.ref s1.heap.objs.size) 2 none;assignInOrder [fun v=>bindName X.env y v,fun v=>bindName X.env x v] items.reverse;pure Flow.next) _ _ _
 refine wpAny_bind (wpAny_rule (wpAny_bind (unpackItems_tuple (items:=#[u1,u2]) (I.ok.hd hc) (IsTup.new s1.heap _) fun h' hx'=>?_)))
 have I3:=I2.kept (h':=h') (t':=s1.toks) fun b o e=>hx' b o (Nat.ne_of_lt (Heap.lt_size e)) e
 show wpAny _ _ (assignInOrder [fun v=>bindName X.env y v,fun v=>bindName X.env x v] [u2,u1] >>= fun _=>pure Flow.next) _ _ _
 refine wpAny_bind (assignInOrder_cons (wpAny_bindName (zhl I3 hN hj (.inl hy) rw' (fun s2 I4=>?_) (.inr hy))))
 refine assignInOrder_cons (wpAny_bindName (zhl I4 hN hi (.inl hx) rv (fun s3 I5=>assignInOrder_nil (wpAny_pure ?_)) (.inr hx)))
 rw [List.set_comm _ _ (Ne.symm hij)] at I5
 exact ⟨_,H1,I5,q1⟩
end
section
variable {X:Cx} {pos:Pos}
def zvW (c:TT) (tb:TS):TS:=fun D σ H=>∃ W:Nat->St->Hp->Prop,(∃ m,W m σ H)/\∀ m σ H,W m σ H ->
 c σ H fun b H1=>if b=true then ∃ N:St->Hp->Prop,(∀ σ' H',N σ' H'->∃ m',m' < m/\W m' σ' H')/\tb { D with nx:=N,ct:=N,bk:=D.nx } σ H1 else D.nx σ H1
theorem zsc {c:Expr} {body:List Stmt} {tc:TT} {tb:TS} (hp:PassesOwn (model X.prog X.w) X.A X.env X.xe) (hc:PT X c tc) (hb:PSs X body tb):PS X (.While c body [] pos) (zvW tc tb):=by
 intro pins s σ H D I h
 obtain ⟨W,⟨m0,w0⟩,turn⟩:=h
 refine wpAny_While (codeAny_whileLoop (fun n s'=>∃ σ' H',Inv X pins σ' H' s'/\W n σ' H') ?_ m0 ⟨σ,H,I,w0⟩)
 rintro n s1 ⟨σ1,H1,I1,w1⟩
 refine wpAny_passesOwn hp (thn (hc pins s1 σ1 H1 _ I1 (turn n σ1 H1 w1)) fun b s2 ⟨H2,I2,q2⟩=>?_)
 cases b with
 | true =>
  obtain ⟨N,hN,q2⟩:=q2
  rw [if_pos rfl]
  refine wpAny_passesOwn hp (thn (hb pins s2 σ1 H2 _ I2 q2) fun f s3 q3=>?_)
  cases f with
  | next =>
   obtain ⟨σ3,H3,I3,n3⟩:=q3
   obtain ⟨m',hm,w3⟩:=hN σ3 H3 n3
   exact ⟨m',hm,σ3,H3,I3,w3⟩
  | cont =>
   obtain ⟨σ3,H3,I3,n3⟩:=q3
   obtain ⟨m',hm,w3⟩:=hN σ3 H3 n3
   exact ⟨m',hm,σ3,H3,I3,w3⟩
  | brk=>exact q3
  | ret v=>exact q3
 | false =>
  rw [if_neg Bool.false_ne_true]
  exact wpAny_execs_nil ⟨σ1,H2,I2,q2⟩
end
structure It where
 go:Nat->Hp->Prop
 yld:Nat->Hp->V->Hp->Prop
 stop:Nat->Hp->Prop
def znv (X:Cx) (pins:List (Addr × Obj)) (H:Hp) (b:Addr):Prop :=
 H b=none/\b ≠ X.env.locals/\b ∉ X.fs/\(b ∈ X.ex\/X.s₀.heap.objs.size<=b)/\(∀ x c,X.env.cells.lookup x=some c->c ≠ b)/\∀ p ∈ X.pn ++ pins,p.1 ≠ b
theorem Inv.zsN {X:Cx} {pins:List (Addr × Obj)} {σ:St} {H H':Hp} {s:Shared} {b:Addr} (I:Inv X pins σ H s) (hb:s.heap.objs.size<=b) (hn:H' b=none):znv X pins H' b:=by
 refine ⟨hn,Nat.ne_of_gt (Nat.lt_of_lt_of_le I.lt hb),I.zzu hb,.inr (Nat.le_trans I.sz hb),fun x c e z=>?_,fun p hp z=>?_⟩
 ·obtain ⟨v,q⟩:=I.cell x c e
  exact absurd (Nat.lt_of_lt_of_le q.lt (by rw [z];exact hb)) (Nat.lt_irrefl _)
 ·exact absurd (Nat.lt_of_lt_of_le (Heap.lt_size (I.pin p hp).1) (by rw [z];exact hb)) (Nat.lt_irrefl _)
structure Turn (P:Program) (w:World) (K:PySem.W.Frag) (tg:Expr) (J:It) (fp:List Addr) (it:Addr) (tn:Nat->Heap->Prop):Prop where
 mem:it ∈ fp
 obj:∀ i h,tn i h->∀ b ∈ fp,∃ o,h.get? b=some o/\∀ v,o.data ≠ .cell v
 keep:∀ i h h',tn i h->(∀ b ∈ fp,∀ o,h.get? b=some o->h'.get? b=some o)->tn i h'
 item:∀ (X:Cx),X.prog=P->X.w=w->X.K=K->X.calm=true->∀ (i:Nat) (pins:List (Addr × Obj)) (s:Shared) (σ:St) (H:Hp) (E:Value->Shared->Prop),Inv X pins σ H s->(∀ b ∈ fp,znv X pins H b)->tn i s.heap->J.go i H ->
  wpAny (model P w) X.A (pyNext (.ref it)) (fun r s1=>∃ u,r=some u /\
   wpAny (model P w) X.A (letOwnedTupleGo tg (.ref it) u) (fun _ s2=>∃ x H',Inv X pins σ H' s2/\RelV x u/\J.yld i H x H'/\tn (i + 1) s2.heap/\∀ b ∈ fp,H' b=none) E s1) E s
 done:∀ (X:Cx),X.prog=P->X.w=w->X.K=K->X.calm=true->∀ (i:Nat) (pins:List (Addr × Obj)) (s:Shared) (σ:St) (H:Hp) (E:Value->Shared->Prop),Inv X pins σ H s->(∀ b ∈ fp,znv X pins H b)->tn i s.heap->J.stop i H ->
  wpAny (model P w) X.A (pyNext (.ref it)) (fun r s1=>r=none/\Inv X pins σ H s1) E s
 self:∀ (A:Around) (i:Nat) (s:Shared) (Q:Value->Shared->Prop) (E:Value->Shared->Prop),tn i s.heap->Q (.ref it) s->wpAny (model P w) A (pyIter (.ref it)) Q E s
abbrev TI:=St->Hp->(It->Hp->Prop)->Prop
def PIE (X:Cx) (pins:List (Addr × Obj)) (σ:St) (tg:Expr) (R:It->Hp->Prop) (itv:Value) (s2:Shared):Prop :=
 ∃ (it:Addr) (fp:List Addr) (tn:Nat->Heap->Prop) (J:It) (H':Hp),itv=.ref it/\Inv X pins σ H' s2/\Turn X.prog X.w X.K tg J fp it tn/\tn 0 s2.heap/\(∀ b ∈ fp,znv X pins H' b)/\R J H'
def PI (X:Cx) (tg iter:Expr) (wi:TI):Prop :=
 ∀ (pins:List (Addr × Obj)) (s:Shared) (σ:St) (H:Hp) (R:It->Hp->Prop),Inv X pins σ H s->wi σ H R ->
  wpAny (model X.prog X.w) X.A (eval iter X.env) (fun v s1=>wpAny (model X.prog X.w) X.A (pyIter v) (PIE X pins σ tg R) X.xe s1) X.xe s
theorem zqS {M:Model} {A:Around} {E:Value->Shared->Prop} {s:Shared} {tg:Expr} {it:Addr} {u:Value} {o:Obj} {n:String} {vs:Array Value} {Q:Unit->Shared->Prop} (ho:s.heap.get? it=some o) (hc:o.cls=.type n) (hd:o.data=.fields vs)
    (hn:["enumerate", "zip", "dict_itemiterator", "dict_reverseitemiterator", "odict_iterator", "itertools.zip_longest", "itertools.pairwise"].contains n=false) (hQ:Q () s):wpAny M A (letOwnedTupleGo tg (.ref it) u) Q E s:=by
  unfold letOwnedTupleGo
  cases tg <;> first
    | exact wpAny_pure hQ
    | (cases u <;> first
        | exact wpAny_pure hQ
        | (refine wpAny_bind (wpAny_load ho ?_)
           rw [hc, hd]
           show wpAny M A (if (["enumerate", "zip", "dict_itemiterator", "dict_reverseitemiterator", "odict_iterator", "itertools.zip_longest", "itertools.pairwise"].contains n && vs[0]? == some (rawInt _))=true then _ else _) Q E s
           rw [if_neg (by intro h;rw [hn, Bool.false_and] at h;cases h)]
           exact wpAny_pure hQ))
def Itl (K:PySem.W.Frag) (a:Addr):It :=
 ⟨fun i H=>∃ xs x,SqL K H a xs/\xs[i]?=some x,fun i H x H'=>H'=H/\∀ xs,SqL K H a xs->xs[i]?=some x,fun i H=>∃ xs,SqL K H a xs/\xs.length<=i⟩
def Itt (K:PySem.W.Frag) (a:Addr):It :=
 ⟨fun i H=>∃ xs x,SqT K H a xs/\xs[i]?=some x,fun i H x H'=>H'=H/\∀ xs,SqT K H a xs->xs[i]?=some x,fun i H=>∃ xs,SqT K H a xs/\xs.length<=i⟩
def Itr (lo:Int) (n:Nat):It:=⟨fun i _=>i < n,fun i H x H'=>H'=H/\x=.int (lo + i),fun i _=>n<=i⟩
theorem zpA {P:Program} {w:World} {K:PySem.W.Frag} {tg:Expr} (a it:Addr):Turn P w K tg (Itl K a) [it] it (fun i h=>h.IsListIter it a i) where
 mem:=by simp
 obj:=fun i h st b hb=>by
  have e:b=it:=by simpa using hb
  subst e
  obtain ⟨o,e,c,d⟩:=st
  exact ⟨o,e,fun v z=>by rw [d] at z;cases z⟩
 keep:=fun i h h' st k=>st.at fun o e=>k it (by simp) o e
 item:=by
  intro X hP hw hK hc i pins s σ H E I hf st hg
  subst hP hw hK
  obtain ⟨xs,x,hq,hx⟩:=hg
  obtain ⟨its,rv,p,hz⟩:=I.list hq
  obtain ⟨u,hu,ru⟩:=rv.get hx
  obtain ⟨f0,f1,f2,f3,f4,f5⟩:=hf it (by simp)
  refine wpAny_pyNext_list_item st p.isList (x:=u) (by simpa using hu) fun h' st' sb=>?_
  have I1:Inv X pins σ H { s with heap:=h' }:=I.turned (t':=s.toks) (fun b o hb e=>(sb.2 b hb).trans e) f0 f1 f3 f4 f5
  obtain ⟨o,e,c,d⟩:=id st'
  exact ⟨u,rfl,zqS (s:={ s with heap:=h' }) e c d (by decide) ⟨x,H,I1,ru,⟨rfl,fun ys hy=>by rw [I.zho hy hq];exact hx⟩,st',fun b hb=>(hf b hb).1⟩⟩
 done:=by
  intro X hP hw hK hc i pins s σ H E I hf st hg
  subst hP hw hK
  obtain ⟨xs,hq,hx⟩:=hg
  obtain ⟨its,rv,p,hz⟩:=I.list hq
  obtain ⟨f0,f1,f2,f3,f4,f5⟩:=hf it (by simp)
  have hl:=rv.length
  exact wpAny_pyNext_list_end (I.ok.hd hc) st p.isList (by simp;omega) fun h' eb=>⟨rfl,I.turned (t':=s.toks) (fun b o hb e=>eb b o hb e) f0 f1 f3 f4 f5⟩
 self:=fun _ _ _ _ _ st h=>wpAny_pyIter_listiter st h
theorem zoH {P:Program} {w:World} {K:PySem.W.Frag} {tg:Expr} (a it:Addr):Turn P w K tg (Itt K a) [it] it (fun i h=>h.IsTupleIter it a i) where
 mem:=by simp
 obj:=fun i h st b hb=>by
  have e:b=it:=by simpa using hb
  subst e
  obtain ⟨o,e,c,d⟩:=st
  exact ⟨o,e,fun v z=>by rw [d] at z;cases z⟩
 keep:=fun i h h' st k=>st.at fun o e=>k it (by simp) o e
 item:=by
  intro X hP hw hK hc i pins s σ H E I hf st hg
  subst hP hw hK
  obtain ⟨xs,x,hq,hx⟩:=hg
  obtain ⟨its,rv,p,hz⟩:=I.tuple hq
  obtain ⟨u,hu,ru⟩:=rv.get hx
  obtain ⟨f0,f1,f2,f3,f4,f5⟩:=hf it (by simp)
  refine wpAny_pyNext_tuple_item st (show s.heap.IsTuple a its.toArray from p) (x:=u) (by simpa using hu) fun h' st' sb=>?_
  have I1:Inv X pins σ H { s with heap:=h' }:=I.turned (t':=s.toks) (fun b o hb e=>(sb.2 b hb).trans e) f0 f1 f3 f4 f5
  obtain ⟨o,e,c,d⟩:=id st'
  exact ⟨u,rfl,zqS (s:={ s with heap:=h' }) e c d (by decide) ⟨x,H,I1,ru,⟨rfl,fun ys hy=>by rw [I.zpE hy hq];exact hx⟩,st',fun b hb=>(hf b hb).1⟩⟩
 done:=by
  intro X hP hw hK hc i pins s σ H E I hf st hg
  subst hP hw hK
  obtain ⟨xs,hq,hx⟩:=hg
  obtain ⟨its,rv,p,hz⟩:=I.tuple hq
  obtain ⟨f0,f1,f2,f3,f4,f5⟩:=hf it (by simp)
  have hl:=rv.length
  exact wpAny_pyNext_tuple_end (I.ok.hd hc) st (show s.heap.IsTuple a its.toArray from p) (by simp;omega) fun h' eb=>⟨rfl,I.turned (t':=s.toks) (fun b o hb e=>eb b o hb e) f0 f1 f3 f4 f5⟩
 self:=fun _ _ _ _ _ st h=>wpAny_pyIter_tupleiter st h
theorem zoI {P:Program} {w:World} {K:PySem.W.Frag} {tg:Expr} (it:Addr) (lo:Int) (n:Nat):Turn P w K tg (Itr lo n) [it] it (fun i h=>IsRangeIter h it (lo + (i:Nat) * 1) ((n:Int) - (i:Nat)) 1) where
 mem:=by simp
 obj:=fun i h st b hb=>by
  have e:b=it:=by simpa using hb
  subst e
  exact ⟨_,st,fun v z=>by
   have z':Data.fields _=Data.cell v:=z
   cases z'⟩
 keep:=fun i h h' st k=>k it (by simp) _ st
 item:=by
  intro X hP hw hK hc i pins s σ H E I hf st hg
  subst hP hw hK
  obtain ⟨f0,f1,f2,f3,f4,f5⟩:=hf it (by simp)
  have W:=Walks.range (prog:=X.prog) (w:=X.w) (I.ok.hd hc) it lo 1 n
  refine W.item i s _ _ hg st fun v h' tk hv st' kk=>?_
  obtain ⟨t,rfl⟩:=hv
  have I1:Inv X pins σ H { s with heap:=h',toks:=tk }:=I.turned (fun b o hb e=>kk b o (by simpa using hb) e) f0 f1 f3 f4 f5
  refine ⟨_,rfl,zqS (s:={ s with heap:=h',toks:=tk }) (n:="range_iterator") st' rfl rfl (by decide) ⟨.int (lo + i),H,I1,⟨t,?_⟩,⟨rfl,rfl⟩,st',fun b hb=>(hf b hb).1⟩⟩
  rw [Int.mul_one]
 done:=by
  intro X hP hw hK hc i pins s σ H E I hf st hg
  subst hP hw hK
  obtain ⟨f0,f1,f2,f3,f4,f5⟩:=hf it (by simp)
  exact wpAny_pyNext_range_end (I.ok.hd hc) st (by have:n<=i:=hg;omega) fun h' eb=>⟨rfl,I.turned (t':=s.toks) (fun b o hb e=>eb b o hb e) f0 f1 f3 f4 f5⟩
 self:=fun _ _ _ _ _ st h=>wpAny_pyIter_rangeiter st h
end L2
namespace L2
open PySem PySem.Spec PyProof.Rows
section
variable {X:Cx} {tg:Expr}
theorem zr0 {pins:List (Addr × Obj)} {σ:St} {H:Hp} {s:Shared} {R:It->Hp->Prop} {E:Value->Shared->Prop} {lo hi:Int} {t u v:Tok} {tk:Nat} (I:Inv X pins σ H s) (h1:-(2 ^ 62)<=lo) (h2:lo < 2 ^ 62) (h3:-(2 ^ 62)<=hi) (h4:hi < 2 ^ 62)
  (q:R (Itr lo (hi - lo).toNat) H):wpAny (model X.prog X.w) X.A (pyIter (.ref s.heap.objs.size)) (PIE X pins σ tg R) E { s with heap:=s.heap.push { cls:=.type "range",data:=.fields #[.int lo t,.int hi u,.int 1 v] },toks:=tk }:=by
 refine wpAny_pyIter_range (IsRange.new ..) (small_one h1 h2 h3 h4) ?_
 have I1:Inv X pins σ H { s with heap:=s.heap.push { cls:=.type "range",data:=.fields #[.int lo t,.int hi u,.int 1 v] },toks:=tk }:=I.kept fun b o e=>Heap.get?_push_of_some _ e
 refine ⟨(s.heap.push { cls:=.type "range",data:=.fields #[.int lo t,.int hi u,.int 1 v] }).objs.size,[(s.heap.push { cls:=.type "range",data:=.fields #[.int lo t,.int hi u,.int 1 v] }).objs.size],_,_,H,rfl,
  I1.kept (t':=tk) fun b o e=>Heap.get?_push_of_some _ e,zoI _ lo (hi - lo).toNat,?_,fun b hb=>?_,q⟩
 ·have e1:lo + ((0:Nat):Int) * 1=lo:=by simp
  have e2:(((hi - lo).toNat:Nat):Int) - ((0:Nat):Int)=Builtin.Range.rangeSize lo hi 1:=by rw [rangeSize_one];split <;> omega
  show IsRangeIter _ _ (lo + ((0:Nat):Int) * 1) ((((hi - lo).toNat:Nat):Int) - ((0:Nat):Int)) 1
  rw [e1,e2]
  exact Heap.get?_push_size _ rfl
 ·have e:b=(s.heap.push { cls:=.type "range",data:=.fields #[.int lo t,.int hi u,.int 1 v] }).objs.size:=by simpa using hb
  subst e
  exact I1.zsN (Nat.le_refl _) (I1.hok.fresh (Nat.le_refl _))
def zyu (ta:TA):TI:=fun σ H R=>ta σ H fun vs H1=>∃ j:Int,vs=[.int j]/\-(2 ^ 62)<=j/\j < 2 ^ 62/\R (Itr 0 j.toNat) H1
theorem zqe {a:Expr} {ta:TA} {p pos:Pos} (hg:Gl X "range") (hm:X.mg "range"=none) (ha:PA X [a] ta) (hs:starEach [a] X.env=[(false,eval a X.env)]:=by rfl):PI X tg (.Call (.Name "range" p) [a] [] pos) (zyu ta):=by
 intro pins s σ H R I h
 refine Call_ (zjL I hg hm boot_range (PyProof.Rows.callWith_type1 (thn (ha pos pins s σ H _ I h) fun us s1 ⟨vs,H1,I1,r1,q1⟩=>?_) hs rfl))
 obtain ⟨j,e,q1,q2,q⟩:=q1
 subst e
 cases r1 with
 | cons r rr =>
  cases rr
  obtain ⟨t,rfl⟩:=r
  exact call_range_1 (zr0 I1 (by omega) (by omega) q1 q2 (by simpa using q))
def zza (wi:TI) (g:TG) (tb:TS):TS:=fun D σ H=>wi σ H fun J H1=>∃ W:Nat->Nat->St->Hp->Prop,(∃ m,W 0 m σ H1)/\∀ i m σ H,W i m σ H ->
 (J.stop i H/\D.nx σ H)\/(J.go i H/\∃ N:St->Hp->Prop,(∀ σ' H',N σ' H'->∃ m',m' < m/\W (i + 1) m' σ' H')/\∀ x H',J.yld i H x H'->g x σ H' fun σ2 H2=>tb { D with nx:=N,ct:=N,bk:=D.nx } σ2 H2)
def zhY (fp:List Addr) (h:Heap):List (Addr × Obj):=fp.filterMap fun b=>(h.get? b).map fun o=>(b,o)
theorem zbF {fp:List Addr} {h:Heap} {b:Addr} {o:Obj} (hb:b ∈ fp) (e:h.get? b=some o):(b,o) ∈ zhY fp h:=List.mem_filterMap.mpr ⟨b,hb,by rw [e];rfl⟩
theorem zqj {fp:List Addr} {h:Heap} {p:Addr × Obj} (hp:p ∈ zhY fp h):p.1 ∈ fp/\h.get? p.1=some p.2:=by
 obtain ⟨b,hb,e⟩:=List.mem_filterMap.mp hp
 cases q:h.get? b with
 | none=>rw [q] at e;cases e
 | some o =>
  rw [q] at e
  have e':(b,o)=p:=Option.some.inj e
  subst e'
  exact ⟨hb,q⟩
theorem Inv.pinned {pins:List (Addr × Obj)} {σ:St} {H:Hp} {s:Shared} {fp:List Addr} (I:Inv X pins σ H s) (hf:∀ b ∈ fp,znv X pins H b) (ho:∀ b ∈ fp,∃ o,s.heap.get? b=some o/\∀ v,o.data ≠ .cell v):Inv X (pins ++ zhY fp s.heap) σ H s :=
 I.zqd fun p hp=>(List.mem_append.mp hp).elim (fun z=>I.pin p (List.mem_append_right _ z)) fun z=>by
  obtain ⟨hb,e⟩:=zqj z
  obtain ⟨f0,f1,f2,_⟩:=hf p.1 hb
  obtain ⟨o,e',d⟩:=ho p.1 hb
  rw [e] at e';cases e'
  exact ⟨e,f0,f1,f2,d⟩
theorem Inv.zet {pins pl:List (Addr × Obj)} {σ:St} {H:Hp} {s:Shared} (I:Inv X (pins ++ pl) σ H s):Inv X pins σ H s:=I.zqd fun p hp=>I.pin p (List.mem_append_right _ (List.mem_append_left _ hp))
theorem zwm {iter:Expr} {body:List Stmt} {wi:TI} {g:TG} {tb:TS} {pos:Pos} (hp:PassesOwn (model X.prog X.w) X.A X.env X.xe) (hc:X.calm=true) (hi:PI X tg iter wi) (hg:PG X tg g) (hb:PSs X body tb)
  (hs:∀ x,foldedSetIterable iter X.env x=pure x:=by intro _;rfl):PS X (.For tg iter body [] pos) (zza wi g tb):=by
 intro pins s σ H D I h
 refine wpAny_For (thn (hi pins s σ H _ I h) fun v s1 h1=>thn h1 fun itv s2 h2=>?_) hs
 obtain ⟨it,fp,tn,J,H2,e,I2,T,st2,f2,W,⟨m0,w0⟩,turn⟩:=h2
 subst e
 have stat:∀ {H':Hp},(∀ b ∈ fp,H' b=none)->∀ b ∈ fp,znv X pins H' b:=fun hn b hb=>⟨hn b hb,(f2 b hb).2⟩
 refine codeAny_forLoop_any (fun n s'=>∃ i σ' H',Inv X pins σ' H' s'/\tn i s'.heap/\(∀ b ∈ fp,H' b=none)/\W i n σ' H') ?_ m0 ⟨0,σ,H2,I2,st2,fun b hb=>(f2 b hb).1,w0⟩
 rintro n s3 ⟨i,σ3,H3,I3,st3,fr3,w3⟩
 rcases turn i n σ3 H3 w3 with ⟨stop,qn⟩ | ⟨go,N,hN,step⟩
 ·refine wpAny_passesOwn hp (thn (T.done X rfl rfl rfl hc i pins s3 σ3 H3 X.xe I3 (stat fr3) st3 stop) fun r s4 ⟨hr,I4⟩=>?_)
  subst hr
  exact wpAny_execs_nil ⟨σ3,H3,I4,qn⟩
 ·refine wpAny_passesOwn hp (thn (T.item X rfl rfl rfl hc i pins s3 σ3 H3 X.xe I3 (stat fr3) st3 go) fun r s4 ⟨u,hr,h4⟩=>?_)
  subst hr
  refine wpAny_passesOwn hp (thn h4 fun _ s5 ⟨x,H5,I5,r5,y5,st5,fr5⟩=>?_)
  have I5':=I5.pinned (stat fr5) (T.obj _ _ st5)
  refine wpAny_passesOwn hp (thn (hg _ s5 σ3 H5 x u _ I5' r5 (step x H5 y5)) fun _ s6 ⟨σ6,H6,I6,q6⟩=>?_)
  refine wpAny_passesOwn hp (thn (hb _ s6 σ6 H6 _ I6 q6) fun f s7 q7=>?_)
  have again:∀ {σ7:St} {H7:Hp},Inv X (pins ++ zhY fp s5.heap) σ7 H7 s7->N σ7 H7->∃ m,m < n/\∃ i σ' H',Inv X pins σ' H' s7/\tn i s7.heap/\(∀ b ∈ fp,H' b=none)/\W i m σ' H':=fun {σ7 H7} I7 n7=>by
   obtain ⟨m',hm,w7⟩:=hN σ7 H7 n7
   refine ⟨m',hm,i + 1,σ7,H7,I7.zet,T.keep _ _ _ st5 fun b hb o e=>(I7.pin (b,o) (List.mem_append_right _ (List.mem_append_right _ (zbF hb e)))).1,fun b hb=>?_,w7⟩
   obtain ⟨o,e,d⟩:=T.obj _ _ st5 b hb
   exact (I7.pin (b,o) (List.mem_append_right _ (List.mem_append_right _ (zbF hb e)))).2.1
  cases f with
  | next=>obtain ⟨σ7,H7,I7,n7⟩:=q7;exact again I7 n7
  | cont=>obtain ⟨σ7,H7,I7,n7⟩:=q7;exact again I7 n7
  | brk=>obtain ⟨σ7,H7,I7,q7⟩:=q7;exact ⟨σ7,H7,I7.zet,q7⟩
  | ret v=>obtain ⟨x7,σ7,H7,I7,r7,q7⟩:=q7;exact ⟨x7,σ7,H7,I7.zet,r7,q7⟩
end
end L2
namespace L2
open PySem PySem.Spec PyProof.Rows
abbrev R2:=V->V->Hp->VK->Prop
def OpR (X:Cx) (f:Value->Value->Sem Value) (r:R2):Prop :=
 ∀ (pins:List (Addr × Obj)) (s:Shared) (σ:St) (H:Hp) (x y:V) (v u:Value) (Q:VK),Inv X pins σ H s->RelV x v->RelV y u->r x y H Q ->
  wpAny (model X.prog X.w) X.A (f v u) (EP X pins σ Q) X.xe s
def UnR (X:Cx) (f:Value->Sem Value) (r:V->Hp->VK->Prop):Prop :=
 ∀ (pins:List (Addr × Obj)) (s:Shared) (σ:St) (H:Hp) (x:V) (v:Value) (Q:VK),Inv X pins σ H s->RelV x v->r x H Q ->
  wpAny (model X.prog X.w) X.A (f v) (EP X pins σ Q) X.xe s
def zgJ (X:Cx) (f:Value) (r:List V->Hp->VK->Prop):Prop :=
 ∀ (pins:List (Addr × Obj)) (s:Shared) (σ:St) (H:Hp) (xs:List V) (us:List Value) (Q:VK),Inv X pins σ H s->Vals xs us->r xs H Q ->
  wpAny (model X.prog X.w) X.A (call f us) (EP X pins σ Q) X.xe s
def zyG (X:Cx) (r:V->Hp->(Bool->Hp->Prop)->Prop):Prop :=
 ∀ (pins:List (Addr × Obj)) (s:Shared) (σ:St) (H:Hp) (x:V) (v:Value) (Q:Bool->Hp->Prop),Inv X pins σ H s->RelV x v->r x H Q ->
  wpAny (model X.prog X.w) X.A (truthy v) (TP X pins σ Q) X.xe s
def tOp (r:R2) (ta tb:TE):TE:=fun σ H Q=>ta σ H fun x H1=>tb σ H1 fun y H2=>r x y H2 Q
def tUn (r:V->Hp->VK->Prop) (ta:TE):TE:=fun σ H Q=>ta σ H fun x H1=>r x H1 Q
def rI (C:Int->Int->Prop) (g:Int->Int->V):R2:=fun x y H Q=>∃ i j,x=.int i/\y=.int j/\C i j/\Q (g i j) H
def rI0 (g:Int->Int->V):R2:=fun x y H Q=>∃ i j,x=.int i/\y=.int j/\Q (g i j) H
def rU (g:Int->V):V->Hp->VK->Prop:=fun x H Q=>∃ i,x=.int i/\Q (g i) H
section
variable {X:Cx} {a b c:Expr} {ta tb tc:TE} {pos:Pos}
theorem zyC (ha:PE X a ta) (hb:PE X b tb) {pins:List (Addr × Obj)} {s:Shared} {σ:St} {H:Hp} {R:V->V->Hp->Prop} (I:Inv X pins σ H s)
  (h:ta σ H fun x H1=>tb σ H1 fun y H2=>R x y H2) {Q:Value->Shared->Prop} {f:Value->Value->Sem Value}
  (hf:∀ v u s2 x y H2,Inv X pins σ H2 s2->RelV x v->RelV y u->R x y H2->wpAny (model X.prog X.w) X.A (f v u) Q X.xe s2) :
  wpAny (model X.prog X.w) X.A (eval a X.env) (fun v s₁=>wpAny (model X.prog X.w) X.A (eval b X.env) (fun u s₂=>wpAny (model X.prog X.w) X.A (f v u) Q X.xe s₂) X.xe s₁) X.xe s:=by
 refine thn (ha pins s σ H _ I h) fun v s1 ⟨x,H1,I1,r1,q1⟩=>?_
 refine thn (hb pins s1 σ H1 _ I1 q1) fun u s2 ⟨y,H2,I2,r2,q2⟩=>?_
 exact hf v u s2 x y H2 I2 r1 r2 q2
theorem zww {op:Operator} {r:R2} (ho:OpR X (binaryOp op) r) (ha:PE X a ta) (hb:PE X b tb):PE X (.BinOp a op b pos) (tOp r ta tb):=by
 intro pins s σ H Q I h
 exact wpAny_BinOp (zyC ha hb I h fun v u s2 x y H2 I2 rx ry q=>ho pins s2 σ H2 x y v u Q I2 rx ry q)
theorem zyg {op:UnaryOp} {r:V->Hp->VK->Prop} (ho:UnR X (unaryOp op) r) (ha:PE X a ta):PE X (.UnaryOp op a pos) (tUn r ta):=by
 intro pins s σ H Q I h
 exact UnaryOp_ (thn (ha pins s σ H _ I h) fun v s1 ⟨x,H1,I1,r1,q1⟩=>ho pins s1 σ H1 x v Q I1 r1 q1)
theorem opI {f:Value->Value->Sem Value} {C:Int->Int->Prop} {g:Int->Int->Int}
  (rule:∀ (i j:Int) (t u:Tok) (s:Shared) (Q:Value->Shared->Prop) (E:Value->Shared->Prop),C i j->Q (.int (g i j) s.toks) { s with toks:=s.toks + 1 }->wpAny (model X.prog X.w) X.A (f (.int i t) (.int j u)) Q E s) :
  OpR X f (rI C fun i j=>.int (g i j)):=by
 intro pins s σ H x y v u Q I rx ry h
 obtain ⟨i,j,rfl,rfl,hc,q⟩:=h
 obtain ⟨t,rfl⟩:=rx
 obtain ⟨t',rfl⟩:=ry
 exact rule i j t t' s _ _ hc ⟨.int (g i j),H,I.tok _,⟨_,rfl⟩,q⟩
theorem zyO {f:Value->Value->Sem Value} {g:Int->Int->Int}
  (rule:∀ (i j:Int) (t u:Tok) (s:Shared) (Q:Value->Shared->Prop) (E:Value->Shared->Prop),Q (.int (g i j) s.toks) { s with toks:=s.toks + 1 }->wpAny (model X.prog X.w) X.A (f (.int i t) (.int j u)) Q E s) :
  OpR X f (rI0 fun i j=>.int (g i j)):=by
 intro pins s σ H x y v u Q I rx ry h
 obtain ⟨i,j,rfl,rfl,q⟩:=h
 obtain ⟨t,rfl⟩:=rx
 obtain ⟨t',rfl⟩:=ry
 exact rule i j t t' s _ _ ⟨.int (g i j),H,I.tok _,⟨_,rfl⟩,q⟩
theorem zxS {f:Value->Value->Sem Value} {g:Int->Int->Bool}
  (rule:∀ (i j:Int) (t u:Tok) (s:Shared) (Q:Value->Shared->Prop) (E:Value->Shared->Prop),Q (.bool (g i j)) s->wpAny (model X.prog X.w) X.A (f (.int i t) (.int j u)) Q E s) :
  OpR X f (rI0 fun i j=>.bl (g i j)):=by
 intro pins s σ H x y v u Q I rx ry h
 obtain ⟨i,j,rfl,rfl,q⟩:=h
 obtain ⟨t,rfl⟩:=rx
 obtain ⟨t',rfl⟩:=ry
 exact rule i j t t' s _ _ ⟨.bl (g i j),H,I,rfl,q⟩
def zy1 (i j:Int):Prop:=0<=j/\j<=1000000/\i.natAbs < 2 ^ 64
theorem zwJ:OpR X (binaryOp .Add) (rI0 fun i j=>.int (i + j)):=zyO fun _ _ _ _ _ _ _ q=>add_int q
theorem zwE:OpR X (binaryOp .Sub) (rI0 fun i j=>.int (i - j)):=zyO fun _ _ _ _ _ _ _ q=>sub_int q
theorem zuT:OpR X (binaryOp .Mod) (rI (fun _ j=>j ≠ 0) fun i j=>.int (i.fmod j)):=opI fun _ _ _ _ _ _ _ hc q=>mod_int' hc q
theorem zwG:OpR X (binaryOp .Pow) (rI zy1 fun i j=>.int (i ^ j.toNat)):=opI fun _ _ _ _ _ _ _ hc q=>pow_int_small hc.1 hc.2.1 hc.2.2 q
theorem unI {f:Value->Sem Value} {g:Int->Int}
  (rule:∀ (i:Int) (t:Tok) (s:Shared) (Q:Value->Shared->Prop) (E:Value->Shared->Prop),Q (.int (g i) s.toks) { s with toks:=s.toks + 1 }->wpAny (model X.prog X.w) X.A (f (.int i t)) Q E s) :
  UnR X f (rU fun i=>.int (g i)):=by
 intro pins s σ H x v Q I rx h
 obtain ⟨i,rfl,q⟩:=h
 obtain ⟨t,rfl⟩:=rx
 exact rule i t s _ _ ⟨.int (g i),H,I.tok _,⟨_,rfl⟩,q⟩
theorem zvT:UnR X (unaryOp .USub) (rU fun i=>.int (-i)):=unI fun _ _ _ _ _ q=>neg_int q
end
section
variable {X:Cx} {a b c:Expr} {ta tb tc:TE} {pos:Pos}
theorem zxo {pins:List (Addr × Obj)} {σ:St} {H:Hp} {s:Shared} {Q:VK} {k k':Bool} (I:Inv X pins σ H s) (q:Q (.bl k) H) (e:k=k'):EP X pins σ Q (.bool k') s:=by
 subst e
 exact ⟨.bl k,H,I,rfl,q⟩
theorem zyl:OpR X (compareOp .Lt) (rI0 fun i j=>.bl (decide (i < j))):=zxS fun _ _ _ _ _ _ _ q=>lt_int q
theorem zym:OpR X (compareOp .LtE) (rI0 fun i j=>.bl (decide (i<=j))):=zxS fun _ _ _ _ _ _ _ q=>le_int q
theorem zyn:OpR X (compareOp .Gt) (rI0 fun i j=>.bl (decide (j < i))):=zxS fun _ _ _ _ _ _ _ q=>gt_int q
theorem zyo:OpR X (compareOp .GtE) (rI0 fun i j=>.bl (decide (j<=i))):=zxS fun _ _ _ _ _ _ _ q=>ge_int q
theorem zuQ:OpR X (compareOp .IsNot) (fun x y H Q=>y=.non/\Q (.bl (!decide (x=.non))) H):=by
 intro pins s σ H x y v u Q I rx ry h
 obtain ⟨rfl,q⟩:=h
 cases ry
 refine isnot_none_gen (zxo I q ?_)
 cases x <;> first
  | (cases rx;rfl)
  | (obtain ⟨t,rfl⟩:=rx;rfl)
theorem ztz (b:Expr) {op:CmpOp} (h:op ≠ .In:=by decide) (h2:op ≠ .NotIn:=by decide):behindInMarks op b=false:=by
 have e1:(op == CmpOp.In)=false:=by cases op <;> first | rfl | exact absurd rfl h
 have e2:(op == CmpOp.NotIn)=false:=by cases op <;> first | rfl | exact absurd rfl h2
 cases b <;> simp [behindInMarks,e1,e2]
theorem zuL {op:CmpOp} {r:R2} (ho:OpR X (compareOp op) r) (ha:PE X a ta) (hb:PE X b tb) (hm:behindInMarks op b=false):PE X (.Compare a [op] [b] pos) (tOp r ta tb):=by
 intro pins s σ H Q I h
 exact wpAny_Compare1 (zyC ha hb I h fun v u s2 x y H2 I2 rx ry q=>ho pins s2 σ H2 x y v u Q I2 rx ry q) hm
def zvX (t:TE):TT:=fun σ H Q=>t σ H fun x H'=>∃ k,x=.bl k/\Q k H'
theorem zuy {op:CmpOp} {r:R2} (ho:OpR X (compareOp op) r) (ha:PE X a ta) (hb:PE X b tb) (hm:behindInMarks op b=false):PT X (.Compare a [op] [b] pos) (zvX (tOp r ta tb)):=by
 intro pins s σ H Q I h
 refine wpAny_isTrue_Compare1 (thn (ha pins s σ H _ I h) fun v s1 ⟨x,H1,I1,r1,q1⟩=>thn (hb pins s1 σ H1 _ I1 q1) fun u s2 ⟨y,H2,I2,r2,q2⟩ =>
  thn (ho pins s2 σ H2 x y v u _ I2 r1 r2 q2) fun c s3 ⟨z,H3,I3,r3,k,e,q3⟩=>?_) hm
 subst e
 cases r3
 exact wpAny_truthy_bool ⟨H3,I3,q3⟩
def ztp (r r':R2) (ta tb tc:TE):TE:=fun σ H Q=>ta σ H fun x H1=>tb σ H1 fun y H2=>r x y H2 fun z H3=>∃ k,z=.bl k /\
 (if k=true then tc σ H3 fun w' H4=>r' y w' H4 Q else Q (.bl false) H3)
theorem zsa {op op':CmpOp} {r r':R2} (ho:OpR X (compareOp op) r) (ho':OpR X (compareOp op') r') (ha:PE X a ta) (hb:PE X b tb) (hc:PE X c tc)
  (hm:lastMarks [op,op'] [b,c]=false:=by with_unfolding_all rfl):PT X (.Compare a [op,op'] [b,c] pos) (zvX (ztp r r' ta tb tc)):=by
 intro pins s σ H Q I h
 refine isTrue_chain (thn (ha pins s σ H _ I h) fun v s1 ⟨x,H1,I1,r1,q1⟩=>test_link (thn (hb pins s1 σ H1 _ I1 q1) fun u s2 ⟨y,H2,I2,r2,q2⟩ =>
  thn (ho pins s2 σ H2 x y v u _ I2 r1 r2 q2) fun d s3 ⟨z,H3,I3,r3,k,e,q3⟩=>?_)) hm
 subst e
 cases r3
 refine wpAny_truthy_bool ?_
 cases k with
 | false =>
  obtain ⟨k',e',q'⟩:=q3
  cases e'
  exact ite_ff ⟨H3,I3,q'⟩
 | true =>
  refine ite_tt (test_last (thn (hc pins s3 σ H3 _ I3 q3) fun w' s4 ⟨z',H4,I4,r4,q4⟩=>thn (ho' pins s4 σ H4 y z' u w' _ I4 r2 r4 q4) fun d' s5 ⟨z2,H5,I5,r5,k2,e2,q5⟩=>?_))
  subst e2
  cases r5
  exact wpAny_truthy_bool ⟨H5,I5,q5⟩
def zzL (K:PySem.W.Frag) (x:V) (H:Hp) (k:Bool):Prop :=
 match x with
 | .non=>k=false
 | .bl b=>k=b
 | .int i=>k=(i != 0)
 | .str y=>y.length<=sizeLine/\k=((y.length:Int) != 0)
 | .byt y=>y.size<=sizeLine/\k=((y.size:Int) != 0)
 | .ref p=>(∃ xs,SqL K H p xs/\k=!xs.isEmpty)\/(∃ xs,SqT K H p xs/\k=!xs.isEmpty)\/∃ kvs,H p=some (.dK kvs)/\k=!kvs.isEmpty
 | _=>False
theorem zpc {κ:Type} {kvs:List (κ × V)} {vs:List (κ × Value)} (r:KV kvs vs):(!vs.isEmpty)=!kvs.isEmpty:=by
 cases r <;> rfl
theorem zjO {xs:List V} {its:List Value} (r:Vals xs its):(!its.toArray.isEmpty)=!xs.isEmpty:=by
 cases r <;> simp
theorem zlC:(sizeLine:Nat) < 2 ^ 63:=by rw [sizeLine_eq];decide
theorem zvU:zyG X (fun x H Q=>∃ k,zzL X.K x H k/\Q k H):=by
 intro pins s σ H x v Q I rx h
 obtain ⟨k,e,q⟩:=h
 have hl:=zlC
 have hs:sizeLine=16777216:=sizeLine_eq
 cases x with
 | non =>
  cases rx
  have e':k=false:=e
  subst e'
  exact truthy_none ⟨H,I,q⟩
 | bl b =>
  cases rx
  have e':k=b:=e
  subst e'
  exact wpAny_truthy_bool ⟨H,I,q⟩
 | int i =>
  obtain ⟨t,rfl⟩:=rx
  have e':k=(i != 0):=e
  subst e'
  exact PySem.P.truthy_int ⟨H,I,q⟩
 | str y =>
  obtain ⟨t,rfl⟩:=rx
  obtain ⟨hy,e'⟩:y.length<=sizeLine/\k=((y.length:Int) != 0):=e
  subst e'
  exact PySem.P.truthy_str (by omega) ⟨H,I.tok _,q⟩
 | byt y =>
  obtain ⟨t,rfl⟩:=rx
  obtain ⟨hy,e'⟩:y.size<=sizeLine/\k=((y.size:Int) != 0):=e
  subst e'
  exact PySem.W.truthy_bytes (by omega) ⟨H,I.tok _,q⟩
 | ref p =>
  cases rx
  have e':(∃ xs,SqL X.K H p xs/\k=!xs.isEmpty)\/(∃ xs,SqT X.K H p xs/\k=!xs.isEmpty)\/∃ kvs,H p=some (.dK kvs)/\k=!kvs.isEmpty:=e
  rcases e' with ⟨xs,hx,e'⟩ | ⟨xs,hx,e'⟩ | ⟨kvs,hx,e'⟩
  ·subst e'
   obtain ⟨its,r,pl,hz⟩:=I.list hx
   have hlen:=r.length
   exact wpAny_truthy_list pl.isList (by simp only [List.size_toArray];omega) ⟨H,I.tok _,by rw [zjO r];exact q⟩
  ·subst e'
   obtain ⟨its,r,pl,hz⟩:=I.tuple hx
   have hlen:=r.length
   exact truthy_tuple pl (by simp only [List.size_toArray];omega) ⟨H,I.tok _,by rw [zjO r];exact q⟩
  ·subst e'
   obtain ⟨hz,hS,vs,r,m⟩:kvs.length<=sizeLine/\(p == sysModules)=false/\∃ vs,KV kvs vs/\s.heap.DictOf (za6 X.prog X.w) p vs:=I.hok p _ hx
   have hlen:kvs.length=vs.length:=Paired.length r
   exact wpAny_truthy_dict hS m (by omega) ⟨H,I.tok _,by rw [zpc r];exact q⟩
 | _=>exact (show False from e).elim
theorem vals1 {x:V} {us:List Value} (r:Vals [x] us):∃ u,us=[u]/\RelV x u:=by
 cases r with
 | cons r1 r2=>cases r2;exact ⟨_,rfl,r1⟩
theorem vals2 {x y:V} {us:List Value} (r:Vals [x,y] us):∃ u w',us=[u,w']/\RelV x u/\RelV y w':=by
 cases r with
 | cons r1 r2 =>
  cases r2 with
  | cons r3 r4=>cases r4;exact ⟨_,_,rfl,r1,r3⟩
theorem zs4:zgJ X (.builtin "abs") (fun xs H Q=>∃ i,xs=[.int i]/\Q (.int (if i < 0 then -i else i)) H):=by
 intro pins s σ H xs us Q I r h
 obtain ⟨i,rfl,q⟩:=h
 obtain ⟨u,rfl,t,rfl⟩:=vals1 r
 exact call_abs_int fun u tk=>⟨.int (if i < 0 then -i else i),H,I.tok _,⟨_,rfl⟩,q⟩
end
end L2
namespace L2
open PySem PySem.Spec PyProof.Rows
structure zzP (h:Heap) (x dx C:Addr) (mA:Str->Option Value):Prop where
 obj:h.get? x=some (PySem.W.instObj C dx)
 ns:h.Ns1 dx mA
 ne:dx ≠ x
theorem zrM.some_of {v:V} {o:Option Value} (r:zrM (some v) o):∃ u,o=some u/\RelV v u:=by
 cases o with
 | none=>exact (show False from r).elim
 | some u=>exact ⟨u,rfl,r⟩
structure Cls (K:PySem.W.Frag) (C:Addr):Prop where
 pg:PySem.W.plainGet K C Str.empty=true
 hd:PySem.W.hasDictIn K C=true
 po:PySem.W.plainOver K C=true
 sa:PySem.W.findIn K (.ref C) "__setattr__"=some (some (.builtin "object.__setattr__"))
structure Con (K:PySem.W.Frag) (C:Addr) (f:Str) (v:V) (u:Value):Prop where
 at_:PySem.W.findIn K (.ref C) f=some (some u)
 rel:RelV v u
 get:PySem.W.specialIn K u "__get__"=some none
 cp:PySem.W.copiedNames.contains f=false
structure Meth (K:PySem.W.Frag) (C:Addr) (m:Str) (f:Addr):Prop where
 at_:PySem.W.findIn K (.ref C) m=some (some (.ref f))
 fn:PySem.W.isFn K (.ref f)=true
 kp:PySem.W.keepIn K (.ref f)=true
section
variable {X:Cx} {pins:List (Addr × Obj)} {σ:St} {H:Hp} {s:Shared} {A:Around} {E:Value->Shared->Prop} {Q:Value->Shared->Prop} {c:Value} {b:Bool}
inductive zru (K:PySem.W.Frag) (H:Hp):V->Value->Prop where
 | non:zru K H .non (.type "NoneType")
 | bl (x:Bool):zru K H (.bl x) (.type "bool")
 | int (i:Int):zru K H (.int i) (.type "int")
 | str (x:Str):zru K H (.str x) (.type "str")
 | flt (x:UInt64):zru K H (.flt x) (.type "float")
 | lst {a:Addr} {xs:List V} (e:H a=some (.lst xs)):zru K H (.ref a) (.type "list")
 | frz {a:Addr} {o:Obj} {xs:List V} (e:H a=some (.frz o (.lst xs))):zru K H (.ref a) (.type "list")
 | tup {a:Addr} {xs:List V} (e:H a=some (.tup xs)):zru K H (.ref a) (.type "tuple")
 | dK {a:Addr} {kvs:List (Key × V)} (e:H a=some (.dK kvs)):zru K H (.ref a) (.type "dict")
 | dT {a:Addr} {kvs:List (List Key × V)} (e:H a=some (.dT kvs)):zru K H (.ref a) (.type "dict")
 | ins {a C dx:Addr} {fs:List (Str × V)} (e:H a=some (.ins C dx fs)) (cl:Cls K C) (ha:PySem.W.findIn K (.ref C) "__class__"=some (some (.builtin "object.__class__")))
   (hn:PySem.W.specialIn K (.builtin "object.__class__") "__get__"=some (some (.builtin "getset_descriptor.__get__"))) (htk:PySem.W.takesIn K (.builtin "object.__class__")=some true)
   (hm:PySem.W.mroIn K C (.type "object")=some true):zru K H (.ref a) (.ref C)
end
end L2
namespace L2
open PySem PySem.Spec PyProof.Rows
structure zcZ (k:Nat) (A:Around):Prop where
 hd:A.handled=none
 dp:A.depth + 3 * k + 110 < recursionLimit
 un:A.units + 16 * k + 200 < cLine
 gd:A.guards=some []
theorem zcZ.mono {j k:Nat} {A:Around} (r:zcZ k A) (h:j<=k):zcZ j A:=⟨r.hd,by have:=r.dp;omega,by have:=r.un;omega,r.gd⟩
theorem zcZ.deeper {k:Nat} {A:Around} (r:zcZ (k + 1) A) (env:Env):zcZ k (A.deeper env) :=
 ⟨r.hd,by have:=r.dp;show A.depth + 1 + 3 * k + 110 < _;omega,by have:=r.un;show A.units + 3 + 16 * k + 200 < _;omega,r.gd⟩
theorem zcZ.depth {k:Nat} {A:Around} (r:zcZ k A):A.depth < recursionLimit:=by have:=r.dp;omega
theorem zcZ.units {k:Nat} {A:Around} (r:zcZ k A):A.units + 64 < cLine:=by have:=r.un;omega
def zy7:TA:=fun _ H Q=>Q [] H
def zx5 (ta:TE) (tr:TA):TA:=fun σ H Q=>ta σ H fun x H1=>tr σ H1 fun xs H2=>Q (x :: xs) H2
section
variable {X:Cx} {e:Expr} {es:List Expr} {te:TE} {t:TA} {pos:Pos}
theorem zls:PA X [] zy7:=fun _ _ _ _ H Q I h=>Calls.spliced_nil ⟨[],H,I,.nil,h⟩
theorem zdZ (ha:PE X e te) (hr:PA X es t) (hs:starEach (e :: es) X.env=(false,eval e X.env) :: starEach es X.env:=by rfl):PA X (e :: es) (zx5 te t):=by
 intro pos pins s σ H Q I h
 rw [hs]
 show wpAny _ _ (spliced ((false,eval e X.env) :: backTo pos (starEach es X.env))) _ _ s
 refine Calls.spliced_cons (thn (ha pins s σ H _ I h) fun u s1 ⟨x,H1,I1,r1,q1⟩=>?_)
 exact thn (hr pos pins s1 σ H1 _ I1 q1) fun us s2 ⟨xs,H2,I2,r2,q2⟩=>⟨x :: xs,H2,I2,.cons r1 r2,q2⟩
def zy3 (t:TA):TE:=fun σ H Q=>t σ H fun xs H1=>xs.length<=sizeLine/\∀ p,H1 p=none->Q (.ref p) (upd H1 p (.tup xs))
def zy8 (t:TA):TE:=fun σ H Q=>t σ H fun xs H1=>xs.length<=sizeLine/\∀ p,H1 p=none->Q (.ref p) (upd H1 p (.lst xs))
theorem zwu {x1} (h:PA X es t):PE X (.Tuple es x1 pos) (zy3 t):=by
 intro pins s σ H Q I hq
 refine wpAny_Tuple_spliced (thn (h pos pins s σ H _ I hq) fun us s1 ⟨xs,H1,I1,r,z,q⟩=>⟨by rw [<- r.length];exact z,?_⟩)
 have hf:H1 s1.heap.objs.size=none:=I1.hok.fresh (Nat.le_refl _)
 refine ⟨.ref s1.heap.objs.size,upd H1 s1.heap.objs.size (.tup xs),I1.laid (t':=s1.toks) (fun b u e=>Heap.get?_push_of_some _ e) (Nat.le_refl _) ?_,rfl,q _ hf⟩
 exact ⟨z,us,r,⟨_,Heap.get?_push_size _ rfl,rfl,_,rfl⟩⟩
theorem ztx (h:PA X es t):PE X (.List es pos) (zy8 t):=by
 intro pins s σ H Q I hq
 refine wpAny_List_spliced (thn (h pos pins s σ H _ I hq) fun us s1 ⟨xs,H1,I1,r,z,q⟩=>⟨by rw [<- r.length];exact z,?_⟩)
 have hf:H1 s1.heap.objs.size=none:=I1.hok.fresh (Nat.le_refl _)
 refine ⟨.ref s1.heap.objs.size,upd H1 s1.heap.objs.size (.lst xs),I1.laid (t':=s1.toks) (fun b u e=>Heap.get?_push_of_some _ e) (Nat.le_refl _) ?_,rfl,q _ hf⟩
 exact ⟨z,us,0,r,Heap.get?_push_size _ rfl⟩
end
abbrev Sp:=List V->Hp->VK->XK->Prop
abbrev CXT:=List Env->Hp->Shared->XK->Value->Shared->Prop
structure zxZ (P:Program) (w:World) (K:PySem.W.Frag) (mg:Str->Option Value) (base:Heap) (A:Around) (outer:List Env) (s:Shared) (H:Hp):Prop where
 frames:A.frames=some outer
 mod:Mod K mg base
 bs:∀ b o,base.get? b=some o->s.heap.get? b=some o/\H b=none
 bsz:base.objs.size<=s.heap.objs.size
 zqY:s.heap.FunFrames base outer
 frf:∀ b ∈ frs outer,H b=none
 hok:HOk P w H s.heap
 bare:AllBare s.gens
 tree:P.given.tree=none
theorem Inv.pyl {X:Cx} {pins:List (Addr × Obj)} {σ:List (Option V)} {H:Hp} {s:Shared} (I:Inv X pins σ H s) (hd:X.A.depth + 100 < recursionLimit):PySem.PylongRoom (model X.prog X.w) X.A s:=by
 obtain ⟨env,r,e,h1,h2,h3,h4⟩:=I.ok.sk
 exact PySem.PylongRoom.of I.nolimit hd (PySem.SeerAt.of (I.ok.mod.seer.keeps I.bk) I.ok.tree (I.ok.frames.trans (congrArg some e)) h1 h2 h3 h4)
def CE (outer:List Env) (P:Program) (w:World) (H:Hp) (s:Shared) (Q:VK) (u:Value) (s':Shared):Prop :=
 ∃ v H',s'.os=s.os/\AllBare s'.gens/\Un (frs outer) [] H H' s.heap s'.heap/\HOk P w H' s'.heap/\RelV v u/\Q v H'
def CR (CX:CXT) (outer:List Env) (P:Program) (w:World) (H:Hp) (s:Shared) (Q:VK) (E:XK) (r:Result) (s':Shared):Prop :=
 match r with
 | .ok (.ret u)=>CE outer P w H s Q u s'
 | .ok _=>False
 | .error e=>CX outer H s E e s'
structure zk8 (P:Program) (w:World) (K:PySem.W.Frag) (mg:Str->Option Value) (base:Heap) (CX:CXT) (k:Nat) (f:Addr) (fd:FuncData) (ps:List Str) (sp:Sp):Prop where
 len:∀ vs H Q E,sp vs H Q E->vs.length=ps.length
 run:∀ (A:Around) (outer:List Env) (s:Shared) (H:Hp) (args:Args) (us:List Value) (vs:List V) (Q:VK) (E:XK),zcZ k A->zxZ P w K mg base A outer s H->BindsTo s fd args (ps.zip us)->Vals vs us->sp vs H Q E ->
  codeAny (model P w) A (.call (.ref f) args) (CR CX outer P w H s Q E) s
theorem zk8.imp {P:Program} {w:World} {K:PySem.W.Frag} {mg:Str->Option Value} {base:Heap} {CX:CXT} {k:Nat} {f:Addr} {fd:FuncData} {ps:List Str} {sp sp':Sp} (F:zk8 P w K mg base CX k f fd ps sp)
  (h:∀ vs H Q E,sp' vs H Q E->sp vs H Q E):zk8 P w K mg base CX k f fd ps sp' :=
 ⟨fun vs H Q E q=>F.len vs H Q E (h _ _ _ _ q),fun A outer s H args us vs Q E hr he hb hv hs=>F.run A outer s H args us vs Q E hr he hb hv (h _ _ _ _ hs)⟩
section
variable {X:Cx} {pins:List (Addr × Obj)} {σ:St} {H:Hp} {s s':Shared}
theorem Inv.env0 (I:Inv X pins σ H s):zxZ X.prog X.w X.K X.mg X.base X.A X.stack s H :=
 ⟨I.ok.frames,I.ok.mod,I.bs,Nat.le_trans I.ok.bsz I.sz,I.stack,I.zpJ,I.hok,I.bare,I.ok.tree⟩
theorem Inv.after {Q:VK} {u:Value} (I:Inv X pins σ H s) (h:CE X.stack X.prog X.w H s Q u s'):EP X pins σ Q u s':=by
 obtain ⟨v,H',os,bare,un,hok,r,q⟩:=h
 obtain ⟨hh,g,d,t,os'⟩:=s'
 obtain rfl:os'=s.os:=os
 exact ⟨v,H',I.call (h':=hh) (g':=g) (d':=d) (t':=t) (ch:=[]) un hok bare (fun b z=>absurd z (by simp)),r,q⟩
end
def zua (sp:Sp) (dvs:List V) (E:XK) (t:TA):TE:=fun σ H Q=>t σ H fun vs H1=>sp (vs ++ dvs) H1 Q E
def Binds (K:PySem.W.Frag) (fd:FuncData) (ps:List Str) (ds:List Value):Prop :=
 ∀ (s:Shared) (us:List Value),K.In s.heap->(us ++ ds).length=ps.length->BindsTo s fd ⟨us,[]⟩ (ps.zip (us ++ ds))
theorem Binds.all {K:PySem.W.Frag} {fd:FuncData} {ps:List Str} (h:∀ us:List Value,us.length=ps.length->bindArgs fd ⟨us,[]⟩=pure (ps.zip us)):Binds K fd ps []:=fun s us _ hl=>by
 rw [List.append_nil] at hl ⊢
 exact .of_eq (h us hl)
def Passes (CX:CXT) (X:Cx) (E:XK):Prop:=∀ (pins:List (Addr × Obj)) (σ:St) (H:Hp) (s:Shared) (e:Value) (s':Shared),Inv X pins σ H s->CX X.stack H s E e s'->X.xe e s'
section
variable {X:Cx} {CX:CXT} {k:Nat} {f C:Addr} {fd:FuncData} {ps:List Str} {sp:Sp} {dvs:List V} {ds:List Value} {E:XK} {x m:Str} {p pos apos:Pos} {e o:Expr} {es:List Expr} {ta:TE} {t:TA}
theorem zv7 {pins:List (Addr × Obj)} {σ:St} {H:Hp} {s:Shared} {Q:VK} {us:List Value} {vs:List V} (F:zk8 X.prog X.w X.K X.mg X.base CX k f fd ps sp) (hr:zcZ k X.A) (hb:Binds X.K fd ps ds) (hd:Vals dvs ds) (hx:Passes CX X E)
  (I:Inv X pins σ H s) (r:Vals vs us) (h:sp (vs ++ dvs) H Q E):wpAny (model X.prog X.w) X.A (call (.ref f) us) (EP X pins σ Q) X.xe s:=by
 have r2:Vals (vs ++ dvs) (us ++ ds):=r.append hd
 have hl:(us ++ ds).length=ps.length:=by rw [<- r2.length];exact F.len _ _ _ _ h
 refine wpAny_call (codeAny_mono (F.run X.A X.stack s H ⟨us,[]⟩ (us ++ ds) (vs ++ dvs) Q E hr I.env0 (hb s us I.kIn hl) r2 h) fun r s' hq=>?_)
 cases r with
 | error e=>exact hx pins σ H s e s' I hq
 | ok fl =>
  cases fl with
  | ret u=>exact I.after hq
  | next=>exact False.elim hq
  | brk=>exact False.elim hq
  | cont=>exact False.elim hq
theorem zuM (F:zk8 X.prog X.w X.K X.mg X.base CX k f fd ps sp) (hr:zcZ k X.A) (hg:Gl X x) (hm:X.mg x=some (.ref f)) (hk:PySem.W.keepIn X.K (.ref f)=true) (hb:Binds X.K fd ps ds) (hd:Vals dvs ds) (hx:Passes CX X E)
  (ha:PA X (e :: es) t) (hdb:(x == ("__debug__":Str))=false:=by decide) (he:starEach (e :: es) X.env=(false,eval e X.env) :: starEach es X.env:=by rfl) (hpl:(backTo pos (starEach es X.env)).any (·.1)=false:=by rfl) :
  PE X (.Call (.Name x p) (e :: es) [] pos) (zua sp dvs E t):=by
 intro pins s σ H Q I h
 refine wpAny_Call_Name_kw (zqv I hg hm ?_ hdb)
 refine PySem.W.callWith_K (h₀:=X.base) I.ok.mod.kin hk (thn (ha pos pins s σ H _ I h) fun us s1 ⟨vs,H1,I1,r,q⟩=>⟨I1.kIn,?_⟩) he hpl
 exact zv7 F hr hb hd hx I1 r q
structure Mk (K:PySem.W.Frag) (C f:Addr):Prop where
 makes:PySem.W.makesIn K C=true
 init:PySem.W.findIn K (.ref C) "__init__"=some (some (.ref f))
 fn:PySem.W.isFn K (.ref f)=true
 kp:PySem.W.keepIn K (.ref C)=true
end
section
variable {X:Cx} {CX:CXT} {k:Nat} {f C:Addr} {fd:FuncData} {ps ks:List Str} {sp:Sp} {E:XK} {x m:Str} {p pos apos kpos:Pos} {e o:Expr} {es:List Expr} {kws:List Keyword} {te ta:TE} {t tk:TA} {nm:Option Str}
structure zyZ (K:PySem.W.Frag) (fd:FuncData) (ps ks:List Str) (g:List Value->List Value->List Value) (gV:List V->List V->List V):Prop where
 to:∀ (s:Shared) (us ws:List Value),K.In s.heap->(g us ws).length=ps.length->BindsTo s fd ⟨us,ks.zip ws⟩ (ps.zip (g us ws))
 rel:∀ {vs:List V} {us:List Value} {zs:List V} {ws:List Value},Vals vs us->Vals zs ws->Vals (gV vs zs) (g us ws)
variable {g:List Value->List Value->List Value} {gV:List V->List V->List V}
end
structure zeq (N P:List Str) (sc:Scope):Prop where
 kind:sc.kind=.function
 co:sc.isCoroutine=false
 gen:sc.isGenerator=false
 nd:N.Nodup
 pre:N.take P.length=P
 par:∀ x ∈ P,sc.names.lookup x=some .local\/sc.names.lookup x=some .cell
 nofree:∀ y ∈ sc.names,y.2 ≠ .free
theorem zl3 {kindOf:Str->Option NameKind} {x:Str}:∀ {binds:List (Str × Value)} {m:Str->Option Value},(∀ v,(x,v) ∉ binds)->bindL kindOf binds m x=m x
 | [],_,_=>rfl
 | (n,v) :: r,m,h=>by
  unfold bindL
  rw [zl3 fun w hw=>h w (List.mem_cons_of_mem _ hw)]
  split
  ·have:x ≠ n:=by rintro rfl;exact h v List.mem_cons_self
   simp [this]
  ·rfl
theorem zl5 {kindOf:Str->Option NameKind} {x:Str}:∀ {binds:List (Str × Value)} {m:Str->Option Value},(∀ v,(x,v) ∉ binds)->bindC kindOf binds m x=m x
 | [],_,_=>rfl
 | (n,v) :: r,m,h=>by
  unfold bindC
  rw [zl5 fun w hw=>h w (List.mem_cons_of_mem _ hw)]
  split
  ·rfl
  ·have:x ≠ n:=by rintro rfl;exact h v List.mem_cons_self
   simp [this]
theorem zl4 {kindOf:Str->Option NameKind} {x:Str} {v:Value}:∀ {P:List Str} {vs:List Value} {i:Nat} {m:Str->Option Value},P.Nodup->P[i]?=some x->vs[i]?=some v->kindOf x=some .local ->
  bindL kindOf (P.zip vs) m x=some v
 | [],_,_,_,_,h,_,_=>by simp at h
 | _ :: _,[],_,_,_,_,h,_=>by simp at h
 | p :: P,w :: vs,0,m,nd,h1,h2,hk=>by
  simp at h1 h2;subst h1;subst h2
  show bindL kindOf ((p,w) :: P.zip vs) m p=_
  unfold bindL
  rw [zl3 fun v hv=>(List.nodup_cons.mp nd).1 (List.of_mem_zip hv).1,if_pos hk]
  simp
 | p :: P,w :: vs,i + 1,m,nd,h1,h2,hk=>by
  show bindL kindOf ((p,w) :: P.zip vs) m x=_
  unfold bindL
  exact zl4 (i:=i) (List.nodup_cons.mp nd).2 (by simpa using h1) (by simpa using h2) hk
theorem zl6 {kindOf:Str->Option NameKind} {x:Str} {v:Value}:∀ {P:List Str} {vs:List Value} {i:Nat} {m:Str->Option Value},P.Nodup->P[i]?=some x->vs[i]?=some v->kindOf x ≠ some .local ->
  bindC kindOf (P.zip vs) m x=some v
 | [],_,_,_,_,h,_,_=>by simp at h
 | _ :: _,[],_,_,_,_,h,_=>by simp at h
 | p :: P,w :: vs,0,m,nd,h1,h2,hk=>by
  simp at h1 h2;subst h1;subst h2
  show bindC kindOf ((p,w) :: P.zip vs) m p=_
  unfold bindC
  rw [zl5 fun v hv=>(List.nodup_cons.mp nd).1 (List.of_mem_zip hv).1,if_neg hk]
  simp
 | p :: P,w :: vs,i + 1,m,nd,h1,h2,hk=>by
  show bindC kindOf ((p,w) :: P.zip vs) m x=_
  unfold bindC
  exact zl6 (i:=i) (List.nodup_cons.mp nd).2 (by simpa using h1) (by simpa using h2) hk
def start (N:List Str) (vs:List V):St:=vs.map some ++ List.replicate (N.length - vs.length) none
def zrL (CX:CXT) (P:Program) (w:World) (K:PySem.W.Frag) (mg:Str->Option Value) (base:Heap) (N:List Str) (qual:Str) (scope:Scope) (f:Addr) (cd:Value) (A:Around) (outer:List Env) (s:Shared) (H:Hp) (E:XK):Cx where
 prog:=P
 w:=w
 K:=K
 mg:=mg
 base:=base
 A:=A.deeper (envOfC qual scope s.heap.objs.size f cd)
 N:=N
 s₀:=s
 H₀:=H
 env:=envOfC qual scope s.heap.objs.size f cd
 outer:=outer
 stack:=envOfC qual scope s.heap.objs.size f cd :: outer
 ex:=[]
 calm:=true
 fn:=fun _=>true
 pn:=[]
 xe:=fun e s'=>wpAny (model P w) (A.deeper (envOfC qual scope s.heap.objs.size f cd)) (leaving (envOfC qual scope s.heap.objs.size f cd) e) (fun _ s''=>CX outer H s E e s'') (fun e' s''=>CX outer H s E e' s'') s'
theorem zor {sc:Scope} {n:Nat} {x:Str} (h:sc.names.lookup x=some .cell):∃ c,(cellsFrom n sc.names []).lookup x=some c:=by
 have q:=PySem.W.cellsFrom_some sc.names n [] (.inl h)
 exact Option.isSome_iff_exists.mp q
theorem zqP {CX:CXT} {P:Program} {w:World} {K:PySem.W.Frag} {mg:Str->Option Value} {base:Heap} {N ps:List Str} {qual:Str} {scope:Scope} {f:Addr} {cd:Value} {A:Around} {outer:List Env} {s s1:Shared} {H:Hp} {E:XK} {us:List Value} {vs:List V}
  (S:zeq N ps scope) (hd:A.handled=none) (e0:zxZ P w K mg base A outer s H) (hl:vs.length=ps.length) (r:Vals vs us)
  (x:InCallC s s.heap.objs.size (bindL (envOfC qual scope s.heap.objs.size f cd).kindOf (ps.zip us) fun _=>none) (cellsFrom (s.heap.objs.size + 1) scope.names []) (bindC (envOfC qual scope s.heap.objs.size f cd).kindOf (ps.zip us) fun _=>none) s1) :
  Inv (zrL CX P w K mg base N qual scope f cd A outer s H E) [] (start N vs) H s1:=by
 have hpl:ps.length<=N.length:=by have:=congrArg List.length S.pre;rw [List.length_take] at this;omega
 obtain ⟨h1,tk,rfl,hk⟩:=x.done
 have noA:∀ b:Addr,b ∉ (zrL CX P w K mg base N qual scope f cd A outer s H E).ex:=fun b z=>absurd (show b ∈ ([]:List Addr) from z) (by simp)
 refine ⟨⟨e0.mod,S.kind,rfl,rfl,Nat.le_refl _,fun y z c h1 h2=>?_,fun y hy=>?_,fun y c _ h=>?_,fun _=>hd,Around.frames_deeper e0.frames,.inr ⟨rfl,rfl⟩,fun b z=>absurd z (noA b),e0.bs,e0.bsz,fun b _ _=>noA b,fun b z=>absurd z (noA b),e0.zqY,e0.frf,e0.tree,⟨_,_,rfl,S.gen,S.co,rfl,rfl⟩⟩,
  rfl,e0.bare,Un.kept hk,⟨_,x.toInCall.ns,fun i y v h1 h2 h3=>?_⟩,fun y c h=>⟨_,x.cell y c h⟩,e0.hok.fresh (Nat.le_refl _),fun y c h=>?_,fun p hp=>absurd (show p ∈ ([]:List (Addr × Obj)) from hp) (by simp),e0.hok.kept hk,?_⟩
 ·exact name_of_addr x.apart (PySem.mem_of_lookup h1) (PySem.mem_of_lookup h2)
 ·have hy:scope.names.lookup y=some .cell\/scope.names.lookup y=some .free:=hy
  rcases hy with hy | hy
  ·exact zor hy
  ·exact absurd rfl (S.nofree _ (PySem.mem_of_lookup hy))
 ·exact Nat.le_of_lt (x.above y c (PySem.mem_of_lookup h))
 ·have hi:i < vs.length:=by
   unfold start at h2
   by_cases hi:i < vs.length
   ·exact hi
   ·rw [List.getElem?_append_right (by simpa using hi)] at h2
    rw [List.getElem?_replicate] at h2
    split at h2 <;> cases h2
  have ha:vs[i]?=some v:=by
   unfold start at h2
   rw [List.getElem?_append_left (by simpa using hi),List.getElem?_map] at h2
   cases e:vs[i]? with
   | none=>rw [e] at h2;cases h2
   | some a=>rw [e] at h2;cases h2;rfl
  obtain ⟨u,hu,rv⟩:=r.get ha
  have hp:ps[i]?=some y:=by
   rw [<- S.pre,List.getElem?_take_of_lt (by omega)];exact h1
  have ndP:ps.Nodup:=by rw [<- S.pre];exact S.nd.sublist (List.take_sublist _ _)
  refine ⟨u,rv,?_⟩
  rcases S.par y (List.mem_of_getElem? hp) with k | k
  ·exact .inl ⟨k,zl4 ndP hp hu k⟩
  ·obtain ⟨c,e⟩:=zor (n:=s.heap.objs.size + 1) k
   refine .inr ⟨.inl k,c,e,?_⟩
   have q:=x.cell y c e
   rw [zl6 ndP hp hu (by show scope.names.lookup y ≠ _;rw [k];decide)] at q
   exact q
 ·exact e0.hok.fresh (Nat.le_of_lt (x.above y c (PySem.mem_of_lookup h)))
 ·unfold start
  show _=N.length
  rw [List.length_append,List.length_map,List.length_replicate]
  omega
theorem zyz {CX:CXT} {P:Program} {w:World} {K:PySem.W.Frag} {mg:Str->Option Value} {base:Heap} {k:Nat} {f:Addr} {name qual:Str} {params:Arguments} {body:List Stmt} {scope:Scope} {dV kV doc pm cdv ct oc:Value} {an od:Option Addr}
  {osl:Array (Option Value)} {N ps:List Str} {sp:Sp} (lk:K.lookup f=some ⟨oc,od,.func (PySem.W.fnOf name qual params body scope dV kV doc pm an cdv ct),osl⟩) (hcd:PySem.W.codeIn K cdv qual=true) (S:zeq N ps scope)
  (len:∀ vs H Q E,sp vs H Q E->vs.length=ps.length)
  (hbody:∀ (A:Around) (outer:List Env) (s:Shared) (H:Hp) (vs:List V) (Q:VK) (E:XK),zcZ k (A.deeper (envOfC qual scope s.heap.objs.size f cdv))->sp vs H Q E ->
   ∃ t,PSs (zrL CX P w K mg base N qual scope f cdv A outer s H E) body t/\t { nx:=fun _ H'=>Q .non H',rt:=Q } (start N vs) H) :
  zk8 P w K mg base CX (k + 1) f (PySem.W.fnOf name qual params body scope dV kV doc pm an cdv ct) ps sp:=by
 refine ⟨len,fun A outer s H args us vs Q E hr e0 hb r hsp=>?_⟩
 have hl:=len _ _ _ _ hsp
 have KX:K.In s.heap:=e0.mod.kin.keeps fun b o e=>(e0.bs b o e).1
 have lim:s.heap.NoLimit:=e0.mod.nolimit.keeps fun b o e=>(e0.bs b o e).1
 have hkind:∀ y ∈ ps.zip us,scope.names.lookup y.1=some .local\/(scope.names.lookup y.1=some .cell/\((cellsFrom (s.heap.objs.size + 1) scope.names []).lookup y.1).isSome=true):=fun ⟨n,v⟩ hy=>by
  rcases S.par n (List.of_mem_zip hy).1 with q | q
  ·exact .inl q
  ·exact .inr ⟨q,PySem.W.cellsFrom_some _ _ _ (.inl q)⟩
 refine codeAny_call_function hr.depth (KX _ _ lk) rfl S.co S.gen rfl (PySem.W.codeRec_of KX hcd) (hb _ _ _ _ ?_)
 refine wpAny_newFunctionEnv_cells S.kind hkind fun env he s1 x=>?_
 subst he
 refine ⟨lim.keeps x.toInCall.keep,codeAny_func ?_⟩
 obtain ⟨t,ht,hq⟩:=hbody A outer s H vs Q E (hr.deeper _) hsp
 have I:Inv (zrL CX P w K mg base N qual scope f cdv A outer s H E) [] (start N vs) H s1:=zqP S hr.hd e0 hl r x
 refine wpAny_mono (ht [] s1 (start N vs) H _ I hq) (fun fl s' hs=>?_) fun e s' hs=>hs
 have fin:∀ {σ':St} {H':Hp} {v:V} {u:Value},Inv (zrL CX P w K mg base N qual scope f cdv A outer s H E) [] σ' H' s'->RelV v u->Q v H'->CE outer P w H s Q u s' :=
  fun {σ' H' v u} J rv q=>⟨v,H',J.os,J.bare,J.base,J.hok,rv,q⟩
 cases fl with
 | ret u =>
  obtain ⟨v,σ',H',J,rv,q⟩:=hs
  exact fin J rv q
 | next =>
  obtain ⟨σ',H',J,q⟩:=hs
  exact fin (v:=V.non) (u:=Value.none) J rfl q
 | brk =>
  obtain ⟨_,_,_,q⟩:=hs
  exact False.elim q
 | cont =>
  obtain ⟨_,_,_,q⟩:=hs
  exact False.elim q
end L2
namespace L2
open PySem PySem.Spec PyProof.Rows
section
variable {X:Cx} {x:Str} {p pos:Pos} {e:Expr} {es:List Expr} {t:TA} {id T:String} {r:List V->Hp->VK->Prop}
def tCB (r:List V->Hp->VK->Prop) (t:TA):TE:=fun σ H Q=>t σ H fun vs H1=>r vs H1 Q
theorem znQ (hc:zgJ X (.builtin id) r) (hg:Gl X x) (hm:X.mg x=none) (hv:bootBuiltins x=some (.builtin id)) (ha:PA X (e :: es) t) (hn:x ≠ "__name__":=by decide) (hdb:(x == ("__debug__":Str))=false:=by decide)
  (he:starEach (e :: es) X.env=(false,eval e X.env) :: starEach es X.env:=by rfl) (hpl:(backTo pos (starEach es X.env)).any (·.1)=false:=by rfl):PE X (.Call (.Name x p) (e :: es) [] pos) (tCB r t):=by
 intro pins s σ H Q I h
 refine wpAny_Call_Name_kw (zjL I hg hm hv ?_ hn hdb)
 exact PyProof.Rows.callWith_builtin1 (thn (ha pos pins s σ H _ I h) fun us s1 ⟨vs,H1,I1,r1,q1⟩=>hc pins s1 σ H1 vs us Q I1 r1 q1) he hpl
theorem zqh (hc:zgJ X (.type T) r) (hg:Gl X x) (hm:X.mg x=none) (hv:bootBuiltins x=some (.type T)) (ha:PA X (e :: es) t) (hn:x ≠ "__name__":=by decide) (hdb:(x == ("__debug__":Str))=false:=by decide)
  (he:starEach (e :: es) X.env=(false,eval e X.env) :: starEach es X.env:=by rfl) (hpl:(backTo pos (starEach es X.env)).any (·.1)=false:=by rfl):PE X (.Call (.Name x p) (e :: es) [] pos) (tCB r t):=by
 intro pins s σ H Q I h
 refine wpAny_Call_Name_kw (zjL I hg hm hv ?_ hn hdb)
 exact PyProof.Rows.callWith_type1 (thn (ha pos pins s σ H _ I h) fun us s1 ⟨vs,H1,I1,r1,q1⟩=>hc pins s1 σ H1 vs us Q I1 r1 q1) he hpl
end
end L2
namespace HT
open PySem PyProof.Rows
def lexLt:List Int->List Int->Bool
 | [],[]=>false
 | [],_ :: _=>true
 | _ :: _,[]=>false
 | x :: xs,y :: ys=>if x=y then lexLt xs ys else decide (x < y)
theorem zo0 (x y:Int) (xs ys:List Int):lexLt (x :: xs) (y :: ys)=if x=y then lexLt xs ys else decide (x < y):=rfl
theorem zkz:lexLt [] []=false:=rfl
theorem zjc (y:Int) (ys:List Int):lexLt [] (y :: ys)=true:=rfl
theorem zjd (x:Int) (xs:List Int):lexLt (x :: xs) []=false:=rfl
theorem zhr (A:Around) (s:Shared) (a:Int) (t:Tok) (c:Int) (u:Tok):∃ e,SeqAt.EqAt A s (.int a t) (.int c u) e/\(e=true ↔ a=c) :=
 ⟨(a == c),SeqAt.EqAt.int_int a t c u,by simp⟩
theorem zrY (A:Around) (s:Shared) (a:Int) (t:Tok) (c:Int) (u:Tok) (prog:Program) (w:World) (E:Value->Shared->Prop) (Q:Value->Shared->Prop) (h:Q (.bool (decide (a < c))) s) :
  wpAny (model prog w) A (richCompare .Lt (.int a t) (.int c u)) Q E s :=
 (PyProof.Rows.lt_int h:wpAny (model prog w) A (compareOp .Lt (.int a t) (.int c u)) Q E s)
section
open PySem.SeqAt
open PySem.AutoSeq1 (wpAny_loadPart')
open PySem.MeetsSeq PySem.MeetsSeq2 PySem.MeetsSeq3
theorem zkc (l b:Addr) (items items2:Array Value) (n n2:Nat) (dd dd2:Option Addr) (sl sl2:Array (Option Value)) (ns ms:List Int) (hi:IntsAre items.toList ns) (hj:IntsAre items2.toList ms) :
  Meets (Builtin.«tuple.__lt__» ⟨[.ref l,.ref b],[]⟩)
   (fun _ R s=>s.heap.get? l=some { cls:=.type "tuple",dict:=dd,data:=.seq items n,slots:=sl }/\s.heap.get? b=some { cls:=.type "tuple",dict:=dd2,data:=.seq items2 n2,slots:=sl2 } /\
    R (.ok (.ret (.bool (lexLt ns ms)))) s) :=
 .of_wp fun prog w A R s h=>by
  obtain ⟨hp,g,d,tk,os⟩:=s;obtain ⟨hl,hb,h⟩:=h
  have f2:=AutoSeq1.sub_tuple_tuple
  have z1:items.size=ns.length:=by rw [<- hi.length];simp
  have z2:items2.size=ms.length:=by rw [<- hj.length];simp
  wp_walk using wpAny_loadPart' hl,wpAny_loadPart' hb,wpAny_forIn_list _ (fun rest b s'=>b.1=none/\s'=⟨hp,g,d,tk,os⟩/\∃ (vs ws:List Value) (ns' ms':List Int),rest=vs.zip ws /\
   IntsAre vs ns'/\IntsAre ws ms'/\ns'.length + items2.size=ms'.length + items.size/\R (.ok (.ret (.bool (lexLt ns' ms')))) ⟨hp,g,d,tk,os⟩) _
  case turn =>
   rintro ⟨y,x⟩ rest b s' ⟨hb',rfl,vs,ws,ns',ms',hz,hvi,hwi,hlen,hR⟩
   cases hvi with
   | nil=>rw [List.zip_nil_left] at hz;cases hz
   | cons a t hvi' =>
    cases hwi with
    | nil=>rw [List.zip_nil_right] at hz;cases hz
    | cons c u hwi' =>
     rw [List.zip_cons_cons] at hz
     injection hz with hyx hrest
     injection hyx with hy hx
     subst hy hx
     rw [zo0] at hR
     simp only [List.length_cons] at hlen
     obtain ⟨e,he,hiff⟩:=zhr A.in1 ⟨hp,g,d,tk,os⟩ a t c u
     refine wpAny_bind (he prog w _ _ ?_)
     cases e with
     | true =>
      rw [if_pos (hiff.mp rfl)] at hR
      wp_walk
      exact ⟨rfl,rfl,_,_,_,_,hrest,hvi',hwi',by omega,hR⟩
     | false =>
      rw [if_neg (fun q=>absurd (hiff.mpr q) Bool.false_ne_true)] at hR
      have hri:=zrY A.in1 ⟨hp,g,d,tk,os⟩ a t c u prog w
      wp_walk using hri
      exact ⟨_,rfl,by simpa using hR⟩
  case fin =>
   rintro ⟨b1,b2⟩ s' ⟨hb',rfl,vs,ws,ns',ms',hz,hvi,hwi,hlen,hR⟩
   simp only at hb'
   subst hb'
   have hv:lexLt ns' ms'=decide (items.size < items2.size):=by
    cases hvi with
    | nil =>
     cases hwi with
     | nil =>
      simp only [List.length_nil] at hlen
      rw [zkz]
      exact (decide_eq_false (by omega)).symm
     | cons c u hw =>
      simp only [List.length_nil,List.length_cons] at hlen
      rw [zjc]
      exact (decide_eq_true (by omega)).symm
    | cons a t hv =>
     cases hwi with
     | nil =>
      simp only [List.length_nil,List.length_cons] at hlen
      rw [zjd]
      exact (decide_eq_false (by omega)).symm
     | cons c u hw =>
      rw [List.zip_cons_cons] at hz
      cases hz
   rw [hv] at hR
   wp_walk
   exact ⟨_,rfl,by simpa [Builtin.Tuple.tupleCompareSizes] using hR⟩
  case h =>
   exact ⟨rfl,rfl,items.toList,items2.toList,ns,ms,rfl,hi,hj,by omega,h⟩
end
section
variable {prog:Program} {w:World} {A:Around} {E:Value->Shared->Prop} {s:Shared}
theorem zoY {l b:Addr} {items items2:Array Value} {ns ms:List Int} {Q:Value->Shared->Prop} (hl:IsTup s.heap l items) (hb:IsTup s.heap b items2) (hi:IntsAre items.toList ns) (hj:IntsAre items2.toList ms)
  (hu:A.units < cLine) (h:Q (.bool (lexLt ns ms)) s):wpAny (model prog w) A (compareOp .Lt (.ref l) (.ref b)) Q E s:=by
 obtain ⟨⟨cls,dd,data,sl⟩,ho,hc,n,hd⟩:=id hl
 obtain ⟨⟨cls2,dd2,data2,sl2⟩,ho2,hc2,n2,hd2⟩:=id hb
 simp only at hc hd hc2 hd2
 subst hc hd hc2 hd2
 exact richCompare_meets_room (op:=.Lt) ⟨_,ho,rfl⟩ ⟨_,ho2,rfl⟩ PySem.F.slot_tuple_lt PySem.F.entry_tuple_lt (PySem.F.args_tuple_lt_2 _ _) (zkc l b items items2 n n2 dd dd2 sl sl2 ns ms hi hj)
  ⟨ho,ho2,show Value.bool (lexLt ns ms) ≠ Value.notImplemented/\Q (.bool (lexLt ns ms)) s from ⟨(fun x=>nomatch x),h⟩⟩ hu
theorem zvx {t b:Addr} {vs ws:List Value} {Q:Value->Shared->Prop} (ht:IsTup s.heap t vs.toArray) (hb:IsTup s.heap b ws.toArray) (hv:vs ≠ [])
  (h1:ws=[]->Q (.ref t) s) (h2:ws ≠ []->Q (.ref s.heap.objs.size) { s with heap:=s.heap.push { cls:=.type "tuple",data:=.seq (vs ++ ws).toArray } })
  (hsz:vs.length + ws.length<=sizeLine):wpAny (model prog w) A (binaryOp .Add (.ref t) (.ref b)) Q E s:=by
 obtain ⟨⟨cls,dd,data,sl⟩,ho,hc,n,hd⟩:=id ht
 obtain ⟨⟨cls2,dd2,data2,sl2⟩,ho2,hc2,n2,hd2⟩:=id hb
 simp only at hc hd hc2 hd2
 subst hc hd hc2 hd2
 have e:vs.toArray ++ ws.toArray=(vs ++ ws).toArray:=by simp
 by_cases hw:ws=[]
 ·exact concat_meets ⟨_,ho,rfl⟩ ⟨_,ho2,rfl⟩ noFill_tuple_add seq_tuple_add PySem.F.slot_tuple_add PySem.F.entry_tuple_add (PySem.F.args_tuple_add_2 _ _)
   (tuple_addW1 t b vs.toArray ws.toArray n n2 dd dd2 sl sl2 (by simpa using hv) (by simp [hw])) ⟨ho,ho2,h1 hw⟩
 ·refine concat_meets ⟨_,ho,rfl⟩ ⟨_,ho2,rfl⟩ noFill_tuple_add seq_tuple_add PySem.F.slot_tuple_add PySem.F.entry_tuple_add (PySem.F.args_tuple_add_2 _ _)
   (tuple_addW2 t b vs.toArray ws.toArray n n2 dd dd2 sl sl2 (by simpa using hv) (by simpa using hw) (by rw [List.size_toArray,List.size_toArray];exact hsz)) ⟨ho,ho2,?_⟩
  rw [e]
  exact h2 hw
def sIx (n d:Nat):Option Int->Nat
 | none=>d
 | some v=>if v < 0 then (v + (n:Int)).toNat else min v.toNat n
theorem zv4 (n d:Nat) (hd:d<=n) (o:Option Int):sIx n d o<=n:=by
 cases o with
 | none=>exact hd
 | some v =>
  show (if v < 0 then (v + (n:Int)).toNat else min v.toNat n)<=n
  by_cases hv:v < 0
  ·rw [if_pos hv];omega
  ·rw [if_neg hv];exact Nat.min_le_right _ _
theorem zrh (v:Int) (n d:Nat):(if v < 0 then max (v + (n:Int)) 0 else min v (n:Int))=((sIx n d (some v):Nat):Int):=by
 show (if v < 0 then max (v + (n:Int)) 0 else min v (n:Int))=(((if v < 0 then (v + (n:Int)).toNat else min v.toNat n):Nat):Int)
 by_cases hv:v < 0
 ·simp only [if_pos hv];omega
 ·simp only [if_neg hv];omega
theorem zpm (lo hi:Option Int) (n:Nat):Builtin.Slice.sliceAdjust lo hi 1 (n:Int)=(((sIx n 0 lo:Nat):Int),((sIx n n hi:Nat):Int)):=by
 have h1:¬ ((1:Int) < 0):=by omega
 unfold Builtin.Slice.sliceAdjust
 simp only [h1,if_false]
 refine Prod.ext ?_ ?_
 ·cases lo with
  | none=>rfl
  | some v=>exact zrh v n 0
 ·cases hi with
  | none=>rfl
  | some v=>exact zrh v n n
theorem zoQ (i j:Nat):Builtin.Slice.slicePlaces (i:Int) (j:Int) 1=j - i:=by
 unfold Builtin.Slice.slicePlaces
 have h1:(1:Int) > 0:=by omega
 simp only [h1,if_true,Int.ediv_one]
 split <;> omega
theorem zjA {v:Value} {o:Option Int} {Q:Option Int->Shared->Prop} (p:IsPart v o) (h:Q o s):wpAny (model prog w) A (Builtin.Slice.slicePartIndex v) Q E s:=by
 cases p with
 | none=>exact slicePart_none h
 | int i t=>exact slicePart_int h
theorem zdv {sl:Addr} {vl vu:Value} {lo hi:Option Int} {n:Nat} {Q:Int × Int × Nat->Shared->Prop} (hs:s.heap.IsSliceOf sl vl vu .none) (pl:IsPart vl lo) (pu:IsPart vu hi)
  (h:Q (((sIx n 0 lo:Nat):Int),1,sIx n n hi - sIx n 0 lo) s):wpAny (model prog w) A (Builtin.Slice.sliceApplied (.ref sl) (pure (n:Int))) Q E s:=by
 obtain ⟨os,hos,hcs,hds⟩:=id hs
 unfold Builtin.Slice.sliceApplied Builtin.Slice.sliceFields
 refine wpAny_bind (wpAny_bind (wpAny_field hos hds (x:=vl) rfl (wpAny_bind (wpAny_field hos hds (x:=vu) rfl (wpAny_bind (wpAny_field hos hds (x:=.none) rfl (wpAny_pure ?_)))))))
 refine wpAny_bind (slicePart_none ?_)
 show wpAny _ _ (if ((1:Int) == 0)=true then _ else _) _ _ s
 rw [if_neg (by decide)]
 refine wpAny_bind (zjA pl (wpAny_bind (zjA pu (wpAny_bind (wpAny_pure ?_)))))
 show wpAny _ _ (match Builtin.Slice.sliceAdjust lo hi 1 (n:Int) with | (lo,hi)=>pure (lo,(1:Int),Builtin.Slice.slicePlaces lo hi 1)) _ _ s
 rw [zpm lo hi n]
 show wpAny _ _ (pure (((sIx n 0 lo:Nat):Int),(1:Int),Builtin.Slice.slicePlaces ((sIx n 0 lo:Nat):Int) ((sIx n n hi:Nat):Int) 1)) _ _ s
 rw [zoQ]
 exact wpAny_pure h
theorem zsg (xs:Array Value) (i k:Nat):((List.range k).filterMap fun (m:Nat)=>xs[((i:Int) + (m:Int) * 1).toNat]?).toArray=((xs.toList.drop i).take k).toArray:=by
 have e:(fun (m:Nat)=>xs[((i:Int) + (m:Int) * 1).toNat]?)=fun m=>xs[i + m]?:=by
  funext m
  have:((i:Int) + (m:Int) * 1).toNat=i + m:=by omega
  rw [this]
 rw [e]
 have:=pick_run xs i k
 rw [List.filterMap_map] at this
 have e2:((fun x=>xs[x]?) ∘ fun x=>i + x)=fun m=>xs[i + m]?:=rfl
 rw [e2] at this
 rw [this]
theorem zgq {t sl:Addr} {items:Array Value} {vl vu:Value} {lo hi:Option Int} {Q:Value->Shared->Prop} (ht:IsTup s.heap t items) (hs:s.heap.IsSliceOf sl vl vu .none) (pl:IsPart vl lo) (pu:IsPart vu hi)
  (hw:¬ (sIx items.size 0 lo=0/\sIx items.size items.size hi=items.size))
  (h:Q (.ref s.heap.objs.size) { s with heap:=s.heap.push { cls:=.type "tuple",data:=.seq ((items.toList.drop (sIx items.size 0 lo)).take (sIx items.size items.size hi - sIx items.size 0 lo)).toArray } })
  (hsz:items.size<=sizeLine):wpAny (model prog w) A (getItem (.ref t) (.ref sl)) Q E s:=by
 have htake:sizeOk (.seq ((items.toList.drop (sIx items.size 0 lo)).take (sIx items.size items.size hi - sIx items.size 0 lo)).toArray):=by
  show ((items.toList.drop (sIx items.size 0 lo)).take (sIx items.size items.size hi - sIx items.size 0 lo)).toArray.size<=sizeLine
  rw [List.size_toArray,List.length_take,List.length_drop,Array.length_toList]
  omega
 have hj:sIx items.size items.size hi<=items.size:=zv4 _ _ (Nat.le_refl _) hi
 obtain ⟨os,hos,hcs,hds⟩:=id hs
 have hTs:s.TypeIs (.ref sl) "slice":=⟨os,hos,hcs⟩
 unfold getItem
 try with_reducible refine wpAny_holding ?_
 first | refine wpAny_bind (wpAny_pure ?_) | skip
 refine wpAny_bind (wpAny_sequenceKey ht.typeIs (by decide) ?_)
 refine wpAny_bind (wpAny_callSpecial?_slot (name:=Str.ofString "__getitem__") ht.typeIs PyProof.Rows.slot_tuple_getitem
  (wpAny_call_entry PyProof.Rows.slot_tuple_getitem ht.typeIs entry_tuple_getitem ?_ (args_tuple_getitem _ _)))
 show wpAny _ _ (Builtin.Tuple.tupleItemsOf (.ref t) >>= _) _ _ s
 refine wpAny_bind (tupleItemsOf_ ht ?_)
 refine wpAny_bind (wpAny_typeOf hTs ?_)
 rw [if_pos (by decide)]
 refine wpAny_bind (zdv hs pl pu ?_)
 have hno:¬ ((((sIx items.size 0 lo:Nat):Int) == 0 && (1:Int) == 1 && (sIx items.size items.size hi - sIx items.size 0 lo) == items.size)=true):=by
  intro q
  rw [Bool.and_eq_true,Bool.and_eq_true] at q
  have q1:((sIx items.size 0 lo:Nat):Int)=0:=eq_of_beq q.1.1
  have q2:sIx items.size items.size hi - sIx items.size 0 lo=items.size:=eq_of_beq q.2
  exact hw ⟨by omega,by omega⟩
 show wpAny _ _ (if (((sIx items.size 0 lo:Nat):Int) == 0 && (1:Int) == 1 && (sIx items.size items.size hi - sIx items.size 0 lo) == items.size)=true then _ else _) _ _ s
 rw [if_neg hno,zsg]
 first
  | exact wpAny_bind (m:=Builtin.Tuple.tupleExact _) (wpAny_newObj_type (wpAny_pure ⟨_,rfl,wpAny_pure h⟩) htake)
  | exact wpAny_bind (m:=Builtin.Tuple.tupleExact _) (wpAny_newObj_type (wpAny_bind (wpAny_pure (wpAny_pure ⟨_,rfl,wpAny_pure h⟩))) htake)
  | exact wpAny_bind (wpAny_bind (m:=Builtin.Tuple.tupleExact _) (wpAny_newObj_type (wpAny_pure (wpAny_pure ⟨_,rfl,wpAny_pure h⟩)) htake))
  | exact wpAny_bind (wpAny_bind (m:=Builtin.Tuple.tupleExact _) (wpAny_newObj_type (wpAny_pure ⟨_,rfl,wpAny_pure h⟩) htake))
end
end HT
namespace L2
open PySem PySem.Spec PyProof.Rows
abbrev TO:=St->Hp->(Option Int->Hp->Prop)->Prop
def PO (X:Cx) (e:Option Expr) (t:TO):Prop :=
 ∀ (pins:List (Addr × Obj)) (s:Shared) (σ:St) (H:Hp) (Q:Option Int->Hp->Prop),Inv X pins σ H s->t σ H Q ->
  wpAny (model X.prog X.w) X.A (evalPart e X.env) (fun u s'=>∃ o H',Inv X pins σ H' s'/\IsPart u o/\Q o H') X.xe s
def zt9:TO:=fun _ H Q=>Q none H
def zx2 (t:TE):TO:=fun σ H Q=>t σ H fun x H1=>∃ i,x=.int i/\Q (some i) H1
theorem intsAre_of {ns:List Int}:∀ {us:List Value},Vals (ns.map V.int) us->IntsAre us ns:=by
 induction ns with
 | nil=>intro us r;rw [List.map_nil] at r;cases r;exact .nil
 | cons n ns ih =>
  intro us r
  rw [List.map_cons] at r
  cases r with
  | cons r1 r2 =>
   obtain ⟨t,e⟩:=r1
   subst e
   exact .cons n t (ih r2)
section
variable {X:Cx} {e:Expr} {te:TE} {lo hi:Option Expr} {tl th:TO} {pos p2:Pos}
theorem zuF:PO X none zt9:=by
 intro pins s σ H Q I h
 rw [evalPart_none]
 exact wpAny_pure ⟨none,H,I,.none,h⟩
theorem zuE (h:PE X e te):PO X (some e) (zx2 te):=by
 intro pins s σ H Q I hw
 rw [evalPart_some]
 refine thn (h pins s σ H _ I hw) fun u s1 ⟨x,H1,I1,r1,q1⟩=>?_
 obtain ⟨i,rfl,q⟩:=q1
 obtain ⟨t,rfl⟩:=r1
 exact ⟨some i,H1,I1,.int i t,q⟩
def SlR (X:Cx) (r:V->Option Int->Option Int->Hp->VK->Prop):Prop :=
 ∀ (pins:List (Addr × Obj)) (s:Shared) (σ:St) (H:Hp) (x:V) (v vl vu:Value) (lo hi:Option Int) (sl:Addr) (Q:VK),Inv X pins σ H s->RelV x v->s.heap.IsSliceOf sl vl vu .none->IsPart vl lo->IsPart vu hi->r x lo hi H Q ->
  ∃ T id,typeLookup (.type T) "__getitem__"=pure (some (.builtin id))/\s.TypeIs v T/\wpAny (model X.prog X.w) X.A (getItem v (.ref sl)) (EP X pins σ Q) X.xe s
def tSl (r:V->Option Int->Option Int->Hp->VK->Prop) (te:TE) (tl th:TO):TE:=fun σ H Q=>te σ H fun x H1=>tl σ H1 fun l H2=>th σ H2 fun u H3=>r x l u H3 Q
theorem zsi {r:V->Option Int->Option Int->Hp->VK->Prop} (hr:SlR X r) (he:PE X e te) (hl:PO X lo tl) (hu:PO X hi th):PE X (.Subscript e (.Slice lo hi none p2) pos) (tSl r te tl th):=by
 intro pins s σ H Q I h
 refine Subscript_ (thn (he pins s σ H _ I h) fun v s1 ⟨x,H1,I1,r1,q1⟩=>?_)
 refine wpAny_Slice (thn (hl pins s1 σ H1 _ I1 q1) fun vl s2 ⟨l,H2,I2,pl,q2⟩=>thn (hu pins s2 σ H2 _ I2 q2) fun vu s3 ⟨u,H3,I3,pu,q3⟩=>?_)
 rw [evalPart_none]
 refine wpAny_pure ?_
 have I4:Inv X pins σ H3 { s3 with heap:=s3.heap.push { cls:=.type "slice",data:=.fields #[vl,vu,.none] } }:=I3.kept (t':=s3.toks) fun b ob q=>Heap.get?_push_of_some _ q
 obtain ⟨T,id,hT,ht,hg⟩:=hr pins { s3 with heap:=s3.heap.push { cls:=.type "slice",data:=.fields #[vl,vu,.none] } } σ H3 x v vl vu l u s3.heap.objs.size Q I4 r1 (Heap.IsSliceOf.new ..) pl pu q3
 show wpAny (model X.prog X.w) X.A (subscriptTail e (.Slice lo hi none p2) v (.ref s3.heap.objs.size)) (EP X pins σ Q) X.xe { s3 with heap:=s3.heap.push { cls:=.type "slice",data:=.fields #[vl,vu,.none] } }
 exact tail_any (ops:=[.ref s3.heap.objs.size,v]) ht hT hg (by with_unfolding_all rfl)
def zsY (xs:List V) (lo hi:Option Int):List V:=(xs.drop (HT.sIx xs.length 0 lo)).take (HT.sIx xs.length xs.length hi - HT.sIx xs.length 0 lo)
theorem zit (xs:List V) (lo hi:Option Int):(zsY xs lo hi).length<=xs.length:=by
 unfold zsY
 rw [List.length_take,List.length_drop]
 omega
def zzc (K:PySem.W.Frag):V->Option Int->Option Int->Hp->VK->Prop:=fun x lo hi H Q=>∃ a xs,x=.ref a/\SqT K H a xs /\
 ¬ (HT.sIx xs.length 0 lo=0/\HT.sIx xs.length xs.length hi=xs.length)/\∀ p,H p=none->Q (.ref p) (upd H p (.tup (zsY xs lo hi)))
theorem zv2:SlR X (zzc X.K):=by
 intro pins s σ H x v vl vu lo hi sl Q I rx hs pl pu h
 obtain ⟨a,xs,rfl,hx,hw,q⟩:=h
 cases rx
 obtain ⟨its,r,ht,hz⟩:=I.tuple hx
 have hlen:its.toArray.size=xs.length:=by rw [List.size_toArray];exact r.length.symm
 refine ⟨"tuple",_,PyProof.Rows.slot_tuple_getitem.lookup,ht.typeIs,?_⟩
 refine HT.zgq ht hs pl pu (by rw [hlen];exact hw) ?_ (by rw [hlen];exact hz)
 rw [hlen]
 refine ⟨.ref s.heap.objs.size,_,I.laid (t':=s.toks) (o:=.tup (zsY xs lo hi)) (fun b ob q=>Heap.get?_push_of_some _ q) (Nat.le_refl _) ?_,rfl,q _ (I.hok.fresh (Nat.le_refl _))⟩
 exact ⟨Nat.le_trans (zit xs lo hi) hz,_,(r.drop (HT.sIx xs.length 0 lo)).take (HT.sIx xs.length xs.length hi - HT.sIx xs.length 0 lo),IsTup.new _ _⟩
def zx9 (K:PySem.W.Frag):R2:=fun x y H Q=>∃ a b xs ys,x=.ref a/\y=.ref b/\SqT K H a xs/\SqT K H b ys/\xs ≠ []/\xs.length + ys.length<=sizeLine /\
 (ys=[]->Q (.ref a) H)/\(ys ≠ []->∀ p,H p=none->Q (.ref p) (upd H p (.tup (xs ++ ys))))
theorem Vals.zmM {xs:List V} {us:List Value} (r:Vals xs us):us=[] ↔ xs=[]:=by
 cases r with
 | nil=>simp
 | cons _ _=>simp
theorem zuU:OpR X (binaryOp .Add) (zx9 X.K):=by
 intro pins s σ H x y v u Q I rx ry h
 obtain ⟨a,b,xs,ys,rfl,rfl,ha,hb,hx,hz,q1,q2⟩:=h
 cases rx
 cases ry
 obtain ⟨its,r1,p1,_⟩:=I.tuple ha
 obtain ⟨its2,r2,p2,_⟩:=I.tuple hb
 refine HT.zvx p1 p2 (fun z=>hx (r1.zmM.mp z)) (fun z=>⟨.ref a,H,I,rfl,q1 (r2.zmM.mp z)⟩) (fun z=>?_) (by rw [<- r1.length,<- r2.length];exact hz)
 refine ⟨.ref s.heap.objs.size,_,I.laid (t':=s.toks) (o:=.tup (xs ++ ys)) (fun b ob q=>Heap.get?_push_of_some _ q) (Nat.le_refl _) ?_,rfl,q2 (fun w=>z (r2.zmM.mpr w)) _ (I.hok.fresh (Nat.le_refl _))⟩
 exact ⟨by rw [List.length_append];exact hz,_,r1.append r2,IsTup.new _ _⟩
end
end L2
namespace L2
open PySem PySem.Spec PyProof.Rows
def ixN (n:Nat) (i:Int):Option Nat:=if 0<=i then (if i < n then some i.toNat else none) else if -(n:Int)<=i then some (i + n).toNat else none
def atI {α:Type} (xs:List α) (i:Int):Option α:=(ixN xs.length i).bind fun j=>xs[j]?
theorem zqM {n:Nat} {i:Int} {j:Nat} (h:ixN n i=some j):seqIndex? i n=some j/\j < n/\-(n:Int)<=i/\i < n:=by
 unfold ixN at h
 by_cases h0:0<=i
 ·rw [if_pos h0] at h
  by_cases h1:i < n
  ·rw [if_pos h1] at h
   have e:i.toNat=j:=Option.some.inj h
   exact ⟨by rw [seqIndex_of h0 h1,e],by omega,by omega,h1⟩
  ·rw [if_neg h1] at h;cases h
 ·rw [if_neg h0] at h
  by_cases h1:-(n:Int)<=i
  ·rw [if_pos h1] at h
   have e:(i + n).toNat=j:=Option.some.inj h
   exact ⟨by rw [seqIndex_neg (by omega) h1,e],by omega,h1,by omega⟩
  ·rw [if_neg h1] at h;cases h
theorem zrq {α:Type} {xs:List α} {i:Int} {v:α} (h:atI xs i=some v):∃ j,seqIndex? i xs.length=some j/\xs[j]?=some v/\j < xs.length/\-(xs.length:Int)<=i/\i < xs.length:=by
 unfold atI at h
 cases e:ixN xs.length i with
 | none=>rw [e] at h;cases h
 | some j =>
  rw [e] at h
  obtain ⟨h1,h2,h3,h4⟩:=zqM e
  exact ⟨j,h1,h,h2,h3,h4⟩
def zkZ (b:Expr):Prop:=∀ o i,subscripted b false o i=operate [o,i] (getItem o i)
def IxR (X:Cx) (r:R2):Prop :=
 ∀ (value slice:Expr) (pins:List (Addr × Obj)) (s:Shared) (σ:St) (H:Hp) (x y:V) (v u:Value) (Q:VK),Inv X pins σ H s->RelV x v->RelV y u->r x y H Q ->
  subscripted slice false v u=operate [v,u] (getItem v u)->wpAny (model X.prog X.w) X.A (subscriptTail value slice v u) (EP X pins σ Q) X.xe s
def MtR (X:Cx) (id:String) (r:V->List V->Hp->VK->Prop):Prop :=
 ∀ (pins:List (Addr × Obj)) (s:Shared) (σ:St) (H:Hp) (x:V) (xs:List V) (v:Value) (us:List Value) (Q:VK),Inv X pins σ H s->RelV x v->Vals xs us->r x xs H Q ->
  wpAny (model X.prog X.w) X.A (call (.builtin id) (v :: us)) (EP X pins σ Q) X.xe s
section
variable {X:Cx} {a b:Expr} {ta tb:TE} {pos:Pos}
theorem zwA {r:R2} (hr:IxR X r) (ha:PE X a ta) (hb:PE X b tb) (hs:zkZ b):PE X (.Subscript a b pos) (tOp r ta tb):=by
 intro pins s σ H Q I h
 exact Subscript_ (zyC ha hb I h fun v u s2 x y H2 I2 rx ry q=>hr a b pins s2 σ H2 x y v u Q I2 rx ry q (hs _ _))
def zzh (K:PySem.W.Frag):R2:=fun x y H Q=>∃ p xs i v,x=.ref p/\y=.int i/\SqL K H p xs/\atI xs i=some v/\Q v H
def zzg (K:PySem.W.Frag):R2:=fun x y H Q=>∃ p xs i v,x=.ref p/\y=.int i/\SqT K H p xs/\atI xs i=some v/\Q v H
theorem zu4:IxR X (zzh X.K):=by
 intro value slice pins s σ H x y v u Q I rx ry h hs
 obtain ⟨p,xs,i,z,rfl,rfl,hq,he,q⟩:=h
 cases rx
 obtain ⟨t,rfl⟩:=ry
 obtain ⟨its,r,pl,hz⟩:=I.list hq
 obtain ⟨j,h1,h2,h3,h4,h5⟩:=zrq he
 obtain ⟨w,ew,rw'⟩:=r.get h2
 have hl:=r.length
 have hn:=zlC
 have fin:EP X pins σ Q w s:=⟨z,H,I,rw',q⟩
 by_cases h0:0<=i
 ·have hj:i.toNat=j:=by
   rw [seqIndex_of h0 h5] at h1
   exact Option.some.inj h1
  exact item_listR pl.isList h0 (by omega) (by rw [hj];simpa using ew) fin hs
 ·have hj:(i + (its.toArray.size:Int)).toNat=j:=by
   rw [seqIndex_neg (by omega) h4] at h1
   rw [List.size_toArray,<- hl]
   exact Option.some.inj h1
  exact subscriptTail_builtinR (x:=w) pl.isList.typeIs slot_list_getitem.lookup
   (wpAny_getItem_list_neg (Q:=fun r s'=>r=w/\EP X pins σ Q r s') pl.isList (by omega) (by rw [List.size_toArray] <;> omega) (by omega) (by rw [hj];simpa using ew) ⟨rfl,fin⟩) hs
theorem zw9:IxR X (zzg X.K):=by
 intro value slice pins s σ H x y v u Q I rx ry h hs
 obtain ⟨p,xs,i,z,rfl,rfl,hq,he,q⟩:=h
 cases rx
 obtain ⟨t,rfl⟩:=ry
 obtain ⟨its,r,pl,hz⟩:=I.tuple hq
 obtain ⟨j,h1,h2,h3,h4,h5⟩:=zrq he
 obtain ⟨w,ew,rw'⟩:=r.get h2
 have hl:=r.length
 have hn:=zlC
 have fin:EP X pins σ Q w s:=⟨z,H,I,rw',q⟩
 exact subscriptTail_builtinR (x:=w) pl.typeIs slot_tuple_getitem.lookup
  (getItem_tuple (j:=j) (Q:=fun r s'=>r=w/\EP X pins σ Q r s') pl (by omega) (by omega) (by rw [List.size_toArray,<- hl];exact h1) (by simpa using ew) ⟨rfl,fin⟩) hs
theorem zoX (its:List Value) (n j:Nat) (u:Value):Obj.mapSeq (·.setIfInBounds j u) { cls:=.type "list",data:=.seq its.toArray n }={ cls:=.type "list",data:=.seq (its.set j u).toArray n }:=by
 simp [Obj.mapSeq]
theorem Inv.lst {pins:List (Addr × Obj)} {σ:St} {H:Hp} {s:Shared} {p:Addr} {xs:List V} (I:Inv X pins σ H s) (h:H p=some (.lst xs)) :
  ∃ (its:List Value) (n:Nat),Vals xs its/\s.heap.get? p=some { cls:=.type "list",data:=.seq its.toArray n }/\xs.length<=sizeLine:=by
 obtain ⟨z,its,n,r,e⟩:=I.hok p _ h
 exact ⟨its,n,r,e,z⟩
theorem Inv.zwX {pins:List (Addr × Obj)} {σ:St} {H:Hp} {s:Shared} {p:Addr} {xs ys:List V} {its its':List Value} {n n':Nat} {f:Obj->Obj} (I:Inv X pins σ H s) (h:H p=some (.lst xs))
  (ho:s.heap.get? p=some { cls:=.type "list",data:=.seq its.toArray n }) (hf:f { cls:=.type "list",data:=.seq its.toArray n }={ cls:=.type "list",data:=.seq its'.toArray n' }) (r:Vals ys its') (hz:ys.length<=sizeLine) (t:Nat) :
  Inv X pins σ (upd H p (.lst ys)) { s with heap:=s.heap.update p f,toks:=t }:=by
 have e:(s.heap.update p f).get? p=some { cls:=.type "list",data:=.seq its'.toArray n' }:=by
  rw [Heap.get?_update_self f ho (by rw [hf] <;> rfl),hf]
 refine I.write (x:=p) (e:=p) (by rw [h];trivial) (.inl rfl) (fun b u hb q=>(Heap.get?_update_other _ _ (Ne.symm hb)).trans q) ⟨_,e⟩ ?_
 exact ⟨hz,its',n',r,e⟩
def zx8:V->V->V->Hp->(Hp->Prop)->Prop:=fun o i v H Q=>∃ p xs k j,o=.ref p/\i=.int k/\H p=some (.lst xs)/\ixN xs.length k=some j/\Q (upd H p (.lst (xs.set j v)))
theorem set_list:zyY X zx8:=by
 intro pins s σ H o i v ov iv u Q I ro ri rv h
 obtain ⟨p,xs,k,j,rfl,rfl,hp,hj,q⟩:=h
 cases ro
 obtain ⟨t,rfl⟩:=ri
 obtain ⟨its,n,r,ho,hz⟩:=I.lst hp
 obtain ⟨h1,h2,h3,h4⟩:=zqM hj
 have hl:=r.length
 have hn:=zlC
 have I':Inv X pins σ (upd H p (.lst (xs.set j v))) { s with heap:=s.heap.update p (Obj.mapSeq (·.setIfInBounds j u)) } :=
  I.zwX hp ho (zoX its n j u) (r.set rv j) (by rw [List.length_set];exact hz) s.toks
 by_cases h0:0<=k
 ·have hk:k.toNat=j:=by
   rw [seqIndex_of h0 h4] at h1
   exact Option.some.inj h1
  exact PySem.W.ki_setAt ho h0 (by omega) (by rw [List.size_toArray,<- hl];exact h4) (by rw [hk];exact ⟨_,I',q⟩)
 ·have hk:(k + (its.toArray.size:Int)).toNat=j:=by
   rw [seqIndex_neg (by omega) h3] at h1
   rw [List.size_toArray,<- hl]
   exact Option.some.inj h1
  exact PySem.W.ki_setBack ho (by omega) (by rw [List.size_toArray,<- hl];exact h3) (by omega) (by rw [hk];exact ⟨_,I',q⟩)
theorem zli (lo hi:Option Int) (n:Nat):(sliceBounds lo hi none n).1=((HT.sIx n 0 lo:Nat):Int)/\(sliceBounds lo hi none n).2.1=((HT.sIx n n hi:Nat):Int)/\(sliceBounds lo hi none n).2.2=1:=by
 refine ⟨?_,?_,rfl⟩
 ·cases lo with
  | none=>simp [sliceBounds,HT.sIx]
  | some i =>
   simp only [sliceBounds,HT.sIx,Option.getD_none,show (1:Int) > 0 by decide,if_true]
   by_cases h:i < 0
   ·simp only [h,if_true] <;> omega
   ·simp only [h,if_false] <;> omega
 ·cases hi with
  | none=>simp [sliceBounds,HT.sIx]
  | some i =>
   simp only [sliceBounds,HT.sIx,Option.getD_none,show (1:Int) > 0 by decide,if_true]
   by_cases h:i < 0
   ·simp only [h,if_true] <;> omega
   ·simp only [h,if_false] <;> omega
theorem zkg (its:List Value) (lo hi:Option Int):slicePick its.toArray lo hi none=((its.drop (HT.sIx its.length 0 lo)).take (HT.sIx its.length its.length hi - HT.sIx its.length 0 lo)).toArray:=by
 obtain ⟨h1,h2,h3⟩:=zli lo hi its.toArray.size
 unfold slicePick
 rw [h1,h2,h3]
 simp only [sliceRange_one,pick_run,List.size_toArray] <;> rfl
def zzd (K:PySem.W.Frag):V->Option Int->Option Int->Hp->VK->Prop:=fun x lo hi H Q=>∃ a xs,x=.ref a/\SqL K H a xs/\∀ p,H p=none->Q (.ref p) (upd H p (.lst (zsY xs lo hi)))
theorem zub:SlR X (zzd X.K):=by
 intro pins s σ H x v vl vu lo hi sl Q I rx hs pl pu h
 obtain ⟨a,xs,rfl,hx,q⟩:=h
 cases rx
 obtain ⟨its,r,ht,hz⟩:=I.list hx
 have hlen:=r.length
 refine ⟨"list",_,slot_list_getitem.lookup,ht.isList.typeIs,?_⟩
 refine wpAny_getItem_list_slice ht.isList hs pl pu .none (by simp) ?_ (by rw [List.size_toArray] <;> omega)
 rw [zkg,<- hlen]
 refine ⟨.ref s.heap.objs.size,_,I.laid (t':=s.toks) (o:=.lst (zsY xs lo hi)) (fun b ob q=>Heap.get?_push_of_some _ q) (Nat.le_refl _) ?_,rfl,q _ (I.hok.fresh (Nat.le_refl _))⟩
 exact ⟨Nat.le_trans (zit xs lo hi) hz,_,0,(r.drop (HT.sIx xs.length 0 lo)).take (HT.sIx xs.length xs.length hi - HT.sIx xs.length 0 lo),Heap.get?_push_size _ rfl⟩
theorem zgX:zgJ X (.builtin "len") (fun xs H Q=>∃ p ys,xs=[.ref p]/\(SqL X.K H p ys\/SqT X.K H p ys)/\Q (.int ys.length) H):=by
 intro pins s σ H xs us Q I r h
 obtain ⟨p,ys,rfl,hq,q⟩:=h
 obtain ⟨u,rfl,rx⟩:=vals1 r
 cases rx
 have hn:=zlC
 rcases hq with hq | hq
 ·obtain ⟨its,r',pl,hz⟩:=I.list hq
  have hlen:=r'.length
  exact Calls.call_len_list pl.isList (by simp only [List.size_toArray] <;> omega) ⟨.int ys.length,H,I.tok _,⟨s.toks + 1,by rw [List.size_toArray,hlen]⟩,q⟩
 ·obtain ⟨its,r',pl,hz⟩:=I.tuple hq
  have hlen:=r'.length
  exact len_tuple pl (by simp only [List.size_toArray] <;> omega) ⟨.int ys.length,H,I.tok _,⟨s.toks + 1,by rw [List.size_toArray,hlen]⟩,q⟩
theorem zgW:zgJ X (.type "list") (fun xs H Q=>∃ p ys,xs=[.ref p]/\(SqL X.K H p ys\/SqT X.K H p ys)/\∀ l,H l=none->Q (.ref l) (upd H l (.lst ys))):=by
 intro pins s σ H xs us Q I r h
 obtain ⟨p,ys,rfl,hq,q⟩:=h
 obtain ⟨u,rfl,rx⟩:=vals1 r
 cases rx
 have fin:∀ (its:List Value),Vals ys its->ys.length<=sizeLine->∀ (h':Heap) (c':Nat),(∀ b o',s.heap.get? b=some o'->h'.get? b=some o') ->
   h'.get? s.heap.objs.size=some { cls:=.type "list",dict:=none,data:=.seq its.toArray c',slots:=#[] }->EP X pins σ Q (.ref s.heap.objs.size) { s with heap:=h' }:=fun its r' hz h' c' kp e =>
  ⟨.ref s.heap.objs.size,_,I.laid (t':=s.toks) kp (Nat.le_refl _) (show zbJ X.prog X.w _ h' _ (.lst ys) from ⟨hz,its,c',r',e⟩),rfl,q _ (I.hok.fresh (Nat.le_refl _))⟩
 rcases hq with hq | hq
 ·obtain ⟨its,r',pl,hz⟩:=I.list hq
  have hlen:=r'.length
  obtain ⟨o,ho,hc,n,hd⟩:=pl.isList
  exact call_list_seq p (.inl rfl) ho hc hd (fun h' c' kp e=>fin its r' hz h' c' kp e) (by simp only [List.size_toArray] <;> omega)
 ·obtain ⟨its,r',pl,hz⟩:=I.tuple hq
  have hlen:=r'.length
  obtain ⟨o,ho,hc,n,hd⟩:=pl
  exact call_list_seq p (.inr rfl) ho hc hd (fun h' c' kp e=>fin its r' hz h' c' kp e) (by simp only [List.size_toArray] <;> omega)
variable {o e:Expr} {es:List Expr} {to:TE} {t:TA} {name:Str} {apos cpos:Pos} {T id:String} {r:V->List V->Hp->VK->Prop}
end
end L2
namespace L2
open PySem PySem.Spec PyProof.Rows
def MtM (X:Cx) (id:String) (r:V->List V->Hp->VK->Prop):Prop :=
 ∀ (pins:List (Addr × Obj)) (s:Shared) (σ:St) (H:Hp) (x:V) (xs:List V) (v:Value) (us:List Value) (Q:VK),Inv X pins σ H s->RelV x v->Vals xs us->r x xs H Q ->
  wpAny (model X.prog X.w) X.A (call (.builtin id) (v :: us)) (EP X pins σ Q) X.xe s
theorem Vals.one:∀ {x:V} {us:List Value},Vals [x] us->∃ u,us=[u]/\RelV x u
 | _,_,.cons r .nil=>⟨_,rfl,r⟩
theorem Vals.dropLast {xs:List V} {us:List Value} (h:Vals xs us):Vals xs.dropLast us.dropLast:=by
 induction h with
 | nil=>exact .nil
 | cons r t ih =>
  cases t with
  | nil=>exact .nil
  | cons q t'=>exact .cons r ih
theorem Vals.rep {xs:List V} {us:List Value} (h:Vals xs us):∀ k:Nat,Vals (List.replicate k xs).flatten (List.replicate k us).flatten
 | 0=>.nil
 | k + 1=>by
  rw [List.replicate_succ,List.replicate_succ,List.flatten_cons,List.flatten_cons]
  exact Vals.append h (Vals.rep h k)
theorem zvM {α:Type} (l:List α):l.eraseIdx (l.length - 1)=l.dropLast:=by
 induction l with
 | nil=>rfl
 | cons a r ih =>
  cases r with
  | nil=>rfl
  | cons b r =>
   have e:(a :: b :: r).length - 1=((b :: r).length - 1) + 1:=by
    have h1:(a :: b :: r).length=r.length + 2:=rfl
    have h2:(b :: r).length=r.length + 1:=rfl
    omega
   rw [e,List.eraseIdx_cons_succ,ih]
   all_goals rfl
theorem foldl_rep (its:List Value):∀ (k:Nat) (acc:List Value),
  List.foldl (fun x1 x2=>x1 ++ x2) acc.toArray (List.replicate k its.toArray)=(acc ++ (List.replicate k its).flatten).toArray
 | 0,acc=>by simp
 | k + 1,acc=>by
  have e:acc.toArray ++ its.toArray=(acc ++ its).toArray:=by simp
  have e2:(acc ++ its) ++ (List.replicate k its).flatten=acc ++ (List.replicate (k + 1) its).flatten:=by
   rw [List.replicate_succ,List.flatten_cons,List.append_assoc]
  rw [<- e2,<- foldl_rep its k (acc ++ its),<- e,List.replicate_succ,List.foldl_cons]
section
variable {X:Cx} {pins:List (Addr × Obj)} {σ:St} {H:Hp} {s:Shared} {l b:Addr} {xs ys zs:List V}
theorem Inv.zzy {its its':List Value} {n:Nat} {f:Array Value->Array Value} {t':Nat} (I:Inv X pins σ H s) (hH:H l=some (.lst xs))
  (e:s.heap.get? l=some { cls:=.type "list",data:=.seq its.toArray n }) (hf:f its.toArray=its'.toArray) (hv:Vals ys its') (hz:ys.length<=sizeLine) :
  Inv X pins σ (upd H l (.lst ys)) { s with heap:=s.heap.update l (Obj.mapSeq f),toks:=t' }:=by
 have q:=PySem.IsL.update e f
 rw [hf] at q
 refine I.write (x:=l) (e:=l) (by rw [hH];exact trivial) (.inl rfl) (fun b' u hb hu=>(Heap.get?_update_other s.heap (Obj.mapSeq f) (Ne.symm hb)).trans hu) ⟨_,q⟩ ?_
 exact ⟨hz,its',_,hv,q⟩
theorem Inv.zyR {its:List Value} {t':Nat} (I:Inv X pins σ H s) (hv:Vals ys its) (hz:ys.length<=sizeLine) :
  Inv X pins σ (upd H s.heap.objs.size (.lst ys)) { s with heap:=s.heap.push { cls:=.type "list",data:=.seq its.toArray },toks:=t' } :=
 I.laid (fun _ _ q=>Heap.get?_push_of_some _ q) (Nat.le_refl _) ⟨hz,its,0,hv,Heap.get?_push_size _ rfl⟩
theorem Inv.fresh (I:Inv X pins σ H s):H s.heap.objs.size=none:=I.hok.fresh (Nat.le_refl _)
theorem Inv.zyP (I:Inv X pins σ H s) (hH:H l=some (.lst xs)):xs.length<=sizeLine/\∃ (its:List Value) (n:Nat),Vals xs its/\xs.length=its.length/\s.heap.get? l=some { cls:=.type "list",data:=.seq its.toArray n }:=by
 obtain ⟨z,its,n,r,e⟩:=I.hok l _ hH
 exact ⟨z,its,n,r,r.length,e⟩
theorem zst {n:Nat} (h:n<=sizeLine):Builtin.List.listTooLong n=false:=by
 unfold Builtin.List.listTooLong
 exact decide_eq_false (by omega)
end
section
variable {X:Cx}
def zug:V->List V->Hp->VK->Prop:=fun x vs H Q=>∃ l xs y,x=.ref l/\vs=[y]/\H l=some (.lst xs)/\xs.length < sizeLine/\Q .non (upd H l (.lst (xs ++ [y])))
theorem zlB:MtM X "list.append" zug:=by
 intro pins s σ H x vs v us Q I rx rv h
 obtain ⟨l,xs,y,rfl,rfl,hH,hz,q⟩:=h
 cases rx
 obtain ⟨u,rfl,ru⟩:=rv.one
 obtain ⟨z,its,n,r,hl,e⟩:=I.zyP hH
 refine call_meets F.slot_list_append ⟨_,e,rfl⟩ F.entry_list_append (F.args_list_append_2 _ _) (PySem.list_append l its.toArray n u (by rw [List.size_toArray];omega)) ⟨e,?_⟩
 refine ⟨.non,_,I.zzy (its':=its ++ [u]) hH e (by simp) (r.append (.cons ru .nil)) ?_,rfl,q⟩
 rw [List.length_append,List.length_singleton]
 omega
def zze:R2:=fun x y H Q=>∃ l k xs,x=.ref l/\y=.int k/\H l=some (.lst xs)/\-(2 ^ 63)<=k/\k < 2 ^ 63/\xs.length * k.toNat<=sizeLine /\
 ∀ p,H p=none->Q (.ref p) (upd H p (.lst (List.replicate k.toNat xs).flatten))
theorem len_rep {α:Type} (xs:List α) (k:Nat):(List.replicate k xs).flatten.length=k * xs.length:=by
 induction k with
 | zero=>simp
 | succ k ih=>rw [List.replicate_succ,List.flatten_cons,List.length_append,ih,Nat.succ_mul,Nat.add_comm]
theorem zwF:OpR X (binaryOp .Mult) zze:=by
 intro pins s σ H x y v u Q I rx ry h
 obtain ⟨l,k,xs,rfl,rfl,hH,h1,h2,hz,q⟩:=h
 cases rx
 obtain ⟨t,rfl⟩:=ry
 obtain ⟨z,its,n,r,hl,e⟩:=I.zyP hH
 have hlen:its.toArray.size * k.toNat<=sizeLine:=by rw [List.size_toArray,<- hl];exact hz
 have hcap:¬ its.toArray.size * k.toNat > (2 ^ 63 - 1) / 8:=by
  have:(sizeLine:Nat)<=(2 ^ 63 - 1) / 8:=by decide
  omega
 have hfit:¬ (!Builtin.List.listFitsIndex k)=true:=by
  rw [fitsIndex_both h1 h2]
  exact Bool.false_ne_true
 have hlong:¬ Builtin.List.listTooLong (its.toArray.size * k.toNat)=true:=by
  rw [zst hlen]
  exact Bool.false_ne_true
 have hnew:List.foldl (fun x1 x2=>x1 ++ x2) #[] (List.replicate (if its.toArray.isEmpty=true then 0 else k.toNat) its.toArray)=(List.replicate k.toNat its).flatten.toArray:=by
  have f0:∀ m:Nat,List.foldl (fun x1 x2=>x1 ++ x2) #[] (List.replicate m its.toArray)=(List.replicate m its).flatten.toArray:=fun m=>by
   have:=foldl_rep its m []
   rw [List.nil_append] at this
   exact this
  rw [f0]
  cases its with
  | nil=>simp
  | cons a r'=>rw [if_neg (by simp)]
 refine wpAny_binaryOp_repeat_ref (T:="list") (U:="int") (by decide) ⟨_,e,rfl⟩ (fun s'=>typeIs_int s' k t) noFill_list_mul F.fills_int_mul F.slot_int_rmul repeat_list F.slot_int_index.lookup
  (call_meets F.slot_int_rmul (typeIs_int s k t) F.entry_int_rmul (F.args_int_rmul_2 _ _) (int___rmul___int_list k t l its.toArray n)
   ⟨e,rfl,⟨_,e,rfl⟩,call_meets F.slot_list_mul ⟨_,e,rfl⟩ F.entry_list_mul (F.args_list_mul_2 _ _) (AutoListH.list___mul___list_int_3 l its.toArray n k t hfit hcap hlong) ⟨e,?_⟩⟩)
 rw [hnew]
 exact ⟨.ref _,_,I.zyR (t':=s.toks) (r.rep k.toNat) (by rw [len_rep,Nat.mul_comm];exact hz),rfl,q _ I.fresh⟩
end
end L2
namespace Att
open PySem PySem.W PySem.Calls PyProof.Rows
theorem zia {P:Params} {h:Heap}:∀ (ns:List Int) (vs:List Value),WellAll P h vs (ns.map WData.int)->IntsAre vs ns:=by
 intro ns
 induction ns with
 | nil =>
  intro vs w
  rw [List.map_nil] at w
  cases w
  exact .nil
 | cons n ns ih =>
  intro vs w
  rw [List.map_cons] at w
  cases w with
  | cons a b =>
   cases a
   exact .cons _ _ (ih _ b)
theorem zpS {l:OpenLaw} {n:Nat} (hn:l.most=some n) {P:Params} {h:Heap} {args:List WData} {vals:List Value}
  (hpre:l.row.toRowW.claim.pre args=true) (hwl:WellAll P h vals args) :
  ∃ a vs ns,vals=[Value.ref a]/\args=[WData.list (ns.map WData.int)]/\h.get? a=some { cls:=.type "list",data:=.seq vs.toArray }/\IntsAre vs ns/\ns.length<=n:=by
 have hsh:WShape.hasAll [] args [.list .int]=true:=(pre_splitW hpre).1
 have hc:l.pre.holds [] { args:=args }=true:=(pre_splitW hpre).2
 obtain ⟨d,r,rfl,h1,h2⟩:=hasAllW_cons hsh
 obtain rfl:=hasAllW_nil h2
 obtain ⟨xs,rfl,h3⟩:=hasW_list h1
 obtain ⟨ns,rfl⟩:=items_int h3
 have hlen:ns.length<=n:=by
  unfold OpenLaw.pre at hc
  have h4:(WTm.not (.lt (.lit (.int (n:Int))) (.len (.arg 0)))).holds [] { args:=[.list (ns.map .int)] }=true:=by
   have h4:=(holds_andW hc).1
   rw [hn] at h4
   exact h4
  have h5:=condW_of h4 (w_not (w_lt w_lit (w_len_list (w_arg rfl))))
  rw [List.length_map] at h5
  refine Nat.le_of_not_lt fun q=>?_
  have q':(n:Int) < ((ns.length:Nat):Int):=by omega
  first
   | (rw [decide_eq_true q'] at h5;exact absurd h5 (by decide))
   | (simp at h5;omega)
 cases hwl with
 | cons w1 w2 =>
  cases w2
  cases w1 with
  | list ho hall=>exact ⟨_,_,ns,rfl,rfl,ho,zia ns _ hall,hlen⟩
theorem zp7 (l:OpenLaw) (args:List WData):l.row.toRowW.claim.post args (.bool true) args=true :=
 postW_of (r:=l.row.toRowW) (X:=(true == true))
  (show WShape.has [] (.bool true) .bool=true by first | rfl | decide | simp [WShape.has,WShape.arms,WShape.armsAll])
  (show (WTm.eq .res (.lit (.bool true))).value [] { args:=args,res:=some (.bool true),after:=args }=some (.bool (true == true)) from w_eq_bool (w_res rfl) w_lit) rfl
theorem znj {l:OpenLaw} {n:Nat} {q:Program} {loose:List Str} {XP:(Str->Option Value)->Heap->Prop} {YP:World->Heap->Prop} {d:DefRec}
  (hn:l.most=some n) (hdf:d.params.defaults=[])
  (call:∀ (w:World) (s₀ s₁:Shared) (mg mb:Str->Option Value) (fa:Addr) (o:Obj) (pm cd doc:Value) (a:Addr) (vs:List Value) (ns:List Int),
   Ground q loose [] XP w s₀ mg mb s₁.heap->YP w s₁.heap ->
   s₁.heap.get? fa=some o->o.data=.func (docDef d.name d.params d.body d.scope pm cd doc)->s₁.heap.CodeRec cd d.name->mg d.name=some (.ref fa) ->
   s₁.heap.get? a=some { cls:=.type "list",data:=.seq vs.toArray }->IntsAre vs ns->ns.length<=n->s₁.gens=#[] ->
   codeAny (model l.prog w) callerA (.call (.ref fa) ⟨[.ref a],[]⟩) (fun r s'=>r=.ok (.ret (.bool true))/\OldK s₁.heap s'.heap/\s'.os=s₁.os/\AllBare s'.gens) s₁) :
  WalkO q loose XP YP l.row.toRowW d [] (fun f vs=>PySem.call f vs):=by
 intro w s₀ s₁ mg mb G Y fa o pm cd doc dV kV ho hd hcd hD hmg hg args vals as hpre hlay hrd hwl hlo
 obtain rfl:dV=.none:=Dflts.none hD hdf
 obtain rfl:kV=.none:=Dflts.noKw hD
 obtain ⟨a,vs,ns,rfl,rfl,hobj,hints,hlen⟩:=zpS hn hpre hwl
 refine enter_call (codeAny_mono (call w s₀ s₁ mg mb fa o pm cd doc a vs ns G Y ho (fd_plain hd) hcd hmg hobj hints hlen hg) fun r s' hq=>?_)
 obtain ⟨rfl,h2,h3,h4⟩:=hq
 exact ⟨.inl ⟨.bool true,.bool true,[],rfl,fun _=>rfl,.bool true,zp7 l _,fun _=>⟨List.Pairwise.nil,fun _ hm=>(nomatch hm)⟩⟩,h2,h3,h4⟩
end Att
namespace L2
open PySem PySem.Spec PyProof.Rows
theorem zld:∀ {vs:List Value} {ns:List Int},IntsAre vs ns->Vals (ns.map V.int) vs
 | _,_,.nil=>.nil
 | _,_,.cons n t h=>.cons ⟨t,rfl⟩ (zld h)
end L2
namespace L2
open PySem PySem.Spec PyProof.Rows
abbrev KOf {K:PySem.W.Frag} {h:Heap} (_:K.In h):PySem.W.Frag:=K
end L2
namespace L2
open PySem PySem.Spec PyProof.Rows
def zdl (s:Stmt):Arguments:=match s with
 | .FunctionDef _ a _ _ _ _ _ _ _ _=>a
 | _=>{ posonlyargs:=[],args:=[],vararg:=none,kwonlyargs:=[],kw_defaults:=[],kwarg:=none,defaults:=[] }
def zbT (s:Stmt):List Stmt:=match s with
 | .FunctionDef _ _ b _ _ _ _ _ _ _=>b
 | _=>[]
def zaF (s:Stmt):Scope:=match s with
 | .FunctionDef _ _ _ _ _ _ sc _ _ _=>sc
 | _=>{ kind:=.function,names:=[],isGenerator:=false,isCoroutine:=false }
abbrev E0:XK:=fun _ _ _=>False
structure Fun (K:PySem.W.Frag) (x qual:Str) (st:Stmt) (f:Addr) (fd:FuncData):Prop where
 ex:∃ (oc:Value) (od:Option Addr) (kV doc pm:Value) (an:Option Addr) (cdv ct:Value) (osl:Array (Option Value)),
  fd=PySem.W.fnOf x qual (zdl st) (zbT st) (zaF st) .none kV doc pm an cdv ct/\K.lookup f=some ⟨oc,od,.func fd,osl⟩/\PySem.W.codeIn K cdv qual=true
 kp:PySem.W.keepIn K (.ref f)=true
section
variable {P:Program} {w:World} {K:PySem.W.Frag} {mg:Str->Option Value} {base:Heap}
theorem Fun.binds {x qual:Str} {st:Stmt} {f:Addr} {fd:FuncData} {ps:List Str} (F:Fun K x qual st f fd)
  (h:∀ (kV doc pm:Value) (an:Option Addr) (cdv ct:Value) (us:List Value),us.length=ps.length->bindArgs (PySem.W.fnOf x qual (zdl st) (zbT st) (zaF st) .none kV doc pm an cdv ct) ⟨us,[]⟩=pure (ps.zip us)):Binds K fd ps []:=by
 obtain ⟨oc,od,kV,doc,pm,an,cdv,ct,osl,rfl,lk,hcd⟩:=F.ex
 exact .all (h kV doc pm an cdv ct)
theorem zxj {x qual:Str} {st:Stmt} {f:Addr} {oc:Value} {od an:Option Addr} {osl:Array (Option Value)} {kV doc pm cdv ct:Value} (l:K.lookup f=some ⟨oc,od,.func (PySem.W.fnOf x qual (zdl st) (zbT st) (zaF st) .none kV doc pm an cdv ct),osl⟩)
  (c:PySem.W.codeIn K cdv qual=true) (k:PySem.W.keepIn K (.ref f)=true):Fun K x qual st f (PySem.W.fnOf x qual (zdl st) (zbT st) (zaF st) .none kV doc pm an cdv ct):=⟨⟨oc,od,kV,doc,pm,an,cdv,ct,osl,rfl,l,c⟩,k⟩
end
theorem zpQ {n:Nat} (h:n<=1000):n < sizeLine:=Nat.lt_of_le_of_lt h (by decide)
section
variable {X:Cx}
theorem pv (i:Nat) {x:Str} {pos:Pos} (hN:X.N[i]?=some x:=by rfl) (hv:Vis X.env.scope x:=by first | exact Or.inl rfl | exact Or.inr (Or.inl rfl) | exact Or.inr (Or.inr rfl)) (hd:(x == ("__debug__":Str))=false:=by decide)
  (hcd:(x == ("__classdict__":Str))=false:=by decide):PE X (.Name x pos) (zrJ i):=ztw hN hv hd hcd
end
theorem zsF {A B:Prop} (h:B):if false=true then A else B:=by
 rw [if_neg Bool.false_ne_true]
 exact h
theorem zsE {A B:Prop} (h:A):if true=true then A else B:=by
 rw [if_pos rfl]
 exact h
def zbr (H H':Hp):Prop:=∀ b o,H b=some o->H' b=some o
theorem zbr.refl (H:Hp):zbr H H:=fun _ _ h=>h
end L2
namespace L2
open PySem PySem.Spec PyProof.Rows
theorem bits_le {k:Int} {a:Nat} (h:k.natAbs < 2 ^ a):Builtin.Int.intBits k<=a:=by
 unfold Builtin.Int.intBits
 split
 ·exact Nat.zero_le _
 ·rename_i h0
  have hp:k.natAbs ≠ 0:=by
   intro z
   apply h0
   have:k=0:=by omega
   subst this
   rfl
  have:=(Nat.log2_lt hp).mpr h
  omega
theorem mulOk_of {i j:Int} {a b:Nat} (hi:i.natAbs < 2 ^ a) (hj:j.natAbs < 2 ^ b) (h:a + b<=134217728):IntMulOk i j:=by
 have h1:=bits_le hi
 have h2:=bits_le hj
 have h3:Builtin.Int.intTooBig ((Builtin.Int.intBits i:Int) + (Builtin.Int.intBits j:Int))=false:=by
  unfold Builtin.Int.intTooBig
  rw [bitsLine_eq]
  simp
  omega
 unfold IntMulOk
 rw [h3]
 simp
section
variable {X:Cx}
theorem zuS:OpR X (binaryOp .Mult) (rI IntMulOk fun i j=>.int (i * j)):=opI fun _ _ _ _ _ _ _ hc q=>mul_int q hc
end
mutual
/-- the value v is the thing d in the abstract heap -/
def Is (K:PySem.W.Frag) (H:Hp):PyData->V->Prop
 | .none,v=>v=.non
 | .bool b,v=>v=.bl b
 | .int i,v=>v=.int i
 | .str x,v=>v=.str x
 | .list xs,v=>∃ a vs,v=.ref a/\SqL K H a vs/\zgE K H xs vs
 | .tuple xs,v=>∃ a vs,v=.ref a/\SqT K H a vs/\zgE K H xs vs
 | .dict _,_=>False
def zgE (K:PySem.W.Frag) (H:Hp):List PyData->List V->Prop
 | [],vs=>vs=[]
 | d :: ds,vs=>∃ v r,vs=v :: r/\Is K H d v/\zgE K H ds r
end
section
variable {X:Cx} {pins:List (Addr × Obj)} {σ:St} {H:Hp} {s:Shared}
mutual
theorem Is.reads (I:Inv X pins σ H s):∀ (d:PyData) (v:V) (u:Value),Is X.K H d v->RelV v u->∃ as,Reads s.heap u d as
 | .none,v,u,h,r=>by
  simp only [Is] at h;subst h
  cases (show u=Value.none from r)
  exact ⟨_,.none⟩
 | .bool b,v,u,h,r=>by
  simp only [Is] at h;subst h
  cases (show u=Value.bool b from r)
  exact ⟨_,.bool b⟩
 | .int i,v,u,h,r=>by
  simp only [Is] at h;subst h
  obtain ⟨t,rfl⟩:=(show ∃ t,u=Value.int i t from r)
  exact ⟨_,.int i t⟩
 | .str x,v,u,h,r=>by
  simp only [Is] at h;subst h
  obtain ⟨t,rfl⟩:=(show ∃ t,u=Value.str x t from r)
  exact ⟨_,.str x t⟩
 | .list xs,v,u,h,r=>by
  simp only [Is] at h
  obtain ⟨a,vs,rfl,h1,h2⟩:=h
  cases (show u=Value.ref a from r)
  obtain ⟨its,rv,⟨o,n,ho,hc,_,hd⟩,_⟩:=I.list h1
  obtain ⟨as,ra⟩:=zgE.reads I xs vs its h2 rv
  exact ⟨_,.list ho hc hd (by simpa using ra)⟩
 | .tuple xs,v,u,h,r=>by
  simp only [Is] at h
  obtain ⟨a,vs,rfl,h1,h2⟩:=h
  cases (show u=Value.ref a from r)
  obtain ⟨its,rv,⟨o,ho,hc,n,hd⟩,_⟩:=I.tuple h1
  obtain ⟨as,ra⟩:=zgE.reads I xs vs its h2 rv
  exact ⟨_,.tuple ho hc hd (by simpa using ra)⟩
 | .dict _,v,u,h,r=>by simp only [Is] at h
theorem zgE.reads (I:Inv X pins σ H s):∀ (ds:List PyData) (vs:List V) (us:List Value),zgE X.K H ds vs->Vals vs us->∃ as,ReadsAll s.heap us ds as
 | [],vs,us,h,r=>by
  simp only [zgE] at h;subst h
  cases r
  exact ⟨_,.nil⟩
 | d :: ds,vs,us,h,r=>by
  simp only [zgE] at h
  obtain ⟨v,rr,rfl,h1,h2⟩:=h
  cases r with
  | cons r1 r2 =>
   obtain ⟨as,q1⟩:=Is.reads I d v _ h1 r1
   obtain ⟨bs,q2⟩:=zgE.reads I ds rr _ h2 r2
   exact ⟨_,.cons q1 q2⟩
end
end
section
variable {X:Cx}
def zzj (K:PySem.W.Frag):R2:=fun x y H Q=>∃ d e,Is K H d x/\Is K H e y/\SeqAt.shaped d=true/\SeqAt.shaped e=true/\Q (.bl (PyData.eqv d e)) H
def zzf (K:PySem.W.Frag):R2:=fun x y H Q=>∃ d e,Is K H d x/\Is K H e y/\SeqAt.shaped d=true/\SeqAt.shaped e=true/\Q (.bl (!PyData.eqv d e)) H
theorem zwI (hu:X.A.units + 64 < cLine):OpR X (compareOp .Eq) (zzj X.K):=by
 intro pins s σ H x y v u Q I rx ry h
 obtain ⟨d,e,h1,h2,c1,c2,q⟩:=h
 obtain ⟨as,ra⟩:=Is.reads I d x v h1 rx
 obtain ⟨bs,rb⟩:=Is.reads I e y u h2 ry
 exact SeqAt.compareEq_shaped ra rb c1 c2 hu ⟨.bl _,H,I,rfl,q⟩
theorem zwH (hu:X.A.units + 64 < cLine):OpR X (compareOp .NotEq) (zzf X.K):=by
 intro pins s σ H x y v u Q I rx ry h
 obtain ⟨d,e,h1,h2,c1,c2,q⟩:=h
 obtain ⟨as,ra⟩:=Is.reads I d x v h1 rx
 obtain ⟨bs,rb⟩:=Is.reads I e y u h2 ry
 exact SeqAt.compareNe_shaped ra rb c1 c2 hu ⟨.bl _,H,I,rfl,q⟩
end
end L2
namespace L2
open PySem PySem.Spec PyProof.Rows
inductive Ty (K:PySem.W.Frag) (H:Hp):V->Value->Prop where
 | non:Ty K H .non (.type "NoneType")
 | bl (x:Bool):Ty K H (.bl x) (.type "bool")
 | int (i:Int):Ty K H (.int i) (.type "int")
 | str (x:Str):Ty K H (.str x) (.type "str")
 | lst {a:Addr} {xs:List V} (e:SqL K H a xs):Ty K H (.ref a) (.type "list")
 | tup {a:Addr} {xs:List V} (e:SqT K H a xs):Ty K H (.ref a) (.type "tuple")
def zxW:V->Value
 | .ty n=>.type n
 | .ref a=>.ref a
 | _=>.none
theorem zvv {y:V} {u:Value} (r:RelV y u) (h:zxW y ≠ .none):u=zxW y:=by
 cases y with
 | ty n=>exact r
 | ref a=>exact r
 | _=>exact absurd rfl h
section
variable {X:Cx}
theorem zxc {pins:List (Addr × Obj)} {σ:St} {H:Hp} {s:Shared} {A:Around} {E:Value->Shared->Prop} {Q:Value->Shared->Prop} {c:Value} {b:Bool} {x:V} {u t:Value} (I:Inv X pins σ H s) (rx:RelV x u) (ty:Ty X.K H x t) (e:PySem.W.kitOne X.K t c=some b) (h:∀ tk,Q (.bool b) { s with toks:=tk }) :
  wpAny (model X.prog X.w) A (call (.builtin "isinstance") [u,c]) Q E s:=by
 cases ty with
 | non=>cases (show u=Value.none from rx);exact PySem.W.kia_one PySem.W.kitx_none I.kIn True.intro e (fun z=>nomatch z) h
 | bl y=>cases (show u=Value.bool y from rx);exact PySem.W.kia_one PySem.W.kitx_bool I.kIn True.intro e (fun z=>nomatch z) h
 | int i=>obtain ⟨t,q⟩:=(show ∃ t,u=Value.int i t from rx);cases q;exact PySem.W.kia_one PySem.W.kitx_int I.kIn True.intro e (fun z=>nomatch z) h
 | str y=>obtain ⟨t,q⟩:=(show ∃ t,u=Value.str y t from rx);cases q;exact PySem.W.kia_one PySem.W.kitx_str I.kIn True.intro e (fun z=>nomatch z) h
 | @lst a xs ea =>
  cases (show u=Value.ref a from rx)
  obtain ⟨its,_,⟨o,n,ho,hc,_⟩,_⟩:=I.list ea
  exact PySem.W.kia_one PySem.W.kitx_list I.kIn ⟨o,ho,hc⟩ e (fun z=>nomatch z) h
 | @tup a xs ea =>
  cases (show u=Value.ref a from rx)
  obtain ⟨its,_,⟨o,ho,hc,_⟩,_⟩:=I.tuple ea
  exact PySem.W.kia_one PySem.W.kitx_tuple I.kIn ⟨o,ho,hc⟩ e (fun z=>nomatch z) h
def zzi (K:PySem.W.Frag):List V->Hp->VK->Prop:=fun xs H Q=>∃ x y t b,xs=[x,y]/\zxW y ≠ .none/\Ty K H x t/\PySem.W.kitOne K t (zxW y)=some b/\Q (.bl b) H
theorem zs2:zgJ X (.builtin "isinstance") (zzi X.K):=by
 intro pins s σ H xs us Q I r h
 obtain ⟨x,y,t,b,rfl,hy,ty,e,q⟩:=h
 obtain ⟨u,v,rfl,ru,rv⟩:=vals2 r
 cases zvv rv hy
 exact zxc I ru ty e fun tk=>⟨.bl b,H,I.tok tk,rfl,q⟩
theorem zyh {x:Str} {n:String} {pos:Pos} (hg:Gl X x) (hm:X.mg x=none) (hv:bootBuiltins x=some (.type n)) (hn:x ≠ "__name__":=by decide) (hd:(x == ("__debug__":Str))=false:=by decide):PE X (.Name x pos) (tC (.ty n)):=zuN hg hm hv rfl hn hd
end
end L2
namespace L2
open PySem PySem.Spec PyProof.Rows
def ziz (cells:List (Str × Addr)):List (Str × NameKind)->List (Str × Addr)->List (Str × Addr)
 | [],acc=>acc
 | (n,k) :: r,acc=>if k=.free then (match cells.lookup n with | some a=>ziz cells r ((n,a) :: acc) | none=>ziz cells r acc) else ziz cells r acc
theorem zhv {cells:List (Str × Addr)}:∀ {names:List (Str × NameKind)} {acc:List (Str × Addr)},(∀ p ∈ acc,cells.lookup p.1=some p.2)->∀ p ∈ ziz cells names acc,cells.lookup p.1=some p.2
 | [],acc,h,p,hp=>h p hp
 | (n,k) :: r,acc,h,p,hp=>by
  unfold ziz at hp
  split at hp
  ·split at hp
   ·rename_i a e
    exact zhv (names:=r) (acc:=(n,a) :: acc) (fun q hq=>by
     rcases List.mem_cons.mp hq with rfl | hq
     ·exact e
     ·exact h q hq) p hp
   ·exact zhv h p hp
  ·exact zhv h p hp
theorem zhw {cells:List (Str × Addr)}:∀ {names:List (Str × NameKind)} {acc:List (Str × Addr)},∀ p ∈ acc,p ∈ ziz cells names acc
 | [],acc,p,hp=>hp
 | (n,k) :: r,acc,p,hp=>by
  unfold ziz
  split
  ·split
   ·exact zhw p (List.mem_cons_of_mem _ hp)
   ·exact zhw p hp
  ·exact zhw p hp
theorem zfT {cells:List (Str × Addr)} {x:Str} {a:Addr} (e:cells.lookup x=some a):∀ {names:List (Str × NameKind)} {acc:List (Str × Addr)},(x,NameKind.free) ∈ names->(x,a) ∈ ziz cells names acc
 | (n,k) :: r,acc,h=>by
  unfold ziz
  rcases List.mem_cons.mp h with h | h
  ·cases h
   rw [if_pos rfl,e]
   exact zhw _ (List.mem_cons_self ..)
  ·split
   ·split
    ·exact zfT e h
    ·exact zfT e h
   ·exact zfT e h
theorem zbL {α:Type} {x:Str} {a:α}:∀ {l:List (Str × α)},(x,a) ∈ l->∃ b,l.lookup x=some b
 | (y,b) :: r,h=>by
  by_cases e:(x == y)=true
  ·exact ⟨b,by simp [List.lookup_cons,e]⟩
  ·rcases List.mem_cons.mp h with h | h
   ·cases h
    exact absurd (beq_self_eq_true _) e
   ·obtain ⟨c,hc⟩:=zbL h
    refine ⟨c,?_⟩
    have e':(x == y)=false:=by simpa using e
    simp only [List.lookup_cons,e']
    exact hc
theorem zdm {scope:Scope} {env:Env} (h:∀ y ∈ scope.names,y.2=.free->∃ a,env.cells.lookup y.1=some a):closureFor scope env=pure (ziz env.cells scope.names []):=by
 have key:∀ (names:List (Str × NameKind)) (acc:List (Str × Addr)),(∀ y ∈ names,y.2=.free->∃ a,env.cells.lookup y.1=some a) ->
   (forIn names acc (fun x r=>match x with
    | (name,kind)=>if (kind == NameKind.free)=true then do let a <- cellOf env name;pure (ForInStep.yield ((name,a) :: r)) else pure (ForInStep.yield r)):Sem (List (Str × Addr)))=pure (ziz env.cells names acc):=by
  intro names
  induction names with
  | nil=>intro acc _;rfl
  | cons p r ih =>
   intro acc hh
   obtain ⟨n,k⟩:=p
   rw [List.forIn_cons]
   by_cases hk:k=.free
   ·subst hk
    obtain ⟨a,ea⟩:=hh (n,.free) (List.mem_cons_self ..) rfl
    have e1:cellOf env n=pure a:=by unfold cellOf;rw [ea]
    simp only [beq_self_eq_true,if_true,e1,pure_bind,ziz,ea]
    exact ih _ fun y hy=>hh y (List.mem_cons_of_mem _ hy)
   ·have hk':(k == NameKind.free)=false:=by simpa using hk
    simp only [hk',Bool.false_eq_true,if_false,pure_bind,ziz,hk]
    exact ih _ fun y hy=>hh y (List.mem_cons_of_mem _ hy)
 unfold closureFor
 exact (bind_pure _).trans (key scope.names [] h)
theorem zbc {scope:Scope} {env:Env} {x:Str} {k:NameKind}:∀ {names:List (Str × NameKind)},
  (names.map fun (n,k)=>if (k == NameKind.free && env.scope.kind == .function && env.kindOf n == some .cell) then (n,NameKind.cell) else (n,k)).lookup x=some k ->
  ∃ k0,names.lookup x=some k0/\(x,k0) ∈ names/\(k0=k\/(k0=.free/\k=.cell))
 | [],h=>by simp at h
 | (n,k0) :: r,h=>by
  by_cases e:(x == n)=true
  ·have en:x=n:=by simpa using e
   subst en
   refine ⟨k0,by simp [List.lookup_cons],List.mem_cons_self ..,?_⟩
   rw [List.map_cons] at h
   by_cases hc:(k0 == NameKind.free && env.scope.kind == .function && env.kindOf x == some .cell)=true
   ·simp only [hc,if_true,List.lookup_cons,beq_self_eq_true] at h
    simp only [Bool.and_eq_true,beq_iff_eq] at hc
    exact .inr ⟨hc.1.1,(Option.some.inj h).symm⟩
   ·simp only [hc,Bool.false_eq_true,if_false,List.lookup_cons,beq_self_eq_true] at h
    exact .inl (Option.some.inj h)
  ·have e':(x == n)=false:=by simpa using e
   rw [List.map_cons] at h
   have h':(r.map fun (n,k)=>if (k == NameKind.free && env.scope.kind == .function && env.kindOf n == some .cell) then (n,NameKind.cell) else (n,k)).lookup x=some k:=by
    by_cases hc:(k0 == NameKind.free && env.scope.kind == .function && env.kindOf n == some .cell)=true
    ·simp only [hc,if_true,List.lookup_cons,e'] at h
     exact h
    ·simp only [hc,Bool.false_eq_true,if_false,List.lookup_cons,e'] at h
     exact h
   obtain ⟨k1,h1,h2,h3⟩:=zbc (scope:=scope) h'
   exact ⟨k1,by simp only [List.lookup_cons,e'];exact h1,List.mem_cons_of_mem _ h2,h3⟩
structure zxO (X:Cx) (scope:Scope) (cap:List Str):Prop where
 kind:scope.kind=.function
 nocell:∀ y ∈ scope.names,y.2 ≠ .cell
 cell:∀ y ∈ scope.names,y.2=.free->X.env.kindOf y.1=some .cell
 loc:∀ y ∈ scope.names,y.2=.local->scope.names.lookup y.1=some .local
 cap:∀ x ∈ cap,scope.names.lookup x ≠ some .local
def zeM (X:Cx) (ix:List Nat):List Str:=ix.map fun i=>X.N.getD i ""
def zeL (k:Nat) (ix:List Nat) (σ:St):St:=List.replicate k none ++ ix.map fun i=>(σ[i]?).getD none
end L2
namespace L2
open PySem PySem.Spec PyProof.Rows
section
variable {prog:Program} {w:World} {A:Around} {R:Result->Shared->Prop} {s:Shared}
theorem ziv {elt target iter:Expr} {ifs:List Expr} {scope:Scope} {pos:Pos} {it acc:Value} {env:Env} (I:Nat->Shared->Prop)
  (turn:∀ n s,I n s->wpAny (model prog w) A (pyNext it) (fun r s₁=>match r with
   | none=>R (.ok .next) s₁
   | some v=>wpAny (model prog w) A (letOwnedTupleGo target it v) (fun _ s₀=>wpAny (model prog w) A (assign target env v) (fun _ s₂ =>
     wpAny (model prog w) A (forIn ifs true fun c r=>if r=true then do let ok <- isTrue c env (eval c env);pure (ForInStep.yield ok) else pure (ForInStep.yield r)) (fun ok s₃ =>
      if ok=true then wpAny (model prog w) A (eval elt env) (fun x s₄ =>
       wpAny (model prog w) A (call (.builtin "list.append") [acc,x]) (fun _ s₅=>∃ m,m < n/\I m s₅) (notedBy (model prog w) A env fun e s'=>R (.error e) s') s₄) (notedBy (model prog w) A env fun e s'=>R (.error e) s') s₃
      else ∃ m,m < n/\I m s₃) (notedBy (model prog w) A env fun e s'=>R (.error e) s') s₂) (notedBy (model prog w) A env fun e s'=>R (.error e) s') s₀) (notedBy (model prog w) A env fun e s'=>R (.error e) s') s₁) (notedBy (model prog w) A env fun e s'=>R (.error e) s') s)
  (n:Nat) (h:I n s) :
  codeAny (model prog w) A (.compLoop (.ListComp elt [⟨target,iter,ifs,0⟩] scope pos) 0 it acc env) R s:=by
 refine codeAny_loop rfl I (fun n s hI=>?_) n h
 show wpAny _ A ((compTurn (.ListComp elt [⟨target,iter,ifs,0⟩] scope pos) 0 it acc env).onRaise (fun x=>do noteFrame x env;theTreesLotGoes x)) _ _ s
 refine wpAny_noted ?_
 rw [compTurn_list]
 refine wpAny_bind (wpAny_standAt (wpAny_bind (wpAny_mono (turn n s hI) (fun r s₁ h₁=>?_) fun _ _ h'=>h')))
 cases r with
 | none=>exact wpAny_pure h₁
 | some v =>
  refine wpAny_bind (wpAny_mono h₁ (fun _ s₀ h₀=>?_) fun _ _ h'=>h')
  refine wpAny_bind (wpAny_mono h₀ (fun _ s₂ h₂=>wpAny_bind (wpAny_mono h₂ (fun ok s₃ h₃=>?_) fun _ _ h'=>h')) fun _ _ h'=>h')
  cases ok with
  | false=>exact wpAny_pure ⟨rfl,h₃⟩
  | true =>
   exact wpAny_bind (wpAny_bind (wpAny_mono h₃ (fun x s₄ h₄=>wpAny_bind (wpAny_mono h₄ (fun _ s₅ h₅=>wpAny_pure (wpAny_pure ⟨rfl,h₅⟩)) fun _ _ h'=>h')) fun _ _ h'=>h'))
end
def PTs (X:Cx) (ifs:List Expr) (t:TT):Prop :=
 ∀ (pins:List (Addr × Obj)) (s:Shared) (σ:St) (H:Hp) (Q:Bool->Hp->Prop),Inv X pins σ H s->t σ H Q ->
  wpAny (model X.prog X.w) X.A (forIn ifs true fun c r=>if r=true then do let ok <- isTrue c X.env (eval c X.env);pure (ForInStep.yield ok) else pure (ForInStep.yield r)) (TP X pins σ Q) X.xe s
def zzb:TT:=fun _ H Q=>Q true H
theorem zux {X:Cx}:PTs X [] zzb:=fun _ _ _ H _ I h=>wpAny_tests_nil ⟨H,I,h⟩
theorem zuw {X:Cx} {c:Expr} {t:TT} (hc:PT X c t):PTs X [c] t:=fun pins s σ H Q I h=>wpAny_tests_one (hc pins s σ H Q I h)
def znu (k:Nat) (g:TG):Prop:=∀ x σ H Q,g x σ H Q->g x σ H fun σ2 H2=>(σ2.length=σ.length/\∀ i:Nat,k<=i->σ2[i]?=σ[i]?)/\Q σ2 H2
def zoL (k:Nat) (ix:List Nat) (wi:TI) (g:TG) (tc:TT) (te:TE):TE:=fun σ H Q=>wi σ H fun J H1=>∀ l,H1 l=none ->
 ∃ W:Nat->Nat->List V->Hp->Prop,(∃ m,W 0 m [] (upd H1 l (.lst [])))/\∀ i m ys H2,W i m ys H2->H2 l=some (.lst ys) /\
  ((J.stop i H2/\Q (.ref l) H2)\/(J.go i H2/\∀ x H3,J.yld i H2 x H3->g x (zeL k ix σ) H3 fun σ2 H4=>tc σ2 H4 fun b H5 =>
   if b=true then te σ2 H5 fun v H6=>H6 l=some (.lst ys)/\ys.length < sizeLine/\∃ m',m' < m/\W (i + 1) m' (ys ++ [v]) (upd H6 l (.lst (ys ++ [v]))) else ∃ m',m' < m/\W (i + 1) m' ys H5))
end L2
namespace L2
open PySem PySem.Spec PyProof.Rows
def Fl (h:Heap) (e:Addr) (cls:Value) (dd:Option Addr) (T:Addr) (fl:Value):Prop :=
 ∃ oe vs oT ts,h.get? e=some oe/\oe.cls=cls/\oe.dict=dd/\oe.data=.fields vs/\vs[1]?=some (.ref T)/\T ≠ e/\h.get? T=some oT/\oT.data=.fields ts/\ts[3]?=some fl
end L2
namespace L2
open PySem PySem.Spec PyProof.Rows
theorem zbJ.some {P:Program} {w:World} {H:Hp} {h:Heap} {a:Addr} {o:HO} (x:zbJ P w H h a o):∃ ob,h.get? a=some ob:=by
 cases o with
 | lst xs=>obtain ⟨_,_,_,_,e⟩:=x;exact ⟨_,e⟩
 | tup xs=>obtain ⟨_,_,_,ob,e,_⟩:=x;exact ⟨_,e⟩
 | dK kvs=>obtain ⟨_,_,_,_,ob,_,_,e,_⟩:=x;exact ⟨_,e⟩
 | dT kvs=>obtain ⟨_,_,_,_,ob,_,_,e,_⟩:=x;exact ⟨_,e⟩
 | set S n=>obtain ⟨ob,_,_,_,e,_⟩:=x;exact ⟨_,e⟩
 | ins C dx fs=>obtain ⟨_,_,_,e,_⟩:=x;exact ⟨_,e⟩
 | own y=>exact x
 | xd fs=>obtain ⟨_,⟨od,_,_,e,_⟩,_⟩:=x;exact ⟨_,e⟩
 | met f y=>exact ⟨_,x⟩
 | rng lo hi=>obtain ⟨_,_,_,e⟩:=x;exact ⟨_,e⟩
 | frz ob u=>exact ⟨_,x.1⟩
 | tbl ps=>exact ⟨_,x⟩
 | ext φ=>exact x.2.1
def CXe (P:Program) (w:World):CXT:=fun outer H s E ev s'=>∃ (e:Addr) (cls:Value) (dd:Option Addr) (T:Addr) (H':Hp),ev=.ref e/\s'.os=s.os/\AllBare s'.gens/\Un (frs outer) [] H H' s.heap s'.heap/\HOk P w H' s'.heap /\
 Fl s'.heap e cls dd T .none/\H' e=none/\H' T=none/\s.heap.get? e=none/\s.heap.get? T=none/\E cls dd H'
theorem zks {P:Program} {w:World} {X:Cx}:Passes (CXe P w) X E0:=fun _ _ _ _ _ _ _ ⟨_,_,_,_,_,_,_,_,_,_,_,_,_,_,_,q⟩=>q.elim
section
variable {P:Program} {w:World} {K:PySem.W.Frag} {mg:Str->Option Value} {base:Heap} {N:List Str} {qual:Str} {scope:Scope} {f:Addr} {cd:Value} {A:Around} {outer:List Env} {s:Shared} {H:Hp} {E:XK}
theorem Fun.okE {x:Str} {st:Stmt} {fd:FuncData} {ps:List Str} {k:Nat} {sp:Sp} (F:Fun K x qual st f fd) (S:zeq N ps (zaF st)) (len:∀ vs H Q E,sp vs H Q E->vs.length=ps.length)
  (hbody:∀ (cdv:Value) (A:Around) (outer:List Env) (s:Shared) (H:Hp) (vs:List V) (Q:VK) (E:XK),zcZ k (A.deeper (envOfC qual (zaF st) s.heap.objs.size f cdv))->sp vs H Q E ->
   ∃ t,PSs (zrL (CXe P w) P w K mg base N qual (zaF st) f cdv A outer s H E) (zbT st) t/\t { nx:=fun _ H'=>Q .non H',rt:=Q } (start N vs) H):zk8 P w K mg base (CXe P w) (k + 1) f fd ps sp:=by
 obtain ⟨oc,od,kV,doc,pm,an,cdv,ct,osl,rfl,lk,hcd⟩:=F.ex
 exact zyz lk hcd S len fun A outer s H vs Q E hr hsp=>hbody cdv A outer s H vs Q E hr hsp
end
end L2
namespace L2
open PySem PySem.Spec PyProof.Rows
def Nw (X:Cx) (pins:List (Addr × Obj)) (b:Addr):Prop :=
 X.s₀.heap.get? b=none/\b ≠ X.env.locals/\b ∉ X.fs/\(∀ x c,X.env.cells.lookup x=some c->c ≠ b)/\∀ p ∈ X.pn ++ pins,p.1 ≠ b
def XP (X:Cx) (pins:List (Addr × Obj)) (σ:St) (E:XK) (ev:Value) (s':Shared):Prop :=
 ∃ (e:Addr) (cls:Value) (dd:Option Addr) (T:Addr) (H':Hp),ev=.ref e/\Inv X pins σ H' s'/\Fl s'.heap e cls dd T .none/\H' e=none/\H' T=none/\Nw X pins e/\Nw X pins T/\E cls dd H'
abbrev TSX:=Ends->(St->XK)->St->Hp->Prop
structure zy0 (K:PySem.W.Frag) (C:Addr):Prop where
 ty:PySem.W.typeIn K (.ref C)=some (.type "type")
 cl:(PySem.W.clsIn K C).isSome=true
 be:PySem.W.subIn K (.ref C) (.type "BaseException")=some true
end L2
namespace L2
open PySem PySem.Spec PyProof.Rows
end L2
namespace L2
open PySem PySem.Spec PyProof.Rows
structure zzR (K:PySem.W.Frag) (D:Addr):Prop where
 ga:PySem.W.findIn K (.ref D) "__getattribute__"=some (some (.builtin "BaseException.__getattribute__"))
 gn:PySem.W.findIn K (.ref D) "__getattr__"=some none
 cl:PySem.W.findIn K (.ref D) "__class__"=some (some (.builtin "object.__class__"))
 be:PySem.W.subIn K (.ref D) (.type "BaseException")=some true
 ob:PySem.W.mroIn K D (.type "object")=some true
 is:(PySem.W.clsIn K D).isSome=true
end L2
namespace L2
open PySem PySem.Spec PyProof.Rows
def Has (K:PySem.W.Frag) (mg:Str->Option Value) (x:Str) (st:Stmt):Prop:=∃ (f:Addr) (fd:FuncData),mg x=some (.ref f)/\Fun K x x st f fd
def Callee (P:Program) (w:World) (K:PySem.W.Frag) (mg:Str->Option Value) (base:Heap) (x:Str) (k:Nat) (ps:List Str) (sp:Sp):Prop :=
 ∃ (f:Addr) (fd:FuncData),mg x=some (.ref f)/\PySem.W.keepIn K (.ref f)=true/\Binds K fd ps []/\zk8 P w K mg base (CXe P w) k f fd ps sp
section
variable {X:Cx} {k j:Nat} {ps:List Str} {sp:Sp} {E:XK} {x:Str} {p pos:Pos} {e:Expr} {es:List Expr} {t:TA}
theorem zfG (c:Callee X.prog X.w X.K X.mg X.base x k ps sp) (hr:zcZ j X.A) (hg:Gl X x) (hx:Passes (CXe X.prog X.w) X E) (ha:PA X (e :: es) t) (hj:k<=j:=by decide) (hdb:(x == ("__debug__":Str))=false:=by decide)
  (he:starEach (e :: es) X.env=(false,eval e X.env) :: starEach es X.env:=by rfl) (hpl:(backTo pos (starEach es X.env)).any (·.1)=false:=by rfl):PE X (.Call (.Name x p) (e :: es) [] pos) (zua sp [] E t):=by
 obtain ⟨f,fd,hm,hk,hb,F⟩:=c
 exact zuM F (hr.mono hj) hg hm hk hb .nil hx ha hdb he hpl
end
end L2
namespace L2
open PySem PySem.Spec PyProof.Rows
end L2
namespace L2
open PySem PySem.Spec PyProof.Rows
end L2
namespace L2
open PySem PySem.Spec PyProof.Rows
theorem zbr.upd {H:Hp} {l:Addr} {o:HO} (h:H l=none):zbr H (upd H l o):=fun b u e=>by rw [zax (zb2 e h)];exact e
end L2
namespace L2
open PySem PySem.Spec PyProof.Rows
end L2
namespace L2
open PySem PySem.Spec PyProof.Rows
end L2
namespace L2
open PySem PySem.Spec PyProof.Rows
section
variable {X:Cx} {pins:List (Addr × Obj)} {σ:List (Option V)} {H H':Hp} {s:Shared} {h':Heap}
theorem Inv.zhN {t':Nat} {fp:List Addr} (I:Inv X pins σ H s) (k:∀ b o,b ∉ fp->s.heap.get? b=some o->h'.get? b=some o) (hf:∀ b ∈ fp,znv X pins H b):Inv X pins σ H { s with heap:=h',toks:=t' }:=by
 have nit:∀ b u,H b=some u->b ∉ fp:=fun b u e z=>by
  have:=(hf b z).1
  rw [e] at this
  cases this
 have hL:X.env.locals ∉ fp:=fun z=>(hf _ z).2.1 rfl
 refine I.step (g':=s.gens) (d':=s.drawn) (ch:=fp) (fun b hb=>?_) (fun b o _ _ hc e _=>k b o hc e) (fun b o _ _ hc e _=>⟨o.slots,k b o hc e⟩) (fun _ _ _ _ n=>n)
  (fun b o hc e=>⟨o,k b o hc e⟩) (fun _ _ e=>e) (fun _ _ _ e=>e) (fun b ps e=>⟨#[],by rw [e];simp⟩) (fun m hm=>?_) (fun b u e=>?_) I.bare
 ·obtain ⟨_,h1,_,h3,h4,h5⟩:=hf b hb
  exact ⟨h3,h1,h4,h5⟩
 ·obtain ⟨o,es,ep,ho,r⟩:=hm
  exact ⟨o,es,ep,k _ o hL ho,r⟩
 ·refine (I.hok b u e).stay (fun c v hc q=>k c v ?_ q) (fun _ q=>q) fun _ _ q=>q
  rcases hc with z | z
  ·rw [z];exact nit b u e
  ·exact nit c _ z
theorem Inv.zpz {t':Nat} {fp:List Addr} {xs:List V} {us:List Value} {n:Nat} (I:Inv X pins σ H s) (k:∀ b o,b ∉ fp->s.heap.get? b=some o->h'.get? b=some o) (hf:∀ b ∈ fp,znv X pins H b) (hfp:∀ b ∈ fp,b < s.heap.objs.size)
  (ht:h'.get? s.heap.objs.size=some { cls:=.type "tuple",data:=.seq us.toArray n }) (r:Vals xs us) (hz:xs.length<=sizeLine) :
  Inv X pins σ (upd H s.heap.objs.size (.tup xs)) { s with heap:=h',toks:=t' }:=by
 have I1:Inv X pins σ (upd H s.heap.objs.size (.tup xs)) { s with heap:=s.heap.push { cls:=.type "tuple",data:=.seq us.toArray n },toks:=s.toks } :=
  I.laid (t':=s.toks) (fun b u e=>Heap.get?_push_of_some _ e) (Nat.le_refl _) ⟨hz,us,r,⟨_,Heap.get?_push_size _ rfl,rfl,_,rfl⟩⟩
 refine Inv.zhN (s:={ s with heap:=s.heap.push { cls:=.type "tuple",data:=.seq us.toArray n },toks:=s.toks }) (t':=t') (fp:=fp) I1 (fun b o hb e=>?_) fun b hb=>⟨by rw [zax (Nat.ne_of_lt (hfp b hb))];exact (hf b hb).1,(hf b hb).2⟩
 by_cases hbs:b=s.heap.objs.size
 ·subst hbs
  have e':(s.heap.push { cls:=.type "tuple",data:=.seq us.toArray n }).get? s.heap.objs.size=some o:=e
  rw [Heap.get?_push_size _ rfl] at e'
  cases e'
  exact ht
 ·refine k b o hb ?_
  have e':(s.heap.push { cls:=.type "tuple",data:=.seq us.toArray n }).get? b=some o:=e
  have lt:b < (s.heap.push { cls:=.type "tuple",data:=.seq us.toArray n }).objs.size:=Heap.lt_size e'
  rw [Heap.size_push] at lt
  have lt':b < s.heap.objs.size:=Nat.lt_of_le_of_ne (Nat.le_of_lt_succ lt) hbs
  unfold Heap.get? at e' ⊢
  unfold Heap.push at e'
  simp only at e'
  rw [Array.getElem?_push_lt lt'] at e'
  rw [Array.getElem?_eq_getElem lt']
  exact e'
end
def Itz (K:PySem.W.Frag) (a b:Addr):It :=
 ⟨fun i H=>∃ xs ys x y,SqL K H a xs/\SqL K H b ys/\xs[i]?=some x/\ys[i]?=some y,
  fun i H x H'=>∃ t u v,x=.ref t/\H t=none/\H'=upd H t (.tup [u,v])/\(∀ xs,SqL K H a xs->xs[i]?=some u)/\∀ ys,SqL K H b ys->ys[i]?=some v,
  fun i H=>∃ xs ys,SqL K H a xs/\SqL K H b ys/\(xs.length<=i\/ys.length<=i)⟩
def tnZ (z TI TO i1 i2 a b:Addr) (i:Nat) (h:Heap):Prop:=IsZip h z TI TO .none/\IsPair h TI (.ref i1) (.ref i2)/\(∃ u v,IsPair h TO u v)/\h.IsListIter i1 a i/\h.IsListIter i2 b i
theorem zrT {P:Program} {w:World} {K:PySem.W.Frag} {es:List Expr} {k:Nat} {pos:Pos} (z TI TO i1 i2 a b:Addr) (D:ZipApart z TI TO i1 i2 a b):Turn P w K (.Tuple es k pos) (Itz K a b) [z,TI,TO,i1,i2] z (tnZ z TI TO i1 i2 a b) where
 mem:=by simp
 obj:=fun i h st c hc=>by
  obtain ⟨h1,h2,⟨u,v,h3⟩,⟨o4,h4,_,d4⟩,⟨o5,h5,_,d5⟩⟩:=st
  simp only [List.mem_cons,List.not_mem_nil,or_false] at hc
  rcases hc with rfl | rfl | rfl | rfl | rfl
  ·exact ⟨_,h1,fun v z=>by cases z⟩
  ·exact ⟨_,h2,fun v z=>by cases z⟩
  ·exact ⟨_,h3,fun v z=>by cases z⟩
  ·exact ⟨_,h4,fun v z=>by rw [d4] at z;cases z⟩
  ·exact ⟨_,h5,fun v z=>by rw [d5] at z;cases z⟩
 keep:=fun i h h' st k=>by
  obtain ⟨h1,h2,⟨u,v,h3⟩,h4,h5⟩:=st
  exact ⟨k _ (by simp) _ h1,k _ (by simp) _ h2,⟨u,v,k _ (by simp) _ h3⟩,h4.at fun o e=>k _ (by simp) o e,h5.at fun o e=>k _ (by simp) o e⟩
 item:=by
  intro X hP hw hK hc i pins s σ H E I hf st hg
  subst hP hw hK
  obtain ⟨xs,ys,x,y,hqx,hqy,hx,hy⟩:=hg
  obtain ⟨itx,rvx,px,_⟩:=I.list hqx
  obtain ⟨ity,rvy,py,_⟩:=I.list hqy
  obtain ⟨ux,hux,rux⟩:=rvx.get hx
  obtain ⟨uy,huy,ruy⟩:=rvy.get hy
  obtain ⟨h1,h2,⟨u,v,h3⟩,h4,h5⟩:=id st
  have lts:∀ c ∈ [z,TI,TO,i1,i2],c < s.heap.objs.size:=fun c hc=>by
   obtain ⟨o4,e4,_⟩:=id h4
   obtain ⟨o5,e5,_⟩:=id h5
   simp only [List.mem_cons,List.not_mem_nil,or_false] at hc
   rcases hc with rfl | rfl | rfl | rfl | rfl
   ·exact Heap.lt_size h1
   ·exact Heap.lt_size h2
   ·exact Heap.lt_size h3
   ·exact Heap.lt_size e4
   ·exact Heap.lt_size e5
  refine wpAny_pyNext_zip_item D h1 h2 h3 h4 h5 px.isList py.isList (by simpa using hux) (by simpa using huy) fun h' a1 a2 a3 a4 a5 a6 hk=>?_
  refine ⟨_,rfl,wpAny_letOwnedTupleGo_zip a1 fun h'' b1 sb=>?_⟩
  have zlt:=lts z (by simp)
  have k2:∀ c o,c ∉ [z,TI,TO,i1,i2]->s.heap.get? c=some o->h''.get? c=some o:=fun c o hc e=>by
   simp only [List.mem_cons,List.not_mem_nil,or_false,not_or] at hc
   exact sb.extBut c o hc.1 (hk c o hc.1 hc.2.2.1 hc.2.2.2.1 hc.2.2.2.2 e)
  have ht:h''.get? s.heap.objs.size=some { cls:=.type "tuple",data:=.seq #[ux,uy] }:=sb.extBut _ _ (Nat.ne_of_gt zlt) a5
  refine ⟨.ref s.heap.objs.size,_,Inv.zpz (s:=s) (h':=h'') (t':=s.toks) (fp:=[z,TI,TO,i1,i2]) I (xs:=[x,y]) (us:=[ux,uy]) k2 hf lts ht (.cons rux (.cons ruy .nil)) (by rw [sizeLine_eq];show 2<=16777216;decide),rfl,
   ⟨_,x,y,rfl,I.hok.fresh (Nat.le_refl _),rfl,fun zs hz=>by rw [I.zho hz hqx];exact hx,fun zs hz=>by rw [I.zho hz hqy];exact hy⟩,?_,fun c hc=>?_⟩
  ·exact ⟨b1,sb.extBut _ _ D.TIz (hk _ _ D.TIz D.TITO D.TIi1 D.TIi2 h2),⟨_,_,sb.extBut _ _ D.TOz a2⟩,a3.extBut sb.extBut D.i1z,a4.extBut sb.extBut D.i2z⟩
  ·rw [zax (Nat.ne_of_lt (lts c hc))]
   exact (hf c hc).1
 done:=by
  intro X hP hw hK hc i pins s σ H E I hf st hg
  subst hP hw hK
  obtain ⟨xs,ys,hqx,hqy,hend⟩:=hg
  obtain ⟨itx,rvx,px,_⟩:=I.list hqx
  obtain ⟨ity,rvy,py,_⟩:=I.list hqy
  obtain ⟨h1,h2,⟨u,v,h3⟩,h4,h5⟩:=id st
  have lx:=rvx.length
  have ly:=rvy.length
  refine wpAny_pyNext_zip_end (I.ok.hd hc) D h1 h2 h3 h4 h5 px.isList py.isList ?_ fun h' hk=>⟨rfl,I.zhN (t':=s.toks) (fun c o hc e=>?_) hf⟩
  ·rcases hend with h | h
   ·exact .inl (by simp;omega)
   ·exact .inr (by simp;omega)
  ·simp only [List.mem_cons,List.not_mem_nil,or_false,not_or] at hc
   exact hk c o hc.1 hc.2.2.1 hc.2.2.2.1 hc.2.2.2.2 e
 self:=fun _ _ _ _ _ st h=>wpAny_pyIter_zip st.1 h
section
variable {X:Cx}
def zzB (K:PySem.W.Frag) (ta:TA):TI:=fun σ H R=>ta σ H fun vs H1=>∃ a b,vs=[.ref a,.ref b]/\(∃ xs,SqL K H1 a xs)/\(∃ ys,SqL K H1 b ys)/\R (Itz K a b) H1
theorem zwp {es:List Expr} {k:Nat} {p0:Pos} {a b:Expr} {ta:TA} {p pos:Pos} (hg:Gl X "zip") (hm:X.mg "zip"=none) (ha:PA X [a,b] ta) (hs:starEach [a,b] X.env=[(false,eval a X.env),(false,eval b X.env)]:=by rfl) (hs2:starEach [b] X.env=[(false,eval b X.env)]:=by rfl) :
  PI X (.Tuple es k p0) (.Call (.Name "zip" p) [a,b] [] pos) (zzB X.K ta):=by
 intro pins s σ H R I h
 refine Call_ (zjL I hg hm (by decide +kernel:bootBuiltins "zip"=some (.type "zip")) (PyProof.Rows.callWith_type1 (thn (ha pos pins s σ H _ I h) fun us s1 ⟨vs,H1,I1,r1,q1⟩=>?_) (by rw [hs,hs2]) (by rw [hs2];rfl)))
 obtain ⟨l1,l2,e,⟨xs,hx⟩,⟨ys,hy⟩,q⟩:=q1
 subst e
 cases r1 with
 | cons r rr =>
  cases rr with
  | cons r' rr =>
   cases rr
   cases r
   cases r'
   obtain ⟨itx,rvx,px,_⟩:=I1.list hx
   obtain ⟨ity,rvy,py,_⟩:=I1.list hy
   have hl1:Nat.lt l1 s1.heap.objs.size:=by obtain ⟨o,e,_⟩:=px.isList;exact Heap.lt_size e
   have hl2:Nat.lt l2 s1.heap.objs.size:=by obtain ⟨o,e,_⟩:=py.isList;exact Heap.lt_size e
   refine call_zip_2 px.isList py.isList fun h' g1 g2 g3 g4 g5 g6 hk=>?_
   refine wpAny_pyIter_zip g1 ⟨_,[s1.heap.objs.size + 4,s1.heap.objs.size + 2,s1.heap.objs.size + 3,s1.heap.objs.size,s1.heap.objs.size + 1],_,_,H1,rfl,I1.kept (t':=s1.toks) hk,zrT _ _ _ _ _ l1 l2 ?_,⟨g1,g2,⟨_,_,g3⟩,g4,g5⟩,fun c hc=>?_,q⟩
   ·have q1:∀ n:Nat,l1 ≠ s1.heap.objs.size + n:=fun n=>Nat.ne_of_lt (Nat.lt_of_lt_of_le hl1 (Nat.le_add_right _ _))
    have q2:∀ n:Nat,l2 ≠ s1.heap.objs.size + n:=fun n=>Nat.ne_of_lt (Nat.lt_of_lt_of_le hl2 (Nat.le_add_right _ _))
    constructor <;> first | exact q1 _ | exact q2 _ | exact q1 0 | exact q2 0 | exact Nat.ne_of_lt (by omega) | exact Nat.ne_of_gt (by omega)
   ·have hc':s1.heap.objs.size<=c:=by
     simp only [List.mem_cons,List.not_mem_nil,or_false] at hc
     rcases hc with rfl | rfl | rfl | rfl | rfl <;> first | exact Nat.le_add_right _ _ | exact Nat.le_refl _
    exact I1.zsN hc' (I1.hok.fresh hc')
end
def Ite (K:PySem.W.Frag) (a:Addr):It :=
 ⟨fun i H=>∃ xs x,SqL K H a xs/\xs[i]?=some x,fun i H x H'=>∃ t v,x=.ref t/\H t=none/\H'=upd H t (.tup [.int i,v])/\∀ xs,SqL K H a xs->xs[i]?=some v,fun i H=>∃ xs,SqL K H a xs/\xs.length<=i⟩
theorem zpB {P:Program} {w:World} {K:PySem.W.Frag} {es:List Expr} {k:Nat} {pos:Pos} (e it a:Addr) (hne:e ≠ it):Turn P w K (.Tuple es k pos) (Ite K a) [e,it] e (fun i h=>(∃ old,IsEnum h e it i old)/\h.IsListIter it a i) where
 mem:=by simp
 obj:=fun i h st c hc=>by
  obtain ⟨⟨old,h1⟩,⟨o4,h4,_,d4⟩⟩:=st
  simp only [List.mem_cons,List.not_mem_nil,or_false] at hc
  rcases hc with rfl | rfl
  ·exact ⟨_,h1,fun v z=>by cases z⟩
  ·exact ⟨_,h4,fun v z=>by rw [d4] at z;cases z⟩
 keep:=fun i h h' st k=>by
  obtain ⟨⟨old,h1⟩,h4⟩:=st
  exact ⟨⟨old,k _ (by simp) _ h1⟩,h4.at fun o e=>k _ (by simp) o e⟩
 item:=by
  intro X hP hw hK hc i pins s σ H E I hf st hg
  subst hP hw hK
  obtain ⟨xs,x,hqx,hx⟩:=hg
  obtain ⟨itx,rvx,px,_⟩:=I.list hqx
  obtain ⟨ux,hux,rux⟩:=rvx.get hx
  obtain ⟨⟨old,h1⟩,h4⟩:=id st
  have lts:∀ c ∈ [e,it],c < s.heap.objs.size:=fun c hc=>by
   obtain ⟨o4,e4,_⟩:=id h4
   simp only [List.mem_cons,List.not_mem_nil,or_false] at hc
   rcases hc with rfl | rfl
   ·exact Heap.lt_size h1
   ·exact Heap.lt_size e4
  refine wpAny_pyNext_enum_item h1 h4 px.isList (by simpa using hux) hne fun h' a1 a3 a5 a6 hk=>?_
  refine ⟨_,rfl,wpAny_letOwnedTupleGo_enum a1 fun h'' b1 sb=>?_⟩
  have zlt:=lts e (by simp)
  have k2:∀ c o,c ∉ [e,it]->s.heap.get? c=some o->h''.get? c=some o:=fun c o hc g=>by
   simp only [List.mem_cons,List.not_mem_nil,or_false,not_or] at hc
   exact sb.extBut c o hc.1 (hk c o hc.1 hc.2 g)
  have ht:h''.get? s.heap.objs.size=some { cls:=.type "tuple",data:=.seq #[.int i s.toks,ux] }:=sb.extBut _ _ (Nat.ne_of_gt zlt) a5
  refine ⟨.ref s.heap.objs.size,_,Inv.zpz (s:=s) (h':=h'') (t':=s.toks + 1) (fp:=[e,it]) I (xs:=[.int i,x]) (us:=[.int i s.toks,ux]) k2 hf lts ht (.cons ⟨_,rfl⟩ (.cons rux .nil)) (by rw [sizeLine_eq];show 2<=16777216;decide),rfl,
   ⟨_,x,rfl,I.hok.fresh (Nat.le_refl _),rfl,fun zs hz=>by rw [I.zho hz hqx];exact hx⟩,?_,fun c hc=>?_⟩
  ·exact ⟨⟨_,b1⟩,a3.extBut sb.extBut (Ne.symm hne)⟩
  ·rw [zax (Nat.ne_of_lt (lts c hc))]
   exact (hf c hc).1
 done:=by
  intro X hP hw hK hc i pins s σ H E I hf st hg
  subst hP hw hK
  obtain ⟨xs,hqx,hend⟩:=hg
  obtain ⟨itx,rvx,px,_⟩:=I.list hqx
  obtain ⟨⟨old,h1⟩,h4⟩:=id st
  have lx:=rvx.length
  refine wpAny_pyNext_enum_end (I.ok.hd hc) h1 h4 px.isList (by simp;omega) fun h' hk=>⟨rfl,I.zhN (t':=s.toks) (fun c o hc g=>?_) hf⟩
  simp only [List.mem_cons,List.not_mem_nil,or_false,not_or] at hc
  exact hk c o hc.2 g
 self:=fun _ _ _ _ _ st h=>by
  obtain ⟨⟨old,h1⟩,_⟩:=st
  exact wpAny_pyIter_enum h1 h
section
variable {X:Cx}
def zyv (K:PySem.W.Frag) (ta:TA):TI:=fun σ H R=>ta σ H fun vs H1=>∃ a,vs=[.ref a]/\(∃ xs,SqL K H1 a xs)/\R (Ite K a) H1
theorem zuI {es:List Expr} {k:Nat} {p0:Pos} {a:Expr} {ta:TA} {p pos:Pos} (hg:Gl X "enumerate") (hm:X.mg "enumerate"=none) (ha:PA X [a] ta) (hs:starEach [a] X.env=[(false,eval a X.env)]:=by rfl) :
  PI X (.Tuple es k p0) (.Call (.Name "enumerate" p) [a] [] pos) (zyv X.K ta):=by
 intro pins s σ H R I h
 refine Call_ (zjL I hg hm (by decide +kernel:bootBuiltins "enumerate"=some (.type "enumerate")) (PyProof.Rows.callWith_type1 (thn (ha pos pins s σ H _ I h) fun us s1 ⟨vs,H1,I1,r1,q1⟩=>?_) hs rfl))
 obtain ⟨l1,e,⟨xs,hx⟩,q⟩:=q1
 subst e
 cases r1 with
 | cons r rr =>
  cases rr
  cases r
  obtain ⟨itx,rvx,px,_⟩:=I1.list hx
  refine call_enumerate_list px.isList fun h' g1 g4 g6 hk=>?_
  refine wpAny_pyIter_enum g1 ⟨_,[s1.heap.objs.size + 1,s1.heap.objs.size],_,_,H1,rfl,I1.kept (t':=s1.toks) hk,zpB _ _ l1 (Nat.succ_ne_self _),⟨⟨_,g1⟩,g4⟩,fun c hc=>?_,q⟩
  have hc':s1.heap.objs.size<=c:=by
   simp only [List.mem_cons,List.not_mem_nil,or_false] at hc
   rcases hc with rfl | rfl <;> first | exact Nat.le_add_right _ _ | exact Nat.le_refl _
  exact I1.zsN hc' (I1.hok.fresh hc')
theorem zs6 {bs:List Bool}:∀ {us:List Value},Vals (bs.map V.bl) us->us=bs.map Value.bool:=by
 induction bs with
 | nil=>intro us h;cases h;rfl
 | cons b r ih =>
  intro us h
  cases h with
  | cons h1 h2 =>
   have:=ih h2
   cases h1
   rw [this]
   rfl
theorem zs3 (hc:X.calm=true):zgJ X (.builtin "all") (fun xs H Q=>∃ (a:Addr) (bs:List Bool),xs=[.ref a]/\SqL X.K H a (bs.map V.bl)/\Q (.bl (bs.all id)) H):=by
 intro pins s σ H xs us Q I r h
 obtain ⟨a,bs,rfl,hq,q⟩:=h
 obtain ⟨u,rfl,rx⟩:=vals1 r
 cases rx
 obtain ⟨its,rv,p,hz⟩:=I.list hq
 have e:=zs6 rv
 subst e
 have hne:a ≠ s.heap.objs.size:=by
  obtain ⟨o,eo,_⟩:=p.isList
  exact Nat.ne_of_lt (Heap.lt_size eo)
 have W:=Walks.list (prog:=X.prog) (w:=X.w) (A:=X.A.in1) (show X.A.in1.handled=none from I.ok.hd hc) s.heap.objs.size a hne (bs.map Value.bool).toArray
 refine call_all_walk (wpAny_pyIter_list p.isList ⟨_,_,_,_,_,_,fun i=>bs.getD i true,rfl,W,⟨⟨_,Heap.get?_push_size _ rfl,rfl,rfl⟩,p.isList.push _⟩,?_,fun h' tk hk=>⟨.bl (bs.all id),H,?_,?_,q⟩⟩)
 ·intro i v s' Q' E' hP hQ
  have hP':(bs.map Value.bool)[i]?=some v:=by simpa using hP
  rw [List.getElem?_map] at hP'
  cases e:bs[i]? with
  | none=>rw [e] at hP';cases hP'
  | some b =>
   rw [e] at hP'
   cases hP'
   have:bs.getD i true=b:=by simp [List.getD,e]
   have hQ2:Q' (bs.getD i true) s':=hQ
   rw [this] at hQ2
   exact wpAny_pure hQ2
 ·refine Inv.zhN (s:={ s with heap:=s.heap.push { cls:=.type "list_iterator",data:=.fields #[.ref a,.int 0 0] },toks:=s.toks }) (t':=tk) (fp:=[s.heap.objs.size]) (I.kept (t':=s.toks) fun b o e=>Heap.get?_push_of_some _ e) (fun b o hb e=>hk b o hb e) fun b hb=>?_
  have e:b=s.heap.objs.size:=by simpa using hb
  subst e
  exact I.zsN (Nat.le_refl _) (I.hok.fresh (Nat.le_refl _))
 ·show Value.bool _=Value.bool _
  congr 1
  simp only [List.size_toArray,List.length_map]
  rw [Bool.eq_iff_iff,List.all_eq_true,List.all_eq_true]
  constructor
  ·intro h b hb
   obtain ⟨i,hi,e⟩:=List.getElem_of_mem hb
   have:=h i (List.mem_range.mpr hi)
   simpa [List.getD,hi,e] using this
  ·intro h i hi
   have hi':=List.mem_range.mp hi
   have:=h bs[i] (List.getElem_mem hi')
   simpa [List.getD,hi'] using this
end
end L2
namespace L2
open PySem PySem.Spec PyProof.Rows
theorem ziA:∀ (names:List (Str × NameKind)) (n:Nat) (acc:List (Str × Addr)),cellsFrom n names acc=cellsFrom n names [] ++ acc
 | [],n,acc=>rfl
 | (x,k) :: r,n,acc=>by
  unfold cellsFrom
  split
  ·rw [ziA r (n + 1) ((x,n) :: acc),ziA r (n + 1) [(x,n)]]
   simp
  ·exact ziA r n acc
theorem zkT:∀ (names:List (Str × NameKind)) (n:Nat) (p:Str × Addr),p ∈ cellsFrom n names []->(p.1,NameKind.cell) ∈ names
 | [],n,p,h=>nomatch h
 | (x,k) :: r,n,p,h=>by
  unfold cellsFrom at h
  split at h
  ·rename_i hk
   rw [ziA] at h
   rcases List.mem_append.mp h with h | h
   ·exact List.mem_cons_of_mem _ (zkT r _ p h)
   ·have e:p=(x,n):=by simpa using h
    have hk':k=.cell:=by simpa using hk
    subst e hk'
    exact List.mem_cons_self ..
  ·exact List.mem_cons_of_mem _ (zkT r _ p h)
theorem zri {x:Str}:∀ (names:List (Str × NameKind)) (n:Nat),(x,NameKind.cell) ∈ names->∃ c,(x,c) ∈ cellsFrom n names []
 | (y,k) :: r,n,h=>by
  unfold cellsFrom
  rcases List.mem_cons.mp h with e | h
  ·cases e
   rw [if_pos (by rfl),ziA]
   exact ⟨n,List.mem_append_right _ (List.mem_singleton.mpr rfl)⟩
  ·split
   ·obtain ⟨c,hc⟩:=zri r (n + 1) h
    exact ⟨c,by rw [ziA];exact List.mem_append_left _ hc⟩
   ·exact zri r n h
theorem zjI {α:Type} {x:Str} {c:α}:∀ {l m:List (Str × α)},(l ++ m).lookup x=some c->l.lookup x=some c\/(l.lookup x=none/\m.lookup x=some c)
 | [],m,h=>.inr ⟨rfl,h⟩
 | (y,b) :: r,m,h=>by
  rw [List.cons_append,List.lookup_cons] at h
  rw [List.lookup_cons]
  split at h
  ·exact .inl h
  ·exact zjI h
theorem zeU {α:Type} {x:Str} {c:α}:∀ {l m:List (Str × α)},m.lookup x=some c->∃ d,(l ++ m).lookup x=some d
 | [],m,h=>⟨c,h⟩
 | (y,b) :: r,m,h=>by
  rw [List.cons_append,List.lookup_cons]
  split
  ·exact ⟨_,rfl⟩
  ·exact zeU h
theorem zd1 {α:Type} {x:Str}:∀ {l m:List (Str × α)},l.lookup x=none->(l ++ m).lookup x=m.lookup x
 | [],m,h=>rfl
 | (y,b) :: r,m,h=>by
  rw [List.lookup_cons] at h
  rw [List.cons_append,List.lookup_cons]
  split at h
  ·cases h
  ·exact zd1 h
theorem zeT {α:Type} {x:Str}:∀ {l:List (Str × α)},(∀ p ∈ l,p.1 ≠ x)->l.lookup x=none
 | [],_=>rfl
 | (y,b) :: r,h=>by
  rw [List.lookup_cons]
  have:(x == y)=false:=by
   have:=h (y,b) (List.mem_cons_self ..)
   simpa using fun e=>this e.symm
  rw [this]
  exact zeT fun p hp=>h p (List.mem_cons_of_mem _ hp)
def zlu (C:Addr) (scope:Scope):List (Str × Addr):=cellsFrom (C + 1) scope.names []
def zap (X:Cx) (M:List Str) (scope:Scope) (C:Addr) (s₃:Shared) (H₃:Hp) (fp:List Addr):Cx :=
 { X with N:=M,s₀:=s₃,H₀:=H₃,env:=compEnvC scope (zlu C scope ++ ziz X.env.cells scope.names []) C X.env,outer:=X.stack,stack:=X.stack,ex:=fp,fn:=fun x=>scope.names.contains (x,NameKind.cell),pn:=[],xe:=fun _ _=>False }
structure zeF (X:Cx) (scope:Scope) (cap:List Str):Prop where
 kind:scope.kind=.function
 cell:∀ y ∈ scope.names,y.2=.free->X.env.kindOf y.1=some .cell
 loc:∀ y ∈ scope.names,y.2=.local->scope.names.lookup y.1=some .local
 cap:∀ x ∈ cap,scope.names.lookup x ≠ some .local/\(x,NameKind.cell) ∉ scope.names
 dis:∀ y ∈ scope.names,y.2=.free->(y.1,NameKind.cell) ∉ scope.names
theorem zlw {C:Addr} {m:Str->Option Value}:∀ (names:List (Str × NameKind)) {h:Heap},h.Ns C m->(pushCells h names).Ns C m:=fun names h hn=>by
 obtain ⟨o,es,ep,ho,r⟩:=hn
 exact ⟨o,es,ep,pushCells_keeps names h C o ho,r⟩
section
variable {X:Cx} {pins:List (Addr × Obj)} {σ:St} {H:Hp} {s:Shared}
theorem zh9 {scope:Scope} {L:List Str} {ix:List Nat} {h':Heap} {fp:List Addr} {t':Nat} (S:zeF X scope (zeM X ix)) (I:Inv X pins σ H s) (hf:∀ b ∈ fp,znv X pins H b) (hfp:∀ b ∈ fp,b < s.heap.objs.size)
  (hix:∀ i ∈ ix,i < X.N.length) (hn:h'.Ns s.heap.objs.size fun _=>none) (hk:∀ b u,s.heap.get? b=some u->h'.get? b=some u) (hcs:CellsOk h' (s.heap.objs.size + 1) (zlu s.heap.objs.size scope)) :
  Inv (zap X (L ++ zeM X ix) scope s.heap.objs.size s H fp) [] (zeL L.length ix σ) H { s with heap:=h',toks:=t' }:=by
 have cl:∀ x c,(ziz X.env.cells scope.names []).lookup x=some c->X.env.cells.lookup x=some c:=fun x c e =>
  zhv (acc:=[]) (fun p hp=>nomatch hp) (x,c) (PySem.mem_of_lookup e)
 have old:∀ x c,X.env.cells.lookup x=some c->c < s.heap.objs.size:=fun x c e=>by
  obtain ⟨v,q⟩:=I.cell x c e
  exact q.lt
 have own:∀ x c,(zlu s.heap.objs.size scope).lookup x=some c->h'.IsCell c none/\s.heap.objs.size + 1<=c/\(x,NameKind.cell) ∈ scope.names:=fun x c e=>by
  have m:=PySem.mem_of_lookup e
  exact ⟨(hcs.empty x c m).1,(hcs.empty x c m).2,zkT _ _ _ m⟩
 have al:∀ x c,(zlu s.heap.objs.size scope ++ ziz X.env.cells scope.names []).lookup x=some c->(zlu s.heap.objs.size scope).lookup x=some c\/((zlu s.heap.objs.size scope).lookup x=none/\X.env.cells.lookup x=some c):=fun x c e=>by
  rcases zjI e with h | ⟨h1,h2⟩
  ·exact .inl h
  ·exact .inr ⟨h1,cl x c h2⟩
 have ownHas:∀ x,(x,NameKind.cell) ∈ scope.names->∃ c,(zlu s.heap.objs.size scope).lookup x=some c:=fun x hx=>by
  obtain ⟨c,hc⟩:=zri scope.names (s.heap.objs.size + 1) hx
  exact zbL hc
 refine ⟨⟨I.ok.mod,S.kind,I.ok.glob,I.ok.blt,Nat.le_refl _,fun x y c e1 e2=>?_,fun x hx=>?_,fun x c e1 e2=>?_,I.ok.hd,I.ok.frames,.inl rfl,fun b hb=>⟨Nat.ne_of_lt (hfp b hb),fun x c e=>?_⟩,
  fun b o e=>I.bs b o e,Nat.le_trans I.ok.bsz I.sz,fun b o e hb=>?_,fun b hb hz=>?_,I.stack,I.zpJ,I.ok.tree,I.ok.sk⟩,
  rfl,I.bare,Un.kept hk,⟨_,hn,fun i x v h1 h2 h3=>?_⟩,fun x c e=>?_,I.hok.fresh (Nat.le_refl _),fun x c e=>?_,fun p hp=>absurd (show p ∈ ([]:List (Addr × Obj)) from hp) (by simp),I.hok.kept hk,?_⟩
 ·rcases al x c e1 with a1 | ⟨_,a1⟩ <;> rcases al y c e2 with a2 | ⟨_,a2⟩
  ·exact name_of_addr hcs.apart (PySem.mem_of_lookup a1) (PySem.mem_of_lookup a2)
  ·exact absurd (old y c a2) (Nat.not_lt.mpr (Nat.le_of_succ_le (own x c a1).2.1))
  ·exact absurd (old x c a1) (Nat.not_lt.mpr (Nat.le_of_succ_le (own y c a2).2.1))
  ·exact I.ok.inj x y c a1 a2
 ·have hx':(relabel scope X.env).names.lookup x=some .cell\/(relabel scope X.env).names.lookup x=some .free:=hx
  have fr:(x,NameKind.cell) ∈ scope.names\/(x,NameKind.free) ∈ scope.names:=by
   rcases hx' with q | q
   ·obtain ⟨k0,_,h2,h3⟩:=zbc (scope:=scope) q
    rcases h3 with rfl | ⟨rfl,_⟩
    ·exact .inl h2
    ·exact .inr h2
   ·obtain ⟨k0,_,h2,h3⟩:=zbc (scope:=scope) q
    rcases h3 with rfl | ⟨_,z⟩
    ·exact .inr h2
    ·cases z
  rcases fr with fr | fr
  ·obtain ⟨c,hc⟩:=ownHas x fr
   show ∃ c,(zlu s.heap.objs.size scope ++ ziz X.env.cells scope.names []).lookup x=some c
   exact zbL (List.mem_append_left _ (PySem.mem_of_lookup hc))
  ·obtain ⟨c,hc⟩:=I.ok.has x (.inl (S.cell _ fr rfl))
   obtain ⟨d,hd⟩:=zbL (zfT (names:=scope.names) (acc:=[]) hc fr)
   exact zeU hd
 ·have hx:(x,NameKind.cell) ∈ scope.names:=by
   have e1':scope.names.contains (x,NameKind.cell)=true:=e1
   simpa using e1'
  rcases al x c e2 with a1 | ⟨a1,_⟩
  ·exact Nat.le_of_succ_le (own x c a1).2.1
  ·obtain ⟨d,hd⟩:=ownHas x hx
   rw [a1] at hd
   cases hd
 ·rcases al x c e with a1 | ⟨_,a1⟩
  ·exact Nat.ne_of_gt (Nat.lt_of_lt_of_le (hfp b hb) (Nat.le_of_succ_le (own x c a1).2.1))
  ·exact (hf b hb).2.2.2.2.1 x c a1
 ·rcases (hf b hb).2.2.2.1 with z | z
  ·exact I.ok.noex b o e z
  ·exact absurd (Heap.lt_size (I.ok.bs b o e).1) (Nat.not_lt.mpr z)
 ·rcases List.mem_cons.mp (I.zpI b hz) with z | z
  ·exact (hf b hb).2.1 z
  ·exact (hf b hb).2.2.1 z
 ·-- a name that is drawn in
  have hi:L.length<=i:=by
   by_cases hi:i < L.length
   ·unfold zeL at h2
    rw [List.getElem?_append_left (by simpa using hi),List.getElem?_replicate,if_pos hi] at h2
    cases h2
   ·omega
  unfold zeL at h2
  rw [List.getElem?_append_right (by simpa using hi),List.length_replicate,List.getElem?_map] at h2
  have h1':(L ++ zeM X ix)[i]?=some x:=h1
  rw [List.getElem?_append_right hi] at h1'
  unfold zeM at h1'
  rw [List.getElem?_map] at h1'
  cases ej:ix[i - L.length]? with
  | none=>rw [ej] at h1';cases h1'
  | some j =>
   rw [ej] at h1' h2
   have hj:j < X.N.length:=hix j (List.mem_of_getElem? ej)
   have e1:X.N[j]?=some x:=by
    have:X.N.getD j ""=x:=Option.some.inj h1'
    rw [<- this]
    simp [List.getD,hj]
   have e2:σ[j]?=some (some v):=by
    have z:(σ[j]?).getD none=some v:=Option.some.inj h2
    cases q:σ[j]? with
    | none=>rw [q] at z;cases z
    | some o=>rw [q] at z;exact congrArg some z
   have hx:x ∈ zeM X ix:=by
    unfold zeM
    refine List.mem_map.mpr ⟨j,List.mem_of_getElem? ej,?_⟩
    exact Option.some.inj h1'
   have h3':(relabel scope X.env).names.lookup x=some .local\/(relabel scope X.env).names.lookup x=some .cell\/(relabel scope X.env).names.lookup x=some .free:=h3
   have fr:(x,NameKind.free) ∈ scope.names:=by
    rcases h3' with q | q | q
    ·obtain ⟨k0,g1,g2,g3⟩:=zbc (scope:=scope) q
     rcases g3 with rfl | ⟨_,z⟩
     ·exact absurd g1 (S.cap x hx).1
     ·cases z
    ·obtain ⟨k0,_,g2,g3⟩:=zbc (scope:=scope) q
     rcases g3 with rfl | ⟨rfl,_⟩
     ·exact absurd g2 (S.cap x hx).2
     ·exact g2
    ·obtain ⟨k0,_,g2,g3⟩:=zbc (scope:=scope) q
     rcases g3 with rfl | ⟨_,z⟩
     ·exact g2
     ·cases z
   have hc:X.env.kindOf x=some .cell:=S.cell _ fr rfl
   obtain ⟨m,_,hl⟩:=I.loc
   obtain ⟨u,ru,lk⟩:=hl j x v e1 e2 (.inr (.inl hc))
   refine ⟨u,ru,?_⟩
   rcases lk with ⟨z,_⟩ | ⟨_,c,ec,ic⟩
   ·rw [hc] at z;cases z
   ·have k3:(relabel scope X.env).names.lookup x=some .cell\/(relabel scope X.env).names.lookup x=some .free:=by
     rcases h3' with q | q | q
     ·obtain ⟨k0,g1,g2,g3⟩:=zbc (scope:=scope) q
      rcases g3 with rfl | ⟨_,z⟩
      ·exact absurd g1 (S.cap x hx).1
      ·cases z
     ·exact .inl q
     ·exact .inr q
    obtain ⟨c',ec'⟩:=zbL (zfT (names:=scope.names) (acc:=[]) ec fr)
    have e3:=cl x c' ec'
    rw [ec] at e3
    cases e3
    obtain ⟨oc,g1,g2⟩:=ic
    have no:(zlu s.heap.objs.size scope).lookup x=none:=zeT fun p hp z=>(S.cap x hx).2 (by rw [<- z];exact zkT _ _ _ hp)
    exact .inr ⟨k3,c,(zd1 no).trans ec',oc,hk _ _ g1,g2⟩
 ·rcases al x c e with a1 | ⟨_,a1⟩
  ·exact ⟨none,(own x c a1).1⟩
  ·obtain ⟨v,oc,g1,g2⟩:=I.cell x c a1
   exact ⟨v,oc,hk _ _ g1,g2⟩
 ·rcases al x c e with a1 | ⟨_,a1⟩
  ·exact I.hok.fresh (Nat.le_of_succ_le (own x c a1).2.1)
  ·exact I.freeC x c a1
 ·show (zeL L.length ix σ).length=(L ++ zeM X ix).length
  unfold zeL zeM
  simp
end
theorem zmN {M:Model} {A:Around} {E:Value->Shared->Prop} {s:Shared} {scope:Scope} {globals:Addr} {cl:List (Str × Addr)} {qual:Str} {outer:Env} {Q:Env->Shared->Prop}
  (hQ:∀ h',h'.Ns s.heap.objs.size (fun _=>none)->(∀ b u,s.heap.get? b=some u->h'.get? b=some u)->CellsOk h' (s.heap.objs.size + 1) (zlu s.heap.objs.size scope) ->
   Q { scope:=scope,locals:=s.heap.objs.size,globals:=globals,cells:=zlu s.heap.objs.size scope ++ cl,qual:=qual,func:=none,code:=outer.code,frame:=outer.frame,builtins:=outer.builtins } { s with heap:=h' }) :
  wpAny M A (newFunctionEnv scope globals cl [] qual none .none (some outer)) Q E s:=by
 simp only [newFunctionEnv,Option.isSome_some,if_true]
 refine wpAny_bind (wpAny_alloc ?_)
 refine wpAny_bind (wpAny_layCells _ (fun name kind cells=>by cases hkc:kind == NameKind.cell <;> simp [hkc]) _ _ _ _ ?_)
 have ok:=cellsFrom_ok scope.names (s.heap.push { cls:=.type "dict",data:=.dict #[] }) (s.heap.objs.size + 1) [] ⟨fun _ _ hm=>(nomatch hm),List.Pairwise.nil⟩ (by rw [Heap.size_push];exact Nat.le_refl _)
 rw [Heap.size_push] at ok
 rw [show ({ s with heap:=s.heap.push { cls:=.type "dict",data:=.dict #[] } }:Shared).heap.objs.size=s.heap.objs.size + 1 from Heap.size_push ..,ziA]
 refine wpAny_bind ?_
 rw [List.forIn_nil]
 refine wpAny_pure (wpAny_pure ?_)
 exact hQ _ (zlw _ (Heap.Ns.new ..)) (fun b u e=>pushCells_keeps _ _ _ _ (Heap.get?_push_of_some _ e)) ok
section
variable {X:Cx}
theorem zsm {elt tg iter:Expr} {ifs:List Expr} {scope:Scope} {pos:Pos} {L:List Str} {ix:List Nat} {wi:TI} {g:TG} {tc:TT} {te:TE} (hc:X.calm=true) (S:zeF X scope (zeM X ix)) (hix:∀ i ∈ ix,i < X.N.length) (hi:PI X tg iter wi)
  (hg:∀ C s₃ H₃ fp,PG (zap X (L ++ zeM X ix) scope C s₃ H₃ fp) tg g) (hgo:znu L.length g)
  (ht:∀ C s₃ H₃ fp,PTs (zap X (L ++ zeM X ix) scope C s₃ H₃ fp) ifs tc) (he:∀ C s₃ H₃ fp,PE (zap X (L ++ zeM X ix) scope C s₃ H₃ fp) elt te)
  (hs:∀ x,foldedSetIterable iter X.env x=pure x:=by intro _;rfl) :
  PE X (.ListComp elt [⟨tg,iter,ifs,0⟩] scope pos) (zoL L.length ix wi g tc te):=by
 intro pins s σ H Q I h
 rw [eval_ListComp]
 refine wpAny_comprehension_free (use:=none) rfl hs (zdm fun y hy e=>I.ok.has y.1 (.inl (S.cell y hy e))) S.kind S.loc (thn (hi pins s σ H _ I h) fun xv s1 h1=>thn h1 fun itv s2 h2=>?_)
 obtain ⟨it,fp,tn,J,H2,rfl,I2,T,st2,f2,q⟩:=h2
 have nD:H2 s2.heap.objs.size=none:=I2.hok.fresh (Nat.le_refl _)
 obtain ⟨W,⟨m0,w0⟩,turn⟩:=q _ nD
 generalize hD:s2.heap.objs.size=D at nD w0 turn
 have fD:∀ b ∈ fp,b < D:=fun b hb=>by
  obtain ⟨o,e,_⟩:=T.obj _ _ st2 b hb
  rw [<- hD]
  exact Heap.lt_size e
 have I3:Inv X pins σ (upd H2 D (.lst [])) { s2 with heap:=s2.heap.push { cls:=.type "list",data:=.seq ([]:List Value).toArray },toks:=s2.toks }:=by
  rw [<- hD]
  exact I2.laid (t':=s2.toks) (fun b u e=>Heap.get?_push_of_some _ e) (Nat.le_refl _) ⟨by simp,[],0,.nil,Heap.get?_push_size _ rfl⟩
 refine wpAny_newObj_type (zmN (fun h₁ hns₁ hsb₁ hcs₁=>?_)) (by show 0<=sizeLine;exact Nat.zero_le _)
 rw [hD]
 have st3:tn 0 (s2.heap.push { cls:=.type "list",data:=.seq ([]:List Value).toArray }):=T.keep _ _ _ st2 fun b hb o e=>Heap.get?_push_of_some _ e
 generalize hp3:s2.heap.push { cls:=.type "list",data:=.seq ([]:List Value).toArray }=h3 at I3 st3 hns₁ hsb₁ hcs₁
 dsimp only at hns₁ hsb₁ hcs₁ ⊢
 have sz3:h3.objs.size=D + 1:=by rw [<- hp3,Heap.size_push,hD]
 have old:∀ b u,h3.get? b=some u->h₁.get? b=some u:=fun b u e=>hsb₁ b u e
 have f3:∀ b ∈ fp,znv X pins (upd H2 D (.lst [])) b:=fun b hb=>⟨by rw [zax (Nat.ne_of_lt (fD b hb))];exact (f2 b hb).1,(f2 b hb).2⟩
 have I4:=zh9 (L:=L) (ix:=ix) (t':=s2.toks) S I3 f3 (fun b hb=>by show b < h3.objs.size;rw [sz3];exact Nat.lt_succ_of_lt (fD b hb)) hix (h':=h₁) hns₁ old hcs₁
 have st4:tn 0 h₁:=T.keep _ _ _ st3 fun b hb o e=>old b o e
 generalize hC:(zap X (L ++ zeM X ix) scope h3.objs.size { s2 with heap:=h3,toks:=s2.toks } (upd H2 D (.lst [])) fp)=Y at I4
 have eEnv:Y.env=compEnvC scope (zlu h3.objs.size scope ++ ziz X.env.cells scope.names []) h3.objs.size X.env:=by rw [<- hC];rfl
 have hcY:Y.calm=true:=by rw [<- hC];exact hc
 have xeY:Y.xe=fun _ _=>False:=by rw [<- hC];rfl
 have eP:Y.prog=X.prog:=by rw [<- hC];rfl
 have eW:Y.w=X.w:=by rw [<- hC];rfl
 have eK:Y.K=X.K:=by rw [<- hC];rfl
 have eA:Y.A=X.A:=by rw [<- hC];rfl
 have gY:PG Y tg g:=by rw [<- hC];exact hg _ _ _ _
 have tY:PTs Y ifs tc:=by rw [<- hC];exact ht _ _ _ _
 have pY:PE Y elt te:=by rw [<- hC];exact he _ _ _ _
 have stat:∀ {H':Hp},(∀ b ∈ fp,H' b=none)->∀ b ∈ fp,znv Y [] H' b:=fun {H'} hn b hb=>by
  have z1:b ∈ Y.ex:=by rw [<- hC];exact hb
  have zp:Y.pn=[]:=by rw [<- hC];rfl
  refine ⟨hn b hb,(I4.ok.exf b z1).1,I4.ok.exfs b z1,.inl z1,(I4.ok.exf b z1).2,fun p hp=>?_⟩
  rw [zp] at hp
  exact absurd hp (by simp)
 have fin:∀ {H':Hp} {s':Shared},Inv Y [] (zeL L.length ix σ) H' s'->Q (.ref D) H'->compPost (model X.prog X.w) X.A X.xe none (EP X pins σ Q) (.ref D) h3.objs.size (.ok .next) s':=by
  intro H' s' J' qe
  obtain ⟨m,hm,_⟩:=J'.loc
  rw [eEnv] at hm
  refine ⟨m,hm,fun h' sb=>⟨.ref D,H',?_,rfl,qe⟩⟩
  have hfr:H' h3.objs.size=none:=by
   have:=J'.free
   rw [eEnv] at this
   exact this
  have neC:∀ b u,H' b=some u->b ≠ h3.objs.size:=fun b u e z=>by rw [z,hfr] at e;cases e
  have base:Un (frs X.stack) fp (upd H2 D (.lst [])) H' h3 s'.heap:=by
   have:=J'.base
   rw [<- hC] at this
   exact this
  have to':∀ b o,b ≠ h3.objs.size->s'.heap.get? b=some o->h'.get? b=some o:=fun b o hb e=>sb.extBut b o hb e
  have lt3:∀ b o,h3.get? b=some o->b ≠ h3.objs.size:=fun b o e=>Nat.ne_of_lt (Heap.lt_size e)
  have un:Un (frs X.stack) fp (upd H2 D (.lst [])) H' h3 h' :=
   ⟨fun b o e n hb hx=>to' b o (lt3 b o e) (base.keep b o e n hb hx),
    fun b o e n hb hx=>by
    obtain ⟨sl,z⟩:=base.slot b o e n hb hx
    exact ⟨sl,to' _ _ (lt3 b o e) z⟩,
    base.free,
    fun b o e hx=>by
    obtain ⟨o',z⟩:=base.there b o e hx
    exact ⟨o',to' _ _ (lt3 b o e) z⟩,
    base.tups,base.frzs,base.tbls⟩
  have hok:HOk X.prog X.w H' h':=fun b u e=>by
   have z:=J'.hok b u e
   rw [eP,eW] at z
   refine z.stay (fun c v hcv qv=>to' c v ?_ qv) (fun _ qq=>qq) fun _ _ qq=>qq
   rcases hcv with zz | zz
   ·rw [zz];exact neC b u e
   ·exact neC c _ zz
  refine I3.call' (s':={ s' with heap:=h' }) (ch:=fp) ?_ un hok J'.bare fun b hb=>?_
  ·have:=J'.os
   rw [<- hC] at this
   exact this
  ·obtain ⟨_,g1,g2,g3,g4,g5⟩:=f2 b hb
   exact ⟨g3,g1,g4,g5⟩
 have key:∀ s5:Shared,s5={ s2 with heap:=h₁,toks:=s2.toks } ->
   codeAny (model X.prog X.w) X.A (.compLoop (.ListComp elt [⟨tg,iter,ifs,0⟩] scope pos) 0 (.ref it) (.ref D) (compEnvC scope (zlu h3.objs.size scope ++ ziz X.env.cells scope.names []) h3.objs.size X.env))
    (compPost (model X.prog X.w) X.A X.xe none (EP X pins σ Q) (.ref D) h3.objs.size) s5:=by
  rintro s5 rfl
  rw [<- eEnv,<- eP,<- eW,<- eA]
  refine ziv (fun n s'=>∃ i ys H',Inv Y [] (zeL L.length ix σ) H' s'/\tn i s'.heap/\(∀ b ∈ fp,H' b=none)/\W i n ys H') ?_ m0 ⟨0,[],_,?_,st4,fun b hb=>(f3 b hb).1,w0⟩
  ·rintro n s6 ⟨i,ys,H6,I6,st6,fr6,w6⟩
   obtain ⟨hl6,alt⟩:=turn i n ys H6 w6
   rcases alt with ⟨stop,qe⟩ | ⟨go,step⟩
   ·have Td:=T.done Y eP eW eK hcY i [] s6 _ H6 (fun _ _=>False) I6 (stat fr6) st6 stop
    rw [<- eP,<- eW] at Td
    refine wpAny_mono Td (fun r s7 hr7=>?_) fun _ _ f=>f.elim
    obtain ⟨hr,I7⟩:=hr7
    subst hr
    rw [eP,eW,eA]
    exact fin I7 qe
   ·have Ti:=T.item Y eP eW eK hcY i [] s6 _ H6 (fun _ _=>False) I6 (stat fr6) st6 go
    rw [<- eP,<- eW] at Ti
    refine wpAny_mono Ti (fun r s7 hr7=>?_) fun _ _ f=>f.elim
    obtain ⟨u,hr,h7⟩:=hr7
    subst hr
    refine wpAny_mono h7 (fun _ s8 hr8=>?_) fun _ _ f=>f.elim
    obtain ⟨x,H8,I8,r8,y8,st8,fr8⟩:=hr8
    have I8':=I8.pinned (stat fr8) (T.obj _ _ st8)
    have stp:=hgo _ _ _ _ (step x H8 y8)
    refine wpAny_mono (gY _ s8 _ H8 x u _ I8' r8 stp) (fun _ s9 ⟨σ9,H9,I9,⟨k1,k2⟩,q9⟩=>?_) fun _ _ f=>by rw [xeY] at f;exact f.elim
    have weak:∀ {Hz:Hp} {sz:Shared},Inv Y ([] ++ zhY fp s8.heap) σ9 Hz sz->Inv Y [] (zeL L.length ix σ) Hz sz/\tn (i + 1) sz.heap/\∀ b ∈ fp,Hz b=none:=fun {Hz sz} Iz=>by
     refine ⟨Iz.zet.weak k1.symm fun j v e=>?_,T.keep _ _ _ st8 fun b hb o e=>(Iz.pin (b,o) (List.mem_append_right _ (List.mem_append_right _ (zbF hb e)))).1,fun b hb=>?_⟩
     ·by_cases hj:L.length<=j
      ·rw [k2 j hj];exact e
      ·unfold zeL at e
       rw [List.getElem?_append_left (by simpa using Nat.lt_of_not_le hj),List.getElem?_replicate,if_pos (Nat.lt_of_not_le hj)] at e
       cases e
     ·obtain ⟨o,e,d⟩:=T.obj _ _ st8 b hb
      exact (Iz.pin (b,o) (List.mem_append_right _ (List.mem_append_right _ (zbF hb e)))).2.1
    refine wpAny_mono (tY _ s9 σ9 H9 _ I9 q9) (fun ok s10 ⟨H10,I10,q10⟩=>?_) fun _ _ f=>by rw [xeY] at f;exact f.elim
    cases ok with
    | false =>
     have q10':∃ m',m' < n/\W (i + 1) m' ys H10:=q10
     obtain ⟨m',hm',w10⟩:=q10'
     obtain ⟨z1,z2,z3⟩:=weak I10
     exact ⟨m',hm',i + 1,ys,H10,z1,z2,z3,w10⟩
    | true =>
     refine wpAny_mono (pY _ s10 σ9 H10 _ I10 q10) (fun xv s11 ⟨v,H11,I11,r11,hl11,hz11,m',hm',w11⟩=>?_) fun _ _ f=>by rw [xeY] at f;exact f.elim
     refine wpAny_mono (zlB (X:=Y) _ s11 σ9 H11 (.ref D) [v] (.ref D) [xv] (fun _ Hq=>Hq=upd H11 D (.lst (ys ++ [v]))) I11 rfl (.cons r11 .nil) ⟨D,ys,v,rfl,rfl,hl11,hz11,rfl⟩) (fun _ s12 ⟨_,H12,I12,_,e12⟩=>?_) fun _ _ f=>by rw [xeY] at f;exact f.elim
     subst e12
     obtain ⟨z1,z2,z3⟩:=weak I12
     exact ⟨m',hm',i + 1,ys ++ [v],_,z1,z2,z3,w11⟩
  ·exact I4
 exact codeAny_compStart_list (key _ rfl) (T.self _ 0 _ _ _ st4 (key _ rfl))
end
end L2
namespace L2
open PySem PySem.Spec PyProof.Rows
def zci (sc scope:Scope) (N:List Str) (ix:List Nat):Bool :=
 (scope.names.all fun y=>(y.2 != .free || sc.names.lookup y.1 == some .cell) && (y.2 != .local || scope.names.lookup y.1 == some .local) && (y.2 != .free || !(scope.names.contains (y.1,NameKind.cell)))) &&
 ((ix.map fun i=>N.getD i "").all fun x=>scope.names.lookup x != some .local && !(scope.names.contains (x,NameKind.cell))) && ix.all (fun i=>decide (i < N.length))
section
variable {X:Cx}
theorem zsl {elt tg iter:Expr} {ifs:List Expr} {scope:Scope} {pos:Pos} {wi:TI} {g:TG} {tc:TT} {te:TE} (L:List Str) (ix:List Nat) (M:List Str) (hc:X.calm=true) (hk:scope.kind=.function)
  (hd:zci X.env.scope scope X.N ix=true) (hM:M=L ++ ix.map fun i=>X.N.getD i "") (hi:PI X tg iter wi)
  (hg:∀ C s₃ H₃ fp,PG (zap X M scope C s₃ H₃ fp) tg g) (hgo:znu L.length g)
  (ht:∀ C s₃ H₃ fp,PTs (zap X M scope C s₃ H₃ fp) ifs tc) (he:∀ C s₃ H₃ fp,PE (zap X M scope C s₃ H₃ fp) elt te)
  (hs:∀ x,foldedSetIterable iter X.env x=pure x:=by intro _;rfl) :
  PE X (.ListComp elt [⟨tg,iter,ifs,0⟩] scope pos) (zoL L.length ix wi g tc te):=by
 unfold zci at hd
 simp only [Bool.and_eq_true,List.all_eq_true,bne_iff_ne,ne_eq,Bool.or_eq_true,beq_iff_eq,decide_eq_true_eq,Bool.not_eq_true',List.contains_eq_mem,decide_eq_false_iff_not] at hd
 obtain ⟨⟨d1,d2⟩,d3⟩:=hd
 have eM:M=L ++ zeM X ix:=by rw [hM];unfold zeM;rfl
 subst eM
 refine zsm (L:=L) (ix:=ix) hc ⟨hk,fun y hy e=>?_,fun y hy e=>?_,fun x hx=>?_,fun y hy e=>?_⟩ d3 hi hg hgo ht he hs
 ·rcases (d1 y hy).1.1 with z | z
  ·exact absurd e z
  ·exact z
 ·rcases (d1 y hy).1.2 with z | z
  ·exact absurd e z
  ·exact z
 ·unfold zeM at hx
  exact d2 x hx
 ·rcases (d1 y hy).2 with z | z
  ·exact absurd e z
  ·exact z
end
end L2
namespace L2
open PySem PySem.Spec PyProof.Rows
end L2
namespace L2
open PySem PySem.Spec PyProof.Rows
section
variable {X:Cx}
theorem zuC {elt tg iter:Expr} {ifs:List Expr} {scope:Scope} {pos:Pos} {L:List Str} {ix:List Nat} {wi:TI} {g:TG} {tc:TT} {te:TE} {i0:Nat} {x0:Str} {pos' spos:Pos} (hN:X.N.Nodup) (hii:X.N[i0]?=some x0) (hx0:Loc X.env.scope x0) (hf0:X.fn x0=true\/X.env.scope.names.lookup x0=some .local)
  (hsw:swapsWith (.ListComp elt [⟨tg,iter,ifs,0⟩] scope pos) (some (.Name x0 pos')) spos.line X.env=pure true) (hc:X.calm=true) (S:zeF X scope (zeM X ix)) (hix:∀ i ∈ ix,i < X.N.length) (hi:PI X tg iter wi)
  (hg:∀ C s₃ H₃ fp,PG (zap X (L ++ zeM X ix) scope C s₃ H₃ fp) tg g) (hgo:znu L.length g)
  (ht:∀ C s₃ H₃ fp,PTs (zap X (L ++ zeM X ix) scope C s₃ H₃ fp) ifs tc) (he:∀ C s₃ H₃ fp,PE (zap X (L ++ zeM X ix) scope C s₃ H₃ fp) elt te)
  (hs:∀ x,foldedSetIterable iter X.env x=pure x:=by intro _;rfl) :
  PS X (.Assign [.Name x0 pos'] (.ListComp elt [⟨tg,iter,ifs,0⟩] scope pos) spos) (zv1 (zoL L.length ix wi g tc te) (zqT i0)):=by
 intro pins s σ H Dn I h
 have h:zoL L.length ix wi g tc te σ H (fun v H1=>Dn.nx (σ.set i0 (some v)) H1):=h
 generalize hQ:(fun v H1=>Dn.nx (σ.set i0 (some v)) H1:VK)=Q at h
 rw [exec_Assign_Name_used _ _ _ _ hsw]
 refine wpAny_bind (wpAny_standAt (wpAny_bind ?_))
 show wpAny _ _ (do let _ <- comprehension (.ListComp elt [⟨tg,iter,ifs,0⟩] scope pos) scope X.env _ (newList []) false (eval iter X.env) (some (assign (.Name x0 pos') X.env))) _ _ s
 refine wpAny_bind (wpAny_mono (wpAny_comprehension_free (use:=some (assign (.Name x0 pos') X.env)) (Q:=fun _ s'=>SP X pins Dn .next s') rfl hs (zdm fun y hy e=>I.ok.has y.1 (.inl (S.cell y hy e))) S.kind S.loc (thn (hi pins s σ H _ I h) fun xv s1 h1=>thn h1 fun itv s2 h2=>?_)) (fun _ s' hq=>wpAny_pure (wpAny_pure hq)) fun _ _ e=>e)
 obtain ⟨it,fp,tn,J,H2,rfl,I2,T,st2,f2,q⟩:=h2
 have nD:H2 s2.heap.objs.size=none:=I2.hok.fresh (Nat.le_refl _)
 obtain ⟨W,⟨m0,w0⟩,turn⟩:=q _ nD
 generalize hD:s2.heap.objs.size=D at nD w0 turn
 have fD:∀ b ∈ fp,b < D:=fun b hb=>by
  obtain ⟨o,e,_⟩:=T.obj _ _ st2 b hb
  rw [<- hD]
  exact Heap.lt_size e
 have I3:Inv X pins σ (upd H2 D (.lst [])) { s2 with heap:=s2.heap.push { cls:=.type "list",data:=.seq ([]:List Value).toArray },toks:=s2.toks }:=by
  rw [<- hD]
  exact I2.laid (t':=s2.toks) (fun b u e=>Heap.get?_push_of_some _ e) (Nat.le_refl _) ⟨by simp,[],0,.nil,Heap.get?_push_size _ rfl⟩
 refine wpAny_newObj_type (zmN (fun h₁ hns₁ hsb₁ hcs₁=>?_)) (by show 0<=sizeLine;exact Nat.zero_le _)
 rw [hD]
 have st3:tn 0 (s2.heap.push { cls:=.type "list",data:=.seq ([]:List Value).toArray }):=T.keep _ _ _ st2 fun b hb o e=>Heap.get?_push_of_some _ e
 generalize hp3:s2.heap.push { cls:=.type "list",data:=.seq ([]:List Value).toArray }=h3 at I3 st3 hns₁ hsb₁ hcs₁
 dsimp only at hns₁ hsb₁ hcs₁ ⊢
 have sz3:h3.objs.size=D + 1:=by rw [<- hp3,Heap.size_push,hD]
 have old:∀ b u,h3.get? b=some u->h₁.get? b=some u:=fun b u e=>hsb₁ b u e
 have f3:∀ b ∈ fp,znv X pins (upd H2 D (.lst [])) b:=fun b hb=>⟨by rw [zax (Nat.ne_of_lt (fD b hb))];exact (f2 b hb).1,(f2 b hb).2⟩
 have I4:=zh9 (L:=L) (ix:=ix) (t':=s2.toks) S I3 f3 (fun b hb=>by show b < h3.objs.size;rw [sz3];exact Nat.lt_succ_of_lt (fD b hb)) hix (h':=h₁) hns₁ old hcs₁
 have st4:tn 0 h₁:=T.keep _ _ _ st3 fun b hb o e=>old b o e
 generalize hC:(zap X (L ++ zeM X ix) scope h3.objs.size { s2 with heap:=h3,toks:=s2.toks } (upd H2 D (.lst [])) fp)=Y at I4
 have eEnv:Y.env=compEnvC scope (zlu h3.objs.size scope ++ ziz X.env.cells scope.names []) h3.objs.size X.env:=by rw [<- hC];rfl
 have hcY:Y.calm=true:=by rw [<- hC];exact hc
 have xeY:Y.xe=fun _ _=>False:=by rw [<- hC];rfl
 have eP:Y.prog=X.prog:=by rw [<- hC];rfl
 have eW:Y.w=X.w:=by rw [<- hC];rfl
 have eK:Y.K=X.K:=by rw [<- hC];rfl
 have eA:Y.A=X.A:=by rw [<- hC];rfl
 have gY:PG Y tg g:=by rw [<- hC];exact hg _ _ _ _
 have tY:PTs Y ifs tc:=by rw [<- hC];exact ht _ _ _ _
 have pY:PE Y elt te:=by rw [<- hC];exact he _ _ _ _
 have stat:∀ {H':Hp},(∀ b ∈ fp,H' b=none)->∀ b ∈ fp,znv Y [] H' b:=fun {H'} hn b hb=>by
  have z1:b ∈ Y.ex:=by rw [<- hC];exact hb
  have zp:Y.pn=[]:=by rw [<- hC];rfl
  refine ⟨hn b hb,(I4.ok.exf b z1).1,I4.ok.exfs b z1,.inl z1,(I4.ok.exf b z1).2,fun p hp=>?_⟩
  rw [zp] at hp
  exact absurd hp (by simp)
 have fin:∀ {H':Hp} {s':Shared},Inv Y [] (zeL L.length ix σ) H' s'->Q (.ref D) H'->compPost (model X.prog X.w) X.A X.xe (some (assign (.Name x0 pos') X.env)) (fun _ s'=>SP X pins Dn .next s') (.ref D) h3.objs.size (.ok .next) s':=by
  intro H' s' J' qe
  obtain ⟨m,hm,_⟩:=J'.loc
  rw [eEnv] at hm
  have hfr:H' h3.objs.size=none:=by
   have:=J'.free
   rw [eEnv] at this
   exact this
  have mk:∀ h',Heap.SameBut h3.objs.size s'.heap h'->Inv X pins σ H' { s' with heap:=h' }:=by
   intro h' sb
   have hfr:H' h3.objs.size=none:=by
    have:=J'.free
    rw [eEnv] at this
    exact this
   have neC:∀ b u,H' b=some u->b ≠ h3.objs.size:=fun b u e z=>by rw [z,hfr] at e;cases e
   have base:Un (frs X.stack) fp (upd H2 D (.lst [])) H' h3 s'.heap:=by
    have:=J'.base
    rw [<- hC] at this
    exact this
   have to':∀ b o,b ≠ h3.objs.size->s'.heap.get? b=some o->h'.get? b=some o:=fun b o hb e=>sb.extBut b o hb e
   have lt3:∀ b o,h3.get? b=some o->b ≠ h3.objs.size:=fun b o e=>Nat.ne_of_lt (Heap.lt_size e)
   have un:Un (frs X.stack) fp (upd H2 D (.lst [])) H' h3 h' :=
    ⟨fun b o e n hb hx=>to' b o (lt3 b o e) (base.keep b o e n hb hx),
     fun b o e n hb hx=>by
     obtain ⟨sl,z⟩:=base.slot b o e n hb hx
     exact ⟨sl,to' _ _ (lt3 b o e) z⟩,
     base.free,
     fun b o e hx=>by
     obtain ⟨o',z⟩:=base.there b o e hx
     exact ⟨o',to' _ _ (lt3 b o e) z⟩,
     base.tups,base.frzs,base.tbls⟩
   have hok:HOk X.prog X.w H' h':=fun b u e=>by
    have z:=J'.hok b u e
    rw [eP,eW] at z
    refine z.stay (fun c v hcv qv=>to' c v ?_ qv) (fun _ qq=>qq) fun _ _ qq=>qq
    rcases hcv with zz | zz
    ·rw [zz];exact neC b u e
    ·exact neC c _ zz
   refine I3.call' (s':={ s' with heap:=h' }) (ch:=fp) ?_ un hok J'.bare fun b hb=>?_
   ·have:=J'.os
    rw [<- hC] at this
    exact this
   ·obtain ⟨_,g1,g2,g3,g4,g5⟩:=f2 b hb
    exact ⟨g3,g1,g4,g5⟩
  have I5:Inv X pins σ H' s':=mk s'.heap (Heap.SameBut.refl ..)
  show wpAny _ _ (assign (.Name x0 pos') X.env (.ref D)) _ _ s'
  refine wpAny_assign_Name (zlh (v:=.ref D) I5 hN hii hx0 rfl (fun s'' I6 hh=>?_) hf0)
  obtain ⟨a6,sb6,ha6⟩:=hh
  have neC:a6 ≠ h3.objs.size:=by
   rcases ha6 with z | z
   ·rw [z];exact Nat.ne_of_lt I3.lt
   ·obtain ⟨v6,q6⟩:=I3.cell x0 a6 z
    exact Nat.ne_of_lt q6.lt
  refine ⟨m,hm.sameBut sb6 (Ne.symm neC),fun h'' sb2=>⟨_,H',?_,by rw [<- hQ] at qe;exact qe⟩⟩
  refine Inv.zhN (t':=s''.toks) (fp:=[h3.objs.size]) I6 (fun b o hb e=>sb2.extBut b o (by simpa using hb) e) fun b hb=>?_
  have e:b=h3.objs.size:=by simpa using hb
  subst e
  exact I3.zsN (Nat.le_refl _) hfr
 have key:∀ s5:Shared,s5={ s2 with heap:=h₁,toks:=s2.toks } ->
   codeAny (model X.prog X.w) X.A (.compLoop (.ListComp elt [⟨tg,iter,ifs,0⟩] scope pos) 0 (.ref it) (.ref D) (compEnvC scope (zlu h3.objs.size scope ++ ziz X.env.cells scope.names []) h3.objs.size X.env))
    (compPost (model X.prog X.w) X.A X.xe (some (assign (.Name x0 pos') X.env)) (fun _ s'=>SP X pins Dn .next s') (.ref D) h3.objs.size) s5:=by
  rintro s5 rfl
  rw [<- eEnv,<- eP,<- eW,<- eA]
  refine ziv (fun n s'=>∃ i ys H',Inv Y [] (zeL L.length ix σ) H' s'/\tn i s'.heap/\(∀ b ∈ fp,H' b=none)/\W i n ys H') ?_ m0 ⟨0,[],_,?_,st4,fun b hb=>(f3 b hb).1,w0⟩
  ·rintro n s6 ⟨i,ys,H6,I6,st6,fr6,w6⟩
   obtain ⟨hl6,alt⟩:=turn i n ys H6 w6
   rcases alt with ⟨stop,qe⟩ | ⟨go,step⟩
   ·have Td:=T.done Y eP eW eK hcY i [] s6 _ H6 (fun _ _=>False) I6 (stat fr6) st6 stop
    rw [<- eP,<- eW] at Td
    refine wpAny_mono Td (fun r s7 hr7=>?_) fun _ _ f=>f.elim
    obtain ⟨hr,I7⟩:=hr7
    subst hr
    rw [eP,eW,eA]
    exact fin I7 qe
   ·have Ti:=T.item Y eP eW eK hcY i [] s6 _ H6 (fun _ _=>False) I6 (stat fr6) st6 go
    rw [<- eP,<- eW] at Ti
    refine wpAny_mono Ti (fun r s7 hr7=>?_) fun _ _ f=>f.elim
    obtain ⟨u,hr,h7⟩:=hr7
    subst hr
    refine wpAny_mono h7 (fun _ s8 hr8=>?_) fun _ _ f=>f.elim
    obtain ⟨x,H8,I8,r8,y8,st8,fr8⟩:=hr8
    have I8':=I8.pinned (stat fr8) (T.obj _ _ st8)
    have stp:=hgo _ _ _ _ (step x H8 y8)
    refine wpAny_mono (gY _ s8 _ H8 x u _ I8' r8 stp) (fun _ s9 ⟨σ9,H9,I9,⟨k1,k2⟩,q9⟩=>?_) fun _ _ f=>by rw [xeY] at f;exact f.elim
    have weak:∀ {Hz:Hp} {sz:Shared},Inv Y ([] ++ zhY fp s8.heap) σ9 Hz sz->Inv Y [] (zeL L.length ix σ) Hz sz/\tn (i + 1) sz.heap/\∀ b ∈ fp,Hz b=none:=fun {Hz sz} Iz=>by
     refine ⟨Iz.zet.weak k1.symm fun j v e=>?_,T.keep _ _ _ st8 fun b hb o e=>(Iz.pin (b,o) (List.mem_append_right _ (List.mem_append_right _ (zbF hb e)))).1,fun b hb=>?_⟩
     ·by_cases hj:L.length<=j
      ·rw [k2 j hj];exact e
      ·unfold zeL at e
       rw [List.getElem?_append_left (by simpa using Nat.lt_of_not_le hj),List.getElem?_replicate,if_pos (Nat.lt_of_not_le hj)] at e
       cases e
     ·obtain ⟨o,e,d⟩:=T.obj _ _ st8 b hb
      exact (Iz.pin (b,o) (List.mem_append_right _ (List.mem_append_right _ (zbF hb e)))).2.1
    refine wpAny_mono (tY _ s9 σ9 H9 _ I9 q9) (fun ok s10 ⟨H10,I10,q10⟩=>?_) fun _ _ f=>by rw [xeY] at f;exact f.elim
    cases ok with
    | false =>
     have q10':∃ m',m' < n/\W (i + 1) m' ys H10:=q10
     obtain ⟨m',hm',w10⟩:=q10'
     obtain ⟨z1,z2,z3⟩:=weak I10
     exact ⟨m',hm',i + 1,ys,H10,z1,z2,z3,w10⟩
    | true =>
     refine wpAny_mono (pY _ s10 σ9 H10 _ I10 q10) (fun xv s11 ⟨v,H11,I11,r11,hl11,hz11,m',hm',w11⟩=>?_) fun _ _ f=>by rw [xeY] at f;exact f.elim
     refine wpAny_mono (zlB (X:=Y) _ s11 σ9 H11 (.ref D) [v] (.ref D) [xv] (fun _ Hq=>Hq=upd H11 D (.lst (ys ++ [v]))) I11 rfl (.cons r11 .nil) ⟨D,ys,v,rfl,rfl,hl11,hz11,rfl⟩) (fun _ s12 ⟨_,H12,I12,_,e12⟩=>?_) fun _ _ f=>by rw [xeY] at f;exact f.elim
     subst e12
     obtain ⟨z1,z2,z3⟩:=weak I12
     exact ⟨m',hm',i + 1,ys ++ [v],_,z1,z2,z3,w11⟩
  ·exact I4
 exact codeAny_compStart_list (key _ rfl) (T.self _ 0 _ _ _ st4 (key _ rfl))
theorem zuB {elt tg iter:Expr} {ifs:List Expr} {scope:Scope} {pos:Pos} {wi:TI} {g:TG} {tc:TT} {te:TE} {x0:Str} {pos' spos:Pos} (i0:Nat) (L:List Str) (ix:List Nat) (M:List Str) (hN:X.N.Nodup) (hii:X.N[i0]?=some x0) (hx0:X.env.scope.names.lookup x0=some .local)
  (hsw:swapsWith (.ListComp elt [⟨tg,iter,ifs,0⟩] scope pos) (some (.Name x0 pos')) spos.line X.env=pure true) (hc:X.calm=true) (hk:scope.kind=.function)
  (hd:zci X.env.scope scope X.N ix=true) (hM:M=L ++ ix.map fun i=>X.N.getD i "") (hi:PI X tg iter wi)
  (hg:∀ C s₃ H₃ fp,PG (zap X M scope C s₃ H₃ fp) tg g) (hgo:znu L.length g)
  (ht:∀ C s₃ H₃ fp,PTs (zap X M scope C s₃ H₃ fp) ifs tc) (he:∀ C s₃ H₃ fp,PE (zap X M scope C s₃ H₃ fp) elt te)
  (hs:∀ x,foldedSetIterable iter X.env x=pure x:=by intro _;rfl) :
  PS X (.Assign [.Name x0 pos'] (.ListComp elt [⟨tg,iter,ifs,0⟩] scope pos) spos) (zv1 (zoL L.length ix wi g tc te) (zqT i0)):=by
 unfold zci at hd
 simp only [Bool.and_eq_true,List.all_eq_true,bne_iff_ne,ne_eq,Bool.or_eq_true,beq_iff_eq,decide_eq_true_eq,Bool.not_eq_true',List.contains_eq_mem,decide_eq_false_iff_not] at hd
 obtain ⟨⟨d1,d2⟩,d3⟩:=hd
 have eM:M=L ++ zeM X ix:=by rw [hM];unfold zeM;rfl
 subst eM
 refine zuC (L:=L) (ix:=ix) hN hii (.inl hx0) (.inr hx0) hsw hc ⟨hk,fun y hy e=>?_,fun y hy e=>?_,fun x hx=>?_,fun y hy e=>?_⟩ d3 hi hg hgo ht he hs
 ·rcases (d1 y hy).1.1 with z | z
  ·exact absurd e z
  ·exact z
 ·rcases (d1 y hy).1.2 with z | z
  ·exact absurd e z
  ·exact z
 ·unfold zeM at hx
  exact d2 x hx
 ·rcases (d1 y hy).2 with z | z
  ·exact absurd e z
  ·exact z
end
end L2
namespace L2
open PySem PySem.Spec PyProof.Rows
def Itd (d:Addr) (o:Obj) (kvs:List (Key × V)):It :=
 ⟨fun i H=>H d=some (.frz o (.dK kvs))/\i < kvs.length,fun i H x H'=>H'=H/\∃ k v,kvs[i]?=some (k,v)/\x=kV k,fun i H=>H d=some (.frz o (.dK kvs))/\kvs.length<=i⟩
theorem znH {k:Key} {u:Value} (h:zmU k u=true):RelV (kV k) u:=by
 rcases za2 h with ⟨i,t,rfl,rfl⟩ | ⟨x,t,rfl,rfl⟩
 ·exact ⟨t,rfl⟩
 ·exact ⟨t,rfl⟩
theorem KV.len {kvs:List (Key × V)} {vs:List (Key × Value)} (h:KV kvs vs):kvs.length=vs.length:=Paired.length h
theorem zex {α β:Type} {R:α->β->Prop}:∀ {xs:List α} {ys:List β} {i:Nat} {x:α},Paired R xs ys->xs[i]?=some x->∃ y,ys[i]?=some y/\R x y
 | _ :: _,_ :: _,0,_,.cons r _,e=>by
  simp only [List.getElem?_cons_zero,Option.some.injEq] at e
  subst e
  exact ⟨_,rfl,r⟩
 | _ :: _,_ :: _,i + 1,_,.cons _ t,e=>by
  simp only [List.getElem?_cons_succ] at e ⊢
  exact zex t e
 | [],_,_,_,_,e=>by simp at e
theorem zqZ {P:Program} {w:World} {H:Hp} {h:Heap} {d:Addr} {o:Obj} {kvs:List (Key × V)} {es:Array DictEntry} {ep:Nat} (ok:zbJ P w H h d (.frz o (.dK kvs))) (hd:o.data=.dict es ep) :
  ∃ vs,KV kvs vs/\h.DictAt (za6 P w) d vs ep/\(d == sysModules)=false:=by
 obtain ⟨e,_,sy,vs,kv,o',es',ep',e',r1,r2,r3⟩:=ok
 rw [e] at e'
 cases e'
 rw [hd] at r2
 cases r2
 exact ⟨vs,kv,⟨o,es,e,r1,hd,r3⟩,sy⟩
theorem zpC {P:Program} {w:World} {K:PySem.W.Frag} {tg:Expr} {o:Obj} {es:Array DictEntry} {ep:Nat} {kvs:List (Key × V)} (d it:Addr) (hdat:o.data=.dict es ep) :
  Turn P w K tg (Itd d o kvs) [it] it (fun i h=>h.IsKeyIter it d i kvs.length ep) where
 mem:=by simp
 obj:=fun i h st b hb=>by
  have e:b=it:=by simpa using hb
  subst e
  obtain ⟨o,e,c,d⟩:=st
  exact ⟨o,e,fun v z=>by rw [d] at z;cases z⟩
 keep:=fun i h h' st k=>st.at fun o e=>k it (by simp) o e
 item:=by
  intro X hP hw hK hc i pins s σ H E I hf st hg
  subst hP hw hK
  obtain ⟨hd,hi⟩:=hg
  obtain ⟨vs,kv,da,_⟩:=zqZ (I.hok d _ hd) hdat
  obtain ⟨⟨k',v'⟩,ev,rk,rv⟩:=zex kv (List.getElem?_eq_getElem hi)
  obtain ⟨f0,f1,f2,f3,f4,f5⟩:=hf it (by simp)
  have st':s.heap.IsKeyIter it d i vs.length ep:=by rw [<- kv.len];exact st
  refine wpAny_pyNext_dict_item st' da ev fun key h' hk st2 sb=>?_
  have I1:Inv X pins σ H { s with heap:=h' }:=I.turned (t':=s.toks) (fun b o hb e=>(sb.2 b hb).trans e) f0 f1 f3 f4 f5
  rw [<- kv.len] at st2
  obtain ⟨o,e,c,dd⟩:=id st2
  exact ⟨key,rfl,zqS (s:={ s with heap:=h' }) e c dd (by decide) ⟨kV k',H,I1,znH hk,⟨rfl,kvs[i].1,kvs[i].2,List.getElem?_eq_getElem hi,congrArg kV rk.symm⟩,st2,fun b hb=>(hf b hb).1⟩⟩
 done:=by
  intro X hP hw hK hc i pins s σ H E I hf st hg
  subst hP hw hK
  obtain ⟨hd,hi⟩:=hg
  obtain ⟨vs,kv,da,_⟩:=zqZ (I.hok d _ hd) hdat
  obtain ⟨f0,f1,f2,f3,f4,f5⟩:=hf it (by simp)
  have st':s.heap.IsKeyIter it d i vs.length ep:=by rw [<- kv.len];exact st
  exact wpAny_pyNext_dict_end (I.ok.hd hc) st' da (List.getElem?_eq_none (by rw [<- kv.len];exact hi)) fun h' eb=>⟨rfl,I.turned (t':=s.toks) (fun b o hb e=>eb b o hb e) f0 f1 f3 f4 f5⟩
 self:=fun _ _ _ _ _ st h=>wpAny_pyIter_keyiter st h
end L2
namespace L2
open PySem PySem.Spec PyProof.Rows
section
variable {κ:Type} [DecidableEq κ]
def zmw (kvs:List (κ × V)) (k:κ):Option V:=(kvs.find? fun kv=>decide (kv.1=k)).map (·.2)
def putK (kvs:List (κ × V)) (k:κ) (v:V):List (κ × V) :=
 if (kvs.any fun kv=>decide (kv.1=k))=true then kvs.map (fun kv=>if kv.1=k then (kv.1,v) else kv) else kvs ++ [(k,v)]
theorem zfu {p:κ × V} {r:List (κ × V)} {k:κ} (e:p.1=k):zmw (p :: r) k=some p.2:=by simp [zmw,List.find?_cons,e]
theorem zfv {p:κ × V} {r:List (κ × V)} {k:κ} (e:¬ p.1=k):zmw (p :: r) k=zmw r k:=by simp [zmw,List.find?_cons,e]
theorem znx (k:κ):∀ kvs:List (κ × V),(kvs.any fun kv=>decide (kv.1=k))=(zmw kvs k).isSome
 | []=>rfl
 | p :: r=>by
  rw [List.any_cons]
  by_cases e:p.1=k
  ·simp only [zfu e,decide_eq_true e,Bool.true_or,Option.isSome_some]
  ·rw [zfv e,decide_eq_false e,Bool.false_or];exact znx k r
theorem zdf (kvs:List (κ × V)) (k:κ) (v:V):(putK kvs k v).length<=kvs.length + 1:=by
 unfold putK
 split
 ·rw [List.length_map];omega
 ·rw [List.length_append,List.length_cons,List.length_nil];omega
theorem zrM.zh8 {o:Option V} {u:Option Value} (r:zrM o u):o.isSome=u.isSome:=by
 cases o with
 | none=>cases u with
  | none=>rfl
  | some _=>exact (show False from r).elim
 | some _=>cases u with
  | none=>exact (show False from r).elim
  | some _=>rfl
theorem KV.val {kvs:List (κ × V)} {vs:List (κ × Value)} (r:KV kvs vs) (k:κ):zrM (zmw kvs k) (valueAt vs k):=by
 unfold KV at r
 induction r with
 | nil=>exact True.intro
 | @cons p q ps qs h t ih =>
  obtain ⟨h1,h2⟩:=h
  by_cases e:p.1=k
  ·have e':q.1=k:=h1.symm.trans e
   have b:valueAt (q :: qs) k=some q.2:=by simp [valueAt,List.find?_cons,e']
   rw [zfu e,b];exact h2
  ·have e':¬ q.1=k:=fun z=>e (h1.trans z)
   have b:valueAt (q :: qs) k=valueAt qs k:=by simp [valueAt,List.find?_cons,e']
   rw [zfv e,b];exact ih
theorem KV.any {kvs:List (κ × V)} {vs:List (κ × Value)} (r:KV kvs vs) (k:κ):(kvs.any fun kv=>decide (kv.1=k))=vs.any fun kv=>decide (kv.1=k):=by
 unfold KV at r
 induction r with
 | nil=>rfl
 | cons h t ih=>rw [List.any_cons,List.any_cons,ih,h.1]
theorem KV.repl {kvs:List (κ × V)} {vs:List (κ × Value)} (r:KV kvs vs) (k:κ) {y:V} {u:Value} (ry:RelV y u) :
  KV (kvs.map fun kv=>if kv.1=k then (kv.1,y) else kv) (vs.map fun kv=>if kv.1=k then (kv.1,u) else kv):=by
 unfold KV at r ⊢
 induction r with
 | nil=>exact .nil
 | @cons p q ps qs h t ih =>
  rw [List.map_cons,List.map_cons]
  refine .cons ?_ ih
  obtain ⟨h1,h2⟩:=h
  by_cases e:p.1=k
  ·rw [if_pos e,if_pos (h1.symm.trans e)];exact ⟨h1,ry⟩
  ·rw [if_neg e,if_neg (fun z=>e (h1.trans z))];exact ⟨h1,h2⟩
theorem KV.put {kvs:List (κ × V)} {vs:List (κ × Value)} (r:KV kvs vs) (k:κ) {y:V} {u:Value} (ry:RelV y u):KV (putK kvs k y) (stored vs k u):=by
 unfold putK stored
 rw [r.any k]
 by_cases e:(vs.any fun kv=>decide (kv.1=k))=true
 ·rw [if_pos e,if_pos e];exact r.repl k ry
 ·rw [if_neg e,if_neg e];exact Paired.snoc r ⟨rfl,ry⟩
theorem KV.length {kvs:List (κ × V)} {vs:List (κ × Value)} (r:KV kvs vs):kvs.length=vs.length:=Paired.length r
end
theorem zpb {P:Program} {w:World} {k:Key} {u:Value} (r:RelV (kV k) u):(za6 P w).is k u=true:=by
 cases k with
 | inl i=>obtain ⟨t,e⟩:=(show ∃ t,u=Value.int i t from r);subst e;exact zmQ P w i t
 | inr x=>obtain ⟨t,e⟩:=(show ∃ t,u=Value.str x t from r);subst e;exact zmP P w x t
theorem zlN {P:Program} {w:World}:∀ {ks:List Key} {us:List Value},Vals (ks.map kV) us->ItemsAre (za6 P w) ks us
 | [],_,r=>by rw [List.map_nil] at r;cases r;exact .nil
 | k :: ks,_,r=>by
  rw [List.map_cons] at r
  cases r with
  | cons h t=>exact .cons (zpb h) (zlN t)
abbrev KT (H:Hp):List (List Key × V)->List (List Key × Addr × Value)->Prop:=Paired fun p q=>p.1=q.1/\TAt H q.2.1 (p.1.map kV)/\RelV p.2 q.2.2
theorem KT.val {H:Hp} {kvs:List (List Key × V)} {xs:List (List Key × Addr × Value)} (r:KT H kvs xs) (k:List Key):zrM (zmw kvs k) ((atKey xs k).map (·.2)):=by
 induction r with
 | nil=>exact True.intro
 | @cons p q ps qs h t ih =>
  obtain ⟨h1,_,h2⟩:=h
  by_cases e:p.1=k
  ·have e':q.1=k:=h1.symm.trans e
   have b:atKey (q :: qs) k=some q.2:=by simp [atKey,List.find?_cons,e']
   rw [zfu e,b];exact h2
  ·have e':¬ q.1=k:=fun z=>e (h1.trans z)
   have b:atKey (q :: qs) k=atKey qs k:=by simp [atKey,List.find?_cons,e']
   rw [zfv e,b];exact ih
theorem KT.repl {H:Hp} {kvs:List (List Key × V)} {xs:List (List Key × Addr × Value)} (r:KT H kvs xs) (k:List Key) {y:V} {u:Value} (ry:RelV y u) :
  KT H (kvs.map fun kv=>if kv.1=k then (kv.1,y) else kv) (xs.map (putAt k u)):=by
 induction r with
 | nil=>exact .nil
 | @cons p q ps qs h t ih =>
  rw [List.map_cons,List.map_cons]
  refine .cons ?_ ih
  obtain ⟨h1,h2,h3⟩:=h
  unfold putAt
  by_cases e:p.1=k
  ·rw [if_pos e,if_pos (h1.symm.trans e)];exact ⟨h1,h2,ry⟩
  ·rw [if_neg e,if_neg (fun z=>e (h1.trans z))];exact ⟨h1,h2,h3⟩
theorem KT.put {H:Hp} {kvs:List (List Key × V)} {xs:List (List Key × Addr × Value)} (r:KT H kvs xs) (k:List Key) {b:Addr} {y:V} {u:Value} (hb:TAt H b (k.map kV)) (ry:RelV y u) :
  KT H (putK kvs k y) (storedH xs k b u):=by
 have e:(kvs.any fun kv=>decide (kv.1=k))=(atKey xs k).isSome:=by
  rw [znx,(r.val k).zh8,Option.isSome_map]
 unfold putK storedH
 rw [e]
 by_cases q:(atKey xs k).isSome=true
 ·rw [if_pos q,if_pos q];exact r.repl k ry
 ·rw [if_neg q,if_neg q];exact Paired.snoc r ⟨rfl,hb,ry⟩
theorem KT.keeps {H H':Hp} {kvs:List (List Key × V)} {xs:List (List Key × Addr × Value)} (r:KT H kvs xs) (ht:∀ b ys,TAt H b ys->TAt H' b ys):KT H' kvs xs :=
 Paired.zyq r fun _ _ z=>⟨z.1,ht _ _ z.2.1,z.2.2⟩
section
variable {P:Program} {w:World} {H:Hp} {h:Heap} {a:Addr}
theorem zwa {u:HO} (ok:HOk P w H h) (e:Rd H a u):zbJ P w H h a u:=e.ok ok
theorem zpi {kvs:List (Key × V)} (ok:HOk P w H h) (e:Rd H a (.dK kvs)):kvs.length<=sizeLine/\(a == sysModules)=false/\∃ vs,KV kvs vs/\h.DictOf (za6 P w) a vs :=
 show zbJ P w H h a (.dK kvs) from zwa ok e
theorem zvq {kvs:List (Key × V)} (ok:HOk P w H h) (e:H a=some (.dK kvs)):kvs.length<=sizeLine/\(a == sysModules)=false/\∃ vs,KV kvs vs/\h.DictOf (za6 P w) a vs:=zpi ok (.inl e)
theorem zjM {ks:List Key} (ok:HOk P w H h) (e:TAt H a (ks.map kV)):(tupleKind (za6 P w)).is h ks a:=by
 obtain ⟨_,its,r,o,h1,h2,n,h3⟩:=(show zbJ P w H h a (.tup (ks.map kV)) from Rd.ok e ok)
 exact ⟨o,its.toArray,n,h1,h2,h3,by simpa using zlN r⟩
theorem zph {kvs:List (List Key × V)} (ok:HOk P w H h) (e:Rd H a (.dT kvs)):kvs.length<=sizeLine/\(a == sysModules)=false /\
  ∃ xs,KT H kvs xs/\h.DictOfH (tupleKind (za6 P w)) a xs:=by
 obtain ⟨z,y,xs,r,o,es,ep,h1,h2,h3,h4,h5⟩:=(show zbJ P w H h a (.dT kvs) from zwa ok e)
 refine ⟨z,y,xs,r,o,es,ep,h1,h2,h3,h4,fun x hx=>?_,h5⟩
 have all:∀ {l:List (List Key × V)} {m:List (List Key × Addr × Value)},KT H l m->∀ x ∈ m,(tupleKind (za6 P w)).is h x.1 x.2.1:=by
  intro l m q
  induction q with
  | nil=>intro x hx;exact nomatch hx
  | @cons p q ps qs hq t ih =>
   intro x hx
   rcases List.mem_cons.mp hx with e | hx
   ·subst e
    exact zjM ok (by rw [<- hq.1];exact hq.2.1)
   ·exact ih x hx
 exact all r x hx
theorem zxv {kvs:List (List Key × V)} (ok:HOk P w H h) (e:H a=some (.dT kvs)):kvs.length<=sizeLine/\(a == sysModules)=false /\
  ∃ xs,KT H kvs xs/\h.DictOfH (tupleKind (za6 P w)) a xs:=zph ok (.inl e)
end
def zx0 (H:Hp) (a:Addr) (y:V) (r:Option V):Prop :=
 (∃ kvs k,Rd H a (.dK kvs)/\y=kV k/\r=zmw kvs k)\/∃ kvs k b,Rd H a (.dT kvs)/\y=.ref b/\TAt H b (k.map kV)/\r=zmw kvs k
def zrI (H:Hp) (a:Addr) (y v:V) (H':Hp):Prop :=
 (∃ kvs k,H a=some (.dK kvs)/\y=kV k/\kvs.length < sizeLine/\H'=upd H a (.dK (putK kvs k v))) \/
 ∃ kvs k b,H a=some (.dT kvs)/\y=.ref b/\TAt H b (k.map kV)/\kvs.length < sizeLine/\H'=upd H a (.dT (putK kvs k v))
theorem zrI.k {H:Hp} {a:Addr} {kvs:List (Key × V)} {k:Key} {v:V} (e:H a=some (.dK kvs)) (hl:kvs.length < sizeLine):zrI H a (kV k) v (upd H a (.dK (putK kvs k v))):=.inl ⟨kvs,k,e,rfl,hl,rfl⟩
theorem zrI.t {H:Hp} {a b:Addr} {kvs:List (List Key × V)} {k:List Key} {v:V} (e:H a=some (.dT kvs)) (eb:TAt H b (k.map kV)) (hl:kvs.length < sizeLine) :
  zrI H a (.ref b) v (upd H a (.dT (putK kvs k v))):=.inr ⟨kvs,k,b,e,rfl,eb,hl,rfl⟩
section
variable {X:Cx} {pins:List (Addr × Obj)} {σ:St} {H:Hp} {s:Shared} {a:Addr} {y v:V} {u r:Value} {o:Option V} {A:Around} {E:Value->Shared->Prop}
theorem Inv.big (I:Inv X pins σ H s):sysModules < s.heap.objs.size:=by
 have h:mainGlobals < s.heap.objs.size:=(I.mod.glob.keeps I.bk).lt
 exact Nat.lt_trans (by decide) h
theorem zrc {Q:Value->Shared->Prop} (hu:A.units + 1 < cLine) (I:Inv X pins σ H s) (g:zx0 H a y (some v)) (ry:RelV y u) (h:∀ w' s',Inv X pins σ H s'->RelV v w'->Q w' s') :
  wpAny (model X.prog X.w) A (getItem (.ref a) u) Q E s:=by
 rcases g with ⟨kvs,k,e,ey,l⟩ | ⟨kvs,k,b,e,ey,eb,l⟩
 ·subst ey
  obtain ⟨z,hd,vs,rel,dd⟩:=zpi I.hok e
  obtain ⟨w',hw,rw'⟩:=zrM.some_of (v:=v) (o:=valueAt vs k) (by rw [l];exact rel.val k)
  exact wpAny_getItem_of (zpb ry) dd.mapOf hw (h w' _ (I.tok _) rw')
 ·subst ey
  cases (show u=Value.ref b from ry)
  obtain ⟨z,hd,xs,rel,dd⟩:=zph I.hok e
  obtain ⟨w',hw,rw'⟩:=zrM.some_of (v:=v) (o:=(atKey xs k).map (·.2)) (by rw [l];exact rel.val k)
  obtain ⟨p,hp,hp2⟩:=Option.map_eq_some_iff.mp hw
  refine wpAny_getItem_heap (tupleKind_room_in1 hu) (zjM I.hok eb) dd hp ?_
  rw [hp2]
  exact h w' _ (I.tok _) rw'
theorem zvu {Q:Value->Shared->Prop} (hu:A.units + 1 < cLine) (I:Inv X pins σ H s) (g:zx0 H a y o) (ry:RelV y u) (h:∀ s',Inv X pins σ H s'->Q (.bool (!o.isSome)) s') :
  wpAny (model X.prog X.w) A (compareOp .NotIn u (.ref a)) Q E s:=by
 rcases g with ⟨kvs,k,e,ey,l⟩ | ⟨kvs,k,b,e,ey,eb,l⟩
 ·subst ey
  obtain ⟨z,hd,vs,rel,dd⟩:=zpi I.hok e
  refine wpAny_notIn_of (zpb ry) hd dd.mapOf ?_
  rw [<- (rel.val k).zh8,<- l]
  exact h _ (I.tok _)
 ·subst ey
  cases (show u=Value.ref b from ry)
  obtain ⟨z,hd,xs,rel,dd⟩:=zph I.hok e
  refine wpAny_notIn_heap (tupleKind_room_in1 hu) (zjM I.hok eb) hd dd ?_
  have q:=(rel.val k).zh8
  rw [Option.isSome_map] at q
  rw [<- q,<- l]
  exact h _ (I.tok _)
theorem zgz {h':Heap} {t':Nat} {ob:HO} (I:Inv X pins σ H s) (mu:Mut (H a)) (hs:Heap.SameBut a s.heap h') (he:∃ q,h'.get? a=some q) (new:zbJ X.prog X.w (upd H a ob) h' a ob) :
  Inv X pins σ (upd H a ob) { s with heap:=h',toks:=t' } :=
 I.write (x:=a) (e:=a) mu (.inl rfl) (fun b q hb z=>(hs.2 b hb).trans z) he new
theorem ztU {P:Program} {w:World} {H':Hp} {h':Heap} {kvs:List (Key × V)} {vs:List (Key × Value)} (z:kvs.length<=sizeLine) (hd:(a == sysModules)=false) (rel:KV kvs vs) (dd:h'.DictOf (za6 P w) a vs) :
  zbJ P w H' h' a (.dK kvs):=⟨z,hd,vs,rel,dd⟩
theorem zis {H':Hp} {Q:Unit->Shared->Prop} (hu:A.units + 1 < cLine) (I:Inv X pins σ H s) (g:zrI H a y v H') (ry:RelV y u) (rv:RelV v r) (h:∀ s',Inv X pins σ H' s'->Q () s') :
  wpAny (model X.prog X.w) A (setItem (.ref a) u r) Q E s:=by
 rcases g with ⟨kvs,k,e,ey,l,eH⟩ | ⟨kvs,k,b,e,ey,eb,l,eH⟩
 ·subst ey eH
  obtain ⟨z,hd,vs,rel,dd⟩:=zvq I.hok e
  have hz:vs.length<=sizeLine:=by rw [<- rel.length];exact z
  have hl:(putK kvs k v).length<=sizeLine:=by have:=zdf kvs k v;omega
  refine wpAny_setItem_pairs (hsz:=hz) (zpb ry) dd fun h' dd' hs=>h _ ?_
  have he:∃ q,h'.get? a=some q:=let ⟨q,_,_,hq,_⟩:=dd';⟨q,hq⟩
  exact zgz I (by rw [e];exact True.intro) hs he (ztU hl hd (rel.put k rv) dd')
 ·subst ey eH
  cases (show u=Value.ref b from ry)
  obtain ⟨z,hd,xs,rel,dd⟩:=zxv I.hok e
  have hz:xs.length<=sizeLine:=by rw [<- Paired.length rel];exact z
  have hl:(putK kvs k v).length<=sizeLine:=by have:=zdf kvs k v;omega
  refine wpAny_setItem_heap (hsz:=hz) (tupleKind_room_in1 hu) (zjM I.hok eb) dd fun h' dd' hs=>h _ ?_
  obtain ⟨q,es,ep,hq,h2,h3,h4,_,h5⟩:=dd'
  refine zgz I (by rw [e];exact True.intro) hs ⟨q,hq⟩ ⟨hl,hd,_,(rel.put k eb rv).keeps fun c ys ec=>?_,q,es,ep,hq,h2,h3,h4,h5⟩
  exact ec.upd (fun _ z=>zlx z e (fun z=>nomatch z)) fun _ _ z=>zlx z e (fun z=>nomatch z)
end
theorem znc {X:Cx} {pins:List (Addr × Obj)} {σ:St} {H:Hp} {s:Shared} {a:Addr} {y:V} {o:Option V} (I:Inv X pins σ H s) (g:zx0 H a y o):s.TypeIs (.ref a) "dict":=by
 rcases g with ⟨kvs,k,e,_,_⟩ | ⟨kvs,k,b,e,_,_,_⟩
 ·obtain ⟨_,_,vs,_,dd⟩:=zpi I.hok e
  exact dd.typeIs
 ·obtain ⟨_,_,xs,_,dd⟩:=zph I.hok e
  exact dd.typeIs
theorem zsU {P:Program} {w:World} {H:Hp} (h:Heap) (hb:sysModules < h.objs.size):zbJ P w H (h.push { cls:=.type "dict",data:=.dict #[] }) h.objs.size (.dK []) :=
 ⟨Nat.zero_le _,beq_eq_false_iff_ne.mpr (Ne.symm (Nat.ne_of_lt hb)),[],.nil,Heap.DictOf.new h⟩
theorem zsR {P:Program} {w:World} {H:Hp} (h:Heap) (hb:sysModules < h.objs.size):zbJ P w H (h.push { cls:=.type "dict",data:=.dict #[] }) h.objs.size (.dT []) :=
 ⟨Nat.zero_le _,beq_eq_false_iff_ne.mpr (Ne.symm (Nat.ne_of_lt hb)),[],.nil,_,#[],0,Heap.get?_push_size _ rfl,⟨rfl,rfl,rfl⟩,rfl,rfl,List.nodup_nil⟩
def zvZ:TE:=fun _ H Q=>∀ p,H p=none->Q (.ref p) (upd H p (.dT []))
section
variable {X:Cx} {pos:Pos}
theorem zsk:PE X (.Dict [] [] pos) zvZ:=fun pins s σ H Q I h =>
 wpAny_Dict_empty ⟨.ref s.heap.objs.size,_,I.laid (a:=s.heap.objs.size) (o:=.dT []) (t':=s.toks) (fun _ _ q=>Heap.get?_push_of_some _ q) (Nat.le_refl _) (zsR s.heap I.big),rfl,h _ (I.hok.fresh (Nat.le_refl _))⟩
end
structure M1 (X:Cx) (o:Expr) (m:Str) (apos:Pos) (e:Expr) (cpos:Pos):Prop where
 base:attributeBase o m X.env (eval o X.env)=eval o X.env
 few:((backTo cpos (starEach [e] X.env)).all (fun x=>!x.1) && (backToKw cpos (keywordEach [] X.env)).all (fun x=>x.1.isSome)
  && decide (([e]:List Expr).length + ([]:List Keyword).length + (if ([]:List Keyword).isEmpty then 0 else 1) < 30))=true
 line:(apos.endLine == cpos.line)=true
 trees:backTo cpos (starEach [e] X.env)=[(false,eval e X.env)]
structure M2 (X:Cx) (o:Expr) (m:Str) (apos:Pos) (e f:Expr) (cpos:Pos):Prop where
 base:attributeBase o m X.env (eval o X.env)=eval o X.env
 few:((backTo cpos (starEach [e,f] X.env)).all (fun x=>!x.1) && (backToKw cpos (keywordEach [] X.env)).all (fun x=>x.1.isSome)
  && decide (([e,f]:List Expr).length + ([]:List Keyword).length + (if ([]:List Keyword).isEmpty then 0 else 1) < 30))=true
 line:(apos.endLine == cpos.line)=true
 trees:backTo cpos (starEach [e,f] X.env)=[(false,eval e X.env),(false,eval f X.env)]
def IsD (H:Hp) (a:Addr):Prop:=(∃ kvs,Rd H a (.dK kvs))\/∃ kvs,Rd H a (.dT kvs)
end L2
namespace L2
open PySem PySem.Spec PyProof.Rows
end L2
namespace L2
open PySem PySem.Spec PyProof.Rows
section
variable {prog:Program} {w:World} {A:Around} {R:Result->Shared->Prop} {s:Shared}
theorem zlY {kx vx target iter:Expr} {ifs:List Expr} {scope:Scope} {pos:Pos} {it:Value} {D:Addr} {env:Env} (I:Nat->Shared->Prop)
  (turn:∀ n s,I n s->wpAny (model prog w) A (pyNext it) (fun r s₁=>match r with
   | none=>R (.ok .next) s₁
   | some v=>wpAny (model prog w) A (letOwnedTupleGo target it v) (fun _ s₀=>wpAny (model prog w) A (assign target env v) (fun _ s₂ =>
     wpAny (model prog w) A (forIn ifs true fun c r=>if r=true then do let ok <- isTrue c env (eval c env);pure (ForInStep.yield ok) else pure (ForInStep.yield r)) (fun ok s₃ =>
      if ok=true then wpAny (model prog w) A (eval kx env) (fun kv s₄=>wpAny (model prog w) A (eval vx env) (fun vv s₅ =>
       wpAny (model prog w) A (dictSet D kv vv) (fun _ s₆=>∃ m,m < n/\I m s₆) (notedBy (model prog w) A env fun e s'=>R (.error e) s') s₅) (notedBy (model prog w) A env fun e s'=>R (.error e) s') s₄) (notedBy (model prog w) A env fun e s'=>R (.error e) s') s₃
      else ∃ m,m < n/\I m s₃) (notedBy (model prog w) A env fun e s'=>R (.error e) s') s₂) (notedBy (model prog w) A env fun e s'=>R (.error e) s') s₀) (notedBy (model prog w) A env fun e s'=>R (.error e) s') s₁) (notedBy (model prog w) A env fun e s'=>R (.error e) s') s)
  (n:Nat) (h:I n s):codeAny (model prog w) A (.compLoop (.DictComp kx vx [⟨target,iter,ifs,0⟩] scope pos) 0 it (.ref D) env) R s:=by
 refine codeAny_loop rfl I (fun n s hI=>?_) n h
 show wpAny _ A ((compTurn (.DictComp kx vx [⟨target,iter,ifs,0⟩] scope pos) 0 it (.ref D) env).onRaise (fun x=>do noteFrame x env;theTreesLotGoes x)) _ _ s
 refine wpAny_noted ?_
 rw [compTurn_dict]
 refine wpAny_bind (wpAny_standAt (wpAny_bind (wpAny_mono (turn n s hI) (fun r s₁ h₁=>?_) fun _ _ h'=>h')))
 cases r with
 | none=>exact wpAny_pure h₁
 | some v =>
  refine wpAny_bind (wpAny_mono h₁ (fun _ s₀ h₀=>?_) fun _ _ h'=>h')
  refine wpAny_bind (wpAny_mono h₀ (fun _ s₂ h₂=>wpAny_bind (wpAny_mono h₂ (fun ok s₃ h₃=>?_) fun _ _ h'=>h')) fun _ _ h'=>h')
  cases ok with
  | false=>exact wpAny_pure ⟨rfl,h₃⟩
  | true =>
   exact wpAny_bind (wpAny_bind (wpAny_mono h₃ (fun kv s₄ h₄=>wpAny_bind (wpAny_holding (wpAny_mono h₄ (fun vv s₅ h₅=>wpAny_bind (wpAny_standAt (wpAny_holding (wpAny_mono h₅ (fun _ s₆ h₆=>wpAny_pure ⟨rfl,h₆⟩) fun _ _ h'=>h')))) fun _ _ h'=>h'))) fun _ _ h'=>h'))
end
section
variable {X:Cx} {pins:List (Addr × Obj)} {σ:St} {H:Hp} {s:Shared} {a:Addr} {kvs:List (Key × V)} {k:Key} {v:V} {u r:Value} {A:Around} {E:Value->Shared->Prop}
theorem zyB {Q:Unit->Shared->Prop} (I:Inv X pins σ H s) (e:H a=some (.dK kvs)) (l:kvs.length < sizeLine) (ry:RelV (kV k) u) (rv:RelV v r) (h:∀ s',Inv X pins σ (upd H a (.dK (putK kvs k v))) s'->Q () s') :
  wpAny (model X.prog X.w) A (dictSet a u r) Q E s:=by
 obtain ⟨z,hd,vs,rel,dd⟩:=zvq I.hok e
 have hz:vs.length<=sizeLine:=by rw [<- rel.length];exact z
 have hl:(putK kvs k v).length<=sizeLine:=by have:=zdf kvs k v;omega
 refine wpAny_dictSet_pairs (hsz:=hz) (zpb ry) dd fun h' dd' hs=>h _ ?_
 have he:∃ q,h'.get? a=some q:=let ⟨q,_,_,hq,_⟩:=dd';⟨q,hq⟩
 exact zgz I (by rw [e];exact True.intro) hs he (ztU hl hd (rel.put k rv) dd')
end
end L2
namespace L2
open PySem PySem.Spec PyProof.Rows
end L2
namespace L2
open PySem PySem.Spec PyProof.Rows
end L2
namespace L2
open PySem PySem.Spec PyProof.Rows
section
variable {prog:Program} {w:World} {A:Around} {E:Value->Shared->Prop} {s:Shared} {K:Type} [DecidableEq K] {knd:PySem.KeyKind prog w K}
theorem zl0 {d:Addr} {kvs:List (K × Value)} {ep:Nat} {Q:List Value->Shared->Prop} (hh:A.handled=none) (sy:(d == sysModules)=false) (hm:s.heap.DictAt knd d kvs ep) (hn:kvs.length<=1000)
  (hQ:∀ s' (acc:Array Value),(∀ b o,s.heap.get? b=some o->s'.heap.get? b=some o)->s'.gens=s.gens->s'.drawn=s.drawn->s'.os=s.os->s.heap.objs.size<=s'.heap.objs.size->ItemsOf (fun i v=>∃ k x,kvs[i]?=some (k,x)/\knd.is k v=true) acc kvs.length->Q acc.toList s') :
  wpAny (model prog w) A (collect (.ref d)) Q E s:=by
 unfold collect
 refine wpAny_bind (wpAny_runValue (codeAny_builtin F.entry_proto_collect ?_))
 rw [Around.under_plainId F.plain_proto_collect _]
 show wpAny _ A.in1 (newList [] >>= fun l=>again (.builtin "list.__iadd__" ⟨[l,.ref d],[]⟩)) _ _ s
 refine wpAny_bind (wpAny_newObj_type ?_)
 refine wpAny_pure ⟨plainId_quiet F.plain_list_iadd _,codeAny_builtin F.entry_list_iadd ?_⟩
 rw [Around.under_plainId F.plain_list_iadd _]
 have dl:=hm.lt_size
 have hm1:=hm.push { cls:=.type "list",data:=.seq ([]:List Value).toArray }
 have hSd:s.heap.objs.size ≠ d:=Nat.ne_of_gt dl
 have h1:Builtin.List.listSameRef (.ref s.heap.objs.size) (.ref d)=false:=by simp [Builtin.List.listSameRef,hSd]
 show wpAny _ A.in1 (Builtin.List.listExtendWith (.ref s.heap.objs.size) (.ref d) (.ref s.heap.objs.size)) _ _ _
 unfold Builtin.List.listExtendWith
 refine wpAny_bind (wpAny_typeOf (s:={ s with heap:=s.heap.push { cls:=.type "list",data:=.seq ([]:List Value).toArray } }) hm1.dictOf.typeIs ?_)
 rw [if_neg (by rw [h1];decide)]
 refine wpAny_bind (wpAny_pyIter_dict (s:={ s with heap:=s.heap.push { cls:=.type "list",data:=.seq ([]:List Value).toArray } }) sy hm1 ?_)
 refine wpAny_bind (wpAny_holding ?_)
 have I2:s.heap.objs.size + 1=(s.heap.push { cls:=.type "list",data:=.seq ([]:List Value).toArray }).objs.size:=(Heap.size_push ..).symm
 have hm2:=hm1.push { cls:=.type "dict_keyiterator",data:=.fields #[.ref d,.int 0 0,.int kvs.length 0,.int ep 0] }
 unfold Builtin.List.listLengthHint
 refine wpAny_bind (wpAny_specialOf hm2.dictOf.typeIs F.slot_dict_len.lookup ?_)
 generalize hid:("dict.__len__":String)=id0
 wp_delta
 rw [show splitId id0=some ("dict","__len__") from by subst hid;decide +kernel]
 subst hid
 refine wpAny_bind (wpAny_isInstance (b:=true) hm2.dictOf.typeIs (by rw [isSubtype_type];kernel_rfl) ?_)
 rw [if_neg (by decide)]
 dsimp only
 rw [if_pos (by decide +kernel)]
 refine wpAny_bind (wpAny_typeOf hm2.dictOf.typeIs ?_)
 refine wpAny_pure ?_
 rw [if_pos (by decide +kernel)]
 refine wpAny_bind (wpAny_rule ?_)
 unfold Builtin.List.listTouch
 have hS0:((s.heap.push { cls:=.type "list",data:=.seq ([]:List Value).toArray }).push { cls:=.type "dict_keyiterator",data:=.fields #[.ref d,.int 0 0,.int kvs.length 0,.int ep 0] }).get? s.heap.objs.size=some (seqObj "list" #[] 0):=Heap.get?_push_of_some _ (Heap.get?_push_size _ rfl)
 refine wpAny_bind (wpAny_bind (listUpdate_at hS0 rfl ?_ (Nat.zero_le _) (by show 1<=sizeLine + 1;omega)))
 have hS1:=get?_update_seq hS0 (·.push .none)
 refine listUpdate_at hS1 rfl ?_ (by show 1<=sizeLine;rw [sizeLine_eq];decide) (by show 0<=sizeLine + 1;omega)
 have hS2:=get?_update_seq hS1 (·.pop)
 have up:∀ b o,b ≠ s.heap.objs.size->((s.heap.push { cls:=.type "list",data:=.seq ([]:List Value).toArray }).push { cls:=.type "dict_keyiterator",data:=.fields #[.ref d,.int 0 0,.int kvs.length 0,.int ep 0] }).get? b=some o ->
   ((((s.heap.push { cls:=.type "list",data:=.seq ([]:List Value).toArray }).push { cls:=.type "dict_keyiterator",data:=.fields #[.ref d,.int 0 0,.int kvs.length 0,.int ep 0] }).update s.heap.objs.size (Obj.mapSeq fun x=>x.push Value.none)).update s.heap.objs.size (Obj.mapSeq fun x=>x.pop)).get? b=some o:=fun b o hb e =>
  (((Heap.SameBut.update ..).2 b hb).trans ((Heap.SameBut.update ..).2 b hb)).trans e
 have hI:((s.heap.push { cls:=.type "list",data:=.seq ([]:List Value).toArray }).push { cls:=.type "dict_keyiterator",data:=.fields #[.ref d,.int 0 0,.int kvs.length 0,.int ep 0] }).get? (s.heap.push { cls:=.type "list",data:=.seq ([]:List Value).toArray }).objs.size=some { cls:=.type "dict_keyiterator",data:=.fields #[.ref d,.int 0 0,.int kvs.length 0,.int ep 0] }:=Heap.get?_push_size _ rfl
 have neI:(s.heap.push { cls:=.type "list",data:=.seq ([]:List Value).toArray }).objs.size ≠ s.heap.objs.size:=by rw [<- I2];omega
 have old:∀ b o,s.heap.get? b=some o->((s.heap.push { cls:=.type "list",data:=.seq ([]:List Value).toArray }).push { cls:=.type "dict_keyiterator",data:=.fields #[.ref d,.int 0 0,.int kvs.length 0,.int ep 0] }).get? b=some o:=fun b o e=>Heap.get?_push_of_some _ (Heap.get?_push_of_some _ e)
 generalize ((((s.heap.push { cls:=.type "list",data:=.seq ([]:List Value).toArray }).push { cls:=.type "dict_keyiterator",data:=.fields #[.ref d,.int 0 0,.int kvs.length 0,.int ep 0] }).update s.heap.objs.size (Obj.mapSeq fun x=>x.push Value.none)).update s.heap.objs.size (Obj.mapSeq fun x=>x.pop))=h5 at hS2 up ⊢
 have st:h5.IsKeyIter (s.heap.push { cls:=.type "list",data:=.seq ([]:List Value).toArray }).objs.size d 0 kvs.length ep:=⟨_,up _ _ neI hI,rfl,rfl⟩
 have da:h5.DictAt knd d kvs ep:=hm2.at' fun o e=>up d o (Ne.symm hSd) e
 generalize hIa:(s.heap.push { cls:=.type "list",data:=.seq ([]:List Value).toArray }).objs.size=Ia at st neI hI ⊢
 have ia:Ia=s.heap.objs.size + 1:=by rw [<- hIa];exact I2.symm
 have ne:d ≠ Ia:=by rw [ia];exact Nat.ne_of_lt (Nat.lt_succ_of_lt dl)
 have nS:s.heap.objs.size ∉ [Ia,d]:=fun h=>by
  rcases List.mem_cons.mp h with c | c
  ·exact neI c.symm
  ·exact hSd (List.mem_singleton.mp c)
 have W:=(Walks.dictKeys (knd:=knd) (A:=A.in1) hh Ia d ne kvs ep).toS
 refine wpAny_pure ⟨plainId_quiet F.plain_extend_loop _,codeAny_extend_loopS W (by rw [sizeLine_eq];omega) s.heap.objs.size nS _ kvs.length 0 _ _ _ rfl (Nat.zero_le _) ⟨st,da⟩ hS2 (ItemsOf.nil _) fun s' acc' c' mv hS' hacc=>?_⟩
 show wpAny _ A (load s.heap.objs.size >>= _) _ _ s'
 refine wpAny_bind (wpAny_load hS' ?_)
 refine wpAny_pure (hQ s' acc' (fun b o e=>?_) mv.gens mv.drawn mv.os (Nat.le_of_lt (Heap.lt_size hS')) hacc)
 have lt:=Heap.lt_size e
 have b1:b ≠ s.heap.objs.size:=Nat.ne_of_lt lt
 have b2:b ≠ Ia:=by rw [ia];exact Nat.ne_of_lt (Nat.lt_succ_of_lt lt)
 refine mv.heap b o (fun h=>?_) (up b o b1 (old b o e))
 rcases List.mem_cons.mp h with c | c
 ·exact b1 c
 ·exact b2 (List.mem_singleton.mp c)
end
end L2
namespace L2
open PySem PySem.Spec PyProof.Rows
theorem zjx:∀ {us:List Value} {ns:List Int},IntsAre us ns->Vals (ns.map V.int) us
 | _,_,.nil=>.nil
 | _,_,.cons _ _ t=>.cons ⟨_,rfl⟩ (zjx t)
theorem zmD:∀ {xs:List V} {us:List Value},xs.length=us.length->(∀ (j:Nat) x u,xs[j]?=some x->us[j]?=some u->RelV x u)->Vals xs us
 | [],[],_,_=>.nil
 | x :: xs,u :: us,l,h=>.cons (h 0 x u rfl rfl) (zmD (by simpa using l) fun j y v e1 e2=>h (j + 1) y v (by simpa using e1) (by simpa using e2))
end L2
namespace L2
open PySem PySem.Spec PyProof.Rows
end L2
namespace L2
open PySem PySem.Spec PyProof.Rows
end L2
namespace PySem
open Spec
end PySem
namespace L2
open PySem PySem.Spec PyProof.Rows
section
variable {X:Cx} {o i:Expr} {td ty:TE} {pos tpos:Pos}
variable {pins:List (Addr × Obj)} {σ:St} {H:Hp} {s:Shared} {a:Addr}
theorem Inv.kt (I:Inv X pins σ H s) (e:H a=some (.dK [])):Inv X pins σ (upd H a (.dT [])) s:=by
 obtain ⟨z,hd,vs,rel,dd⟩:=zvq I.hok e
 have ev:vs=[]:=by cases rel;rfl
 subst ev
 obtain ⟨q,es,ep,hq,h2,h3,h4,h5,h6⟩:=dd
 have:=zgz (t':=s.toks) I (by rw [e];exact True.intro) (Heap.SameBut.refl a s.heap) ⟨q,hq⟩ (ob:=.dT []) ⟨Nat.zero_le _,hd,[],.nil,q,es,ep,hq,h2,h3,?_,?_⟩
 ·exact this
 ·exact List.eq_nil_of_length_eq_zero (by have:=h5.length;simpa using this)
 ·exact List.nodup_nil
end
end L2
namespace PySem
open Spec
section
variable {prog:Program} {w:World} {A:Around} {E:Value->Shared->Prop} {s:Shared}
structure DEs (h:Heap) (d:Addr) (es:Array DictEntry) (ep:Nat):Prop where
 ex:∃ o,h.get? d=some o/\o.ExactDict/\o.data=.dict es ep
theorem DEs.typ {d:Addr} {es:Array DictEntry} {ep:Nat} (x:DEs s.heap d es ep):s.TypeIs (.ref d) "dict":=by
 obtain ⟨o,ho,hc,_⟩:=x.ex
 exact ⟨o,ho,hc.1⟩
theorem zxb {d:Addr} {es:Array DictEntry} {ep:Nat} {Q:Value->Shared->Prop} (hd:(d == sysModules)=false) (x:DEs s.heap d es ep)
  (hQ:Q (.ref s.heap.objs.size) { s with heap:=s.heap.push { cls:=.type "dict_keyiterator",data:=.fields #[.ref d,.int 0 0,.int es.size 0,.int ep 0] } }):wpAny (model prog w) A (pyIter (.ref d)) Q E s:=by
 obtain ⟨o,ho,hc,hdat⟩:=x.ex
 have hT:=x.typ
 refine wpAny_pyIter_slot hT F.slot_dict_iter (wpAny_call_entry F.slot_dict_iter hT F.entry_dict_iter ?_ (F.args_dict_iter_1 _))
 unfold Builtin.«dict.__iter__» Builtin.Dict.dictSlotNone
 refine wpAny_bind (wpAny_bind (wpAny_notOrdered_dict hT ?_))
 show wpAny _ _ (pure (Value.ref d)) _ _ s
 refine wpAny_pure ?_
 show wpAny _ _ (Builtin.Dict.showsAll d >>= _) _ _ s
 unfold Builtin.Dict.showsAll
 rw [if_neg (by rw [hd];exact Bool.false_ne_true)]
 refine wpAny_bind (wpAny_pure (wpAny_bind (wpAny_dictEntries ho hdat (wpAny_bind (wpAny_dictEpoch ho hdat ?_)))))
 refine wpAny_bind (wpAny_newObj_type (wpAny_pure ⟨_,rfl,"dict_keyiterator",_,⟨_,Heap.get?_push_size _ rfl,rfl⟩,F.slot_dict_keyiterator_next.lookup,?_⟩))
 simpa [rawInt] using hQ
theorem zwP {it d:Addr} {i ep:Nat} {es:Array DictEntry} {Q:Option Value->Shared->Prop} (hit:s.heap.IsKeyIter it d i es.size ep) (x:DEs s.heap d es ep) (hi:i < es.size)
  (hQ:∀ h',h'.IsKeyIter it d (i + 1) es.size ep->Heap.SameBut it s.heap h'->Q (some es[i].key) { s with heap:=h' }):wpAny (model prog w) A (pyNext (.ref it)) Q E s:=by
 obtain ⟨o,ho,hc,hd⟩:=id hit
 obtain ⟨od,hod,hcd,hdd⟩:=x.ex
 unfold pyNext
 refine wpAny_bind (wpAny_attempt (wpAny_callSpecial?_slot (name:=Str.ofString "__next__") hit.typeIs F.slot_dict_keyiterator_next (wpAny_call_entry F.slot_dict_keyiterator_next hit.typeIs F.entry_dict_keyiterator_next ?_ (F.args_dict_keyiterator_next_1 _))))
 refine wpAny_bind (wpAny_pure (wpAny_bind (wpAny_bind ?_)))
 first | refine wpAny_bind (wpAny_typeNameOfWhole_keyiter hit.typeIs (wpAny_pure ?_)) | refine wpAny_bind (wpAny_typeNameOf_keyiter hit.typeIs (wpAny_pure ?_))
 refine wpAny_bind (wpAny_fieldsOf ho hd ?_)
 have hown:Builtin.Dict_items.ownsTuple "dict_keyiterator"=false:=by decide
 simp only [hown,Bool.false_eq_true,if_false]
 show wpAny _ _ (if (Value.ref d == Value.none)=true then _ else _) _ _ s
 rw [if_neg (show ¬ ((Value.ref d == Value.none)=true) from Bool.false_ne_true)]
 refine wpAny_bind (wpAny_pure (wpAny_bind (wpAny_dictEntries hod hdd ?_)))
 rw [if_neg (by simp)]
 refine wpAny_bind (wpAny_pure (wpAny_bind (wpAny_dictEpoch hod hdd ?_)))
 rw [if_neg (by simp)]
 refine wpAny_pure ?_
 simp only [show ¬ ((i:Int) < 0) from by omega,if_false,Int.toNat_natCast,Array.getElem?_eq_getElem hi]
 refine wpAny_bind ?_
 first | refine wpAny_bind (wpAny_typeNameOfWhole_keyiter hit.typeIs (wpAny_pure ?_)) | refine wpAny_bind (wpAny_typeNameOf_keyiter hit.typeIs (wpAny_pure ?_))
 refine wpAny_bind (wpAny_isOneOf_keyiter hit.typeIs ?_)
 show wpAny _ _ (setField (.ref it) 1 (rawInt ((i:Int) + 1)) >>= _) _ _ s
 refine wpAny_bind (wpAny_setField ho hd (by simp) ?_)
 have hit':(s.heap.update it (Obj.mapFields (·.setIfInBounds 1 (rawInt ((i:Int) + 1))))).IsKeyIter it d (i + 1) es.size ep :=
  ⟨_,Heap.get?_update_self _ ho (Obj.isFreed_of_fields (Obj.data_mapFields hd _)),(Obj.cls_mapFields ..).trans hc,by rw [Obj.data_mapFields hd];simp [rawInt]⟩
 refine wpAny_bind (wpAny_holding (wpAny_bind (wpAny_isOneOf_keyiter (s:={ s with heap:=s.heap.update it (Obj.mapFields (·.setIfInBounds 1 (rawInt ((i:Int) + 1)))) }) hit'.typeIs ?_)))
 show wpAny _ _ (pure es[i].key) _ _ _
 exact wpAny_pure (wpAny_pure ⟨_,rfl,wpAny_pure (hQ _ hit' (Heap.SameBut.update ..))⟩)
theorem zyW {it d:Addr} {i ep:Nat} {es:Array DictEntry} {Q:Option Value->Shared->Prop} (hh:A.handled=none) (hit:s.heap.IsKeyIter it d i es.size ep) (x:DEs s.heap d es ep) (hge:es.size<=i)
  (hQ:∀ h',Heap.ExtBut it s.heap h'->Q none { s with heap:=h' }):wpAny (model prog w) A (pyNext (.ref it)) Q E s:=by
 obtain ⟨o,ho,hc,hd⟩:=id hit
 obtain ⟨od,hod,hcd,hdd⟩:=x.ex
 unfold pyNext
 refine wpAny_bind (wpAny_attempt (wpAny_callSpecial?_slot (name:=Str.ofString "__next__") hit.typeIs F.slot_dict_keyiterator_next (wpAny_call_entry F.slot_dict_keyiterator_next hit.typeIs F.entry_dict_keyiterator_next ?_ (F.args_dict_keyiterator_next_1 _))))
 refine wpAny_bind (wpAny_pure (wpAny_bind (wpAny_bind ?_)))
 first | refine wpAny_bind (wpAny_typeNameOfWhole_keyiter hit.typeIs (wpAny_pure ?_)) | refine wpAny_bind (wpAny_typeNameOf_keyiter hit.typeIs (wpAny_pure ?_))
 refine wpAny_bind (wpAny_fieldsOf ho hd ?_)
 have hown:Builtin.Dict_items.ownsTuple "dict_keyiterator"=false:=by decide
 simp only [hown,Bool.false_eq_true,if_false]
 show wpAny _ _ (if (Value.ref d == Value.none)=true then _ else _) _ _ s
 rw [if_neg (show ¬ ((Value.ref d == Value.none)=true) from Bool.false_ne_true)]
 refine wpAny_bind (wpAny_pure (wpAny_bind (wpAny_dictEntries hod hdd ?_)))
 rw [if_neg (by simp)]
 refine wpAny_bind (wpAny_pure (wpAny_bind (wpAny_dictEpoch hod hdd ?_)))
 rw [if_neg (by simp)]
 refine wpAny_pure ?_
 simp only [show ¬ ((i:Int) < 0) from by omega,if_false,Int.toNat_natCast,Array.getElem?_eq_none hge]
 refine wpAny_bind ?_
 first | refine wpAny_bind (wpAny_typeNameOfWhole_keyiter hit.typeIs (wpAny_pure ?_)) | refine wpAny_bind (wpAny_typeNameOf_keyiter hit.typeIs (wpAny_pure ?_))
 show wpAny _ _ (setField (.ref it) 0 .none >>= _) _ _ s
 refine wpAny_bind (wpAny_setField ho hd (by simp) ?_)
 show wpAny _ _ (newExc (.type "StopIteration") [] >>= _) _ _ _
 refine wpAny_bind ?_
 simp only [newExc,newTuple]
 refine wpAny_bind (wpAny_newObj_type ?_ (by size_fits))
 refine wpAny_bind (m:=firstArgMember _ _) (wpAny_of_eq (a:=Value.none) (by first | rfl | (simp only [firstArgMember];rfl)) ?_)
 refine wpAny_newObj_type ?_ (by size_fits)
 simp only [raiseNew]
 refine wpAny_bind (wpAny_handled ?_)
 rw [show A.in1.handled=none from hh]
 refine wpAny_bind (wpAny_pure (wpAny_throw ?_))
 refine wpAny_bind (wpAny_isInstance (T:="StopIteration") (b:=true) ⟨_,Heap.get?_push_size _ rfl,rfl⟩ isSubtype_stop ?_)
 exact wpAny_pure (hQ _ (((Heap.SameBut.update ..).extBut.push _).push _))
end
end PySem
namespace L2
open PySem PySem.Spec PyProof.Rows
def zyI (d:Addr) (o:Obj) (kvs:List (List Key × V)):It :=
 ⟨fun i H=>H d=some (.frz o (.dT kvs))/\i < kvs.length,fun i H x H'=>H'=H/\∃ k v b,kvs[i]?=some (k,v)/\x=.ref b/\TAt H b (k.map kV),fun i H=>H d=some (.frz o (.dT kvs))/\kvs.length<=i⟩
theorem zm8 {P:Program} {w:World} {H:Hp} {h:Heap} {d:Addr} {o:Obj} {kvs:List (List Key × V)} {es:Array DictEntry} {ep:Nat} (ok:zbJ P w H h d (.frz o (.dT kvs))) (hd:o.data=.dict es ep) :
  ∃ xs,KT H kvs xs/\DEs h d es ep/\es.toList=xs.map (entryOfKey (tupleKind (za6 P w)))/\(d == sysModules)=false:=by
 obtain ⟨e,_,sy,xs,kt,o',es',ep',e',r1,r2,r3,r4⟩:=ok
 rw [e] at e'
 cases e'
 rw [hd] at r2
 cases r2
 exact ⟨xs,kt,⟨o,e,r1,hd⟩,r3,sy⟩
theorem zoJ {P:Program} {w:World} {K:PySem.W.Frag} {tg:Expr} {o:Obj} {es:Array DictEntry} {ep:Nat} {kvs:List (List Key × V)} (d it:Addr) (hdat:o.data=.dict es ep) :
  Turn P w K tg (zyI d o kvs) [it] it (fun i h=>h.IsKeyIter it d i es.size ep) where
 mem:=by simp
 obj:=fun i h st b hb=>by
  have e:b=it:=by simpa using hb
  subst e
  obtain ⟨o,e,c,d⟩:=st
  exact ⟨o,e,fun v z=>by rw [d] at z;cases z⟩
 keep:=fun i h h' st k=>st.at fun o e=>k it (by simp) o e
 item:=by
  intro X hP hw hK hc i pins s σ H E I hf st hg
  subst hP hw hK
  obtain ⟨hd,hi⟩:=hg
  obtain ⟨xs,kt,da,he,_⟩:=zm8 (I.hok d _ hd) hdat
  have hl:kvs.length=xs.length:=Paired.length kt
  have hsz:es.size=xs.length:=size_of_entries he
  obtain ⟨⟨k',b,v'⟩,ev,rk,rb,rv⟩:=zex kt (List.getElem?_eq_getElem hi)
  obtain ⟨f0,f1,f2,f3,f4,f5⟩:=hf it (by simp)
  have hi':i < es.size:=by omega
  have hk:es[i].key=.ref b:=by
   have:=entry_at he i
   rw [ev,Array.getElem?_eq_getElem hi'] at this
   simp only [Option.map_some,Option.some.injEq] at this
   rw [this]
   rfl
  refine zwP st da hi' fun h' st2 sb=>?_
  have I1:Inv X pins σ H { s with heap:=h' }:=I.turned (t':=s.toks) (fun b o hb e=>(sb.2 b hb).trans e) f0 f1 f3 f4 f5
  obtain ⟨o,e,c,dd⟩:=id st2
  rw [hk]
  exact ⟨.ref b,rfl,zqS (s:={ s with heap:=h' }) e c dd (by decide) ⟨.ref b,H,I1,rfl,⟨rfl,kvs[i].1,kvs[i].2,b,List.getElem?_eq_getElem hi,rfl,rb⟩,st2,fun b hb=>(hf b hb).1⟩⟩
 done:=by
  intro X hP hw hK hc i pins s σ H E I hf st hg
  subst hP hw hK
  obtain ⟨hd,hi⟩:=hg
  obtain ⟨xs,kt,da,he,_⟩:=zm8 (I.hok d _ hd) hdat
  have hl:kvs.length=xs.length:=Paired.length kt
  have hsz:es.size=xs.length:=size_of_entries he
  obtain ⟨f0,f1,f2,f3,f4,f5⟩:=hf it (by simp)
  exact zyW (I.ok.hd hc) st da (by omega) fun h' eb=>⟨rfl,I.turned (t':=s.toks) (fun b o hb e=>eb b o hb e) f0 f1 f3 f4 f5⟩
 self:=fun _ _ _ _ _ st h=>wpAny_pyIter_keyiter st h
end L2
namespace L2
open PySem PySem.Spec PyProof.Rows
theorem zxt {P:Program} {w:World} {H:Hp} {h:Heap} {a:Addr} (ok:HOk P w H h) (e:Rd H a (.dK [])):(a == sysModules)=false/\h.DictOfH (tupleKind (za6 P w)) a []:=by
 obtain ⟨z,hd,vs,rel,dd⟩:=zpi ok e
 have ev:vs=[]:=by cases rel;rfl
 subst ev
 obtain ⟨q,es,ep,hq,h2,h3,h4,h5,h6⟩:=dd
 exact ⟨hd,q,es,ep,hq,h2,h3,List.eq_nil_of_length_eq_zero (by have:=h5.length;simpa using this),(fun x hx=>nomatch hx),List.nodup_nil⟩
theorem ztT {P:Program} {w:World} {H:Hp} {h:Heap} {a:Addr} (ok:HOk P w H h) (e:Rd H a (.dT [])):(a == sysModules)=false/\h.DictOf (za6 P w) a []:=by
 obtain ⟨z,hd,xs,rel,dd⟩:=zph ok e
 have ev:xs=[]:=by cases rel;rfl
 subst ev
 obtain ⟨q,es,ep,hq,h2,h3,h4,h5,h6⟩:=dd
 have he:es=#[]:=by
  apply Array.ext'
  rw [h4];rfl
 subst he
 exact ⟨hd,q,#[],ep,hq,h2,h3,fun e he=>by simp at he,.nil,List.nodup_nil⟩
def DG (H:Hp) (a:Addr) (y:V) (r:Option V):Prop :=
 zx0 H a y r\/(r=none/\Rd H a (.dK [])/\∃ (b:Addr) (k:List Key),y=.ref b/\TAt H b (k.map kV))\/(r=none/\Rd H a (.dT [])/\∃ k:Key,y=kV k)
section
variable {X:Cx} {pins:List (Addr × Obj)} {σ:St} {H:Hp} {s:Shared} {a:Addr} {y v d:V} {u r:Value} {o:Option V} {A:Around} {E:Value->Shared->Prop}
theorem zsV {Q:Value->Shared->Prop} (hu:A.units + 1 < cLine) (I:Inv X pins σ H s) (g:DG H a y o) (ry:RelV y u) (h:∀ s',Inv X pins σ H s'->Q (.bool (!o.isSome)) s') :
  wpAny (model X.prog X.w) A (compareOp .NotIn u (.ref a)) Q E s:=by
 rcases g with g | ⟨rfl,e,b,k,rfl,eb⟩ | ⟨rfl,e,k,rfl⟩
 ·exact zvu hu I g ry h
 ·cases (show u=Value.ref b from ry)
  obtain ⟨hd,dd⟩:=zxt I.hok e
  exact wpAny_notIn_heap (tupleKind_room_in1 hu) (zjM I.hok eb) hd dd (h _ (I.tok _))
 ·obtain ⟨hd,dd⟩:=ztT I.hok e
  exact wpAny_notIn_of (zpb ry) hd dd.mapOf (h _ (I.tok _))
def DP (H:Hp) (a:Addr) (y v:V) (H':Hp):Prop :=
 zrI H a y v H'\/(∃ (k:List Key) (b:Addr),H a=some (.dK [])/\y=.ref b/\TAt H b (k.map kV)/\H'=upd H a (.dT [(k,v)]))\/∃ k:Key,H a=some (.dT [])/\y=kV k/\H'=upd H a (.dK [(k,v)])
theorem Inv.tk (I:Inv X pins σ H s) (e:H a=some (.dT [])):Inv X pins σ (upd H a (.dK [])) s:=by
 obtain ⟨hd,dd⟩:=ztT I.hok (.inl e)
 obtain ⟨q,es,ep,hq,rest⟩:=id dd
 exact zgz (t':=s.toks) I (by rw [e];exact True.intro) (Heap.SameBut.refl a s.heap) ⟨q,hq⟩ (ob:=.dK []) ⟨Nat.zero_le _,hd,[],.nil,dd⟩
theorem zxx {H':Hp} {Q:Unit->Shared->Prop} (hu:A.units + 1 < cLine) (I:Inv X pins σ H s) (g:DP H a y v H') (ry:RelV y u) (rv:RelV v r) (h:∀ s',Inv X pins σ H' s'->Q () s') :
  wpAny (model X.prog X.w) A (setItem (.ref a) u r) Q E s:=by
 rcases g with g | ⟨k,b,e,rfl,eb,rfl⟩ | ⟨k,e,rfl,rfl⟩
 ·exact zis hu I g ry rv h
 ·have eb':TAt (upd H a (.dT [])) b (k.map kV):=eb.upd (fun _ z=>zlx z e (fun z=>nomatch z)) fun _ _ z=>zlx z e (fun z=>nomatch z)
  have g:=zrI.t (H:=upd H a (.dT [])) (a:=a) (v:=v) zao eb' (by decide)
  rw [zhF] at g
  exact zis hu (I.kt e) g ry rv h
 ·have g:=zrI.k (H:=upd H a (.dK [])) (a:=a) (k:=k) (v:=v) zao (by decide)
  rw [zhF] at g
  exact zis hu (I.tk e) g ry rv h
end
section
variable {X:Cx} {o i e f value:Expr} {apos cpos pos pos':Pos} {td ty tx tv:TE}
def zx7 (td ty tv:TE):TS:=fun D σ H=>tv σ H fun v H1=>td σ H1 fun x H2=>ty σ H2 fun y H3=>∃ a H4,x=.ref a/\DP H3 a y v H4/\D.nx σ H4
theorem zuD (hu:X.A.units + 1 < cLine) (ho:PE X o td) (hi:PE X i ty) (hv:PE X value tv) (hs:swapsWith value (some (.Subscript o i pos')) pos.line X.env=pure false) :
  PS X (.Assign [.Subscript o i pos'] value pos) (zx7 td ty tv):=by
 intro pins s σ H D I h
 refine wpAny_Assign_Subscript (thn (hv pins s σ H _ I h) fun r s1 ⟨v,H1,I1,rv,q1⟩=>thn (ho pins s1 σ H1 _ I1 q1) fun u s2 ⟨x,H2,I2,rx,q2⟩=>thn (hi pins s2 σ H2 _ I2 q2) fun iv s3 ⟨y,H3,I3,ry,a,H4,ex,g,q3⟩=>?_) hs
 subst ex
 obtain rfl:u=Value.ref a:=rx
 exact zxx hu I3 g ry rv fun s4 I4=>⟨σ,H4,I4,q3⟩
end
end L2
namespace L2
open PySem PySem.Spec PyProof.Rows PySem.W
abbrev gp (p:Array Nat) (i:Nat):Nat:=p.getD i 0
section
variable {lt:Nat->Nat->Bool} {n:Nat} {cmp:Nat->Nat->(Bool->Shared->Prop)->Shared->Prop} {P:Shared->Prop}
structure Ord (lt:Nat->Nat->Bool):Prop where
 tr:∀ i j k,lt j i=false->lt k j=false->lt k i=false
 as:∀ i j,lt i j=true->lt j i=false
def Dn (lt:Nat->Nat->Bool) (p:Array Nat) (m:Nat):Prop:=∀ i j,i<=j->j < m->lt (gp p i) (gp p j)=false
structure Arr (n:Nat) (p:Array Nat):Prop where
 sz:p.size=n
 pm:p.Perm (List.toArray (List.range n))
end
end L2
namespace PySem
open Spec PyProof.Rows
section
variable {prog:Program} {w:World} {A:Around} {E:Value->Shared->Prop} {s:Shared}
theorem DEs.at {h h':Heap} {d:Addr} {es:Array DictEntry} {ep:Nat} (x:DEs h d es ep) (k:∀ o,h.get? d=some o->h'.get? d=some o):DEs h' d es ep:=by
 obtain ⟨o,e,r⟩:=x.ex
 exact ⟨o,k o e,r⟩
theorem zvS (hh:A.handled=none) (I d:Addr) (hne:d ≠ I) (es:Array DictEntry) (ep:Nat) :
  Walks prog w A I [I,d] [I] es.size (fun i v=>∃ h:i < es.size,v=es[i].key) (fun i h=>h.IsKeyIter I d i es.size ep/\DEs h d es ep) where
 sub:=fun b hb=>by simp at hb;simp [hb]
 frame:=fun _ _ _ st hk=>⟨st.1.at fun o e=>hk I (by simp) o e,st.2.at fun o e=>hk d (by simp) o e⟩
 item:=fun i s Q E hi st hQ=>by
  refine zwP st.1 st.2 hi fun h' hit' hs'=>?_
  exact hQ _ h' s.toks ⟨hi,rfl⟩ ⟨hit',st.2.at fun o e=>hs'.extBut d o hne e⟩ fun b o hb e=>hs'.extBut b o (fun h=>hb (by simp [h])) e
 done:=fun s Q E st hQ=>zyW hh st.1 st.2 (Nat.le_refl _) fun h' he'=>hQ h' s.toks fun b o hb e=>he' b o (fun h=>hb (by simp [h])) e
 self:=fun _ _ _ _ st hQ=>wpAny_pyIter_keyiter st.1 hQ
theorem zsZ {d:Addr} {es:Array DictEntry} {ep:Nat} {Q:List Value->Shared->Prop} (hh:A.handled=none) (sy:(d == sysModules)=false) (hm:DEs s.heap d es ep) (hn:es.size<=1000)
  (hQ:∀ s' (acc:Array Value),(∀ b o,s.heap.get? b=some o->s'.heap.get? b=some o)->s'.gens=s.gens->s'.drawn=s.drawn->s'.os=s.os->s.heap.objs.size<=s'.heap.objs.size->ItemsOf (fun i v=>∃ h:i < es.size,v=es[i].key) acc es.size->Q acc.toList s') :
  wpAny (model prog w) A (collect (.ref d)) Q E s:=by
 obtain ⟨od,hod,hxd,hdd⟩:=hm.ex
 have dl:=Heap.lt_size hod
 unfold collect
 refine wpAny_bind (wpAny_runValue (codeAny_builtin F.entry_proto_collect ?_))
 rw [Around.under_plainId F.plain_proto_collect _]
 show wpAny _ A.in1 (newList [] >>= fun l=>again (.builtin "list.__iadd__" ⟨[l,.ref d],[]⟩)) _ _ s
 refine wpAny_bind (wpAny_newObj_type ?_)
 refine wpAny_pure ⟨plainId_quiet F.plain_list_iadd _,codeAny_builtin F.entry_list_iadd ?_⟩
 rw [Around.under_plainId F.plain_list_iadd _]
 have hm1:DEs (s.heap.push { cls:=.type "list",data:=.seq ([]:List Value).toArray }) d es ep:=hm.at fun o e=>Heap.get?_push_of_some _ e
 have hSd:s.heap.objs.size ≠ d:=Nat.ne_of_gt dl
 have h1:Builtin.List.listSameRef (.ref s.heap.objs.size) (.ref d)=false:=by simp [Builtin.List.listSameRef,hSd]
 show wpAny _ A.in1 (Builtin.List.listExtendWith (.ref s.heap.objs.size) (.ref d) (.ref s.heap.objs.size)) _ _ _
 unfold Builtin.List.listExtendWith
 refine wpAny_bind (wpAny_typeOf (s:={ s with heap:=s.heap.push { cls:=.type "list",data:=.seq ([]:List Value).toArray } }) hm1.typ ?_)
 rw [if_neg (by rw [h1];decide)]
 refine wpAny_bind (zxb (s:={ s with heap:=s.heap.push { cls:=.type "list",data:=.seq ([]:List Value).toArray } }) sy hm1 ?_)
 refine wpAny_bind (wpAny_holding ?_)
 have I2:s.heap.objs.size + 1=(s.heap.push { cls:=.type "list",data:=.seq ([]:List Value).toArray }).objs.size:=(Heap.size_push ..).symm
 have hm2:DEs ((s.heap.push { cls:=.type "list",data:=.seq ([]:List Value).toArray }).push { cls:=.type "dict_keyiterator",data:=.fields #[.ref d,.int 0 0,.int es.size 0,.int ep 0] }) d es ep:=hm1.at fun o e=>Heap.get?_push_of_some _ e
 have ty2:=DEs.typ (s:={ s with heap:=(s.heap.push { cls:=.type "list",data:=.seq ([]:List Value).toArray }).push { cls:=.type "dict_keyiterator",data:=.fields #[.ref d,.int 0 0,.int es.size 0,.int ep 0] } }) hm2
 unfold Builtin.List.listLengthHint
 refine wpAny_bind (wpAny_specialOf ty2 F.slot_dict_len.lookup ?_)
 generalize hid:("dict.__len__":String)=id0
 wp_delta
 rw [show splitId id0=some ("dict","__len__") from by subst hid;decide +kernel]
 subst hid
 refine wpAny_bind (wpAny_isInstance (b:=true) ty2 (by rw [isSubtype_type];kernel_rfl) ?_)
 rw [if_neg (by decide)]
 dsimp only
 rw [if_pos (by decide +kernel)]
 refine wpAny_bind (wpAny_typeOf ty2 ?_)
 refine wpAny_pure ?_
 rw [if_pos (by decide +kernel)]
 refine wpAny_bind (wpAny_rule ?_)
 unfold Builtin.List.listTouch
 have hS0:((s.heap.push { cls:=.type "list",data:=.seq ([]:List Value).toArray }).push { cls:=.type "dict_keyiterator",data:=.fields #[.ref d,.int 0 0,.int es.size 0,.int ep 0] }).get? s.heap.objs.size=some (seqObj "list" #[] 0):=Heap.get?_push_of_some _ (Heap.get?_push_size _ rfl)
 refine wpAny_bind (wpAny_bind (listUpdate_at hS0 rfl ?_ (Nat.zero_le _) (by show 1<=sizeLine + 1;omega)))
 have hS1:=get?_update_seq hS0 (·.push .none)
 refine listUpdate_at hS1 rfl ?_ (by show 1<=sizeLine;rw [sizeLine_eq];decide) (by show 0<=sizeLine + 1;omega)
 have hS2:=get?_update_seq hS1 (·.pop)
 have up:∀ b o,b ≠ s.heap.objs.size->((s.heap.push { cls:=.type "list",data:=.seq ([]:List Value).toArray }).push { cls:=.type "dict_keyiterator",data:=.fields #[.ref d,.int 0 0,.int es.size 0,.int ep 0] }).get? b=some o ->
   ((((s.heap.push { cls:=.type "list",data:=.seq ([]:List Value).toArray }).push { cls:=.type "dict_keyiterator",data:=.fields #[.ref d,.int 0 0,.int es.size 0,.int ep 0] }).update s.heap.objs.size (Obj.mapSeq fun x=>x.push Value.none)).update s.heap.objs.size (Obj.mapSeq fun x=>x.pop)).get? b=some o:=fun b o hb e =>
  (((Heap.SameBut.update ..).2 b hb).trans ((Heap.SameBut.update ..).2 b hb)).trans e
 have hI:((s.heap.push { cls:=.type "list",data:=.seq ([]:List Value).toArray }).push { cls:=.type "dict_keyiterator",data:=.fields #[.ref d,.int 0 0,.int es.size 0,.int ep 0] }).get? (s.heap.push { cls:=.type "list",data:=.seq ([]:List Value).toArray }).objs.size=some { cls:=.type "dict_keyiterator",data:=.fields #[.ref d,.int 0 0,.int es.size 0,.int ep 0] }:=Heap.get?_push_size _ rfl
 have neI:(s.heap.push { cls:=.type "list",data:=.seq ([]:List Value).toArray }).objs.size ≠ s.heap.objs.size:=by rw [<- I2];omega
 have old:∀ b o,s.heap.get? b=some o->((s.heap.push { cls:=.type "list",data:=.seq ([]:List Value).toArray }).push { cls:=.type "dict_keyiterator",data:=.fields #[.ref d,.int 0 0,.int es.size 0,.int ep 0] }).get? b=some o:=fun b o e=>Heap.get?_push_of_some _ (Heap.get?_push_of_some _ e)
 generalize ((((s.heap.push { cls:=.type "list",data:=.seq ([]:List Value).toArray }).push { cls:=.type "dict_keyiterator",data:=.fields #[.ref d,.int 0 0,.int es.size 0,.int ep 0] }).update s.heap.objs.size (Obj.mapSeq fun x=>x.push Value.none)).update s.heap.objs.size (Obj.mapSeq fun x=>x.pop))=h5 at hS2 up ⊢
 have st:h5.IsKeyIter (s.heap.push { cls:=.type "list",data:=.seq ([]:List Value).toArray }).objs.size d 0 es.size ep:=⟨_,up _ _ neI hI,rfl,rfl⟩
 have da:DEs h5 d es ep:=hm2.at fun o e=>up d o (Ne.symm hSd) e
 generalize hIa:(s.heap.push { cls:=.type "list",data:=.seq ([]:List Value).toArray }).objs.size=Ia at st neI hI ⊢
 have ia:Ia=s.heap.objs.size + 1:=by rw [<- hIa];exact I2.symm
 have ne:d ≠ Ia:=by rw [ia];exact Nat.ne_of_lt (Nat.lt_succ_of_lt dl)
 have nS:s.heap.objs.size ∉ [Ia,d]:=fun h=>by
  rcases List.mem_cons.mp h with c | c
  ·exact neI c.symm
  ·exact hSd (List.mem_singleton.mp c)
 have W:=(zvS (prog:=prog) (w:=w) (A:=A.in1) hh Ia d ne es ep).toS
 refine wpAny_pure ⟨plainId_quiet F.plain_extend_loop _,codeAny_extend_loopS W (by rw [sizeLine_eq];omega) s.heap.objs.size nS _ es.size 0 _ _ _ rfl (Nat.zero_le _) ⟨st,da⟩ hS2 (ItemsOf.nil _) fun s' acc' c' mv hS' hacc=>?_⟩
 show wpAny _ A (load s.heap.objs.size >>= _) _ _ s'
 refine wpAny_bind (wpAny_load hS' ?_)
 refine wpAny_pure (hQ s' acc' (fun b o e=>?_) mv.gens mv.drawn mv.os (Nat.le_of_lt (Heap.lt_size hS')) hacc)
 have lt:=Heap.lt_size e
 have b1:b ≠ s.heap.objs.size:=Nat.ne_of_lt lt
 have b2:b ≠ Ia:=by rw [ia];exact Nat.ne_of_lt (Nat.lt_succ_of_lt lt)
 refine mv.heap b o (fun h=>?_) (up b o b1 (old b o e))
 rcases List.mem_cons.mp h with c | c
 ·exact b1 c
 ·exact b2 (List.mem_singleton.mp c)
end
end PySem
namespace L2
open PySem PySem.Spec PyProof.Rows PySem.W
def Cx.in1 (X:Cx):Cx:={ X with A:=X.A.in1 }
end L2
namespace L2
open PySem PySem.Spec PyProof.Rows PySem.W
abbrev WK:=Int × List Int
end L2
namespace L2
open PySem PySem.Spec PyProof.Rows PySem.W
end L2
namespace L2
open PySem PySem.Spec PyProof.Rows PySem.W
def KTs (H:Hp):List (List Key × V)->List V->Prop
 | [],xs=>xs=[]
 | kv :: r,xs=>∃ b t,xs=.ref b :: t/\TAt H b (kv.1.map kV)/\KTs H r t
def ztk (H:Hp) (d:Addr) (xs:List V):Prop:=(∃ kvs,Rd H d (.dT kvs)/\KTs H kvs xs)\/∃ kvs:List (Key × V),Rd H d (.dK kvs)/\xs=kvs.map fun kv=>kV kv.1
section
variable {X:Cx} {pins:List (Addr × Obj)} {σ:L2.St} {H:Hp} {s:Shared} {d f:Addr}
theorem ztH:∀ {kvs:List (List Key × V)} {ys:List (List Key × Addr × Value)},KT H kvs ys->KTs H kvs (ys.map fun y=>V.ref y.2.1)
 | [],_,.nil=>rfl
 | kv :: r,_,.cons h t=>⟨_,_,rfl,h.2.1,ztH t⟩
theorem zs0 {A:Around} {E:Value->Shared->Prop} {Q:List Value->Shared->Prop} (hh:A.handled=none) (I:Inv X pins σ H s) (rd:IsD H d) (hn:∀ xs,ztk H d xs->xs.length < 64)
  (hQ:∀ xs us s',ztk H d xs->Vals xs us->Inv X pins σ H s'->Q us s'):wpAny (model X.prog X.w) A (collect (.ref d)) Q E s:=by
 have fin:∀ (s':Shared),(∀ b o,s.heap.get? b=some o->s'.heap.get? b=some o)->s'.gens=s.gens->s'.drawn=s.drawn->s'.os=s.os->Inv X pins σ H s':=fun s' k g dr os=>by
  obtain ⟨h,g',dr',tk,os'⟩:=s'
  simp only at g dr os
  subst g;subst dr;subst os
  exact I.kept (t':=tk) k
 rcases rd with ⟨kvs,rd⟩ | ⟨kvs,rd⟩
 ·obtain ⟨z,sy,vs,rel,dd⟩:=zpi I.hok rd
  obtain ⟨ep,da⟩:=dd.dictAt
  have lk:=hn _ (.inr ⟨kvs,rd,rfl⟩)
  rw [List.length_map] at lk
  have lv:kvs.length=vs.length:=rel.length
  refine zl0 hh sy da (by omega) fun s' acc hk hg hd ho hsz hacc=>hQ (kvs.map fun kv=>kV kv.1) _ s' (.inr ⟨kvs,rd,rfl⟩) ?_ (fin s' hk hg hd ho)
  have la:acc.toList.length=vs.length:=by rw [Array.length_toList];exact hacc.1
  refine zmD (by rw [List.length_map];omega) fun j x v ex ev=>?_
  rw [Array.getElem?_toList] at ev
  obtain ⟨k,y,e1,e2⟩:=hacc.2 j v ev
  have lj:j < vs.length:=Nat.lt_of_not_le fun c=>by rw [List.getElem?_eq_none c] at e1;cases e1
  have lj':j < kvs.length:=lv ▸ lj
  obtain ⟨⟨k',y'⟩,e3,e4,_⟩:=zex rel (List.getElem?_eq_getElem lj')
  rw [e1] at e3
  cases e3
  rw [List.getElem?_map,List.getElem?_eq_getElem lj'] at ex
  cases ex
  show RelV (kV kvs[j].1) v
  rw [show kvs[j].1=k from e4]
  exact znH e2
 ·obtain ⟨z,sy,ys,kt,o,es,ep,e',r1,r2,r3,r4⟩:=zph I.hok rd
  have ks:=ztH kt
  have lk:=hn _ (.inl ⟨kvs,rd,ks⟩)
  have ly:kvs.length=ys.length:=Paired.length kt
  have hsz:es.size=ys.length:=size_of_entries r3
  rw [List.length_map] at lk
  refine zsZ hh sy ⟨o,e',r1,r2⟩ (by omega) fun s' acc hk hg hd ho hs hacc=>hQ _ _ s' (.inl ⟨kvs,rd,ks⟩) ?_ (fin s' hk hg hd ho)
  have la:acc.toList.length=es.size:=by rw [Array.length_toList];exact hacc.1
  refine zmD (by rw [List.length_map];omega) fun j x v ex ev=>?_
  rw [Array.getElem?_toList] at ev
  obtain ⟨hj,rfl⟩:=hacc.2 j v ev
  have lj:j < ys.length:=by omega
  rw [List.getElem?_map,List.getElem?_eq_getElem lj] at ex
  cases ex
  have:=entry_at r3 j
  rw [List.getElem?_eq_getElem lj,Array.getElem?_eq_getElem hj] at this
  simp only [Option.map_some,Option.some.injEq] at this
  rw [this]
  rfl
end
end L2
namespace L2
open PySem PySem.Spec PyProof.Rows PySem.W
end L2
namespace Q1
def fr (t b:Int):Int × Int:=if b < 0 then (t / -(Int.gcd t b:Int),b / -(Int.gcd t b:Int)) else (t / (Int.gcd t b:Int),b / (Int.gcd t b:Int))
structure Low (p q:Int):Prop where
 pos:0 < q
 cop:Int.gcd p q=1
theorem zic {t b:Int} (h:b ≠ 0):0 < (Int.gcd t b:Int):=by
 have:0 < Int.gcd t b:=Int.gcd_pos_of_ne_zero_right _ h
 omega
theorem zyA {t b:Int}:((Int.gcd t b:Nat):Int) ∣ t:=Int.gcd_dvd_left ..
theorem zvr {t b:Int}:((Int.gcd t b:Nat):Int) ∣ b:=Int.gcd_dvd_right ..
theorem ziu {t b:Int} (h:b ≠ 0):Int.gcd (t / (Int.gcd t b:Int)) (b / (Int.gcd t b:Int))=1:=by
 have hp:0 < Int.gcd t b:=Int.gcd_pos_of_ne_zero_right _ h
 exact Int.gcd_ediv_gcd_ediv_gcd hp
theorem zxk {t b:Int} (h:b ≠ 0):Low (fr t b).1 (fr t b).2:=by
 have hg:=zic (t:=t) h
 have c:=ziu (t:=t) h
 unfold fr
 split
 ·rename_i hb
  refine ⟨?_,?_⟩
  ·show 0 < b / -(Int.gcd t b:Int)
   rw [Int.ediv_neg]
   have:=Int.ediv_mul_cancel (zvr (t:=t) (b:=b))
   have h1:b / (Int.gcd t b:Int) < 0:=by
    rcases Int.lt_trichotomy (b / (Int.gcd t b:Int)) 0 with z | z | z
    ·exact z
    ·rw [z] at this;omega
    ·have:=Int.mul_pos z hg;omega
   omega
  ·show Int.gcd (t / -(Int.gcd t b:Int)) (b / -(Int.gcd t b:Int))=1
   rw [Int.ediv_neg,Int.ediv_neg,Int.gcd_neg,Int.neg_gcd]
   exact c
 ·rename_i hb
  refine ⟨?_,c⟩
  show 0 < b / (Int.gcd t b:Int)
  have:=Int.ediv_mul_cancel (zvr (t:=t) (b:=b))
  rcases Int.lt_trichotomy (b / (Int.gcd t b:Int)) 0 with z | z | z
  ·have:=Int.mul_neg_of_neg_of_pos z hg;omega
  ·rw [z] at this;omega
  ·exact z
theorem zyy {t b:Int} (h:b ≠ 0):(fr t b).1 * b=t * (fr t b).2:=by
 have e1:=Int.ediv_mul_cancel (zyA (t:=t) (b:=b))
 have e2:=Int.ediv_mul_cancel (zvr (t:=t) (b:=b))
 have key:t / (Int.gcd t b:Int) * b=t * (b / (Int.gcd t b:Int)):=by
  calc t / (Int.gcd t b:Int) * b=t / (Int.gcd t b:Int) * (b / (Int.gcd t b:Int) * (Int.gcd t b:Int)):=by rw [e2]
   _=t / (Int.gcd t b:Int) * (Int.gcd t b:Int) * (b / (Int.gcd t b:Int)):=by rw [Int.mul_assoc,Int.mul_comm (b / _)]
   _=t * (b / (Int.gcd t b:Int)):=by rw [e1]
 unfold fr
 split
 ·show t / -(Int.gcd t b:Int) * b=t * (b / -(Int.gcd t b:Int))
  rw [Int.ediv_neg,Int.ediv_neg,Int.neg_mul,Int.mul_neg,key]
 ·exact key
theorem zil {q p r:Int} (h:q ∣ p * r) (c:Int.gcd p q=1):q ∣ r:=by
 have h1:q.natAbs ∣ p.natAbs * r.natAbs:=by
  rw [<- Int.natAbs_mul]
  exact Int.natAbs_dvd_natAbs.mpr h
 have c':Nat.Coprime q.natAbs p.natAbs:=by
  show Nat.gcd q.natAbs p.natAbs=1
  rw [Nat.gcd_comm]
  exact c
 exact Int.natAbs_dvd_natAbs.mp (Nat.Coprime.dvd_of_dvd_mul_left c' h1)
theorem zsy {p q p' q':Int} (a:Low p q) (b:Low p' q') (h:p * q'=p' * q):p=p'/\q=q':=by
 have d1:q ∣ q':=by
  have:q ∣ p * q':=⟨p',by rw [h,Int.mul_comm]⟩
  exact zil this a.cop
 have d2:q' ∣ q:=by
  have:q' ∣ p' * q:=⟨p,by rw [<- h,Int.mul_comm]⟩
  exact zil this b.cop
 have e:q=q':=Int.dvd_antisymm (Int.le_of_lt a.pos) (Int.le_of_lt b.pos) d1 d2
 refine ⟨?_,e⟩
 subst e
 exact Int.eq_of_mul_eq_mul_right (Int.ne_of_gt a.pos) h
theorem zvm {t b p q:Int} (hb:b ≠ 0) (l:Low p q) (h:p * b=t * q):fr t b=(p,q):=by
 have e:=zyy (t:=t) hb
 have l':=zxk (t:=t) hb
 have:(fr t b).1 * q=p * (fr t b).2:=by
  have h2:(fr t b).1 * q * b=p * (fr t b).2 * b:=by
   calc (fr t b).1 * q * b=(fr t b).1 * b * q:=by rw [Int.mul_assoc,Int.mul_comm q,Int.mul_assoc]
    _=t * (fr t b).2 * q:=by rw [e]
    _=t * q * (fr t b).2:=by rw [Int.mul_assoc,Int.mul_comm (fr t b).2,Int.mul_assoc]
    _=p * b * (fr t b).2:=by rw [h]
    _=p * (fr t b).2 * b:=by rw [Int.mul_assoc,Int.mul_comm b,Int.mul_assoc]
  exact Int.eq_of_mul_eq_mul_right hb h2
 obtain ⟨a1,a2⟩:=zsy l' l this
 exact Prod.ext a1 a2
theorem zoh {t b:Int} (h:0 < b):fr t b=(t / (Int.gcd t b:Int),b / (Int.gcd t b:Int)):=by
 unfold fr
 rw [if_neg (by omega)]
theorem zwY {p q:Int} (l:Low p q):fr p q=(p,q):=zvm (Int.ne_of_gt l.pos) l rfl
end Q1
namespace Q1
theorem Low.ne {p q:Int} (l:Low p q):q ≠ 0:=Int.ne_of_gt l.pos
theorem gcd_one {a b:Int} (h:∀ d:Int,d ∣ a->d ∣ b->d ∣ 1):Int.gcd a b=1:=by
 have:=h (Int.gcd a b:Int) (Int.gcd_dvd_left ..) (Int.gcd_dvd_right ..)
 have h2:(Int.gcd a b) ∣ 1:=by
  have:=Int.natAbs_dvd_natAbs.mpr this
  simpa using this
 exact Nat.dvd_one.mp h2
theorem dvd_one {a b d:Int} (h:Int.gcd a b=1) (h1:d ∣ a) (h2:d ∣ b):d ∣ 1:=by
 have:=Int.dvd_coe_gcd h1 h2
 rw [h] at this
 exact this
theorem zid {a b:Int} (h:Int.gcd a b=1):Int.gcd b a=1:=by rw [Int.gcd_comm];exact h
theorem gcd_mul {a b c:Int} (h1:Int.gcd a b=1) (h2:Int.gcd a c=1):Int.gcd a (b * c)=1:=by
 refine gcd_one fun d da db=>?_
 have c1:Int.gcd b d=1:=gcd_one fun e e1 e2=>dvd_one h1 (Int.dvd_trans e2 da) e1
 exact dvd_one h2 da (zil db c1)
theorem zod {a b a' b':Int} (h:Int.gcd a b=1) (h1:a' ∣ a) (h2:b' ∣ b):Int.gcd a' b'=1 :=
 gcd_one fun d da db=>dvd_one h (Int.dvd_trans da h1) (Int.dvd_trans db h2)
theorem zhs {a b:Int} (h:b ∣ a):a / b ∣ a:=by
 obtain ⟨c,rfl⟩:=h
 by_cases z:b=0
 ·subst z;simp
 ·rw [Int.mul_ediv_cancel_left _ z];exact ⟨b,Int.mul_comm _ _⟩
theorem zc6 {a b:Int} (h:0 < a * b) (hb:0 < b):0 < a:=by
 rcases Int.lt_trichotomy a 0 with z | z | z
 ·have:=Int.mul_neg_of_neg_of_pos z hb;omega
 ·subst z;simp at h
 ·exact z
def zoP (p q r s:Int):Int × Int :=
 let g:=(Int.gcd q s:Int)
 let top:=p * (s / g) + r * (q / g)
 let e:=(Int.gcd top g:Int)
 (top / e,q / g * (s / e))
def znA (p q r s:Int):Int × Int :=
 (p / (Int.gcd p s:Int) * (r / (Int.gcd r q:Int)),q / (Int.gcd r q:Int) * (s / (Int.gcd p s:Int)))
theorem zp8 {p q r s g m t e top T G:Int} (l1:Low p q) (l2:Low r s) (g0:0 < g) (e0:0 < e) (hq:q=m * g) (hs:s=t * g) (hmt:Int.gcd m t=1)
  (ht:top=p * t + r * m) (hT:top=T * e) (hG:g=G * e) (hTG:Int.gcd T G=1):Low T (m * (t * G))/\T * (q * s)=(p * s + r * q) * (m * (t * G)):=by
 have hm:0 < m:=zc6 (by rw [<- hq];exact l1.pos) g0
 have htt:0 < t:=zc6 (by rw [<- hs];exact l2.pos) g0
 have hGG:0 < G:=zc6 (by rw [<- hG];exact g0) e0
 refine ⟨⟨Int.mul_pos hm (Int.mul_pos htt hGG),?_⟩,?_⟩
 ·have dT:T ∣ top:=⟨e,hT⟩
  have c1:Int.gcd T m=1:=by
   refine gcd_one fun d da db=>?_
   have h1:d ∣ p * t:=by
    have h2:d ∣ p * t + r * m:=by rw [<- ht];exact Int.dvd_trans da dT
    exact (Int.dvd_add_left (Int.dvd_mul_of_dvd_right db)).mp h2
   have h3:Int.gcd p d=1:=zod l1.cop (Int.dvd_refl _) (by rw [hq];exact Int.dvd_trans db (Int.dvd_mul_right ..))
   exact dvd_one hmt db (zil h1 h3)
  have c2:Int.gcd T t=1:=by
   refine gcd_one fun d da db=>?_
   have h1:d ∣ r * m:=by
    have h2:d ∣ p * t + r * m:=by rw [<- ht];exact Int.dvd_trans da dT
    exact (Int.dvd_add_right (Int.dvd_mul_of_dvd_right db)).mp h2
   have h3:Int.gcd r d=1:=zod l2.cop (Int.dvd_refl _) (by rw [hs];exact Int.dvd_trans db (Int.dvd_mul_right ..))
   exact dvd_one hmt (zil h1 h3) db
  exact gcd_mul c1 (gcd_mul c2 hTG)
 ·have k1:p * s + r * q=top * g:=by
   rw [hq,hs,ht,Int.add_mul,Int.mul_assoc,Int.mul_assoc]
  rw [k1,hT,hq,hs]
  rw [show m * g * (t * g)=m * (t * G) * (e * g) by rw [show t * g=t * (G * e) by rw [hG]];ac_rfl]
  ac_rfl
theorem zuH {p q r s:Int} (l1:Low p q) (l2:Low r s):zoP p q r s=fr (p * s + r * q) (q * s):=by
 have g0:0 < (Int.gcd q s:Int):=zic l2.ne
 have d1:(Int.gcd q s:Int) ∣ q:=Int.gcd_dvd_left ..
 have d2:(Int.gcd q s:Int) ∣ s:=Int.gcd_dvd_right ..
 have e0:0 < (Int.gcd (p * (s / (Int.gcd q s:Int)) + r * (q / (Int.gcd q s:Int))) (Int.gcd q s:Int):Int):=zic (Int.ne_of_gt g0)
 have d3:=Int.gcd_dvd_left (a:=p * (s / (Int.gcd q s:Int)) + r * (q / (Int.gcd q s:Int))) (b:=(Int.gcd q s:Int))
 have d4:=Int.gcd_dvd_right (a:=p * (s / (Int.gcd q s:Int)) + r * (q / (Int.gcd q s:Int))) (b:=(Int.gcd q s:Int))
 have core:=zp8 l1 l2 g0 e0 (Int.ediv_mul_cancel d1).symm (Int.ediv_mul_cancel d2).symm (ziu l2.ne) rfl (Int.ediv_mul_cancel d3).symm (Int.ediv_mul_cancel d4).symm (ziu (Int.ne_of_gt g0))
 have e:zoP p q r s=(_,_):=rfl
 have hs:s / (Int.gcd (p * (s / (Int.gcd q s:Int)) + r * (q / (Int.gcd q s:Int))) (Int.gcd q s:Int):Int)=s / (Int.gcd q s:Int) * ((Int.gcd q s:Int) / (Int.gcd (p * (s / (Int.gcd q s:Int)) + r * (q / (Int.gcd q s:Int))) (Int.gcd q s:Int):Int)):=by
  refine Int.ediv_eq_of_eq_mul_left (Int.ne_of_gt e0) ?_
  rw [Int.mul_assoc,Int.ediv_mul_cancel d4,Int.ediv_mul_cancel d2]
 symm
 refine zvm (Int.ne_of_gt (Int.mul_pos l1.pos l2.pos)) (p:=(zoP p q r s).1) (q:=(zoP p q r s).2) ?_ ?_
 ·have:(zoP p q r s).2=_:=rfl
  rw [this]
  show Low _ (q / (Int.gcd q s:Int) * (s / _))
  rw [hs]
  exact core.1
 ·show _ * (q * s)=_ * (q / (Int.gcd q s:Int) * (s / _))
  rw [hs]
  exact core.2
theorem zrV {p q r s:Int} (l1:Low p q) (l2:Low r s):znA p q r s=fr (p * r) (q * s):=by
 have m0:0 < (Int.gcd p s:Int):=zic l2.ne
 have i0:0 < (Int.gcd r q:Int):=zic l1.ne
 have a1:(Int.gcd p s:Int) ∣ p:=Int.gcd_dvd_left ..
 have a2:(Int.gcd p s:Int) ∣ s:=Int.gcd_dvd_right ..
 have b1:(Int.gcd r q:Int) ∣ r:=Int.gcd_dvd_left ..
 have b2:(Int.gcd r q:Int) ∣ q:=Int.gcd_dvd_right ..
 symm
 refine zvm (Int.ne_of_gt (Int.mul_pos l1.pos l2.pos)) (p:=(znA p q r s).1) (q:=(znA p q r s).2) ⟨?_,?_⟩ ?_
 ·refine Int.mul_pos ?_ ?_
  ·exact zc6 (by rw [Int.ediv_mul_cancel b2];exact l1.pos) i0
  ·exact zc6 (by rw [Int.ediv_mul_cancel a2];exact l2.pos) m0
 ·show Int.gcd (p / _ * (r / _)) (q / _ * (s / _))=1
  have x1:Int.gcd (p / (Int.gcd p s:Int)) (q / (Int.gcd r q:Int))=1:=zod l1.cop (zhs a1) (zhs b2)
  have x2:Int.gcd (p / (Int.gcd p s:Int)) (s / (Int.gcd p s:Int))=1:=ziu l2.ne
  have x3:Int.gcd (r / (Int.gcd r q:Int)) (q / (Int.gcd r q:Int))=1:=ziu l1.ne
  have x4:Int.gcd (r / (Int.gcd r q:Int)) (s / (Int.gcd p s:Int))=1:=zod l2.cop (zhs b1) (zhs a2)
  exact zid (gcd_mul (zid (gcd_mul x1 x2)) (zid (gcd_mul x3 x4)))
 ·show p / (Int.gcd p s:Int) * (r / (Int.gcd r q:Int)) * (q * s)=p * r * (q / (Int.gcd r q:Int) * (s / (Int.gcd p s:Int)))
  have y1:=Int.ediv_mul_cancel a1
  have y2:=Int.ediv_mul_cancel a2
  have y3:=Int.ediv_mul_cancel b1
  have y4:=Int.ediv_mul_cancel b2
  generalize (Int.gcd p s:Int)=m at *
  generalize (Int.gcd r q:Int)=i at *
  generalize p / m=P at *
  generalize s / m=S at *
  generalize r / i=R at *
  generalize q / i=Q at *
  rw [<- y1,<- y2,<- y3,<- y4]
  ac_rfl
end Q1
namespace QR
open Q1
theorem low (r:Rat):Low r.num r.den:=⟨by have:=r.den_nz;omega,by
 have:=r.reduced
 unfold Nat.Coprime at this
 show Nat.gcd r.num.natAbs (r.den:Int).natAbs=1
 simpa using this⟩
theorem zzD (t:Int) (d:Nat):(Int.gcd t (d:Int))=Nat.gcd t.natAbs d:=by
 show Nat.gcd t.natAbs (d:Int).natAbs=_
 simp
theorem norm {t:Int} {d:Nat} (h:d ≠ 0):fr t (d:Int)=((Rat.normalize t d h).num,((Rat.normalize t d h).den:Int)):=by
 rw [zoh (by omega),Rat.normalize_eq,zzD]
 simp
theorem add (r s:Rat):fr (r.num * s.den + s.num * r.den) ((r.den:Int) * s.den)=((r + s).num,((r + s).den:Int)):=by
 rw [Rat.add_def,<- norm]
 congr 1
theorem mul (r s:Rat):fr (r.num * s.num) ((r.den:Int) * s.den)=((r * s).num,((r * s).den:Int)):=by
 rw [Rat.mul_def,<- norm]
 congr 1
def Bd (n:Nat) (r:Rat):Prop:=r.num.natAbs < 2 ^ n/\r.den < 2 ^ n
theorem Bd.mono {n m:Nat} {r:Rat} (h:Bd n r) (k:n<=m):Bd m r:=⟨Nat.lt_of_lt_of_le h.1 (Nat.pow_le_pow_right (by decide) k),Nat.lt_of_lt_of_le h.2 (Nat.pow_le_pow_right (by decide) k)⟩
theorem zq0 (t b:Int):(fr t b).1.natAbs<=t.natAbs/\(fr t b).2.natAbs<=b.natAbs:=by
 unfold fr
 split
 ·exact ⟨Int.natAbs_ediv_le_natAbs _ _,Int.natAbs_ediv_le_natAbs _ _⟩
 ·exact ⟨Int.natAbs_ediv_le_natAbs _ _,Int.natAbs_ediv_le_natAbs _ _⟩
theorem zfJ {a b n m:Nat} (h1:a < 2 ^ n) (h2:b < 2 ^ m):a * b < 2 ^ (n + m):=by
 rw [Nat.pow_add]
 exact Nat.mul_lt_mul'' h1 h2
theorem Bd.add {n m:Nat} {r s:Rat} (h:Bd n r) (k:Bd m s):Bd (n + m + 1) (r + s):=by
 have e:=QR.add r s
 have l:=zq0 (r.num * s.den + s.num * r.den) ((r.den:Int) * s.den)
 rw [e] at l
 simp only at l
 have a1:r.num.natAbs * s.den < 2 ^ (n + m):=zfJ h.1 k.2
 have a2:s.num.natAbs * r.den < 2 ^ (n + m):=by rw [Nat.mul_comm,Nat.mul_comm];rw [Nat.add_comm];exact zfJ k.1 h.2
 have a3:r.den * s.den < 2 ^ (n + m):=zfJ h.2 k.2
 have p2:2 ^ (n + m + 1)=2 ^ (n + m) + 2 ^ (n + m):=by rw [Nat.pow_succ];omega
 refine ⟨?_,?_⟩
 ·refine Nat.lt_of_le_of_lt l.1 (Nat.lt_of_le_of_lt (Int.natAbs_add_le _ _) ?_)
  rw [Int.natAbs_mul,Int.natAbs_mul,Int.natAbs_natCast,Int.natAbs_natCast,p2]
  omega
 ·have:=l.2
  rw [Int.natAbs_mul,Int.natAbs_natCast,Int.natAbs_natCast,Int.natAbs_natCast] at this
  rw [p2]
  omega
theorem Bd.mul {n m:Nat} {r s:Rat} (h:Bd n r) (k:Bd m s):Bd (n + m) (r * s):=by
 have e:=QR.mul r s
 have l:=zq0 (r.num * s.num) ((r.den:Int) * s.den)
 rw [e] at l
 simp only at l
 refine ⟨?_,?_⟩
 ·refine Nat.lt_of_le_of_lt l.1 ?_
  rw [Int.natAbs_mul]
  exact zfJ h.1 k.1
 ·have:=l.2
  rw [Int.natAbs_mul,Int.natAbs_natCast,Int.natAbs_natCast,Int.natAbs_natCast] at this
  exact Nat.lt_of_le_of_lt this (zfJ h.2 k.2)
theorem Bd.zero (n:Nat):Bd (n + 1) 0:=by
 refine ⟨?_,?_⟩
 ·show (0:Nat) < 2 ^ (n + 1)
  exact Nat.pos_of_ne_zero (by simp)
 ·show (1:Nat) < 2 ^ (n + 1)
  exact Nat.one_lt_two_pow (by omega)
def dot:List Rat->List Rat->Rat
 | a :: as,b :: bs=>a * b + dot as bs
 | _,_=>0
def part (xs ys:List Rat):Nat->Rat
 | 0=>0
 | i + 1=>part xs ys i + xs.getD i 0 * ys.getD i 0
theorem zlq (a b:Rat) (as bs:List Rat):∀ i,part (a :: as) (b :: bs) (i + 1)=a * b + part as bs i
 | 0=>by simp only [part,List.getD_cons_zero];grind
 | i + 1=>by
  rw [part,zlq a b as bs i]
  show a * b + part as bs i + (a :: as).getD (i + 1) 0 * (b :: bs).getD (i + 1) 0=_
  rw [part]
  simp only [List.getD_cons_succ]
  grind
theorem znR:∀ (xs ys:List Rat),xs.length=ys.length->part xs ys xs.length=dot xs ys
 | [],[],_=>rfl
 | a :: as,b :: bs,h=>by
  rw [List.length_cons,zlq,znR as bs (by simpa using h)]
  rfl
theorem zqi {xs ys:List Rat} {n m:Nat} (hx:∀ r ∈ xs,Bd n r) (hy:∀ r ∈ ys,Bd m r):∀ i,i<=xs.length->i<=ys.length->Bd (i * (n + m + 1) + 1) (part xs ys i)
 | 0,_,_=>by simpa [part] using Bd.zero 0
 | i + 1,h1,h2=>by
  have ih:=zqi hx hy i (by omega) (by omega)
  have e1:xs.getD i 0=xs[i]:=by simp [List.getD,show i < xs.length by omega]
  have e2:ys.getD i 0=ys[i]:=by simp [List.getD,show i < ys.length by omega]
  have b:=(hx xs[i] (List.getElem_mem _)).mul (hy ys[i] (List.getElem_mem _))
  rw [part,e1,e2]
  refine (ih.add b).mono ?_
  rw [Nat.succ_mul]
  omega
theorem zxz {xs ys:List Rat} {n m:Nat} (h:xs.length=ys.length) (hx:∀ r ∈ xs,Bd n r) (hy:∀ r ∈ ys,Bd m r):Bd (xs.length * (n + m + 1) + 1) (dot xs ys):=by
 rw [<- znR xs ys h]
 exact zqi hx hy _ (Nat.le_refl _) (by omega)
end QR
namespace KC
open PySem L2 PySem.Spec PyProof.Rows
structure Blt (mg:Str->Option Value):Prop where
 zoW:mg "abs"=none
 zaB:mg "isinstance"=none
 zmO:mg "int"=none
 zlz:mg "bool"=none
 zgi:mg "tuple"=none
 zeK:mg "len"=none
 zqn:mg "all"=none
 zgN:mg "list"=none
 zbo:mg "range"=none
 zly:mg "zip"=none
 zcB:mg "enumerate"=none
namespace Bt
theorem isinstance:bootBuiltins "isinstance"=some (.builtin "isinstance"):=by decide +kernel
end Bt
def isInt:PyData->Bool
 | .int _ | .bool _=>true | _=>false
def ze8 (T c:String):Option Bool:=if (Value.type T == Value.type c)=true then some true else if PySem.W.kitMeta c=true then (fastBuiltinMro T).map (·.contains (.type c)) else none
end KC
namespace KC
open PySem L2 PySem.Spec PyProof.Rows
end KC
namespace KC
open PySem L2 PySem.Spec PyProof.Rows
end KC
namespace FL
theorem zz0 {α:Type} {a:α} {l:List α}:(a::l)[0]?=some a:=rfl
theorem zz1 {α:Type} {a:α} {l:List α} {i:Nat}:(a::l)[i + 1]?=l[i]?:=rfl
open PySem
abbrev D:=PyData
inductive R (α:Type) where
 | bad
 | err (c:String) (fs:List D)
 | ok (a:α)
def R.bind {α β:Type} (r:R α) (k:α->R β):R β:=match r with
 | .bad=>.bad
 | .err c f=>.err c f
 | .ok a=>k a
theorem zac {α β:Type} (a:α) (k:α->R β):(R.ok a).bind k=k a:=rfl
def chk {α:Type} (c:Bool) (r:R α):R α:=if c=true then r else .bad
theorem zaI {α:Type} {c:Bool} {r:R α} (h:c=true):chk c r=r:=if_pos h
inductive Sl where
 | no
 | val (d:D)
 | ow (p:Bool) (d:D)
abbrev En:=List Sl
inductive Fl where
 | nx | bk | ct
 | rt (d:D)
 | rf (d:D)
abbrev EF:=En->R (D × En)
abbrev TF:=En->R (Bool × En)
abbrev AF:=En->R (List D × En)
abbrev SF:=En->R (Fl × En)
abbrev GF:=D->En->R En
def tyOf:D->String
 | .none=>"NoneType" | .bool _=>"bool" | .int _=>"int" | .str _=>"str" | .list _=>"list" | .tuple _=>"tuple" | .dict _=>"dict"
def isI (T:String) (d:D):Bool:=match d with
 | .bool _=>T == "bool" || T == "int"
 | d=>tyOf d == T
def lim:Nat:=1000000
def intsOf:List D->Option (List Int)
 | []=>some []
 | .int i :: r=>(intsOf r).map (i :: ·)
 | _ :: _=>none
def boolsOf:List D->Option (List Bool)
 | []=>some []
 | .bool i :: r=>(boolsOf r).map (i :: ·)
 | _ :: _=>none
def R.of {α:Type}:Option α->R α
 | none=>.bad
 | some a=>.ok a
def leB (a b:Nat):Bool:=Nat.ble a b
theorem leB_iff {a b:Nat}:leB a b=true ↔ a<=b:=Iff.of_eq Nat.ble_eq
theorem zgP {a b:Nat} (h:a<=b):leB a b=true:=leB_iff.mpr h
theorem zlE {a b:Nat} (h:leB a b=true):a<=b:=leB_iff.mp h
def zqo (i j:Int):Bool:=leB (i.natAbs.log2 + j.natAbs.log2 + 2) 134217728
def za8:D->D->R D
 | .int i,.int j=>.ok (.int (i + j))
 | .list a,.list b=>chk (leB (a.length + b.length) lim) (.ok (.list (a ++ b)))
 | .tuple a,.tuple b=>chk (leB (a.length + b.length) lim) (.ok (.tuple (a ++ b)))
 | _,_=>.bad
def zge:D->D->R D
 | .int i,.int j=>.ok (.int (i - j))
 | _,_=>.bad
def zbd:D->D->R D
 | .int i,.int j=>chk (zqo i j) (.ok (.int (i * j)))
 | .tuple a,.int k=>chk (!a.isEmpty && leB 2 k.toNat && leB k.toNat 1000000 && leB (a.length * k.toNat) lim) (.ok (.tuple (List.replicate k.toNat a).flatten))
 | _,_=>.bad
def zaL:D->D->R D
 | .int i,.int j=>chk (decide (j ≠ 0)) (.ok (.int (i.fdiv j)))
 | _,_=>.bad
def zgO:D->D->R D
 | .int i,.int j=>chk (decide (j ≠ 0)) (.ok (.int (i.fmod j)))
 | _,_=>.bad
def zjF:D->D->R D
 | .int i,.int j=>chk (decide (0<=j) && leB j.toNat 1000000 && leB i.natAbs 18446744073709551615) (.ok (.int (i ^ j.toNat)))
 | _,_=>.bad
def zpr:D->R D
 | .int i=>.ok (.int (-i))
 | _=>.bad
def eqD (a b:D):R D:=chk (SeqAt.shaped a && SeqAt.shaped b) (.ok (.bool (PyData.eqv a b)))
def neD (a b:D):R D:=chk (SeqAt.shaped a && SeqAt.shaped b) (.ok (.bool (!PyData.eqv a b)))
def lexLt:List Int->List Int->Bool
 | [],[]=>false
 | [],_ :: _=>true
 | _ :: _,[]=>false
 | x :: xs,y :: ys=>if x=y then lexLt xs ys else decide (x < y)
def lexLe:List Int->List Int->Bool
 | [],[]=>true
 | [],_ :: _=>true
 | _ :: _,[]=>false
 | x :: xs,y :: ys=>if x=y then lexLe xs ys else decide (x<=y)
def zgk:List Int->List Int->Bool
 | [],[]=>false
 | [],_ :: _=>false
 | _ :: _,[]=>true
 | x :: xs,y :: ys=>if x=y then zgk xs ys else decide (y < x)
def zgl:List Int->List Int->Bool
 | [],[]=>true
 | [],_ :: _=>false
 | _ :: _,[]=>true
 | x :: xs,y :: ys=>if x=y then zgl xs ys else decide (y<=x)
def zxC (p:Int->Int->Bool) (q:List Int->List Int->Bool):D->D->R D
 | .int i,.int j=>.ok (.bool (p i j))
 | .tuple a,.tuple b=>(R.of (intsOf a)).bind fun x=>(R.of (intsOf b)).bind fun y=>.ok (.bool (q x y))
 | _,_=>.bad
def ltD:D->D->R D:=zxC (fun i j=>decide (i < j)) lexLt
def leD:D->D->R D:=zxC (fun i j=>decide (i<=j)) lexLe
def gtD:D->D->R D:=zxC (fun i j=>decide (j < i)) zgk
def geD:D->D->R D:=zxC (fun i j=>decide (j<=i)) zgl
def zzO:D->R D
 | .none=>.ok (.bool true)
 | _=>.ok (.bool false)
def zyp:D->R D
 | .none=>.ok (.bool false)
 | _=>.ok (.bool true)
def zwO (a b:D):R D:=match b with
 | .none=>zyp a
 | _=>.bad
def ixN (n:Nat) (i:Int):Option Nat:=if 0<=i then (if i < n then some i.toNat else none) else if -(n:Int)<=i then some (i + n).toNat else none
def atI {α:Type} (xs:List α) (i:Int):Option α:=(ixN xs.length i).bind fun j=>xs[j]?
def ixD:D->D->R D
 | .list a,.int i=>R.of (atI a i)
 | .tuple a,.int i=>R.of (atI a i)
 | _,_=>.bad
def sIx (n d:Nat):Option Int->Nat
 | none=>d
 | some v=>if v < 0 then (v + (n:Int)).toNat else min v.toNat n
def cut {α:Type} (xs:List α) (lo hi:Option Int):List α:=(xs.drop (sIx xs.length 0 lo)).take (sIx xs.length xs.length hi - sIx xs.length 0 lo)
def zlj (d:D) (lo hi:Option Int):R D:=match d with
 | .list a=>.ok (.list (cut a lo hi))
 | .tuple a=>.ok (.tuple (cut a lo hi))
 | _=>.bad
def zlf:D->R Bool
 | .none=>.ok false
 | .bool b=>.ok b
 | .int i=>.ok (i != 0)
 | .list a=>.ok (!a.isEmpty)
 | .tuple a=>.ok (!a.isEmpty)
 | _=>.bad
def zcI:D->R D
 | .list a=>.ok (.int a.length)
 | .tuple a=>.ok (.int a.length)
 | _=>.bad
def zrt:D->R D
 | .int i=>.ok (.int (if i < 0 then -i else i))
 | _=>.bad
def zvD:D->R D
 | .list a=>(R.of (boolsOf a)).bind fun x=>.ok (.bool (x.all id))
 | _=>.bad
def zwZ:D->R D
 | .list a=>.ok (.list a)
 | .tuple a=>.ok (.list a)
 | _=>.bad
def zyK (d:D):Bool:=match d with
 | .dict _=>false
 | _=>true
def zbe (T:String) (d:D):R D:=chk (zyK d) (.ok (.bool (isI T d)))
def one (g:D->R D):List D->R D
 | [d]=>g d
 | _=>.bad
def two (g:D->D->R D):List D->R D
 | [d,e]=>g d e
 | _=>.bad
def zob:D->R (List D)
 | .list a=>.ok a
 | .tuple a=>.ok a
 | _=>.bad
def rng (lo hi:Int):List D:=(List.range (hi - lo).toNat).map fun (i:Nat)=>.int (lo + (i:Int))
def zrW (i:Int):Bool:=leB i.natAbs 1000000000
def zpX:List D->R (List D)
 | [.int j]=>chk (zrW j && leB j.toNat lim) (.ok (rng 0 j))
 | _=>.bad
def eC (d:D):EF:=fun ρ=>.ok (d,ρ)
def eV (i:Nat):EF:=fun ρ=>match ρ[i]? with
 | some (.val d)=>.ok (d,ρ)
 | _=>.bad
def e1 (g:D->R D) (f:EF):EF:=fun ρ=>(f ρ).bind fun x=>(g x.1).bind fun d=>.ok (d,x.2)
def e2 (g:D->D->R D) (f h:EF):EF:=fun ρ=>(f ρ).bind fun x=>(h x.2).bind fun y=>(g x.1 y.1).bind fun d=>.ok (d,y.2)
def zmy (f h:EF):EF:=fun ρ=>(f ρ).bind fun x=>match x.1 with
 | .bool true=>h x.2
 | .bool false=>.ok (.bool false,x.2)
 | _=>.bad
def zxu (f:EF):EF:=fun ρ=>(f ρ).bind fun x=>match x.1 with
 | .bool b=>.ok (.bool (!b),x.2)
 | _=>.bad
def eIf (t:TF) (f h:EF):EF:=fun ρ=>(t ρ).bind fun c=>if c.1=true then f c.2 else h c.2
def zjR (g h:D->D->R D) (f1 f2 f3:EF):EF:=fun ρ=>(f1 ρ).bind fun x=>(f2 x.2).bind fun y=>(g x.1 y.1).bind fun c=>match c with
 | .bool true=>(f3 y.2).bind fun z=>(h y.1 z.1).bind fun d=>.ok (d,z.2)
 | .bool false=>.ok (.bool false,y.2)
 | _=>.bad
def zai:AF:=fun ρ=>.ok ([],ρ)
def zaa (f:EF) (a:AF):AF:=fun ρ=>(f ρ).bind fun x=>(a x.2).bind fun y=>.ok (x.1 :: y.1,y.2)
def zcv (a:AF):EF:=fun ρ=>(a ρ).bind fun x=>chk (leB x.1.length lim) (.ok (.tuple x.1,x.2))
def zc9 (a:AF):EF:=fun ρ=>(a ρ).bind fun x=>chk (leB x.1.length lim) (.ok (.list x.1,x.2))
def zaf (G:List D->R D) (a:AF):EF:=fun ρ=>(a ρ).bind fun x=>(G x.1).bind fun d=>.ok (d,x.2)
abbrev OF:=En->R (Option Int × En)
def zi9:OF:=fun ρ=>.ok (none,ρ)
def zi8 (f:EF):OF:=fun ρ=>(f ρ).bind fun x=>match x.1 with
 | .int i=>.ok (some i,x.2)
 | _=>.bad
def eSl (f:EF) (lo hi:OF):EF:=fun ρ=>(f ρ).bind fun x=>(lo x.2).bind fun l=>(hi l.2).bind fun u=>(zlj x.1 l.1 u.1).bind fun d=>.ok (d,u.2)
def za1 (ρ:En) (i:Nat):R D:=match ρ[i]? with
 | some (.ow _ d)=>.ok d
 | _=>.bad
def zjb (ρ:En) (i:Nat):R (List D):=match ρ[i]? with
 | some (.ow _ (.list a))=>.ok a
 | _=>.bad
def m1 (g:D->R D) (i:Nat):EF:=fun ρ=>(za1 ρ i).bind fun c=>(g c).bind fun d=>.ok (d,ρ)
def m2 (g:D->D->R D) (i:Nat) (h:EF):EF:=fun ρ=>(za1 ρ i).bind fun _=>(h ρ).bind fun y=>(za1 y.2 i).bind fun c=>(g c y.1).bind fun d=>.ok (d,y.2)
inductive Ar where
 | v (f:EF)
 | m (i:Nat)
 | t (f:EF)
inductive Itm where
 | vd (d:D)
 | mi (i:Nat)
 | td (d:D)
def zmA:List Ar->En->R (List Itm × En)
 | [],ρ=>.ok ([],ρ)
 | .v f :: r,ρ=>(f ρ).bind fun x=>(zmA r x.2).bind fun y=>.ok (.vd x.1 :: y.1,y.2)
 | .m i :: r,ρ=>(za1 ρ i).bind fun _=>(zmA r ρ).bind fun y=>.ok (.mi i :: y.1,y.2)
 | .t f :: r,ρ=>(f ρ).bind fun x=>(zmA r x.2).bind fun y=>.ok (.td x.1 :: y.1,y.2)
def zkY (ρ:En):List Itm->R (List D)
 | []=>.ok []
 | .vd d :: r=>(zkY ρ r).bind fun ds=>.ok (d :: ds)
 | .mi i :: r=>(za1 ρ i).bind fun d=>(zkY ρ r).bind fun ds=>.ok (d :: ds)
 | .td d :: r=>(zkY ρ r).bind fun ds=>.ok (d :: ds)
def zcm (ρ:En) (i:Nat) (d:D):En:=match ρ[i]? with
 | some (.ow p _)=>ρ.set i (.ow p d)
 | _=>ρ
def zj5:List Itm->List D->List (Nat × Sl)
 | .mi i :: r,d :: ds=>(i,.ow true d) :: zj5 r ds
 | .vd _ :: r,_ :: ds=>zj5 r ds
 | .td _ :: r,_ :: ds=>zj5 r ds
 | _,_=>[]
def bk1 (m:List (Nat × Sl)) (i:Nat) (x:Sl):Sl:=match x,m.lookup i with
 | .ow p _,some (.ow _ d)=>.ow p d
 | x,_=>x
def bkL (m:List (Nat × Sl)):Nat->En->En
 | _,[]=>[]
 | n,x :: r=>bk1 m n x :: bkL m (n + 1) r
def zmf (ρ:En) (a:List Itm) (os:List D):En:=bkL (zj5 a os) 0 ρ
def zam (F:List D->R (D × List D)) (a:List Ar):EF:=fun ρ=>(zmA a ρ).bind fun x=>(zkY x.2 x.1).bind fun ds=>(F ds).bind fun y=>.ok (y.1,zmf x.2 x.1 y.2)
def tE (f:EF):TF:=fun ρ=>(f ρ).bind fun x=>(zlf x.1).bind fun b=>.ok (b,x.2)
def tB (f:EF):TF:=fun ρ=>(f ρ).bind fun x=>match x.1 with
 | .bool b=>.ok (b,x.2)
 | _=>.bad
def zmH (t u:TF):TF:=fun ρ=>(t ρ).bind fun c=>if c.1=true then u c.2 else .ok (false,c.2)
def tOr (t u:TF):TF:=fun ρ=>(t ρ).bind fun c=>if c.1=true then .ok (true,c.2) else u c.2
def zbX (t:TF):TF:=fun ρ=>(t ρ).bind fun c=>.ok (!c.1,c.2)
def zaK:TF:=fun ρ=>.ok (true,ρ)
abbrev IF:=En->R (List D × En)
def iE (f:EF):IF:=fun ρ=>(f ρ).bind fun x=>(zob x.1).bind fun l=>.ok (l,x.2)
def iR1 (a:AF):IF:=fun ρ=>(a ρ).bind fun x=>(zpX x.1).bind fun l=>.ok (l,x.2)
def zij:Nat->List D->List D
 | _,[]=>[]
 | n,d :: r=>.tuple [.int n,d] :: zij (n + 1) r
def zjv:List D->List D->List D
 | a :: r,b :: s=>.tuple [a,b] :: zjv r s
 | _,_=>[]
def gN (i:Nat):GF:=fun d ρ=>match ρ[i]? with
 | some (.ow true _)=>.bad
 | some _=>.ok (ρ.set i (.val d))
 | none=>.bad
def zvj:List GF->List D->En->R En
 | [],[],ρ=>.ok ρ
 | g :: r,d :: ds,ρ=>(g d ρ).bind fun ρ1=>zvj r ds ρ1
 | _,_,_=>.bad
def gT (gs:List GF):GF:=fun d ρ=>match d with
 | .tuple ds=>zvj gs ds ρ
 | _=>.bad
def blk (k:Nat) (ix:List Nat) (ρ:En):En:=List.replicate k .no ++ ix.map fun i=>(ρ[i]?).getD .no
def back (ρ:En) (ix:List Nat) (cs:En):En:=bkL (ix.zip cs) 0 ρ
def zjo (k:Nat) (ix:List Nat) (g:GF) (t:TF) (f:EF):List D->En->List D->R (List D × En)
 | [],ρ,acc=>.ok (acc,ρ)
 | x :: xs,ρ,acc=>(g x (blk k ix ρ)).bind fun β=>(t β).bind fun c =>
   if c.1=true then (f c.2).bind fun y=>chk (leB (acc.length + 1) lim) (zjo k ix g t f xs (back ρ ix (y.2.drop k)) (acc ++ [y.1]))
   else zjo k ix g t f xs (back ρ ix (c.2.drop k)) acc
def zaz (k:Nat) (ix:List Nat) (it:IF) (g:GF) (t:TF) (f:EF):EF:=fun ρ=>(it ρ).bind fun x=>(zjo k ix g t f x.1 x.2 []).bind fun y=>.ok (.list y.1,y.2)
def sNx:SF:=fun ρ=>.ok (.nx,ρ)
def zan (s t:SF):SF:=fun ρ=>(s ρ).bind fun x=>match x.1 with
 | .nx=>t x.2
 | _=>.ok x
def zaC (g:GF) (f:EF):SF:=fun ρ=>(f ρ).bind fun x=>(g x.1 x.2).bind fun ρ1=>.ok (.nx,ρ1)
def zeJ (i:Nat) (f:EF):SF:=fun ρ=>(f ρ).bind fun x=>match x.2[i]? with
 | some (.ow true _)=>.bad
 | some _=>.ok (.nx,x.2.set i (.ow false x.1))
 | none=>.bad
def zeI (i:Nat) (s:SF):SF:=fun ρ=>(s ρ).bind fun x=>match x.1 with
 | .nx=>(match x.2[i]? with
  | some (.ow false d)=>.ok (.nx,x.2.set i (.val d))
  | _=>.bad)
 | _=>.ok x
def zi6 (i j:Nat) (f h:EF):SF:=fun ρ=>(f ρ).bind fun x=>(h x.2).bind fun y=>(gN i x.1 y.2).bind fun ρ1=>(gN j y.1 ρ1).bind fun ρ2=>.ok (.nx,ρ2)
def zxV (f n:EF):EF:=fun ρ=>(f ρ).bind fun x=>(n x.2).bind fun y=>match y.1 with
 | .int k=>chk (decide (0<=k) && leB k.toNat 1000000) (.ok (.list (List.replicate k.toNat x.1),y.2))
 | _=>.bad
def zv5 (i:Nat) (s:SF):SF:=fun ρ=>match ρ[i]? with
 | some (.ow false d)=>s (ρ.set i (.val d))
 | _=>.bad
def zav (f:EF):SF:=fun ρ=>(f ρ).bind fun x=>.ok (.rt x.1,x.2)
def zba (f:EF):SF:=fun ρ=>(f ρ).bind fun x=>.ok (.rf x.1,x.2)
def zoN (i:Nat):SF:=fun ρ=>match ρ[i]? with
 | some (.ow false d)=>.ok (.rf d,ρ)
 | _=>.bad
def sIf (t:TF) (a b:SF):SF:=fun ρ=>(t ρ).bind fun c=>if c.1=true then a c.2 else b c.2
def zoO:SF:=fun _=>.bad
def zv6:SF:=fun ρ=>.ok (.bk,ρ)
def forL (g:GF) (b:SF):List D->En->R (Fl × En)
 | [],ρ=>.ok (.nx,ρ)
 | x :: xs,ρ=>(g x ρ).bind fun ρ1=>(b ρ1).bind fun y=>match y.1 with
  | .nx | .ct=>forL g b xs y.2
  | .bk=>.ok (.nx,y.2)
  | .rt d=>.ok (.rt d,y.2)
  | .rf d=>.ok (.rf d,y.2)
def zeQ (it:IF) (g:GF) (b:SF):SF:=fun ρ=>(it ρ).bind fun x=>forL g b x.1 x.2
def zhA (t:TF) (b:SF):Nat->En->R (Fl × En)
 | 0,_=>.bad
 | n + 1,ρ=>(t ρ).bind fun c=>if c.1=true then (b c.2).bind fun y=>match y.1 with
   | .nx | .ct=>zhA t b n y.2
   | .bk=>.ok (.nx,y.2)
   | .rt d=>.ok (.rt d,y.2)
   | .rf d=>.ok (.rf d,y.2)
  else .ok (.nx,c.2)
def zhR (fuel:En->Nat) (t:TF) (b:SF):SF:=fun ρ=>zhA t b (fuel ρ) ρ
def setM (i:Nat) (f k:EF):SF:=fun ρ=>(f ρ).bind fun x=>(zjb x.2 i).bind fun _=>(k x.2).bind fun y=>(zjb y.2 i).bind fun c=>match y.1 with
 | .int j=>(R.of (ixN c.length j)).bind fun n=>.ok (.nx,zcm y.2 i (.list (c.set n x.1)))
 | _=>.bad
def slots:List Bool->List D->En
 | m :: ms,d :: ds=>(if m=true then .ow true d else .val d) :: slots ms ds
 | _,_=>[]
def outD (m:Bool) (d:D) (x:Option Sl):D:=match m,x with
 | true,some (.ow _ d')=>d'
 | _,_=>d
def outs:List Bool->List D->En->List D
 | m :: ms,d :: ds,ρ=>outD m d ρ.head? :: outs ms ds ρ.tail
 | _,_,_=>[]
def run (ms:List Bool) (fr:Bool) (n:Nat) (b:SF) (ds:List D):R (D × List D) :=
 if ds.length=ms.length then (b (slots ms ds ++ List.replicate (n - ds.length) .no)).bind fun x=>match x.1,fr with
  | .rt d,false=>.ok (d,outs ms ds x.2)
  | .rf d,true=>.ok (d,outs ms ds x.2)
  | .nx,false=>.ok (.none,outs ms ds x.2)
  | _,_=>.bad
 else .bad
def za0 (fr:Bool) (k n:Nat) (b:SF) (ds:List D):R D:=(run (List.replicate k false) fr n b ds).bind fun x=>.ok x.1
end FL
namespace FL
open PySem
end FL
namespace FL
open PySem
abbrev K1:=Int ⊕ Str
abbrev KQ:=List K1 ⊕ K1
def kOf:D->Option K1
 | .int i=>some (.inl i)
 | .str x=>some (.inr x)
 | _=>none
def zu0:List D->Option (List K1)
 | []=>some []
 | d :: r=>(kOf d).bind fun k=>(zu0 r).map fun ks=>k :: ks
def keyOf:D->Option KQ
 | .tuple xs=>(zu0 xs).map .inl
 | .int i=>some (.inr (.inl i))
 | .str x=>some (.inr (.inr x))
 | _=>none
def form:KQ->Bool
 | .inl _=>true
 | .inr _=>false
def keysOk (f:Bool) (kvs:List (D × D)):Bool:=kvs.all fun kv=>match keyOf kv.1 with
 | some q=>form q == f
 | none=>false
def look (kvs:List (D × D)) (q:KQ):Option D:=(kvs.find? fun kv=>decide (keyOf kv.1=some q)).map (·.2)
def ztt (kvs:List (D × D)) (k:D) (q:KQ) (v:D):List (D × D) :=
 if (kvs.any fun kv=>decide (keyOf kv.1=some q))=true then kvs.map fun kv=>if keyOf kv.1=some q then (kv.1,v) else kv else kvs ++ [(k,v)]
def dictAt (d k:D):R (List (D × D) × KQ):=match d with
 | .dict kvs=>(R.of (keyOf k)).bind fun q=>chk (keysOk (form q) kvs) (.ok (kvs,q))
 | _=>.bad
def zin (d k:D):R (Option D):=(dictAt d k).bind fun x=>.ok (look x.1 x.2)
def zvL (k d:D):R D:=(zin d k).bind fun o=>.ok (.bool (!o.isSome))
def zjS (d k:D):R D:=(zin d k).bind fun o=>R.of o
def zq9 (d k v:D):R D:=(dictAt d k).bind fun x=>chk (leB (x.1.length + 1) lim) (.ok (.dict (ztt x.1 k x.2 v)))
def zw2:D->R (List D)
 | .dict kvs=>.ok (kvs.map (·.1))
 | _=>.bad
def e3 (g:D->D->D->R D) (d k x:EF):EF:=fun ρ=>(d ρ).bind fun c=>(k c.2).bind fun a=>(x a.2).bind fun b=>(g c.1 a.1 b.1).bind fun r=>.ok (r,b.2)
def zsW (i:Nat) (k f:EF):SF:=fun ρ=>(f ρ).bind fun v=>(za1 v.2 i).bind fun _=>(k v.2).bind fun a=>(za1 a.2 i).bind fun c=>(zq9 c a.1 v.1).bind fun d=>.ok (.nx,zcm a.2 i d)
def iD (f:EF):IF:=fun ρ=>(f ρ).bind fun x=>(zw2 x.1).bind fun l=>.ok (l,x.2)
def zom:EF:=fun ρ=>.ok (.dict [],ρ)
end FL
namespace FL
open PySem
def zdL (i:Nat) (ρ:En):Nat:=match ρ[i]? with
 | some (.val (.int n))=>n.natAbs + 1
 | _=>0
abbrev WK:=Int × List Int
def ltW (p q:WK):Bool:=if p.1=q.1 then lexLt p.2 q.2 else decide (p.1 < q.1)
def insI (x:Int):List Int->List Int
 | []=>[x]
 | y :: r=>if y < x then y :: insI x r else x :: y :: r
def zjN:List Int->List Int
 | []=>[]
 | x :: r=>insI x (zjN r)
theorem insI_perm (x:Int):∀ l,(insI x l).Perm (x :: l)
 | []=>.refl _
 | y :: r=>by
  unfold insI
  split
  ·exact ((insI_perm x r).cons y).trans (.swap x y r)
  ·exact .refl _
theorem ze9:∀ l:List Int,(zjN l).Perm l
 | []=>.refl _
 | x :: r=>(insI_perm x _).trans ((ze9 r).cons x)
theorem zib (x:Int):∀ l:List Int,l.Pairwise (·<=·)->(insI x l).Pairwise (·<=·)
 | [],_=>by simp [insI]
 | y :: r,h=>by
  unfold insI
  rw [List.pairwise_cons] at h
  split
  ·rw [List.pairwise_cons]
   refine ⟨fun z hz=>?_,zib x r h.2⟩
   have:=(insI_perm x r).mem_iff.mp hz
   rcases List.mem_cons.mp this with rfl | hz
   ·omega
   ·exact h.1 z hz
  ·rw [List.pairwise_cons]
   refine ⟨fun z hz=>?_,List.pairwise_cons.mpr h⟩
   rcases List.mem_cons.mp hz with rfl | hz
   ·omega
   ·have:=h.1 z hz;omega
theorem zdg:∀ l:List Int,(zjN l).Pairwise (·<=·)
 | []=>.nil
 | x :: r=>zib x _ (zdg r)
end FL
namespace FL
open PySem L2 PySem.Spec
open PyProof.Rows hiding St
class Cs where
 C:Hp
 st:∀ a u,C a=some u->∃ o xs,u=.frz o (.tup xs)
def FzL (K:PySem.W.Frag) (H:Hp) (a:Addr) (xs:List V):Prop:=(∃ o,H a=some (.frz o (.lst xs))) \/
 ∃ (o:Obj) (its:Array Value) (n:Nat),K.lookup a=some o/\o.cls=.type "list"/\o.dict=none/\o.data=.seq its n/\its.size<=sizeLine/\Vals xs its.toList
def kD:Key->PyData
 | .inl i=>.int i
 | .inr x=>.str x
def zrK (k:List Key):PyData:=.tuple (k.map kD)
mutual
def Fz (K:PySem.W.Frag) (H:Hp):PyData->V->Prop
 | .none,v=>v=.non
 | .bool b,v=>v=.bl b
 | .int i,v=>v=.int i
 | .str x,v=>v=.str x
 | .list xs,v=>∃ a vs,v=.ref a/\FzL K H a vs/\zaj K H xs vs
 | .tuple xs,v=>∃ a vs,v=.ref a/\TAt H a vs/\zaj K H xs vs
 | .dict kvs,v=>∃ a o,v=.ref a/\((∃ kk,H a=some (.frz o (.dT kk))/\zcj K H kvs kk)\/∃ kk,H a=some (.frz o (.dK kk))/\zck K H kvs kk)
def zaj (K:PySem.W.Frag) (H:Hp):List PyData->List V->Prop
 | [],vs=>vs=[]
 | d :: ds,vs=>∃ v r,vs=v :: r/\Fz K H d v/\zaj K H ds r
def zcj (K:PySem.W.Frag) (H:Hp):List (PyData × PyData)->List (List Key × V)->Prop
 | [],kk=>kk=[]
 | (k,d) :: r,kk=>∃ q v t,kk=(q,v) :: t/\k=zrK q/\Fz K H d v/\zcj K H r t
def zck (K:PySem.W.Frag) (H:Hp):List (PyData × PyData)->List (Key × V)->Prop
 | [],kk=>kk=[]
 | (k,d) :: r,kk=>∃ q v t,kk=(q,v) :: t/\k=kD q/\Fz K H d v/\zck K H r t
end
def zxM:HO->Prop
 | .tup _=>True
 | .frz _ _=>True
 | _=>False
def Fzn (H H':Hp):Prop:=∀ a o,H a=some o->zxM o->H' a=some o
theorem Fzn.refl (H:Hp):Fzn H H:=fun _ _ h _=>h
theorem Fzn.trans {H H1 H2:Hp} (a:Fzn H H1) (b:Fzn H1 H2):Fzn H H2:=fun c o h s=>b c o (a c o h s) s
theorem Fzn.of {H H':Hp} (s:zbr H H'):Fzn H H':=fun a o h _=>s a o h
section
variable {K:PySem.W.Frag} {H H':Hp}
theorem Fzn.zxR {a:Addr} {xs:List V} (e:Fzn H H') (h:TAt H a xs):TAt H' a xs:=by
 rcases h with h | ⟨o,h⟩
 ·exact .inl (e _ _ h trivial)
 ·exact .inr ⟨o,e _ _ h trivial⟩
theorem Fzn.zoM {a:Addr} {xs:List V} (e:Fzn H H') (h:FzL K H a xs):FzL K H' a xs:=by
 rcases h with ⟨o,h⟩ | h
 ·exact .inl ⟨o,e _ _ h trivial⟩
 ·exact .inr h
theorem FzL.sq {a:Addr} {xs:List V} (h:FzL K H a xs):SqL K H a xs:=by
 rcases h with ⟨o,h⟩ | h
 ·exact .inl (.inr ⟨o,h⟩)
 ·exact .inr h
mutual
theorem Fz.mono (e:Fzn H H'):∀ (d:PyData) (v:V),Fz K H d v->Fz K H' d v
 | .none,v,h=>by simp only [Fz] at h ⊢;exact h
 | .bool b,v,h=>by simp only [Fz] at h ⊢;exact h
 | .int i,v,h=>by simp only [Fz] at h ⊢;exact h
 | .str x,v,h=>by simp only [Fz] at h ⊢;exact h
 | .list xs,v,h=>by
  simp only [Fz] at h ⊢
  obtain ⟨a,vs,e1,h1,h2⟩:=h
  exact ⟨a,vs,e1,e.zoM h1,zaj.mono e xs vs h2⟩
 | .tuple xs,v,h=>by
  simp only [Fz] at h ⊢
  obtain ⟨a,vs,e1,h1,h2⟩:=h
  exact ⟨a,vs,e1,e.zxR h1,zaj.mono e xs vs h2⟩
 | .dict kvs,v,h=>by
  simp only [Fz] at h ⊢
  obtain ⟨a,o,e1,h⟩:=h
  rcases h with ⟨kk,h1,h2⟩ | ⟨kk,h1,h2⟩
  ·exact ⟨a,o,e1,.inl ⟨kk,e _ _ h1 trivial,zcj.mono e kvs kk h2⟩⟩
  ·exact ⟨a,o,e1,.inr ⟨kk,e _ _ h1 trivial,zck.mono e kvs kk h2⟩⟩
theorem zaj.mono (e:Fzn H H'):∀ (ds:List PyData) (vs:List V),zaj K H ds vs->zaj K H' ds vs
 | [],vs,h=>by simp only [zaj] at h ⊢;exact h
 | d :: ds,vs,h=>by
  simp only [zaj] at h ⊢
  obtain ⟨v,r,e1,h1,h2⟩:=h
  exact ⟨v,r,e1,Fz.mono e d v h1,zaj.mono e ds r h2⟩
theorem zcj.mono (e:Fzn H H'):∀ (kvs:List (PyData × PyData)) (kk:List (List Key × V)),zcj K H kvs kk->zcj K H' kvs kk
 | [],kk,h=>by simp only [zcj] at h ⊢;exact h
 | (k,d) :: r,kk,h=>by
  simp only [zcj] at h ⊢
  obtain ⟨q,v,t,e1,e2,h1,h2⟩:=h
  exact ⟨q,v,t,e1,e2,Fz.mono e d v h1,zcj.mono e r t h2⟩
theorem zck.mono (e:Fzn H H'):∀ (kvs:List (PyData × PyData)) (kk:List (Key × V)),zck K H kvs kk->zck K H' kvs kk
 | [],kk,h=>by simp only [zck] at h ⊢;exact h
 | (k,d) :: r,kk,h=>by
  simp only [zck] at h ⊢
  obtain ⟨q,v,t,e1,e2,h1,h2⟩:=h
  exact ⟨q,v,t,e1,e2,Fz.mono e d v h1,zck.mono e r t h2⟩
end
theorem zaj.len:∀ {ds:List PyData} {vs:List V},zaj K H ds vs->vs.length=ds.length
 | [],vs,h=>by simp only [zaj] at h;subst h;rfl
 | d :: ds,vs,h=>by
  simp only [zaj] at h
  obtain ⟨v,r,rfl,_,h2⟩:=h
  simp [zaj.len h2]
theorem zaj.get:∀ {ds:List PyData} {vs:List V} {i:Nat} {d:PyData},zaj K H ds vs->ds[i]?=some d->∃ v,vs[i]?=some v/\Fz K H d v
 | [],vs,i,d,h,e=>by simp at e
 | d0 :: ds,vs,i,d,h,e=>by
  simp only [zaj] at h
  obtain ⟨v,r,rfl,h1,h2⟩:=h
  cases i with
  | zero=>simp at e;subst e;exact ⟨v,by simp,h1⟩
  | succ i =>
   obtain ⟨w,e1,f⟩:=zaj.get h2 (by simpa using e)
   exact ⟨w,by simpa using e1,f⟩
theorem zaj.app:∀ {ds es:List PyData} {vs ws:List V},zaj K H ds vs->zaj K H es ws->zaj K H (ds ++ es) (vs ++ ws)
 | [],es,vs,ws,h,g=>by simp only [zaj] at h;subst h;exact g
 | d :: ds,es,vs,ws,h,g=>by
  simp only [zaj] at h
  obtain ⟨v,r,rfl,h1,h2⟩:=h
  simp only [List.cons_append,zaj]
  exact ⟨v,r ++ ws,rfl,h1,zaj.app h2 g⟩
theorem zaj.take:∀ {ds:List PyData} {vs:List V} (n:Nat),zaj K H ds vs->zaj K H (ds.take n) (vs.take n)
 | ds,vs,0,h=>by simp [zaj]
 | [],vs,n + 1,h=>by simp only [zaj] at h;subst h;simp [zaj]
 | d :: ds,vs,n + 1,h=>by
  simp only [zaj] at h
  obtain ⟨v,r,rfl,h1,h2⟩:=h
  simp only [List.take_succ_cons,zaj]
  exact ⟨v,_,rfl,h1,zaj.take n h2⟩
theorem zaj.drop:∀ {ds:List PyData} {vs:List V} (n:Nat),zaj K H ds vs->zaj K H (ds.drop n) (vs.drop n)
 | ds,vs,0,h=>by simpa using h
 | [],vs,n + 1,h=>by simp only [zaj] at h;subst h;simp [zaj]
 | d :: ds,vs,n + 1,h=>by
  simp only [zaj] at h
  obtain ⟨v,r,rfl,h1,h2⟩:=h
  simpa using zaj.drop n h2
theorem zaj.set:∀ {ds:List PyData} {vs:List V} {d:PyData} {v:V} (n:Nat),zaj K H ds vs->Fz K H d v->zaj K H (ds.set n d) (vs.set n v)
 | [],vs,d,v,n,h,f=>by simp only [zaj] at h;subst h;simp [zaj]
 | d0 :: ds,vs,d,v,n,h,f=>by
  simp only [zaj] at h
  obtain ⟨v0,r,rfl,h1,h2⟩:=h
  cases n with
  | zero=>simp only [List.set_cons_zero,zaj];exact ⟨v,r,rfl,f,h2⟩
  | succ n=>simp only [List.set_cons_succ,zaj];exact ⟨v0,_,rfl,h1,zaj.set n h2 f⟩
theorem zaj.rep {ds:List PyData} {vs:List V} (h:zaj K H ds vs):∀ k:Nat,zaj K H (List.replicate k ds).flatten (List.replicate k vs).flatten
 | 0=>by simp [zaj]
 | k + 1=>by simp only [List.replicate_succ,List.flatten_cons];exact zaj.app h (zaj.rep h k)
theorem zaj.ints:∀ {ds:List PyData} {vs:List V} {ns:List Int},zaj K H ds vs->intsOf ds=some ns->vs=ns.map V.int/\ds=ns.map PyData.int
 | [],vs,ns,h,e=>by simp only [zaj] at h;simp only [intsOf,Option.some.injEq] at e;subst h;subst e;exact ⟨rfl,rfl⟩
 | d :: ds,vs,ns,h,e=>by
  simp only [zaj] at h
  obtain ⟨v,r,rfl,h1,h2⟩:=h
  cases d with
  | int i =>
   simp only [intsOf,Option.map_eq_some_iff] at e
   obtain ⟨ms,e1,rfl⟩:=e
   obtain ⟨a,b⟩:=zaj.ints h2 e1
   simp only [Fz] at h1
   subst h1;subst a;subst b
   exact ⟨rfl,rfl⟩
  | _=>simp [intsOf] at e
theorem zaj.bools:∀ {ds:List PyData} {vs:List V} {ns:List Bool},zaj K H ds vs->boolsOf ds=some ns->vs=ns.map V.bl/\ds=ns.map PyData.bool
 | [],vs,ns,h,e=>by simp only [zaj] at h;simp only [boolsOf,Option.some.injEq] at e;subst h;subst e;exact ⟨rfl,rfl⟩
 | d :: ds,vs,ns,h,e=>by
  simp only [zaj] at h
  obtain ⟨v,r,rfl,h1,h2⟩:=h
  cases d with
  | bool i =>
   simp only [boolsOf,Option.map_eq_some_iff] at e
   obtain ⟨ms,e1,rfl⟩:=e
   obtain ⟨a,b⟩:=zaj.bools h2 e1
   simp only [Fz] at h1
   subst h1;subst a;subst b
   exact ⟨rfl,rfl⟩
  | _=>simp [boolsOf] at e
theorem zaj.ofInts:∀ (ns:List Int),zaj K H (ns.map PyData.int) (ns.map V.int)
 | []=>by simp [zaj]
 | i :: r=>by simp only [List.map_cons,zaj];exact ⟨_,_,rfl,by simp [Fz],zaj.ofInts r⟩
end
def zbV (K:PySem.W.Frag) (H:Hp) (a:Addr):PyData->Prop
 | .list ds=>∃ vs,H a=some (.lst vs)/\zaj K H ds vs
 | .dict kvs=>(∃ kk,H a=some (.dT kk)/\zcj K H kvs kk)\/∃ kk,H a=some (.dK kk)/\zck K H kvs kk
 | _=>False
def Tp (K:PySem.W.Frag) (H:Hp):PyData->V->Prop
 | .list ds,v=>∃ a vs,v=.ref a/\SqL K H a vs/\zaj K H ds vs
 | .dict kvs,v=>∃ a,v=.ref a/\((∃ kk,Rd H a (.dT kk)/\zcj K H kvs kk)\/∃ kk,Rd H a (.dK kk)/\zck K H kvs kk)
 | d,v=>Fz K H d v
section
variable {K:PySem.W.Frag} {H H':Hp}
theorem Fz.tp {d:PyData} {v:V} (h:Fz K H d v):Tp K H d v:=by
 cases d with
 | list ds =>
  simp only [Fz] at h
  obtain ⟨a,vs,e,h1,h2⟩:=h
  exact ⟨a,vs,e,h1.sq,h2⟩
 | dict kvs =>
  simp only [Fz] at h
  obtain ⟨a,o,e,h⟩:=h
  rcases h with ⟨kk,h1,h2⟩ | ⟨kk,h1,h2⟩
  ·exact ⟨a,e,.inl ⟨kk,.inr ⟨o,h1⟩,h2⟩⟩
  ·exact ⟨a,e,.inr ⟨kk,.inr ⟨o,h1⟩,h2⟩⟩
 | _=>exact h
theorem zbV.tp {d:PyData} {a:Addr} (h:zbV K H a d):Tp K H d (.ref a):=by
 cases d with
 | list ds =>
  obtain ⟨vs,h1,h2⟩:=h
  exact ⟨a,vs,rfl,SqL.of h1,h2⟩
 | dict kvs =>
  rcases h with ⟨kk,h1,h2⟩ | ⟨kk,h1,h2⟩
  ·exact ⟨a,rfl,.inl ⟨kk,.inl h1,h2⟩⟩
  ·exact ⟨a,rfl,.inr ⟨kk,.inl h1,h2⟩⟩
 | _=>exact h.elim
def Own:HO->Prop
 | .lst _=>True
 | .dT _=>True
 | .dK _=>True
 | _=>False
theorem zbV.own {d:PyData} {a:Addr} (h:zbV K H a d):∃ o,H a=some o/\Own o:=by
 cases d with
 | list ds=>obtain ⟨vs,h1,_⟩:=h;exact ⟨_,h1,trivial⟩
 | dict kvs =>
  rcases h with ⟨kk,h1,h2⟩ | ⟨kk,h1,h2⟩
  ·exact ⟨_,h1,trivial⟩
  ·exact ⟨_,h1,trivial⟩
 | _=>exact h.elim
theorem Own.zdB {o:HO} (h:Own o):¬ zxM o:=by cases o <;> first | exact fun z=>z | exact h.elim
theorem zbV.mono {d:PyData} {a:Addr} (e:Fzn H H') (k:H' a=H a) (h:zbV K H a d):zbV K H' a d:=by
 cases d with
 | list ds=>obtain ⟨vs,h1,h2⟩:=h;exact ⟨vs,by rw [k];exact h1,h2.mono e⟩
 | dict kvs =>
  rcases h with ⟨kk,h1,h2⟩ | ⟨kk,h1,h2⟩
  ·exact .inl ⟨kk,by rw [k];exact h1,h2.mono e⟩
  ·exact .inr ⟨kk,by rw [k];exact h1,h2.mono e⟩
 | _=>exact h.elim
end
def zvE (K:PySem.W.Frag) (H:Hp):Sl->Option V->Prop
 | .no,_=>True
 | .val d,some v=>Fz K H d v
 | .ow _ d,some (.ref a)=>zbV K H a d
 | _,_=>False
def At (ρ:En) (σ:St) (i:Nat) (a:Addr):Prop:=(∃ p d,ρ[i]?=some (.ow p d))/\σ[i]?=some (some (.ref a))
def zvI [Cs] (H:Hp):Prop:=∀ a u,Cs.C a=some u->H a=some u
theorem zvI.mono [Cs] {H H':Hp} (h:zvI H) (e:Fzn H H'):zvI H':=fun a u q=>e a u (h a u q) (by
 obtain ⟨o,xs,rfl⟩:=Cs.st a u q
 trivial)
structure Rel [Cs] (K:PySem.W.Frag) (ρ:En) (σ:St) (H:Hp):Prop where
 len:ρ.length=σ.length
 ok:∀ (i:Nat) x v,ρ[i]?=some x->σ[i]?=some v->zvE K H x v
 sep:∀ i j a,At ρ σ i a->At ρ σ j a->i=j
 cst:zvI H
variable [Cs]
def MA (ρ:En) (σ:St) (a:Addr):Prop:=∃ i,At ρ σ i a
structure Stp (ρ ρ':En) (σ:St) (H H':Hp):Prop where
 md:∀ (i:Nat) p,(∃ d,ρ[i]?=some (.ow p d)) ↔ ∃ d,ρ'[i]?=some (.ow p d)
 kp:∀ a o,H a=some o->¬ MA ρ σ a->H' a=some o
section
variable {K:PySem.W.Frag} {ρ ρ' ρ'':En} {σ:St} {H H' H'':Hp}
theorem Rel.zxG (r:Rel K ρ σ H) {i:Nat} {a:Addr} (h:At ρ σ i a):∃ p d,ρ[i]?=some (.ow p d)/\zbV K H a d:=by
 obtain ⟨⟨p,d,e⟩,e2⟩:=h
 exact ⟨p,d,e,r.ok i _ _ e e2⟩
theorem Rel.zbk (r:Rel K ρ σ H) {a:Addr} (h:MA ρ σ a):∃ o,H a=some o/\Own o:=by
 obtain ⟨i,h⟩:=h
 obtain ⟨p,d,_,m⟩:=r.zxG h
 exact m.own
theorem Stp.refl:Stp ρ ρ σ H H:=⟨fun _ _=>Iff.rfl,fun _ _ h _=>h⟩
theorem Stp.ma (s:Stp ρ ρ' σ H H') {a:Addr}:MA ρ σ a ↔ MA ρ' σ a:=by
 constructor
 ·rintro ⟨i,⟨p,h⟩,e⟩;exact ⟨i,⟨p,(s.md i p).mp h⟩,e⟩
 ·rintro ⟨i,⟨p,h⟩,e⟩;exact ⟨i,⟨p,(s.md i p).mpr h⟩,e⟩
theorem Stp.trans (a:Stp ρ ρ' σ H H') (b:Stp ρ' ρ'' σ H' H''):Stp ρ ρ'' σ H H'' :=
 ⟨fun i p=>(a.md i p).trans (b.md i p),fun c o h n=>b.kp c o (a.kp c o h n) fun z=>n (a.ma.mpr z)⟩
theorem Stp.of (s:zbr H H'):Stp ρ ρ σ H H':=⟨fun _ _=>Iff.rfl,fun a o h _=>s a o h⟩
theorem Stp.fzn (s:Stp ρ ρ' σ H H') (r:Rel K ρ σ H):Fzn H H':=fun a o h st=>s.kp a o h fun m=>by
 obtain ⟨o',e,w⟩:=r.zbk m
 rw [h] at e
 cases e
 exact w.zdB st
theorem zvE.mono {x:Sl} {v:Option V} (f:Fzn H H') (k:∀ a,v=some (.ref a)->(∃ p d,x=.ow p d)->H' a=H a) (h:zvE K H x v):zvE K H' x v:=by
 cases x with
 | no=>trivial
 | val d=>cases v with
  | none=>exact h.elim
  | some v=>exact Fz.mono f d v h
 | ow p d=>cases v with
  | none=>exact h.elim
  | some v=>cases v with
   | ref a=>exact zbV.mono f (k a rfl ⟨p,d,rfl⟩) h
   | _=>exact h.elim
theorem Rel.same (r:Rel K ρ σ H) (s:zbr H H'):Rel K ρ σ H':=by
 refine ⟨r.len,fun i x v e1 e2=>(r.ok i x v e1 e2).mono (Fzn.of s) fun a e3 ⟨p,d,e4⟩=>?_,r.sep,r.cst.mono (Fzn.of s)⟩
 subst e3;subst e4
 obtain ⟨o,e,_⟩:=r.zbk ⟨i,⟨p,d,e1⟩,e2⟩
 rw [e,s a o e]
theorem Rel.put {a:Addr} {o:HO} (r:Rel K ρ σ H) (n:¬ MA ρ σ a) (ns:∀ u,H a=some u->¬ zxM u):Rel K ρ σ (upd H a o):=by
 have f:Fzn H (upd H a o):=fun b u e st=>by
  rw [zax fun z=>by subst z;exact ns u e st]
  exact e
 refine ⟨r.len,fun i x v e1 e2=>(r.ok i x v e1 e2).mono f fun b e3 ⟨p,d,e4⟩=>?_,r.sep,r.cst.mono f⟩
 subst e3;subst e4
 exact zax fun z=>n ⟨i,⟨p,d,e1⟩,z ▸ e2⟩
end
end FL
namespace FL
open PySem L2 PySem.Spec
open PyProof.Rows hiding St
variable [Cs]
section
variable {X:Cx} {pins:List (Addr × Obj)} {σ:L2.St} {H:Hp} {s:Shared}
theorem zyx {a:Addr} {u:HO} {o:Obj} (I:Inv X pins σ H s) (hd:H a=some u) (ow:Own u) (ho:s.heap.get? a=some o):Inv X pins σ (upd H a (.frz o u)) s:=by
 have ne:∀ b w,H b=some w->¬ Own w->b ≠ a:=fun b w e n z=>by
  subst z
  rw [e] at hd
  cases hd
  exact n ow
 refine Inv.step (s:=s) (h':=s.heap) (H':=upd H a (.frz o u)) (g':=s.gens) (t':=s.toks) (d':=s.drawn) (ch:=[]) I (fun _ z=>nomatch z) (fun b o _ _ _ e _=>e) (fun b o _ _ _ e _=>⟨o.slots,e⟩) (fun b _ _ _ n=>?_) (fun b o _ e=>⟨o,e⟩)
  (fun b xs e=>?_) (fun b o u e=>?_) (fun b ps e=>⟨#[],?_⟩) (fun m hm=>hm) (fun b w e=>?_) I.bare
 ·rw [zax fun z=>by subst z;rw [n] at hd;cases hd];exact n
 ·rw [zax (ne b _ e fun z=>z)];exact e
 ·rw [zax (ne b _ e fun z=>z)];exact e
 ·rw [zax (ne b _ e fun z=>z),e];simp
 ·have st:∀ (b:Addr) (w:HO),zbJ X.prog X.w H s.heap b w->zbJ X.prog X.w (upd H a (.frz o u)) s.heap b w:=fun b w k =>
   k.stay (fun _ _ _ q=>q) (fun b' q=>by rw [zax (ne b' _ q fun z=>z)];exact q) (fun b' xs q=>q.upd (fun _ r=>ne b' _ r fun z=>z) fun _ _ r=>ne b' _ r fun z=>z)
  by_cases c:b=a
  ·subst c
   rw [zao] at e
   cases e
   exact ⟨ho,st b u (I.hok b u hd)⟩
  ·rw [zax c] at e
   exact st b w (I.hok b w e)
theorem zxs {Q:VK} {w:Value} (h:EP X pins σ (fun v H1=>∃ a u,v=.ref a/\H1 a=some u/\Own u/\∀ o,Q v (upd H1 a (.frz o u))) w s):EP X pins σ Q w s:=by
 obtain ⟨v,H1,I,r,a,u,e,e1,ow,q⟩:=h
 obtain ⟨o,ho⟩:=(I.hok a u e1).some
 exact ⟨v,_,zyx I e1 ow ho,r,q o⟩
def tFz (t:TE):TE:=fun σ H Q=>t σ H fun v H1=>∃ a u,v=.ref a/\H1 a=some u/\Own u/\∀ o,Q v (upd H1 a (.frz o u))
theorem zyi {e:Expr} {t:TE} (h:PE X e t):PE X e (tFz t):=fun pins s σ H Q I q=>thn (h pins s σ H _ I q) fun _ _ z=>zxs z
end
def Good {β:Type} (K:PySem.W.Frag) (ρ:En) (σ:L2.St) (H:Hp) (r:R (β × En)) (P:β->En->Hp->Prop):Prop:=match r with
 | .ok x=>∀ H',Rel K x.2 σ H'->Stp ρ x.2 σ H H'->P x.1 x.2 H'
 | _=>False
def tV (K:PySem.W.Frag) (f:EF):TE:=fun σ H Q=>∃ ρ,Rel K ρ σ H/\Good K ρ σ H (f ρ) fun d _ H'=>∀ v,Fz K H' d v->Q v H'
def tT (K:PySem.W.Frag) (f:TF):TT:=fun σ H Q=>∃ ρ,Rel K ρ σ H/\Good K ρ σ H (f ρ) fun b _ H'=>Q b H'
def tA (K:PySem.W.Frag) (f:AF):TA:=fun σ H Q=>∃ ρ,Rel K ρ σ H/\Good K ρ σ H (f ρ) fun ds _ H'=>∀ vs,zaj K H' ds vs->Q vs H'
def tO (K:PySem.W.Frag) (f:OF):TO:=fun σ H Q=>∃ ρ,Rel K ρ σ H/\Good K ρ σ H (f ρ) fun o _ H'=>Q o H'
def tN (K:PySem.W.Frag) (f:EF):TE:=fun σ H Q=>∃ ρ,Rel K ρ σ H/\Good K ρ σ H (f ρ) fun d ρ' H'=>∀ a,H a=none->zbV K H' a d->Q (.ref a) H'
def PV (K:PySem.W.Frag) (X:Cx) (e:Expr) (f:EF):Prop:=X.K=K->PE X e (tV K f)
def PVT (K:PySem.W.Frag) (X:Cx) (e:Expr) (f:TF):Prop:=X.K=K->PT X e (tT K f)
def PVW (K:PySem.W.Frag) (X:Cx) (e:Expr) (f:TF):Prop:=X.K=K->PW X e (tT K f)
def PVA (K:PySem.W.Frag) (X:Cx) (es:List Expr) (f:AF):Prop:=X.K=K->PA X es (tA K f)
def PVO (K:PySem.W.Frag) (X:Cx) (e:Option Expr) (f:OF):Prop:=X.K=K->PO X e (tO K f)
def PVN (K:PySem.W.Frag) (X:Cx) (e:Expr) (f:EF):Prop:=X.K=K->PE X e (tN K f)
theorem _root_.L2.PE.weak {X:Cx} {e:Expr} {t t':TE} (h:PE X e t) (w:∀ σ H Q,t' σ H Q->t σ H Q):PE X e t':=fun pins s σ H Q I q=>h pins s σ H Q I (w σ H Q q)
theorem _root_.L2.PT.weak {X:Cx} {e:Expr} {t t':TT} (h:PT X e t) (w:∀ σ H Q,t' σ H Q->t σ H Q):PT X e t':=fun pins s σ H Q I q=>h pins s σ H Q I (w σ H Q q)
theorem _root_.L2.PW.weak {X:Cx} {e:Expr} {t t':TT} (h:PW X e t) (w:∀ σ H Q,t' σ H Q->t σ H Q):PW X e t':=fun wh pins s σ H Q I q=>h wh pins s σ H Q I (w σ H Q q)
theorem _root_.L2.PA.weak {X:Cx} {e:List Expr} {t t':TA} (h:PA X e t) (w:∀ σ H Q,t' σ H Q->t σ H Q):PA X e t':=fun pos pins s σ H Q I q=>h pos pins s σ H Q I (w σ H Q q)
theorem _root_.L2.PO.weak {X:Cx} {e:Option Expr} {t t':TO} (h:PO X e t) (w:∀ σ H Q,t' σ H Q->t σ H Q):PO X e t':=fun pins s σ H Q I q=>h pins s σ H Q I (w σ H Q q)
section
variable {K:PySem.W.Frag} {ρ ρ1:En} {σ:L2.St} {H H1:Hp} {β γ:Type}
theorem Good.step {r:R (β × En)} {P:β->En->Hp->Prop} (st:Stp ρ ρ1 σ H H1) (g:Good K ρ σ H r P):Good K ρ1 σ H1 r P:=by
 cases r with
 | ok x=>exact fun H' rel s=>g H' rel (st.trans s)
 | _=>exact g
theorem Good.bnd {r:R (β × En)} {k:β × En->R (γ × En)} {P:γ->En->Hp->Prop} (g:Good K ρ σ H (r.bind k) P):∃ x,r=.ok x/\Good K ρ σ H (k x) P:=by
 cases r with
 | ok x=>exact ⟨x,rfl,g⟩
 | _=>exact g.elim
theorem Good.ziB {r:R β} {k:β->R (γ × En)} {P:γ->En->Hp->Prop} (g:Good K ρ σ H (r.bind k) P):∃ x,r=.ok x/\Good K ρ σ H (k x) P:=by
 cases r with
 | ok x=>exact ⟨x,rfl,g⟩
 | _=>exact g.elim
theorem Good.chk {c:Bool} {r:R (γ × En)} {P:γ->En->Hp->Prop} (g:Good K ρ σ H (chk c r) P):c=true/\Good K ρ σ H r P:=by
 cases c with
 | true=>exact ⟨rfl,g⟩
 | false=>exact g.elim
theorem Good.now {x:β} {P:β->En->Hp->Prop} (g:Good K ρ σ H (.ok (x,ρ)) P) (rel:Rel K ρ σ H):P x ρ H:=g H rel .refl
theorem Good.new {x:β} {P:β->En->Hp->Prop} (g:Good K ρ σ H (.ok (x,ρ)) P) (rel:Rel K ρ σ H) (s:zbr H H1):P x ρ H1:=g H1 (rel.same s) (.of s)
theorem goV {f:EF} {k:D × En->R (β × En)} {S:VK} {P:β->En->Hp->Prop} (rel:Rel K ρ σ H) (g:Good K ρ σ H ((f ρ).bind k) P)
  (h:∀ d ρ1 v H1,Rel K ρ1 σ H1->Stp ρ ρ1 σ H H1->Fz K H1 d v->Good K ρ1 σ H1 (k (d,ρ1)) P->S v H1):tV K f σ H S:=by
 obtain ⟨x,e,g1⟩:=g.bnd
 refine ⟨ρ,rel,?_⟩
 rw [e]
 exact fun H' r s v fz=>h x.1 x.2 v H' r s fz (g1.step s)
theorem goT {f:TF} {k:Bool × En->R (β × En)} {S:Bool->Hp->Prop} {P:β->En->Hp->Prop} (rel:Rel K ρ σ H) (g:Good K ρ σ H ((f ρ).bind k) P)
  (h:∀ b ρ1 H1,Rel K ρ1 σ H1->Stp ρ ρ1 σ H H1->Good K ρ1 σ H1 (k (b,ρ1)) P->S b H1):tT K f σ H S:=by
 obtain ⟨x,e,g1⟩:=g.bnd
 refine ⟨ρ,rel,?_⟩
 rw [e]
 exact fun H' r s=>h x.1 x.2 H' r s (g1.step s)
theorem goA {f:AF} {k:List D × En->R (β × En)} {S:List V->Hp->Prop} {P:β->En->Hp->Prop} (rel:Rel K ρ σ H) (g:Good K ρ σ H ((f ρ).bind k) P)
  (h:∀ ds ρ1 vs H1,Rel K ρ1 σ H1->Stp ρ ρ1 σ H H1->zaj K H1 ds vs->Good K ρ1 σ H1 (k (ds,ρ1)) P->S vs H1):tA K f σ H S:=by
 obtain ⟨x,e,g1⟩:=g.bnd
 refine ⟨ρ,rel,?_⟩
 rw [e]
 exact fun H' r s vs fz=>h x.1 x.2 vs H' r s fz (g1.step s)
theorem goO {f:OF} {k:Option Int × En->R (β × En)} {S:Option Int->Hp->Prop} {P:β->En->Hp->Prop} (rel:Rel K ρ σ H) (g:Good K ρ σ H ((f ρ).bind k) P)
  (h:∀ b ρ1 H1,Rel K ρ1 σ H1->Stp ρ ρ1 σ H H1->Good K ρ1 σ H1 (k (b,ρ1)) P->S b H1):tO K f σ H S:=by
 obtain ⟨x,e,g1⟩:=g.bnd
 refine ⟨ρ,rel,?_⟩
 rw [e]
 exact fun H' r s=>h x.1 x.2 H' r s (g1.step s)
end
def rD (K:PySem.W.Frag) (g:D->D->R D):R2:=fun x y H Q=>∃ dx dy d,Tp K H dx x/\Tp K H dy y/\g dx dy=.ok d/\∀ v H',zbr H H'->Fz K H' d v->Q v H'
def rD1 (K:PySem.W.Frag) (g:D->R D):V->Hp->VK->Prop:=fun x H Q=>∃ dx d,Tp K H dx x/\g dx=.ok d/\∀ v H',zbr H H'->Fz K H' d v->Q v H'
def rDs (K:PySem.W.Frag) (G:List D->R D):List V->Hp->VK->Prop:=fun xs H Q=>∃ ds d,zaj K H ds xs/\G ds=.ok d/\∀ v H',zbr H H'->Fz K H' d v->Q v H'
def rD0 (K:PySem.W.Frag) (g:D->R D):List V->Hp->VK->Prop:=fun xs H Q=>∃ x dx d,xs=[x]/\Tp K H dx x/\g dx=.ok d/\∀ v H',zbr H H'->Fz K H' d v->Q v H'
section
variable {K:PySem.W.Frag} {X:Cx} {a b c:Expr} {f h k:EF} {pos:Pos}
theorem zab {x:Str} (i:Nat) (hN:X.N[i]?=some x:=by rfl) (hv:Vis X.env.scope x:=by first | exact Or.inl rfl | exact Or.inr (Or.inl rfl) | exact Or.inr (Or.inr rfl)) (hd:(x == ("__debug__":Str))=false:=by decide)
  (hcd:(x == ("__classdict__":Str))=false:=by decide):PV K X (.Name x pos) (eV i):=fun _=>(ztw hN hv hd hcd).weak fun σ H Q=>by
 rintro ⟨ρ,rel,g⟩
 unfold eV at g
 cases e:ρ[i]? with
 | none=>rw [e] at g;exact g.elim
 | some x =>
  rw [e] at g
  cases x with
  | val d =>
   have hl:i < σ.length:=by rw [<- rel.len];exact (List.getElem?_eq_some_iff.mp e).1
   have o:=rel.ok i _ _ e (List.getElem?_eq_getElem hl)
   cases es:σ[i] with
   | none=>rw [es] at o;exact o.elim
   | some v =>
    rw [es] at o
    exact ⟨v,by rw [List.getElem?_eq_getElem hl,es],g.now rel v o⟩
  | _=>exact g.elim
theorem zwj {e:Expr} {v:V} {d:D} (h:PE X e (tC v)) (hv:∀ H,Fz K H d v):PV K X e (eC d):=fun _=>h.weak fun σ H Q=>by
 rintro ⟨ρ,rel,g⟩
 exact g.now rel v (hv H)
theorem zae {i:Int} {j}:PV K X (.Constant (.int i) j pos) (eC (.int i)):=zwj zwB fun _=>by simp [Fz]
theorem zgh {i:Bool} {j}:PV K X (.Constant (.bool i) j pos) (eC (.bool i)):=zwj zyj fun _=>by simp [Fz]
theorem zts {j}:PV K X (.Constant .none j pos) (eC .none):=zwj zwz fun _=>by simp [Fz]
theorem znM {i:Str} {j}:PV K X (.Constant (.str i) j pos) (eC (.str i)):=zwj zwv fun _=>by simp [Fz]
theorem zp4 {x:Str} {v:V} {u:Value} {d:D} (hg:Gl X x) (hm:X.mg x=some u) (r:RelV v u) (hv:∀ H,Fz K H d v) (hd:(x == ("__debug__":Str))=false:=by decide):PV K X (.Name x pos) (eC d):=zwj (zqf hg hm r hd) hv
theorem zxU {g:D->D->R D} {r:R2} (ho:∀ x y H Q,rD K g x y H Q->r x y H Q) (σ:L2.St) (H:Hp) (Q:VK) (q:tV K (e2 g f h) σ H Q):tOp r (tV K f) (tV K h) σ H Q:=by
 obtain ⟨ρ,rel,q⟩:=q
 refine goV rel q fun dx ρ1 x H1 rel1 st1 fx q1=>goV rel1 q1 fun dy ρ2 y H2 rel2 st2 fy q2=>?_
 obtain ⟨d,ed,q3⟩:=q2.ziB
 exact ho _ _ _ _ ⟨dx,dy,d,(fx.mono (st2.fzn rel1)).tp,fy.tp,ed,fun v H' s fz=>q3.new rel2 s v fz⟩
theorem zaq {op:Operator} {g:D->D->R D} (ho:OpR X (binaryOp op) (rD X.K g)) (ha:PV K X a f) (hb:PV K X b h):PV K X (.BinOp a op b pos) (e2 g f h):=fun hK=>by
 subst hK
 exact (zww ho (ha rfl) (hb rfl)).weak fun σ H Q q=>zxU (fun _ _ _ _ z=>z) σ H Q q
theorem zaA {g:D->D->R D} (ho:IxR X (rD X.K g)) (ha:PV K X a f) (hb:PV K X b h) (hs:zkZ b:=by exact fun _ _=>rfl):PV K X (.Subscript a b pos) (e2 g f h):=fun hK=>by
 subst hK
 exact (zwA ho (ha rfl) (hb rfl) hs).weak fun σ H Q q=>zxU (fun _ _ _ _ z=>z) σ H Q q
theorem zwi {op:CmpOp} {g:D->D->R D} (ho:OpR X (compareOp op) (rD X.K g)) (ha:PV K X a f) (hb:PV K X b h) (hm:behindInMarks op b=false):PV K X (.Compare a [op] [b] pos) (e2 g f h):=fun hK=>by
 subst hK
 exact (zuL ho (ha rfl) (hb rfl) hm).weak fun σ H Q q=>zxU (fun _ _ _ _ z=>z) σ H Q q
theorem zut {op:UnaryOp} {g:D->R D} (ho:UnR X (unaryOp op) (rD1 X.K g)) (ha:PV K X a f):PV K X (.UnaryOp op a pos) (e1 g f):=fun hK=>by
 subst hK
 exact (zyg ho (ha rfl)).weak fun σ H Q=>by
  rintro ⟨ρ,rel,q⟩
  refine goV rel q fun dx ρ1 x H1 rel1 st1 fx q1=>?_
  obtain ⟨d,ed,q3⟩:=q1.ziB
  exact ⟨dx,d,fx.tp,ed,fun v H' s fz=>q3.new rel1 s v fz⟩
theorem zvh {g g':D->D->R D} (σ:L2.St) (H:Hp) (Q:VK) (q:tV K (zjR g g' f h k) σ H Q):ztp (rD K g) (rD K g') (tV K f) (tV K h) (tV K k) σ H Q:=by
 obtain ⟨ρ,rel,q⟩:=q
 refine goV rel q fun dx ρ1 x H1 rel1 st1 fx q1=>goV rel1 q1 fun dy ρ2 y H2 rel2 st2 fy q2=>?_
 obtain ⟨d,ed,q3⟩:=q2.ziB
 refine ⟨dx,dy,d,(fx.mono (st2.fzn rel1)).tp,fy.tp,ed,fun v H' s fz=>?_⟩
 cases d with
 | bool bb =>
  simp only [Fz] at fz
  subst fz
  have rel3:=rel2.same s
  have q4:=q3.step (.of s)
  cases bb with
  | true =>
   refine ⟨true,rfl,zsE ?_⟩
   refine goV rel3 q4 fun dz ρ3 z H3 rel4 st4 fzz q5=>?_
   obtain ⟨d2,ed2,q6⟩:=q5.ziB
   exact ⟨dy,dz,d2,((fy.mono (Fzn.of s)).mono (st4.fzn rel3)).tp,fzz.tp,ed2,fun v H' s fz=>q6.new rel4 s v fz⟩
  | false=>exact ⟨false,rfl,zsF (q4.now rel3 _ (by simp [Fz]))⟩
 | _=>exact q3.elim
theorem zjC {op} (ha:PV K X a f):PV K X (.BoolOp op [a] pos) f:=fun hK=>zwx (ha hK)
theorem zjD {rest:List Expr} (ha:PV K X a f) (hb:PV K X (.BoolOp .And (b :: rest) pos) h):PV K X (.BoolOp .And (a :: b :: rest) pos) (zmy f h):=fun hK=>(zwC (ha hK) (hb hK)).weak fun σ H Q=>by
 rintro ⟨ρ,rel,q⟩
 refine goV rel q fun dx ρ1 x H1 rel1 st1 fx q1=>?_
 cases dx with
 | bool bb =>
  simp only [Fz] at fx
  subst fx
  cases bb with
  | true=>exact ⟨true,rfl,zsE ⟨ρ1,rel1,q1⟩⟩
  | false=>exact ⟨false,rfl,zsF (q1.now rel1 _ (by simp [Fz]))⟩
 | _=>exact q1.elim
theorem ztr (ha:PV K X a f):PV K X (.UnaryOp .Not a pos) (zxu f):=fun hK=>(zwy (ha hK)).weak fun σ H Q=>by
 rintro ⟨ρ,rel,q⟩
 refine goV rel q fun dx ρ1 x H1 rel1 st1 fx q1=>?_
 cases dx with
 | bool bb =>
  simp only [Fz] at fx
  subst fx
  exact ⟨bb,rfl,q1.now rel1 _ (by simp [Fz])⟩
 | _=>exact q1.elim
theorem zyc {t:TF} (hc:PVT K X c t) (ha:PV K X a f) (hb:PV K X b h):PV K X (.IfExp c a b pos) (eIf t f h):=fun hK=>(zsj (hc hK) (ha hK) (hb hK)).weak fun σ H Q=>by
 rintro ⟨ρ,rel,q⟩
 refine goT rel q fun cb ρ1 H1 rel1 st1 q1=>?_
 cases cb with
 | true=>exact zsE ⟨ρ1,rel1,q1⟩
 | false=>exact zsF ⟨ρ1,rel1,q1⟩
variable {es:List Expr} {fa:AF}
theorem zhW:PVA K X [] zai:=fun _=>zls.weak fun σ H Q=>by
 rintro ⟨ρ,rel,q⟩
 exact q.now rel [] (by simp [zaj])
theorem zko (ha:PV K X a f) (hr:PVA K X es fa) (hs:starEach (a :: es) X.env=(false,eval a X.env) :: starEach es X.env:=by rfl):PVA K X (a :: es) (zaa f fa):=fun hK=>(zdZ (ha hK) (hr hK) hs).weak fun σ H Q=>by
 rintro ⟨ρ,rel,q⟩
 refine goV rel q fun dx ρ1 x H1 rel1 st1 fx q1=>goA rel1 q1 fun ds ρ2 vs H2 rel2 st2 fs q2=>?_
 exact q2.now rel2 _ (by simp only [zaj];exact ⟨x,vs,rfl,fx.mono (st2.fzn rel1),fs⟩)
theorem zde:lim<=sizeLine:=by rw [sizeLine_eq];decide
theorem zc5 {x1} (h:PVA K X es fa):PV K X (.Tuple es x1 pos) (zcv fa):=fun hK=>(zwu (h hK)).weak fun σ H Q=>by
 rintro ⟨ρ,rel,q⟩
 refine goA rel q fun ds ρ1 vs H1 rel1 st1 fs q1=>?_
 obtain ⟨c,q2⟩:=q1.chk
 refine ⟨by rw [fs.len];exact Nat.le_trans (zlE c) zde,fun p hp=>?_⟩
 have s:zbr H1 (upd H1 p (.tup vs)):=zbr.upd hp
 refine q2.new rel1 s _ ?_
 simp only [Fz]
 exact ⟨p,vs,rfl,.inl zao,fs.mono (Fzn.of s)⟩
theorem zcA (h:PVA K X es fa):PVN K X (.List es pos) (zc9 fa):=fun hK=>(ztx (h hK)).weak fun σ H Q=>by
 rintro ⟨ρ,rel,q⟩
 refine goA rel q fun ds ρ1 vs H1 rel1 st1 fs q1=>?_
 obtain ⟨c,q2⟩:=q1.chk
 refine ⟨by rw [fs.len];exact Nat.le_trans (zlE c) zde,fun p hp=>?_⟩
 have s:zbr H1 (upd H1 p (.lst vs)):=zbr.upd hp
 refine q2.new rel1 s p ?_ ?_
 ·cases e:H p with
  | none=>rfl
  | some o =>
   by_cases m:MA ρ σ p
   ·obtain ⟨o',e',_⟩:=rel1.zbk (st1.ma.mp m)
    rw [hp] at e';cases e'
   ·rw [st1.kp p o e m] at hp;cases hp
 ·exact ⟨vs,zao,fs.mono (Fzn.of s)⟩
theorem PVN.pv {e:Expr} {f:EF} (h:PVN K X e f):PV K X e f:=fun hK=>(zyi (h hK)).weak fun σ H Q=>by
 rintro ⟨ρ,rel,q⟩
 refine ⟨ρ,rel,?_⟩
 cases e:f ρ with
 | ok x =>
  rw [e] at q
  intro H' rel' st a ha m
  obtain ⟨u,e1,ow⟩:=m.own
  refine ⟨a,u,rfl,e1,ow,fun o=>?_⟩
  have nma:¬ MA ρ σ a:=fun z=>by
   obtain ⟨o',e',_⟩:=rel.zbk z
   rw [ha] at e';cases e'
  have nma':¬ MA x.2 σ a:=fun z=>nma (st.ma.mpr z)
  have fz:Fzn H' (upd H' a (.frz o u)):=fun b w e2 sy=>by
   rw [zax fun z=>by subst z;rw [e1] at e2;cases e2;exact ow.zdB sy]
   exact e2
  refine q _ (rel'.put nma' fun u' e2=>by rw [e1] at e2;cases e2;exact ow.zdB) ⟨st.md,fun b w e2 n=>?_⟩ _ ?_
  ·rw [zax fun z=>by subst z;rw [ha] at e2;cases e2]
   exact st.kp b w e2 n
  ·obtain ⟨d,ρ'⟩:=x
   cases d with
   | list ds =>
    obtain ⟨vs,h1,h2⟩:=m
    rw [e1] at h1
    cases h1
    simp only [Fz]
    exact ⟨a,vs,rfl,.inl ⟨o,zao⟩,h2.mono fz⟩
   | dict kvs =>
    simp only [Fz]
    rcases m with ⟨kk,h1,h2⟩ | ⟨kk,h1,h2⟩
    ·rw [e1] at h1
     cases h1
     exact ⟨a,o,rfl,.inl ⟨kk,zao,h2.mono fz⟩⟩
    ·rw [e1] at h1
     cases h1
     exact ⟨a,o,rfl,.inr ⟨kk,zao,h2.mono fz⟩⟩
   | _=>exact m.elim
 | _=>rw [e] at q;exact q.elim
theorem goC {G:List D->R D} {r:List V->Hp->VK->Prop} (hr:∀ xs H Q,rDs K G xs H Q->r xs H Q) (σ:L2.St) (H:Hp) (Q:VK) (q:tV K (zaf G fa) σ H Q):tCB r (tA K fa) σ H Q:=by
 obtain ⟨ρ,rel,q⟩:=q
 refine goA rel q fun ds ρ1 vs H1 rel1 st1 fs q1=>?_
 obtain ⟨d,ed,q2⟩:=q1.ziB
 exact hr _ _ _ ⟨ds,d,fs,ed,fun v H' s fz=>q2.new rel1 s v fz⟩
theorem znN {x:Str} {id:String} {G:List D->R D} {p:Pos} {e:Expr} (hc:zgJ X (.builtin id) (rDs X.K G)) (hg:Gl X x) (hm:X.mg x=none) (hv:bootBuiltins x=some (.builtin id)) (ha:PVA K X (e :: es) fa) (hn:x ≠ "__name__":=by decide) (hdb:(x == ("__debug__":Str))=false:=by decide)
  (he:starEach (e :: es) X.env=(false,eval e X.env) :: starEach es X.env:=by rfl) (hpl:(backTo pos (starEach es X.env)).any (·.1)=false:=by rfl):PV K X (.Call (.Name x p) (e :: es) [] pos) (zaf G fa):=fun hK=>by
 subst hK
 exact (znQ hc hg hm hv (ha rfl) hn hdb he hpl).weak fun σ H Q q=>goC (fun _ _ _ z=>z) σ H Q q
theorem zp5 {x:Str} {T:String} {G:List D->R D} {p:Pos} {e:Expr} (hc:zgJ X (.type T) (rDs X.K G)) (hg:Gl X x) (hm:X.mg x=none) (hv:bootBuiltins x=some (.type T)) (ha:PVA K X (e :: es) fa) (hn:x ≠ "__name__":=by decide) (hdb:(x == ("__debug__":Str))=false:=by decide)
  (he:starEach (e :: es) X.env=(false,eval e X.env) :: starEach es X.env:=by rfl) (hpl:(backTo pos (starEach es X.env)).any (·.1)=false:=by rfl):PV K X (.Call (.Name x p) (e :: es) [] pos) (zaf G fa):=fun hK=>by
 subst hK
 exact (zqh hc hg hm hv (ha rfl) hn hdb he hpl).weak fun σ H Q q=>goC (fun _ _ _ z=>z) σ H Q q
variable {lo hi:Option Expr} {fl fh:OF}
theorem zkm:PVO K X none zi9:=fun _=>zuF.weak fun σ H Q=>by
 rintro ⟨ρ,rel,q⟩
 exact q.now rel
theorem zkl (h:PV K X a f):PVO K X (some a) (zi8 f):=fun hK=>(zuE (h hK)).weak fun σ H Q=>by
 rintro ⟨ρ,rel,q⟩
 refine goV rel q fun dx ρ1 x H1 rel1 st1 fx q1=>?_
 cases dx with
 | int i =>
  simp only [Fz] at fx
  exact ⟨i,fx,q1.now rel1⟩
 | _=>exact q1.elim
def zyL (K:PySem.W.Frag):V->Option Int->Option Int->Hp->VK->Prop:=fun x lo hi H Q=>∃ dx d,Tp K H dx x/\zlj dx lo hi=.ok d/\∀ v H',zbr H H'->Fz K H' d v->Q v H'
theorem zkp {p2:Pos} (hr:SlR X (zyL X.K)) (he:PV K X a f) (hl:PVO K X lo fl) (hu:PVO K X hi fh):PV K X (.Subscript a (.Slice lo hi none p2) pos) (eSl f fl fh):=fun hK=>by
 subst hK
 exact (zsi hr (he rfl) (hl rfl) (hu rfl)).weak fun σ H Q=>by
  rintro ⟨ρ,rel,q⟩
  refine goV rel q fun dx ρ1 x H1 rel1 st1 fx q1=>goO rel1 q1 fun l ρ2 H2 rel2 st2 q2=>goO rel2 q2 fun u ρ3 H3 rel3 st3 q3=>?_
  obtain ⟨d,ed,q4⟩:=q3.ziB
  exact ⟨dx,d,((fx.mono (st2.fzn rel1)).mono (st3.fzn rel2)).tp,ed,fun v H' s fz=>q4.new rel3 s v fz⟩
variable {t u:TF}
theorem zbm (hv:zyG X (fun x H Q=>∃ d k,Tp X.K H d x/\zlf d=.ok k/\Q k H)) (h:PV K X a f) (he:∀ whole,isTrue a X.env whole=(do let v <- whole;standAt a.pos;holding [v] (truthy v)):=by intro _;rfl):PVT K X a (tE f):=fun hK=>by
 subst hK
 intro pins s σ H Q I q
 rw [he]
 obtain ⟨ρ,rel,q⟩:=q
 refine wpAny_bind (thn (h rfl pins s σ H (fun x H'=>∃ d k,Tp X.K H' d x/\zlf d=.ok k/\Q k H') I ?_) fun v s1 ⟨x,H1,I1,r1,q1⟩=>wpAny_bind (wpAny_standAt (wpAny_holding (hv pins s1 σ H1 x v Q I1 r1 q1))))
 refine goV rel q fun dx ρ1 x H1 rel1 st1 fx q1=>?_
 obtain ⟨d,ed,q2⟩:=q1.ziB
 exact ⟨dx,d,fx.tp,ed,q2.now rel1⟩
theorem goB {te:TE} (hw:∀ σ H Q,tV K f σ H Q->te σ H Q) (σ:L2.St) (H:Hp) (Q:Bool->Hp->Prop) (q:tT K (tB f) σ H Q):te σ H fun x H'=>∃ k,x=.bl k/\Q k H':=by
 obtain ⟨ρ,rel,q⟩:=q
 refine hw σ H _ (goV rel q fun dx ρ1 x H1 rel1 st1 fx q1=>?_)
 cases dx with
 | bool bb =>
  simp only [Fz] at fx
  exact ⟨bb,fx,q1.now rel1⟩
 | _=>exact q1.elim
theorem zuk {op:CmpOp} {g:D->D->R D} (ho:OpR X (compareOp op) (rD X.K g)) (ha:PV K X a f) (hb:PV K X b h) (hm:behindInMarks op b=false):PVT K X (.Compare a [op] [b] pos) (tB (e2 g f h)):=fun hK=>by
 subst hK
 exact (zuy ho (ha rfl) (hb rfl) hm).weak fun σ H Q q=>goB (fun σ H Q z=>zxU (fun _ _ _ _ z=>z) σ H Q z) σ H Q q
theorem zr1 (ha:PVT K X a t):PVW K X (.BoolOp .And [a] pos) t:=fun hK=>zui (ha hK)
theorem zcR (ha:PVT K X a t):PVW K X (.BoolOp .Or [a] pos) t:=fun hK=>zwc (ha hK)
theorem zuj {rest:List Expr} (ha:PVT K X a t) (hb:PVW K X (.BoolOp .And (b :: rest) pos) u):PVW K X (.BoolOp .And (a :: b :: rest) pos) (FL.zmH t u):=fun hK=>(zwd (ha hK) (hb hK)).weak fun σ H Q=>by
 rintro ⟨ρ,rel,q⟩
 refine goT rel q fun cb ρ1 H1 rel1 st1 q1=>?_
 cases cb with
 | true=>exact zsE ⟨ρ1,rel1,q1⟩
 | false=>exact zsF (q1.now rel1)
theorem zcz {rest:List Expr} (ha:PVT K X a t) (hb:PVW K X (.BoolOp .Or (b :: rest) pos) u):PVW K X (.BoolOp .Or (a :: b :: rest) pos) (FL.tOr t u):=fun hK=>(zya (ha hK) (hb hK)).weak fun σ H Q=>by
 rintro ⟨ρ,rel,q⟩
 refine goT rel q fun cb ρ1 H1 rel1 st1 q1=>?_
 cases cb with
 | true=>exact zsE (q1.now rel1)
 | false=>exact zsF ⟨ρ1,rel1,q1⟩
theorem PVW.pvt (h:PVW K X a t):PVT K X a t:=fun hK=>(h hK).pt
theorem zbn (ha:PVT K X a t):PVT K X (.UnaryOp .Not a pos) (FL.zbX t):=fun hK=>(zwk (ha hK)).weak fun σ H Q=>by
 rintro ⟨ρ,rel,q⟩
 exact goT rel q fun cb ρ1 H1 rel1 st1 q1=>q1.now rel1
theorem zpY {op op':CmpOp} {g g':D->D->R D} (ho:OpR X (compareOp op) (rD X.K g)) (ho':OpR X (compareOp op') (rD X.K g')) (ha:PV K X a f) (hb:PV K X b h) (hc:PV K X c k)
  (hm:lastMarks [op,op'] [b,c]=false:=by with_unfolding_all rfl):PVT K X (.Compare a [op,op'] [b,c] pos) (tB (zjR g g' f h k)):=fun hK=>by
 subst hK
 exact (zsa ho ho' (ha rfl) (hb rfl) (hc rfl) hm).weak fun σ H Q q=>goB (fun σ H Q z=>zvh σ H Q z) σ H Q q
end
end FL
namespace FL
open PySem L2 PySem.Spec
open PyProof.Rows hiding St
variable [Cs]
theorem zo1 (x y:Int) (xs ys:List Int):lexLe (x :: xs) (y :: ys)=if x=y then lexLe xs ys else decide (x<=y):=rfl
theorem zkA:lexLe [] []=true:=rfl
theorem zje (y:Int) (ys:List Int):lexLe [] (y :: ys)=true:=rfl
theorem zjf (x:Int) (xs:List Int):lexLe (x :: xs) []=false:=rfl
theorem zpV (A:Around) (s:Shared) (a:Int) (t:Tok) (c:Int) (u:Tok) (prog:Program) (w:World) (E:Value->Shared->Prop) (Q:Value->Shared->Prop) (h:Q (.bool (decide (a<=c))) s) :
  wpAny (model prog w) A (richCompare .LtE (.int a t) (.int c u)) Q E s :=
 (PyProof.Rows.le_int h:wpAny (model prog w) A (compareOp .LtE (.int a t) (.int c u)) Q E s)
section
open PySem.SeqAt
open PySem.AutoSeq1 (wpAny_loadPart')
open PySem.MeetsSeq PySem.MeetsSeq2 PySem.MeetsSeq3
theorem zkd (l b:Addr) (items items2:Array Value) (n n2:Nat) (dd dd2:Option Addr) (sl sl2:Array (Option Value)) (ns ms:List Int) (hi:IntsAre items.toList ns) (hj:IntsAre items2.toList ms) :
  Meets (Builtin.«tuple.__le__» ⟨[.ref l,.ref b],[]⟩)
   (fun _ R s=>s.heap.get? l=some { cls:=.type "tuple",dict:=dd,data:=.seq items n,slots:=sl }/\s.heap.get? b=some { cls:=.type "tuple",dict:=dd2,data:=.seq items2 n2,slots:=sl2 } /\
    R (.ok (.ret (.bool (lexLe ns ms)))) s) :=
 .of_wp fun prog w A R s h=>by
  obtain ⟨hp,g,d,tk,os⟩:=s;obtain ⟨hl,hb,h⟩:=h
  have f2:=AutoSeq1.sub_tuple_tuple
  have z1:items.size=ns.length:=by rw [<- hi.length];simp
  have z2:items2.size=ms.length:=by rw [<- hj.length];simp
  wp_walk using wpAny_loadPart' hl,wpAny_loadPart' hb,wpAny_forIn_list _ (fun rest b s'=>b.1=none/\s'=⟨hp,g,d,tk,os⟩/\∃ (vs ws:List Value) (ns' ms':List Int),rest=vs.zip ws /\
   IntsAre vs ns'/\IntsAre ws ms'/\ns'.length + items2.size=ms'.length + items.size/\R (.ok (.ret (.bool (lexLe ns' ms')))) ⟨hp,g,d,tk,os⟩) _
  case turn =>
   rintro ⟨y,x⟩ rest b s' ⟨hb',rfl,vs,ws,ns',ms',hz,hvi,hwi,hlen,hR⟩
   cases hvi with
   | nil=>rw [List.zip_nil_left] at hz;cases hz
   | cons a t hvi' =>
    cases hwi with
    | nil=>rw [List.zip_nil_right] at hz;cases hz
    | cons c u hwi' =>
     rw [List.zip_cons_cons] at hz
     injection hz with hyx hrest
     injection hyx with hy hx
     subst hy hx
     rw [zo1] at hR
     simp only [List.length_cons] at hlen
     obtain ⟨e,he,hiff⟩:=HT.zhr A.in1 ⟨hp,g,d,tk,os⟩ a t c u
     refine wpAny_bind (he prog w _ _ ?_)
     cases e with
     | true =>
      rw [if_pos (hiff.mp rfl)] at hR
      wp_walk
      exact ⟨rfl,rfl,_,_,_,_,hrest,hvi',hwi',by omega,hR⟩
     | false =>
      rw [if_neg (fun q=>absurd (hiff.mpr q) Bool.false_ne_true)] at hR
      have hri:=zpV A.in1 ⟨hp,g,d,tk,os⟩ a t c u prog w
      wp_walk using hri
      exact ⟨_,rfl,by simpa using hR⟩
  case fin =>
   rintro ⟨b1,b2⟩ s' ⟨hb',rfl,vs,ws,ns',ms',hz,hvi,hwi,hlen,hR⟩
   simp only at hb'
   subst hb'
   have hv:lexLe ns' ms'=decide (items.size<=items2.size):=by
    cases hvi with
    | nil =>
     cases hwi with
     | nil =>
      simp only [List.length_nil] at hlen
      rw [zkA]
      exact (decide_eq_true (by omega)).symm
     | cons c u hw =>
      simp only [List.length_nil,List.length_cons] at hlen
      rw [zje]
      exact (decide_eq_true (by omega)).symm
    | cons a t hv =>
     cases hwi with
     | nil =>
      simp only [List.length_nil,List.length_cons] at hlen
      rw [zjf]
      exact (decide_eq_false (by omega)).symm
     | cons c u hw =>
      rw [List.zip_cons_cons] at hz
      cases hz
   rw [hv] at hR
   wp_walk
   exact ⟨_,rfl,by simpa [Builtin.Tuple.tupleCompareSizes] using hR⟩
  case h =>
   exact ⟨rfl,rfl,items.toList,items2.toList,ns,ms,rfl,hi,hj,by omega,h⟩
end
section
variable {prog:Program} {w:World} {A:Around} {E:Value->Shared->Prop} {s:Shared}
theorem zo5 {l b:Addr} {items items2:Array Value} {ns ms:List Int} {Q:Value->Shared->Prop} (hl:IsTup s.heap l items) (hb:IsTup s.heap b items2) (hi:IntsAre items.toList ns) (hj:IntsAre items2.toList ms)
  (hu:A.units < cLine) (h:Q (.bool (lexLe ns ms)) s):wpAny (model prog w) A (compareOp .LtE (.ref l) (.ref b)) Q E s:=by
 obtain ⟨⟨cls,dd,data,sl⟩,ho,hc,n,hd⟩:=id hl
 obtain ⟨⟨cls2,dd2,data2,sl2⟩,ho2,hc2,n2,hd2⟩:=id hb
 simp only at hc hd hc2 hd2
 subst hc hd hc2 hd2
 exact richCompare_meets_room (op:=.LtE) ⟨_,ho,rfl⟩ ⟨_,ho2,rfl⟩ PySem.F.slot_tuple_le PySem.F.entry_tuple_le (PySem.F.args_tuple_le_2 _ _) (zkd l b items items2 n n2 dd dd2 sl sl2 ns ms hi hj)
  ⟨ho,ho2,show Value.bool (lexLe ns ms) ≠ Value.notImplemented/\Q (.bool (lexLe ns ms)) s from ⟨(fun x=>nomatch x),h⟩⟩ hu
end
theorem zo2 (x y:Int) (xs ys:List Int):zgk (x :: xs) (y :: ys)=if x=y then zgk xs ys else decide (y < x):=rfl
theorem zkB:zgk [] []=false:=rfl
theorem zjg (y:Int) (ys:List Int):zgk [] (y :: ys)=false:=rfl
theorem zjh (x:Int) (xs:List Int):zgk (x :: xs) []=true:=rfl
theorem zrZ (A:Around) (s:Shared) (a:Int) (t:Tok) (c:Int) (u:Tok) (prog:Program) (w:World) (E:Value->Shared->Prop) (Q:Value->Shared->Prop) (h:Q (.bool (decide (c < a))) s) :
  wpAny (model prog w) A (richCompare .Gt (.int a t) (.int c u)) Q E s :=
 (PyProof.Rows.gt_int h:wpAny (model prog w) A (compareOp .Gt (.int a t) (.int c u)) Q E s)
section
open PySem.SeqAt
open PySem.AutoSeq1 (wpAny_loadPart')
open PySem.MeetsSeq PySem.MeetsSeq2 PySem.MeetsSeq3
theorem zke (l b:Addr) (items items2:Array Value) (n n2:Nat) (dd dd2:Option Addr) (sl sl2:Array (Option Value)) (ns ms:List Int) (hi:IntsAre items.toList ns) (hj:IntsAre items2.toList ms) :
  Meets (Builtin.«tuple.__gt__» ⟨[.ref l,.ref b],[]⟩)
   (fun _ R s=>s.heap.get? l=some { cls:=.type "tuple",dict:=dd,data:=.seq items n,slots:=sl }/\s.heap.get? b=some { cls:=.type "tuple",dict:=dd2,data:=.seq items2 n2,slots:=sl2 } /\
    R (.ok (.ret (.bool (zgk ns ms)))) s) :=
 .of_wp fun prog w A R s h=>by
  obtain ⟨hp,g,d,tk,os⟩:=s;obtain ⟨hl,hb,h⟩:=h
  have f2:=AutoSeq1.sub_tuple_tuple
  have z1:items.size=ns.length:=by rw [<- hi.length];simp
  have z2:items2.size=ms.length:=by rw [<- hj.length];simp
  wp_walk using wpAny_loadPart' hl,wpAny_loadPart' hb,wpAny_forIn_list _ (fun rest b s'=>b.1=none/\s'=⟨hp,g,d,tk,os⟩/\∃ (vs ws:List Value) (ns' ms':List Int),rest=vs.zip ws /\
   IntsAre vs ns'/\IntsAre ws ms'/\ns'.length + items2.size=ms'.length + items.size/\R (.ok (.ret (.bool (zgk ns' ms')))) ⟨hp,g,d,tk,os⟩) _
  case turn =>
   rintro ⟨y,x⟩ rest b s' ⟨hb',rfl,vs,ws,ns',ms',hz,hvi,hwi,hlen,hR⟩
   cases hvi with
   | nil=>rw [List.zip_nil_left] at hz;cases hz
   | cons a t hvi' =>
    cases hwi with
    | nil=>rw [List.zip_nil_right] at hz;cases hz
    | cons c u hwi' =>
     rw [List.zip_cons_cons] at hz
     injection hz with hyx hrest
     injection hyx with hy hx
     subst hy hx
     rw [zo2] at hR
     simp only [List.length_cons] at hlen
     obtain ⟨e,he,hiff⟩:=HT.zhr A.in1 ⟨hp,g,d,tk,os⟩ a t c u
     refine wpAny_bind (he prog w _ _ ?_)
     cases e with
     | true =>
      rw [if_pos (hiff.mp rfl)] at hR
      wp_walk
      exact ⟨rfl,rfl,_,_,_,_,hrest,hvi',hwi',by omega,hR⟩
     | false =>
      rw [if_neg (fun q=>absurd (hiff.mpr q) Bool.false_ne_true)] at hR
      have hri:=zrZ A.in1 ⟨hp,g,d,tk,os⟩ a t c u prog w
      wp_walk using hri
      exact ⟨_,rfl,by simpa using hR⟩
  case fin =>
   rintro ⟨b1,b2⟩ s' ⟨hb',rfl,vs,ws,ns',ms',hz,hvi,hwi,hlen,hR⟩
   simp only at hb'
   subst hb'
   have hv:zgk ns' ms'=decide (items2.size < items.size):=by
    cases hvi with
    | nil =>
     cases hwi with
     | nil =>
      simp only [List.length_nil] at hlen
      rw [zkB]
      exact (decide_eq_false (by omega)).symm
     | cons c u hw =>
      simp only [List.length_nil,List.length_cons] at hlen
      rw [zjg]
      exact (decide_eq_false (by omega)).symm
    | cons a t hv =>
     cases hwi with
     | nil =>
      simp only [List.length_nil,List.length_cons] at hlen
      rw [zjh]
      exact (decide_eq_true (by omega)).symm
     | cons c u hw =>
      rw [List.zip_cons_cons] at hz
      cases hz
   rw [hv] at hR
   wp_walk
   exact ⟨_,rfl,by simpa [Builtin.Tuple.tupleCompareSizes] using hR⟩
  case h =>
   exact ⟨rfl,rfl,items.toList,items2.toList,ns,ms,rfl,hi,hj,by omega,h⟩
end
section
variable {prog:Program} {w:World} {A:Around} {E:Value->Shared->Prop} {s:Shared}
theorem zpf {l b:Addr} {items items2:Array Value} {ns ms:List Int} {Q:Value->Shared->Prop} (hl:IsTup s.heap l items) (hb:IsTup s.heap b items2) (hi:IntsAre items.toList ns) (hj:IntsAre items2.toList ms)
  (hu:A.units < cLine) (h:Q (.bool (zgk ns ms)) s):wpAny (model prog w) A (compareOp .Gt (.ref l) (.ref b)) Q E s:=by
 obtain ⟨⟨cls,dd,data,sl⟩,ho,hc,n,hd⟩:=id hl
 obtain ⟨⟨cls2,dd2,data2,sl2⟩,ho2,hc2,n2,hd2⟩:=id hb
 simp only at hc hd hc2 hd2
 subst hc hd hc2 hd2
 exact richCompare_meets_room (op:=.Gt) ⟨_,ho,rfl⟩ ⟨_,ho2,rfl⟩ PySem.F.slot_tuple_gt PySem.F.entry_tuple_gt (PySem.F.args_tuple_gt_2 _ _) (zke l b items items2 n n2 dd dd2 sl sl2 ns ms hi hj)
  ⟨ho,ho2,show Value.bool (zgk ns ms) ≠ Value.notImplemented/\Q (.bool (zgk ns ms)) s from ⟨(fun x=>nomatch x),h⟩⟩ hu
end
theorem zo3 (x y:Int) (xs ys:List Int):zgl (x :: xs) (y :: ys)=if x=y then zgl xs ys else decide (y<=x):=rfl
theorem zkC:zgl [] []=true:=rfl
theorem zji (y:Int) (ys:List Int):zgl [] (y :: ys)=false:=rfl
theorem zjj (x:Int) (xs:List Int):zgl (x :: xs) []=true:=rfl
theorem zpW (A:Around) (s:Shared) (a:Int) (t:Tok) (c:Int) (u:Tok) (prog:Program) (w:World) (E:Value->Shared->Prop) (Q:Value->Shared->Prop) (h:Q (.bool (decide (c<=a))) s) :
  wpAny (model prog w) A (richCompare .GtE (.int a t) (.int c u)) Q E s :=
 (PyProof.Rows.ge_int h:wpAny (model prog w) A (compareOp .GtE (.int a t) (.int c u)) Q E s)
section
open PySem.SeqAt
open PySem.AutoSeq1 (wpAny_loadPart')
open PySem.MeetsSeq PySem.MeetsSeq2 PySem.MeetsSeq3
theorem zkf (l b:Addr) (items items2:Array Value) (n n2:Nat) (dd dd2:Option Addr) (sl sl2:Array (Option Value)) (ns ms:List Int) (hi:IntsAre items.toList ns) (hj:IntsAre items2.toList ms) :
  Meets (Builtin.«tuple.__ge__» ⟨[.ref l,.ref b],[]⟩)
   (fun _ R s=>s.heap.get? l=some { cls:=.type "tuple",dict:=dd,data:=.seq items n,slots:=sl }/\s.heap.get? b=some { cls:=.type "tuple",dict:=dd2,data:=.seq items2 n2,slots:=sl2 } /\
    R (.ok (.ret (.bool (zgl ns ms)))) s) :=
 .of_wp fun prog w A R s h=>by
  obtain ⟨hp,g,d,tk,os⟩:=s;obtain ⟨hl,hb,h⟩:=h
  have f2:=AutoSeq1.sub_tuple_tuple
  have z1:items.size=ns.length:=by rw [<- hi.length];simp
  have z2:items2.size=ms.length:=by rw [<- hj.length];simp
  wp_walk using wpAny_loadPart' hl,wpAny_loadPart' hb,wpAny_forIn_list _ (fun rest b s'=>b.1=none/\s'=⟨hp,g,d,tk,os⟩/\∃ (vs ws:List Value) (ns' ms':List Int),rest=vs.zip ws /\
   IntsAre vs ns'/\IntsAre ws ms'/\ns'.length + items2.size=ms'.length + items.size/\R (.ok (.ret (.bool (zgl ns' ms')))) ⟨hp,g,d,tk,os⟩) _
  case turn =>
   rintro ⟨y,x⟩ rest b s' ⟨hb',rfl,vs,ws,ns',ms',hz,hvi,hwi,hlen,hR⟩
   cases hvi with
   | nil=>rw [List.zip_nil_left] at hz;cases hz
   | cons a t hvi' =>
    cases hwi with
    | nil=>rw [List.zip_nil_right] at hz;cases hz
    | cons c u hwi' =>
     rw [List.zip_cons_cons] at hz
     injection hz with hyx hrest
     injection hyx with hy hx
     subst hy hx
     rw [zo3] at hR
     simp only [List.length_cons] at hlen
     obtain ⟨e,he,hiff⟩:=HT.zhr A.in1 ⟨hp,g,d,tk,os⟩ a t c u
     refine wpAny_bind (he prog w _ _ ?_)
     cases e with
     | true =>
      rw [if_pos (hiff.mp rfl)] at hR
      wp_walk
      exact ⟨rfl,rfl,_,_,_,_,hrest,hvi',hwi',by omega,hR⟩
     | false =>
      rw [if_neg (fun q=>absurd (hiff.mpr q) Bool.false_ne_true)] at hR
      have hri:=zpW A.in1 ⟨hp,g,d,tk,os⟩ a t c u prog w
      wp_walk using hri
      exact ⟨_,rfl,by simpa using hR⟩
  case fin =>
   rintro ⟨b1,b2⟩ s' ⟨hb',rfl,vs,ws,ns',ms',hz,hvi,hwi,hlen,hR⟩
   simp only at hb'
   subst hb'
   have hv:zgl ns' ms'=decide (items2.size<=items.size):=by
    cases hvi with
    | nil =>
     cases hwi with
     | nil =>
      simp only [List.length_nil] at hlen
      rw [zkC]
      exact (decide_eq_true (by omega)).symm
     | cons c u hw =>
      simp only [List.length_nil,List.length_cons] at hlen
      rw [zji]
      exact (decide_eq_false (by omega)).symm
    | cons a t hv =>
     cases hwi with
     | nil =>
      simp only [List.length_nil,List.length_cons] at hlen
      rw [zjj]
      exact (decide_eq_true (by omega)).symm
     | cons c u hw =>
      rw [List.zip_cons_cons] at hz
      cases hz
   rw [hv] at hR
   wp_walk
   exact ⟨_,rfl,by simpa [Builtin.Tuple.tupleCompareSizes] using hR⟩
  case h =>
   exact ⟨rfl,rfl,items.toList,items2.toList,ns,ms,rfl,hi,hj,by omega,h⟩
end
section
variable {prog:Program} {w:World} {A:Around} {E:Value->Shared->Prop} {s:Shared}
theorem zpg {l b:Addr} {items items2:Array Value} {ns ms:List Int} {Q:Value->Shared->Prop} (hl:IsTup s.heap l items) (hb:IsTup s.heap b items2) (hi:IntsAre items.toList ns) (hj:IntsAre items2.toList ms)
  (hu:A.units < cLine) (h:Q (.bool (zgl ns ms)) s):wpAny (model prog w) A (compareOp .GtE (.ref l) (.ref b)) Q E s:=by
 obtain ⟨⟨cls,dd,data,sl⟩,ho,hc,n,hd⟩:=id hl
 obtain ⟨⟨cls2,dd2,data2,sl2⟩,ho2,hc2,n2,hd2⟩:=id hb
 simp only at hc hd hc2 hd2
 subst hc hd hc2 hd2
 exact richCompare_meets_room (op:=.GtE) ⟨_,ho,rfl⟩ ⟨_,ho2,rfl⟩ PySem.F.slot_tuple_ge PySem.F.entry_tuple_ge (PySem.F.args_tuple_ge_2 _ _) (zkf l b items items2 n n2 dd dd2 sl sl2 ns ms hi hj)
  ⟨ho,ho2,show Value.bool (zgl ns ms) ≠ Value.notImplemented/\Q (.bool (zgl ns ms)) s from ⟨(fun x=>nomatch x),h⟩⟩ hu
end
end FL
namespace FL
open PySem L2 PySem.Spec
open PyProof.Rows hiding St
variable [Cs]
section
variable {K:PySem.W.Frag} {H:Hp}
mutual
theorem Fz.is:∀ (d:PyData) (v:V),PyData.canLay0 d=true->Fz K H d v->Is K H d v
 | .none,v,_,h=>by simp only [Fz] at h;simp only [Is];exact h
 | .bool b,v,_,h=>by simp only [Fz] at h;simp only [Is];exact h
 | .int i,v,_,h=>by simp only [Fz] at h;simp only [Is];exact h
 | .str x,v,_,h=>by simp only [Fz] at h;simp only [Is];exact h
 | .list xs,v,c,h=>by
  simp only [Fz] at h;simp only [Is]
  obtain ⟨a,vs,e1,h1,h2⟩:=h
  exact ⟨a,vs,e1,h1.sq,zaj.is xs vs c h2⟩
 | .tuple xs,v,c,h=>by
  simp only [Fz] at h;simp only [Is]
  obtain ⟨a,vs,e1,h1,h2⟩:=h
  exact ⟨a,vs,e1,.inl h1,zaj.is xs vs c h2⟩
 | .dict kvs,v,c,h=>by simp [PyData.canLay0] at c
theorem zaj.is:∀ (ds:List PyData) (vs:List V),PyData.canLayAll0 ds=true->zaj K H ds vs->zgE K H ds vs
 | [],vs,_,h=>by simp only [zaj] at h;simp only [zgE];exact h
 | d :: ds,vs,c,h=>by
  simp only [PyData.canLayAll0,Bool.and_eq_true] at c
  simp only [zaj] at h;simp only [zgE]
  obtain ⟨v,r,e1,h1,h2⟩:=h
  exact ⟨v,r,e1,Fz.is d v c.1 h1,zaj.is ds r c.2 h2⟩
end
theorem Tp.is {d:PyData} {v:V} (c:PyData.canLay0 d=true) (h:Tp K H d v):Is K H d v:=by
 cases d with
 | list ds =>
  obtain ⟨a,vs,e,h1,h2⟩:=h
  simp only [Is]
  exact ⟨a,vs,e,h1,zaj.is ds vs c h2⟩
 | dict kvs=>simp [PyData.canLay0] at c
 | none=>exact Fz.is _ _ c h
 | bool b=>exact Fz.is _ _ c h
 | int b=>exact Fz.is _ _ c h
 | str b=>exact Fz.is _ _ c h
 | tuple b=>exact Fz.is _ _ c h
theorem Tp.int {i:Int} {v:V} (h:Tp K H (.int i) v):v=.int i:=by simpa [Tp,Fz] using h
theorem Tp.bool {i:Bool} {v:V} (h:Tp K H (.bool i) v):v=.bl i:=by simpa [Tp,Fz] using h
theorem Tp.none {v:V} (h:Tp K H .none v):v=.non:=by simpa [Tp,Fz] using h
theorem Tp.zy2 {ds:List PyData} {v:V} (h:Tp K H (.tuple ds) v):∃ a vs,v=.ref a/\TAt H a vs/\zaj K H ds vs:=by simpa [Tp,Fz] using h
theorem Tp.tup {ds:List PyData} {v:V} (h:Tp K H (.tuple ds) v):∃ a vs,v=.ref a/\SqT K H a vs/\zaj K H ds vs :=
 let ⟨a,vs,x,y,z⟩:=Tp.zy2 h
 ⟨a,vs,x,.inl y,z⟩
theorem Tp.lst {ds:List PyData} {v:V} (h:Tp K H (.list ds) v):∃ a vs,v=.ref a/\SqL K H a vs/\zaj K H ds vs:=h
theorem zeg (i:Int):Fz K H (.int i) (.int i):=by simp [Fz]
theorem zm7 (i:Bool):Fz K H (.bool i) (.bl i):=by simp [Fz]
theorem zqV {a:Addr} {vs:List V} {ds:List PyData} (h:TAt H a vs) (f:zaj K H ds vs):Fz K H (.tuple ds) (.ref a):=by simp only [Fz];exact ⟨a,vs,rfl,h,f⟩
theorem zaj.atI {ds:List PyData} {vs:List V} {i:Int} {d:PyData} (h:zaj K H ds vs) (e:FL.atI ds i=some d):∃ v,L2.atI vs i=some v/\Fz K H d v:=by
 unfold FL.atI at e
 cases en:FL.ixN ds.length i with
 | none=>rw [en] at e;cases e
 | some j =>
  rw [en] at e
  obtain ⟨v,e1,f⟩:=h.get (show ds[j]?=some d from e)
  refine ⟨v,?_,f⟩
  unfold L2.atI
  rw [h.len,show L2.ixN ds.length i=some j from en]
  exact e1
theorem zaj.cut {ds:List PyData} {vs:List V} (h:zaj K H ds vs) (lo hi:Option Int):zaj K H (FL.cut ds lo hi) (zsY vs lo hi):=by
 unfold FL.cut zsY
 rw [h.len]
 exact (h.drop _).take _
end
theorem zb6 {α:Type} {c:Bool} {r:R α} {d:α} (h:chk c r=.ok d):c=true/\r=.ok d:=by
 cases c with
 | true=>exact ⟨rfl,h⟩
 | false=>exact nomatch (show (R.bad:R α)=.ok d from h)
section
variable {X:Cx}
theorem zlW {pins:List (Addr × Obj)} {σ:L2.St} {s:Shared} {H:Hp} {Q:VK} {w:Value} {ds:List D} {vs:List V} (f:zaj X.K H ds vs) (q:∀ v H',zbr H H'->Fz X.K H' (.list ds) v->Q v H')
  (h:EP X pins σ (fun v H1=>∃ p,v=.ref p/\H p=none/\H1=upd H p (.lst vs)) w s):EP X pins σ Q w s:=by
 obtain ⟨v,H1,I,r,p,rfl,hp,rfl⟩:=h
 refine zxs ⟨.ref p,_,I,r,p,.lst vs,rfl,zao,trivial,fun o=>?_⟩
 rw [zhF]
 refine q _ _ (zbr.upd hp) ?_
 simp only [Fz]
 exact ⟨p,vs,rfl,.inl ⟨o,zao⟩,f.mono (Fzn.of (zbr.upd hp))⟩
theorem zcd:OpR X (binaryOp .Add) (rD X.K za8):=by
 intro pins s σ H x y v u Q I rx ry h
 obtain ⟨dx,dy,d,tx,ty,e,q⟩:=h
 cases dx with
 | int i =>
  cases dy with
  | int j=>cases e;exact zwJ pins s σ H x y v u Q I rx ry ⟨i,j,tx.int,ty.int,q _ H (zbr.refl _) (zeg _)⟩
  | _=>exact nomatch (show (R.bad:R D)=.ok d from e)
 | list a =>
  cases dy with
  | list b =>
   obtain ⟨c,e⟩:=zb6 (show chk (leB (a.length + b.length) lim) (.ok (.list (a ++ b)))=.ok d from e)
   ·cases e
    obtain ⟨l,xs,rfl,sx,fx⟩:=tx.lst
    obtain ⟨m,ys,rfl,sy,fy⟩:=ty.lst
    cases rx
    cases ry
    obtain ⟨its,r1,⟨o,n,ho,hc,hdn,hd⟩,z1⟩:=I.list sx
    obtain ⟨its2,r2,⟨o2,n2,ho2,hc2,hdn2,hd2⟩,z2⟩:=I.list sy
    obtain ⟨cls,dd,data,sl⟩:=o
    obtain ⟨cls2,dd2,data2,sl2⟩:=o2
    simp only at hc hd hc2 hd2 hdn hdn2
    subst hc hd hc2 hd2 hdn hdn2
    have hz:its.length + its2.length<=sizeLine:=by
     have:=zlE c
     have l0:=zde
     rw [<- r1.length,<- r2.length,fx.len,fy.len]
     omega
    refine thn (concat_meets (Q:=EP X pins σ fun v H1=>∃ p,v=.ref p/\H p=none/\H1=upd H p (.lst (xs ++ ys))) ⟨_,ho,rfl⟩ ⟨_,ho2,rfl⟩ PySem.noFill_list_add PySem.seq_list_add PySem.F.slot_list_add PySem.F.entry_list_add (PySem.F.args_list_add_2 _ _)
     (list_addW l m its.toArray its2.toArray n n2 none none sl sl2 (by rw [List.size_toArray,List.size_toArray];exact hz)) ⟨ho,ho2,?_⟩) fun _ _ z=>zlW (fx.app fy) q z
    have ea:its.toArray ++ its2.toArray=(its ++ its2).toArray:=by simp
    rw [ea]
    exact ⟨.ref _,_,I.zyR (t':=s.toks) (r1.append r2) (by rw [List.length_append,r1.length,r2.length];exact hz),rfl,_,rfl,I.fresh,rfl⟩
  | _=>exact nomatch (show (R.bad:R D)=.ok d from e)
 | tuple a =>
  cases dy with
  | tuple b =>
   obtain ⟨c,e⟩:=zb6 (show chk (leB (a.length + b.length) lim) (.ok (.tuple (a ++ b)))=.ok d from e)
   ·cases e
    obtain ⟨l,xs,rfl,sx,fx⟩:=tx.tup
    obtain ⟨m,ys,rfl,sy,fy⟩:=ty.tup
    have hz:xs.length + ys.length<=sizeLine:=by
     have:=zlE c
     have l0:=zde
     rw [fx.len,fy.len]
     omega
    by_cases x0:xs=[]
    ·subst x0
     have a0:a=[]:=by have:=fx.len;cases a with | nil=>rfl | cons _ _=>simp at this
     subst a0
     cases rx
     cases ry
     obtain ⟨its,r1,p1,z1⟩:=I.tuple sx
     obtain ⟨its2,r2,p2,z2⟩:=I.tuple sy
     cases r1
     obtain ⟨⟨cls,dd,data,sl⟩,ho,hc,n,hd⟩:=id p1
     obtain ⟨⟨cls2,dd2,data2,sl2⟩,ho2,hc2,n2,hd2⟩:=id p2
     simp only at hc hd hc2 hd2
     subst hc hd hc2 hd2
     exact concat_meets ⟨_,ho,rfl⟩ ⟨_,ho2,rfl⟩ noFill_tuple_add seq_tuple_add PySem.F.slot_tuple_add PySem.F.entry_tuple_add (PySem.F.args_tuple_add_2 _ _)
      (tuple_addW0 l m #[] its2.toArray n n2 dd dd2 sl sl2 rfl) ⟨ho,ho2,⟨.ref m,H,I.tok _,rfl,q _ H (zbr.refl _) ty⟩⟩
    ·exact zuU pins s σ H _ _ v u Q I rx ry ⟨l,m,xs,ys,rfl,rfl,sx,sy,x0,hz,fun y0=>by
      subst y0
      have b0:b=[]:=by have:=fy.len;cases b with | nil=>rfl | cons _ _=>simp at this
      subst b0
      rw [List.append_nil] at q
      exact q _ H (zbr.refl _) tx,fun _ p hp=>q _ _ (zbr.upd hp) (zqV (.inl zao) ((fx.app fy).mono (Fzn.of (zbr.upd hp))))⟩
  | _=>exact nomatch (show (R.bad:R D)=.ok d from e)
 | _=>exact nomatch (show (R.bad:R D)=.ok d from e)
theorem zsq {f:Value->Value->Sem Value} {C:Int->Int->Prop} {g:Int->Int->Int} {c:Int->Int->Bool} {G:D->D->R D} (ho:OpR X f (rI C fun i j=>.int (g i j))) (hC:∀ i j,c i j=true->C i j)
  (hG:∀ dx dy d,G dx dy=.ok d->∃ i j,dx=.int i/\dy=.int j/\c i j=true/\d=.int (g i j)):OpR X f (rD X.K G):=by
 intro pins s σ H x y v u Q I rx ry h
 obtain ⟨dx,dy,d,tx,ty,e,q⟩:=h
 obtain ⟨i,j,rfl,rfl,cc,rfl⟩:=hG _ _ _ e
 exact ho pins s σ H x y v u Q I rx ry ⟨i,j,tx.int,ty.int,hC i j cc,q _ H (zbr.refl _) (zeg _)⟩
theorem zsL {c:Int->Int->Bool} {g:Int->Int->Int} {G:D->D->R D} (h:∀ i j,G (.int i) (.int j)=chk (c i j) (.ok (.int (g i j)))) (h0:∀ dx dy,(¬ ∃ i j,dx=.int i/\dy=.int j)->G dx dy=.bad) :
  ∀ dx dy d,G dx dy=.ok d->∃ i j,dx=.int i/\dy=.int j/\c i j=true/\d=.int (g i j):=by
 intro dx dy d e
 by_cases k:∃ i j,dx=.int i/\dy=.int j
 ·obtain ⟨i,j,rfl,rfl⟩:=k
  rw [h] at e
  obtain ⟨cc,e⟩:=zb6 e
  cases e
  exact ⟨i,j,rfl,rfl,cc,rfl⟩
 ·rw [h0 _ _ k] at e;cases e
theorem znW {dx dy:D} {G:D->D->R D} (hb:∀ dx dy,(∀ i,dx ≠ .int i)->G dx dy=.bad) (hb2:∀ i dy,(∀ j,dy ≠ .int j)->G (.int i) dy=.bad) (h:¬ ∃ i j,dx=.int i/\dy=.int j):G dx dy=.bad:=by
 cases dx with
 | int i=>exact hb2 i dy fun j e=>h ⟨i,j,rfl,e⟩
 | _=>exact hb _ _ fun i e=>nomatch e
theorem zoT:OpR X (binaryOp .Sub) (rD X.K zge):=zsq (C:=fun _ _=>True) (c:=fun _ _=>true) (g:=fun i j=>i - j)
 (fun pins s σ H x y v u Q I rx ry ⟨i,j,e1,e2,_,q⟩=>zwE pins s σ H x y v u Q I rx ry ⟨i,j,e1,e2,q⟩) (fun _ _ _=>trivial)
 (zsL (fun _ _=>rfl) fun dx dy h=>znW (fun dx dy h=>by cases dx <;> first | rfl | exact absurd rfl (h _)) (fun i dy h=>by cases dy <;> first | rfl | exact absurd rfl (h _)) h)
theorem zsw {i j:Int} (h:zqo i j=true):IntMulOk i j:=by
 have:=zlE h
 have b:∀ k:Int,k.natAbs < 2 ^ (k.natAbs.log2 + 1):=fun k=>Nat.lt_log2_self
 exact mulOk_of (a:=i.natAbs.log2 + 1) (b:=j.natAbs.log2 + 1) (b i) (b j) (by omega)
theorem zso {k:Nat} (hr:zcZ k X.A):OpR X (binaryOp .FloorDiv) (rI (fun _ j=>j ≠ 0) fun i j=>.int (i.fdiv j)):=by
 intro pins s σ H x y v u Q I rx ry h
 obtain ⟨i,j,rfl,rfl,hc,q⟩:=h
 obtain ⟨t,rfl⟩:=rx
 obtain ⟨t',rfl⟩:=ry
 exact floordiv_int hc ⟨.int (i.fdiv j),H,I.tok _,⟨_,rfl⟩,q⟩ (.inr (I.pyl (by have:=hr.dp;omega)))
theorem zcn {k:Nat} (hr:zcZ k X.A):OpR X (binaryOp .FloorDiv) (rD X.K zaL):=zsq (C:=fun _ j=>j ≠ 0) (c:=fun i j=>decide (j ≠ 0)) (g:=fun i j=>i.fdiv j) (zso hr) (fun i j h=>by simpa using h)
 (zsL (fun _ _=>rfl) fun dx dy h=>znW (fun dx dy h=>by cases dx <;> first | rfl | exact absurd rfl (h _)) (fun i dy h=>by cases dy <;> first | rfl | exact absurd rfl (h _)) h)
theorem zkt:OpR X (binaryOp .Mod) (rD X.K zgO):=zsq (C:=fun _ j=>j ≠ 0) (c:=fun i j=>decide (j ≠ 0)) (g:=fun i j=>i.fmod j) zuT (fun i j h=>by simpa using h)
 (zsL (fun _ _=>rfl) fun dx dy h=>znW (fun dx dy h=>by cases dx <;> first | rfl | exact absurd rfl (h _)) (fun i dy h=>by cases dy <;> first | rfl | exact absurd rfl (h _)) h)
theorem zlv:OpR X (binaryOp .Pow) (rD X.K zjF):=zsq (C:=zy1) (c:=fun i j=>decide (0<=j) && leB j.toNat 1000000 && leB i.natAbs 18446744073709551615) (g:=fun i j=>i ^ j.toNat) zwG (fun i j h=>by simp only [Bool.and_eq_true,decide_eq_true_eq,leB_iff] at h;exact ⟨h.1.1,by omega,by omega⟩)
 (zsL (fun _ _=>rfl) fun dx dy h=>znW (fun dx dy h=>by cases dx <;> first | rfl | exact absurd rfl (h _)) (fun i dy h=>by cases dy <;> first | rfl | exact absurd rfl (h _)) h)
theorem zt4:UnR X (unaryOp .USub) (rD1 X.K zpr):=by
 intro pins s σ H x v Q I rx h
 obtain ⟨dx,d,tx,e,q⟩:=h
 cases dx with
 | int i=>cases e;exact zvT pins s σ H x v Q I rx ⟨i,tx.int,q _ H (zbr.refl _) (zeg _)⟩
 | _=>exact nomatch (show (R.bad:R D)=.ok d from e)
theorem zzt (hu:X.A.units + 64 < cLine):OpR X (compareOp .Eq) (rD X.K eqD):=by
 intro pins s σ H x y v u Q I rx ry h
 obtain ⟨dx,dy,d,tx,ty,e,q⟩:=h
 obtain ⟨c,e⟩:=zb6 e
 ·cases e
  simp only [Bool.and_eq_true] at c
  exact zwI hu pins s σ H x y v u Q I rx ry ⟨dx,dy,tx.is (SeqAt.canLay_of_shaped c.1),ty.is (SeqAt.canLay_of_shaped c.2),c.1,c.2,q _ H (zbr.refl _) (zm7 _)⟩
theorem zzo (hu:X.A.units + 64 < cLine):OpR X (compareOp .NotEq) (rD X.K neD):=by
 intro pins s σ H x y v u Q I rx ry h
 obtain ⟨dx,dy,d,tx,ty,e,q⟩:=h
 obtain ⟨c,e⟩:=zb6 e
 ·cases e
  simp only [Bool.and_eq_true] at c
  exact zwH hu pins s σ H x y v u Q I rx ry ⟨dx,dy,tx.is (SeqAt.canLay_of_shaped c.1),ty.is (SeqAt.canLay_of_shaped c.2),c.1,c.2,q _ H (zbr.refl _) (zm7 _)⟩
theorem zn6:∀ a b,FL.lexLt a b=HT.lexLt a b
 | [],[]=>rfl
 | [],_ :: _=>rfl
 | _ :: _,[]=>rfl
 | x :: xs,y :: ys=>by unfold FL.lexLt HT.lexLt;rw [zn6 xs ys]
theorem zsr {op:CmpOp} {p:Int->Int->Bool} {q:List Int->List Int->Bool} (hi:OpR X (compareOp op) (rI0 fun i j=>.bl (p i j)))
  (ht:∀ {s:Shared} {l b:Addr} {items items2:Array Value} {ns ms:List Int} {Q:Value->Shared->Prop},IsTup s.heap l items->IsTup s.heap b items2->IntsAre items.toList ns->IntsAre items2.toList ms ->
   Q (.bool (q ns ms)) s->wpAny (model X.prog X.w) X.A (compareOp op (.ref l) (.ref b)) Q X.xe s):OpR X (compareOp op) (rD X.K (zxC p q)):=by
 intro pins s σ H x y v u Q I rx ry h
 obtain ⟨dx,dy,d,tx,ty,e,k⟩:=h
 cases dx with
 | int i =>
  cases dy with
  | int j=>cases e;exact hi pins s σ H x y v u Q I rx ry ⟨i,j,tx.int,ty.int,k _ H (zbr.refl _) (zm7 _)⟩
  | _=>exact nomatch (show (R.bad:R D)=.ok d from e)
 | tuple a =>
  cases dy with
  | tuple b =>
   replace e:((R.of (intsOf a)).bind fun x=>(R.of (intsOf b)).bind fun y=>R.ok (PyData.bool (q x y)))=.ok d:=e
   cases ea:intsOf a with
   | none=>rw [ea] at e;cases e
   | some ns =>
    cases eb:intsOf b with
    | none=>rw [ea,eb] at e;cases e
    | some ms =>
     rw [ea,eb] at e
     cases e
     obtain ⟨l,xs,rfl,sx,fx⟩:=tx.tup
     obtain ⟨m,ys,rfl,sy,fy⟩:=ty.tup
     cases rx
     cases ry
     obtain ⟨rfl,_⟩:=fx.ints ea
     obtain ⟨rfl,_⟩:=fy.ints eb
     obtain ⟨its,r1,p1,_⟩:=I.tuple sx
     obtain ⟨its2,r2,p2,_⟩:=I.tuple sy
     exact ht p1 p2 (intsAre_of r1) (intsAre_of r2) ⟨.bl (q ns ms),H,I,rfl,k _ H (zbr.refl _) (zm7 _)⟩
  | _=>exact nomatch (show (R.bad:R D)=.ok d from e)
 | _=>exact nomatch (show (R.bad:R D)=.ok d from e)
theorem zzp (hu:X.A.units + 64 < cLine):OpR X (compareOp .Lt) (rD X.K ltD):=zsr zyl fun p1 p2 i1 i2 h=>HT.zoY p1 p2 i1 i2 (by omega) (by rw [<- zn6];exact h)
theorem zzq (hu:X.A.units + 64 < cLine):OpR X (compareOp .LtE) (rD X.K leD):=zsr zym fun p1 p2 i1 i2 h=>zo5 p1 p2 i1 i2 (by omega) h
theorem zzr (hu:X.A.units + 64 < cLine):OpR X (compareOp .Gt) (rD X.K gtD):=zsr zyn fun p1 p2 i1 i2 h=>zpf p1 p2 i1 i2 (by omega) h
theorem zzs (hu:X.A.units + 64 < cLine):OpR X (compareOp .GtE) (rD X.K geD):=zsr zyo fun p1 p2 i1 i2 h=>zpg p1 p2 i1 i2 (by omega) h
theorem zwK:OpR X (compareOp .IsNot) (rD X.K zwO):=by
 intro pins s σ H x y v u Q I rx ry h
 obtain ⟨dx,dy,d,tx,ty,e,q⟩:=h
 cases dy with
 | none =>
  refine zuQ pins s σ H x y v u Q I rx ry ⟨ty.none,?_⟩
  have:d=.bool (!decide (x=.non)):=by
   cases dx with
   | none=>have:=tx.none;subst this;cases e;rfl
   | bool b=>have:=tx.bool;subst this;cases e;rfl
   | int b=>have:=tx.int;subst this;cases e;rfl
   | str b =>
    have:x=.str b:=by simpa [Tp,Fz] using tx
    subst this;cases e;rfl
   | list b=>obtain ⟨_,_,rfl,_⟩:=tx.lst;cases e;rfl
   | tuple b=>obtain ⟨_,_,rfl,_⟩:=tx.tup;cases e;rfl
   | dict b=>obtain ⟨_,rfl,_⟩:=tx;cases e;rfl
  subst this
  exact q _ H (zbr.refl _) (zm7 _)
 | _=>exact nomatch (show (R.bad:R D)=.ok d from e)
theorem za9:IxR X (rD X.K ixD):=by
 intro value slice pins s σ H x y v u Q I rx ry h hs
 obtain ⟨dx,dy,d,tx,ty,e,q⟩:=h
 cases dx with
 | list a =>
  cases dy with
  | int i =>
   replace e:R.of (FL.atI a i)=.ok d:=e
   cases ea:FL.atI a i with
   | none=>rw [ea] at e;cases e
   | some d' =>
    rw [ea] at e
    cases e
    obtain ⟨l,xs,rfl,sx,fx⟩:=tx.lst
    obtain ⟨w,ew,fw⟩:=fx.atI ea
    exact zu4 value slice pins s σ H _ y v u Q I rx ry ⟨l,xs,i,w,rfl,ty.int,sx,ew,q _ H (zbr.refl _) fw⟩ hs
  | _=>exact nomatch (show (R.bad:R D)=.ok d from e)
 | tuple a =>
  cases dy with
  | int i =>
   replace e:R.of (FL.atI a i)=.ok d:=e
   cases ea:FL.atI a i with
   | none=>rw [ea] at e;cases e
   | some d' =>
    rw [ea] at e
    cases e
    obtain ⟨l,xs,rfl,sx,fx⟩:=tx.tup
    obtain ⟨w,ew,fw⟩:=fx.atI ea
    exact zw9 value slice pins s σ H _ y v u Q I rx ry ⟨l,xs,i,w,rfl,ty.int,sx,ew,q _ H (zbr.refl _) fw⟩ hs
  | _=>exact nomatch (show (R.bad:R D)=.ok d from e)
 | _=>exact nomatch (show (R.bad:R D)=.ok d from e)
theorem zeG:zyG X (fun x H Q=>∃ d k,Tp X.K H d x/\zlf d=.ok k/\Q k H):=by
 intro pins s σ H x v Q I rx h
 obtain ⟨d,k,tx,e,q⟩:=h
 refine zvU pins s σ H x v Q I rx ⟨k,?_,q⟩
 cases d with
 | none=>have:=tx.none;subst this;cases e;rfl
 | bool b=>have:=tx.bool;subst this;cases e;rfl
 | int b=>have:=tx.int;subst this;cases e;rfl
 | list b =>
  obtain ⟨a,vs,rfl,sx,fx⟩:=tx.lst
  cases e
  refine .inl ⟨vs,sx,?_⟩
  have:=fx.len
  cases b <;> cases vs <;> simp_all
 | tuple b =>
  obtain ⟨a,vs,rfl,sx,fx⟩:=tx.tup
  cases e
  refine .inr (.inl ⟨vs,sx,?_⟩)
  have:=fx.len
  cases b <;> cases vs <;> simp_all
 | _=>exact nomatch (show (R.bad:R Bool)=.ok k from e)
end
end FL
namespace FL
open PySem L2 PySem.Spec
open PyProof.Rows hiding St
variable [Cs]
theorem zhe:fillsNumberSlot (.type "tuple") "mul"=pure false :=
 PySem.fillsNumberSlot_seq (id:="tuple.__mul__") (r:=some (.builtin "tuple.__rmul__")) PySem.F.slot_tuple_mul.lookup (by decide +kernel) PySem.F.slot_tuple_rmul.lookup (by decide +kernel)
theorem zlk:seqRepeat? (.type "tuple")=pure (some (.builtin "tuple.__mul__")):=by
 unfold seqRepeat?
 rw [PySem.seqSlot_of (T:="tuple") (name:="__mul__") (id:="tuple.__mul__") PySem.F.slot_tuple_mul.lookup (by decide +kernel),PySem.seqSlot_of (T:="tuple") (name:="__rmul__") (id:="tuple.__rmul__") PySem.F.slot_tuple_rmul.lookup (by decide +kernel)]
 rfl
section
open PySem.SeqAt
open PySem.AutoSeq1 (wpAny_loadPart')
open PySem.MeetsSeq PySem.MeetsSeq2 PySem.MeetsSeq3
theorem zjn (a:Int) (t:Tok) (l:Addr) (items:Array Value) (n:Nat) (dd:Option Addr) (sl:Array (Option Value)) :
  Meets (Builtin.«int.__rmul__» ⟨[.int a t,.ref l],[]⟩) (fun _ R s=>s.heap.get? l=some { cls:=.type "tuple",dict:=dd,data:=.seq items n,slots:=sl }/\R (.ok (.ret Value.notImplemented)) s) :=
 .of_wp fun prog w A R s h=>by obtain ⟨hp,g,d,tk,os⟩:=s;obtain ⟨hl,h⟩:=h;wp_walk;exact ⟨_,rfl,h⟩
theorem zoK (l:Addr) (items:Array Value) (n:Nat) (dd:Option Addr) (sl:Array (Option Value)) (k:Int) (t:Tok) (h0:items.isEmpty=false) (h1:2<=k) (h2:k < 2 ^ 62) (h3:items.size * k.toNat<=sizeLine) :
  Meets (Builtin.«tuple.__mul__» ⟨[.ref l,.int k t],[]⟩) (fun _ R s=>s.heap.get? l=some { cls:=.type "tuple",dict:=dd,data:=.seq items n,slots:=sl } /\
   R (.ok (.ret (.ref s.heap.objs.size))) { s with heap:=s.heap.push { cls:=.type "tuple",data:=.seq ((List.replicate k.toNat items).foldl (· ++ ·) #[]) } }) :=
 .of_wp fun prog w A R s h=>by
  obtain ⟨hp,g,d,tk,os⟩:=s;obtain ⟨hl,h⟩:=h
  have f1:=AutoSeq1.idx_int
  have i0:(items.size:Int) * k<=(sizeLine:Int):=by
   have e:((items.size * k.toNat:Nat):Int)=(items.size:Int) * k:=by rw [Int.natCast_mul,Int.toNat_of_nonneg (by omega)]
   rw [<- e]
   exact Int.ofNat_le.mpr h3
  have hA:¬ (decide (k < -2 ^ 63) || decide (k ≥ 2 ^ 63))=true:=by
   simp only [Bool.or_eq_true,decide_eq_true_eq,not_or]
   constructor <;> omega
  have hB:¬ (items.isEmpty || k == 1)=true:=by
   rw [h0]
   simp only [Bool.false_or,beq_iff_eq]
   omega
  have hC:¬ (decide (k<=0) || items.isEmpty)=true:=by
   rw [h0]
   simp only [Bool.or_false,decide_eq_true_eq]
   omega
  have sz:(sizeLine:Int)<=16777216:=by rw [sizeLine_eq];decide
  have hD:¬ (items.size:Int) * k > (2 ^ 63 - 1) / 8:=by omega
  have hE:¬ Builtin.Tuple.tupleTooMany ((items.size:Int) * k)=true:=by
   unfold Builtin.Tuple.tupleTooMany
   simp only [decide_eq_true_eq]
   omega
  have hs:sizeOk (.seq (List.foldl (fun x1 x2=>x1 ++ x2) #[] (List.replicate k.toNat items))):=by
   obtain ⟨its⟩:=items
   have:=foldl_rep its k.toNat []
   rw [List.nil_append] at this
   rw [this]
   show (List.replicate k.toNat its).flatten.toArray.size<=sizeLine
   rw [List.size_toArray,len_rep,Nat.mul_comm]
   exact h3
  wp_walk
  rw [if_neg hA]
  wp_walk using wpAny_loadPart' hl
  rw [if_neg hB]
  wp_walk
  rw [if_neg hC]
  wp_walk
  rw [if_neg hD]
  wp_walk
  rw [if_neg (show ¬ (List.foldl (fun x1 x2=>x1 ++ x2) #[] (List.replicate k.toNat items)).size > sizeLine from Nat.not_lt.mpr hs)]
  wp_walk
  exact ⟨_,rfl,h⟩
end
section
variable {prog:Program} {w:World} {A:Around} {E:Value->Shared->Prop} {s:Shared}
theorem zmI {t sl:Addr} {items:Array Value} {vl vu:Value} {lo hi:Option Int} {Q:Value->Shared->Prop} (ht:IsTup s.heap t items) (hs:s.heap.IsSliceOf sl vl vu .none) (pl:IsPart vl lo) (pu:IsPart vu hi)
  (hw:HT.sIx items.size 0 lo=0/\HT.sIx items.size items.size hi=items.size) (h:Q (.ref t) s):wpAny (model prog w) A (getItem (.ref t) (.ref sl)) Q E s:=by
 obtain ⟨os,hos,hcs,hds⟩:=id hs
 have hTs:s.TypeIs (.ref sl) "slice":=⟨os,hos,hcs⟩
 unfold getItem
 try with_reducible refine wpAny_holding ?_
 first | refine wpAny_bind (wpAny_pure ?_) | skip
 refine wpAny_bind (wpAny_sequenceKey ht.typeIs (by decide) ?_)
 refine wpAny_bind (wpAny_callSpecial?_slot (name:=Str.ofString "__getitem__") ht.typeIs PyProof.Rows.slot_tuple_getitem
  (wpAny_call_entry PyProof.Rows.slot_tuple_getitem ht.typeIs entry_tuple_getitem ?_ (args_tuple_getitem _ _)))
 show wpAny _ _ (Builtin.Tuple.tupleItemsOf (.ref t) >>= _) _ _ s
 refine wpAny_bind (tupleItemsOf_ ht ?_)
 refine wpAny_bind (wpAny_typeOf hTs ?_)
 rw [if_pos (by decide)]
 refine wpAny_bind (HT.zdv hs pl pu ?_)
 show wpAny _ _ (if (((HT.sIx items.size 0 lo:Nat):Int) == 0 && (1:Int) == 1 && (HT.sIx items.size items.size hi - HT.sIx items.size 0 lo) == items.size)=true then _ else _) _ _ s
 rw [hw.1,hw.2,if_pos (by simp)]
 refine wpAny_bind (m:=Builtin.Tuple.tupleIsExact _) ?_
 unfold Builtin.Tuple.tupleIsExact
 refine wpAny_bind (wpAny_typeOf ht.typeIs (wpAny_pure ?_))
 rw [if_pos (by decide)]
 exact wpAny_bind (wpAny_rule (wpAny_bind (wpAny_pure (wpAny_pure ⟨_,rfl,wpAny_pure h⟩))))
end
section
variable {X:Cx}
theorem zco:OpR X (binaryOp .Mult) (rD X.K zbd):=by
 intro pins s σ H x y v u Q I rx ry h
 obtain ⟨dx,dy,d,tx,ty,e,q⟩:=h
 cases dx with
 | int i =>
  cases dy with
  | int j =>
   obtain ⟨c,e⟩:=zb6 (show chk (zqo i j) (.ok (.int (i * j)))=.ok d from e)
   cases e
   exact zuS pins s σ H x y v u Q I rx ry ⟨i,j,tx.int,ty.int,zsw c,q _ H (zbr.refl _) (zeg _)⟩
  | _=>exact nomatch (show (R.bad:R D)=.ok d from e)
 | tuple a =>
  cases dy with
  | int k =>
   obtain ⟨c,e⟩:=zb6 (show chk (!a.isEmpty && leB 2 k.toNat && leB k.toNat 1000000 && leB (a.length * k.toNat) lim) (.ok (.tuple (List.replicate k.toNat a).flatten))=.ok d from e)
   cases e
   simp only [Bool.and_eq_true,leB_iff] at c
   obtain ⟨⟨⟨c0,c1⟩,c2⟩,c3⟩:=c
   obtain ⟨l,xs,rfl,sx,fx⟩:=tx.tup
   have:=ty.int
   subst this
   cases rx
   obtain ⟨t,rfl⟩:=ry
   obtain ⟨its,r1,p1,z1⟩:=I.tuple sx
   obtain ⟨⟨cls,dd,data,sl⟩,ho,hc,n,hd⟩:=id p1
   simp only at hc hd
   subst hc hd
   have hl:its.length=a.length:=by rw [<- r1.length,fx.len]
   have hz:its.length * k.toNat<=sizeLine:=by rw [hl];exact Nat.le_trans c3 zde
   have he:its.toArray.isEmpty=false:=by
    cases its with
    | nil=>simp only [List.length_nil] at hl;cases a with | nil=>simp at c0 | cons _ _=>simp at hl
    | cons _ _=>rfl
   refine wpAny_binaryOp_repeat_ref (T:="tuple") (U:="int") (by decide) ⟨_,ho,rfl⟩ (fun s'=>typeIs_int s' k t) zhe PySem.F.fills_int_mul PySem.F.slot_int_rmul zlk PySem.F.slot_int_index.lookup
    (call_meets PySem.F.slot_int_rmul (typeIs_int s k t) PySem.F.entry_int_rmul (PySem.F.args_int_rmul_2 _ _) (zjn k t l its.toArray n dd sl)
     ⟨ho,rfl,⟨_,ho,rfl⟩,call_meets PySem.F.slot_tuple_mul ⟨_,ho,rfl⟩ PySem.F.entry_tuple_mul (PySem.F.args_tuple_mul_2 _ _) (zoK l its.toArray n dd sl k t he (by omega) (by omega) (by rw [List.size_toArray];exact hz)) ⟨ho,?_⟩⟩)
   have en:=foldl_rep its k.toNat []
   rw [List.nil_append] at en
   rw [en]
   have hp:H s.heap.objs.size=none:=I.hok.fresh (Nat.le_refl _)
   refine ⟨.ref s.heap.objs.size,_,I.laid (t':=s.toks) (o:=.tup (List.replicate k.toNat xs).flatten) (fun b ob q=>Heap.get?_push_of_some _ q) (Nat.le_refl _) ⟨by rw [len_rep,Nat.mul_comm,r1.length];exact hz,_,r1.rep k.toNat,IsTup.new _ _⟩,rfl,
    q _ _ (zbr.upd hp) (zqV (.inl zao) ((fx.rep k.toNat).mono (Fzn.of (zbr.upd hp))))⟩
  | _=>exact nomatch (show (R.bad:R D)=.ok d from e)
 | _=>exact nomatch (show (R.bad:R D)=.ok d from e)
theorem zre {α:Type} {ds:List α} {lo hi:Option Int} (h1:FL.sIx ds.length 0 lo=0) (h2:FL.sIx ds.length ds.length hi=ds.length):FL.cut ds lo hi=ds:=by
 unfold FL.cut
 rw [h1,h2]
 simp
theorem zud:SlR X (zyL X.K):=by
 intro pins s σ H x v vl vu lo hi sl Q I rx hs pl pu h
 obtain ⟨dx,d,tx,e,q⟩:=h
 cases dx with
 | list a =>
  cases e
  obtain ⟨l,xs,rfl,sx,fx⟩:=tx.lst
  obtain ⟨T,id,h1,h2,h3⟩:=zub pins s σ H _ v vl vu lo hi sl (fun v H1=>∃ p,v=.ref p/\H p=none/\H1=upd H p (.lst (zsY xs lo hi))) I rx hs pl pu ⟨l,xs,rfl,sx,fun p hp=>⟨p,rfl,hp,rfl⟩⟩
  exact ⟨T,id,h1,h2,thn h3 fun _ _ z=>zlW (fx.cut lo hi) q z⟩
 | tuple a =>
  cases e
  obtain ⟨l,xs,rfl,sx,fx⟩:=tx.tup
  by_cases w:HT.sIx xs.length 0 lo=0/\HT.sIx xs.length xs.length hi=xs.length
  ·cases rx
   obtain ⟨its,r,ht,hz⟩:=I.tuple sx
   have hlen:its.toArray.size=xs.length:=by rw [List.size_toArray];exact r.length.symm
   refine ⟨"tuple",_,PyProof.Rows.slot_tuple_getitem.lookup,ht.typeIs,zmI ht hs pl pu (by rw [hlen];exact w) ⟨.ref l,H,I,rfl,q _ H (zbr.refl _) ?_⟩⟩
   rw [fx.len] at w
   rw [zre w.1 w.2]
   exact tx
  ·exact zv2 pins s σ H _ v vl vu lo hi sl Q I rx hs pl pu ⟨l,xs,rfl,sx,w,fun p hp=>q _ _ (zbr.upd hp) (zqV (.inl zao) ((fx.cut lo hi).mono (Fzn.of (zbr.upd hp))))⟩
 | _=>exact nomatch (show (R.bad:R D)=.ok d from e)
end
end FL
namespace FL
open PySem L2 PySem.Spec
open PyProof.Rows hiding St
variable [Cs]
section
variable {X:Cx}
def CallD (X:Cx) (f:Value) (g:D->R D):Prop:=zgJ X f (rD0 X.K g)
theorem CallD.ds {f:Value} {g:D->R D} (h:CallD X f g):zgJ X f (rDs X.K (one g)):=fun pins s σ H xs us Q I r ⟨ds,d,fz,e,q⟩=>by
 cases ds with
 | nil=>exact nomatch (show (R.bad:R D)=.ok d from e)
 | cons d0 r0 =>
  cases r0 with
  | nil =>
   simp only [zaj] at fz
   obtain ⟨v,r',rfl,fv,e2⟩:=fz
   subst e2
   exact h pins s σ H _ us Q I r ⟨v,d0,d,rfl,fv.tp,e,q⟩
  | cons _ _=>exact nomatch (show (R.bad:R D)=.ok d from e)
theorem zgA:CallD X (.builtin "len") zcI:=by
 intro pins s σ H xs us Q I r h
 obtain ⟨x,dx,d,rfl,tx,e,q⟩:=h
 cases dx with
 | list a=>obtain ⟨p,vs,rfl,sx,fx⟩:=tx.lst;cases e;exact zgX pins s σ H _ us Q I r ⟨p,vs,rfl,.inl sx,by rw [fx.len];exact q _ H (zbr.refl _) (zeg _)⟩
 | tuple a=>obtain ⟨p,vs,rfl,sx,fx⟩:=tx.tup;cases e;exact zgX pins s σ H _ us Q I r ⟨p,vs,rfl,.inr sx,by rw [fx.len];exact q _ H (zbr.refl _) (zeg _)⟩
 | _=>exact nomatch (show (R.bad:R D)=.ok d from e)
theorem zvA:CallD X (.builtin "abs") zrt:=by
 intro pins s σ H xs us Q I r h
 obtain ⟨x,dx,d,rfl,tx,e,q⟩:=h
 cases dx with
 | int i=>have:=tx.int;subst this;cases e;exact zs4 pins s σ H _ us Q I r ⟨i,rfl,q _ H (zbr.refl _) (zeg _)⟩
 | _=>exact nomatch (show (R.bad:R D)=.ok d from e)
theorem zxF (hc:X.calm=true):CallD X (.builtin "all") zvD:=by
 intro pins s σ H xs us Q I r h
 obtain ⟨x,dx,d,rfl,tx,e,q⟩:=h
 cases dx with
 | list a =>
  obtain ⟨p,vs,rfl,sx,fx⟩:=tx.lst
  replace e:((R.of (boolsOf a)).bind fun x=>R.ok (PyData.bool (x.all id)))=.ok d:=e
  cases ea:boolsOf a with
  | none=>rw [ea] at e;cases e
  | some ns =>
   rw [ea] at e
   cases e
   obtain ⟨rfl,_⟩:=fx.bools ea
   exact zs3 hc pins s σ H _ us Q I r ⟨p,ns,rfl,sx,q _ H (zbr.refl _) (zm7 _)⟩
 | _=>exact nomatch (show (R.bad:R D)=.ok d from e)
theorem zxD:CallD X (.type "list") zwZ:=by
 intro pins s σ H xs us Q I r h
 obtain ⟨x,dx,d,rfl,tx,e,q⟩:=h
 cases dx with
 | list a =>
  obtain ⟨p,vs,rfl,sx,fx⟩:=tx.lst
  cases e
  exact thn (zgW pins s σ H _ us (fun v H1=>∃ p,v=.ref p/\H p=none/\H1=upd H p (.lst vs)) I r ⟨p,vs,rfl,.inl sx,fun l hl=>⟨l,rfl,hl,rfl⟩⟩) fun _ _ z=>zlW fx q z
 | tuple a =>
  obtain ⟨p,vs,rfl,sx,fx⟩:=tx.tup
  cases e
  exact thn (zgW pins s σ H _ us (fun v H1=>∃ p,v=.ref p/\H p=none/\H1=upd H p (.lst vs)) I r ⟨p,vs,rfl,.inr sx,fun l hl=>⟨l,rfl,hl,rfl⟩⟩) fun _ _ z=>zlW fx q z
 | _=>exact nomatch (show (R.bad:R D)=.ok d from e)
end
theorem Tp.ty {K:PySem.W.Frag} {H:Hp} {d:D} {x:V} (c:zyK d=true) (h:Tp K H d x):Ty K H x (.type (tyOf d)):=by
 cases d with
 | none=>have:=h.none;subst this;exact .non
 | bool b=>have:=h.bool;subst this;exact .bl b
 | int b=>have:=h.int;subst this;exact .int b
 | str b =>
  have:x=.str b:=by simpa [Tp,Fz] using h
  subst this;exact .str b
 | list b=>obtain ⟨_,_,rfl,s,_⟩:=h.lst;exact .lst s
 | tuple b=>obtain ⟨_,_,rfl,s,_⟩:=h.tup;exact .tup s
 | dict b=>cases c
def znk (T:String):Prop:=∀ (K:PySem.W.Frag) (d:D),PySem.W.kitOne K (.type (tyOf d)) (.type T)=some (isI T d)
theorem zn9 {T:String} (h0:KC.ze8 "NoneType" T=some (isI T .none)) (h1:∀ b,KC.ze8 "bool" T=some (isI T (.bool b))) (h2:∀ b,KC.ze8 "int" T=some (isI T (.int b))) (h3:∀ b,KC.ze8 "str" T=some (isI T (.str b))) (h4:∀ b,KC.ze8 "list" T=some (isI T (.list b)))
  (h5:∀ b,KC.ze8 "tuple" T=some (isI T (.tuple b))) (h6:∀ b,KC.ze8 "dict" T=some (isI T (.dict b))):znk T:=fun K d=>by
 cases d with
 | none=>exact h0
 | bool b=>exact h1 b
 | int b=>exact h2 b
 | str b=>exact h3 b
 | list b=>exact h4 b
 | tuple b=>exact h5 b
 | dict b=>exact h6 b
theorem zqA:znk "int":=zn9 (by decide +kernel) (fun _=>(by decide +kernel:KC.ze8 "bool" "int"=some (isI "int" (.bool true)))) (fun _=>(by decide +kernel:KC.ze8 "int" "int"=some (isI "int" (.int 0)))) (fun _=>(by decide +kernel:KC.ze8 "str" "int"=some (isI "int" (.str "")))) (fun _=>(by decide +kernel:KC.ze8 "list" "int"=some (isI "int" (.list [])))) (fun _=>(by decide +kernel:KC.ze8 "tuple" "int"=some (isI "int" (.tuple [])))) (fun _=>(by decide +kernel:KC.ze8 "dict" "int"=some (isI "int" (.dict []))))
theorem zoa:znk "bool":=zn9 (by decide +kernel) (fun _=>(by decide +kernel:KC.ze8 "bool" "bool"=some (isI "bool" (.bool true)))) (fun _=>(by decide +kernel:KC.ze8 "int" "bool"=some (isI "bool" (.int 0)))) (fun _=>(by decide +kernel:KC.ze8 "str" "bool"=some (isI "bool" (.str "")))) (fun _=>(by decide +kernel:KC.ze8 "list" "bool"=some (isI "bool" (.list [])))) (fun _=>(by decide +kernel:KC.ze8 "tuple" "bool"=some (isI "bool" (.tuple [])))) (fun _=>(by decide +kernel:KC.ze8 "dict" "bool"=some (isI "bool" (.dict []))))
theorem kit_tuple:znk "tuple":=zn9 (by decide +kernel) (fun _=>(by decide +kernel:KC.ze8 "bool" "tuple"=some (isI "tuple" (.bool true)))) (fun _=>(by decide +kernel:KC.ze8 "int" "tuple"=some (isI "tuple" (.int 0)))) (fun _=>(by decide +kernel:KC.ze8 "str" "tuple"=some (isI "tuple" (.str "")))) (fun _=>(by decide +kernel:KC.ze8 "list" "tuple"=some (isI "tuple" (.list [])))) (fun _=>(by decide +kernel:KC.ze8 "tuple" "tuple"=some (isI "tuple" (.tuple [])))) (fun _=>(by decide +kernel:KC.ze8 "dict" "tuple"=some (isI "tuple" (.dict []))))
theorem zhq:znk "list":=zn9 (by decide +kernel) (fun _=>(by decide +kernel:KC.ze8 "bool" "list"=some (isI "list" (.bool true)))) (fun _=>(by decide +kernel:KC.ze8 "int" "list"=some (isI "list" (.int 0)))) (fun _=>(by decide +kernel:KC.ze8 "str" "list"=some (isI "list" (.str "")))) (fun _=>(by decide +kernel:KC.ze8 "list" "list"=some (isI "list" (.list [])))) (fun _=>(by decide +kernel:KC.ze8 "tuple" "list"=some (isI "list" (.tuple [])))) (fun _=>(by decide +kernel:KC.ze8 "dict" "list"=some (isI "list" (.dict []))))
section
variable {K:PySem.W.Frag} {X:Cx} {a:Expr} {f:EF} {pos:Pos}
theorem zwh {T:String} {tn:Str} {p p2:Pos} (kt:znk T) (hg:Gl X "isinstance") (hm:X.mg "isinstance"=none) (hg2:Gl X tn) (hm2:X.mg tn=none) (hv2:bootBuiltins tn=some (.type T)) (ha:PV K X a f) (hn:tn ≠ "__name__":=by decide) (hd:(tn == ("__debug__":Str))=false:=by decide)
  (hs1:starEach [a,.Name tn p2] X.env=(false,eval a X.env) :: starEach [.Name tn p2] X.env:=by rfl) (hs2:starEach [.Name tn p2] X.env=(false,eval (.Name tn p2) X.env) :: starEach [] X.env:=by rfl) (hpl:(backTo pos (starEach [.Name tn p2] X.env)).any (·.1)=false:=by rfl) :
  PV K X (.Call (.Name "isinstance" p) [a,.Name tn p2] [] pos) (e1 (zbe T) f):=fun hK=>by
 subst hK
 refine (znQ (x:="isinstance") (id:="isinstance") zs2 hg hm KC.Bt.isinstance (zdZ (ha rfl) (zdZ (zyh hg2 hm2 hv2 hn hd) zls hs2) hs1) (by decide) (by decide) hs1 hpl).weak fun σ H Q=>?_
 rintro ⟨ρ,rel,q⟩
 refine goV rel q fun dx ρ1 x H1 rel1 st1 fx q1=>?_
 obtain ⟨d,ed,q3⟩:=q1.ziB
 obtain ⟨c,ed⟩:=zb6 ed
 cases ed
 exact ⟨x,.ty T,_,_,rfl,(fun z=>nomatch z),fx.tp.ty c,kt X.K dx,q3.now rel1 _ (zm7 _)⟩
theorem zmK {g:D->R D} {f:EF} {e:Expr} (h:PV K X e (zaf (one g) (zaa f zai))):PV K X e (e1 g f):=fun hK=>(h hK).weak fun σ H Q=>by
 rintro ⟨ρ,rel,q⟩
 refine ⟨ρ,rel,?_⟩
 have:zaf (one g) (zaa f zai) ρ=e1 g f ρ:=by
  unfold zaf zaa zai e1
  cases f ρ with
  | ok x=>rfl
  | _=>rfl
 rw [this]
 exact q
end
end FL
namespace FL
open PySem L2 PySem.Spec
open PyProof.Rows hiding St
variable [Cs]
section
variable {K:PySem.W.Frag} {ρ ρ1:En} {σ:L2.St} {H H1:Hp} {i:Nat} {d:D}
theorem zh0 (h:za1 ρ i=.ok d):∃ p,ρ[i]?=some (.ow p d):=by
 unfold za1 at h
 cases e:ρ[i]? with
 | none=>rw [e] at h;cases h
 | some x =>
  rw [e] at h
  cases x with
  | ow p c=>cases h;exact ⟨p,rfl⟩
  | _=>cases h
theorem Rel.zsv (r:Rel K ρ σ H) (h:za1 ρ i=.ok d):∃ a,At ρ σ i a/\zbV K H a d:=by
 obtain ⟨p,e⟩:=zh0 h
 have hl:i < σ.length:=by rw [<- r.len];exact (List.getElem?_eq_some_iff.mp e).1
 have o:=r.ok i _ _ e (List.getElem?_eq_getElem hl)
 cases es:σ[i] with
 | none=>rw [es] at o;exact o.elim
 | some v =>
  rw [es] at o
  cases v with
  | ref a=>exact ⟨a,⟨⟨p,d,e⟩,by rw [List.getElem?_eq_getElem hl,es]⟩,o⟩
  | _=>exact o.elim
theorem Rel.again {a:Addr} (r:Rel K ρ1 σ H1) (h:za1 ρ1 i=.ok d) (at0:At ρ σ i a):zbV K H1 a d:=by
 obtain ⟨b,ab,m⟩:=r.zsv h
 have:=at0.2.symm.trans ab.2
 cases this
 exact m
theorem Rel.zzm {a:Addr} {o:HO} (r:Rel K ρ σ H) (at0:At ρ σ i a) (m:zbV K (upd H a o) a d):Rel K (zcm ρ i d) σ (upd H a o):=by
 obtain ⟨⟨p,c,e⟩,es⟩:=at0
 have hp:zcm ρ i d=ρ.set i (.ow p d):=by unfold zcm;rw [e]
 obtain ⟨u,hu,ow⟩:=r.zbk ⟨i,⟨p,c,e⟩,es⟩
 have f:Fzn H (upd H a o):=fun b w eb st=>by
  rw [zax fun z=>by subst z;rw [hu] at eb;cases eb;exact ow.zdB st]
  exact eb
 have hl:i < ρ.length:=(List.getElem?_eq_some_iff.mp e).1
 rw [hp]
 refine ⟨by rw [List.length_set];exact r.len,fun j x v e1 e2=>?_,fun j k b h1 h2=>?_,r.cst.mono f⟩
 ·by_cases c:i=j
  ·subst c
   rw [List.getElem?_set_self hl] at e1
   cases e1
   rw [es] at e2
   cases e2
   exact m
  ·rw [List.getElem?_set_ne c] at e1
   refine (r.ok j x v e1 e2).mono f fun b e3 ⟨q,dd,e4⟩=>?_
   subst e3;subst e4
   refine zax fun z=>?_
   subst z
   exact c (r.sep i j b ⟨⟨p,_,e⟩,es⟩ ⟨⟨q,dd,e1⟩,e2⟩)
 ·have w:∀ j b,At (ρ.set i (.ow p d)) σ j b->At ρ σ j b:=fun j b ⟨⟨q,dd,e1⟩,e2⟩=>by
   by_cases c:i=j
   ·subst c;exact ⟨⟨p,_,e⟩,e2⟩
   ·rw [List.getElem?_set_ne c] at e1;exact ⟨⟨q,dd,e1⟩,e2⟩
  exact r.sep j k b (w _ _ h1) (w _ _ h2)
theorem znF {a:Addr} {o:HO} (at0:At ρ σ i a):Stp ρ (zcm ρ i d) σ H (upd H a o):=by
 obtain ⟨⟨p,c,e⟩,es⟩:=at0
 have hp:zcm ρ i d=ρ.set i (.ow p d):=by unfold zcm;rw [e]
 have hl:i < ρ.length:=(List.getElem?_eq_some_iff.mp e).1
 rw [hp]
 refine ⟨fun j q=>?_,fun b w eb n=>?_⟩
 ·by_cases c:i=j
  ·subst c
   rw [List.getElem?_set_self hl,e]
   constructor
   ·rintro ⟨_,z⟩;cases z;exact ⟨_,rfl⟩
   ·rintro ⟨_,z⟩;cases z;exact ⟨_,rfl⟩
  ·rw [List.getElem?_set_ne c]
 ·rw [zax fun z=>by subst z;exact n ⟨i,⟨p,c,e⟩,es⟩]
  exact eb
end
section
variable {K:PySem.W.Frag} {X:Cx} {a b c:Expr} {f h k:EF} {pos:Pos}
theorem zzC {g:D->D->R D} {i:Nat} {r:R2} (hr:∀ x y H Q,rD K g x y H Q->r x y H Q) (σ:L2.St) (H:Hp) (Q:VK) (q:tV K (m2 g i h) σ H Q):tOp r (zrJ i) (tV K h) σ H Q:=by
 obtain ⟨ρ,rel,q⟩:=q
 obtain ⟨d,ed,q1⟩:=q.ziB
 obtain ⟨ad,at0,m⟩:=rel.zsv ed
 refine ⟨.ref ad,at0.2,goV rel q1 fun dy ρ1 y H1 rel1 st1 fy q2=>?_⟩
 obtain ⟨d2,ed2,q3⟩:=q2.ziB
 obtain ⟨x,ex,q4⟩:=q3.ziB
 exact hr _ _ _ _ ⟨d2,dy,x,(rel1.again ed2 at0).tp,fy.tp,ex,fun v H' s fz=>q4.new rel1 s v fz⟩
theorem zwg {g:D->D->R D} {y:Str} {py:Pos} (i:Nat) (ho:IxR X (rD X.K g)) (ha:PE X (.Name y py) (zrJ i)) (hb:PV K X b h) (hs:zkZ b:=by exact fun _ _=>rfl):PV K X (.Subscript (.Name y py) b pos) (m2 g i h):=fun hK=>by
 subst hK
 exact (zwA ho ha (hb rfl) hs).weak fun σ H Q q=>zzC (fun _ _ _ _ z=>z) σ H Q q
end
end FL
namespace FL
open PySem L2 PySem.Spec
open PyProof.Rows hiding St
variable [Cs]
structure SC where
 H₀:Hp
 σ₀:L2.St
 ρ₀:En
structure zeN (K:PySem.W.Frag) (C:SC) (ρ:En) (σ:L2.St) (H:Hp):Prop where
 rel:Rel K ρ σ H
 keep:∀ a o,C.H₀ a=some o->¬ MA C.ρ₀ C.σ₀ a->H a=some o
 own:∀ (i:Nat) a d,ρ[i]?=some (.ow false d)->σ[i]?=some (some (.ref a))->C.H₀ a=none
 pin:∀ (i:Nat),(∃ d,ρ[i]?=some (.ow true d)) ↔ ∃ d,C.ρ₀[i]?=some (.ow true d)
 fix:∀ (i:Nat) d,ρ[i]?=some (.ow true d)->σ[i]?=C.σ₀[i]?
 prm:∀ (i:Nat) p d,C.ρ₀[i]?=some (.ow p d)->p=true
section
variable {K:PySem.W.Frag} {C:SC} {ρ ρ1:En} {σ σ1:L2.St} {H H1:Hp}
theorem zeN.zzw (r:zeN K C ρ σ H) {a:Addr} {o:HO} (e:C.H₀ a=some o) (n:¬ MA C.ρ₀ C.σ₀ a):¬ MA ρ σ a:=by
 rintro ⟨i,⟨p,d,e1⟩,e2⟩
 cases p with
 | false=>rw [r.own i a d e1 e2] at e;cases e
 | true =>
  obtain ⟨d0,e0⟩:=(r.pin i).mp ⟨d,e1⟩
  exact n ⟨i,⟨true,d0,e0⟩,by rw [<- r.fix i d e1];exact e2⟩
theorem zeN.step (r:zeN K C ρ σ H) (rel:Rel K ρ1 σ H1) (st:Stp ρ ρ1 σ H H1):zeN K C ρ1 σ H1 where
 rel:=rel
 keep:=fun a o e n=>st.kp a o (r.keep a o e n) (r.zzw e n)
 own:=fun i a d e1 e2=>by
  obtain ⟨d',e'⟩:=(st.md i false).mpr ⟨d,e1⟩
  exact r.own i a d' e' e2
 pin:=fun i=>(st.md i true).symm.trans (r.pin i)
 fix:=fun i d e=>by
  obtain ⟨d',e'⟩:=(st.md i true).mpr ⟨d,e⟩
  exact r.fix i d' e'
 prm:=r.prm
def Chg (dom:List Nat) (ρ ρ1:En) (σ σ1:L2.St):Prop:=σ1.length=σ.length/\∀ (i:Nat),(ρ1[i]?=ρ[i]?/\σ1[i]?=σ[i]?)\/(i ∈ dom/\(∃ d,ρ1[i]?=some (.val d))/\∀ e,ρ[i]? ≠ some (.ow true e))
theorem Chg.refl {dom:List Nat}:Chg dom ρ ρ σ σ:=⟨rfl,fun _=>.inl ⟨rfl,rfl⟩⟩
theorem Chg.trans {d1 d2:List Nat} {ρ2:En} {σ2:L2.St} (a:Chg d1 ρ ρ1 σ σ1) (b:Chg d2 ρ1 ρ2 σ1 σ2):Chg (d1 ++ d2) ρ ρ2 σ σ2:=⟨b.1.trans a.1,fun i=>by
 rcases b.2 i with ⟨b1,b2⟩ | ⟨bm,b1,b2⟩
 ·rcases a.2 i with ⟨a1,a2⟩ | ⟨am,a1,a2⟩
  ·exact .inl ⟨b1.trans a1,b2.trans a2⟩
  ·exact .inr ⟨List.mem_append_left _ am,by rw [b1];exact a1,a2⟩
 ·rcases a.2 i with ⟨a1,a2⟩ | ⟨am,a1,a2⟩
  ·exact .inr ⟨List.mem_append_right _ bm,b1,fun e z=>b2 e (by rw [a1];exact z)⟩
  ·exact .inr ⟨List.mem_append_left _ am,b1,a2⟩⟩
theorem zeN.chg {dom:List Nat} (r:zeN K C ρ σ H) (rel:Rel K ρ1 σ1 H) (c:Chg dom ρ ρ1 σ σ1):zeN K C ρ1 σ1 H where
 rel:=rel
 keep:=r.keep
 own:=fun i a d e1 e2=>by
  rcases c.2 i with ⟨c1,c2⟩ | ⟨_,⟨d',c1⟩,c2⟩
  ·exact r.own i a d (by rw [<- c1];exact e1) (by rw [<- c2];exact e2)
  ·rw [c1] at e1;cases e1
 pin:=fun i=>by
  rcases c.2 i with ⟨c1,c2⟩ | ⟨_,⟨d',c1⟩,c2⟩
  ·rw [c1];exact r.pin i
  ·rw [c1,<- r.pin i]
   constructor
   ·rintro ⟨_,z⟩;cases z
   ·rintro ⟨d,z⟩;exact absurd z (c2 d)
 fix:=fun i d e=>by
  rcases c.2 i with ⟨c1,c2⟩ | ⟨_,⟨d',c1⟩,c2⟩
  ·rw [c2];exact r.fix i d (by rw [<- c1];exact e)
  ·rw [c1] at e;cases e
 prm:=r.prm
theorem zeN.fresh (r:zeN K C ρ σ H) {a:Addr} (ha:H a=none):C.H₀ a=none:=by
 cases e0:C.H₀ a with
 | none=>rfl
 | some o =>
  by_cases k:MA C.ρ₀ C.σ₀ a
  ·obtain ⟨i,⟨p,d0,e1⟩,e2⟩:=k
   have:=r.prm i p d0 e1
   subst this
   obtain ⟨d2,e3⟩:=(r.pin i).mpr ⟨d0,e1⟩
   obtain ⟨o',e',_⟩:=r.rel.zbk ⟨i,⟨true,d2,e3⟩,by rw [r.fix i d2 e3];exact e2⟩
   rw [ha] at e';cases e'
  ·rw [r.keep a o e0 k] at ha;cases ha
def zcJ (K:PySem.W.Frag) (C:SC) (H:Hp) (r:R (Fl × En)) (Dn:Ends):Prop:=match r with
 | .ok x=>match x.1 with
  | .nx=>∀ σ' H',zeN K C x.2 σ' H'->Fzn H H'->Dn.nx σ' H'
  | .bk=>∀ σ' H',zeN K C x.2 σ' H'->Fzn H H'->Dn.bk σ' H'
  | .ct=>∀ σ' H',zeN K C x.2 σ' H'->Fzn H H'->Dn.ct σ' H'
  | .rt d=>∀ v σ' H',zeN K C x.2 σ' H'->Fz K H' d v->Dn.rt v H'
  | .rf d=>∀ a σ' H',zeN K C x.2 σ' H'->C.H₀ a=none->zbV K H' a d->Dn.rt (.ref a) H'
 | _=>False
theorem zcJ.step {r:R (Fl × En)} {Dn:Ends} (f:Fzn H H1) (g:zcJ K C H r Dn):zcJ K C H1 r Dn:=by
 cases r with
 | ok x =>
  obtain ⟨fl,ρ⟩:=x
  cases fl with
  | nx=>exact fun σ' H' r z=>g σ' H' r (f.trans z)
  | bk=>exact fun σ' H' r z=>g σ' H' r (f.trans z)
  | ct=>exact fun σ' H' r z=>g σ' H' r (f.trans z)
  | rt d=>exact g
  | rf d=>exact g
 | _=>exact g
theorem zcJ.bnd {β:Type} {r:R β} {k:β->R (Fl × En)} {Dn:Ends} (g:zcJ K C H (r.bind k) Dn):∃ x,r=.ok x/\zcJ K C H (k x) Dn:=by
 cases r with
 | ok x=>exact ⟨x,rfl,g⟩
 | _=>exact g.elim
def tS (K:PySem.W.Frag) (C:SC) (f:SF):TS:=fun Dn σ H=>∃ ρ,zeN K C ρ σ H/\zcJ K C H (f ρ) Dn
theorem zsK {f:EF} {k:D × En->R (Fl × En)} {S:VK} {Dn:Ends} (rel:zeN K C ρ σ H) (g:zcJ K C H ((f ρ).bind k) Dn)
  (h:∀ d ρ1 v H1,zeN K C ρ1 σ H1->Stp ρ ρ1 σ H H1->Fz K H1 d v->zcJ K C H1 (k (d,ρ1)) Dn->S v H1):tV K f σ H S:=by
 obtain ⟨x,e,g1⟩:=g.bnd
 refine ⟨ρ,rel.rel,?_⟩
 rw [e]
 exact fun H' r s v fz=>h x.1 x.2 v H' (rel.step r s) s fz (g1.step (s.fzn rel.rel))
theorem zyT {f:TF} {k:Bool × En->R (Fl × En)} {S:Bool->Hp->Prop} {Dn:Ends} (rel:zeN K C ρ σ H) (g:zcJ K C H ((f ρ).bind k) Dn)
  (h:∀ b ρ1 H1,zeN K C ρ1 σ H1->Fzn H H1->zcJ K C H1 (k (b,ρ1)) Dn->S b H1):tT K f σ H S:=by
 obtain ⟨x,e,g1⟩:=g.bnd
 refine ⟨ρ,rel.rel,?_⟩
 rw [e]
 exact fun H' r s=>h x.1 x.2 H' (rel.step r s) (s.fzn rel.rel) (g1.step (s.fzn rel.rel))
theorem zyU {f:EF} {k:D × En->R (Fl × En)} {S:VK} {Dn:Ends} (rel:zeN K C ρ σ H) (g:zcJ K C H ((f ρ).bind k) Dn)
  (h:∀ d ρ1 a H1,zeN K C ρ1 σ H1->Fzn H H1->H a=none->¬ MA ρ1 σ a->zbV K H1 a d->zcJ K C H1 (k (d,ρ1)) Dn->S (.ref a) H1):tN K f σ H S:=by
 obtain ⟨x,e,g1⟩:=g.bnd
 refine ⟨ρ,rel.rel,?_⟩
 rw [e]
 refine fun H' r s a ha m=>h x.1 x.2 a H' (rel.step r s) (s.fzn rel.rel) ha (fun z=>?_) m (g1.step (s.fzn rel.rel))
 obtain ⟨o',e',_⟩:=rel.rel.zbk (s.ma.mpr z)
 rw [ha] at e';cases e'
end
def PSV (K:PySem.W.Frag) (X:Cx) (st:Stmt) (f:SF):Prop:=X.K=K->∀ C,PS X st (tS K C f)
def zmB (K:PySem.W.Frag) (X:Cx) (st:List Stmt) (f:SF):Prop:=X.K=K->∀ C,PSs X st (tS K C f)
theorem _root_.L2.PS.weak {X:Cx} {e:Stmt} {t t':TS} (h:PS X e t) (w:∀ Dn σ H,t' Dn σ H->t Dn σ H):PS X e t':=fun pins s σ H Dn I q=>h pins s σ H Dn I (w Dn σ H q)
theorem _root_.L2.PSs.weak {X:Cx} {e:List Stmt} {t t':TS} (h:PSs X e t) (w:∀ Dn σ H,t' Dn σ H->t Dn σ H):PSs X e t':=fun pins s σ H Dn I q=>h pins s σ H Dn I (w Dn σ H q)
def tG (K:PySem.W.Frag) (dom:List Nat) (g:GF):TG:=fun v σ H Q=>∃ ρ d ρ1,Rel K ρ σ H/\Fz K H d v/\g d ρ=.ok ρ1/\∀ σ1,Rel K ρ1 σ1 H->Chg dom ρ ρ1 σ σ1->Q σ1 H
def tGs (K:PySem.W.Frag) (dom:List Nat) (gs:List GF):TGs:=fun vs σ H Q=>∃ ρ ds ρ1,Rel K ρ σ H/\zaj K H ds vs/\zvj gs ds ρ=.ok ρ1/\∀ σ1,Rel K ρ1 σ1 H->Chg dom ρ ρ1 σ σ1->Q σ1 H
def PVG (K:PySem.W.Frag) (X:Cx) (dom:List Nat) (e:Expr) (g:GF):Prop:=X.K=K->PG X e (tG K dom g)
def zxX (K:PySem.W.Frag) (X:Cx) (dom:List Nat) (e:List Expr) (g:List GF):Prop:=X.K=K->PGs X e (tGs K dom g)
theorem _root_.L2.PG.weak {X:Cx} {e:Expr} {t t':TG} (h:PG X e t) (w:∀ v σ H Q,t' v σ H Q->t v σ H Q):PG X e t':=fun pins s σ H v u Q I r q=>h pins s σ H v u Q I r (w v σ H Q q)
theorem _root_.L2.PGs.weak {X:Cx} {e:List Expr} {t t':TGs} (h:PGs X e t) (w:∀ v σ H Q,t' v σ H Q->t v σ H Q):PGs X e t':=fun pins s σ H v u Q I r q=>h pins s σ H v u Q I r (w v σ H Q q)
theorem Rel.set {K:PySem.W.Frag} {ρ:En} {σ:L2.St} {H:Hp} {i:Nat} {x:Sl} {v:Option V} (r:Rel K ρ σ H) (o:zvE K H x v) (s:∀ a p d,x=.ow p d->v=some (.ref a)->¬ MA ρ σ a):Rel K (ρ.set i x) (σ.set i v) H:=by
 refine ⟨by rw [List.length_set,List.length_set];exact r.len,fun j y w e1 e2=>?_,fun j k b h1 h2=>?_,r.cst⟩
 ·by_cases c:i=j
  ·subst c
   by_cases hl:i < ρ.length
   ·rw [List.getElem?_set_self hl] at e1
    rw [List.getElem?_set_self (by rw [<- r.len];exact hl)] at e2
    cases e1;cases e2
    exact o
   ·rw [List.getElem?_eq_none (by rw [List.length_set];omega)] at e1;cases e1
  ·rw [List.getElem?_set_ne c] at e1 e2
   exact r.ok j y w e1 e2
 ·have w:∀ j b,At (ρ.set i x) (σ.set i v) j b->(j=i/\(∃ p d,x=.ow p d)/\v=some (.ref b))\/(j ≠ i/\At ρ σ j b):=fun j b ⟨⟨q,dd,e1⟩,e2⟩=>by
   by_cases c:i=j
   ·subst c
    have hl:i < ρ.length:=by
     have:=(List.getElem?_eq_some_iff.mp e1).1
     rwa [List.length_set] at this
    rw [List.getElem?_set_self hl] at e1
    rw [List.getElem?_set_self (by rw [<- r.len];exact hl)] at e2
    cases e1;cases e2
    exact .inl ⟨rfl,⟨q,dd,rfl⟩,rfl⟩
   ·rw [List.getElem?_set_ne c] at e1 e2
    exact .inr ⟨fun z=>c z.symm,⟨q,dd,e1⟩,e2⟩
  rcases w j b h1 with ⟨rfl,⟨p,d,e⟩,e'⟩ | ⟨n1,a1⟩
  ·rcases w k b h2 with ⟨rfl,_,_⟩ | ⟨n2,a2⟩
   ·rfl
   ·exact absurd ⟨k,a2⟩ (s b p d e e')
  ·rcases w k b h2 with ⟨rfl,⟨p,d,e⟩,e'⟩ | ⟨n2,a2⟩
   ·exact absurd ⟨j,a1⟩ (s b p d e e')
   ·exact r.sep j k b a1 a2
section
variable {K:PySem.W.Frag} {X:Cx} {pos:Pos}
theorem zoe {i:Nat} {d:D} {ρ ρ1:En} (h:gN i d ρ=.ok ρ1):ρ1=ρ.set i (.val d)/\(∀ e,ρ[i]? ≠ some (.ow true e))/\i < ρ.length:=by
 unfold gN at h
 cases e:ρ[i]? with
 | none=>rw [e] at h;cases h
 | some x =>
  rw [e] at h
  have hl:i < ρ.length:=(List.getElem?_eq_some_iff.mp e).1
  cases x with
  | no=>cases h;exact ⟨rfl,(fun _ z=>nomatch z),hl⟩
  | val c=>cases h;exact ⟨rfl,(fun _ z=>nomatch z),hl⟩
  | ow p c =>
   cases p with
   | true=>cases h
   | false=>cases h;exact ⟨rfl,(fun _ z=>nomatch z),hl⟩
theorem zkS {ρ:En} {σ:L2.St} {i:Nat} {d:D} {v:Option V} (n:∀ e,ρ[i]? ≠ some (.ow true e)) (hl:i < ρ.length):Chg [i] ρ (ρ.set i (.val d)) σ (σ.set i v):=⟨List.length_set,fun j=>by
 by_cases c:i=j
 ·subst c
  exact .inr ⟨List.mem_singleton.mpr rfl,⟨d,List.getElem?_set_self hl⟩,n⟩
 ·exact .inl ⟨List.getElem?_set_ne c,List.getElem?_set_ne c⟩⟩
theorem zr6 {i:Nat} {x:Str} (hN:X.N.Nodup) (hi:X.N[i]?=some x) (hx:Loc X.env.scope x) (hf:X.fn x=true\/X.env.scope.names.lookup x=some .local:=by first | exact .inl rfl | exact .inr rfl | assumption):PVG K X [i] (.Name x pos) (gN i):=fun _=>(zuK hN hi hx hf).weak fun v σ H Q=>by
 rintro ⟨ρ,d,ρ1,rel,fz,e,q⟩
 obtain ⟨rfl,n,hl⟩:=zoe e
 exact q _ (rel.set fz fun _ _ _ z=>nomatch z) (zkS n hl)
theorem zcL:zxX K X [] [] []:=fun _=>zuJ.weak fun vs σ H Q=>by
 rintro ⟨ρ,ds,ρ1,rel,fz,e,q⟩
 cases ds with
 | nil =>
  cases e
  simp only [zaj] at fz
  exact ⟨fz,q _ rel .refl⟩
 | cons _ _=>cases e
theorem zau {α β:Type} {r:R α} {k:α->R β} {b:β} (h:r.bind k=.ok b):∃ a,r=.ok a/\k a=.ok b:=by
 cases r with
 | ok a=>exact ⟨a,rfl,h⟩
 | _=>cases h
theorem zaQ {e:Expr} {es:List Expr} {g:GF} {gs:List GF} {d1 d2:List Nat} (h1:PVG K X d1 e g) (h2:zxX K X d2 es gs)
  (hs:(assignEach (e :: es) X.env).map (·.2)=assign e X.env :: (assignEach es X.env).map (·.2):=by rfl):zxX K X (d1 ++ d2) (e :: es) (g :: gs):=fun hK=>(zsh (h1 hK) (h2 hK) hs).weak fun vs σ H Q=>by
 rintro ⟨ρ,ds,ρ1,rel,fz,e,q⟩
 cases ds with
 | nil=>cases e
 | cons d ds =>
  simp only [zaj] at fz
  obtain ⟨v,r,rfl,f1,f2⟩:=fz
  obtain ⟨ρ2,e2,e3⟩:=zau (show (g d ρ).bind (fun ρ1=>zvj gs ds ρ1)=.ok ρ1 from e)
  exact ⟨v,r,rfl,ρ,d,ρ2,rel,f1,e2,fun σ1 rel1 c1=>⟨ρ2,ds,ρ1,rel1,f2,e3,fun σ2 rel2 c2=>q σ2 rel2 (c1.trans c2)⟩⟩
theorem zof:∀ {gs:List GF} {ds:List D} {ρ ρ1:En},zvj gs ds ρ=.ok ρ1->ds.length=gs.length
 | [],[],_,_,_=>rfl
 | [],_ :: _,_,_,e=>by cases e
 | _ :: _,[],_,_,e=>by cases e
 | g :: gs,d :: ds,ρ,ρ1,e=>by
  obtain ⟨ρ2,e2,e3⟩:=zau (show (g d ρ).bind (fun ρ1=>zvj gs ds ρ1)=.ok ρ1 from e)
  simp [zof e3]
theorem zdY {es:List Expr} {k:Nat} {gs:List GF} {dom:List Nat} (hc:X.calm=true) (h:zxX K X dom es gs)
  (hn:(assignEach es X.env).length=gs.length:=by rfl) (hst:(assignEach es X.env).findIdx? (·.1)=none:=by rfl):PVG K X dom (.Tuple es k pos) (gT gs):=fun hK=>by
 subst hK
 refine (zws hc (h rfl) hn hst).weak fun v σ H Q=>?_
 rintro ⟨ρ,d,ρ1,rel,fz,e,q⟩
 cases d with
 | tuple ds =>
  simp only [Fz] at fz
  obtain ⟨a,vs,rfl,s,f⟩:=fz
  replace e:zvj gs ds ρ=.ok ρ1:=e
  exact ⟨a,vs,rfl,.inl s,by rw [f.len,zof e],ρ,ds,ρ1,rel,f,e,q⟩
 | _=>cases e
variable {st:Stmt} {rest:List Stmt} {s t:SF} {e:Expr} {f:EF}
theorem zaD:zmB K X [] sNx:=fun _ C=>zuA.weak fun Dn σ H=>by
 rintro ⟨ρ,rel,g⟩
 exact g σ H rel (Fzn.refl H)
theorem zag (h1:PSV K X st s) (h2:zmB K X rest t):zmB K X (st :: rest) (zan s t):=fun hK C=>(zsb (h1 hK C) (h2 hK C)).weak fun Dn σ H=>by
 rintro ⟨ρ,rel,g⟩
 refine ⟨ρ,rel,?_⟩
 obtain ⟨x,ex,g1⟩:=g.bnd
 rw [ex]
 obtain ⟨fl,ρ1⟩:=x
 cases fl with
 | nx=>exact fun σ' H' r z=>⟨ρ1,r,g1.step z⟩
 | bk=>exact g1
 | ct=>exact g1
 | rt d=>exact g1
 | rf d=>exact g1
theorem zas (h1:PSV K X st s):zmB K X [st] s:=fun hK C=>zuz (h1 hK C)
theorem zp0:PSV K X (.Break pos) zv6:=fun _ C=>zse.weak fun Dn σ H=>by
 rintro ⟨ρ,rel,g⟩
 exact g σ H rel (Fzn.refl H)
theorem zfF:PSV K X st zoO:=fun _ C=>zsd.weak fun Dn σ H=>by
 rintro ⟨ρ,rel,g⟩
 exact g.elim
theorem zum (he:PV K X e f):PSV K X (.Return (some e) pos) (zav f):=fun hK C=>(zp6 (he hK)).weak fun Dn σ H=>by
 rintro ⟨ρ,rel,g⟩
 exact zsK rel g fun d ρ1 v H1 rel1 st1 fz g1=>g1 v σ H1 rel1 fz
theorem zbK (he:PVN K X e f):PSV K X (.Return (some e) pos) (zba f):=fun hK C=>(zp6 (he hK)).weak fun Dn σ H=>by
 rintro ⟨ρ,rel,g⟩
 exact zyU rel g fun d ρ1 a H1 rel1 fz ha n m g1=>g1 a σ H1 rel1 (rel.fresh ha) m
theorem znJ {y:Str} {py:Pos} (i:Nat) (ha:PE X (.Name y py) (zrJ i)):PSV K X (.Return (some (.Name y py)) pos) (zoN i):=fun hK C=>(zp6 ha).weak fun Dn σ H=>by
 rintro ⟨ρ,rel,g⟩
 unfold zoN at g
 cases e:ρ[i]? with
 | none=>rw [e] at g;exact g.elim
 | some x =>
  rw [e] at g
  cases x with
  | ow p d =>
   cases p with
   | false =>
    obtain ⟨a,at0,m⟩:=rel.rel.zsv (d:=d) (show za1 ρ i=.ok d by unfold za1;rw [e])
    exact ⟨.ref a,at0.2,g a σ H rel (rel.own i a d e at0.2) m⟩
   | true=>exact g.elim
  | _=>exact g.elim
theorem zaP {c:Expr} {a b:List Stmt} {tc:TF} (hc:PVT K X c tc) (ha:zmB K X a s) (hb:zmB K X b t):PSV K X (.If c a b pos) (sIf tc s t):=fun hK C=>(zyf (hc hK) (ha hK C) (hb hK C)).weak fun Dn σ H=>by
 rintro ⟨ρ,rel,g⟩
 refine zyT rel g fun cb ρ1 H1 rel1 fz g1=>?_
 cases cb with
 | true=>exact zsE ⟨ρ1,rel1,g1⟩
 | false=>exact zsF ⟨ρ1,rel1,g1⟩
theorem zur {tg:Expr} {g:GF} {dom:List Nat} (he:PV K X e f) (hg:PVG K X dom tg g) (hs:swapsWithSole [tg] e pos.line X.env=pure false:=by rfl) (hw:swappedStores [tg] e X.env=pure none:=by rfl)
  (h1:(assignEach [tg] X.env).map (·.2)=[assign tg X.env]:=by rfl):PSV K X (.Assign [tg] e pos) (zaC g f):=fun hK C=>(ztv (he hK) (hg hK) hs hw h1).weak fun Dn σ H=>by
 rintro ⟨ρ,rel,q⟩
 refine zsK rel q fun d ρ1 v H1 rel1 st1 fz q1=>?_
 obtain ⟨ρ2,e2,q2⟩:=q1.bnd
 exact ⟨ρ1,d,ρ2,rel1.rel,fz,e2,fun σ1 rel2 c=>q2 σ1 H1 (rel1.chg rel2 c) (Fzn.refl H1)⟩
theorem zul {i:Nat} {x:Str} {pos':Pos} (hN:X.N.Nodup) (hi:X.N[i]?=some x) (hx:Loc X.env.scope x) (he:PV K X e f) (hs:swapsWith e (some (.Name x pos')) pos.line X.env=pure false:=by rfl) (hf:X.fn x=true\/X.env.scope.names.lookup x=some .local:=by first | exact .inl rfl | exact .inr rfl | assumption) :
  PSV K X (.Assign [.Name x pos'] e pos) (zaC (gN i) f):=fun hK C=>(ztu hN hi hx (he hK) hs hf).weak fun Dn σ H=>by
 rintro ⟨ρ,rel,q⟩
 refine zsK rel q fun d ρ1 v H1 rel1 st1 fz q1=>?_
 obtain ⟨ρ2,e2,q2⟩:=q1.bnd
 obtain ⟨rfl,n,hl⟩:=zoe e2
 exact q2 _ H1 (rel1.chg (rel1.rel.set fz fun _ _ _ z=>nomatch z) (zkS n hl)) (Fzn.refl H1)
theorem zxg {i:Nat} {C:SC} (Dn:Ends) (σ:L2.St) (H:Hp) (q0:tS K C (zeJ i f) Dn σ H):zv1 (tN K f) (zqT i) Dn σ H:=by
 revert q0
 rintro ⟨ρ,rel,q⟩
 refine zyU rel q fun d ρ1 a H1 rel1 fz ha n m q1=>?_
 have hf:=rel.fresh ha
 replace q1:zcJ K C H1 (match ρ1[i]? with | some (.ow true _)=>.bad | some _=>.ok (.nx,ρ1.set i (.ow false d)) | none=>.bad) Dn:=q1
 have fin:(∀ e,ρ1[i]? ≠ some (.ow true e))->i < ρ1.length->zeN K C (ρ1.set i (.ow false d)) (σ.set i (some (.ref a))) H1:=fun np hl=>by
  have hls:i < σ.length:=by rw [<- rel1.rel.len];exact hl
  refine ⟨rel1.rel.set (show zvE K H1 (.ow false d) (some (.ref a)) from m) fun b p c e1 e2=>by cases e2;exact n,rel1.keep,fun j b c e1 e2=>?_,fun j=>?_,fun j c e1=>?_,rel1.prm⟩
  ·by_cases k:i=j
   ·subst k
    rw [List.getElem?_set_self hls] at e2
    cases e2
    exact hf
   ·rw [List.getElem?_set_ne k] at e1 e2
    exact rel1.own j b c e1 e2
  ·by_cases k:i=j
   ·subst k
    rw [List.getElem?_set_self hl,<- rel1.pin i]
    constructor
    ·rintro ⟨_,z⟩;cases z
    ·rintro ⟨c,z⟩;exact absurd z (np c)
   ·rw [List.getElem?_set_ne k];exact rel1.pin j
  ·by_cases k:i=j
   ·subst k
    rw [List.getElem?_set_self hl] at e1;cases e1
   ·rw [List.getElem?_set_ne k] at e1 ⊢
    exact rel1.fix j c e1
 cases e1:ρ1[i]? with
 | none=>rw [e1] at q1;exact q1.elim
 | some y =>
  have hl:i < ρ1.length:=(List.getElem?_eq_some_iff.mp e1).1
  rw [e1] at q1
  cases y with
  | no=>exact q1 _ H1 (fin (fun e z=>by rw [e1] at z;cases z) hl) (Fzn.refl H1)
  | val c=>exact q1 _ H1 (fin (fun e z=>by rw [e1] at z;cases z) hl) (Fzn.refl H1)
  | ow p c =>
   cases p with
   | true=>exact q1.elim
   | false=>exact q1 _ H1 (fin (fun e z=>by rw [e1] at z;cases z) hl) (Fzn.refl H1)
theorem zuo {i:Nat} {x:Str} {pos':Pos} (hN:X.N.Nodup) (hi:X.N[i]?=some x) (hx:Loc X.env.scope x) (he:PVN K X e f) (hs:swapsWith e (some (.Name x pos')) pos.line X.env=pure false:=by rfl) (hf:X.fn x=true\/X.env.scope.names.lookup x=some .local:=by first | exact .inl rfl | exact .inr rfl | assumption) :
  PSV K X (.Assign [.Name x pos'] e pos) (zeJ i f):=fun hK C=>(ztu hN hi hx (he hK) hs hf).weak fun Dn σ H q=>zxg Dn σ H q
theorem zup (i:Nat) (h:PSV K X st s):PSV K X st (zv5 i s):=fun hK C=>by
 have h1:PS X st (fun Dn σ H=>∃ a u,H a=some u/\Own u/\∀ o,tS K C s Dn σ (upd H a (.frz o u))):=fun pins sh σ H Dn I ⟨a,u,e,ow,q⟩=>by
  obtain ⟨o,ho⟩:=(I.hok a u e).some
  exact h hK C pins sh σ _ Dn (zyx I e ow ho) (q o)
 refine h1.weak fun Dn σ H=>?_
 rintro ⟨ρ,rel,g⟩
 unfold zv5 at g
 cases e:ρ[i]? with
 | none=>rw [e] at g;exact g.elim
 | some x =>
  rw [e] at g
  cases x with
  | ow p d =>
   cases p with
   | true=>exact g.elim
   | false =>
    obtain ⟨a,at0,m⟩:=rel.rel.zsv (d:=d) (show za1 ρ i=.ok d by unfold za1;rw [e])
    obtain ⟨u,e1,ow⟩:=m.own
    refine ⟨a,u,e1,ow,fun o=>⟨ρ.set i (.val d),?_,g.step ?_⟩⟩
    ·have hl:i < ρ.length:=(List.getElem?_eq_some_iff.mp e).1
     have hfr:=rel.own i a d e at0.2
     have fz:Fzn H (upd H a (.frz o u)):=fun b w e2 sy=>by
      rw [zax fun z=>by subst z;rw [e1] at e2;cases e2;exact ow.zdB sy]
      exact e2
     have fd:Fz K (upd H a (.frz o u)) d (.ref a):=by
      cases d with
      | list ds =>
       obtain ⟨vs,h1,h2⟩:=m
       rw [e1] at h1
       cases h1
       simp only [Fz]
       exact ⟨a,vs,rfl,.inl ⟨o,zao⟩,h2.mono fz⟩
      | dict kvs =>
       simp only [Fz]
       rcases m with ⟨kk,h1,h2⟩ | ⟨kk,h1,h2⟩
       ·rw [e1] at h1
        cases h1
        exact ⟨a,o,rfl,.inl ⟨kk,zao,h2.mono fz⟩⟩
       ·rw [e1] at h1
        cases h1
        exact ⟨a,o,rfl,.inr ⟨kk,zao,h2.mono fz⟩⟩
      | _=>exact m.elim
     have atw:∀ j b,At (ρ.set i (.val d)) σ j b->j ≠ i/\At ρ σ j b:=fun j b ⟨⟨q,dd,e1⟩,e2⟩=>by
      by_cases c:i=j
      ·subst c
       rw [List.getElem?_set_self hl] at e1;cases e1
      ·rw [List.getElem?_set_ne c] at e1
       exact ⟨fun z=>c z.symm,⟨q,dd,e1⟩,e2⟩
     refine ⟨⟨by rw [List.length_set];exact rel.rel.len,fun j y w e2 e3=>?_,fun j k b h1 h2=>rel.rel.sep j k b (atw j b h1).2 (atw k b h2).2,rel.rel.cst.mono fz⟩,fun b w e2 n=>?_,fun j b c e2 e3=>?_,fun j=>?_,fun j c e2=>?_,rel.prm⟩
     ·by_cases c:i=j
      ·subst c
       rw [List.getElem?_set_self hl] at e2
       cases e2
       rw [at0.2] at e3
       cases e3
       exact fd
      ·rw [List.getElem?_set_ne c] at e2
       refine (rel.rel.ok j y w e2 e3).mono fz fun b e4 ⟨p,dd,e5⟩=>?_
       subst e4;subst e5
       refine zax fun z=>?_
       subst z
       exact c (rel.rel.sep i j b at0 ⟨⟨p,dd,e2⟩,e3⟩)
     ·rw [zax fun z=>by subst z;rw [hfr] at e2;cases e2]
      exact rel.keep b w e2 n
     ·by_cases c:i=j
      ·subst c
       rw [List.getElem?_set_self hl] at e2;cases e2
      ·rw [List.getElem?_set_ne c] at e2
       exact rel.own j b _ e2 e3
     ·by_cases c:i=j
      ·subst c
       rw [List.getElem?_set_self hl,<- rel.pin i,e]
       constructor
       ·rintro ⟨_,z⟩;cases z
       ·rintro ⟨_,z⟩;cases z
      ·rw [List.getElem?_set_ne c];exact rel.pin j
     ·by_cases k:i=j
      ·subst k
       rw [List.getElem?_set_self hl] at e2;cases e2
      ·rw [List.getElem?_set_ne k] at e2
       exact rel.fix j c e2
    ·exact fun b w e2 sy=>by
      rw [zax fun z=>by subst z;rw [e1] at e2;cases e2;exact ow.zdB sy]
      exact e2
  | _=>exact g.elim
theorem zqq {ρ:En} {i:Nat} {c:List D} (h:zjb ρ i=.ok c):∃ p,ρ[i]?=some (.ow p (.list c)):=by
 unfold zjb at h
 cases e:ρ[i]? with
 | none=>rw [e] at h;cases h
 | some x =>
  rw [e] at h
  cases x with
  | ow p d =>
   cases d with
   | list a=>cases h;exact ⟨p,rfl⟩
   | _=>cases h
  | _=>cases h
theorem Rel.zyQ {ρ:En} {σ:L2.St} {H:Hp} {i:Nat} {c:List D} (r:Rel K ρ σ H) (h:zjb ρ i=.ok c):∃ a vs,At ρ σ i a/\H a=some (.lst vs)/\zaj K H c vs:=by
 obtain ⟨p,e⟩:=zqq h
 obtain ⟨a,at0,m⟩:=r.zsv (d:=.list c) (show za1 ρ i=.ok (.list c) by unfold za1;rw [e])
 obtain ⟨vs,h1,h2⟩:=m
 exact ⟨a,vs,at0,h1,h2⟩
theorem Rel.zzx {ρ ρ1:En} {σ:L2.St} {H1:Hp} {i:Nat} {c:List D} {a:Addr} (r:Rel K ρ1 σ H1) (h:zjb ρ1 i=.ok c) (at0:At ρ σ i a):∃ vs,At ρ1 σ i a/\H1 a=some (.lst vs)/\zaj K H1 c vs:=by
 obtain ⟨b,vs,ab,h1,h2⟩:=r.zyQ h
 have:=at0.2.symm.trans ab.2
 cases this
 exact ⟨vs,ab,h1,h2⟩
theorem zxf {C:SC} {ρ:En} {σ:L2.St} {H:Hp} {i:Nat} {a:Addr} {o:HO} {d:D} {Dn:Ends} (rel:zeN K C ρ σ H) (at0:At ρ σ i a) (m:zbV K (upd H a o) a d) (g:zcJ K C H (.ok (.nx,zcm ρ i d)) Dn):Dn.nx σ (upd H a o):=by
 have st:Stp ρ (zcm ρ i d) σ H (upd H a o):=znF at0
 exact g σ _ (rel.step (rel.rel.zzm at0 m) st) (st.fzn rel.rel)
theorem zxh {C:SC} {ρ:En} {σ:L2.St} {H:Hp} {i:Nat} {a:Addr} {o:HO} (rel:zeN K C ρ σ H) (at0:At ρ σ i a):Fzn H (upd H a o):=(znF (d:=.none) at0).fzn rel.rel
theorem zdc {y:Str} {py ps':Pos} {ke:Expr} {k:EF} (i:Nat) (ha:PE X (.Name y py) (zrJ i)) (he:PV K X e f) (hk:PV K X ke k)
  (has:∀ v,assign (.Subscript (.Name y py) ke ps') X.env v=(do
   let ov <- holding [v] (eval (.Name y py) X.env)
   let iv <- holding [v,ov] (eval ke X.env)
   standAt ps'
   holding [v,ov,iv] (setItem ov iv v)
   release [v,ov,iv] []):=by intro _;rfl)
  (hs:swapsWithSole [.Subscript (.Name y py) ke ps'] e pos.line X.env=pure false:=by rfl) (hw:swappedStores [.Subscript (.Name y py) ke ps'] e X.env=pure none:=by rfl)
  (h1:(assignEach [.Subscript (.Name y py) ke ps'] X.env).map (·.2)=[assign (.Subscript (.Name y py) ke ps') X.env]:=by rfl):PSV K X (.Assign [.Subscript (.Name y py) ke ps'] e pos) (setM i f k):=fun hK C=>by
 subst hK
 refine (ztv (he rfl) (zwt ha (hk rfl) set_list has) hs hw h1).weak fun Dn σ H=>?_
 rintro ⟨ρ,rel,g⟩
 refine zsK rel g fun dx ρ1 v H1 rel1 st1 fz g1=>?_
 obtain ⟨d,ed,g2⟩:=g1.bnd
 obtain ⟨a,vs0,at0,h0,_⟩:=rel1.rel.zyQ ed
 refine ⟨.ref a,at0.2,zsK rel1 g2 fun dk ρ2 kv H2 rel2 st2 fk g3=>?_⟩
 obtain ⟨c,ec,g4⟩:=g3.bnd
 obtain ⟨vs,at1,h1,h2⟩:=rel2.rel.zzx ec at0
 cases dk with
 | int j =>
  obtain ⟨n,en,g5⟩:=(show zcJ X.K C H2 ((R.of (FL.ixN c.length j)).bind fun n=>.ok (.nx,zcm ρ2 i (.list (c.set n dx)))) Dn from g4).bnd
  simp only [Fz] at fk
  subst fk
  refine ⟨a,vs,j,n,rfl,rfl,h1,?_,zxf (d:=.list (c.set n dx)) rel2 at1 ⟨_,zao,(h2.set n (fz.mono (st2.fzn rel1.rel))).mono (zxh rel2 at1)⟩ g5⟩
  rw [h2.len]
  cases e2:FL.ixN c.length j with
  | none=>rw [e2] at en;cases en
  | some m=>rw [e2] at en;cases en;exact e2
 | _=>exact g4.elim
end
end FL
namespace FL
open PySem L2 PySem.Spec
open PyProof.Rows hiding St
variable [Cs]
def Walk (K:PySem.W.Frag) (J:It) (items:List D) (H:Hp):Prop :=
 (∀ i d H',Fzn H H'->items[i]?=some d->J.go i H'/\∀ x H'',J.yld i H' x H''->zbr H' H''/\Fz K H'' d x)/\∀ i H',Fzn H H'->items.length<=i->J.stop i H'
def tI (K:PySem.W.Frag) (it:IF):TI:=fun σ H R=>∃ ρ,Rel K ρ σ H/\Good K ρ σ H (it ρ) fun items _ H'=>∀ J,Walk K J items H'->R J H'
def PVI (K:PySem.W.Frag) (X:Cx) (tg e:Expr) (it:IF):Prop:=X.K=K->PI X tg e (tI K it)
theorem _root_.L2.PI.weak {X:Cx} {tg e:Expr} {t t':TI} (h:PI X tg e t) (w:∀ σ H R,t' σ H R->t σ H R):PI X tg e t':=fun pins s σ H R I q=>h pins s σ H R I (w σ H R q)
section
variable {K:PySem.W.Frag} {X:Cx} {tg e:Expr} {f:EF} {pos:Pos}
theorem zwq {l:Expr} {tl:TE} (hl:PE X l tl):PI X tg l (fun σ H R=>tl σ H fun x H1=>∃ a,x=.ref a/\(((∃ xs,SqL X.K H1 a xs)/\R (Itl X.K a) H1)\/((∃ xs,SqT X.K H1 a xs)/\R (Itt X.K a) H1))):=by
 intro pins s σ H R I h
 refine thn (hl pins s σ H _ I h) fun v s1 ⟨x,H1,I1,r1,q1⟩=>?_
 obtain ⟨a,e,q1⟩:=q1
 subst e
 cases r1
 rcases q1 with ⟨⟨xs,hq⟩,q⟩ | ⟨⟨xs,hq⟩,q⟩
 ·obtain ⟨its,rv,p,hz⟩:=I1.list hq
  refine wpAny_pyIter_list p.isList ?_
  refine ⟨s1.heap.objs.size,[s1.heap.objs.size],_,_,H1,rfl,I1.kept (t':=s1.toks) fun b o e=>Heap.get?_push_of_some _ e,zpA a _,⟨_,Heap.get?_push_size _ rfl,rfl,rfl⟩,fun b hb=>?_,q⟩
  have e:b=s1.heap.objs.size:=by simpa using hb
  subst e
  exact I1.zsN (Nat.le_refl _) (I1.hok.fresh (Nat.le_refl _))
 ·obtain ⟨its,rv,p,hz⟩:=I1.tuple hq
  refine wpAny_pyIter_tuple (show s1.heap.IsTuple a its.toArray from p) ?_
  refine ⟨s1.heap.objs.size,[s1.heap.objs.size],_,_,H1,rfl,I1.kept (t':=s1.toks) fun b o e=>Heap.get?_push_of_some _ e,zoH a _,⟨_,Heap.get?_push_size _ rfl,rfl,rfl⟩,fun b hb=>?_,q⟩
  have e:b=s1.heap.objs.size:=by simpa using hb
  subst e
  exact I1.zsN (Nat.le_refl _) (I1.hok.fresh (Nat.le_refl _))
theorem zpx {H:Hp} {a:Addr} {vs:List V} {items:List D} (h:FzL K H a vs) (f:zaj K H items vs):Walk K (Itl K a) items H:=by
 refine ⟨fun i d H' fz e=>?_,fun i H' fz e=>⟨vs,(fz.zoM h).sq,by rw [f.len];exact e⟩⟩
 obtain ⟨v,ev,_⟩:=f.get e
 refine ⟨⟨vs,v,(fz.zoM h).sq,ev⟩,fun x H'' y=>?_⟩
 obtain ⟨rfl,y⟩:=y
 have ex:=y vs (fz.zoM h).sq
 obtain ⟨v',ev',fv⟩:=(f.mono fz).get e
 rw [ex] at ev'
 cases ev'
 exact ⟨zbr.refl _,fv⟩
theorem zrP {H:Hp} {a:Addr} {vs:List V} {items:List D} (h:TAt H a vs) (f:zaj K H items vs):Walk K (Itt K a) items H:=by
 refine ⟨fun i d H' fz e=>?_,fun i H' fz e=>⟨vs,.inl (fz.zxR h),by rw [f.len];exact e⟩⟩
 obtain ⟨v,ev,_⟩:=f.get e
 refine ⟨⟨vs,v,.inl (fz.zxR h),ev⟩,fun x H'' y=>?_⟩
 obtain ⟨rfl,y⟩:=y
 have ex:=y vs (.inl (fz.zxR h))
 obtain ⟨v',ev',fv⟩:=(f.mono fz).get e
 rw [ex] at ev'
 cases ev'
 exact ⟨zbr.refl _,fv⟩
theorem zaZ (he:PV K X e f):PVI K X tg e (iE f):=fun hK=>by
 subst hK
 refine (zwq (he rfl)).weak fun σ H R=>?_
 rintro ⟨ρ,rel,q⟩
 refine goV rel q fun dx ρ1 x H1 rel1 st1 fx q1=>?_
 obtain ⟨items,ei,q2⟩:=q1.ziB
 cases dx with
 | list a =>
  cases ei
  simp only [Fz] at fx
  obtain ⟨l,vs,rfl,sx,f⟩:=fx
  exact ⟨l,rfl,.inl ⟨⟨vs,sx.sq⟩,q2.now rel1 _ (zpx sx f)⟩⟩
 | tuple a =>
  cases ei
  simp only [Fz] at fx
  obtain ⟨l,vs,rfl,sx,f⟩:=fx
  exact ⟨l,rfl,.inr ⟨⟨vs,.inl sx⟩,q2.now rel1 _ (zrP sx f)⟩⟩
 | _=>cases ei
theorem p62:(2:Int) ^ 62=4611686018427387904:=by decide
theorem zue {lo hi:Int} {i:Nat} {d:D} (h:(rng lo hi)[i]?=some d):i < (hi - lo).toNat/\d=.int (lo + i):=by
 unfold rng at h
 rw [List.getElem?_map] at h
 by_cases c:i < (hi - lo).toNat
 ·rw [List.getElem?_range c] at h
  cases h
  exact ⟨c,rfl⟩
 ·rw [List.getElem?_eq_none (by rw [List.length_range];omega)] at h;cases h
theorem zrQ {H:Hp} (lo hi:Int):Walk K (Itr lo (hi - lo).toNat) (rng lo hi) H:=by
 refine ⟨fun i d H' fz e=>?_,fun i H' fz e=>?_⟩
 ·obtain ⟨c,rfl⟩:=zue e
  refine ⟨c,fun x H'' y=>?_⟩
  obtain ⟨rfl,rfl⟩:=y
  exact ⟨zbr.refl _,zeg _⟩
 ·show (hi - lo).toNat<=i
  simpa [rng] using e
theorem zaU {a:Expr} {fa:AF} {p:Pos} (hg:Gl X "range") (hm:X.mg "range"=none) (ha:PVA K X [a] fa) (hs:starEach [a] X.env=[(false,eval a X.env)]:=by rfl):PVI K X tg (.Call (.Name "range" p) [a] [] pos) (iR1 fa):=fun hK=>(zqe hg hm (ha hK) hs).weak fun σ H R=>by
 rintro ⟨ρ,rel,q⟩
 refine goA rel q fun ds ρ1 vs H1 rel1 st1 fs q1=>?_
 obtain ⟨items,ei,q2⟩:=q1.ziB
 cases ds with
 | nil=>cases ei
 | cons d r =>
  cases r with
  | cons _ _=>cases d <;> cases ei
  | nil =>
   cases d with
   | int j =>
    obtain ⟨c,ei⟩:=zb6 (show chk (zrW j && leB j.toNat lim) (.ok (rng 0 j))=.ok items from ei)
    cases ei
    simp only [zaj,Fz] at fs
    obtain ⟨_,_,rfl,rfl,rfl⟩:=fs
    simp only [zrW,Bool.and_eq_true,leB_iff] at c
    have:=zrQ (K:=K) (H:=H1) 0 j
    rw [Int.sub_zero] at this
    have e62:=p62
    exact ⟨j,rfl,by omega,by omega,q2.now rel1 _ this⟩
   | _=>cases ei
variable {it:IF} {g:GF} {b t:SF} {body:List Stmt}
theorem zuq {dom:List Nat} (hp:PassesOwn (model X.prog X.w) X.A X.env X.xe) (hc:X.calm=true) (hi:PVI K X tg e it) (hg:PVG K X dom tg g) (hb:zmB K X body b) (hs:∀ x,foldedSetIterable e X.env x=pure x:=by intro _;rfl):PSV K X (.For tg e body [] pos) (zeQ it g b):=fun hK C =>
 (zwm hp hc (hi hK) (hg hK) (hb hK C) hs).weak fun Dn σ0 H0=>by
 rintro ⟨ρ0,rel0,q⟩
 obtain ⟨x,ex,q⟩:=q.bnd
 refine ⟨ρ0,rel0.rel,?_⟩
 rw [ex]
 intro Hs r st J wk
 have rel1:=rel0.step r st
 have q1:=q.step (st.fzn rel0.rel)
 obtain ⟨items,ρs⟩:=x
 refine ⟨fun i m σ H=>m=items.length - i/\i<=items.length/\∃ ρ,zeN K C ρ σ H/\Fzn Hs H/\zcJ K C H (forL g b (items.drop i) ρ) Dn,⟨items.length,by simp,Nat.zero_le _,ρs,rel1,Fzn.refl _,q1⟩,?_⟩
 rintro i m σ H ⟨rfl,hi,ρ,rel,fz,gd⟩
 by_cases c:i < items.length
 ·have ed:=List.drop_eq_getElem_cons c
  rw [ed] at gd
  obtain ⟨hgo,hy⟩:=wk.1 i items[i] H fz (List.getElem?_eq_getElem c)
  refine .inr ⟨hgo,fun σ' H'=>∃ ρ,zeN K C ρ σ' H'/\Fzn Hs H'/\zcJ K C H' (forL g b (items.drop (i + 1)) ρ) Dn,fun σ' H' n=>⟨items.length - (i + 1),by omega,rfl,c,n⟩,fun x H3 y=>?_⟩
  obtain ⟨sm,fx⟩:=hy x H3 y
  have rel3:zeN K C ρ σ H3:=rel.step (rel.rel.same sm) (.of sm)
  obtain ⟨ρ1,e1,gd1⟩:=gd.bnd
  refine ⟨ρ,items[i],ρ1,rel3.rel,fx,e1,fun σ1 rel4 chg=>⟨ρ1,rel3.chg rel4 chg,?_⟩⟩
  obtain ⟨y,ey,gd2⟩:=gd1.bnd
  rw [ey]
  have gd3:=gd2.step (Fzn.of sm)
  have fz3:=fz.trans (Fzn.of sm)
  obtain ⟨fl,ρ2⟩:=y
  cases fl with
  | nx=>exact fun σ' H' r z=>⟨ρ2,r,fz3.trans z,gd3.step z⟩
  | ct=>exact fun σ' H' r z=>⟨ρ2,r,fz3.trans z,gd3.step z⟩
  | bk=>exact gd3
  | rt d=>exact gd3
  | rf d=>exact gd3
 ·have e:i=items.length:=by omega
  subst e
  rw [List.drop_length] at gd
  exact .inl ⟨wk.2 _ H fz (Nat.le_refl _),gd σ H rel (Fzn.refl _)⟩
theorem zll {c:Expr} {tc:TF} (fuel:En->Nat) (hp:PassesOwn (model X.prog X.w) X.A X.env X.xe) (hc:PVT K X c tc) (hb:zmB K X body b):PSV K X (.While c body [] pos) (zhR fuel tc b):=fun hK C =>
 (zsc hp (hc hK) (hb hK C)).weak fun Dn σ0 H0=>by
 rintro ⟨ρ0,rel0,q⟩
 refine ⟨fun m σ H=>∃ ρ,zeN K C ρ σ H/\zcJ K C H (zhA tc b m ρ) Dn,⟨fuel ρ0,ρ0,rel0,q⟩,?_⟩
 rintro m σ H ⟨ρ,rel,gd⟩
 cases m with
 | zero=>exact gd.elim
 | succ n =>
  refine zyT rel gd fun cb ρ1 H1 rel1 fz g1=>?_
  cases cb with
  | false=>exact zsF (g1 σ H1 rel1 (Fzn.refl _))
  | true =>
   refine zsE ⟨fun σ' H'=>∃ ρ,zeN K C ρ σ' H'/\zcJ K C H' (zhA tc b n ρ) Dn,fun σ' H' z=>⟨n,Nat.lt_succ_self _,z⟩,ρ1,rel1,?_⟩
   obtain ⟨y,ey,gd2⟩:=(show zcJ K C H1 ((b ρ1).bind fun y=>match y.1 with
   | .nx | .ct=>zhA tc b n y.2
   | .bk=>.ok (.nx,y.2)
   | .rt d=>.ok (.rt d,y.2)
   | .rf d=>.ok (.rf d,y.2)) Dn from g1).bnd
   rw [ey]
   obtain ⟨fl,ρ2⟩:=y
   cases fl with
   | nx=>exact fun σ' H' r z=>⟨ρ2,r,gd2.step z⟩
   | ct=>exact fun σ' H' r z=>⟨ρ2,r,gd2.step z⟩
   | bk=>exact gd2
   | rt d=>exact gd2
   | rf d=>exact gd2
end
end FL
namespace FL
open PySem L2 PySem.Spec
open PyProof.Rows hiding St
variable [Cs]
section
variable {K:PySem.W.Frag} {ρ:En} {σ:L2.St} {H H':Hp} {k:Nat} {ix:List Nat}
theorem zrl {j:Nat} (h:j < k):(blk k ix ρ)[j]?=some .no:=by
 unfold blk
 rw [List.getElem?_append_left (by simpa using h),List.getElem?_replicate,if_pos h]
theorem zou (j:Nat):(blk k ix ρ)[k + j]?=(ix[j]?).map fun i=>(ρ[i]?).getD .no:=by
 unfold blk
 rw [List.getElem?_append_right (by simp),List.length_replicate,Nat.add_sub_cancel_left,List.getElem?_map]
theorem zrj (j:Nat):(zeL k ix σ)[k + j]?=(ix[j]?).map fun i=>(σ[i]?).getD none:=by
 unfold zeL
 rw [List.getElem?_append_right (by simp),List.length_replicate,Nat.add_sub_cancel_left,List.getElem?_map]
theorem zj0 {j:Nat} {a:Addr} (h:At (blk k ix ρ) (zeL k ix σ) j a):∃ j' i,j=k + j'/\ix[j']?=some i/\At ρ σ i a:=by
 obtain ⟨⟨p,d,e1⟩,e2⟩:=h
 by_cases c:j < k
 ·rw [zrl c] at e1;cases e1
 ·obtain ⟨j',rfl⟩:∃ j',j=k + j':=⟨j - k,by omega⟩
  rw [zou] at e1
  rw [zrj] at e2
  cases ei:ix[j']? with
  | none=>rw [ei] at e1;cases e1
  | some i =>
   rw [ei] at e1 e2
   refine ⟨j',i,rfl,ei,⟨p,d,?_⟩,?_⟩
   ·simp only [Option.map_some,Option.some.injEq] at e1
    cases er:ρ[i]? with
    | none=>rw [er] at e1;cases e1
    | some x=>rw [er] at e1;simpa using e1
   ·simp only [Option.map_some,Option.some.injEq] at e2
    cases es:σ[i]? with
    | none=>rw [es] at e2;cases e2
    | some x=>rw [es] at e2;simpa using e2
theorem zqm {l:List Nat} (h:l.Nodup) {i j x:Nat} (a:l[i]?=some x) (b:l[j]?=some x):i=j:=by
 obtain ⟨h1,e1⟩:=List.getElem?_eq_some_iff.mp a
 obtain ⟨h2,e2⟩:=List.getElem?_eq_some_iff.mp b
 exact (List.getElem_inj h).mp (e1.trans e2.symm)
theorem zrk (nd:ix.Nodup) (r:Rel K ρ σ H):Rel K (blk k ix ρ) (zeL k ix σ) H:=by
 refine ⟨by simp [blk,zeL],fun j x v e1 e2=>?_,fun i j a h1 h2=>?_,r.cst⟩
 ·by_cases c:j < k
  ·rw [zrl c] at e1;cases e1;trivial
  ·obtain ⟨j',rfl⟩:∃ j',j=k + j':=⟨j - k,by omega⟩
   rw [zou] at e1
   rw [zrj] at e2
   cases ei:ix[j']? with
   | none=>rw [ei] at e1;cases e1
   | some i =>
    rw [ei] at e1 e2
    simp only [Option.map_some,Option.some.injEq] at e1 e2
    cases er:ρ[i]? with
    | none=>rw [er] at e1;cases e1;trivial
    | some y =>
     have hl:i < σ.length:=by rw [<- r.len];exact (List.getElem?_eq_some_iff.mp er).1
     rw [er] at e1
     rw [List.getElem?_eq_getElem hl] at e2
     cases e1;cases e2
     exact r.ok i _ _ er (List.getElem?_eq_getElem hl)
 ·obtain ⟨i',x,rfl,e1,a1⟩:=zj0 h1
  obtain ⟨j',y,rfl,e2,a2⟩:=zj0 h2
  have:=r.sep x y a a1 a2
  subst this
  rw [zqm nd e1 e2]
theorem zni {m:List (Nat × Sl)}:∀ (ρ:En) (n i:Nat),(bkL m n ρ)[i]?=(ρ[i]?).map (bk1 m (n + i))
 | [],n,i=>by simp [bkL]
 | x :: r,n,0=>by simp [bkL]
 | x :: r,n,i + 1=>by
  simp only [bkL,zz1]
  rw [zni r (n + 1) i,show n + 1 + i=n + (i + 1) by omega]
theorem zox {cs:En} (i:Nat):(back ρ ix cs)[i]?=(ρ[i]?).map (bk1 (ix.zip cs) i):=by
 unfold back
 rw [zni,Nat.zero_add]
theorem znh {m:List (Nat × Sl)}:∀ (ρ:En) (n:Nat),(bkL m n ρ).length=ρ.length
 | [],n=>rfl
 | x :: r,n=>by simp [bkL,znh r]
theorem zju:∀ {ix:List Nat} {cs:En} {i:Nat} {c:Sl},(ix.zip cs).lookup i=some c->∃ j:Nat,ix[j]?=some i/\cs[j]?=some c
 | [],cs,i,c,h=>by simp at h
 | x :: r,[],i,c,h=>by simp at h
 | x :: r,y :: s,i,c,h=>by
  rw [List.zip_cons_cons,List.lookup_cons] at h
  by_cases e:i=x
  ·subst e
   simp only [beq_self_eq_true] at h
   cases h
   exact ⟨0,rfl,rfl⟩
  ·rw [beq_false_of_ne e] at h
   obtain ⟨j,h1,h2⟩:=zju h
   exact ⟨j + 1,by simpa using h1,by simpa using h2⟩
theorem zfs:∀ {ix:List Nat} {cs:En} {i j:Nat} {c:Sl},ix.Nodup->ix[j]?=some i->cs[j]?=some c->(ix.zip cs).lookup i=some c
 | [],cs,i,j,c,_,h1,_=>by simp at h1
 | x :: r,[],i,j,c,_,_,h2=>by simp at h2
 | x :: r,y :: s,i,j,c,nd,h1,h2=>by
  rw [List.zip_cons_cons,List.lookup_cons]
  cases j with
  | zero =>
   simp at h1 h2
   subst h1;subst h2
   simp
  | succ j =>
   simp at h1 h2
   have:i ≠ x:=fun z=>by
    subst z
    exact (List.nodup_cons.mp nd).1 (List.mem_of_getElem? h1)
   rw [beq_false_of_ne this]
   exact zfs (List.nodup_cons.mp nd).2 h1 h2
theorem zkW {β:En} {σβ:L2.St} (nd:ix.Nodup) (r:Rel K ρ σ H) (hs:∀ j,σβ[k + j]?=(zeL k ix σ)[k + j]?) (rb:Rel K β σβ H')
  (md:∀ j p,(∃ d,β[k + j]?=some (.ow p d)) ↔ ∃ d,(blk k ix ρ)[k + j]?=some (.ow p d)) (kp:∀ a o,H a=some o->¬ MA (blk k ix ρ) (zeL k ix σ) a->H' a=some o) :
  Rel K (back ρ ix (β.drop k)) σ H'/\Stp ρ (back ρ ix (β.drop k)) σ H H':=by
 have hm:∀ a,MA (blk k ix ρ) (zeL k ix σ) a->MA ρ σ a:=fun a ⟨j,h⟩=>by
  obtain ⟨_,i,_,_,h⟩:=zj0 h
  exact ⟨i,h⟩
 have fz:Fzn H H':=fun a o h st=>kp a o h fun m=>by
  obtain ⟨o',e,w⟩:=r.zbk (hm a m)
  rw [h] at e
  cases e
  exact w.zdB st
 have mdB:∀ (i:Nat) p,(∃ d,ρ[i]?=some (.ow p d)) ↔ ∃ d,(back ρ ix (β.drop k))[i]?=some (.ow p d):=fun i p=>by
  rw [zox]
  constructor
  ·rintro ⟨d,e⟩
   rw [e]
   simp only [Option.map_some,bk1]
   split
   ·rename_i p' d1 q' d2 h1 h2;cases h1;exact ⟨_,rfl⟩
   ·exact ⟨_,rfl⟩
  ·rintro ⟨d,e⟩
   cases er:ρ[i]? with
   | none=>rw [er] at e;cases e
   | some x =>
    rw [er] at e
    simp only [Option.map_some,Option.some.injEq,bk1] at e
    split at e
    ·cases e;exact ⟨_,rfl⟩
    ·subst e;exact ⟨_,rfl⟩
 have atB:∀ i a,At (back ρ ix (β.drop k)) σ i a->At ρ σ i a:=fun i a ⟨⟨p,d,e1⟩,e2⟩=>⟨⟨p,(mdB i p).mpr ⟨d,e1⟩⟩,e2⟩
 refine ⟨⟨by rw [show (back ρ ix (β.drop k)).length=ρ.length from znh _ _];exact r.len,fun i x v e1 e2=>?_,fun i j a h1 h2=>r.sep i j a (atB i a h1) (atB j a h2),r.cst.mono fz⟩,⟨mdB,fun a o h n=>kp a o h fun m=>n (hm a m)⟩⟩
 rw [zox] at e1
 cases er:ρ[i]? with
 | none=>rw [er] at e1;cases e1
 | some y =>
  rw [er] at e1
  simp only [Option.map_some,Option.some.injEq] at e1
  have o:=r.ok i y v er e2
  cases y with
  | no=>simp only [bk1] at e1;subst e1;trivial
  | val d =>
   simp only [bk1] at e1
   subst e1
   exact o.mono fz fun a _ ⟨p,d',z⟩=>nomatch z
  | ow p d =>
   cases v with
   | none=>exact o.elim
   | some v =>
    cases v with
    | ref a =>
     have ai:At ρ σ i a:=⟨⟨p,d,er⟩,e2⟩
     cases el:(ix.zip (β.drop k)).lookup i with
     | none =>
      simp only [bk1,el] at e1
      subst e1
      refine o.mono fz fun b e3 _=>?_
      cases e3
      obtain ⟨u,hu,_⟩:=r.zbk ⟨i,ai⟩
      rw [hu]
      refine kp a u hu fun ⟨j,h⟩=>?_
      obtain ⟨j',i',rfl,ej,h'⟩:=zj0 h
      have:=r.sep i i' a ai h'
      subst this
      have hb:β[k + j']? ≠ none:=fun z=>by
       have:∃ d,β[k + j']?=some (.ow p d):=(md j' p).mpr ⟨d,by rw [zou,ej];simp [er]⟩
       obtain ⟨_,w⟩:=this
       rw [z] at w;cases w
      cases hbe:β[k + j']? with
      | none=>exact hb hbe
      | some c =>
       have:(β.drop k)[j']?=some c:=by rw [List.getElem?_drop];exact hbe
       rw [zfs nd ej this] at el
       cases el
     | some c =>
      obtain ⟨j,hj,hc⟩:=zju el
      rw [List.getElem?_drop] at hc
      have bm:(blk k ix ρ)[k + j]?=some (.ow p d):=by rw [zou,hj];simp [er]
      obtain ⟨d',hd'⟩:=(md j p).mpr ⟨d,bm⟩
      rw [hc] at hd'
      cases hd'
      simp only [bk1,el] at e1
      subst e1
      have es:σβ[k + j]?=some (some (.ref a)):=by rw [hs j,zrj,hj];simp [e2]
      exact rb.ok (k + j) _ _ hc es
    | _=>exact o.elim
end
theorem zkK {K:PySem.W.Frag} {k:Nat} {dom:List Nat} {g:GF} (hd:dom.all (fun i=>decide (i < k))=true):znu k (tG K dom g):=fun x σ H Q=>by
 rintro ⟨ρ,d,ρ1,rel,fz,e,q⟩
 refine ⟨ρ,d,ρ1,rel,fz,e,fun σ1 rel1 c=>⟨⟨c.1,fun i hi=>?_⟩,q σ1 rel1 c⟩⟩
 rcases c.2 i with ⟨_,c2⟩ | ⟨m,_⟩
 ·exact c2
 ·have:=of_decide_eq_true (List.all_eq_true.mp hd i m)
  omega
def zt0 (K:PySem.W.Frag) (X:Cx) (ifs:List Expr) (t:TF):Prop:=X.K=K->PTs X ifs (tT K t)
theorem _root_.L2.PTs.weak {X:Cx} {e:List Expr} {t t':TT} (h:PTs X e t) (w:∀ σ H Q,t' σ H Q->t σ H Q):PTs X e t':=fun pins s σ H Q I q=>h pins s σ H Q I (w σ H Q q)
theorem zaw {K:PySem.W.Frag} {X:Cx}:zt0 K X [] zaK:=fun _=>zux.weak fun σ H Q=>by
 rintro ⟨ρ,rel,q⟩
 exact q.now rel
theorem zfE {K:PySem.W.Frag} {X:Cx} {c:Expr} {t:TF} (h:PVT K X c t):zt0 K X [c] t:=fun hK=>zuw (h hK)
section
variable {K:PySem.W.Frag} {X:Cx} {elt tg iter:Expr} {ifs:List Expr} {scope:Scope} {pos:Pos} {it:IF} {g:GF} {t:TF} {f:EF} {dom:List Nat}
theorem ztP {k:Nat} {ix:List Nat} (nd:ix.Nodup) (hgo:dom.all (fun i=>decide (i < k))=true) (σ:L2.St) (H:Hp) (Q:VK) (q:tN K (zaz k ix it g t f) σ H Q):zoL k ix (tI K it) (tG K dom g) (tT K t) (tV K f) σ H Q:=by
 revert q
 rintro ⟨ρ0,rel0,q⟩
 obtain ⟨x,ex,q⟩:=q.bnd
 refine ⟨ρ0,rel0,?_⟩
 rw [ex]
 intro H1 rel1 st1 J wk l hl
 obtain ⟨items,ρs⟩:=x
 have hl0:H l=none:=by
  cases e:H l with
  | none=>rfl
  | some o =>
   by_cases m:MA ρ0 σ l
   ·obtain ⟨o',e',_⟩:=rel1.zbk (st1.ma.mp m)
    rw [hl] at e';cases e'
   ·rw [st1.kp l o e m] at hl;cases hl
 have sl:zbr H1 (upd H1 l (.lst [])):=zbr.upd hl
 refine ⟨fun i m ys H2=>m=items.length - i/\i<=items.length/\H2 l=some (.lst ys)/\∃ ρ acc,Rel K ρ σ H2/\¬ MA ρ σ l/\zaj K H2 acc ys/\Fzn H1 H2/\Stp ρ0 ρ σ H H2 /\
  Good K ρ0 σ H ((zjo k ix g t f (items.drop i) ρ acc).bind fun (y:List D × En)=>.ok ((PyData.list y.1:D),y.2)) fun d ρ' H'=>∀ a,H a=none->zbV K H' a d->Q (.ref a) H',
  ⟨items.length,by simp,Nat.zero_le _,zao,ρs,[],rel1.same sl,fun z=>?_,by simp [zaj],Fzn.of sl,st1.trans (.of sl),q⟩,?_⟩
 ·obtain ⟨o',e',_⟩:=rel1.zbk z
  rw [hl] at e';cases e'
 rintro i m ys H2 ⟨rfl,hi,hly,ρ,acc,rel,nma,fa,fz,st0,gd⟩
 refine ⟨hly,?_⟩
 by_cases c:i < items.length
 ·have ed:=List.drop_eq_getElem_cons c
  rw [ed] at gd
  obtain ⟨hgo',hy⟩:=wk.1 i items[i] H2 fz (List.getElem?_eq_getElem c)
  refine .inr ⟨hgo',fun x H3 y=>?_⟩
  obtain ⟨sm,fx⟩:=hy x H3 y
  have rel3:Rel K ρ σ H3:=rel.same sm
  obtain ⟨w,ew,gd⟩:=gd.ziB
  obtain ⟨β1,e1,ew⟩:=zau (show (g items[i] (blk k ix ρ)).bind _=.ok w from ew)
  obtain ⟨c1,ec,ew⟩:=zau ew
  refine ⟨blk k ix ρ,items[i],β1,zrk nd rel3,fx,e1,fun σ1 relβ chg=>⟨β1,relβ,?_⟩⟩
  rw [ec]
  intro H5 rel5 st5
  have hσ:∀ j,σ1[k + j]?=(zeL k ix σ)[k + j]?:=fun j=>by
   rcases chg.2 (k + j) with ⟨_,c2⟩ | ⟨m,_⟩
   ·exact c2
   ·have:=of_decide_eq_true (List.all_eq_true.mp hgo _ m)
    omega
  have hβ:∀ j,β1[k + j]?=(blk k ix ρ)[k + j]?:=fun j=>by
   rcases chg.2 (k + j) with ⟨c2,_⟩ | ⟨m,_⟩
   ·exact c2
   ·have:=of_decide_eq_true (List.all_eq_true.mp hgo _ m)
    omega
  have hMA:∀ a,MA β1 σ1 a->MA (blk k ix ρ) (zeL k ix σ) a:=fun a ⟨j,⟨p,d,z1⟩,z2⟩=>by
   rcases chg.2 j with ⟨c1,c2⟩ | ⟨_,⟨d',c1⟩,_⟩
   ·exact ⟨j,⟨p,d,by rw [<- c1];exact z1⟩,by rw [<- c2];exact z2⟩
   ·rw [c1] at z1;cases z1
  have hMB:∀ a,MA (blk k ix ρ) (zeL k ix σ) a->MA ρ σ a:=fun a ⟨j,h⟩=>by
   obtain ⟨_,i,_,_,h⟩:=zj0 h
   exact ⟨i,h⟩
  have h3l:H3 l=some (.lst ys):=sm l _ hly
  have n1:¬ MA β1 σ1 l:=fun z=>nma (hMB l (hMA l z))
  have h5l:H5 l=some (.lst ys):=st5.kp l _ h3l n1
  obtain ⟨cb,β2⟩:=c1
  cases cb with
  | true =>
   refine zsE ⟨β2,rel5,?_⟩
   obtain ⟨y,ey,ew⟩:=zau (show (f β2).bind _=.ok w from ew)
   rw [ey]
   intro H6 rel6 st6 v fv
   obtain ⟨cc,ew⟩:=zb6 ew
   have n2:¬ MA β2 σ1 l:=fun z=>n1 (st5.ma.mpr z)
   have h6l:H6 l=some (.lst ys):=st6.kp l _ h5l n2
   have st:Stp β1 y.2 σ1 H3 H6:=st5.trans st6
   obtain ⟨rb,sb⟩:=zkW (k:=k) nd rel3 hσ rel6 (fun j p=>by rw [<- hβ j];exact (st.md (k + j) p).symm) (fun a o h n=>st.kp a o h fun z=>n (hMA a z))
   have nmb:¬ MA (back ρ ix (y.2.drop k)) σ l:=fun z=>nma (sb.ma.mpr z)
   have fz6:Fzn H2 H6:=(Fzn.of sm).trans (sb.fzn rel3)
   have fz7:Fzn H6 (upd H6 l (.lst (ys ++ [v]))):=fun b u e s=>by
    rw [zax fun z=>by subst z;rw [h6l] at e;cases e;exact s]
    exact e
   refine ⟨h6l,?_,items.length - (i + 1),by omega,rfl,c,zao,back ρ ix (y.2.drop k),acc ++ [y.1],rb.put nmb (fun u e=>by rw [h6l] at e;cases e;exact fun z=>z),nmb,?_,(fz.trans fz6).trans fz7,⟨((st0.trans (.of sm)).trans sb).md,fun a o h n=>?_⟩,?_⟩
   ·have:=zlE cc
    have l0:=zde
    rw [fa.len];omega
   ·refine ((fa.mono fz6).mono fz7).app ?_
    simp only [zaj]
    exact ⟨v,[],rfl,fv.mono fz7,rfl⟩
   ·rw [zax fun z=>by subst z;rw [hl0] at h;cases h]
    exact ((st0.trans (.of sm)).trans sb).kp a o h n
   ·rw [ew]
    exact gd
  | false =>
   obtain ⟨rb,sb⟩:=zkW (k:=k) nd rel3 hσ rel5 (fun j p=>by rw [<- hβ j];exact (st5.md (k + j) p).symm) (fun a o h n=>st5.kp a o h fun z=>n (hMA a z))
   have nmb:¬ MA (back ρ ix (β2.drop k)) σ l:=fun z=>nma (sb.ma.mpr z)
   have fz6:Fzn H2 H5:=(Fzn.of sm).trans (sb.fzn rel3)
   refine zsF ⟨items.length - (i + 1),by omega,rfl,c,h5l,back ρ ix (β2.drop k),acc,rb,nmb,fa.mono fz6,fz.trans fz6,(st0.trans (.of sm)).trans sb,?_⟩
   rw [show zjo k ix g t f (items.drop (i + 1)) (back ρ ix (β2.drop k)) acc=.ok w from ew]
   exact gd
 ·have e:i=items.length:=by omega
  subst e
  rw [List.drop_length] at gd
  exact .inl ⟨wk.2 _ H2 fz (Nat.le_refl _),gd H2 rel st0 l hl0 ⟨ys,hly,fa⟩⟩
theorem zr4 (L:List Str) (ix:List Nat) (M:List Str) (hc:X.calm=true) (hk:scope.kind=.function) (hd:zci X.env.scope scope X.N ix=true) (hM:M=L ++ ix.map fun i=>X.N.getD i "") (nd:ix.Nodup) (hi:PVI K X tg iter it)
  (hg:∀ C s₃ H₃ fp,PVG K (zap X M scope C s₃ H₃ fp) dom tg g) (hgo:dom.all (fun i=>decide (i < L.length))=true)
  (ht:∀ C s₃ H₃ fp,zt0 K (zap X M scope C s₃ H₃ fp) ifs t) (he:∀ C s₃ H₃ fp,PV K (zap X M scope C s₃ H₃ fp) elt f)
  (hs:∀ x,foldedSetIterable iter X.env x=pure x:=by intro _;rfl) :
  PVN K X (.ListComp elt [⟨tg,iter,ifs,0⟩] scope pos) (zaz L.length ix it g t f):=fun hK=>by
 refine (zsl L ix M hc hk hd hM (hi hK) (fun C s₃ H₃ fp=>hg C s₃ H₃ fp hK) (zkK hgo) (fun C s₃ H₃ fp=>ht C s₃ H₃ fp hK) (fun C s₃ H₃ fp=>he C s₃ H₃ fp hK) hs).weak fun σ H Q q=>ztP nd hgo σ H Q q
end
end FL
namespace FL
open PySem L2 PySem.Spec
open PyProof.Rows hiding St
variable [Cs]
def spF (K:PySem.W.Frag) (ms:List Bool) (fr:Bool) (F:List D->R (D × List D)):Sp:=fun vs H Q _=>∃ ds,vs.length=ms.length/\ds.length=ms.length/\Rel K (slots ms ds) (vs.map some) H /\
 ∃ d os,F ds=.ok (d,os)/\∀ v H',Rel K (slots ms os) (vs.map some) H'->(∀ a o,H a=some o->¬ MA (slots ms ds) (vs.map some) a->H' a=some o) ->
  (if fr=true then ∃ a,v=.ref a/\H a=none/\zbV K H' a d else Fz K H' d v)->Q v H'
def spP (K:PySem.W.Frag) (n:Nat) (fr:Bool) (G:List D->R D):Sp:=fun vs H Q _=>∃ ds,vs.length=n/\zvI H/\zaj K H ds vs/\∃ d,G ds=.ok d/\∀ v H',zbr H H'->(if fr=true then ∃ a,v=.ref a/\H a=none/\zbV K H' a d else Fz K H' d v)->Q v H'
theorem zcb:∀ {ms:List Bool} {ds:List D} {i:Nat},ds.length=ms.length->(slots ms ds)[i]?=(ms[i]?).bind fun m=>(ds[i]?).map fun d=>if m=true then Sl.ow true d else Sl.val d
 | [],[],i,_=>by simp [slots]
 | [],_ :: _,i,h=>by simp at h
 | _ :: _,[],i,h=>by simp at h
 | m :: ms,d :: ds,0,_=>by simp [slots]
 | m :: ms,d :: ds,i + 1,h=>by
  simp only [slots,zz1]
  exact zcb (by simpa using h)
theorem zdK:∀ {ms:List Bool} {ds:List D},ds.length=ms.length->(slots ms ds).length=ms.length
 | [],[],_=>rfl
 | [],_ :: _,h=>by simp at h
 | _ :: _,[],h=>by simp at h
 | m :: ms,d :: ds,h=>by simp only [slots,List.length_cons];rw [zdK (by simpa using h)]
theorem zfH:∀ {ms:List Bool} {ds:List D} {ρ:En},ds.length=ms.length->(outs ms ds ρ).length=ms.length
 | [],[],_,_=>rfl
 | [],_ :: _,_,h=>by simp at h
 | _ :: _,[],_,h=>by simp at h
 | m :: ms,d :: ds,ρ,h=>by simp only [outs,List.length_cons];rw [zfH (by simpa using h)]
theorem znT:∀ {ms:List Bool} {ds:List D} {ρ:En} {i:Nat} {m:Bool} {d:D},ms[i]?=some m->ds[i]?=some d->(outs ms ds ρ)[i]?=some (outD m d ρ[i]?)
 | m0 :: ms,d0 :: ds,ρ,0,m,d,h1,h2=>by
  simp at h1 h2
  subst h1;subst h2
  simp [outs,List.head?_eq_getElem?]
 | m0 :: ms,d0 :: ds,ρ,i + 1,m,d,h1,h2=>by
  simp at h1 h2
  simp only [outs,zz1]
  rw [znT h1 h2,List.getElem?_tail]
 | [],_,_,_,_,_,h,_=>by simp at h
 | _ :: _,[],_,_,_,_,_,h=>by simp at h
section
variable {K:PySem.W.Frag} {ρ:En} {σ:L2.St} {H:Hp}
theorem Rel.pad (r:Rel K ρ σ H) (n:Nat):Rel K (ρ ++ List.replicate n .no) (σ ++ List.replicate n none) H:=by
 have w:∀ i a,At (ρ ++ List.replicate n .no) (σ ++ List.replicate n none) i a->At ρ σ i a:=fun i a ⟨⟨p,d,e1⟩,e2⟩=>by
  by_cases c:i < ρ.length
  ·rw [List.getElem?_append_left c] at e1
   rw [List.getElem?_append_left (by rw [<- r.len];exact c)] at e2
   exact ⟨⟨p,d,e1⟩,e2⟩
  ·rw [List.getElem?_append_right (by omega),List.getElem?_replicate] at e1
   split at e1 <;> cases e1
 refine ⟨by simp [r.len],fun i x v e1 e2=>?_,fun i j a h1 h2=>r.sep i j a (w i a h1) (w j a h2),r.cst⟩
 by_cases c:i < ρ.length
 ·rw [List.getElem?_append_left c] at e1
  rw [List.getElem?_append_left (by rw [<- r.len];exact c)] at e2
  exact r.ok i x v e1 e2
 ·rw [List.getElem?_append_right (by omega),List.getElem?_replicate] at e1
  split at e1
  ·cases e1;trivial
  ·cases e1
theorem zwW {n:Nat} {a:Addr} (hl:ρ.length=σ.length):MA (ρ ++ List.replicate n .no) (σ ++ List.replicate n none) a ↔ MA ρ σ a:=by
 constructor
 ·rintro ⟨i,⟨p,d,e1⟩,e2⟩
  by_cases c:i < ρ.length
  ·rw [List.getElem?_append_left c] at e1
   rw [List.getElem?_append_left (by rw [<- hl];exact c)] at e2
   exact ⟨i,⟨p,d,e1⟩,e2⟩
  ·rw [List.getElem?_append_right (by omega),List.getElem?_replicate] at e1
   split at e1 <;> cases e1
 ·rintro ⟨i,⟨p,d,e1⟩,e2⟩
  have c:=(List.getElem?_eq_some_iff.mp e1).1
  exact ⟨i,⟨p,d,by rw [List.getElem?_append_left c];exact e1⟩,by rw [List.getElem?_append_left (by rw [<- hl];exact c)];exact e2⟩
end
theorem zew {ms:List Bool} {ds:List D} {i:Nat} {p:Bool} {d:D} (hl:ds.length=ms.length) (e:(slots ms ds)[i]?=some (.ow p d)):p=true/\ms[i]?=some true/\ds[i]?=some d:=by
 rw [zcb hl] at e
 cases em:ms[i]? with
 | none=>rw [em] at e;cases e
 | some m =>
  cases ed:ds[i]? with
  | none=>rw [em,ed] at e;cases e
  | some d' =>
   rw [em,ed] at e
   cases m with
   | true=>simp at e;exact ⟨e.1,rfl,by rw [e.2]⟩
   | false=>simp at e
section
variable {P:Program} {w:World} {K:PySem.W.Frag} {mg:Str->Option Value} {base:Heap}
theorem zq3 {x:Str} {st:Stmt} {f:Addr} {fd:FuncData} {N ps:List Str} {k:Nat} {b:SF} (ms:List Bool) (fr:Bool) (h:Fun K x x st f fd) (S:zeq N ps (zaF st)) (hps:ps.length=ms.length) (hpN:ps.length<=N.length)
  (hb:∀ (cdv:Value) (A:Around) (outer:List Env) (s:Shared) (H:Hp) (E:XK),zcZ k (A.deeper (envOfC x (zaF st) s.heap.objs.size f cdv))->zmB K (zrL (CXe P w) P w K mg base N x (zaF st) f cdv A outer s H E) (zbT st) b) :
  zk8 P w K mg base (CXe P w) (k + 1) f fd ps (spF K ms fr (run ms fr N.length b)):=by
 refine h.okE S (fun vs H Q E ⟨ds,e,_⟩=>by rw [e,hps]) fun cdv A outer s H vs Q E hr hq=>?_
 obtain ⟨ds,hv,hd,rel,d,os,hF,q⟩:=hq
 have hst:L2.start N vs=vs.map some ++ List.replicate (N.length - ds.length) none:=by unfold L2.start;rw [hv,hd]
 refine ⟨tS K ⟨H,L2.start N vs,slots ms ds ++ List.replicate (N.length - ds.length) .no⟩ b,hb cdv A outer s H E hr rfl _,slots ms ds ++ List.replicate (N.length - ds.length) .no,?_,?_⟩
 ·have tru:∀ (i:Nat) p d,(slots ms ds ++ List.replicate (N.length - ds.length) .no)[i]?=some (.ow p d)->p=true:=fun i p d e=>by
   by_cases c:i < (slots ms ds).length
   ·rw [List.getElem?_append_left c] at e
    exact (zew hd e).1
   ·rw [List.getElem?_append_right (by omega),List.getElem?_replicate] at e
    split at e <;> cases e
  refine ⟨?_,fun a o e _=>e,fun i a d e _=>absurd (tru i false d e) Bool.false_ne_true,fun i=>Iff.rfl,fun i d e=>rfl,tru⟩
  rw [hst]
  exact rel.pad _
 ·unfold run at hF
  rw [if_pos hd] at hF
  obtain ⟨y,ey,hF⟩:=zau hF
  rw [ey]
  have fin:∀ (ρ':En) (σ':L2.St) (H':Hp),zeN K ⟨H,L2.start N vs,slots ms ds ++ List.replicate (N.length - ds.length) .no⟩ ρ' σ' H' ->
    Rel K (slots ms (outs ms ds ρ')) (vs.map some) H'/\(∀ a o,H a=some o->¬ MA (slots ms ds) (vs.map some) a->H' a=some o):=fun ρ' σ' H' r=>by
   have hl0:(slots ms ds).length=(vs.map some).length:=by rw [zdK hd,List.length_map,hv]
   have kp:∀ a o,H a=some o->¬ MA (slots ms ds) (vs.map some) a->H' a=some o:=fun a o e n=>r.keep a o e fun z=>n (by
    have z':MA (slots ms ds ++ List.replicate (N.length - ds.length) .no) (L2.start N vs) a:=z
    rw [hst] at z'
    exact (zwW hl0).mp z')
   have fz:Fzn H H':=fun a o e sy=>kp a o e fun m=>by
    obtain ⟨o',e',ow⟩:=rel.zbk m
    rw [e] at e'
    cases e'
    exact ow.zdB sy
   refine ⟨?_,kp⟩
   have pinned:∀ (i:Nat) d0,ms[i]?=some true->ds[i]?=some d0->∃ d',ρ'[i]?=some (.ow true d')/\σ'[i]?=(vs.map some)[i]?:=fun i d0 em ed=>by
    have hi:i < (slots ms ds).length:=by rw [zdK hd];exact (List.getElem?_eq_some_iff.mp em).1
    have e0:(slots ms ds ++ List.replicate (N.length - ds.length) .no)[i]?=some (.ow true d0):=by
     rw [List.getElem?_append_left hi,zcb hd,em,ed];rfl
    obtain ⟨d',e'⟩:=(r.pin i).mpr ⟨d0,e0⟩
    refine ⟨d',e',?_⟩
    rw [r.fix i d' e']
    show (L2.start N vs)[i]?=_
    rw [hst,List.getElem?_append_left (by rw [<- hl0];exact hi)]
   have ho:(outs ms ds ρ').length=ms.length:=zfH hd
   refine ⟨by rw [zdK ho,List.length_map,hv],fun i x v e1 e2=>?_,fun i j a h1 h2=>?_,rel.cst.mono fz⟩
   ·rw [zcb ho] at e1
    cases em:ms[i]? with
    | none=>rw [em] at e1;cases e1
    | some m =>
     have hi:i < ds.length:=by rw [hd];exact (List.getElem?_eq_some_iff.mp em).1
     have ed:=List.getElem?_eq_getElem hi
     rw [em,znT em ed] at e1
     cases m with
     | true =>
      obtain ⟨d',e3,e4⟩:=pinned i _ em ed
      rw [e3] at e1
      cases e1
      rw [<- e4] at e2
      exact r.rel.ok i _ _ e3 e2
     | false =>
      cases e1
      have e5:(slots ms ds)[i]?=some (.val ds[i]):=by rw [zcb hd,em,ed];rfl
      exact (rel.ok i _ _ e5 e2).mono fz fun a _ ⟨p,d',z⟩=>nomatch z
   ·have w:∀ i a,At (slots ms (outs ms ds ρ')) (vs.map some) i a->At (slots ms ds) (vs.map some) i a:=fun i a ⟨⟨p,d0,e1⟩,e2⟩=>by
     obtain ⟨rfl,em,_⟩:=zew ho e1
     have hi:i < ds.length:=by rw [hd];exact (List.getElem?_eq_some_iff.mp em).1
     have ed:=List.getElem?_eq_getElem hi
     exact ⟨⟨true,ds[i],by rw [zcb hd,em,ed];rfl⟩,e2⟩
    exact rel.sep i j a (w i a h1) (w j a h2)
  obtain ⟨fl,ρ'⟩:=y
  cases fr with
  | false =>
   cases fl with
   | rt dr =>
    cases hF
    exact fun v σ' H' r fz=>q v H' (fin ρ' σ' H' r).1 (fin ρ' σ' H' r).2 fz
   | nx =>
    cases hF
    exact fun σ' H' r fz=>q .non H' (fin ρ' σ' H' r).1 (fin ρ' σ' H' r).2 (by show Fz K H' .none .non;simp [Fz])
   | _=>cases hF
  | true =>
   cases fl with
   | rf dr =>
    cases hF
    exact fun a σ' H' r ha m=>q (.ref a) H' (fin ρ' σ' H' r).1 (fin ρ' σ' H' r).2 ⟨a,rfl,ha,m⟩
   | _=>cases hF
theorem zxn {x:Str} {st:Stmt} {N ps:List Str} {k:Nat} {b:SF} (ms:List Bool) (fr:Bool) (h:Has K mg x st) (S:zeq N ps (zaF st)) (hps:ps.length=ms.length) (hpN:ps.length<=N.length)
  (hbi:∀ (kV doc pm:Value) (an:Option Addr) (cdv ct:Value) (us:List Value),us.length=ps.length->bindArgs (PySem.W.fnOf x x (zdl st) (zbT st) (zaF st) .none kV doc pm an cdv ct) ⟨us,[]⟩=pure (ps.zip us))
  (hb:∀ (f:Addr) (cdv:Value) (A:Around) (outer:List Env) (s:Shared) (H:Hp) (E:XK),zcZ k (A.deeper (envOfC x (zaF st) s.heap.objs.size f cdv))->zmB K (zrL (CXe P w) P w K mg base N x (zaF st) f cdv A outer s H E) (zbT st) b) :
  Callee P w K mg base x (k + 1) ps (spF K ms fr (run ms fr N.length b)):=by
 obtain ⟨f,fd,hm,F⟩:=h
 exact ⟨f,fd,hm,F.kp,F.binds hbi,zq3 ms fr F S hps hpN (hb f)⟩
end
end FL
namespace FL
open PySem L2 PySem.Spec
open PyProof.Rows hiding St
variable [Cs]
theorem ze6:∀ {n:Nat} {ds:List D},ds.length=n->slots (List.replicate n false) ds=ds.map Sl.val
 | 0,[],_=>rfl
 | n + 1,d :: ds,h=>by
  simp only [List.replicate_succ,slots,List.map_cons]
  rw [ze6 (by simpa using h)]
  rfl
 | 0,_ :: _,h=>by simp at h
 | n + 1,[],h=>by simp at h
theorem zrX {K:PySem.W.Frag} {H:Hp}:∀ {ds:List D} {vs:List V},zvI H->zaj K H ds vs->Rel K (ds.map Sl.val) (vs.map some) H:=fun {ds vs} cst f=>by
 refine ⟨by simp [f.len],fun i x v e1 e2=>?_,fun i j a ⟨⟨p,d,e⟩,_⟩=>?_,cst⟩
 ·rw [List.getElem?_map] at e1 e2
  cases ed:ds[i]? with
  | none=>rw [ed] at e1;cases e1
  | some d =>
   obtain ⟨u,eu,fu⟩:=f.get ed
   rw [ed] at e1
   rw [eu] at e2
   cases e1;cases e2
   exact fu
 ·rw [List.getElem?_map] at e
  cases ed:ds[i]? with
  | none=>rw [ed] at e;cases e
  | some d=>rw [ed] at e;cases e
theorem zoV {ds:List D} {σ:L2.St} {a:Addr}:¬ MA (ds.map Sl.val) σ a:=by
 rintro ⟨i,⟨p,d,e⟩,_⟩
 rw [List.getElem?_map] at e
 cases ed:ds[i]? with
 | none=>rw [ed] at e;cases e
 | some d=>rw [ed] at e;cases e
section
variable {P:Program} {w:World} {K:PySem.W.Frag} {mg:Str->Option Value} {base:Heap} {x:Str} {k:Nat} {ps:List Str}
theorem zk8.pure {f:Addr} {fd:FuncData} {n m:Nat} {fr:Bool} {b:SF} (F:zk8 P w K mg base (CXe P w) k f fd ps (spF K (List.replicate n false) fr (run (List.replicate n false) fr m b))):zk8 P w K mg base (CXe P w) k f fd ps (spP K n fr (za0 fr n m b)):=by
 refine F.imp fun vs H Q E=>?_
 rintro ⟨ds,hv,cst,f,d,e,q⟩
 have hd:ds.length=n:=by rw [<- f.len,hv]
 obtain ⟨y,ey,e⟩:=zau e
 cases e
 refine ⟨ds,by simpa using hv,by simpa using hd,by rw [ze6 hd];exact zrX cst f,y.1,y.2,by rw [ey],fun v H' r kp fin=>q v H' (fun a o e=>kp a o e (by rw [ze6 hd];exact zoV)) fin⟩
theorem Callee.pure {n m:Nat} {fr:Bool} {b:SF} (c:Callee P w K mg base x k ps (spF K (List.replicate n false) fr (run (List.replicate n false) fr m b))):Callee P w K mg base x k ps (spP K n fr (za0 fr n m b)):=by
 obtain ⟨f,fd,h1,h2,h3,F⟩:=c
 exact ⟨f,fd,h1,h2,h3,zk8.pure F⟩
end
def zvJ (fa:AF) (n:Nat):Prop:=∀ ρ y,fa ρ=.ok y->y.1.length=n
theorem zoz:zvJ zai 0:=fun ρ y h=>by cases h;rfl
theorem zmh {f:EF} {a:AF} {n:Nat} (h:zvJ a n):zvJ (zaa f a) (n + 1):=fun ρ y e=>by
 obtain ⟨x,_,e⟩:=zau (show (f ρ).bind _=.ok y from e)
 obtain ⟨z,e2,e⟩:=zau e
 cases e
 simp [h _ _ e2]
section
variable {K:PySem.W.Frag} {X:Cx} {k j n:Nat} {ps:List Str} {E:XK} {x:Str} {p pos:Pos} {e:Expr} {es:List Expr} {G:List D->R D} {fa:AF}
theorem zuv (c:Callee X.prog X.w X.K X.mg X.base x k ps (spP X.K n false G)) (hr:zcZ j X.A) (hg:Gl X x) (hx:Passes (CXe X.prog X.w) X E) (ha:PVA K X (e :: es) fa) (hl:zvJ fa n) (hj:k<=j:=by decide) (hdb:(x == ("__debug__":Str))=false:=by decide)
  (he:starEach (e :: es) X.env=(false,eval e X.env) :: starEach es X.env:=by rfl) (hpl:(backTo pos (starEach es X.env)).any (·.1)=false:=by rfl):PV K X (.Call (.Name x p) (e :: es) [] pos) (zaf G fa):=fun hK=>by
 subst hK
 refine (zfG c hr hg hx (ha rfl) hj hdb he hpl).weak fun σ H Q=>?_
 rintro ⟨ρ,rel,q⟩
 obtain ⟨y,ey,q0⟩:=q.bnd
 have hy:=hl ρ y ey
 refine ⟨ρ,rel,?_⟩
 rw [ey]
 intro H1 rel1 st1 vs fs
 obtain ⟨d,ed,q2⟩:=(q0.step st1).ziB
 rw [List.append_nil]
 exact ⟨y.1,by rw [fs.len,hy],rel1.cst,fs,d,ed,fun v H' s fin=>q2.new rel1 s v fin⟩
theorem zr5 (c:Callee X.prog X.w X.K X.mg X.base x k ps (spP X.K n true G)) (hr:zcZ j X.A) (hg:Gl X x) (hx:Passes (CXe X.prog X.w) X E) (ha:PVA K X (e :: es) fa) (hl:zvJ fa n) (hj:k<=j:=by decide) (hdb:(x == ("__debug__":Str))=false:=by decide)
  (he:starEach (e :: es) X.env=(false,eval e X.env) :: starEach es X.env:=by rfl) (hpl:(backTo pos (starEach es X.env)).any (·.1)=false:=by rfl):PVN K X (.Call (.Name x p) (e :: es) [] pos) (zaf G fa):=fun hK=>by
 subst hK
 refine (zfG c hr hg hx (ha rfl) hj hdb he hpl).weak fun σ H Q=>?_
 rintro ⟨ρ,rel,q⟩
 obtain ⟨y,ey,q0⟩:=q.bnd
 have hy:=hl ρ y ey
 refine ⟨ρ,rel,?_⟩
 rw [ey]
 intro H1 rel1 st1 vs fs
 obtain ⟨d,ed,q2⟩:=(q0.step st1).ziB
 rw [List.append_nil]
 refine ⟨y.1,by rw [fs.len,hy],rel1.cst,fs,d,ed,fun v H' s fin=>?_⟩
 obtain ⟨a,rfl,ha,m⟩:=fin
 refine q2.new rel1 s a ?_ m
 cases e0:H a with
 | none=>rfl
 | some o =>
  by_cases mm:MA ρ σ a
  ·obtain ⟨o',e',_⟩:=rel1.zbk (st1.ma.mp mm)
   rw [ha] at e';cases e'
  ·rw [st1.kp a o e0 mm] at ha;cases ha
def zla (K:PySem.W.Frag) (σ:L2.St) (H₀ H:Hp):List Itm->List V->Prop
 | [],vs=>vs=[]
 | .vd d :: r,vs=>∃ v t,vs=v :: t/\Fz K H d v/\zla K σ H₀ H r t
 | .mi i :: r,vs=>∃ v t,vs=v :: t/\σ[i]?=some (some v)/\zla K σ H₀ H r t
 | .td d :: r,vs=>∃ a t,vs=.ref a :: t/\zbV K H a d/\H₀ a=none/\zla K σ H₀ H r t
theorem Stp.old {ρ ρ1:En} {σ:L2.St} {H H1:Hp} (st:Stp ρ ρ1 σ H H1) (rel1:Rel K ρ1 σ H1) {a:Addr} (ha:H1 a=none):H a=none:=by
 cases e0:H a with
 | none=>rfl
 | some o =>
  by_cases mm:MA ρ σ a
  ·obtain ⟨o',e',_⟩:=rel1.zbk (st.ma.mp mm)
   rw [ha] at e';cases e'
  ·rw [st.kp a o e0 mm] at ha;cases ha
theorem zla.back {σ:L2.St} {H H1 H2:Hp} (h:∀ a,H1 a=none->H a=none):∀ {l:List Itm} {vs:List V},zla K σ H1 H2 l vs->zla K σ H H2 l vs
 | [],vs,z=>z
 | .vd d :: r,vs,z=>by
  obtain ⟨v,t,e,f,z⟩:=z
  exact ⟨v,t,e,f,zla.back h z⟩
 | .mi i :: r,vs,z=>by
  obtain ⟨v,t,e,f,z⟩:=z
  exact ⟨v,t,e,f,zla.back h z⟩
 | .td d :: r,vs,z=>by
  obtain ⟨v,t,e,f,g,z⟩:=z
  exact ⟨v,t,e,f,h _ g,zla.back h z⟩
def tAr (K:PySem.W.Frag) (a:List Ar):TA:=fun σ H Q=>∃ ρ,Rel K ρ σ H/\Good K ρ σ H (zmA a ρ) fun l _ H'=>∀ vs,zla K σ H H' l vs->Q vs H'
def zry (K:PySem.W.Frag) (X:Cx) (es:List Expr) (a:List Ar):Prop:=X.K=K->PA X es (tAr K a)
theorem za3:zry K X [] []:=fun _=>zls.weak fun σ H Q=>by
 rintro ⟨ρ,rel,q⟩
 exact q.now rel [] rfl
theorem zcM {f:EF} {a:List Ar} (he:PV K X e f) (hr:zry K X es a) (hs:starEach (e :: es) X.env=(false,eval e X.env) :: starEach es X.env:=by rfl):zry K X (e :: es) (.v f :: a):=fun hK=>(zdZ (he hK) (hr hK) hs).weak fun σ H Q=>by
 rintro ⟨ρ,rel,q⟩
 refine goV rel q fun dx ρ1 x H1 rel1 st1 fx q1=>?_
 obtain ⟨y,ey,q2⟩:=q1.bnd
 refine ⟨ρ1,rel1,?_⟩
 rw [ey]
 exact fun H2 rel2 st2 vs it=>(q2.step st2).now rel2 _ ⟨x,vs,rfl,fx.mono (st2.fzn rel1),it.back fun a ha=>st1.old rel1 ha⟩
theorem zwf {a:List Ar} {y:Str} {py:Pos} (i:Nat) (ha:PE X (.Name y py) (zrJ i)) (hr:zry K X es a) (hs:starEach (.Name y py :: es) X.env=(false,eval (.Name y py) X.env) :: starEach es X.env:=by rfl):zry K X (.Name y py :: es) (.m i :: a):=fun hK=>(zdZ ha (hr hK) hs).weak fun σ H Q=>by
 rintro ⟨ρ,rel,q⟩
 obtain ⟨d,ed,q1⟩:=(show Good K ρ σ H ((za1 ρ i).bind fun _=>(zmA a ρ).bind fun y=>.ok (.mi i :: y.1,y.2)) _ from q).ziB
 obtain ⟨ad,at0,_⟩:=rel.zsv ed
 obtain ⟨y,ey,q2⟩:=q1.bnd
 refine ⟨.ref ad,at0.2,ρ,rel,?_⟩
 rw [ey]
 exact fun H2 rel2 st2 vs it=>(q2.step st2).now rel2 _ ⟨.ref ad,vs,rfl,at0.2,it⟩
def arM:List Ar->List Bool
 | []=>[]
 | .v _ :: r=>false :: arM r
 | .m _ :: r=>true :: arM r
 | .t _ :: r=>true :: arM r
def arI:List Ar->List Nat
 | []=>[]
 | .v _ :: r=>arI r
 | .m i :: r=>i :: arI r
 | .t _ :: r=>arI r
def arT:List Ar->Nat
 | []=>0
 | .v _ :: r=>arT r
 | .m _ :: r=>arT r
 | .t _ :: r=>arT r + 1
def isR:Itm->Bool
 | .vd _=>false
 | _=>true
def zvV:Itm->Option Nat
 | .mi i=>some i
 | _=>none
def isT:Itm->Bool
 | .td _=>true
 | _=>false
theorem zeC:∀ {a:List Ar} {ρ:En} {y:List Itm × En},zmA a ρ=.ok y->y.1.map isR=arM a/\y.1.filterMap zvV=arI a/\y.1.countP isT=arT a
 | [],ρ,y,h=>by cases h;exact ⟨rfl,rfl,rfl⟩
 | .v f :: r,ρ,y,h=>by
  obtain ⟨x,_,h⟩:=zau (show (f ρ).bind _=.ok y from h)
  obtain ⟨z,e,h⟩:=zau h
  cases h
  obtain ⟨h1,h2,h3⟩:=zeC e
  simp only [List.map_cons,List.filterMap_cons]
  exact ⟨by rw [h1];rfl,h2,by rw [List.countP_cons_of_neg (by simp [isT])];exact h3⟩
 | .m i :: r,ρ,y,h=>by
  obtain ⟨_,_,h⟩:=zau (show (za1 ρ i).bind _=.ok y from h)
  obtain ⟨z,e,h⟩:=zau h
  cases h
  obtain ⟨h1,h2,h3⟩:=zeC e
  simp only [List.map_cons,List.filterMap_cons]
  exact ⟨by rw [h1];rfl,by rw [h2];rfl,by rw [List.countP_cons_of_neg (by simp [isT])];exact h3⟩
 | .t f :: r,ρ,y,h=>by
  obtain ⟨x,_,h⟩:=zau (show (f ρ).bind _=.ok y from h)
  obtain ⟨z,e,h⟩:=zau h
  cases h
  obtain ⟨h1,h2,h3⟩:=zeC e
  simp only [List.map_cons,List.filterMap_cons]
  exact ⟨by rw [h1];rfl,h2,by rw [List.countP_cons_of_pos (by simp [isT]),h3];rfl⟩
theorem zeB {ρ:En}:∀ {l:List Itm} {ds:List D},zkY ρ l=.ok ds->ds.length=l.length/\∀ (j:Nat) z,l[j]?=some z->∃ d,ds[j]?=some d/\(match z with | .vd d'=>d=d' | .mi i=>za1 ρ i=.ok d | .td d'=>d=d')
 | [],ds,h=>by cases h;exact ⟨rfl,fun j z e=>by simp at e⟩
 | .vd d :: r,ds,h=>by
  obtain ⟨ds',e,h⟩:=zau (show (zkY ρ r).bind _=.ok ds from h)
  cases h
  obtain ⟨h1,h2⟩:=zeB e
  refine ⟨by simp [h1],fun j z ez=>?_⟩
  cases j with
  | zero=>simp at ez;subst ez;exact ⟨d,rfl,rfl⟩
  | succ j=>obtain ⟨d',h3,h4⟩:=h2 j z (by simpa using ez);exact ⟨d',by simpa using h3,h4⟩
 | .td d :: r,ds,h=>by
  obtain ⟨ds',e,h⟩:=zau (show (zkY ρ r).bind _=.ok ds from h)
  cases h
  obtain ⟨h1,h2⟩:=zeB e
  refine ⟨by simp [h1],fun j z ez=>?_⟩
  cases j with
  | zero=>simp at ez;subst ez;exact ⟨d,rfl,rfl⟩
  | succ j=>obtain ⟨d',h3,h4⟩:=h2 j z (by simpa using ez);exact ⟨d',by simpa using h3,h4⟩
 | .mi i :: r,ds,h=>by
  obtain ⟨d,e0,h⟩:=zau (show (za1 ρ i).bind _=.ok ds from h)
  obtain ⟨ds',e,h⟩:=zau h
  cases h
  obtain ⟨h1,h2⟩:=zeB e
  refine ⟨by simp [h1],fun j z ez=>?_⟩
  cases j with
  | zero=>simp at ez;subst ez;exact ⟨d,rfl,e0⟩
  | succ j=>obtain ⟨d',h3,h4⟩:=h2 j z (by simpa using ez);exact ⟨d',by simpa using h3,h4⟩
theorem zla.get {σ:L2.St} {H₀ H:Hp}:∀ {l:List Itm} {vs:List V},zla K σ H₀ H l vs->vs.length=l.length/\∀ (j:Nat) z,l[j]?=some z->∃ v,vs[j]?=some v/\(match z with | .vd d=>Fz K H d v | .mi i=>σ[i]?=some (some v) | .td d=>∃ a,v=.ref a/\zbV K H a d/\H₀ a=none)
 | [],vs,h=>by cases (show vs=[] from h);exact ⟨rfl,fun j z e=>by simp at e⟩
 | .vd d :: r,vs,h=>by
  obtain ⟨v,t,rfl,f,h⟩:=h
  obtain ⟨h1,h2⟩:=zla.get h
  refine ⟨by simp [h1],fun j z ez=>?_⟩
  cases j with
  | zero=>simp at ez;subst ez;exact ⟨v,rfl,f⟩
  | succ j=>obtain ⟨d',h3,h4⟩:=h2 j z (by simpa using ez);exact ⟨d',by simpa using h3,h4⟩
 | .mi i :: r,vs,h=>by
  obtain ⟨v,t,rfl,f,h⟩:=h
  obtain ⟨h1,h2⟩:=zla.get h
  refine ⟨by simp [h1],fun j z ez=>?_⟩
  cases j with
  | zero=>simp at ez;subst ez;exact ⟨v,rfl,f⟩
  | succ j=>obtain ⟨d',h3,h4⟩:=h2 j z (by simpa using ez);exact ⟨d',by simpa using h3,h4⟩
 | .td d :: r,vs,h=>by
  obtain ⟨v,t,rfl,f,g,h⟩:=h
  obtain ⟨h1,h2⟩:=zla.get h
  refine ⟨by simp [h1],fun j z ez=>?_⟩
  cases j with
  | zero=>simp at ez;subst ez;exact ⟨_,rfl,v,rfl,f,g⟩
  | succ j=>obtain ⟨d',h3,h4⟩:=h2 j z (by simpa using ez);exact ⟨d',by simpa using h3,h4⟩
end
end FL
namespace FL
open PySem L2 PySem.Spec
open PyProof.Rows hiding St
variable [Cs]
section
variable {K:PySem.W.Frag} {ρ:En} {σ:L2.St} {H H':Hp}
theorem zwD {m:List (Nat × Sl)} (r:Rel K ρ σ H) (hA:∀ i c,m.lookup i=some c->∀ a,At ρ σ i a->∃ q d,c=.ow q d/\zbV K H' a d) (hB:∀ i a,At ρ σ i a->m.lookup i=none->H' a=H a) (fz:Fzn H H') :
  Rel K (bkL m 0 ρ) σ H'/\∀ (i:Nat) p,(∃ d,ρ[i]?=some (.ow p d)) ↔ ∃ d,(bkL m 0 ρ)[i]?=some (.ow p d):=by
 have gt:∀ i:Nat,(bkL m 0 ρ)[i]?=(ρ[i]?).map (bk1 m i):=fun i=>by rw [zni,Nat.zero_add]
 have mdB:∀ (i:Nat) p,(∃ d,ρ[i]?=some (.ow p d)) ↔ ∃ d,(bkL m 0 ρ)[i]?=some (.ow p d):=fun i p=>by
  rw [gt]
  constructor
  ·rintro ⟨d,e⟩
   rw [e]
   simp only [Option.map_some,bk1]
   split
   ·rename_i p' d1 q' d2 h1 h2;cases h1;exact ⟨_,rfl⟩
   ·exact ⟨_,rfl⟩
  ·rintro ⟨d,e⟩
   cases er:ρ[i]? with
   | none=>rw [er] at e;cases e
   | some x =>
    rw [er] at e
    simp only [Option.map_some,Option.some.injEq,bk1] at e
    split at e
    ·cases e;exact ⟨_,rfl⟩
    ·subst e;exact ⟨_,rfl⟩
 have atB:∀ i a,At (bkL m 0 ρ) σ i a->At ρ σ i a:=fun i a ⟨⟨p,d,e1⟩,e2⟩=>⟨⟨p,(mdB i p).mpr ⟨d,e1⟩⟩,e2⟩
 refine ⟨⟨by rw [znh];exact r.len,fun i x v e1 e2=>?_,fun i j a h1 h2=>r.sep i j a (atB i a h1) (atB j a h2),r.cst.mono fz⟩,mdB⟩
 rw [gt] at e1
 cases er:ρ[i]? with
 | none=>rw [er] at e1;cases e1
 | some y =>
  rw [er] at e1
  simp only [Option.map_some,Option.some.injEq] at e1
  have o:=r.ok i y v er e2
  cases y with
  | no=>simp only [bk1] at e1;subst e1;trivial
  | val d =>
   simp only [bk1] at e1
   subst e1
   exact o.mono fz fun a _ ⟨p,d',z⟩=>nomatch z
  | ow p d =>
   cases v with
   | none=>exact o.elim
   | some v =>
    cases v with
    | ref a =>
     have ai:At ρ σ i a:=⟨⟨p,d,er⟩,e2⟩
     cases el:m.lookup i with
     | none =>
      simp only [bk1,el] at e1
      subst e1
      exact o.mono fz fun b e3 _=>by cases e3;exact hB i a ai el
     | some c =>
      obtain ⟨q,d',rfl,mm⟩:=hA i c el a ai
      simp only [bk1,el] at e1
      subst e1
      exact mm
    | _=>exact o.elim
end
theorem ztC:∀ {l:List Itm} {j j' i:Nat},(l.filterMap zvV).Nodup->l[j]?=some (.mi i)->l[j']?=some (.mi i)->j=j'
 | [],j,j',i,_,h,_=>by simp at h
 | z :: r,j,j',i,nd,h1,h2=>by
  have rest:(r.filterMap zvV).Nodup:=by
   rw [List.filterMap_cons] at nd
   cases z with
   | mi k=>exact (List.nodup_cons.mp nd).2
   | _=>exact nd
  have mem:∀ {j:Nat},r[j]?=some (.mi i)->i ∈ r.filterMap zvV:=fun h=>List.mem_filterMap.mpr ⟨.mi i,List.mem_of_getElem? h,rfl⟩
  have hd:z=.mi i->∀ {j:Nat},r[j]? ≠ some (.mi i):=fun e j h=>by
   subst e
   rw [List.filterMap_cons] at nd
   exact (List.nodup_cons.mp nd).1 (mem h)
  cases j with
  | zero =>
   cases j' with
   | zero=>rfl
   | succ j'=>exact absurd (by simpa using h2) (hd (by simpa using h1) (j:=j'))
  | succ j =>
   cases j' with
   | zero=>exact absurd (by simpa using h1) (hd (by simpa using h2) (j:=j))
   | succ j' =>
    have:=ztC (l:=r) rest (by simpa using h1) (by simpa using h2)
    rw [this]
theorem zto:∀ {l:List Itm} {j j':Nat} {d d':D},l.countP isT<=1->l[j]?=some (.td d)->l[j']?=some (.td d')->j=j'
 | [],j,j',d,d',_,h,_=>by simp at h
 | z :: r,j,j',d,d',c,h1,h2=>by
  have rest:r.countP isT<=1:=by
   rw [List.countP_cons] at c;omega
  have none:isT z=true->∀ {j:Nat} {d:D},r[j]? ≠ some (.td d):=fun e j d h=>by
   rw [List.countP_cons,if_pos e] at c
   have:0 < r.countP isT:=List.countP_pos_iff.mpr ⟨_,List.mem_of_getElem? h,rfl⟩
   omega
  cases j with
  | zero =>
   cases j' with
   | zero=>rfl
   | succ j' =>
    have e:z=.td d:=by simpa using h1
    subst e
    exact absurd (by simpa using h2) (none rfl (j:=j'))
  | succ j =>
   cases j' with
   | zero =>
    have e:z=.td d':=by simpa using h2
    subst e
    exact absurd (by simpa using h1) (none rfl (j:=j))
   | succ j' =>
    have:=zto (l:=r) rest (by simpa using h1) (by simpa using h2)
    rw [this]
theorem zdn:∀ {l:List Itm} {os:List D} {i:Nat} {c:Sl},(zj5 l os).lookup i=some c->∃ (j:Nat) (d:D),l[j]?=some (.mi i)/\os[j]?=some d/\c=.ow true d
 | [],os,i,c,h=>by simp [zj5] at h
 | z :: r,[],i,c,h=>by cases z <;> simp [zj5] at h
 | .vd d :: r,o :: os,i,c,h=>by
  obtain ⟨j,d',h1,h2,h3⟩:=zdn (l:=r) (os:=os) (by simpa [zj5] using h)
  exact ⟨j + 1,d',by simpa using h1,by simpa using h2,h3⟩
 | .td d :: r,o :: os,i,c,h=>by
  obtain ⟨j,d',h1,h2,h3⟩:=zdn (l:=r) (os:=os) (by simpa [zj5] using h)
  exact ⟨j + 1,d',by simpa using h1,by simpa using h2,h3⟩
 | .mi k :: r,o :: os,i,c,h=>by
  simp only [zj5] at h
  rw [List.lookup_cons] at h
  by_cases e:i=k
  ·subst e
   simp only [beq_self_eq_true] at h
   cases h
   exact ⟨0,o,rfl,rfl,rfl⟩
  ·rw [beq_false_of_ne e] at h
   obtain ⟨j,d',h1,h2,h3⟩:=zdn (l:=r) (os:=os) h
   exact ⟨j + 1,d',by simpa using h1,by simpa using h2,h3⟩
theorem zhx:∀ {l:List Itm} {os:List D} {i j:Nat} {d:D},l[j]?=some (.mi i)->os[j]?=some d->∃ c,(zj5 l os).lookup i=some c
 | [],os,i,j,d,h,_=>by simp at h
 | z :: r,[],i,j,d,_,h=>by simp at h
 | .vd _ :: r,o :: os,i,j,d,h1,h2=>by
  cases j with
  | zero=>simp at h1
  | succ j =>
   simp only [zj5]
   exact zhx (l:=r) (by simpa using h1) (by simpa using h2)
 | .td _ :: r,o :: os,i,j,d,h1,h2=>by
  cases j with
  | zero=>simp at h1
  | succ j =>
   simp only [zj5]
   exact zhx (l:=r) (by simpa using h1) (by simpa using h2)
 | .mi k :: r,o :: os,i,j,d,h1,h2=>by
  simp only [zj5]
  rw [List.lookup_cons]
  by_cases e:i=k
  ·subst e
   simp
  ·rw [beq_false_of_ne e]
   cases j with
   | zero=>simp at h1;exact absurd h1.symm e
   | succ j=>exact zhx (l:=r) (by simpa using h1) (by simpa using h2)
section
variable {K:PySem.W.Frag} {ρ0 ρ:En} {σ:L2.St} {H0 H H':Hp} {l:List Itm} {ds os:List D} {vs:List V} {ms:List Bool}
theorem zgC (rel:Rel K ρ σ H) (it:zla K σ H0 H l vs) (hi:zkY ρ l=.ok ds) (hm:l.map isR=ms) {j:Nat} {a:Addr} (hd:ds.length=ms.length) (h:At (slots ms ds) (vs.map some) j a):(∃ i,l[j]?=some (.mi i)/\At ρ σ i a)\/∃ d,l[j]?=some (.td d)/\H0 a=none:=by
 obtain ⟨v1,v2⟩:=it.get
 obtain ⟨d1,d2⟩:=zeB hi
 obtain ⟨⟨p,d,e1⟩,e2⟩:=h
 obtain ⟨rfl,em,ed⟩:=zew hd e1
 rw [<- hm,List.getElem?_map] at em
 cases el:l[j]? with
 | none=>rw [el] at em;cases em
 | some z =>
  rw [el] at em
  obtain ⟨v,ev,es⟩:=v2 j _ el
  obtain ⟨d',ed',em'⟩:=d2 j _ el
  rw [List.getElem?_map,ev] at e2
  cases e2
  cases z with
  | vd _=>cases em
  | mi i =>
   obtain ⟨q,eq⟩:=zh0 em'
   exact .inl ⟨i,rfl,⟨q,d',eq⟩,es⟩
  | td d0 =>
   obtain ⟨b,eb,_,hb⟩:=es
   cases eb
   exact .inr ⟨d0,rfl,hb⟩
theorem ztb (r0:Rel K ρ0 σ H0) (st:Stp ρ0 ρ σ H0 H) (rel:Rel K ρ σ H) (it:zla K σ H0 H l vs) (hi:zkY ρ l=.ok ds) (hm:l.map isR=ms) (nd:(l.filterMap zvV).Nodup) (ct:l.countP isT<=1):ds.length=ms.length/\vs.length=ms.length/\Rel K (slots ms ds) (vs.map some) H:=by
 obtain ⟨v1,v2⟩:=it.get
 obtain ⟨d1,d2⟩:=zeB hi
 have hl:ms.length=l.length:=by rw [<- hm,List.length_map]
 have hd:ds.length=ms.length:=by rw [d1,hl]
 have hv:vs.length=ms.length:=by rw [v1,hl]
 have apart:∀ {i:Nat} {a:Addr},At ρ σ i a->H0 a=none->False:=fun h1 h2=>by
  obtain ⟨o',e',_⟩:=r0.zbk (st.ma.mpr ⟨_,h1⟩)
  rw [h2] at e';cases e'
 refine ⟨hd,hv,⟨by rw [zdK hd,List.length_map,hv],fun j x v e1 e2=>?_,fun j j' a h1 h2=>?_,rel.cst⟩⟩
 ·rw [zcb hd] at e1
  cases em:ms[j]? with
  | none=>rw [em] at e1;cases e1
  | some m =>
   cases ed:ds[j]? with
   | none=>rw [em,ed] at e1;cases e1
   | some d =>
    rw [em,ed] at e1
    rw [<- hm,List.getElem?_map] at em
    cases el:l[j]? with
    | none=>rw [el] at em;cases em
    | some z =>
     rw [el] at em
     obtain ⟨u,eu,es⟩:=v2 j z el
     obtain ⟨d',ed',em'⟩:=d2 j z el
     rw [ed] at ed'
     cases ed'
     rw [List.getElem?_map,eu] at e2
     cases e2
     cases z with
     | vd dz =>
      cases em
      cases e1
      cases em'
      exact es
     | mi i =>
      cases em
      cases e1
      obtain ⟨q,eq⟩:=zh0 em'
      have o:=rel.ok i _ _ eq es
      show zvE K H (.ow true d) (some u)
      cases u with
      | ref a=>exact o
      | _=>exact o.elim
     | td dz =>
      cases em
      cases e1
      cases em'
      obtain ⟨b,rfl,mb,_⟩:=es
      exact mb
 ·rcases zgC rel it hi hm hd h1 with ⟨i,e1,a1⟩ | ⟨d,e1,a1⟩
  ·rcases zgC rel it hi hm hd h2 with ⟨i',e2,a2⟩ | ⟨d,e2,a2⟩
   ·have:=rel.sep i i' a a1 a2
    subst this
    exact ztC nd e1 e2
   ·exact (apart a1 a2).elim
  ·rcases zgC rel it hi hm hd h2 with ⟨i',e2,a2⟩ | ⟨d,e2,a2⟩
   ·exact (apart a2 a1).elim
   ·exact zto ct e1 e2
theorem zrr (r0:Rel K ρ0 σ H0) (st:Stp ρ0 ρ σ H0 H) (rel:Rel K ρ σ H) (it:zla K σ H0 H l vs) (hi:zkY ρ l=.ok ds) (hm:l.map isR=ms) (hd:ds.length=ms.length) (ho:os.length=ms.length) (ra:Rel K (slots ms os) (vs.map some) H') (hC:∀ a o,H a=some o->¬ MA (slots ms ds) (vs.map some) a->H' a=some o) :
  Rel K (zmf ρ l os) σ H'/\Stp ρ0 (zmf ρ l os) σ H0 H':=by
 obtain ⟨v1,v2⟩:=it.get
 obtain ⟨d1,d2⟩:=zeB hi
 have hl:ms.length=l.length:=by rw [<- hm,List.length_map]
 have apart:∀ {i:Nat} {a:Addr},At ρ σ i a->H0 a=none->False:=fun h1 h2=>by
  obtain ⟨o',e',_⟩:=r0.zbk (st.ma.mpr ⟨_,h1⟩)
  rw [h2] at e';cases e'
 have kp0:∀ a o,H0 a=some o->¬ MA ρ0 σ a->H' a=some o:=fun a o e n=>hC a o (st.kp a o e n) fun ⟨j,h⟩=>by
  rcases zgC rel it hi hm hd h with ⟨i,_,a1⟩ | ⟨d,_,a1⟩
  ·exact n (st.ma.mpr ⟨i,a1⟩)
  ·rw [e] at a1;cases a1
 have fz:Fzn H H':=fun a o e sy=>hC a o e fun ⟨j,h⟩=>by
  obtain ⟨⟨p,d,e1⟩,e2⟩:=id h
  obtain ⟨rfl,em,ed⟩:=zew hd e1
  rcases zgC rel it hi hm hd h with ⟨i,_,a1⟩ | ⟨d,el,a1⟩
  ·obtain ⟨o',e',ow⟩:=rel.zbk ⟨i,a1⟩
   rw [e] at e'
   cases e'
   exact ow.zdB sy
  ·obtain ⟨v,ev,b,eb,mb,_⟩:=v2 j _ el
   rw [List.getElem?_map,ev] at e2
   cases e2
   cases eb
   obtain ⟨o',e',ow⟩:=mb.own
   rw [e] at e'
   cases e'
   exact ow.zdB sy
 have key:=zwD (H:=H) (H':=H') (m:=zj5 l os) rel (fun i c e a at0=>by
  obtain ⟨j,d,e1,e2,rfl⟩:=zdn e
  obtain ⟨v,ev,es⟩:=v2 j _ e1
  replace es:σ[i]?=some (some v):=es
  rw [at0.2] at es
  cases es
  refine ⟨true,d,rfl,?_⟩
  have em:ms[j]?=some true:=by rw [<- hm,List.getElem?_map,e1];rfl
  exact ra.ok j (.ow true d) (some (.ref a)) (by rw [zcb ho,em,e2];rfl) (by rw [List.getElem?_map,ev];rfl)) (fun i a at0 e=>by
  obtain ⟨u,hu,_⟩:=rel.zbk ⟨i,at0⟩
  rw [hu]
  refine hC a u hu fun ⟨j,h⟩=>?_
  rcases zgC rel it hi hm hd h with ⟨i',el,a1⟩ | ⟨d,_,a1⟩
  ·have:=rel.sep i i' a at0 a1
   subst this
   have hj:j < os.length:=by rw [ho,hl];exact (List.getElem?_eq_some_iff.mp el).1
   obtain ⟨c,ec⟩:=zhx el (List.getElem?_eq_getElem hj)
   rw [ec] at e
   cases e
  ·exact apart at0 a1) fz
 exact ⟨key.1,⟨fun i p=>(st.md i p).trans (key.2 i p),kp0⟩⟩
end
section
variable {K:PySem.W.Frag} {X:Cx} {k j:Nat} {ps:List Str} {E:XK} {x:Str} {p pos:Pos} {e:Expr} {es:List Expr} {F:List D->R (D × List D)} {a:List Ar}
def zvQ (F:List D->R (D × List D)) (n:Nat):Prop:=∀ ds y,F ds=.ok y->y.2.length=n
theorem znU {ms:List Bool} {fr:Bool} {m:Nat} {b:SF}:zvQ (run ms fr m b) ms.length:=fun ds y h=>by
 unfold run at h
 split at h
 ·rename_i hd
  obtain ⟨z,_,h⟩:=zau h
  obtain ⟨fl,ρ⟩:=z
  cases fr with
  | false =>
   cases fl with
   | rt d=>cases h;exact zfH hd
   | nx=>cases h;exact zfH hd
   | _=>cases h
  | true =>
   cases fl with
   | rf d=>cases h;exact zfH hd
   | _=>cases h
 ·cases h
theorem zyV {fr:Bool} (ho:zvQ F (arM a).length) (nd:(arI a).Nodup) (ct:arT a<=1) (σ:L2.St) (H:Hp) (Q:VK) (ρ:En) (rel:Rel K ρ σ H)
  (q:Good K ρ σ H (zam F a ρ) fun d ρ' H'=>∀ v,(if fr=true then ∃ a,v=.ref a/\H a=none/\zbV K H' a d else Fz K H' d v)->Q v H'):zua (spF K (arM a) fr F) [] E (tAr K a) σ H Q:=by
 obtain ⟨y,ey,q0⟩:=q.bnd
 obtain ⟨h1,h2,h3⟩:=zeC ey
 refine ⟨ρ,rel,?_⟩
 rw [ey]
 intro H1 rel1 st1 vs it
 obtain ⟨ds,ed,q1⟩:=q0.ziB
 obtain ⟨z,ez,q2⟩:=q1.ziB
 obtain ⟨hd,hv,ra⟩:=ztb rel st1 rel1 it ed h1 (by rw [h2];exact nd) (by rw [h3];exact ct)
 rw [List.append_nil]
 refine ⟨ds,hv,hd,ra,z.1,z.2,ez,fun v H' rb kp fin=>?_⟩
 obtain ⟨r2,s2⟩:=zrr rel st1 rel1 it ed h1 hd (ho ds z ez) rb kp
 refine q2 H' r2 s2 v ?_
 cases fr with
 | false=>exact fin
 | true =>
  obtain ⟨ad,rfl,ha,m⟩:=fin
  exact ⟨ad,rfl,st1.old rel1 ha,m⟩
theorem zr7 (c:Callee X.prog X.w X.K X.mg X.base x k ps (spF X.K (arM a) false F)) (ho:zvQ F (arM a).length) (nd:(arI a).Nodup) (ct:arT a<=1) (hr:zcZ j X.A) (hg:Gl X x) (hx:Passes (CXe X.prog X.w) X E) (ha:zry K X (e :: es) a) (hj:k<=j:=by decide) (hdb:(x == ("__debug__":Str))=false:=by decide)
  (he:starEach (e :: es) X.env=(false,eval e X.env) :: starEach es X.env:=by rfl) (hpl:(backTo pos (starEach es X.env)).any (·.1)=false:=by rfl):PV K X (.Call (.Name x p) (e :: es) [] pos) (zam F a):=fun hK=>by
 subst hK
 refine (zfG c hr hg hx (ha rfl) hj hdb he hpl).weak fun σ H Q=>?_
 rintro ⟨ρ,rel,q⟩
 exact zyV (fr:=false) ho nd ct σ H Q ρ rel q
theorem zp3 (c:Callee X.prog X.w X.K X.mg X.base x k ps (spF X.K (arM a) true F)) (ho:zvQ F (arM a).length) (nd:(arI a).Nodup) (ct:arT a<=1) (hr:zcZ j X.A) (hg:Gl X x) (hx:Passes (CXe X.prog X.w) X E) (ha:zry K X (e :: es) a) (hj:k<=j:=by decide) (hdb:(x == ("__debug__":Str))=false:=by decide)
  (he:starEach (e :: es) X.env=(false,eval e X.env) :: starEach es X.env:=by rfl) (hpl:(backTo pos (starEach es X.env)).any (·.1)=false:=by rfl):PVN K X (.Call (.Name x p) (e :: es) [] pos) (zam F a):=fun hK=>by
 subst hK
 refine (zfG c hr hg hx (ha rfl) hj hdb he hpl).weak fun σ H Q=>?_
 rintro ⟨ρ,rel,q⟩
 refine zyV (fr:=true) ho nd ct σ H Q ρ rel ?_
 cases e0:zam F a ρ with
 | ok y =>
  rw [e0] at q
  exact fun H' r s v ⟨ad,hv,ha,m⟩=>by subst hv;exact q H' r s ad ha m
 | _=>rw [e0] at q;exact q.elim
end
end FL
namespace FL
open PySem L2 PySem.Spec
open PyProof.Rows hiding St
variable [Cs]
section
variable {K:PySem.W.Frag} {X:Cx} {st:Stmt} {s:SF} {e:Expr} {f h:EF} {pos:Pos}
theorem zvl {C:SC} {ρ:En} {σ:L2.St} {H:Hp} {i:Nat} {d:D} (rel:zeN K C ρ σ H) (e:ρ[i]?=some (.ow false d)):∃ a u,H a=some u/\Own u/\∀ o,zeN K C (ρ.set i (.val d)) σ (upd H a (.frz o u))/\Fzn H (upd H a (.frz o u)):=by
 obtain ⟨a,at0,m⟩:=rel.rel.zsv (d:=d) (show za1 ρ i=.ok d by unfold za1;rw [e])
 obtain ⟨u,e1,ow⟩:=m.own
 refine ⟨a,u,e1,ow,fun o=>?_⟩
 have hl:i < ρ.length:=(List.getElem?_eq_some_iff.mp e).1
 have hfr:=rel.own i a d e at0.2
 have fz:Fzn H (upd H a (.frz o u)):=fun b w e2 sy=>by
  rw [zax fun z=>by subst z;rw [e1] at e2;cases e2;exact ow.zdB sy]
  exact e2
 refine ⟨?_,fz⟩
 have fd:Fz K (upd H a (.frz o u)) d (.ref a):=by
  cases d with
  | list ds =>
   obtain ⟨vs,h1,h2⟩:=m
   rw [e1] at h1
   cases h1
   simp only [Fz]
   exact ⟨a,vs,rfl,.inl ⟨o,zao⟩,h2.mono fz⟩
  | dict kvs =>
   simp only [Fz]
   rcases m with ⟨kk,h1,h2⟩ | ⟨kk,h1,h2⟩
   ·rw [e1] at h1
    cases h1
    exact ⟨a,o,rfl,.inl ⟨kk,zao,h2.mono fz⟩⟩
   ·rw [e1] at h1
    cases h1
    exact ⟨a,o,rfl,.inr ⟨kk,zao,h2.mono fz⟩⟩
  | _=>exact m.elim
 have atw:∀ j b,At (ρ.set i (.val d)) σ j b->j ≠ i/\At ρ σ j b:=fun j b ⟨⟨q,dd,e1⟩,e2⟩=>by
  by_cases c:i=j
  ·subst c
   rw [List.getElem?_set_self hl] at e1;cases e1
  ·rw [List.getElem?_set_ne c] at e1
   exact ⟨fun z=>c z.symm,⟨q,dd,e1⟩,e2⟩
 refine ⟨⟨by rw [List.length_set];exact rel.rel.len,fun j y w e2 e3=>?_,fun j k b h1 h2=>rel.rel.sep j k b (atw j b h1).2 (atw k b h2).2,rel.rel.cst.mono fz⟩,fun b w e2 n=>?_,fun j b c e2 e3=>?_,fun j=>?_,fun j c e2=>?_,rel.prm⟩
 ·by_cases c:i=j
  ·subst c
   rw [List.getElem?_set_self hl] at e2
   cases e2
   rw [at0.2] at e3
   cases e3
   exact fd
  ·rw [List.getElem?_set_ne c] at e2
   refine (rel.rel.ok j y w e2 e3).mono fz fun b e4 ⟨p,dd,e5⟩=>?_
   subst e4;subst e5
   refine zax fun z=>?_
   subst z
   exact c (rel.rel.sep i j b at0 ⟨⟨p,dd,e2⟩,e3⟩)
 ·rw [zax fun z=>by subst z;rw [hfr] at e2;cases e2]
  exact rel.keep b w e2 n
 ·by_cases c:i=j
  ·subst c
   rw [List.getElem?_set_self hl] at e2;cases e2
  ·rw [List.getElem?_set_ne c] at e2
   exact rel.own j b _ e2 e3
 ·by_cases c:i=j
  ·subst c
   rw [List.getElem?_set_self hl,<- rel.pin i,e]
   constructor
   ·rintro ⟨_,z⟩;cases z
   ·rintro ⟨_,z⟩;cases z
  ·rw [List.getElem?_set_ne c];exact rel.pin j
 ·by_cases k:i=j
  ·subst k
   rw [List.getElem?_set_self hl] at e2;cases e2
  ·rw [List.getElem?_set_ne k] at e2
   exact rel.fix j c e2
theorem zhm (i:Nat) (hh:PSV K X st s):PSV K X st (zeI i s):=fun hK C=>by
 have h1:PS X st (fun Dn σ H=>tS K C s { Dn with nx:=fun σ H=>∃ a u,H a=some u/\Own u/\∀ o,Dn.nx σ (upd H a (.frz o u)) } σ H):=fun pins sh σ H Dn I q=>by
  refine thn (hh hK C pins sh σ H _ I q) fun fl s1 z=>?_
  cases fl with
  | next =>
   obtain ⟨σ',H',I',a,u,e,ow,q⟩:=z
   obtain ⟨o,ho⟩:=(I'.hok a u e).some
   exact ⟨σ',_,zyx I' e ow ho,q o⟩
  | brk=>exact z
  | cont=>exact z
  | ret v=>exact z
 refine h1.weak fun Dn σ H=>?_
 rintro ⟨ρ,rel,g⟩
 refine ⟨ρ,rel,?_⟩
 obtain ⟨x,ex,g1⟩:=g.bnd
 rw [ex]
 obtain ⟨fl,ρ1⟩:=x
 cases fl with
 | nx =>
  replace g1:zcJ K C H (match ρ1[i]? with | some (.ow false d)=>.ok (.nx,ρ1.set i (.val d)) | _=>.bad) Dn:=g1
  cases e:ρ1[i]? with
  | none=>rw [e] at g1;exact g1.elim
  | some y =>
   rw [e] at g1
   cases y with
   | ow p d =>
    cases p with
    | true=>exact g1.elim
    | false =>
     intro σ' H' r z
     obtain ⟨a,u,e1,ow,k⟩:=zvl r e
     exact ⟨a,u,e1,ow,fun o=>g1 σ' _ (k o).1 (z.trans (k o).2)⟩
   | _=>exact g1.elim
 | bk=>exact g1
 | ct=>exact g1
 | rt d=>exact g1
 | rf d=>exact g1
theorem zun {i j:Nat} {x y:Str} {a b:Expr} {px py pt:Pos} {kt k2 pt2} (hc:X.calm=true) (hN:X.N.Nodup) (hi:X.N[i]?=some x) (hj:X.N[j]?=some y) (hij:i ≠ j)
  (hx:X.env.scope.names.lookup x=some .local) (hy:X.env.scope.names.lookup y=some .local) (ha:PV K X a f) (hb:PV K X b h)
  (hw:swappedStores [.Tuple [.Name x px,.Name y py] kt pt] (.Tuple [a,b] k2 pt2) X.env=pure (some [x,y]))
  (hs:swapsWithSole [.Tuple [.Name x px,.Name y py] kt pt] (.Tuple [a,b] k2 pt2) pos.line X.env=pure false:=by rfl) (hs1:starEach [a,b] X.env=(false,eval a X.env) :: starEach [b] X.env:=by rfl) (hs2:starEach [b] X.env=(false,eval b X.env) :: starEach [] X.env:=by rfl) :
  PSV K X (.Assign [.Tuple [.Name x px,.Name y py] kt pt] (.Tuple [a,b] k2 pt2) pos) (zi6 i j f h):=fun hK C=>(zwl hc hN hi hj hij hx hy (zdZ (ha hK) (zdZ (hb hK) zls hs2) hs1) hw hs).weak fun Dn σ H=>by
 rintro ⟨ρ,rel,g⟩
 refine zsK rel g fun d ρ1 v H1 rel1 st1 fz g1=>zsK rel1 g1 fun d2 ρ2 v2 H2 rel2 st2 fz2 g2=>?_
 obtain ⟨ρ3,e3,g3⟩:=g2.bnd
 obtain ⟨ρ4,e4,g4⟩:=g3.bnd
 obtain ⟨rfl,n1,l1⟩:=zoe e3
 obtain ⟨rfl,n2,l2⟩:=zoe e4
 have f1:=fz.mono (st2.fzn rel1.rel)
 have r3:=rel2.chg (rel2.rel.set (i:=i) (x:=.val d) (v:=some v) f1 fun _ _ _ z=>nomatch z) (zkS n1 l1)
 have r4:=r3.chg (r3.rel.set (i:=j) (x:=.val d2) (v:=some v2) fz2 fun _ _ _ z=>nomatch z) (zkS n2 l2)
 exact ⟨v,v2,rfl,g4 _ H2 r4 (Fzn.refl _)⟩
theorem zus {a b:Expr} {pl:Pos} (ha:PV K X a f) (hb:PV K X b h) (hs:starEach [a] X.env=(false,eval a X.env) :: starEach [] X.env:=by rfl):PVN K X (.BinOp (.List [a] pl) .Mult b pos) (zxV f h):=fun hK=>(zww zwF (ztx (zdZ (ha hK) zls hs)) (hb hK)).weak fun σ H Q=>by
 rintro ⟨ρ,rel,q⟩
 refine goV rel q fun dx ρ1 x H1 rel1 st1 fx q1=>⟨by show 1<=sizeLine;rw [sizeLine_eq];decide,fun l hl=>?_⟩
 have s0:zbr H1 (upd H1 l (.lst [x])):=zbr.upd hl
 have nma:¬ MA ρ1 σ l:=fun z=>by
  obtain ⟨o',e',_⟩:=rel1.zbk z
  rw [hl] at e';cases e'
 refine goV (rel1.same s0) (q1.step (.of s0)) fun dy ρ2 y H2 rel2 st2 fy q2=>?_
 have hl2:H2 l=some (.lst [x]):=st2.kp l _ zao nma
 cases dy with
 | int k =>
  obtain ⟨c,q3⟩:=Good.chk (c:=decide (0<=k) && leB k.toNat 1000000) q2
  simp only [Fz] at fy
  subst fy
  simp only [Bool.and_eq_true,decide_eq_true_eq,leB_iff] at c
  have el:∀ {α:Type} (z:α) (n:Nat),(List.replicate n [z]).flatten=List.replicate n z:=fun z n=>by
   induction n with
   | zero=>rfl
   | succ n ih=>rw [List.replicate_succ,List.flatten_cons,ih];rfl
  refine ⟨l,k,[x],rfl,rfl,hl2,by omega,by omega,?_,fun p hp=>?_⟩
  ·rw [sizeLine_eq,List.length_singleton];omega
  ·rw [el]
   have s2:zbr H2 (upd H2 p (.lst (List.replicate k.toNat x))):=zbr.upd hp
   have fx2:Fz K (upd H2 p (.lst (List.replicate k.toNat x))) dx x:=((fx.mono (Fzn.of s0)).mono (st2.fzn (rel1.same s0))).mono (Fzn.of s2)
   refine q3.new rel2 s2 p ?_ ⟨_,zao,?_⟩
   ·cases e0:H p with
    | none=>rfl
    | some o =>
     by_cases mm:MA ρ σ p
     ·obtain ⟨o',e',_⟩:=rel2.zbk (st2.ma.mp (st1.ma.mp mm))
      rw [hp] at e';cases e'
     ·have e1:=s0 p o (st1.kp p o e0 mm)
      rw [st2.kp p o e1 fun z=>mm (st1.ma.mpr z)] at hp;cases hp
   ·have:∀ n:Nat,zaj K (upd H2 p (.lst (List.replicate k.toNat x))) (List.replicate n dx) (List.replicate n x):=fun n=>by
     induction n with
     | zero=>simp [zaj]
     | succ n ih=>rw [List.replicate_succ,List.replicate_succ];simp only [zaj];exact ⟨x,_,rfl,fx2,ih⟩
    exact this _
 | _=>exact q2.elim
theorem zr2 {elt tg iter:Expr} {ifs:List Expr} {scope:Scope} {it:IF} {g:GF} {t:TF} {dom:List Nat} {x0:Str} {pos' spos:Pos} (i0:Nat) (L:List Str) (ix:List Nat) (M:List Str) (hN:X.N.Nodup) (hii:X.N[i0]?=some x0) (hx0:X.env.scope.names.lookup x0=some .local)
  (hsw:swapsWith (.ListComp elt [⟨tg,iter,ifs,0⟩] scope pos) (some (.Name x0 pos')) spos.line X.env=pure true) (hc:X.calm=true) (hk:scope.kind=.function)
  (hd:zci X.env.scope scope X.N ix=true) (hM:M=L ++ ix.map fun i=>X.N.getD i "") (nd:ix.Nodup) (hi:PVI K X tg iter it)
  (hg:∀ C s₃ H₃ fp,PVG K (zap X M scope C s₃ H₃ fp) dom tg g) (hgo:dom.all (fun i=>decide (i < L.length))=true)
  (ht:∀ C s₃ H₃ fp,zt0 K (zap X M scope C s₃ H₃ fp) ifs t) (he:∀ C s₃ H₃ fp,PV K (zap X M scope C s₃ H₃ fp) elt f)
  (hs:∀ x,foldedSetIterable iter X.env x=pure x:=by intro _;rfl) :
  PSV K X (.Assign [.Name x0 pos'] (.ListComp elt [⟨tg,iter,ifs,0⟩] scope pos) spos) (zeJ i0 (zaz L.length ix it g t f)):=fun hK C =>
 (zuB i0 L ix M hN hii hx0 hsw hc hk hd hM (hi hK) (fun C s₃ H₃ fp=>hg C s₃ H₃ fp hK) (zkK hgo) (fun C s₃ H₃ fp=>ht C s₃ H₃ fp hK) (fun C s₃ H₃ fp=>he C s₃ H₃ fp hK) hs).weak fun Dn σ H q=>ztP nd hgo σ H _ (zxg Dn σ H q)
end
end FL
namespace FL
open PySem L2 PySem.Spec
open PyProof.Rows hiding St
variable [Cs]
structure Blt (mg:Str->Option Value):Prop where
 zoW:mg "abs"=none
 zaB:mg "isinstance"=none
 zmO:mg "int"=none
 zlz:mg "bool"=none
 zgi:mg "tuple"=none
 zgN:mg "list"=none
 zwS:mg "str"=none
 zeK:mg "len"=none
 zqn:mg "all"=none
 zbo:mg "range"=none
 zly:mg "zip"=none
 zcB:mg "enumerate"=none
 zwU:mg "max"=none
 zwT:mg "min"=none
 zwR:mg "sum"=none
 zkw:mg "sorted"=none
 ztA:mg "dict"=none
 zwV:mg "any"=none
namespace Bt
theorem abs:bootBuiltins "abs"=some (.builtin "abs"):=by decide +kernel
theorem len:bootBuiltins "len"=some (.builtin "len"):=by decide +kernel
theorem all:bootBuiltins "all"=some (.builtin "all"):=by decide +kernel
theorem sorted:bootBuiltins "sorted"=some (.builtin "sorted"):=by decide +kernel
theorem int:bootBuiltins "int"=some (.type "int"):=by decide +kernel
theorem bool:bootBuiltins "bool"=some (.type "bool"):=by decide +kernel
theorem tuple:bootBuiltins "tuple"=some (.type "tuple"):=by decide +kernel
theorem list:bootBuiltins "list"=some (.type "list"):=by decide +kernel
end Bt
theorem zpZ {K:PySem.W.Frag} {X:Cx} {st:List Stmt} {f:SF} (h:zmB K X.nox st f):zmB K X st f:=fun hK C=>PSs.nox (h hK C)
theorem zw0 {K:PySem.W.Frag} {G:List D->R D} {H:Hp} {a:Addr} {ns:List Int} (h:G [.list (ns.map PyData.int)]=.ok (.bool true)) (hO:∀ b xs,H b ≠ some (.lst xs)) (hC:zvI H) (hS:SqL K H a (ns.map V.int)):spP K 1 false G [.ref a] H (fun v _=>v=.bl true) fun _ _ _=>False:=by
 refine ⟨[.list (ns.map PyData.int)],rfl,hC,?_,.bool true,h,fun v H' _ fz=>by simpa [Fz] using fz⟩
 simp only [zaj,Fz]
 refine ⟨.ref a,[],rfl,⟨a,ns.map V.int,rfl,?_,zaj.ofInts ns⟩,rfl⟩
 rcases hS with (hS | ⟨o,hS⟩) | hS
 ·exact absurd hS (hO a _)
 ·exact .inl ⟨o,hS⟩
 ·exact .inr hS
end FL
namespace FL
open PySem L2 PySem.Spec
open PyProof.Rows hiding St
variable [Cs]
end FL
namespace FL
open PySem L2 PySem.Spec
open PyProof.Rows hiding St
variable [Cs]
theorem zqk {α:Type} {o:Option α} {a:α} (h:R.of o=.ok a):o=some a:=by
 cases o with
 | none=>cases h
 | some b=>cases h;rfl
theorem zw8 (k:Key):kOf (kD k)=some k:=by cases k <;> rfl
theorem zqx:∀ ks:List Key,zu0 (ks.map kD)=some ks
 | []=>rfl
 | k :: r=>by simp only [List.map_cons,zu0,zw8,Option.bind_some,zqx r,Option.map_some]
theorem zgm (q:List Key):keyOf (zrK q)=some (.inl q):=by simp only [zrK,keyOf,zqx,Option.map_some]
theorem zgn (q:Key):keyOf (kD q)=some (.inr q):=by cases q <;> rfl
theorem zu3 {d:D} {k:Key} (h:kOf d=some k):d=kD k:=by
 cases d with
 | int i=>cases h;rfl
 | str i=>cases h;rfl
 | _=>cases h
theorem zn8:∀ {ds:List D} {ks:List Key},zu0 ds=some ks->ds=ks.map kD
 | [],ks,h=>by simp only [zu0,Option.some.injEq] at h;subst h;rfl
 | d :: r,ks,h=>by
  simp only [zu0,Option.bind_eq_some_iff,Option.map_eq_some_iff] at h
  obtain ⟨k,e,ks',e',rfl⟩:=h
  rw [zu3 e,zn8 e'];rfl
section
variable {K:PySem.W.Frag} {H H':Hp}
theorem zvk {k:Key}:Fz K H (kD k) (kV k):=by cases k <;> simp [kD,kV,Fz]
theorem zyt {k:Key} {v:V} (h:Fz K H (kD k) v):v=kV k:=by cases k <;> simpa [kD,kV,Fz] using h
theorem zog:∀ ks:List Key,zaj K H (ks.map kD) (ks.map kV)
 | []=>by simp [zaj]
 | k :: r=>by simp only [List.map_cons,zaj];exact ⟨_,_,rfl,zvk,zog r⟩
theorem ztM:∀ {ks:List Key} {vs:List V},zaj K H (ks.map kD) vs->vs=ks.map kV
 | [],vs,h=>by simpa [zaj] using h
 | k :: r,vs,h=>by
  simp only [List.map_cons,zaj] at h
  obtain ⟨v,t,rfl,h1,h2⟩:=h
  rw [zyt h1,ztM h2];rfl
theorem zqX {ks:List Key} {b:Addr} (h:TAt H b (ks.map kV)):Fz K H (zrK ks) (.ref b):=by
 simp only [zrK,Fz]
 exact ⟨b,_,rfl,h,zog ks⟩
theorem znz {k:D} {v:V} {q:KQ} (f:Tp K H k v) (e:keyOf k=some q):(∃ ks b,q=.inl ks/\k=zrK ks/\v=.ref b/\TAt H b (ks.map kV))\/∃ k1,q=.inr k1/\k=kD k1/\v=kV k1:=by
 cases k with
 | tuple xs =>
  simp only [keyOf,Option.map_eq_some_iff] at e
  obtain ⟨ks,e1,rfl⟩:=e
  have:=zn8 e1
  subst this
  obtain ⟨b,vs,rfl,tb,fa⟩:=(show ∃ a vs,v=.ref a/\TAt H a vs/\zaj K H (ks.map kD) vs by simpa [Tp,Fz] using f)
  rw [ztM fa] at tb
  exact .inl ⟨ks,b,rfl,rfl,rfl,tb⟩
 | int i=>cases e;exact .inr ⟨.inl i,rfl,rfl,by simpa [Tp,Fz,kV] using f⟩
 | str i=>cases e;exact .inr ⟨.inr i,rfl,rfl,by simpa [Tp,Fz,kV] using f⟩
 | _=>cases e
theorem ztE:∀ {kvs:List (D × D)} {kk:List (List Key × V)},zcj K H kvs kk->∀ q:List Key,(look kvs (.inl q)=none/\zmw kk q=none)\/∃ d v,look kvs (.inl q)=some d/\zmw kk q=some v/\Fz K H d v
 | [],kk,h,q=>by simp only [zcj] at h;subst h;exact .inl ⟨rfl,rfl⟩
 | (k,d) :: r,kk,h,q=>by
  simp only [zcj] at h
  obtain ⟨q',v,t,rfl,rfl,f,h2⟩:=h
  by_cases c:q'=q
  ·subst c
   exact .inr ⟨d,v,by simp [look,List.find?_cons,zgm],zfu rfl,f⟩
  ·have e1:look ((zrK q',d) :: r) (.inl q)=look r (.inl q):=by simp [look,List.find?_cons,zgm,c]
   rw [e1,zfv (p:=(q',v)) c]
   exact ztE h2 q
theorem ztF:∀ {kvs:List (D × D)} {kk:List (Key × V)},zck K H kvs kk->∀ q:Key,(look kvs (.inr q)=none/\zmw kk q=none)\/∃ d v,look kvs (.inr q)=some d/\zmw kk q=some v/\Fz K H d v
 | [],kk,h,q=>by simp only [zck] at h;subst h;exact .inl ⟨rfl,rfl⟩
 | (k,d) :: r,kk,h,q=>by
  simp only [zck] at h
  obtain ⟨q',v,t,rfl,rfl,f,h2⟩:=h
  by_cases c:q'=q
  ·subst c
   exact .inr ⟨d,v,by simp [look,List.find?_cons,zgn],zfu rfl,f⟩
  ·have e1:look ((kD q',d) :: r) (.inr q)=look r (.inr q):=by simp [look,List.find?_cons,zgn,c]
   rw [e1,zfv (p:=(q',v)) c]
   exact ztF h2 q
theorem ztK {kvs:List (D × D)} {kk:List (List Key × V)} (h:zcj K H kvs kk) (c:keysOk false kvs=true):kvs=[]/\kk=[]:=by
 cases kvs with
 | nil=>simp only [zcj] at h;exact ⟨rfl,h⟩
 | cons p r =>
  obtain ⟨k,d⟩:=p
  simp only [zcj] at h
  obtain ⟨q',v,t,rfl,rfl,f,h2⟩:=h
  simp [keysOk,zgm,form] at c
theorem ztL {kvs:List (D × D)} {kk:List (Key × V)} (h:zck K H kvs kk) (c:keysOk true kvs=true):kvs=[]/\kk=[]:=by
 cases kvs with
 | nil=>simp only [zck] at h;exact ⟨rfl,h⟩
 | cons p r =>
  obtain ⟨k,d⟩:=p
  simp only [zck] at h
  obtain ⟨q',v,t,rfl,rfl,f,h2⟩:=h
  simp [keysOk,zgn,form] at c
theorem zjT {d k:D} {x:List (D × D) × KQ} (h:dictAt d k=.ok x):d=.dict x.1/\keyOf k=some x.2/\keysOk (form x.2) x.1=true:=by
 cases d with
 | dict kvs =>
  obtain ⟨q,e1,h⟩:=zau (show (R.of (keyOf k)).bind _=.ok x from h)
  obtain ⟨c,h⟩:=zb6 h
  cases h
  exact ⟨rfl,zqk e1,c⟩
 | _=>cases h
theorem zxA {d k:D} {x y:V} {o:Option D} (t:Tp K H d x) (f:Tp K H k y) (e:zin d k=.ok o) :
  ∃ a r,x=.ref a/\IsD H a/\DG H a y r/\((o=none/\r=none)\/∃ d v,o=some d/\r=some v/\Fz K H d v):=by
 obtain ⟨⟨kvs,q⟩,e1,e⟩:=zau (show (dictAt d k).bind _=.ok o from e)
 cases e
 obtain ⟨rfl,ek,c⟩:=zjT e1
 obtain ⟨a,ea,tt⟩:=(show ∃ a,x=.ref a/\((∃ kk,Rd H a (.dT kk)/\zcj K H kvs kk)\/∃ kk,Rd H a (.dK kk)/\zck K H kvs kk) from t)
 subst ea
 rcases tt with ⟨kk,rd,h⟩ | ⟨kk,rd,h⟩
 ·refine ⟨a,?_⟩
  rcases znz f ek with ⟨ks,b,rfl,rfl,rfl,tb⟩ | ⟨k1,rfl,rfl,rfl⟩
  ·refine ⟨zmw kk ks,rfl,.inr ⟨kk,rd⟩,.inl (.inr ⟨kk,ks,b,rd,rfl,tb,rfl⟩),?_⟩
   rcases ztE h ks with ⟨z1,z2⟩ | ⟨d,v,z1,z2,z3⟩
   ·exact .inl ⟨z1,z2⟩
   ·exact .inr ⟨d,v,z1,z2,z3⟩
  ·obtain ⟨rfl,rfl⟩:=ztK h c
   exact ⟨none,rfl,.inr ⟨[],rd⟩,.inr (.inr ⟨rfl,rd,k1,rfl⟩),.inl ⟨rfl,rfl⟩⟩
 ·refine ⟨a,?_⟩
  rcases znz f ek with ⟨ks,b,rfl,rfl,rfl,tb⟩ | ⟨k1,rfl,rfl,rfl⟩
  ·obtain ⟨rfl,rfl⟩:=ztL h c
   exact ⟨none,rfl,.inl ⟨[],rd⟩,.inr (.inl ⟨rfl,rd,b,ks,rfl,tb⟩),.inl ⟨rfl,rfl⟩⟩
  ·refine ⟨zmw kk k1,rfl,.inl ⟨kk,rd⟩,.inl (.inl ⟨kk,k1,rd,rfl,rfl⟩),?_⟩
   rcases ztF h k1 with ⟨z1,z2⟩ | ⟨d,v,z1,z2,z3⟩
   ·exact .inl ⟨z1,z2⟩
   ·exact .inr ⟨d,v,z1,z2,z3⟩
theorem zxJ:∀ {kvs:List (D × D)} {kk:List (List Key × V)},zcj K H kvs kk->∀ q:List Key,(kvs.any fun kv=>decide (keyOf kv.1=some (.inl q)))=kk.any fun kv=>decide (kv.1=q)
 | [],kk,h,q=>by simp only [zcj] at h;subst h;rfl
 | (k,d) :: r,kk,h,q=>by
  simp only [zcj] at h
  obtain ⟨q',v,t,rfl,rfl,f,h2⟩:=h
  simp only [List.any_cons,zxJ h2 q,zgm,Option.some.injEq,Sum.inl.injEq]
theorem zxK:∀ {kvs:List (D × D)} {kk:List (Key × V)},zck K H kvs kk->∀ q:Key,(kvs.any fun kv=>decide (keyOf kv.1=some (.inr q)))=kk.any fun kv=>decide (kv.1=q)
 | [],kk,h,q=>by simp only [zck] at h;subst h;rfl
 | (k,d) :: r,kk,h,q=>by
  simp only [zck] at h
  obtain ⟨q',v,t,rfl,rfl,f,h2⟩:=h
  simp only [List.any_cons,zxK h2 q,zgn,Option.some.injEq,Sum.inr.injEq]
theorem zv8 {d:D} {v:V} (f:Fz K H d v):∀ {kvs:List (D × D)} {kk:List (List Key × V)},zcj K H kvs kk->∀ q:List Key,zcj K H (kvs.map fun kv=>if keyOf kv.1=some (.inl q) then (kv.1,d) else kv) (kk.map fun kv=>if kv.1=q then (kv.1,v) else kv)
 | [],kk,h,q=>by simp only [zcj] at h;subst h;simp [zcj]
 | (k,d0) :: r,kk,h,q=>by
  simp only [zcj] at h
  obtain ⟨q',v0,t,rfl,rfl,f0,h2⟩:=h
  have ih:=zv8 f h2 q
  by_cases c:q'=q
  ·subst c
   simp only [List.map_cons,zgm,if_true,zcj]
   exact ⟨q',v,_,rfl,rfl,f,ih⟩
  ·simp only [List.map_cons,zgm,Option.some.injEq,Sum.inl.injEq,if_neg c,zcj]
   exact ⟨q',v0,_,rfl,rfl,f0,ih⟩
theorem zv9 {d:D} {v:V} (f:Fz K H d v):∀ {kvs:List (D × D)} {kk:List (Key × V)},zck K H kvs kk->∀ q:Key,zck K H (kvs.map fun kv=>if keyOf kv.1=some (.inr q) then (kv.1,d) else kv) (kk.map fun kv=>if kv.1=q then (kv.1,v) else kv)
 | [],kk,h,q=>by simp only [zck] at h;subst h;simp [zck]
 | (k,d0) :: r,kk,h,q=>by
  simp only [zck] at h
  obtain ⟨q',v0,t,rfl,rfl,f0,h2⟩:=h
  have ih:=zv9 f h2 q
  by_cases c:q'=q
  ·subst c
   simp only [List.map_cons,zgn,if_true,zck]
   exact ⟨q',v,_,rfl,rfl,f,ih⟩
  ·simp only [List.map_cons,zgn,Option.some.injEq,Sum.inr.injEq,if_neg c,zck]
   exact ⟨q',v0,_,rfl,rfl,f0,ih⟩
theorem zxH {d:D} {v:V} (f:Fz K H d v) (q:List Key):∀ {kvs:List (D × D)} {kk:List (List Key × V)},zcj K H kvs kk->zcj K H (kvs ++ [(zrK q,d)]) (kk ++ [(q,v)])
 | [],kk,h=>by simp only [zcj] at h;subst h;simp only [List.nil_append,zcj];exact ⟨q,v,[],rfl,rfl,f,rfl⟩
 | (k,d0) :: r,kk,h=>by
  simp only [zcj] at h
  obtain ⟨q',v0,t,rfl,rfl,f0,h2⟩:=h
  simp only [List.cons_append,zcj]
  exact ⟨q',v0,_,rfl,rfl,f0,zxH f q h2⟩
theorem zxI {d:D} {v:V} (f:Fz K H d v) (q:Key):∀ {kvs:List (D × D)} {kk:List (Key × V)},zck K H kvs kk->zck K H (kvs ++ [(kD q,d)]) (kk ++ [(q,v)])
 | [],kk,h=>by simp only [zck] at h;subst h;simp only [List.nil_append,zck];exact ⟨q,v,[],rfl,rfl,f,rfl⟩
 | (k,d0) :: r,kk,h=>by
  simp only [zck] at h
  obtain ⟨q',v0,t,rfl,rfl,f0,h2⟩:=h
  simp only [List.cons_append,zck]
  exact ⟨q',v0,_,rfl,rfl,f0,zxI f q h2⟩
theorem zyd {d:D} {v:V} {kvs:List (D × D)} {kk:List (List Key × V)} (h:zcj K H kvs kk) (f:Fz K H d v) (q:List Key):zcj K H (ztt kvs (zrK q) (.inl q) d) (putK kk q v):=by
 unfold ztt putK
 rw [zxJ h q]
 split
 ·exact zv8 f h q
 ·exact zxH f q h
theorem zye {d:D} {v:V} {kvs:List (D × D)} {kk:List (Key × V)} (h:zck K H kvs kk) (f:Fz K H d v) (q:Key):zck K H (ztt kvs (kD q) (.inr q) d) (putK kk q v):=by
 unfold ztt putK
 rw [zxK h q]
 split
 ·exact zv9 f h q
 ·exact zxI f q h
theorem zcj.len:∀ {kvs:List (D × D)} {kk:List (List Key × V)},zcj K H kvs kk->kk.length=kvs.length
 | [],kk,h=>by simp only [zcj] at h;subst h;rfl
 | (k,d0) :: r,kk,h=>by
  simp only [zcj] at h
  obtain ⟨q',v0,t,rfl,rfl,f0,h2⟩:=h
  simp [h2.len]
theorem zck.len:∀ {kvs:List (D × D)} {kk:List (Key × V)},zck K H kvs kk->kk.length=kvs.length
 | [],kk,h=>by simp only [zck] at h;subst h;rfl
 | (k,d0) :: r,kk,h=>by
  simp only [zck] at h
  obtain ⟨q',v0,t,rfl,rfl,f0,h2⟩:=h
  simp [h2.len]
theorem zqU {a:Addr} {u o:HO} (e:H a=some u) (ow:Own u):Fzn H (upd H a o):=fun b w eb st=>by
 rw [zax fun z=>by subst z;rw [e] at eb;cases eb;exact ow.zdB st]
 exact eb
theorem zxy {c k dv d':D} {a:Addr} {y v:V} (m:zbV K H a c) (f:Fz K H k y) (g:Fz K H dv v) (e:zq9 c k dv=.ok d'):∃ o,DP H a y v (upd H a o)/\zbV K (upd H a o) a d':=by
 obtain ⟨⟨kvs,q⟩,e1,e⟩:=zau (show (dictAt c k).bind _=.ok d' from e)
 obtain ⟨l,e⟩:=zb6 e
 cases e
 obtain ⟨rfl,ek,c⟩:=zjT e1
 have hl:kvs.length + 1<=sizeLine:=Nat.le_trans (zlE l) zde
 rcases (show (∃ kk,H a=some (.dT kk)/\zcj K H kvs kk)\/∃ kk,H a=some (.dK kk)/\zck K H kvs kk from m) with ⟨kk,rd,h⟩ | ⟨kk,rd,h⟩
 ·have fz:∀ o,Fzn H (upd H a o):=fun o=>zqU rd trivial
  rcases znz f.tp ek with ⟨ks,b,rfl,rfl,rfl,tb⟩ | ⟨k1,rfl,rfl,rfl⟩
  ·exact ⟨.dT (putK kk ks v),.inl (.inr ⟨kk,ks,b,rd,rfl,tb,by rw [h.len];omega,rfl⟩),.inl ⟨_,zao,(zyd h g ks).mono (fz _)⟩⟩
  ·obtain ⟨rfl,rfl⟩:=ztK h c
   exact ⟨.dK [(k1,v)],.inr (.inr ⟨k1,rd,rfl,rfl⟩),.inr ⟨_,zao,by
    simp only [ztt,List.any_nil,Bool.false_eq_true,if_false,List.nil_append,zck]
    exact ⟨k1,v,[],rfl,rfl,g.mono (fz _),rfl⟩⟩⟩
 ·have fz:∀ o,Fzn H (upd H a o):=fun o=>zqU rd trivial
  rcases znz f.tp ek with ⟨ks,b,rfl,rfl,rfl,tb⟩ | ⟨k1,rfl,rfl,rfl⟩
  ·obtain ⟨rfl,rfl⟩:=ztL h c
   exact ⟨.dT [(ks,v)],.inr (.inl ⟨ks,b,rd,rfl,tb,rfl⟩),.inl ⟨_,zao,by
    simp only [ztt,List.any_nil,Bool.false_eq_true,if_false,List.nil_append,zcj]
    exact ⟨ks,v,[],rfl,rfl,g.mono (fz _),rfl⟩⟩⟩
  ·exact ⟨.dK (putK kk k1 v),.inl (.inl ⟨kk,k1,rd,rfl,by rw [h.len];omega,rfl⟩),.inr ⟨_,zao,(zye h g k1).mono (fz _)⟩⟩
end
end FL
namespace FL
open PySem L2 PySem.Spec
open PyProof.Rows hiding St
variable [Cs]
section
variable {X:Cx}
theorem zuR (hu:X.A.units + 1 < cLine):OpR X (compareOp .NotIn) (rD X.K zvL):=by
 intro pins s σ H x y v u Q I rx ry h
 obtain ⟨dx,dy,d,tx,ty,e,q⟩:=h
 obtain ⟨o,e1,e⟩:=zau (show (zin dy dx).bind _=.ok d from e)
 cases e
 obtain ⟨a,r,rfl,_,g,rel⟩:=zxA ty tx e1
 cases ry
 have hb:o.isSome=r.isSome:=by
  rcases rel with ⟨rfl,rfl⟩ | ⟨_,_,rfl,rfl,_⟩ <;> rfl
 exact zsV hu I g rx fun s3 I3=>⟨.bl (!r.isSome),H,I3,rfl,q _ H (zbr.refl _) (by rw [hb];simp [Fz])⟩
theorem zu6 (hu:X.A.units + 1 < cLine):IxR X (rD X.K zjS):=by
 intro value slice pins s σ H x y v u Q I rx ry h hs
 obtain ⟨dx,dy,d,tx,ty,e,q⟩:=h
 obtain ⟨o,e1,e⟩:=zau (show (zin dx dy).bind _=.ok d from e)
 have eo:=zqk e
 subst eo
 obtain ⟨a,r,rfl,_,g,rel⟩:=zxA tx ty e1
 cases rx
 rcases rel with ⟨z,_⟩ | ⟨d',w,z,rfl,fz⟩
 ·cases z
 cases z
 rcases g with g | ⟨z,_⟩ | ⟨z,_⟩
 ·have hT:=znc I g
  have h2:wpAny (model X.prog X.w) X.A (getItem (.ref a) u) (EP X pins σ Q) X.xe s:=zrc hu I g ry fun w' s3 I3 rw'=>⟨w,H,I3,rw',q w H (zbr.refl _) fz⟩
  unfold subscriptTail
  refine wpAny_bind ?_
  rw [getitemInPython_of_ne hT.not_modules]
  refine wpAny_bind (wpAny_specialOf hT PySem.F.slot_dict_getitem.lookup ?_)
  have fin:wpAny (model X.prog X.w) X.A (subscripted slice false (.ref a) u) (fun r s₃=>wpAny (model X.prog X.w) X.A (letTemporaryGo value (.ref a) r >>= fun _=>pure r) (EP X pins σ Q) X.xe s₃) X.xe s:=by
   rw [hs]
   exact wpAny_operating (wpAny_mono h2 (fun r s₃ h₃=>wpAny_bind (wpAny_letTemporaryGo (wpAny_pure h₃))) fun _ _ x=>x)
  first
   | exact wpAny_pure (wpAny_bind fin)
   | exact wpAny_bind (wpAny_pure (wpAny_bind fin))
   | exact wpAny_bind fin
 ·cases z
 ·cases z
end
section
variable {K:PySem.W.Frag} {X:Cx} {o e e':Expr} {fd fk fx f:EF} {apos cpos pos:Pos}
theorem zr3 {y:Str} {py ps':Pos} {ke:Expr} {k:EF} (i:Nat) (hu:X.A.units + 1 < cLine) (ha:PE X (.Name y py) (zrJ i)) (he:PV K X e f) (hk:PV K X ke k)
  (hs:swapsWith e (some (.Subscript (.Name y py) ke ps')) pos.line X.env=pure false:=by rfl):PSV K X (.Assign [.Subscript (.Name y py) ke ps'] e pos) (zsW i k f):=fun hK C=>by
 subst hK
 refine (zuD hu ha (hk rfl) (he rfl) hs).weak fun Dn σ H=>?_
 rintro ⟨ρ,rel,g⟩
 refine zsK rel g fun dv ρ1 v H1 rel1 st1 fv g1=>?_
 obtain ⟨d,ed,g2⟩:=g1.bnd
 obtain ⟨a,at0,m0⟩:=rel1.rel.zsv ed
 refine ⟨.ref a,at0.2,zsK rel1 g2 fun dk ρ2 kv H2 rel2 st2 fk g3=>?_⟩
 obtain ⟨c,ec,g4⟩:=g3.bnd
 obtain ⟨d',ed',g5⟩:=g4.bnd
 obtain ⟨o,dp,mm⟩:=zxy (rel2.rel.again ec at0) fk (fv.mono (st2.fzn rel1.rel)) ed'
 obtain ⟨a2,at2,_⟩:=rel2.rel.zsv ec
 have:=at0.2.symm.trans at2.2
 cases this
 exact ⟨a,_,rfl,dp,zxf rel2 at2 mm g5⟩
theorem zp1:PVN K X (.Dict [] [] pos) zom:=fun hK=>zsk.weak fun σ H Q=>by
 rintro ⟨ρ,rel,q⟩ p hp
 exact q.new rel (zbr.upd hp) p hp (.inl ⟨[],zao,by simp [zcj]⟩)
theorem zwr {tg l:Expr} {tl:TE} (hl:PE X l tl):PI X tg l (fun σ H R=>tl σ H fun x H1=>∃ d o,x=.ref d/\((∃ kvs,H1 d=some (.frz o (.dT kvs))/\R (zyI d o kvs) H1)\/∃ kvs,H1 d=some (.frz o (.dK kvs))/\R (Itd d o kvs) H1)):=by
 intro pins s σ H R I h
 refine thn (hl pins s σ H _ I h) fun v s1 ⟨x,H1,I1,r1,q1⟩=>?_
 obtain ⟨d,o,e,q1⟩:=q1
 subst e
 cases r1
 rcases q1 with ⟨kvs,e,q⟩ | ⟨kvs,e,q⟩
 ·obtain ⟨e0,_,_,_,_,o',es,ep,e',_,dd,_⟩:=id (show zbJ X.prog X.w H1 s1.heap d (.frz o (.dT kvs)) from I1.hok d _ e)
  rw [e0] at e'
  cases e'
  obtain ⟨xs,kt,da,he,sy⟩:=zm8 (I1.hok d _ e) dd
  refine zxb sy da ?_
  refine ⟨s1.heap.objs.size,[s1.heap.objs.size],_,_,H1,rfl,I1.kept (t':=s1.toks) fun b o e=>Heap.get?_push_of_some _ e,zoJ d _ dd,⟨_,Heap.get?_push_size _ rfl,rfl,rfl⟩,fun b hb=>?_,q⟩
  have e:b=s1.heap.objs.size:=by simpa using hb
  subst e
  exact I1.zsN (Nat.le_refl _) (I1.hok.fresh (Nat.le_refl _))
 ·obtain ⟨e0,_,_,vs0,_,o',es,ep,e',_,dd,_⟩:=id (show zbJ X.prog X.w H1 s1.heap d (.frz o (.dK kvs)) from I1.hok d _ e)
  rw [e0] at e'
  cases e'
  obtain ⟨vs,kv,da,sy⟩:=zqZ (I1.hok d _ e) dd
  refine wpAny_pyIter_dict sy da ?_
  refine ⟨s1.heap.objs.size,[s1.heap.objs.size],_,_,H1,rfl,I1.kept (t':=s1.toks) fun b o e=>Heap.get?_push_of_some _ e,zpC d _ dd,⟨_,Heap.get?_push_size _ rfl,rfl,by rw [kv.len];rfl⟩,fun b hb=>?_,q⟩
  have e:b=s1.heap.objs.size:=by simpa using hb
  subst e
  exact I1.zsN (Nat.le_refl _) (I1.hok.fresh (Nat.le_refl _))
theorem zcj.at {H:Hp}:∀ {kvs:List (D × D)} {kk:List (List Key × V)} {i:Nat} {d:D},zcj K H kvs kk->(kvs.map (·.1))[i]?=some d->∃ q v,kk[i]?=some (q,v)/\d=zrK q
 | [],kk,i,d,h,e=>by simp at e
 | (k,d0) :: r,kk,i,d,h,e=>by
  simp only [zcj] at h
  obtain ⟨q',v0,t,rfl,rfl,f0,h2⟩:=h
  cases i with
  | zero=>simp at e;exact ⟨q',v0,rfl,e.symm⟩
  | succ i =>
   obtain ⟨q,v,z1,z2⟩:=zcj.at h2 (i:=i) (by simpa using e)
   exact ⟨q,v,by simpa using z1,z2⟩
theorem zck.at {H:Hp}:∀ {kvs:List (D × D)} {kk:List (Key × V)} {i:Nat} {d:D},zck K H kvs kk->(kvs.map (·.1))[i]?=some d->∃ q v,kk[i]?=some (q,v)/\d=kD q
 | [],kk,i,d,h,e=>by simp at e
 | (k,d0) :: r,kk,i,d,h,e=>by
  simp only [zck] at h
  obtain ⟨q',v0,t,rfl,rfl,f0,h2⟩:=h
  cases i with
  | zero=>simp at e;exact ⟨q',v0,rfl,e.symm⟩
  | succ i =>
   obtain ⟨q,v,z1,z2⟩:=zck.at h2 (i:=i) (by simpa using e)
   exact ⟨q,v,by simpa using z1,z2⟩
theorem zt2 {H:Hp} {a:Addr} {o:Obj} {kvs:List (D × D)} {kk:List (List Key × V)} (h:H a=some (.frz o (.dT kk))) (f:zcj K H kvs kk):Walk K (zyI a o kk) (kvs.map (·.1)) H:=by
 refine ⟨fun i d H' fz e=>?_,fun i H' fz e=>⟨fz _ _ h trivial,by rw [f.len];simpa using e⟩⟩
 obtain ⟨q,v,e1,rfl⟩:=f.at e
 refine ⟨⟨fz _ _ h trivial,(List.getElem?_eq_some_iff.mp e1).1⟩,fun x H'' y=>?_⟩
 obtain ⟨rfl,k,v',b,e2,rfl,tb⟩:=y
 rw [e1] at e2
 cases e2
 exact ⟨zbr.refl _,zqX tb⟩
theorem zt3 {H:Hp} {a:Addr} {o:Obj} {kvs:List (D × D)} {kk:List (Key × V)} (h:H a=some (.frz o (.dK kk))) (f:zck K H kvs kk):Walk K (Itd a o kk) (kvs.map (·.1)) H:=by
 refine ⟨fun i d H' fz e=>?_,fun i H' fz e=>⟨fz _ _ h trivial,by rw [f.len];simpa using e⟩⟩
 obtain ⟨q,v,e1,rfl⟩:=f.at e
 refine ⟨⟨fz _ _ h trivial,(List.getElem?_eq_some_iff.mp e1).1⟩,fun x H'' y=>?_⟩
 obtain ⟨rfl,k,v',e2,rfl⟩:=y
 rw [e1] at e2
 cases e2
 exact ⟨zbr.refl _,zvk⟩
theorem zkn {tg:Expr} (he:PV K X e f):PVI K X tg e (iD f):=fun hK=>by
 subst hK
 refine (zwr (he rfl)).weak fun σ H R=>?_
 rintro ⟨ρ,rel,q⟩
 refine goV rel q fun dx ρ1 x H1 rel1 st1 fx q1=>?_
 obtain ⟨items,ei,q2⟩:=q1.ziB
 cases dx with
 | dict kvs =>
  cases ei
  simp only [Fz] at fx
  obtain ⟨a,o,rfl,h⟩:=fx
  rcases h with ⟨kk,h1,h2⟩ | ⟨kk,h1,h2⟩
  ·exact ⟨a,o,rfl,.inl ⟨kk,h1,q2.now rel1 _ (zt2 h1 h2)⟩⟩
  ·exact ⟨a,o,rfl,.inr ⟨kk,h1,q2.now rel1 _ (zt3 h1 h2)⟩⟩
 | _=>cases ei
end
end FL
namespace FL
open PySem L2 PySem.Spec
open PyProof.Rows hiding St
variable [Cs]
theorem zlo {α:Type} {le:α->α->Prop}:∀ {l1 l2:List α},l1.Perm l2->l1.Pairwise le->l2.Pairwise le->(∀ a ∈ l1,∀ b ∈ l1,le a b->le b a->a=b)->l1=l2
 | [],l2,h,_,_,_=>(List.nil_perm.mp h).symm
 | a :: r1,[],h,_,_,_=>by have:=h.length_eq;simp at this
 | a :: r1,b :: r2,h,p1,p2,an=>by
  rw [List.pairwise_cons] at p1 p2
  have e:a=b:=by
   have ha:a ∈ b :: r2:=h.mem_iff.mp (List.mem_cons_self ..)
   have hb:b ∈ a :: r1:=h.mem_iff.mpr (List.mem_cons_self ..)
   rcases List.mem_cons.mp ha with e | ha'
   ·exact e
   rcases List.mem_cons.mp hb with e | hb'
   ·exact e.symm
   exact an a (List.mem_cons_self ..) b (List.mem_cons_of_mem _ hb') (p1.1 b hb') (p2.1 a ha')
  subst e
  rw [zlo ((List.perm_cons a).mp h) p1.2 p2.2 fun x hx y hy=>an x (List.mem_cons_of_mem _ hx) y (List.mem_cons_of_mem _ hy)]
section
variable {K:PySem.W.Frag} {X:Cx} {H:Hp}
theorem ztI:∀ {kvs:List (D × D)} {kk:List (List Key × V)} {xs:List V},zcj K H kvs kk->KTs H kk xs->zaj K H (kvs.map (·.1)) xs
 | [],kk,xs,h,t=>by
  simp only [zcj] at h
  subst h
  have:xs=[]:=t
  subst this
  simp [zaj]
 | (k,d) :: r,kk,xs,h,t=>by
  simp only [zcj] at h
  obtain ⟨q,v,t',rfl,rfl,f,h2⟩:=h
  obtain ⟨b,u,rfl,tb,t2⟩:=t
  simp only [List.map_cons,zaj]
  exact ⟨_,_,rfl,zqX tb,ztI h2 t2⟩
theorem ztJ:∀ {kvs:List (D × D)} {kk:List (Key × V)},zck K H kvs kk->zaj K H (kvs.map (·.1)) (kk.map fun kv=>kV kv.1)
 | [],kk,h=>by simp only [zck] at h;subst h;simp [zaj]
 | (k,d) :: r,kk,h=>by
  simp only [zck] at h
  obtain ⟨q,v,t',rfl,rfl,f,h2⟩:=h
  simp only [List.map_cons,zaj]
  exact ⟨_,_,rfl,zvk,ztJ h2⟩
theorem zsT {kvs:List (D × D)} {d:Addr} {xs:List V} (h:Fz K H (.dict kvs) (.ref d)) (t:ztk H d xs):zaj K H (kvs.map (·.1)) xs:=by
 simp only [Fz] at h
 obtain ⟨a,o,e,h⟩:=h
 cases e
 rcases h with ⟨kk,h1,h2⟩ | ⟨kk,h1,h2⟩
 ·rcases t with ⟨kk',rd,t⟩ | ⟨kk',rd,t⟩
  ·have:kk'=kk:=by
    rcases rd with z | ⟨o',z⟩
    ·rw [h1] at z;cases z
    ·rw [h1] at z;cases z;rfl
   subst this
   exact ztI h2 t
  ·rcases rd with z | ⟨o',z⟩
   ·rw [h1] at z;cases z
   ·rw [h1] at z;cases z
 ·rcases t with ⟨kk',rd,t⟩ | ⟨kk',rd,t⟩
  ·rcases rd with z | ⟨o',z⟩
   ·rw [h1] at z;cases z
   ·rw [h1] at z;cases z
  ·have:kk'=kk:=by
    rcases rd with z | ⟨o',z⟩
    ·rw [h1] at z;cases z
    ·rw [h1] at z;cases z;rfl
   subst this
   subst t
   exact ztJ h2
theorem zxi {kvs:List (D × D)} {d:Addr} (h:Fz K H (.dict kvs) (.ref d)):IsD H d:=by
 simp only [Fz] at h
 obtain ⟨a,o,e,h⟩:=h
 cases e
 rcases h with ⟨kk,h1,h2⟩ | ⟨kk,h1,h2⟩
 ·exact .inr ⟨kk,.inr ⟨o,h1⟩⟩
 ·exact .inl ⟨kk,.inr ⟨o,h1⟩⟩
end
end FL
namespace FL
open PySem L2 PySem.Spec
open PyProof.Rows hiding St
variable [Cs]
end FL
namespace FL
open PySem L2 PySem.Spec
open PyProof.Rows hiding St
def zgd (cs:List Addr) (K:PySem.W.Frag):PySem.W.Frag:=K.filter fun p=>!cs.contains p.1
theorem zeA (cs:List Addr):∀ (K:PySem.W.Frag) (b:Addr),(zgd cs K).lookup b=if cs.contains b=true then none else K.lookup b
 | [],b=>by simp [zgd]
 | (c,o) :: K,b=>by
  have ih:=zeA cs K b
  unfold zgd at ih ⊢
  rw [List.filter_cons]
  by_cases hc:cs.contains c=true
  ·rw [if_neg (by simp only [hc];decide),ih]
   by_cases hb:cs.contains b=true
   ·rw [if_pos hb,if_pos hb]
   ·have ne:b ≠ c:=fun z=>by rw [z] at hb;exact hb hc
    rw [if_neg hb,if_neg hb]
    simp [List.lookup_cons,show (b == c)=false from by simpa using ne]
  ·have hc':cs.contains c=false:=by simpa using hc
   rw [if_pos (by simp only [hc'];decide)]
   by_cases e:b=c
   ·subst e
    rw [if_neg hc]
    simp [List.lookup_cons]
   ·have e':(b == c)=false:=by simpa using e
    rw [List.lookup_cons,List.lookup_cons,e']
    exact ih
theorem ztW {cs:List Addr} {K:PySem.W.Frag} {h:Heap} (x:K.In h):(zgd cs K).In h:=fun a o e=>by
 rw [zeA] at e
 split at e
 ·cases e
 ·exact x a o e
def zvP (cs:List Addr) (K:PySem.W.Frag):Prop:=∀ c ∈ cs,∃ o its n,K.lookup c=some o/\o.data=Data.seq its n
theorem zop {cs:List Addr} {K:PySem.W.Frag} (s:zvP cs K) {b:Addr} {o:Obj} (e:K.lookup b=some o) (n:∀ its m,o.data ≠ .seq its m):(zgd cs K).lookup b=some o:=by
 rw [zeA,if_neg,e]
 intro c
 obtain ⟨o',its,m,e',d⟩:=s b (by simpa using c)
 rw [e] at e'
 cases e'
 exact n _ _ d
theorem zpk {cs:List Addr} {K:PySem.W.Frag} (s:zvP cs K) {cd:Value} {q:Str} (h:PySem.W.codeIn K cd q=true):PySem.W.codeIn (zgd cs K) cd q=true:=by
 cases cd with
 | ref c =>
  unfold PySem.W.codeIn at h ⊢
  cases e:K.lookup c with
  | none=>simp only [e] at h;cases h
  | some o =>
   obtain ⟨oc,od,data,sl⟩:=o
   cases data with
   | fields vs =>
    simp only [e] at h
    simp only [zop s e fun _ _ z=>nomatch z]
    exact h
   | _=>simp only [e] at h;cases h
 | _=>cases h
theorem Fun.cut {cs:List Addr} {K:PySem.W.Frag} (s:zvP cs K) {x q:Str} {st:Stmt} {f:Addr} {fd:FuncData} (F:Fun K x q st f fd):Fun (zgd cs K) x q st f fd:=by
 obtain ⟨⟨oc,od,kV,doc,pm,an,cdv,ct,osl,e,l,c⟩,kp⟩:=F
 have l':=zop s l fun _ _ z=>nomatch z
 refine ⟨⟨oc,od,kV,doc,pm,an,cdv,ct,osl,e,l',zpk s c⟩,?_⟩
 unfold PySem.W.keepIn
 simp only [l']
theorem Has.cut {cs:List Addr} {K:PySem.W.Frag} {mg:Str->Option Value} (s:zvP cs K) {x:Str} {st:Stmt} (h:Has K mg x st):Has (zgd cs K) mg x st:=by
 obtain ⟨f,fd,hm,F⟩:=h
 exact ⟨f,fd,hm,Fun.cut s F⟩
abbrev CL:=List (Addr × Obj × List V)
def zmx (cl:CL):Hp:=fun b=>(cl.lookup b).map fun p=>.frz p.1 (.tup p.2)
@[reducible] def zvN (cl:CL):Cs:=⟨zmx cl,fun a u h=>by
 unfold zmx at h
 rw [Option.map_eq_some_iff] at h
 obtain ⟨p,_,rfl⟩:=h
 exact ⟨_,_,rfl⟩⟩
def zmv (cl:CL) (K:PySem.W.Frag):Prop:=∀ p ∈ cl,K.lookup p.1=some p.2.1/\p.2.1.cls=.type "tuple"/\p.2.2.length<=sizeLine/\∃ (its:Array Value) (n:Nat),p.2.1.data=.seq its n/\Vals p.2.2 its.toList
theorem zmv.nil {K:PySem.W.Frag}:zmv [] K:=fun p hp=>by simp at hp
theorem zmv.cons {K:PySem.W.Frag} {a:Addr} {od:Option Addr} {its:Array Value} {n:Nat} {sl:Array (Option Value)} {xs:List V} {cl:CL} (e:K.lookup a=some ⟨.type "tuple",od,.seq its n,sl⟩) (hv:Vals xs its.toList) (hl:xs.length<=1000) (r:zmv cl K):zmv ((a,⟨.type "tuple",od,.seq its n,sl⟩,xs) :: cl) K:=fun p hp=>by
 rcases List.mem_cons.mp hp with rfl | hp
 ·exact ⟨e,rfl,Nat.le_of_lt (zpQ hl),its,n,rfl,hv⟩
 ·exact r p hp
theorem zmv.seqs {cl:CL} {K:PySem.W.Frag} (h:zmv cl K):zvP (cl.map (·.1)) K:=fun c hc=>by
 obtain ⟨p,hp,rfl⟩:=List.mem_map.mp hc
 obtain ⟨e,_,_,its,n,d,_⟩:=h p hp
 exact ⟨_,its,n,e,d⟩
theorem mem_of_lookup {α:Type}:∀ {l:List (Addr × α)} {a:Addr} {x:α},l.lookup a=some x->(a,x) ∈ l
 | [],a,x,h=>by simp at h
 | (b,y) :: r,a,x,h=>by
  rw [List.lookup_cons] at h
  cases e:a == b with
  | true =>
   rw [e] at h
   cases h
   have:=eq_of_beq e
   subst this
   exact List.mem_cons_self ..
  | false =>
   rw [e] at h
   exact List.mem_cons_of_mem _ (mem_of_lookup h)
theorem zjP {cl:CL} {K:PySem.W.Frag} (h:zmv cl K) {b:Addr} {u:HO} (e:zmx cl b=some u):(zgd (cl.map (·.1)) K).lookup b=none/\∃ (o:Obj) (xs:List V) (its:Array Value) (n:Nat),u=.frz o (.tup xs)/\K.lookup b=some o/\o.cls=.type "tuple"/\o.data=.seq its n/\xs.length<=sizeLine/\Vals xs its.toList:=by
 unfold zmx at e
 rw [Option.map_eq_some_iff] at e
 obtain ⟨⟨o,xs⟩,el,rfl⟩:=e
 have m:=mem_of_lookup el
 obtain ⟨h1,h2,h3,its,n,h4,h5⟩:=h _ m
 refine ⟨?_,o,xs,its,n,rfl,h1,h2,h4,h3,h5⟩
 rw [zeA,if_pos]
 have:b ∈ cl.map (·.1):=List.mem_map.mpr ⟨_,m,rfl⟩
 simpa using this
theorem zqw {P:Program} {w:World} {K:PySem.W.Frag} {mg mb:Str->Option Value} {CX:CXT} {k:Nat} {fa a:Addr} {fd:FuncData} {x:Str} {sp:Sp} {s₁:Shared} {vs:List Value} {ns:List Int} {cl:CL}
  (KX:K.In s₁.heap) (hC:zmv cl K) (hns:s₁.heap.Ns mainGlobals mg) (hb:s₁.heap.Ns builtinsNs mb) (hbb:∀ x:Str,x ≠ "__name__"->mb x=bootBuiltins x) (hlim:s₁.heap.NoLimit) (hse:s₁.heap.NoSeer) (htr:P.given.tree=none) (hg:s₁.gens=#[])
  (ha:s₁.heap.get? a=some { cls:=.type "list",data:=.seq vs.toArray }) (hi:IntsAre vs ns) (hl:ns.length<=sizeLine) (hr:zcZ k callerA)
  (F:∀ base:Heap,(zgd (cl.map (·.1)) K).In base->base.Ns mainGlobals mg->zk8 P w (zgd (cl.map (·.1)) K) mg base CX k fa fd [x] sp) (hbind:∀ (s:Shared) (u:Value),BindsTo s fd ⟨[u],[]⟩ [(x,u)])
  (hsp:∀ H:Hp,(∀ b xs,H b ≠ some (.lst xs))->(∀ b u,zmx cl b=some u->H b=some u)->SqL (zgd (cl.map (·.1)) K) H a (ns.map V.int)->sp [.ref a] H (fun v _=>v=.bl true) fun _ _ _=>False)
  (hCX:∀ H e s',CX [] H s₁ (fun _ _ _=>False) e s'->False) :
  codeAny (model P w) callerA (.call (.ref fa) ⟨[.ref a],[]⟩) (fun r s'=>r=.ok (.ret (.bool true))/\OldK s₁.heap s'.heap/\s'.os=s₁.os/\AllBare s'.gens) s₁:=by
 have rv:=zld hi
 have lenV:=hi.length
 have core:∀ H:Hp,(∀ b u,H b=some u->∃ o v,u=.frz o v/\o.cls ≠ .type "module"/\∀ es ep,o.data ≠ .dict es ep)->(∀ b xs,H b ≠ some (.lst xs))->(∀ b u,zmx cl b=some u->H b=some u)->SqL (zgd (cl.map (·.1)) K) H a (ns.map V.int)->HOk P w H s₁.heap->(∀ b,H b ≠ none->(zgd (cl.map (·.1)) K).lookup b=none) ->
   codeAny (model P w) callerA (.call (.ref fa) ⟨[.ref a],[]⟩) (fun r s'=>r=.ok (.ret (.bool true))/\OldK s₁.heap s'.heap/\s'.os=s₁.os/\AllBare s'.gens) s₁:=by
  intro H hO hL hcc hS hok hK
  have base_of:∀ {b:Addr} {o:Obj},s₁.heap.get? b=some o->H b=none->(zsI s₁.heap H).get? b=some o:=fun e n=>zsH e n
  have noA:∀ {b:Addr} {o:Obj} {es:Array DictEntry} {ep:Nat},s₁.heap.get? b=some o->o.data=.dict es ep->H b=none:=fun {b o es ep} e d=>by
   cases q:H b with
   | none=>rfl
   | some u =>
    obtain ⟨o',v,rfl,_,nd⟩:=hO b u q
    obtain ⟨e',_⟩:=hok b _ q
    rw [e] at e'
    cases e'
    exact absurd d (nd es ep)
  have noM:∀ {b:Addr} {o:Obj},s₁.heap.get? b=some o->o.cls=.type "module"->H b=none:=fun {b o} e d=>by
   cases q:H b with
   | none=>rfl
   | some u =>
    obtain ⟨o',v,rfl,nd,_⟩:=hO b u q
    obtain ⟨e',_⟩:=hok b _ q
    rw [e] at e'
    cases e'
    exact absurd d nd
  have nsK:∀ {b:Addr} {m:Str->Option Value},s₁.heap.Ns b m->(zsI s₁.heap H).Ns b m:=fun {b m} ⟨o,es,ep,e,d,r⟩=>⟨o,es,ep,base_of e (noA e d),d,r⟩
  have hKb:(zgd (cl.map (·.1)) K).In (zsI s₁.heap H):=fun b o e=>base_of (ztW KX b o e) (by
   cases q:H b with
   | none=>rfl
   | some u=>rw [hK b (by rw [q];simp)] at e;cases e)
  have hM:Mod (zgd (cl.map (·.1)) K) mg (zsI s₁.heap H):=⟨hKb,nsK hns,⟨mb,nsK hb,hbb⟩,let ⟨mc,h1,h2⟩:=hlim;⟨mc,nsK h1,h2⟩,(let ⟨mc,h1,h2⟩:=hse.statics;⟨mc,nsK h1,h2⟩),(let ⟨mc,h1,h2⟩:=hse.mods;⟨mc,nsK h1,h2⟩),(let ⟨mc,h1,h2⟩:=hse.imp;⟨mc,nsK h1,h2⟩),(let ⟨mg,bm,ob,h1,h2,h3,h4,h5⟩:=hse.main;⟨mg,bm,ob,nsK h1,h2,base_of h3 (noM h3 h4),h4,h5⟩)⟩
  have e0:zxZ P w (zgd (cl.map (·.1)) K) mg (zsI s₁.heap H) callerA [] s₁ H:=⟨rfl,hM,fun b o e=>zuV e,Nat.le_of_eq (zqQ _ _),trivial,fun b hb=>absurd (show b ∈ ([]:List Addr) from hb) (by simp),hok,.of_eq hg,htr⟩
  refine codeAny_mono ((F _ hKb (nsK hns)).run callerA [] s₁ H ⟨[.ref a],[]⟩ [.ref a] [.ref a] _ _ hr e0 (hbind s₁ (.ref a)) (.cons rfl .nil) (hsp H hL hcc hS)) fun r s' h=>?_
  cases r with
  | error e=>exact (hCX H e s' h).elim
  | ok fl =>
   cases fl with
   | next=>exact False.elim h
   | brk=>exact False.elim h
   | cont=>exact False.elim h
   | ret u =>
    obtain ⟨v,H',os,bare,un,hok',r',q⟩:=h
    have q':v=.bl true:=q
    subst q'
    obtain rfl:u=Value.bool true:=r'
    refine ⟨rfl,OldK.of_keep fun b o e=>?_,os,bare⟩
    cases q:H b with
    | none=>exact un.keep b o e q (by intro z;exact absurd (show b ∈ ([]:List Addr) from z) (by simp)) (by simp)
    | some u =>
     obtain ⟨ob,v,rfl,_,_⟩:=hO b u q
     have z2:=un.frzs b ob _ q
     obtain ⟨e1,_⟩:=hok b _ q
     obtain ⟨e2,_⟩:=hok' b _ z2
     rw [e] at e1;cases e1
     exact e2
 have cok:∀ {H:Hp} {b:Addr} {u:HO},zmx cl b=some u->zbJ P w H s₁.heap b u:=fun {H b u} e=>by
  obtain ⟨_,o,xs,its,n,rfl,h1,h2,h3,h4,h5⟩:=zjP hC e
  have hg:=KX b o h1
  exact ⟨hg,h4,its.toList,h5,o,hg,h2,n,by simpa using h3⟩
 have cfr:∀ {b:Addr} {u:HO},zmx cl b=some u->∃ o v,u=.frz o v/\o.cls ≠ .type "module"/\∀ es ep,o.data ≠ .dict es ep:=fun {b u} e=>by
  obtain ⟨_,o,xs,its,n,rfl,h1,h2,h3,h4,h5⟩:=zjP hC e
  exact ⟨o,_,rfl,by rw [h2];simp,fun es ep z=>by rw [h3] at z;cases z⟩
 have clst:∀ {b:Addr} {xs:List V},zmx cl b ≠ some (.lst xs):=fun {b xs} e=>by
  obtain ⟨_,o,xs,its,n,z,_⟩:=zjP hC e
  cases z
 cases hk:(zgd (cl.map (·.1)) K).lookup a with
 | some o =>
  have e:=ztW KX a o hk
  rw [ha] at e
  cases e
  exact core (zmx cl) (fun b u e=>cfr e) (fun b xs e=>clst e) (fun _ _ e=>e) (.inr ⟨_,vs.toArray,_,hk,rfl,rfl,rfl,by rw [List.size_toArray,lenV];exact hl,by simpa using rv⟩) (fun b u z=>cok z) fun b hb=>by
   cases q:zmx cl b with
   | none=>exact absurd q hb
   | some u=>exact (zjP hC q).1
 | none =>
  have na:∀ u,zmx cl a ≠ some u:=fun u z=>by
   obtain ⟨_,o,xs,its,n,rfl,h1,h2,h3,h4,h5⟩:=zjP hC z
   have:=KX a o h1
   rw [ha] at this
   cases this
   simp at h2
  refine core (fun b=>if b=a then some (.frz { cls:=.type "list",data:=.seq vs.toArray } (.lst (ns.map V.int))) else zmx cl b) (fun b u e=>?_) (fun b xs e=>?_) (fun b u e=>?_) (.inl (.inr ⟨{ cls:=.type "list",data:=.seq vs.toArray },if_pos rfl⟩)) (fun b u z=>?_) fun b hb=>?_
  ·split at e
   ·cases e;exact ⟨_,_,rfl,by simp,fun es ep z=>nomatch z⟩
   ·exact cfr e
  ·split at e
   ·cases e
   ·exact clst e
  ·have:b ≠ a:=fun z=>by subst z;exact na u e
   simp only [if_neg this];exact e
  ·simp only at z
   split at z
   ·rename_i c
    cases z
    subst c
    exact ⟨ha,by rw [List.length_map];exact hl,vs,_,rv,ha⟩
   ·exact cok z
  ·by_cases c:b=a
   ·subst c;exact hk
   ·simp only [if_neg c] at hb
    cases q:zmx cl b with
    | none=>exact absurd q hb
    | some u=>exact (zjP hC q).1
theorem zrR {l:PySem.W.OpenLaw} {k:Nat} {q:Program} {loose:List Str} {XP:(Str->Option Value)->Heap->Prop} {YP:World->Heap->Prop} {d:DefRec} {K:Params->PySem.W.Frag} {x:Str} {G:List D->R D}
  (hlaw:∀ ns:List Int,ns.length<=63->G [.list (ns.map PyData.int)]=.ok (.bool true)) (hn:l.most=some 63) (hdf:d.params.defaults=[]) (hi:importsNone q=true) (htr:l.prog.given.tree=none) (hr:zcZ k callerA)
  (hY:∀ (w:World) (h:Heap),YP w h->(K w.params).In h)
  (F:∀ (w:World) (mg:Str->Option Value) (fa:Addr) (h:Heap),(K w.params).In h->h.Ns mainGlobals mg->mg d.name=some (.ref fa) ->
   ∃ (cl:CL) (fd:FuncData),zmv cl (K w.params)/\(∀ (s:Shared) (u:Value),BindsTo s fd ⟨[u],[]⟩ [(x,u)]) /\
    ∀ base:Heap,(zgd (cl.map (·.1)) (K w.params)).In base->base.Ns mainGlobals mg->zk8 l.prog w (zgd (cl.map (·.1)) (K w.params)) mg base (CXe l.prog w) k fa fd [x] (@spP (zvN cl) (zgd (cl.map (·.1)) (K w.params)) 1 false G)) :
  PySem.W.WalkO q loose XP YP l.row.toRowW d [] (fun f vs=>PySem.call f vs):=by
 refine Att.znj hn hdf fun w s₀ s₁ mg mb fa o pm cd doc a vs ns GG Y ho hd hcd hmg hobj hints hlen hg=>?_
 have KX:=hY w _ Y
 obtain ⟨cl,fd,hC,hb,hF⟩:=F w mg fa _ KX GG.T.g hmg
 refine zqw KX hC GG.T.g GG.T.b GG.T.builtins GG.T.nolimit (GG.T.seer hi) htr hg hobj hints (Nat.le_trans hlen (by decide)) hr hF hb (fun H hO hcc hS=>@zw0 (zvN cl) _ G H a ns (hlaw ns hlen) hO hcc hS) fun H e s' ⟨_,_,_,_,_,_,_,_,_,_,_,_,_,_,_,z⟩=>z
variable [Cs]
theorem zln {K:PySem.W.Frag} {X:Cx} {x:Str} {a:Addr} {pos:Pos} {ds:List D} {vs:List V} (hg:Gl X x) (hm:X.mg x=some (.ref a)) (hc:∃ o,Cs.C a=some (.frz o (.tup vs))) (hf:∀ H,zaj K H ds vs) (hd:(x == ("__debug__":Str))=false:=by decide) :
  PV K X (.Name x pos) (eC (.tuple ds)):=fun _=>(zqf hg hm (v:=.ref a) rfl hd).weak fun σ H Q=>by
 rintro ⟨ρ,rel,g⟩
 obtain ⟨o,hc⟩:=hc
 refine g.now rel (.ref a) ?_
 simp only [Fz]
 exact ⟨a,vs,rfl,.inr ⟨o,rel.cst _ _ hc⟩,hf H⟩
end FL
namespace FL
open PySem L2 PySem.Spec
open PyProof.Rows hiding St
theorem zny {k:Nat} {A:Around} (hr:zcZ k A):A.units + 1 < cLine:=by have:=hr.un;omega
theorem zpU {x y:V} {u:Value} (h1:L2.RelV x u) (h2:L2.RelV y u):x=y:=by
 cases x <;> cases y <;> simp only [L2.RelV] at h1 h2 <;> first
  | (subst h1;cases h2;rfl;done)
  | (subst h1;obtain ⟨t',h2⟩:=h2;cases h2;done)
  | (obtain ⟨t,rfl⟩:=h1;obtain ⟨t',h2⟩:=h2;cases h2;rfl;done)
  | (obtain ⟨t,rfl⟩:=h1;obtain ⟨t',h2⟩:=h2;cases h2;done)
  | (subst h1;cases h2;done)
  | (obtain ⟨t,rfl⟩:=h1;cases h2;done)
theorem zlc:∀ {xs ys:List V} {us:List Value},Vals xs us->Vals ys us->xs=ys
 | _,_,_,.nil,.nil=>rfl
 | _,_,_,.cons r1 t1,.cons r2 t2=>by rw [zpU r1 r2,zlc t1 t2]
theorem lookup_mem {α:Type}:∀ {l:List (Addr × α)} {a:Addr} {x:α},(a,x) ∈ l->∃ y,l.lookup a=some y
 | [],a,x,h=>by simp at h
 | (b,y) :: r,a,x,h=>by
  rw [List.lookup_cons]
  cases e:a == b with
  | true=>exact ⟨y,rfl⟩
  | false =>
   rcases List.mem_cons.mp h with z | z
   ·cases z;simp at e
   ·exact lookup_mem z
theorem ztO {cl:CL} {K:PySem.W.Frag} (h:zmv cl K) {a:Addr} {o:Obj} {xs:List V} (m:(a,o,xs) ∈ cl):∃ o',(zvN cl).C a=some (.frz o' (.tup xs)):=by
 obtain ⟨⟨o2,ys⟩,el⟩:=lookup_mem m
 obtain ⟨h1,_,_,its,n,h2,h3⟩:=h _ m
 obtain ⟨g1,_,_,its',n',g2,g3⟩:=h _ (mem_of_lookup el)
 simp only at h1 h2 h3 g1 g2 g3
 rw [h1] at g1
 cases g1
 rw [h2] at g2
 cases g2
 refine ⟨o,?_⟩
 show zmx cl a=_
 unfold zmx
 rw [el,zlc h3 g3]
 rfl
theorem zxd {K:PySem.W.Frag} {h:Heap} {mg:Str->Option Value} {x:Str} {st:Stmt} {f:Addr} {oc:Value} {od an:Option Addr} {osl:Array (Option Value)} {kV doc pm cdv ct:Value} (X:K.In h) (G:h.Ns mainGlobals mg) (q:PySem.W.nsIn K mainGlobals x=some (some (.ref f)))
  (l:K.lookup f=some ⟨oc,od,.func (PySem.W.fnOf x x (zdl st) (zbT st) (zaF st) .none kV doc pm an cdv ct),osl⟩) (c:PySem.W.codeIn K cdv x=true) (k:PySem.W.keepIn K (.ref f)=true):Has K mg x st:=⟨f,_,PySem.W.mg_of X G q,zxj (st:=st) l c k⟩
theorem _root_.L2.Has.cut {cs:List Addr} {K:PySem.W.Frag} {mg:Str->Option Value} {x:Str} {st:Stmt} (h:Has K mg x st) (s:zvP cs K):Has (zgd cs K) mg x st:=FL.Has.cut s h
end FL
namespace FL
open PySem
theorem zpd (ns:List Int):intsOf (ns.map PyData.int)=some ns:=by
 induction ns with
 | nil=>rfl
 | cons n ns ih=>simp [intsOf,ih]
theorem znf (ns:List Bool):boolsOf (ns.map PyData.bool)=some ns:=by
 induction ns with
 | nil=>rfl
 | cons n ns ih=>simp [boolsOf,ih]
theorem ztc (bs:List Bool):zvD (.list (bs.map PyData.bool))=.ok (.bool (bs.all id)):=by
 show ((R.of (boolsOf _)).bind _)=_
 rw [znf];rfl
theorem zsX {α:Type} (xs:List α) (p:Nat) (h:p<=xs.length):cut xs (some (p:Int)) none=xs.drop p:=by
 unfold cut sIx
 simp only
 rw [if_neg (by omega)]
 rw [show min (p:Int).toNat xs.length=p by omega]
 rw [List.take_of_length_le (by simp)]
theorem zxB {α:Type} (xs:List α) (p:Nat):cut xs none (some (p:Int))=xs.take p:=by
 unfold cut sIx
 simp only
 rw [if_neg (by omega),List.drop_zero,Nat.sub_zero]
 by_cases h:p<=xs.length
 ·rw [show min (p:Int).toNat xs.length=p by omega]
 ·rw [show min (p:Int).toNat xs.length=xs.length by omega,List.take_length,List.take_of_length_le (by omega)]
theorem zmR {α β:Type} (g:α->β) (xs:List α) (lo hi:Option Int):cut (xs.map g) lo hi=(cut xs lo hi).map g:=by
 unfold cut
 simp [List.map_take,List.map_drop]
theorem zdN (lo hi:Int):rng lo hi=((List.range (hi - lo).toNat).map fun (i:Nat)=>lo + (i:Int)).map PyData.int:=by
 unfold rng
 rw [List.map_map];rfl
def Pl (n:Nat) (d:D):Prop:=PyData.canLay0 d=true/\d.depth<=n
theorem Pl.shaped {n:Nat} {d:D} (h:Pl n d) (hn:n<=64:=by decide):SeqAt.shaped d=true:=by
 unfold SeqAt.shaped
 rw [h.1,decide_eq_true (Nat.le_trans h.2 hn)];rfl
theorem zjG (i:Int):Pl 0 (.int i):=⟨rfl,Nat.le_refl _⟩
theorem zqc {n:Nat}:∀ {ds:List D},(∀ d ∈ ds,Pl n d)->PyData.canLayAll0 ds=true/\PyData.depthAll ds<=n
 | [],_=>⟨rfl,Nat.zero_le _⟩
 | d :: ds,h=>by
  obtain ⟨a,b⟩:=zqc fun x m=>h x (List.mem_cons_of_mem d m)
  obtain ⟨c,e⟩:=h d (List.mem_cons_self ..)
  refine ⟨by simp only [PyData.canLayAll0];rw [c,a];rfl,?_⟩
  simp only [PyData.depthAll]
  omega
theorem znO {n:Nat} {ds:List D} (h:∀ d ∈ ds,Pl n d):Pl (n + 1) (.tuple ds):=by
 obtain ⟨a,b⟩:=zqc h
 exact ⟨a,by simp only [PyData.depth];omega⟩
theorem zqa {n:Nat} {ds:List D} (h:∀ d ∈ ds,Pl n d):Pl (n + 1) (.list ds):=by
 obtain ⟨a,b⟩:=zqc h
 exact ⟨a,by simp only [PyData.depth];omega⟩
theorem zez {α:Type} [DecidableEq α] (f:α->D) (h:∀ a b,PyData.eqv (f a) (f b)=decide (a=b)):∀ xs ys:List α,PyData.eqvAll (xs.map f) (ys.map f)=decide (xs=ys)
 | [],[]=>rfl
 | [],y :: ys=>by simp [PyData.eqvAll]
 | x :: xs,[]=>by simp [PyData.eqvAll]
 | x :: xs,y :: ys=>by
  simp only [List.map_cons,PyData.eqvAll]
  rw [h,zez f h xs ys]
  by_cases e1:x=y <;> by_cases e2:xs=ys <;> simp [e1,e2]
theorem znb (a b:Int):PyData.eqv (.int a) (.int b)=decide (a=b):=by
 show (a == b)=_
 rw [Bool.beq_eq_decide_eq]
abbrev tp (w:List Int):D:=.tuple (w.map PyData.int)
theorem zwo (w:List Int):Pl 1 (tp w):=znO fun d m=>by
 obtain ⟨i,_,rfl⟩:=List.mem_map.mp m
 exact zjG i
theorem zxq (a b:List Int):PyData.eqv (tp a) (tp b)=decide (a=b):=by
 show PyData.eqvAll _ _=_
 exact zez _ znb a b
theorem zlV {n m:Nat} {a b:D} (ha:Pl n a) (hb:Pl m b) (hn:n<=64:=by decide) (hm:m<=64:=by decide):eqD a b=.ok (.bool (PyData.eqv a b)):=by
 unfold eqD
 rw [ha.shaped hn,hb.shaped hm];rfl
theorem znZ {n m:Nat} {a b:D} (ha:Pl n a) (hb:Pl m b) (hn:n<=64:=by decide) (hm:m<=64:=by decide):neD a b=.ok (.bool (!PyData.eqv a b)):=by
 unfold neD
 rw [ha.shaped hn,hb.shaped hm];rfl
theorem zwQ (a b:List Int):neD (tp a) (tp b)=.ok (.bool (!decide (a=b))):=by rw [znZ (zwo a) (zwo b),zxq]
theorem zbp (a b:Int):eqD (.int a) (.int b)=.ok (.bool (decide (a=b))):=by rw [zlV (zjG a) (zjG b),znb]
theorem zb3 (a b:Int):neD (.int a) (.int b)=.ok (.bool (!decide (a=b))):=by rw [znZ (zjG a) (zjG b),znb]
theorem zvf (i j:Int):gtD (.int i) (.int j)=.ok (.bool (decide (j < i))):=rfl
theorem zgj (i j:Int):ltD (.int i) (.int j)=.ok (.bool (decide (i < j))):=rfl
theorem zqu (i j:Int):leD (.int i) (.int j)=.ok (.bool (decide (i<=j))):=rfl
theorem zvi (i j:Int):geD (.int i) (.int j)=.ok (.bool (decide (j<=i))):=rfl
theorem zct {j:Int} (h:0<=j) (h2:j<=1000000):zpX [.int j]=.ok (rng 0 j):=by
 show chk _ _=_
 refine zaI ?_
 unfold zrW lim
 simp only [Bool.and_eq_true,leB_iff]
 omega
theorem zow {m:List (Nat × Sl)} (h:∀ i p d,m.lookup i ≠ some (.ow p d)):∀ (ρ:En) (n:Nat),bkL m n ρ=ρ
 | [],_=>rfl
 | x :: r,n=>by
  unfold bkL
  rw [zow h r (n + 1)]
  congr 1
  unfold bk1
  split
  ·rename_i p d q e h1 h2
   exact absurd h2 (h _ _ _)
  ·rfl
theorem zcO {α:Type} {f:α->D} {g:GF} {b:SF} (P:List α->En->Prop):∀ (xs:List α) (done:List α) (ρ:En),P done ρ ->
  (∀ pre x post ρ,done ++ xs=pre ++ x :: post->P pre ρ->∃ ρ' fl,(g (f x) ρ).bind b=.ok (fl,ρ')/\(fl=.nx\/fl=.ct)/\P (pre ++ [x]) ρ')->∃ ρ',forL g b (xs.map f) ρ=.ok (.nx,ρ')/\P (done ++ xs) ρ'
 | [],done,ρ,h,_=>⟨ρ,rfl,by simpa using h⟩
 | x :: xs,done,ρ,h,hx=>by
  obtain ⟨ρ1,fl,e,hf,h1⟩:=hx done x xs ρ rfl h
  obtain ⟨ρ2,e2,h2⟩:=zcO P xs (done ++ [x]) ρ1 h1 fun pre y post ρ e=>hx pre y post ρ (by simpa using e)
  refine ⟨ρ2,?_,by simpa using h2⟩
  show ((g (f x) ρ).bind fun ρ1=>(b ρ1).bind fun y=>match y.1 with
    | .nx | .ct=>forL g b (xs.map f) y.2
    | .bk=>.ok (.nx,y.2)
    | .rt d=>.ok (.rt d,y.2)
    | .rf d=>.ok (.rf d,y.2))=_
  cases e1:g (f x) ρ with
  | ok ρ3 =>
   rw [e1] at e
   rw [zac] at e ⊢
   rw [e,zac]
   rcases hf with rfl | rfl
   ·exact e2
   ·exact e2
  | bad=>rw [e1] at e;cases e
  | err c fs=>rw [e1] at e;cases e
def Np (x:Sl):Prop:=∀ e,x ≠ .ow true e
theorem zbI:Np .no:=fun _ z=>nomatch z
theorem zaY (d:D):Np (.val d):=fun _ z=>nomatch z
theorem zwM (d:D):Np (.ow false d):=fun _ z=>nomatch z
theorem zgx {ρ:En} {i:Nat} {d:D} {x:Sl} (h:ρ[i]?=some x) (n:Np x):gN i d ρ=.ok (ρ.set i (.val d)):=by
 unfold gN
 rw [h]
 cases x with
 | no=>rfl
 | val c=>rfl
 | ow p c=>cases p with
  | true=>exact absurd rfl (n c)
  | false=>rfl
theorem zdM {i:Nat} {f:EF} {ρ:En} {y:D × En} {x:Sl} (hf:f ρ=.ok y) (h:y.2[i]?=some x) (n:Np x):zeJ i f ρ=.ok (.nx,y.2.set i (.ow false y.1)):=by
 unfold zeJ
 rw [hf,zac,h]
 cases x with
 | no=>rfl
 | val c=>rfl
 | ow p c=>cases p with
  | true=>exact absurd rfl (n c)
  | false=>rfl
theorem zb1 {i:Nat} {f:EF} {ρ:En} {y:D × En} {x:Sl} (hf:f ρ=.ok y) (h:y.2[i]?=some x) (n:Np x):zaC (gN i) f ρ=.ok (.nx,y.2.set i (.val y.1)):=by
 unfold zaC
 rw [hf,zac,zgx h n];rfl
theorem zeY {m:List (Nat × Sl)} {i:Nat} {x:Sl} (h:m.lookup i=none):bk1 m i x=x:=by
 unfold bk1
 rw [h]
 cases x <;> rfl
theorem zah {s t:SF} {ρ ρ1:En} (h:s ρ=.ok (.nx,ρ1)):zan s t ρ=t ρ1:=by
 unfold zan
 rw [h];rfl
end FL
namespace FL
open PySem
def ziD:SF:=(zan (zaC (gN 2) (e2 za8 (e2 za8 (e2 zbd (e2 za8 (e2 zgO (eV 0) (e2 za8 (e2 zjF (eC (.int 10)) (eC (.int 18))) (eC (.int 9)))) (e2 zbd (eC (.int 7)) (eV 1))) (eC (.int 739108512309184756019283746561))) (e2 zbd (eC (.int 7919)) (eV 1))) (eC (.int 1))))
  (zan (zaC (gN 2) (e2 zgO (e2 zbd (eV 2) (eV 2)) (e2 za8 (e2 zjF (eC (.int 10)) (eC (.int 60))) (eC (.int 7)))))
  (zav (e2 zgO (e2 zbd (e2 za8 (eV 2) (eC (.int 40503))) (e2 za8 (eV 2) (eC (.int 57)))) (e2 za8 (e2 zjF (eC (.int 10)) (eC (.int 60))) (eC (.int 7)))))))
def zk7:List D->R D:=za0 false 2 3 ziD
def zkX:SF:=(zan (sIf (tB (e2 ltD (eV 1) (e1 zcI (eV 0)))) (zav (e2 ixD (eV 0) (eV 1))) sNx)
  (zav (e2 za8 (e2 zbd (eC (.int 3)) (eV 1)) (eC (.int 1)))))
def zxY:List D->R D:=za0 false 2 2 zkX
def zfh:SF:=(zan (sIf (tB (e2 geD (eV 0) (e2 zjF (eC (.int 10)) (eC (.int 18))))) (zba (zc9 (zaa (e2 zge (eV 0) (e2 zjF (eC (.int 10)) (eC (.int 18)))) (zaa (eC (.int 0)) (zaa (eV 1) zai))))) sNx)
  (zba (zc9 (zaa (zaf zk7 (zaa (eV 0) (zaa (eV 1) zai))) (zaa (eC (.int 0)) (zaa (e2 za8 (e2 zgO (eV 0) (e2 za8 (e2 zjF (eC (.int 10)) (eC (.int 18))) (eC (.int 9)))) (eV 1)) zai))))))
def zk6:List D->R D:=za0 true 2 2 zfh
def zgB:SF:=(zan (sIf (tB (e2 ltD (m2 ixD 0 (eC (.int 0))) (eV 1))) (zan (setM 0 (e2 za8 (m2 ixD 0 (eC (.int 1))) (eC (.int 1))) (eC (.int 1)))
  (setM 0 (e2 za8 (m2 ixD 0 (eC (.int 0))) (e2 zbd (eV 1) (zaf zk7 (zaa (m2 ixD 0 (eC (.int 2))) (zaa (e2 za8 (e2 zbd (eC (.int 11)) (m2 ixD 0 (eC (.int 1)))) (eC (.int 5))) zai))))) (eC (.int 0)))) sNx)
  (zan (zaC (gN 2) (e2 zgO (m2 ixD 0 (eC (.int 0))) (eV 1)))
  (zan (setM 0 (e2 zaL (m2 ixD 0 (eC (.int 0))) (eV 1)) (eC (.int 0)))
  (zav (eV 2)))))
def zbu:List D->R (D × List D):=run [true,false] false 3 zgB
structure Bd (i:Int) (n:Nat):Prop where
 h:i.natAbs < 2 ^ n
theorem Bd.mono {i:Int} {n m:Nat} (h:Bd i n) (l:n<=m):Bd i m:=⟨Nat.lt_of_lt_of_le h.h (Nat.pow_le_pow_right (by decide) l)⟩
theorem Bd.add {i j:Int} {n m:Nat} (h:Bd i n) (k:Bd j m):Bd (i + j) (max n m + 1):=by
 constructor
 have a:=(h.mono (Nat.le_max_left n m)).h
 have b:=(k.mono (Nat.le_max_right n m)).h
 have c:=Int.natAbs_add_le i j
 rw [Nat.pow_succ]
 omega
theorem Bd.mul {i j:Int} {n m:Nat} (h:Bd i n) (k:Bd j m):Bd (i * j) (n + m):=by
 constructor
 rw [Int.natAbs_mul,Nat.pow_add]
 have a:=h.h
 have b:=k.h
 exact Nat.mul_lt_mul'' a b
theorem Bd.mod {i j:Int} {n:Nat} (h:Bd j n) (p:0 < j):Bd (i.fmod j) n:=by
 constructor
 have a:=h.h
 have b:=Int.fmod_nonneg_of_pos i p
 have c:=Int.fmod_lt_of_pos i p
 omega
theorem mulOk_of {i j:Int} {n m:Nat} (h:Bd i n) (k:Bd j m) (l:n + m<=100000000):zqo i j=true:=by
 unfold zqo
 refine zgP ?_
 have lg:∀ {i:Int} {n:Nat},Bd i n->i.natAbs.log2<=n:=by
  intro i n h
  by_cases z:i.natAbs=0
  ·rw [z];exact Nat.zero_le _
  ·exact Nat.le_of_lt ((Nat.log2_lt z).mpr h.h)
 have a:=lg h
 have b:=lg k
 omega
theorem zaV {i j:Int} {n m:Nat} (h:Bd i n) (k:Bd j m) (l:n + m<=100000000):zbd (.int i) (.int j)=.ok (.int (i * j)):=by
 show chk _ _=_
 exact zaI (mulOk_of h k l)
theorem zh1 {i j:Int} (p:0 < j):zgO (.int i) (.int j)=.ok (.int (i.fmod j)):=by
 show chk _ _=_
 exact zaI (by simp;omega)
theorem zsQ {i j:Int} {n:Nat} (p:0 < j) (h:Bd j n) (l:n<=8000):zaL (.int i) (.int j)=.ok (.int (i.fdiv j)):=by
 show chk _ _=_
 exact zaI (by simp;omega)
def p18:Int:=1000000000000000000
def zuP:Int:=1000000000000000009
def p60:Int:=1000000000000000000000000000000000000000000000000000000000000
def zuO:Int:=1000000000000000000000000000000000000000000000000000000000007
def pm:Int:=739108512309184756019283746561
theorem zyb:zjF (.int 10) (.int 18)=.ok (.int p18):=rfl
theorem zzl:zjF (.int 10) (.int 60)=.ok (.int p60):=rfl
theorem zyX:p18 + 9=zuP:=rfl
theorem zzJ:p60 + 7=zuO:=rfl
theorem zmL:0 < zuP:=by decide
theorem zhZ:0 < zuO:=by decide
theorem b18:Bd zuP 60:=⟨by decide⟩
theorem b60:Bd zuO 200:=⟨by decide⟩
theorem bm:Bd pm 100:=⟨by decide⟩
theorem zaT {i:Int} (h:i.natAbs < 65536):Bd i 16:=⟨h⟩
def mx1 (c k:Int):Int:=(c.fmod zuP + 7 * k) * pm + 7919 * k + 1
def mx2 (c k:Int):Int:=(mx1 c k * mx1 c k).fmod zuO
def ztB (c k:Int):Int:=((mx2 c k + 40503) * (mx2 c k + 57)).fmod zuO
theorem zqp (c k:Int):0<=ztB c k:=Int.fmod_nonneg_of_pos _ zhZ
theorem zuX (c k:Int):Bd (ztB c k) 200:=b60.mod zhZ
theorem zn1 (c k:Int) {n:Nat} (hk:Bd k n) (hn:n<=1000):zk7 [.int c,.int k]=.ok (.int (ztB c k)):=by
 have a1:=zh1 (i:=c) zmL
 have a2:Bd (c.fmod zuP) 60:=b18.mod zmL
 have a3:=zaV (i:=7) (zaT (by decide)) hk (by omega)
 have a4:=(zaT (i:=7) (by decide)).mul hk
 have a5:=a2.add a4
 have a6:=zaV a5 bm (by omega)
 have a7:=zaV (i:=7919) (zaT (by decide)) hk (by omega)
 have a8:=((a5.mul bm).add ((zaT (i:=7919) (by decide)).mul hk)).add (zaT (i:=1) (by decide))
 have a9:=zaV a8 a8 (by omega)
 have b1:=zh1 (i:=mx1 c k * mx1 c k) zhZ
 have b2:Bd (mx2 c k) 200:=b60.mod zhZ
 have b3:=zaV (b2.add (zaT (i:=40503) (by decide))) (b2.add (zaT (i:=57) (by decide))) (by decide)
 have b4:=zh1 (i:=(mx2 c k + 40503) * (mx2 c k + 57)) zhZ
 have hm:(PyData.int 739108512309184756019283746561)=.int pm:=rfl
 have f1:(c.fmod zuP + 7 * k) * pm + 7919 * k + 1=mx1 c k:=rfl
 have f2:(mx1 c k * mx1 c k).fmod zuO=mx2 c k:=rfl
 have f3:((mx2 c k + 40503) * (mx2 c k + 57)).fmod zuO=ztB c k:=rfl
 rw [f1] at a9
 simp only [zk7,za0,FL.run,List.length_cons,List.length_nil,Nat.reduceAdd,List.replicate,ziD,zan,zaC,FL.e2,eV,slots,Bool.false_eq_true,if_false,Nat.reduceSub,List.cons_append,List.nil_append,zz0,eC,zac,zyb,za8,zyX,a1,zz1,a3,hm,a6,a7,f1,gN,List.set_cons_succ,List.set_cons_zero,zzl,zzJ,zav,a9,b1,f2,b3,b4,f3,outs,outD,if_true]
def zcp (k:Nat) (d:D):Prop:=∃ n c s,d=.list [.int n,.int c,.int s]/\0<=n/\0<=c/\c<=k
theorem zcp.mono {k l:Nat} {d:D} (h:zcp k d) (hl:k<=l):zcp l d:=by
 obtain ⟨n,c,s,e,h1,h2,h3⟩:=h
 exact ⟨n,c,s,e,h1,h2,by omega⟩
theorem zr8 (c k:Int) (hk:k.natAbs < 65536):∃ d,zk6 [.int c,.int k]=.ok d/\zcp 0 d:=by
 have a1:=zh1 (i:=c) zmL
 have hx1:=zn1 c k (zaT hk) (by decide)
 by_cases h:p18<=c
 ·refine ⟨_,?_,c - p18,0,k,rfl,by omega,by decide,by decide⟩
  have hg:geD (.int c) (.int p18)=.ok (.bool true):=by show R.ok (PyData.bool (decide (p18<=c)))=_;rw [decide_eq_true h]
  simp only [zk6,za0,FL.run,List.length_cons,List.length_nil,Nat.reduceAdd,List.replicate,zfh,zan,sIf,tB,FL.e2,eV,slots,Bool.false_eq_true,if_false,Nat.sub_self,List.cons_append,List.nil_append,zz0,eC,zac,zyb,hg,zba,zc9,zaa,zge,zai,sNx,zz1,if_true,zaf,za8,outs,outD]
  rfl
 ·refine ⟨_,?_,ztB c k,0,c.fmod zuP + k,rfl,zqp c k,by decide,by decide⟩
  have hg:geD (.int c) (.int p18)=.ok (.bool false):=by show R.ok (PyData.bool (decide (p18<=c)))=_;rw [decide_eq_false h]
  simp only [zk6,za0,FL.run,List.length_cons,List.length_nil,Nat.reduceAdd,List.replicate,zfh,zan,sIf,tB,FL.e2,eV,slots,Bool.false_eq_true,if_false,Nat.sub_self,List.cons_append,List.nil_append,zz0,eC,zac,zyb,hg,zba,zc9,zaa,zge,zai,sNx,zz1,zaf,za8,zyX,hx1,a1,outs,outD,if_true]
  rfl
theorem zcc {k:Nat} {d:D} (h:zcp k d) (hk:k<=60000) (m:Int) (hm1:1<=m) (hm2:m.natAbs < 65536):∃ g d',zbu [d,.int m]=.ok (.int g,[d',.int m])/\0<=g/\g < m/\zcp (k + 1) d':=by
 obtain ⟨n,c,s,rfl,h1,h2,h3⟩:=h
 have i0:∀ x y z:D,atI [x,y,z] 0=some x:=fun _ _ _=>rfl
 have i1:∀ x y z:D,atI [x,y,z] 1=some y:=fun _ _ _=>rfl
 have i2:∀ x y z:D,atI [x,y,z] 2=some z:=fun _ _ _=>rfl
 have j0:ixN 3 0=some 0:=rfl
 have j1:ixN 3 1=some 1:=rfl
 have hlt:ltD (.int n) (.int m)=.ok (.bool (decide (n < m))):=rfl
 have hd:∀ i:Int,zaL (.int i) (.int m)=.ok (.int (i.fdiv m)):=fun i=>zsQ (by omega) (zaT hm2) (by decide)
 have hm:∀ i:Int,zgO (.int i) (.int m)=.ok (.int (i.fmod m)):=fun i=>zh1 (by omega)
 have gd:∀ i:Int,0<=i->0<=i.fdiv m:=fun i hi=>Int.fdiv_nonneg hi (by omega)
 by_cases hn:n < m
 ·rw [decide_eq_true hn] at hlt
  have hc:(c + 1).natAbs < 65536:=by omega
  have x1:=zaV (i:=11) (zaT (by decide)) (zaT hc) (by decide)
  have xb:=((zaT (i:=11) (by decide)).mul (zaT hc)).add (zaT (i:=5) (by decide))
  have x2:=zn1 s (11 * (c + 1) + 5) xb (by decide)
  have x3:=zaV (zaT hm2) (zuX s (11 * (c + 1) + 5)) (by decide)
  have nn:0<=n + m * ztB s (11 * (c + 1) + 5):=Int.add_nonneg h1 (Int.mul_nonneg (by omega) (zqp _ _))
  refine ⟨(n + m * ztB s (11 * (c + 1) + 5)).fmod m,.list [.int ((n + m * ztB s (11 * (c + 1) + 5)).fdiv m),.int (c + 1),.int s],?_,Int.fmod_nonneg_of_pos _ (by omega),Int.fmod_lt_of_pos _ (by omega),_,_,_,rfl,gd _ nn,by omega,by omega⟩
  simp only [zbu,FL.run,List.length_cons,List.length_nil,Nat.reduceAdd,zgB,zan,sIf,tB,FL.e2,m2,za1,slots,if_true,Bool.false_eq_true,if_false,Nat.reduceSub,List.replicate,List.cons_append,List.nil_append,zz0,eC,ixD,R.of,zac,i0,eV,zz1,hlt,setM,za8,zjb,zcm,zaf,zaa,zai,sNx,i1,List.set_cons_zero,j1,List.set_cons_succ,i2,x1,x2,x3,j0,zaC,gN,zav,hm,hd,outs,outD,List.head?_cons]
 ·rw [decide_eq_false hn] at hlt
  refine ⟨n.fmod m,.list [.int (n.fdiv m),.int c,.int s],?_,Int.fmod_nonneg_of_pos _ (by omega),Int.fmod_lt_of_pos _ (by omega),_,_,_,rfl,gd _ h1,by omega,by omega⟩
  simp only [zbu,FL.run,List.length_cons,List.length_nil,Nat.reduceAdd,zgB,zan,sIf,tB,FL.e2,m2,za1,slots,if_true,Bool.false_eq_true,if_false,Nat.reduceSub,List.replicate,List.cons_append,List.nil_append,zz0,eC,ixD,R.of,zac,i0,eV,zz1,hlt,setM,za8,zjb,zcm,zaf,zaa,zai,sNx,i1,List.set_cons_zero,j1,List.set_cons_succ,i2,zaC,gN,zav,hm,hd,j0,outs,outD,List.head?_cons]
theorem zyE (ns:List Int) (k:Int) (h0:0<=k) (hk:k.natAbs < 65536):∃ a,zxY [.list (ns.map PyData.int),.int k]=.ok (.int a):=by
 have a3:=zaV (i:=3) (zaT (by decide)) (zaT hk) (by decide)
 have hl:ltD (.int k) (.int (ns.length:Int))=.ok (.bool (decide (k < ns.length))):=rfl
 by_cases h:k < ns.length
 ·rw [decide_eq_true h] at hl
  have:∃ a,atI (ns.map PyData.int) k=some (.int a):=by
   unfold atI ixN
   rw [List.length_map,if_pos h0,if_pos h]
   exact ⟨ns[k.toNat]'(by omega),by simp [show k.toNat < ns.length by omega]⟩
  obtain ⟨a,ea⟩:=this
  refine ⟨a,?_⟩
  simp only [zxY,za0,FL.run,List.length_cons,List.length_nil,Nat.reduceAdd,List.replicate,zkX,zan,sIf,tB,FL.e2,eV,slots,Bool.false_eq_true,if_false,Nat.sub_self,List.cons_append,List.nil_append,zz1,zz0,FL.e1,zcI,zac,List.length_map,hl,zav,ixD,R.of,sNx,ea,if_true,eC,za8,outs,outD]
 ·rw [decide_eq_false h] at hl
  refine ⟨3 * k + 1,?_⟩
  simp only [zxY,za0,FL.run,List.length_cons,List.length_nil,Nat.reduceAdd,List.replicate,zkX,zan,sIf,tB,FL.e2,eV,slots,Bool.false_eq_true,if_false,Nat.sub_self,List.cons_append,List.nil_append,zz1,zz0,FL.e1,zcI,zac,List.length_map,hl,zav,ixD,sNx,eC,za8,a3,outs,outD,if_true]
theorem ziw {k:Nat} {ix:List Nat} {g:GF} {t:TF} {f:EF} (P:Nat->List D->En->Prop):∀ (items:List D) (i:Nat) (acc:List D) (ρ:En),acc.length + items.length<=lim->acc.length=i->P i acc ρ ->
  (∀ x ∈ items,∀ j acc ρ,j < i + items.length->P j acc ρ->∃ β y β',g x (blk k ix ρ)=.ok β/\t β=.ok (true,β)/\f β=.ok (y,β')/\P (j + 1) (acc ++ [y]) (back ρ ix (β'.drop k))) ->
  ∃ acc' ρ',zjo k ix g t f items ρ acc=.ok (acc',ρ')/\acc'.length=i + items.length/\P (i + items.length) acc' ρ'
 | [],i,acc,ρ,_,e,h,_=>⟨acc,ρ,rfl,e,h⟩
 | x :: xs,i,acc,ρ,hl,e,h,hx=>by
  obtain ⟨β,y,β',h1,h2,h3,h4⟩:=hx x (List.mem_cons_self ..) i acc ρ (by simp) h
  have hl':acc.length + (xs.length + 1)<=lim:=hl
  obtain ⟨acc',ρ',e1',e2',e3'⟩:=ziw P xs (i + 1) (acc ++ [y]) _ (by simp;omega) (by simp;omega) h4 fun x m j acc ρ hj=>hx x (List.mem_cons_of_mem _ m) j acc ρ (by rw [List.length_cons];omega)
  refine ⟨acc',ρ',?_,by simp;omega,by rw [List.length_cons,show i + (xs.length + 1)=i + 1 + xs.length by omega];exact e3'⟩
  unfold zjo
  rw [h1,zac,h2,zac,if_pos rfl,h3,zac,zaI (zgP (by omega)),e1']
end FL
namespace FL
open PySem
theorem zng {i:Nat} {x:Sl}:∀ (ρ:En) (n:Nat),i < n->bkL [(i,x)] n ρ=ρ
 | [],_,_=>rfl
 | y :: r,n,h=>by
  unfold bkL
  rw [zeY (by rw [List.lookup_cons,show (n == i)=false from beq_eq_false_iff_ne.mpr (by omega)];rfl),zng r (n + 1) (by omega)]
theorem zkV {d d':D} {p:Bool}:∀ (ρ:En) (n i:Nat),ρ[i]?=some (.ow p d)->bkL [(n + i,.ow true d')] n ρ=ρ.set i (.ow p d')
 | [],_,_,h=>by simp at h
 | y :: r,n,0,h=>by
  have hy:y=.ow p d:=by simpa using h
  subst hy
  unfold bkL
  rw [Nat.add_zero,zng r (n + 1) (Nat.lt_succ_self n)]
  have:bk1 [(n,Sl.ow true d')] n (.ow p d)=.ow p d':=by
   unfold bk1
   rw [List.lookup_cons,beq_self_eq_true]
  rw [this]
  rfl
 | y :: r,n,i + 1,h=>by
  unfold bkL
  rw [zeY (by rw [List.lookup_cons,show (n == n + (i + 1))=false from beq_eq_false_iff_ne.mpr (by omega)];rfl),show n + (i + 1)=n + 1 + i by omega,zkV r (n + 1) i (by simpa using h)]
  rfl
theorem zfg {F:List D->R (D × List D)} {i:Nat} {f:EF} {ρ:En} {p:Bool} {d v r d' v':D} (hi:ρ[i]?=some (.ow p d)) (hf:f ρ=.ok (v,ρ)) (hF:F [d,v]=.ok (r,[d',v'])):zam F [.m i,.v f] ρ=.ok (r,ρ.set i (.ow p d')):=by
 have hm:za1 ρ i=.ok d:=by unfold za1;rw [hi]
 unfold zam
 simp only [zmA,hm,zac,hf,zkY,hF]
 have:=zkV (d:=d) (d':=d') (p:=p) ρ 0 i hi
 rw [Nat.zero_add] at this
 show R.ok (r,bkL [(i,.ow true d')] 0 ρ)=_
 rw [this]
theorem set_same {ρ:En} {i:Nat} {x:Sl} (h:ρ[i]?=some x):ρ.set i x=ρ:=by
 apply List.ext_getElem?
 intro j
 by_cases e:i=j
 ·subst e
  rw [List.getElem?_set_self (List.getElem?_eq_some_iff.mp h).1,h]
 ·rw [List.getElem?_set_ne e]
end FL
namespace L2
open PySem PySem.Spec PyProof.Rows
section
variable {X:Cx} {pins:List (Addr × Obj)} {σ:St} {H:Hp} {s:Shared} {a:Addr} {y v:V} {u r:Value} {A:Around} {E:Value->Shared->Prop}
theorem zrd {H':Hp} {Q:Unit->Shared->Prop} (hu:A.units + 1 < cLine) (I:Inv X pins σ H s) (g:zrI H a y v H') (ry:RelV y u) (rv:RelV v r) (h:∀ s',Inv X pins σ H' s'->Q () s') :
  wpAny (model X.prog X.w) A (dictSet a u r) Q E s:=by
 rcases g with ⟨kvs,k,e,ey,l,eH⟩ | ⟨kvs,k,b,e,ey,eb,l,eH⟩
 ·subst ey eH
  exact zyB I e l ry rv h
 ·subst ey eH
  cases (show u=Value.ref b from ry)
  obtain ⟨z,hd,xs,rel,dd⟩:=zxv I.hok e
  have hz:xs.length<=sizeLine:=by rw [<- Paired.length rel];exact z
  have hl:(putK kvs k v).length<=sizeLine:=by have:=zdf kvs k v;omega
  refine wpAny_dictSet_heap (hsz:=hz) (show A.units < cLine from Nat.lt_of_succ_lt hu) (zjM I.hok eb) dd fun h' dd' hs=>h _ ?_
  obtain ⟨q,es,ep,hq,h2,h3,h4,_,h5⟩:=dd'
  refine zgz I (by rw [e];exact True.intro) hs ⟨q,hq⟩ ⟨hl,hd,_,(rel.put k eb rv).keeps fun c ys ec=>?_,q,es,ep,hq,h2,h3,h4,h5⟩
  exact ec.upd (fun _ z=>zlx z e (fun z=>nomatch z)) fun _ _ z=>zlx z e (fun z=>nomatch z)
theorem zvp {H':Hp} {Q:Unit->Shared->Prop} (hu:A.units + 1 < cLine) (I:Inv X pins σ H s) (g:DP H a y v H') (ry:RelV y u) (rv:RelV v r) (h:∀ s',Inv X pins σ H' s'->Q () s') :
  wpAny (model X.prog X.w) A (dictSet a u r) Q E s:=by
 rcases g with g | ⟨k,b,e,rfl,eb,rfl⟩ | ⟨k,e,rfl,rfl⟩
 ·exact zrd hu I g ry rv h
 ·have eb':TAt (upd H a (.dT [])) b (k.map kV):=eb.upd (fun _ z=>zlx z e (fun z=>nomatch z)) fun _ _ z=>zlx z e (fun z=>nomatch z)
  have g:=zrI.t (H:=upd H a (.dT [])) (a:=a) (v:=v) zao eb' (by decide)
  rw [zhF] at g
  exact zrd hu (I.kt e) g ry rv h
 ·have g:=zrI.k (H:=upd H a (.dK [])) (a:=a) (k:=k) (v:=v) zao (by decide)
  rw [zhF] at g
  exact zrd hu (I.tk e) g ry rv h
end
def zmG (k:Nat) (ix:List Nat) (wi:TI) (g:TG) (tc:TT) (tk tv:TE):TE:=fun σ H Q=>wi σ H fun J H1=>∀ l,H1 l=none ->
 ∃ W:Nat->Nat->Hp->Prop,(∃ m,W 0 m (upd H1 l (.dK [])))/\∀ i m H2,W i m H2 ->
  ((J.stop i H2/\Q (.ref l) H2)\/(J.go i H2/\∀ x H3,J.yld i H2 x H3->g x (zeL k ix σ) H3 fun σ2 H4=>tc σ2 H4 fun b H5 =>
   if b=true then tk σ2 H5 fun y H6=>tv σ2 H6 fun v H7=>∃ H8,DP H7 l y v H8/\∃ m',m' < m/\W (i + 1) m' H8 else ∃ m',m' < m/\W (i + 1) m' H5))
section
variable {X:Cx}
theorem zqg {kx vx tg iter:Expr} {ifs:List Expr} {scope:Scope} {pos:Pos} {L:List Str} {ix:List Nat} {wi:TI} {g:TG} {tc:TT} {tk tv:TE} (hu:X.A.units + 1 < cLine) (hc:X.calm=true) (S:zeF X scope (zeM X ix)) (hix:∀ i ∈ ix,i < X.N.length) (hi:PI X tg iter wi)
  (hg:∀ C s₃ H₃ fp,PG (zap X (L ++ zeM X ix) scope C s₃ H₃ fp) tg g) (hgo:znu L.length g)
  (ht:∀ C s₃ H₃ fp,PTs (zap X (L ++ zeM X ix) scope C s₃ H₃ fp) ifs tc) (hk:∀ C s₃ H₃ fp,PE (zap X (L ++ zeM X ix) scope C s₃ H₃ fp) kx tk) (he:∀ C s₃ H₃ fp,PE (zap X (L ++ zeM X ix) scope C s₃ H₃ fp) vx tv)
  (hs:∀ x,foldedSetIterable iter X.env x=pure x:=by intro _;rfl) :
  PE X (.DictComp kx vx [⟨tg,iter,ifs,0⟩] scope pos) (zmG L.length ix wi g tc tk tv):=by
 intro pins s σ H Q I h
 rw [arm_eval_DictComp]
 refine wpAny_comprehension_free (use:=none) rfl hs (zdm fun y hy e=>I.ok.has y.1 (.inl (S.cell y hy e))) S.kind S.loc (thn (hi pins s σ H _ I h) fun xv s1 h1=>thn h1 fun itv s2 h2=>?_)
 obtain ⟨it,fp,tn,J,H2,rfl,I2,T,st2,f2,q⟩:=h2
 have nD:H2 s2.heap.objs.size=none:=I2.hok.fresh (Nat.le_refl _)
 obtain ⟨W,⟨m0,w0⟩,turn⟩:=q _ nD
 generalize hD:s2.heap.objs.size=D at nD w0 turn
 have fD:∀ b ∈ fp,b < D:=fun b hb=>by
  obtain ⟨o,e,_⟩:=T.obj _ _ st2 b hb
  rw [<- hD]
  exact Heap.lt_size e
 have I3:Inv X pins σ (upd H2 D (.dK [])) { s2 with heap:=s2.heap.push { cls:=.type "dict",data:=.dict #[] },toks:=s2.toks }:=by
  rw [<- hD]
  exact I2.laid (t':=s2.toks) (fun b u e=>Heap.get?_push_of_some _ e) (Nat.le_refl _) (zsU s2.heap I2.big)
 refine wpAny_newObj_type (zmN (fun h₁ hns₁ hsb₁ hcs₁=>?_)) (by show 0<=sizeLine + 1;exact Nat.zero_le _)
 rw [hD]
 have st3:tn 0 (s2.heap.push { cls:=.type "dict",data:=.dict #[] }):=T.keep _ _ _ st2 fun b hb o e=>Heap.get?_push_of_some _ e
 generalize hp3:s2.heap.push { cls:=.type "dict",data:=.dict #[] }=h3 at I3 st3 hns₁ hsb₁ hcs₁
 dsimp only at hns₁ hsb₁ hcs₁ ⊢
 have sz3:h3.objs.size=D + 1:=by rw [<- hp3,Heap.size_push,hD]
 have old:∀ b u,h3.get? b=some u->h₁.get? b=some u:=fun b u e=>hsb₁ b u e
 have f3:∀ b ∈ fp,znv X pins (upd H2 D (.dK [])) b:=fun b hb=>⟨by rw [zax (Nat.ne_of_lt (fD b hb))];exact (f2 b hb).1,(f2 b hb).2⟩
 have I4:=zh9 (L:=L) (ix:=ix) (t':=s2.toks) S I3 f3 (fun b hb=>by show b < h3.objs.size;rw [sz3];exact Nat.lt_succ_of_lt (fD b hb)) hix (h':=h₁) hns₁ old hcs₁
 have st4:tn 0 h₁:=T.keep _ _ _ st3 fun b hb o e=>old b o e
 generalize hC:(zap X (L ++ zeM X ix) scope h3.objs.size { s2 with heap:=h3,toks:=s2.toks } (upd H2 D (.dK [])) fp)=Y at I4
 have eEnv:Y.env=compEnvC scope (zlu h3.objs.size scope ++ ziz X.env.cells scope.names []) h3.objs.size X.env:=by rw [<- hC];rfl
 have hcY:Y.calm=true:=by rw [<- hC];exact hc
 have xeY:Y.xe=fun _ _=>False:=by rw [<- hC];rfl
 have eP:Y.prog=X.prog:=by rw [<- hC];rfl
 have eW:Y.w=X.w:=by rw [<- hC];rfl
 have eK:Y.K=X.K:=by rw [<- hC];rfl
 have eA:Y.A=X.A:=by rw [<- hC];rfl
 have gY:PG Y tg g:=by rw [<- hC];exact hg _ _ _ _
 have tY:PTs Y ifs tc:=by rw [<- hC];exact ht _ _ _ _
 have kY:PE Y kx tk:=by rw [<- hC];exact hk _ _ _ _
 have pY:PE Y vx tv:=by rw [<- hC];exact he _ _ _ _
 have stat:∀ {H':Hp},(∀ b ∈ fp,H' b=none)->∀ b ∈ fp,znv Y [] H' b:=fun {H'} hn b hb=>by
  have z1:b ∈ Y.ex:=by rw [<- hC];exact hb
  have zp:Y.pn=[]:=by rw [<- hC];rfl
  refine ⟨hn b hb,(I4.ok.exf b z1).1,I4.ok.exfs b z1,.inl z1,(I4.ok.exf b z1).2,fun p hp=>?_⟩
  rw [zp] at hp
  exact absurd hp (by simp)
 have fin:∀ {H':Hp} {s':Shared},Inv Y [] (zeL L.length ix σ) H' s'->Q (.ref D) H'->compPost (model X.prog X.w) X.A X.xe none (EP X pins σ Q) (.ref D) h3.objs.size (.ok .next) s':=by
  intro H' s' J' qe
  obtain ⟨m,hm,_⟩:=J'.loc
  rw [eEnv] at hm
  refine ⟨m,hm,fun h' sb=>⟨.ref D,H',?_,rfl,qe⟩⟩
  have hfr:H' h3.objs.size=none:=by
   have:=J'.free
   rw [eEnv] at this
   exact this
  have neC:∀ b u,H' b=some u->b ≠ h3.objs.size:=fun b u e z=>by rw [z,hfr] at e;cases e
  have base:Un (frs X.stack) fp (upd H2 D (.dK [])) H' h3 s'.heap:=by
   have:=J'.base
   rw [<- hC] at this
   exact this
  have to':∀ b o,b ≠ h3.objs.size->s'.heap.get? b=some o->h'.get? b=some o:=fun b o hb e=>sb.extBut b o hb e
  have lt3:∀ b o,h3.get? b=some o->b ≠ h3.objs.size:=fun b o e=>Nat.ne_of_lt (Heap.lt_size e)
  have un:Un (frs X.stack) fp (upd H2 D (.dK [])) H' h3 h' :=
   ⟨fun b o e n hb hx=>to' b o (lt3 b o e) (base.keep b o e n hb hx),
    fun b o e n hb hx=>by
    obtain ⟨sl,z⟩:=base.slot b o e n hb hx
    exact ⟨sl,to' _ _ (lt3 b o e) z⟩,
    base.free,
    fun b o e hx=>by
    obtain ⟨o',z⟩:=base.there b o e hx
    exact ⟨o',to' _ _ (lt3 b o e) z⟩,
    base.tups,base.frzs,base.tbls⟩
  have hok:HOk X.prog X.w H' h':=fun b u e=>by
   have z:=J'.hok b u e
   rw [eP,eW] at z
   refine z.stay (fun c v hcv qv=>to' c v ?_ qv) (fun _ qq=>qq) fun _ _ qq=>qq
   rcases hcv with zz | zz
   ·rw [zz];exact neC b u e
   ·exact neC c _ zz
  refine I3.call' (s':={ s' with heap:=h' }) (ch:=fp) ?_ un hok J'.bare fun b hb=>?_
  ·have:=J'.os
   rw [<- hC] at this
   exact this
  ·obtain ⟨_,g1,g2,g3,g4,g5⟩:=f2 b hb
   exact ⟨g3,g1,g4,g5⟩
 have key:∀ s5:Shared,s5={ s2 with heap:=h₁,toks:=s2.toks } ->
   codeAny (model X.prog X.w) X.A (.compLoop (.DictComp kx vx [⟨tg,iter,ifs,0⟩] scope pos) 0 (.ref it) (.ref D) (compEnvC scope (zlu h3.objs.size scope ++ ziz X.env.cells scope.names []) h3.objs.size X.env))
    (compPost (model X.prog X.w) X.A X.xe none (EP X pins σ Q) (.ref D) h3.objs.size) s5:=by
  rintro s5 rfl
  rw [<- eEnv,<- eP,<- eW,<- eA]
  refine zlY (fun n s'=>∃ i H',Inv Y [] (zeL L.length ix σ) H' s'/\tn i s'.heap/\(∀ b ∈ fp,H' b=none)/\W i n H') ?_ m0 ⟨0,_,?_,st4,fun b hb=>(f3 b hb).1,w0⟩
  ·rintro n s6 ⟨i,H6,I6,st6,fr6,w6⟩
   rcases turn i n H6 w6 with ⟨stop,qe⟩ | ⟨go,step⟩
   ·have Td:=T.done Y eP eW eK hcY i [] s6 _ H6 (fun _ _=>False) I6 (stat fr6) st6 stop
    rw [<- eP,<- eW] at Td
    refine wpAny_mono Td (fun r s7 hr7=>?_) fun _ _ f=>f.elim
    obtain ⟨hr,I7⟩:=hr7
    subst hr
    rw [eP,eW,eA]
    exact fin I7 qe
   ·have Ti:=T.item Y eP eW eK hcY i [] s6 _ H6 (fun _ _=>False) I6 (stat fr6) st6 go
    rw [<- eP,<- eW] at Ti
    refine wpAny_mono Ti (fun r s7 hr7=>?_) fun _ _ f=>f.elim
    obtain ⟨u,hr,h7⟩:=hr7
    subst hr
    refine wpAny_mono h7 (fun _ s8 hr8=>?_) fun _ _ f=>f.elim
    obtain ⟨x,H8,I8,r8,y8,st8,fr8⟩:=hr8
    have I8':=I8.pinned (stat fr8) (T.obj _ _ st8)
    have stp:=hgo _ _ _ _ (step x H8 y8)
    refine wpAny_mono (gY _ s8 _ H8 x u _ I8' r8 stp) (fun _ s9 ⟨σ9,H9,I9,⟨k1,k2⟩,q9⟩=>?_) fun _ _ f=>by rw [xeY] at f;exact f.elim
    have weak:∀ {Hz:Hp} {sz:Shared},Inv Y ([] ++ zhY fp s8.heap) σ9 Hz sz->Inv Y [] (zeL L.length ix σ) Hz sz/\tn (i + 1) sz.heap/\∀ b ∈ fp,Hz b=none:=fun {Hz sz} Iz=>by
     refine ⟨Iz.zet.weak k1.symm fun j v e=>?_,T.keep _ _ _ st8 fun b hb o e=>(Iz.pin (b,o) (List.mem_append_right _ (List.mem_append_right _ (zbF hb e)))).1,fun b hb=>?_⟩
     ·by_cases hj:L.length<=j
      ·rw [k2 j hj];exact e
      ·unfold zeL at e
       rw [List.getElem?_append_left (by simpa using Nat.lt_of_not_le hj),List.getElem?_replicate,if_pos (Nat.lt_of_not_le hj)] at e
       cases e
     ·obtain ⟨o,e,d⟩:=T.obj _ _ st8 b hb
      exact (Iz.pin (b,o) (List.mem_append_right _ (List.mem_append_right _ (zbF hb e)))).2.1
    refine wpAny_mono (tY _ s9 σ9 H9 _ I9 q9) (fun ok s10 ⟨H10,I10,q10⟩=>?_) fun _ _ f=>by rw [xeY] at f;exact f.elim
    cases ok with
    | false =>
     have q10':∃ m',m' < n/\W (i + 1) m' H10:=q10
     obtain ⟨m',hm',w10⟩:=q10'
     obtain ⟨z1,z2,z3⟩:=weak I10
     exact ⟨m',hm',i + 1,H10,z1,z2,z3,w10⟩
    | true =>
     refine wpAny_mono (kY _ s10 σ9 H10 _ I10 q10) (fun yv s11 ⟨y,H11,I11,r11,q11⟩=>?_) fun _ _ f=>by rw [xeY] at f;exact f.elim
     refine wpAny_mono (pY _ s11 σ9 H11 _ I11 q11) (fun xv s12 ⟨v,H12,I12,r12,H8',g12,m',hm',w12⟩=>?_) fun _ _ f=>by rw [xeY] at f;exact f.elim
     refine zvp (by rw [eA];exact hu) I12 g12 r11 r12 fun s13 I13=>?_
     obtain ⟨z1,z2,z3⟩:=weak I13
     exact ⟨m',hm',i + 1,_,z1,z2,z3,w12⟩
  ·exact I4
 exact codeAny_compStart_dict (key _ rfl) (T.self _ 0 _ _ _ st4 (key _ rfl))
theorem zoR {kx vx tg iter:Expr} {ifs:List Expr} {scope:Scope} {pos:Pos} {wi:TI} {g:TG} {tc:TT} {tk tv:TE} (L:List Str) (ix:List Nat) (M:List Str) (hu:X.A.units + 1 < cLine) (hc:X.calm=true) (hk:scope.kind=.function)
  (hd:zci X.env.scope scope X.N ix=true) (hM:M=L ++ ix.map fun i=>X.N.getD i "") (hi:PI X tg iter wi)
  (hg:∀ C s₃ H₃ fp,PG (zap X M scope C s₃ H₃ fp) tg g) (hgo:znu L.length g)
  (ht:∀ C s₃ H₃ fp,PTs (zap X M scope C s₃ H₃ fp) ifs tc) (hke:∀ C s₃ H₃ fp,PE (zap X M scope C s₃ H₃ fp) kx tk) (he:∀ C s₃ H₃ fp,PE (zap X M scope C s₃ H₃ fp) vx tv)
  (hs:∀ x,foldedSetIterable iter X.env x=pure x:=by intro _;rfl) :
  PE X (.DictComp kx vx [⟨tg,iter,ifs,0⟩] scope pos) (zmG L.length ix wi g tc tk tv):=by
 unfold zci at hd
 simp only [Bool.and_eq_true,List.all_eq_true,bne_iff_ne,ne_eq,Bool.or_eq_true,beq_iff_eq,decide_eq_true_eq,Bool.not_eq_true',List.contains_eq_mem,decide_eq_false_iff_not] at hd
 obtain ⟨⟨d1,d2⟩,d3⟩:=hd
 have eM:M=L ++ zeM X ix:=by rw [hM];unfold zeM;rfl
 subst eM
 refine zqg (L:=L) (ix:=ix) hu hc ⟨hk,fun y hy e=>?_,fun y hy e=>?_,fun x hx=>?_,fun y hy e=>?_⟩ d3 hi hg hgo ht hke he hs
 ·rcases (d1 y hy).1.1 with z | z
  ·exact absurd e z
  ·exact z
 ·rcases (d1 y hy).1.2 with z | z
  ·exact absurd e z
  ·exact z
 ·unfold zeM at hx
  exact d2 x hx
 ·rcases (d1 y hy).2 with z | z
  ·exact absurd e z
  ·exact z
end
end L2
namespace L2
open PySem PySem.Spec PyProof.Rows
end L2
namespace FL
open PySem
def enD:List D->R (List D)
 | [.list l]=>.ok (zij 0 l)
 | _=>.bad
def zpD:List D->R (List D)
 | [.list l,.list m]=>.ok (zjv l m)
 | _=>.bad
def zvc (a:AF):IF:=fun ρ=>(a ρ).bind fun x=>(enD x.1).bind fun l=>.ok (l,x.2)
def zpe (a:AF):IF:=fun ρ=>(a ρ).bind fun x=>(zpD x.1).bind fun l=>.ok (l,x.2)
def zgU (k:Nat) (ix:List Nat) (g:GF) (t:TF) (kf vf:EF):List D->En->D->R (D × En)
 | [],ρ,acc=>.ok (acc,ρ)
 | x :: xs,ρ,acc=>(g x (blk k ix ρ)).bind fun β=>(t β).bind fun c =>
   if c.1=true then (kf c.2).bind fun y=>(vf y.2).bind fun z=>(zq9 acc y.1 z.1).bind fun d=>zgU k ix g t kf vf xs (back ρ ix (z.2.drop k)) d
   else zgU k ix g t kf vf xs (back ρ ix (c.2.drop k)) acc
def zjQ (k:Nat) (ix:List Nat) (it:IF) (g:GF) (t:TF) (kf vf:EF):EF:=fun ρ=>(it ρ).bind fun x=>(zgU k ix g t kf vf x.1 x.2 (.dict [])).bind fun y=>.ok (y.1,y.2)
end FL
namespace FL
open PySem L2 PySem.Spec
open PyProof.Rows hiding St
theorem zq7:∀ (i:Nat) (l:List D),(zij i l).length=l.length
 | _,[]=>rfl
 | i,d :: r=>by rw [zij,List.length_cons,List.length_cons,zq7]
theorem zq8:∀ {i:Nat} {l:List D} {j:Nat} {x:D},(zij i l)[j]?=some x->∃ d,l[j]?=some d/\x=.tuple [.int ((i + j:Nat):Int),d]
 | _,[],_,_,h=>by simp [zij] at h
 | i,d :: r,0,x,h=>by
  simp only [zij,zz0,Option.some.injEq] at h
  exact ⟨d,rfl,h.symm⟩
 | i,d :: r,j + 1,x,h=>by
  simp only [zij,zz1] at h
  obtain ⟨d',h1,h2⟩:=zq8 h
  refine ⟨d',by simpa using h1,?_⟩
  rw [h2,Nat.add_assoc,Nat.add_comm 1 j]
theorem zpt:∀ {l m:List D} {j:Nat} {x:D},(zjv l m)[j]?=some x->∃ a b,l[j]?=some a/\m[j]?=some b/\x=.tuple [a,b]
 | [],_,_,_,h=>by simp [zjv] at h
 | _ :: _,[],_,_,h=>by simp [zjv] at h
 | a :: r,b :: s,0,x,h=>by
  simp only [zjv,zz0,Option.some.injEq] at h
  exact ⟨a,b,rfl,rfl,h.symm⟩
 | a :: r,b :: s,j + 1,x,h=>by
  simp only [zjv,zz1] at h
  obtain ⟨a',b',h1,h2,h3⟩:=zpt h
  exact ⟨a',b',by simpa using h1,by simpa using h2,h3⟩
theorem zps:∀ (l m:List D),(zjv l m).length=min l.length m.length
 | [],_=>by simp [zjv]
 | _ :: _,[]=>by simp [zjv]
 | a :: r,b :: s=>by simp only [zjv,List.length_cons,zps r s];omega
section
variable [Cs] {K:PySem.W.Frag} {X:Cx} {e e':Expr} {fa:AF} {pos:Pos} {es:List Expr} {k:Nat} {p0 p:Pos}
theorem zqW {H:Hp} {t:Addr} {a b:D} {u v:V} (h0:H t=none) (fa:Fz K H a u) (fb:Fz K H b v):Fz K (upd H t (.tup [u,v])) (.tuple [a,b]) (.ref t):=by
 have m:Fzn H (upd H t (.tup [u,v])):=Fzn.of (zbr.upd h0)
 simp only [Fz,zaj]
 exact ⟨t,[u,v],rfl,.inl zao,u,[v],rfl,fa.mono m,v,[],rfl,fb.mono m,rfl⟩
theorem zpy {H:Hp} {a:Addr} {vs:List V} {items:List D} (h:FzL K H a vs) (f:zaj K H items vs):Walk K (Ite K a) (zij 0 items) H:=by
 refine ⟨fun i d H' fz e=>?_,fun i H' fz e=>⟨vs,(fz.zoM h).sq,by rw [f.len,<- zq7 0];exact e⟩⟩
 obtain ⟨d',e',rfl⟩:=zq8 e
 obtain ⟨v,ev,fv⟩:=(f.mono fz).get e'
 refine ⟨⟨vs,v,(fz.zoM h).sq,ev⟩,fun x H'' y=>?_⟩
 obtain ⟨t,v',rfl,ht,rfl,hv⟩:=y
 have ex:=hv vs (fz.zoM h).sq
 rw [ev] at ex
 cases ex
 refine ⟨zbr.upd ht,?_⟩
 rw [Nat.zero_add]
 exact zqW ht (zeg _) fv
theorem zrO {H:Hp} {a b:Addr} {vs ws:List V} {l m:List D} (h:FzL K H a vs) (f:zaj K H l vs) (h':FzL K H b ws) (f':zaj K H m ws):Walk K (Itz K a b) (zjv l m) H:=by
 refine ⟨fun i d H' fz e=>?_,fun i H' fz e=>⟨vs,ws,(fz.zoM h).sq,(fz.zoM h').sq,?_⟩⟩
 ·obtain ⟨x,y,e1,e2,rfl⟩:=zpt e
  obtain ⟨u,eu,fu⟩:=(f.mono fz).get e1
  obtain ⟨v,ev,fv⟩:=(f'.mono fz).get e2
  refine ⟨⟨vs,ws,u,v,(fz.zoM h).sq,(fz.zoM h').sq,eu,ev⟩,fun x H'' y=>?_⟩
  obtain ⟨t,u',v',rfl,ht,rfl,hu,hv⟩:=y
  have ex:=hu vs (fz.zoM h).sq
  rw [eu] at ex
  cases ex
  have ex:=hv ws (fz.zoM h').sq
  rw [ev] at ex
  cases ex
  exact ⟨zbr.upd ht,zqW ht fu fv⟩
 ·rw [zps] at e
  rw [f.len,f'.len]
  omega
theorem znL (hg:Gl X "enumerate") (hm:X.mg "enumerate"=none) (ha:PVA K X [e] fa) (hs:starEach [e] X.env=[(false,eval e X.env)]:=by rfl):PVI K X (.Tuple es k p0) (.Call (.Name "enumerate" p) [e] [] pos) (zvc fa):=fun hK=>by
 subst hK
 refine (zuI hg hm (ha rfl) hs).weak fun σ H R=>?_
 rintro ⟨ρ,rel,q⟩
 refine goA rel q fun ds ρ1 vs H1 rel1 st1 fs q1=>?_
 obtain ⟨items,ei,q2⟩:=q1.ziB
 cases ds with
 | nil=>cases ei
 | cons d r =>
  cases r with
  | cons _ _=>cases d <;> cases ei
  | nil =>
   cases d with
   | list a =>
    cases ei
    simp only [zaj,Fz] at fs
    obtain ⟨_,_,rfl,⟨l,vs,rfl,sx,f⟩,rfl⟩:=fs
    exact ⟨l,rfl,⟨vs,sx.sq⟩,q2.now rel1 _ (zpy sx f)⟩
   | _=>cases ei
theorem zhV (hg:Gl X "zip") (hm:X.mg "zip"=none) (ha:PVA K X [e,e'] fa) (hs:starEach [e,e'] X.env=[(false,eval e X.env),(false,eval e' X.env)]:=by rfl) (hs2:starEach [e'] X.env=[(false,eval e' X.env)]:=by rfl):PVI K X (.Tuple es k p0) (.Call (.Name "zip" p) [e,e'] [] pos) (zpe fa):=fun hK=>by
 subst hK
 refine (zwp hg hm (ha rfl) hs hs2).weak fun σ H R=>?_
 rintro ⟨ρ,rel,q⟩
 refine goA rel q fun ds ρ1 vs H1 rel1 st1 fs q1=>?_
 obtain ⟨items,ei,q2⟩:=q1.ziB
 match ds,ei,fs with
 | [.list a,.list b],ei,fs =>
  cases ei
  simp only [zaj,Fz] at fs
  obtain ⟨_,_,rfl,⟨l,vs,rfl,sx,f⟩,_,_,rfl,⟨l',vs',rfl,sx',f'⟩,rfl⟩:=fs
  exact ⟨l,l',rfl,⟨vs,sx.sq⟩,⟨vs',sx'.sq⟩,q2.now rel1 _ (zrO sx f sx' f')⟩
end
section
variable [Cs] {K:PySem.W.Frag} {X:Cx} {ke ve tg iter:Expr} {ifs:List Expr} {scope:Scope} {pos:Pos} {it:IF} {g:GF} {t:TF} {kf vf:EF} {dom:List Nat}
theorem znS {o:HO} (h:Own o):¬ zxM o:=by cases o <;> simp [Own,zxM] at h ⊢
theorem zvg {k:Nat} {ix:List Nat} (nd:ix.Nodup) (hgo:dom.all (fun i=>decide (i < k))=true) (σ:L2.St) (H:Hp) (Q:VK) (q:tN K (zjQ k ix it g t kf vf) σ H Q):zmG k ix (tI K it) (tG K dom g) (tT K t) (tV K kf) (tV K vf) σ H Q:=by
 revert q
 rintro ⟨ρ0,rel0,q⟩
 obtain ⟨x,ex,q⟩:=q.bnd
 refine ⟨ρ0,rel0,?_⟩
 rw [ex]
 intro H1 rel1 st1 J wk l hl
 obtain ⟨items,ρs⟩:=x
 have hl0:H l=none:=by
  cases e:H l with
  | none=>rfl
  | some o =>
   by_cases m:MA ρ0 σ l
   ·obtain ⟨o',e',_⟩:=rel1.zbk (st1.ma.mp m)
    rw [hl] at e';cases e'
   ·rw [st1.kp l o e m] at hl;cases hl
 have sl:zbr H1 (upd H1 l (.dK [])):=zbr.upd hl
 refine ⟨fun i m H2=>m=items.length - i/\i<=items.length/\∃ ρ acc,zbV K H2 l acc/\Rel K ρ σ H2/\¬ MA ρ σ l/\Fzn H1 H2/\Stp ρ0 ρ σ H H2 /\
  Good K ρ0 σ H ((zgU k ix g t kf vf (items.drop i) ρ acc).bind fun (y:D × En)=>.ok (y.1,y.2)) fun d ρ' H'=>∀ a,H a=none->zbV K H' a d->Q (.ref a) H',
  ⟨items.length,by simp,Nat.zero_le _,ρs,.dict [],.inr ⟨[],zao,by simp [zck]⟩,rel1.same sl,fun z=>?_,Fzn.of sl,st1.trans (.of sl),q⟩,?_⟩
 ·obtain ⟨o',e',_⟩:=rel1.zbk z
  rw [hl] at e';cases e'
 rintro i m H2 ⟨rfl,hi,ρ,acc,mu,rel,nma,fz,st0,gd⟩
 obtain ⟨ob,hly,own⟩:=mu.own
 by_cases c:i < items.length
 ·have ed:=List.drop_eq_getElem_cons c
  rw [ed] at gd
  obtain ⟨hgo',hy⟩:=wk.1 i items[i] H2 fz (List.getElem?_eq_getElem c)
  refine .inr ⟨hgo',fun x H3 y=>?_⟩
  obtain ⟨sm,fx⟩:=hy x H3 y
  have rel3:Rel K ρ σ H3:=rel.same sm
  obtain ⟨w,ew,gd⟩:=gd.ziB
  obtain ⟨β1,e1,ew⟩:=zau (show (g items[i] (blk k ix ρ)).bind _=.ok w from ew)
  obtain ⟨c1,ec,ew⟩:=zau ew
  refine ⟨blk k ix ρ,items[i],β1,zrk nd rel3,fx,e1,fun σ1 relβ chg=>⟨β1,relβ,?_⟩⟩
  rw [ec]
  intro H5 rel5 st5
  have hσ:∀ j,σ1[k + j]?=(zeL k ix σ)[k + j]?:=fun j=>by
   rcases chg.2 (k + j) with ⟨_,c2⟩ | ⟨m,_⟩
   ·exact c2
   ·have:=of_decide_eq_true (List.all_eq_true.mp hgo _ m)
    omega
  have hβ:∀ j,β1[k + j]?=(blk k ix ρ)[k + j]?:=fun j=>by
   rcases chg.2 (k + j) with ⟨c2,_⟩ | ⟨m,_⟩
   ·exact c2
   ·have:=of_decide_eq_true (List.all_eq_true.mp hgo _ m)
    omega
  have hMA:∀ a,MA β1 σ1 a->MA (blk k ix ρ) (zeL k ix σ) a:=fun a ⟨j,⟨p,d,z1⟩,z2⟩=>by
   rcases chg.2 j with ⟨c1,c2⟩ | ⟨_,⟨d',c1⟩,_⟩
   ·exact ⟨j,⟨p,d,by rw [<- c1];exact z1⟩,by rw [<- c2];exact z2⟩
   ·rw [c1] at z1;cases z1
  have hMB:∀ a,MA (blk k ix ρ) (zeL k ix σ) a->MA ρ σ a:=fun a ⟨j,h⟩=>by
   obtain ⟨_,i,_,_,h⟩:=zj0 h
   exact ⟨i,h⟩
  have h3l:H3 l=some ob:=sm l _ hly
  have n1:¬ MA β1 σ1 l:=fun z=>nma (hMB l (hMA l z))
  have h5l:H5 l=some ob:=st5.kp l _ h3l n1
  obtain ⟨cb,β2⟩:=c1
  cases cb with
  | true =>
   refine zsE ⟨β2,rel5,?_⟩
   obtain ⟨y,ey,ew⟩:=zau (show (kf β2).bind _=.ok w from ew)
   obtain ⟨z,ez,ew⟩:=zau ew
   obtain ⟨d',ed',ew⟩:=zau ew
   rw [ey]
   intro H6 rel6 st6 v fv
   refine ⟨y.2,rel6,?_⟩
   rw [ez]
   intro H7 rel7 st7 v2 fv2
   have n2:¬ MA β2 σ1 l:=fun z=>n1 (st5.ma.mpr z)
   have h6l:H6 l=some ob:=st6.kp l _ h5l n2
   have n3:¬ MA y.2 σ1 l:=fun z=>n2 (st6.ma.mpr z)
   have h7l:H7 l=some ob:=st7.kp l _ h6l n3
   have st:Stp β1 z.2 σ1 H3 H7:=(st5.trans st6).trans st7
   obtain ⟨rb,sb⟩:=zkW (k:=k) nd rel3 hσ rel7 (fun j p=>by rw [<- hβ j];exact (st.md (k + j) p).symm) (fun a o h n=>st.kp a o h fun z=>n (hMA a z))
   have nmb:¬ MA (back ρ ix (z.2.drop k)) σ l:=fun z=>nma (sb.ma.mpr z)
   have fz6:Fzn H2 H7:=(Fzn.of sm).trans (sb.fzn rel3)
   have mut7:zbV K H7 l acc:=mu.mono fz6 (by rw [h7l,hly])
   obtain ⟨o',dp,mut8⟩:=zxy mut7 (fv.mono (st7.fzn rel6)) fv2 ed'
   have fz7:Fzn H7 (upd H7 l o'):=fun b u e s=>by
    rw [zax fun z=>by subst z;rw [h7l] at e;cases e;exact znS own s]
    exact e
   refine ⟨_,dp,items.length - (i + 1),by omega,rfl,c,back ρ ix (z.2.drop k),d',mut8,rb.put nmb (fun u e=>by rw [h7l] at e;cases e;exact znS own),nmb,(fz.trans fz6).trans fz7,⟨((st0.trans (.of sm)).trans sb).md,fun a o h n=>?_⟩,?_⟩
   ·rw [zax fun z=>by subst z;rw [hl0] at h;cases h]
    exact ((st0.trans (.of sm)).trans sb).kp a o h n
   ·rw [ew]
    exact gd
  | false =>
   obtain ⟨rb,sb⟩:=zkW (k:=k) nd rel3 hσ rel5 (fun j p=>by rw [<- hβ j];exact (st5.md (k + j) p).symm) (fun a o h n=>st5.kp a o h fun z=>n (hMA a z))
   have nmb:¬ MA (back ρ ix (β2.drop k)) σ l:=fun z=>nma (sb.ma.mpr z)
   have fz6:Fzn H2 H5:=(Fzn.of sm).trans (sb.fzn rel3)
   refine zsF ⟨items.length - (i + 1),by omega,rfl,c,back ρ ix (β2.drop k),acc,mu.mono fz6 (by rw [h5l,hly]),rb,nmb,fz.trans fz6,(st0.trans (.of sm)).trans sb,?_⟩
   rw [show zgU k ix g t kf vf (items.drop (i + 1)) (back ρ ix (β2.drop k)) acc=.ok w from ew]
   exact gd
 ·have e:i=items.length:=by omega
  subst e
  rw [List.drop_length] at gd
  exact .inl ⟨wk.2 _ H2 fz (Nat.le_refl _),gd H2 rel st0 l hl0 mu⟩
theorem zp2 (L:List Str) (ix:List Nat) (M:List Str) (hu:X.A.units + 1 < cLine) (hc:X.calm=true) (hk:scope.kind=.function) (hd:zci X.env.scope scope X.N ix=true) (hM:M=L ++ ix.map fun i=>X.N.getD i "") (nd:ix.Nodup) (hi:PVI K X tg iter it)
  (hg:∀ C s₃ H₃ fp,PVG K (zap X M scope C s₃ H₃ fp) dom tg g) (hgo:dom.all (fun i=>decide (i < L.length))=true)
  (ht:∀ C s₃ H₃ fp,zt0 K (zap X M scope C s₃ H₃ fp) ifs t) (hke:∀ C s₃ H₃ fp,PV K (zap X M scope C s₃ H₃ fp) ke kf) (he:∀ C s₃ H₃ fp,PV K (zap X M scope C s₃ H₃ fp) ve vf)
  (hs:∀ x,foldedSetIterable iter X.env x=pure x:=by intro _;rfl) :
  PVN K X (.DictComp ke ve [⟨tg,iter,ifs,0⟩] scope pos) (zjQ L.length ix it g t kf vf):=fun hK=>by
 refine (zoR L ix M hu hc hk hd hM (hi hK) (fun C s₃ H₃ fp=>hg C s₃ H₃ fp hK) (zkK hgo) (fun C s₃ H₃ fp=>ht C s₃ H₃ fp hK) (fun C s₃ H₃ fp=>hke C s₃ H₃ fp hK) (fun C s₃ H₃ fp=>he C s₃ H₃ fp hK) hs).weak fun σ H Q q=>zvg nd hgo σ H Q q
end
end FL
namespace FL
open PySem L2 PySem.Spec
open PyProof.Rows hiding St
end FL
namespace PySem
open Spec
end PySem
namespace FL
open PySem L2 PySem.Spec
open PyProof.Rows hiding St
end FL
namespace FL
open PySem L2 PySem.Spec
open PyProof.Rows hiding St
end FL
namespace L2
open PySem PySem.Spec PyProof.Rows
open PySem.SeqAt
open PySem.AutoSeq1 (wpAny_loadPart')
open PySem.MeetsSeq PySem.MeetsSeq2 PySem.MeetsSeq3
end L2
namespace FL
open PySem L2 PySem.Spec
open PyProof.Rows hiding St
end FL
namespace FL
open PySem
def intD:D->R D
 | .bool b=>.ok (.int (if b then 1 else 0))
 | .int i=>.ok (.int i)
 | _=>.bad
def zjz:D->R D
 | .dict kvs=>(R.of (intsOf (kvs.map (·.1)))).bind fun ns=>chk (leB (ns.length + 1) 64) (.ok (.list ((zjN ns).map .int)))
 | _=>.bad
end FL
namespace L2
open PySem PySem.Spec PyProof.Rows PySem.W
theorem zkU {X:Cx} (hc:X.calm=true):zgJ X (.builtin "sorted") (fun xs H Q=>∃ (d:Addr) (ks:List Int),xs=[V.ref d]/\IsD H d/\(∀ vs,ztk H d vs->vs=ks.map V.int)/\ks.length < 64 /\
  ∀ (l:Addr) (ns:List Int),H l=none->ns.Perm ks->ns.Pairwise (·<=·)->Q (.ref l) (upd H l (.lst (ns.map V.int)))):=by
 intro pins s σ H xs us Q I r h
 obtain ⟨d,ks,rfl,rd,hk,lk,q⟩:=h
 obtain ⟨u,rfl,ru⟩:=vals1 r
 cases ru
 refine Calls.call_function_entry kind_sorted plain_sorted entry_sorted (args_sorted1 _) ?_
 unfold Builtin.«sorted»
 refine wpAny_bind (m:=checkCount "sorted" 1 1 _) (wpAny_pure ?_)
 refine wpAny_bind (zs0 (I.ok.hd hc) I rd (fun xs dk=>by rw [hk xs dk,List.length_map];exact lk) fun xs its s1 dk rv I1=>?_)
 have ex:=hk xs dk
 subst ex
 have hI:IntsAre its ks:=intsAre_of rv
 have li:its.length=ks.length:=by have:=hI.length;omega
 refine wpAny_bind (wpAny_newList ?_ (by rw [sizeLine_eq];omega))
 have hoL:(s1.heap.push (seqObj "list" its.toArray 0)).get? s1.heap.objs.size=some (seqObj "list" its.toArray 0):=Heap.get?_push_size _ rfl
 refine wpAny_bind (wpAny_holding (wpAny_call_entry slot_list_sort ⟨_,hoL,rfl⟩ entry_list_sort (list_sort_tree hoL hI (by omega) fun out ns' a1 a2 a3=>⟨_,rfl,?_⟩) (args_list_sort _)))
 refine wpAny_pure ⟨_,rfl,.ref s1.heap.objs.size,upd H s1.heap.objs.size (.lst (ns'.map V.int)),?_,rfl,q _ ns' (I1.hok.fresh (Nat.le_refl _)) a2 a3⟩
 obtain ⟨e,he⟩:=sortedHeap_at (out:=out) hoL
 have va:=zjx a1
 refine I1.laid (t':=s1.toks) (fun b u eb=>?_) (Nat.le_refl _) ⟨by rw [List.length_map,a2.length_eq,sizeLine_eq];omega,out.toList,e,va,by simpa [seqObj] using he⟩
 have lt:=Heap.lt_size eb
 rw [sortedHeap_old (Nat.ne_of_lt lt) (by rw [Heap.size_push];exact Nat.lt_succ_of_lt lt)]
 exact Heap.get?_push_of_some _ eb
end L2
namespace FL
open PySem L2 PySem.Spec
open PyProof.Rows hiding St
variable [Cs]
section
variable {K:PySem.W.Frag} {X:Cx} {b:Expr} {h:EF} {pos:Pos}
theorem zxE:CallD X (.type "int") intD:=by
 intro pins s σ H xs us Q I r h
 obtain ⟨x,dx,d,rfl,tx,e,q⟩:=h
 obtain ⟨u,rfl,ru⟩:=vals1 r
 cases dx with
 | bool c =>
  have tx:Fz X.K H (.bool c) x:=tx
  simp only [Fz] at tx
  subst tx
  cases e
  cases ru
  exact PySem.call_int_bool ⟨.int _,H,I.tok _,⟨_,rfl⟩,q _ H (zbr.refl _) (by simp [Fz])⟩
 | int i =>
  have tx:Fz X.K H (.int i) x:=tx
  simp only [Fz] at tx
  subst tx
  cases e
  obtain ⟨t,rfl⟩:=ru
  exact PySem.call_int_int ⟨.int i,H,I,⟨t,rfl⟩,q _ H (zbr.refl _) (by simp [Fz])⟩
 | _=>exact nomatch (show (R.bad:R D)=.ok d from e)
theorem zsp {ds:List D} {d:D} (e:one zjz ds=.ok d):∃ kvs,ds=[.dict kvs]/\zjz (.dict kvs)=.ok d:=by
 match ds,e with
 | [x],e=>cases x <;> first | exact ⟨_,rfl,e⟩ | exact nomatch (show (R.bad:R D)=.ok d from e)
 | [],e=>exact nomatch (show (R.bad:R D)=.ok d from e)
 | _ :: _ :: _,e=>exact nomatch (show (R.bad:R D)=.ok d from e)
theorem zvz (hc:X.calm=true):zgJ X (.builtin "sorted") (rDs X.K (one zjz)):=by
 intro pins s σ H xs us Q I r h
 obtain ⟨ds,d,fa,e,q⟩:=h
 obtain ⟨kvs,rfl,e⟩:=zsp e
 simp only [zaj] at fa
 obtain ⟨v,_,rfl,fv,rfl⟩:=fa
 obtain ⟨ns,en,e⟩:=zau (show (R.of (intsOf (kvs.map (·.1)))).bind _=.ok d from e)
 obtain ⟨c,e⟩:=zb6 e
 cases e
 have fv':=fv
 simp only [Fz] at fv'
 obtain ⟨a,o,rfl,_⟩:=fv'
 refine thn (zkU hc pins s σ H _ us (fun v H1=>∃ p,v=.ref p/\H p=none/\H1=upd H p (.lst ((zjN ns).map V.int))) I r ⟨a,ns,rfl,zxi fv,fun vs dk=>(zaj.ints (zsT fv dk) (zqk en)).1,zlE c,fun l ms hl pm pw=>⟨l,rfl,hl,?_⟩⟩) fun _ _ z=>zlW (zaj.ofInts _) q z
 have:ms=zjN ns:=zlo (le:=(·<=·)) (pm.trans (ze9 ns).symm) pw (zdg ns) fun a _ b _ h1 h2=>Int.le_antisymm h1 h2
 rw [this]
end
end FL
namespace FL
open PySem L2 PySem.Spec
open PyProof.Rows hiding St
variable [Cs]
section
variable {P:Program} {w:World} {K:PySem.W.Frag} {mg:Str->Option Value} {base:Heap} {x:Str} {st:Stmt} {ps:List Str} {k:Nat} {b:SF} {fr:Bool}
theorem fnM (ms:List Bool) (N:List Str) (h:Has K mg x st)
  (hb:∀ {f:Addr} {cdv:Value} {A:Around} {outer:List Env} {s:Shared} {H:Hp} {E:XK},zcZ k (A.deeper (envOfC x (zaF st) s.heap.objs.size f cdv))->N.Nodup->zmB K (zrL (CXe P w) P w K mg base N x (zaF st) f cdv A outer s H E).nox (zbT st) b)
  (S:zeq N ps (zaF st):=by exact ⟨rfl,rfl,rfl,by decide +kernel,rfl,by decide +kernel,by decide +kernel⟩) (hps:ps.length=ms.length:=by rfl) (hpN:ps.length<=N.length:=by decide)
  (hbi:∀ (kV doc pm:Value) (an:Option Addr) (cdv ct:Value) (us:List Value),us.length=ps.length->bindArgs (PySem.W.fnOf x x (zdl st) (zbT st) (zaF st) .none kV doc pm an cdv ct) ⟨us,[]⟩=pure (ps.zip us):=by
   first
    | exact fun _ _ _ _ _ _ us hl=>match us,hl with | [_],_=>rfl
    | exact fun _ _ _ _ _ _ us hl=>match us,hl with | [_,_],_=>rfl
    | exact fun _ _ _ _ _ _ us hl=>match us,hl with | [_,_,_],_=>rfl
    | exact fun _ _ _ _ _ _ us hl=>match us,hl with | [_,_,_,_],_=>rfl
    | exact fun _ _ _ _ _ _ us hl=>match us,hl with | [_,_,_,_,_],_=>rfl):Callee P w K mg base x (k + 1) ps (spF K ms fr (FL.run ms fr N.length b)) :=
 zxn ms fr h S hps hpN hbi fun f cdv A outer s H E hr=>zpZ (hb hr S.nd)
theorem fnP (N:List Str) (h:Has K mg x st)
  (hb:∀ {f:Addr} {cdv:Value} {A:Around} {outer:List Env} {s:Shared} {H:Hp} {E:XK},zcZ k (A.deeper (envOfC x (zaF st) s.heap.objs.size f cdv))->N.Nodup->zmB K (zrL (CXe P w) P w K mg base N x (zaF st) f cdv A outer s H E).nox (zbT st) b)
  (S:zeq N ps (zaF st):=by exact ⟨rfl,rfl,rfl,by decide +kernel,rfl,by decide +kernel,by decide +kernel⟩) (hpN:ps.length<=N.length:=by decide)
  (hbi:∀ (kV doc pm:Value) (an:Option Addr) (cdv ct:Value) (us:List Value),us.length=ps.length->bindArgs (PySem.W.fnOf x x (zdl st) (zbT st) (zaF st) .none kV doc pm an cdv ct) ⟨us,[]⟩=pure (ps.zip us):=by
   first
    | exact fun _ _ _ _ _ _ us hl=>match us,hl with | [_],_=>rfl
    | exact fun _ _ _ _ _ _ us hl=>match us,hl with | [_,_],_=>rfl
    | exact fun _ _ _ _ _ _ us hl=>match us,hl with | [_,_,_],_=>rfl
    | exact fun _ _ _ _ _ _ us hl=>match us,hl with | [_,_,_,_],_=>rfl
    | exact fun _ _ _ _ _ _ us hl=>match us,hl with | [_,_,_,_,_],_=>rfl):Callee P w K mg base x (k + 1) ps (spP K ps.length fr (za0 fr ps.length N.length b)) :=
 Callee.pure (fnM (List.replicate ps.length false) N h hb S (by simp) hpN hbi)
end
section
variable {K:PySem.W.Frag} {X:Cx} {a b c e:Expr} {es:List Expr} {f h g1 g2:EF} {fa:AF} {pos p:Pos} {j k:Nat}
theorem a1 (ha:PV K X a f) (hs:starEach [a] X.env=(false,eval a X.env) :: starEach [] X.env:=by rfl):PVA K X [a] (zaa f zai):=zko ha zhW hs
theorem a2 (ha:PV K X a f) (hb:PV K X b h) (hs:starEach [a,b] X.env=(false,eval a X.env) :: starEach [b] X.env:=by rfl) (hs2:starEach [b] X.env=(false,eval b X.env) :: starEach [] X.env:=by rfl):PVA K X [a,b] (zaa f (zaa h zai)):=zko ha (a1 hb hs2) hs
theorem a3 (ha:PV K X a f) (hb:PV K X b h) (hc:PV K X c g1) (hs:starEach [a,b,c] X.env=(false,eval a X.env) :: starEach [b,c] X.env:=by rfl) (hs2:starEach [b,c] X.env=(false,eval b X.env) :: starEach [c] X.env:=by rfl) (hs3:starEach [c] X.env=(false,eval c X.env) :: starEach [] X.env:=by rfl):PVA K X [a,b,c] (zaa f (zaa h (zaa g1 zai))):=zko ha (a2 hb hc hs2 hs3) hs
variable {ps:List Str} {x y:Str} {G:List D->R D} {n:Nat} {py:Pos}
theorem zaR (cc:Callee X.prog X.w X.K X.mg X.base x k ps (spP X.K n false G)) (hr:zcZ j X.A) (ha:PVA K X (e :: es) fa) (hl:zvJ fa n:=by repeat (first | exact zoz | refine zmh ?_)) (hg:Gl X x:=by rfl) (hj:k<=j:=by decide) (hdb:(x == ("__debug__":Str))=false:=by decide)
  (he:starEach (e :: es) X.env=(false,eval e X.env) :: starEach es X.env:=by rfl) (hpl:(backTo pos (starEach es X.env)).any (·.1)=false:=by rfl):PV K X (.Call (.Name x p) (e :: es) [] pos) (zaf G fa):=zuv cc hr hg zks ha hl hj hdb he hpl
theorem zcl (cc:Callee X.prog X.w X.K X.mg X.base x k ps (spP X.K n true G)) (hr:zcZ j X.A) (ha:PVA K X (e :: es) fa) (hl:zvJ fa n:=by repeat (first | exact zoz | refine zmh ?_)) (hg:Gl X x:=by rfl) (hj:k<=j:=by decide) (hdb:(x == ("__debug__":Str))=false:=by decide)
  (he:starEach (e :: es) X.env=(false,eval e X.env) :: starEach es X.env:=by rfl) (hpl:(backTo pos (starEach es X.env)).any (·.1)=false:=by rfl):PVN K X (.Call (.Name x p) (e :: es) [] pos) (zaf G fa):=zr5 cc hr hg zks ha hl hj hdb he hpl
variable {F:List D->R (D × List D)} {ar:List Ar}
theorem ze7 (cc:Callee X.prog X.w X.K X.mg X.base x k ps (spF X.K (arM ar) false F)) (hr:zcZ j X.A) (ha:zry K X (e :: es) ar) (ho:zvQ F (arM ar).length:=by exact znU) (nd:(arI ar).Nodup:=by decide) (ct:arT ar<=1:=by decide) (hg:Gl X x:=by rfl) (hj:k<=j:=by decide) (hdb:(x == ("__debug__":Str))=false:=by decide)
  (he:starEach (e :: es) X.env=(false,eval e X.env) :: starEach es X.env:=by rfl) (hpl:(backTo pos (starEach es X.env)).any (·.1)=false:=by rfl):PV K X (.Call (.Name x p) (e :: es) [] pos) (zam F ar):=zr7 cc ho nd ct hr hg zks ha hj hdb he hpl
theorem zwe (cc:Callee X.prog X.w X.K X.mg X.base x k ps (spF X.K (arM ar) true F)) (hr:zcZ j X.A) (ha:zry K X (e :: es) ar) (ho:zvQ F (arM ar).length:=by exact znU) (nd:(arI ar).Nodup:=by decide) (ct:arT ar<=1:=by decide) (hg:Gl X x:=by rfl) (hj:k<=j:=by decide) (hdb:(x == ("__debug__":Str))=false:=by decide)
  (he:starEach (e :: es) X.env=(false,eval e X.env) :: starEach es X.env:=by rfl) (hpl:(backTo pos (starEach es X.env)).any (·.1)=false:=by rfl):PVN K X (.Call (.Name x p) (e :: es) [] pos) (zam F ar):=zp3 cc ho nd ct hr hg zks ha hj hdb he hpl
theorem zmz (i:Nat) (h:zry K X es ar) (ha:PE X (.Name y py) (zrJ i):=by exact pv _) (hs:starEach (.Name y py :: es) X.env=(false,eval (.Name y py) X.env) :: starEach es X.env:=by rfl):zry K X (.Name y py :: es) (.m i :: ar):=zwf i ha h hs
theorem zdG {id:String} {g:D->R D} (hc:CallD X (.builtin id) g) (hm:X.mg x=none) (hv:bootBuiltins x=some (.builtin id)) (ha:PV K X e f) (hg:Gl X x:=by rfl) (hn:x ≠ "__name__":=by decide) (hdb:(x == ("__debug__":Str))=false:=by decide)
  (he:starEach [e] X.env=(false,eval e X.env) :: starEach [] X.env:=by rfl) (hpl:(backTo pos (starEach [] X.env)).any (·.1)=false:=by rfl):PV K X (.Call (.Name x p) [e] [] pos) (e1 g f):=zmK (znN (CallD.ds hc) hg hm hv (a1 ha he) hn hdb he hpl)
theorem zuu {T:String} {g:D->R D} (hc:CallD X (.type T) g) (hm:X.mg x=none) (hv:bootBuiltins x=some (.type T)) (ha:PV K X e f) (hg:Gl X x:=by rfl) (hn:x ≠ "__name__":=by decide) (hdb:(x == ("__debug__":Str))=false:=by decide)
  (he:starEach [e] X.env=(false,eval e X.env) :: starEach [] X.env:=by rfl) (hpl:(backTo pos (starEach [] X.env)).any (·.1)=false:=by rfl):PV K X (.Call (.Name x p) [e] [] pos) (e1 g f):=zmK (zp5 (CallD.ds hc) hg hm hv (a1 ha he) hn hdb he hpl)
theorem zhX {T:String} {tn:Str} {p2:Pos} (kt:znk T) (hm:X.mg "isinstance"=none) (hm2:X.mg tn=none) (hv2:bootBuiltins tn=some (.type T)) (ha:PV K X a f) (hg:Gl X "isinstance":=by rfl) (hg2:Gl X tn:=by rfl) (hn:tn ≠ "__name__":=by decide) (hd:(tn == ("__debug__":Str))=false:=by decide)
  (hs1:starEach [a,.Name tn p2] X.env=(false,eval a X.env) :: starEach [.Name tn p2] X.env:=by rfl) (hs2:starEach [.Name tn p2] X.env=(false,eval (.Name tn p2) X.env) :: starEach [] X.env:=by rfl) (hpl:(backTo pos (starEach [.Name tn p2] X.env)).any (·.1)=false:=by rfl) :
  PV K X (.Call (.Name "isinstance" p) [a,.Name tn p2] [] pos) (e1 (zbe T) f):=zwh kt hg hm hg2 hm2 hv2 ha hn hd hs1 hs2 hpl
theorem zkk (hr:zcZ j X.A):OpR X (compareOp .Eq) (rD X.K eqD):=zzt hr.units
theorem zk9 (hr:zcZ j X.A):OpR X (compareOp .NotEq) (rD X.K neD):=zzo hr.units
theorem zuh (hr:zcZ j X.A):OpR X (compareOp .Lt) (rD X.K ltD):=zzp hr.units
theorem zyM (hr:zcZ j X.A):OpR X (compareOp .LtE) (rD X.K leD):=zzq hr.units
theorem zzk (hr:zcZ j X.A):OpR X (compareOp .Gt) (rD X.K gtD):=zzr hr.units
theorem zyN (hr:zcZ j X.A):OpR X (compareOp .GtE) (rD X.K geD):=zzs hr.units
theorem zwb (hr:zcZ j X.A):OpR X (compareOp .NotIn) (rD X.K zvL):=zuR (zny hr)
theorem zvK (hr:zcZ j X.A):IxR X (rD X.K zjS):=zu6 (zny hr)
variable {op:CmpOp} {g:D->D->R D} {z:Str} {pz:Pos}
theorem zkq (ho:OpR X (compareOp op) (rD X.K g)) (ha:PV K X a f) (hb:PV K X b h) (hm:behindInMarks op b=false:=by first | exact ztz _ | rfl):PV K X (.Compare a [op] [b] pos) (e2 g f h):=zwi ho ha hb hm
theorem zaJ (ho:OpR X (compareOp op) (rD X.K g)) (ha:PV K X a f) (hb:PV K X b h) (hm:behindInMarks op b=false:=by first | exact ztz _ | rfl):PVT K X (.Compare a [op] [b] pos) (tB (e2 g f h)):=zuk ho ha hb hm
theorem zi7 (i:Nat) (ho:IxR X (rD X.K g)) (hb:PV K X b h) (ha:PE X (.Name y py) (zrJ i):=by exact pv _) (hs:zkZ b:=by exact fun _ _=>rfl):PV K X (.Subscript (.Name y py) b pos) (m2 g i h):=zwg i ho ha hb hs
theorem zaS (he:PV K X e f):zmB K X [.Return (some e) pos] (zav f):=zas (zum he)
theorem zaM (i:Nat) (hN:X.N.Nodup) (he:PV K X e f) (hi:X.N[i]?=some x:=by rfl) (hx:Loc X.env.scope x:=by first | exact Or.inl rfl | exact Or.inr rfl) (hs:swapsWith e (some (.Name x py)) pos.line X.env=pure false:=by rfl) (hf:X.fn x=true\/X.env.scope.names.lookup x=some .local:=by first | exact .inl rfl | exact .inr rfl | assumption):PSV K X (.Assign [.Name x py] e pos) (zaC (gN i) f):=zul hN hi hx he hs hf
theorem znK (i:Nat) (hN:X.N.Nodup) (he:PVN K X e f) (hi:X.N[i]?=some x:=by rfl) (hx:Loc X.env.scope x:=by first | exact Or.inl rfl | exact Or.inr rfl) (hs:swapsWith e (some (.Name x py)) pos.line X.env=pure false:=by rfl) (hf:X.fn x=true\/X.env.scope.names.lookup x=some .local:=by first | exact .inl rfl | exact .inr rfl | assumption):PSV K X (.Assign [.Name x py] e pos) (zeJ i f):=zuo hN hi hx he hs hf
theorem g_n (i:Nat) (hN:X.N.Nodup) (hi:X.N[i]?=some x:=by rfl) (hx:Loc X.env.scope x:=by first | exact Or.inl rfl | exact Or.inr rfl) (hf:X.fn x=true\/X.env.scope.names.lookup x=some .local:=by first | exact .inl rfl | exact .inr rfl | assumption):PVG K X [i] (.Name x pos) (gN i):=zr6 hN hi hx hf
theorem zlm (i j:Nat) {kt k2:Nat} {px pt pt2:Pos} (nd:X.N.Nodup) (ha:PV K X a f) (hb:PV K X b h) (hc:X.calm=true:=by rfl) (hi:X.N[i]?=some x:=by rfl) (hj:X.N[j]?=some y:=by rfl) (ij:i ≠ j:=by decide) (l1:X.env.scope.names.lookup x=some .local:=by rfl) (l2:X.env.scope.names.lookup y=some .local:=by rfl)
  (sw:swappedStores [.Tuple [.Name x px,.Name y py] kt pt] (.Tuple [a,b] k2 pt2) X.env=pure (some [x,y]):=by rfl) (s1:swapsWithSole [.Tuple [.Name x px,.Name y py] kt pt] (.Tuple [a,b] k2 pt2) pos.line X.env=pure false:=by rfl) (s2:starEach [a,b] X.env=(false,eval a X.env) :: starEach [b] X.env:=by rfl) (s3:starEach [b] X.env=(false,eval b X.env) :: starEach [] X.env:=by rfl) :
  PSV K X (.Assign [.Tuple [.Name x px,.Name y py] kt pt] (.Tuple [a,b] k2 pt2) pos) (zi6 i j f h):=zun hc nd hi hj ij l1 l2 ha hb sw s1 s2 s3
variable {it:IF} {gg:GF} {bb:SF} {body:List Stmt} {dom:List Nat} {tg:Expr}
theorem zdA (hi:PVI K X tg e it) (hg:PVG K X dom tg gg) (hb:zmB K X body bb) (hp:PassesOwn (model X.prog X.w) X.A X.env X.xe:=by exact PassesOwn.never) (hc:X.calm=true:=by rfl) (hs:∀ v,foldedSetIterable e X.env v=pure v:=by intro _;rfl):PSV K X (.For tg e body [] pos) (zeQ it gg bb):=zuq hp hc hi hg hb hs
variable {elt iter ke ve:Expr} {ifs:List Expr} {scope:Scope} {t:TF} {kf vf:EF}
theorem cp (L:List Str) (ix:List Nat) (M:List Str) (hi:PVI K X tg iter it) (hg:∀ {C:Addr} {s₃:Shared} {H₃:Hp} {fp:List Addr},M.Nodup->PVG K (zap X M scope C s₃ H₃ fp) dom tg gg) (ht:∀ {C:Addr} {s₃:Shared} {H₃:Hp} {fp:List Addr},zt0 K (zap X M scope C s₃ H₃ fp) ifs t) (he:∀ {C:Addr} {s₃:Shared} {H₃:Hp} {fp:List Addr},PV K (zap X M scope C s₃ H₃ fp) elt f)
  (hc:X.calm=true:=by rfl) (hk:scope.kind=.function:=by rfl) (ho:zci X.env.scope scope X.N ix=true:=by kernel_rfl) (hM:M=L ++ ix.map (fun i=>X.N.getD i ""):=by rfl) (nd:ix.Nodup:=by decide) (hMn:M.Nodup:=by decide +kernel) (hd:(dom.all fun i=>decide (i < L.length))=true:=by decide) (hs:∀ v,foldedSetIterable iter X.env v=pure v:=by intro _;rfl) :
  PVN K X (.ListComp elt [⟨tg,iter,ifs,0⟩] scope pos) (zaz L.length ix it gg t f):=zr4 L ix M hc hk ho hM nd hi (fun _ _ _ _=>hg hMn) hd (fun _ _ _ _=>ht) (fun _ _ _ _=>he) hs
theorem cpS (i0:Nat) (L:List Str) (ix:List Nat) (M:List Str) (hN:X.N.Nodup) (hi:PVI K X tg iter it) (hg:∀ {C:Addr} {s₃:Shared} {H₃:Hp} {fp:List Addr},M.Nodup->PVG K (zap X M scope C s₃ H₃ fp) dom tg gg) (ht:∀ {C:Addr} {s₃:Shared} {H₃:Hp} {fp:List Addr},zt0 K (zap X M scope C s₃ H₃ fp) ifs t) (he:∀ {C:Addr} {s₃:Shared} {H₃:Hp} {fp:List Addr},PV K (zap X M scope C s₃ H₃ fp) elt f)
  (h0:X.N[i0]?=some x:=by rfl) (hl:X.env.scope.names.lookup x=some .local:=by rfl) (hsw:swapsWith (.ListComp elt [⟨tg,iter,ifs,0⟩] scope pos) (some (.Name x py)) p.line X.env=pure true:=by rfl) (hc:X.calm=true:=by rfl) (hk:scope.kind=.function:=by rfl) (ho:zci X.env.scope scope X.N ix=true:=by kernel_rfl) (hM:M=L ++ ix.map (fun i=>X.N.getD i ""):=by rfl) (nd:ix.Nodup:=by decide) (hMn:M.Nodup:=by decide +kernel) (hd:(dom.all fun i=>decide (i < L.length))=true:=by decide) (hs:∀ v,foldedSetIterable iter X.env v=pure v:=by intro _;rfl) :
  PSV K X (.Assign [.Name x py] (.ListComp elt [⟨tg,iter,ifs,0⟩] scope pos) p) (zeJ i0 (zaz L.length ix it gg t f)):=zr2 i0 L ix M hN h0 hl hsw hc hk ho hM nd hi (fun _ _ _ _=>hg hMn) hd (fun _ _ _ _=>ht) (fun _ _ _ _=>he) hs
theorem dcp (L:List Str) (ix:List Nat) (M:List Str) (hr:zcZ j X.A) (hi:PVI K X tg iter it) (hg:∀ {C:Addr} {s₃:Shared} {H₃:Hp} {fp:List Addr},M.Nodup->PVG K (zap X M scope C s₃ H₃ fp) dom tg gg) (ht:∀ {C:Addr} {s₃:Shared} {H₃:Hp} {fp:List Addr},zt0 K (zap X M scope C s₃ H₃ fp) ifs t) (hke:∀ {C:Addr} {s₃:Shared} {H₃:Hp} {fp:List Addr},PV K (zap X M scope C s₃ H₃ fp) ke kf) (hve:∀ {C:Addr} {s₃:Shared} {H₃:Hp} {fp:List Addr},PV K (zap X M scope C s₃ H₃ fp) ve vf)
  (hc:X.calm=true:=by rfl) (hk:scope.kind=.function:=by rfl) (ho:zci X.env.scope scope X.N ix=true:=by kernel_rfl) (hM:M=L ++ ix.map (fun i=>X.N.getD i ""):=by rfl) (nd:ix.Nodup:=by decide) (hMn:M.Nodup:=by decide +kernel) (hd:(dom.all fun i=>decide (i < L.length))=true:=by decide) (hs:∀ v,foldedSetIterable iter X.env v=pure v:=by intro _;rfl) :
  PVN K X (.DictComp ke ve [⟨tg,iter,ifs,0⟩] scope pos) (zjQ L.length ix it gg t kf vf):=zp2 L ix M (zny hr) hc hk ho hM nd hi (fun _ _ _ _=>hg hMn) hd (fun _ _ _ _=>ht) (fun _ _ _ _=>hke) (fun _ _ _ _=>hve) hs
end
abbrev CT (x:Str) (k:Nat) (ps:List Str) (n:Nat) (fr:Bool) (G:List D->R D) (P:Program) (w:World) (K:PySem.W.Frag) (mg:Str->Option Value) (base:Heap):Prop:=Callee P w K mg base x k ps (spP K n fr G)
abbrev CTM (x:Str) (k:Nat) (ps:List Str) (ms:List Bool) (fr:Bool) (F:List D->R (D × List D)) (P:Program) (w:World) (K:PySem.W.Frag) (mg:Str->Option Value) (base:Heap):Prop:=Callee P w K mg base x k ps (spF K ms fr F)
end FL
namespace FL
open PySem
def zm6:SF:=(zav (zmy (e1 (zbe "int") (eV 0)) (zxu (e1 (zbe "bool") (eV 0)))))
def zgG:List D->R D:=za0 false 1 1 zm6
def zbE:SF:=(zhR (zdL 3) (tB (e2 neD (eV 3) (eC (.int 0)))) (zi6 2 3 (eV 3) (e2 zgO (eV 2) (eV 3))))
def zb5:SF:=(zan (zi6 2 3 (e1 zrt (eV 0)) (e1 zrt (eV 1)))
  (zan zbE
  (zav (eV 2))))
def zak:List D->R D:=za0 false 2 4 zb5
def zm5:SF:=(zan (zaC (gN 2) (zaf zak (zaa (e2 ixD (eV 0) (eC (.int 1))) (zaa (e2 ixD (eV 1) (eC (.int 1))) zai))))
  (zan (zi6 3 4 (e2 zaL (e2 ixD (eV 0) (eC (.int 1))) (eV 2)) (e2 zaL (e2 ixD (eV 1) (eC (.int 1))) (eV 2)))
  (zan (zaC (gN 5) (e2 za8 (e2 zbd (e2 ixD (eV 0) (eC (.int 0))) (eV 4)) (e2 zbd (e2 ixD (eV 1) (eC (.int 0))) (eV 3))))
  (zan (zaC (gN 6) (zaf zak (zaa (eV 5) (zaa (eV 2) zai))))
  (zav (zcv (zaa (e2 zaL (eV 5) (eV 6)) (zaa (e2 zbd (eV 3) (e2 zaL (e2 ixD (eV 1) (eC (.int 1))) (eV 6))) zai))))))))
def zmr:List D->R D:=za0 false 2 7 zm5
def zkM:SF:=(zan (zi6 2 3 (zaf zak (zaa (e2 ixD (eV 0) (eC (.int 0))) (zaa (e2 ixD (eV 1) (eC (.int 1))) zai))) (zaf zak (zaa (e2 ixD (eV 1) (eC (.int 0))) (zaa (e2 ixD (eV 0) (eC (.int 1))) zai))))
  (zav (zcv (zaa (e2 zbd (e2 zaL (e2 ixD (eV 0) (eC (.int 0))) (eV 2)) (e2 zaL (e2 ixD (eV 1) (eC (.int 0))) (eV 3))) (zaa (e2 zbd (e2 zaL (e2 ixD (eV 0) (eC (.int 1))) (eV 3)) (e2 zaL (e2 ixD (eV 1) (eC (.int 1))) (eV 2))) zai)))))
def znt:List D->R D:=za0 false 2 4 zkM
end FL
namespace FL
open PySem
def num (r:Rat):D:=.tuple [.int r.num,.int (r.den:Int)]
theorem zkx {h l:Nat} (p:l ≠ 0):zgO (.int (h:Int)) (.int (l:Int))=.ok (.int ((h % l:Nat):Int)):=by
 show chk (decide ((l:Int) ≠ 0)) _=_
 rw [zaI (by simpa using p)]
 rw [Int.fmod_eq_emod_of_nonneg _ (by omega)]
 rfl
theorem zkL (x0 x1:Sl):∀ (n h l:Nat),l < n->zhA (tB (e2 neD (eV 3) (eC (.int 0)))) (zi6 2 3 (eV 3) (e2 zgO (eV 2) (eV 3))) n [x0,x1,.val (.int (h:Int)),.val (.int (l:Int))]=.ok (.nx,[x0,x1,.val (.int ((Nat.gcd h l:Nat):Int)),.val (.int 0)])
 | 0,h,l,p=>by omega
 | n + 1,h,l,p=>by
  unfold zhA
  by_cases c:l=0
  ·subst c
   have e:neD (.int ((0:Nat):Int)) (.int 0)=.ok (.bool false):=by rw [zb3];rfl
   simp only [tB,FL.e2,eV,zz1,zz0,eC,zac,e,zi6,gN,Bool.false_eq_true,if_false,Nat.gcd_zero_right]
   rfl
  ·have e:neD (.int (l:Int)) (.int 0)=.ok (.bool true):=by
    rw [zb3,decide_eq_false (by omega)];rfl
   simp only [tB,FL.e2,eV,zz1,zz0,eC,zac,e,zi6,gN,zkx c,List.set_cons_succ,List.set_cons_zero,if_true]
   have ih:=zkL x0 x1 n l (h % l) (by have:=Nat.mod_lt h (Nat.pos_of_ne_zero c);omega)
   rw [ih,Nat.gcd_comm l,<- Nat.gcd_rec,Nat.gcd_comm]
theorem zoC (i:Int):zrt (.int i)=.ok (.int (i.natAbs:Int)):=by
 show R.ok (PyData.int (if i < 0 then -i else i))=_
 congr 2
 split <;> omega
theorem zgT (a b:Int):zak [.int a,.int b]=.ok (.int (Int.gcd a b:Int)):=by
 have e1:zi6 2 3 (FL.e1 zrt (eV 0)) (FL.e1 zrt (eV 1)) [.val (.int a),.val (.int b),.no,.no]=.ok (.nx,[.val (.int a),.val (.int b),.val (.int (a.natAbs:Int)),.val (.int (b.natAbs:Int))]):=by
  simp only [zi6,FL.e1,eV,zz0,zac,zoC,gN,zz1,List.set_cons_succ,List.set_cons_zero]
 have e2:zbE [.val (.int a),.val (.int b),.val (.int (a.natAbs:Int)),.val (.int (b.natAbs:Int))]=.ok (.nx,[.val (.int a),.val (.int b),.val (.int ((Nat.gcd a.natAbs b.natAbs:Nat):Int)),.val (.int 0)]):=by
  unfold zbE zhR
  have:zdL 3 [.val (.int a),.val (.int b),.val (.int (a.natAbs:Int)),.val (.int (b.natAbs:Int))]=b.natAbs + 1:=by
   show ((b.natAbs:Int)).natAbs + 1=_
   simp
  rw [this]
  exact zkL _ _ _ _ _ (by omega)
 show ((zb5 [.val (.int a),.val (.int b),.no,.no]).bind _).bind _=_
 unfold zb5
 rw [zah e1,zah e2]
 rfl
theorem zcY {i:Int} {j:Nat} {n:Nat} (hj:j ≠ 0) (hb:j < 2 ^ n) (hn:n<=90000000):zaL (.int i) (.int (j:Int))=.ok (.int (i / (j:Int))):=by
 show chk (decide ((j:Int) ≠ 0)) _=_
 rw [zaI (by simpa using hj),Int.fdiv_eq_ediv_of_nonneg _ (by omega)]
theorem zl7 {r:Rat} {n:Nat} (h:QR.Bd n r):Bd r.num n/\Bd (r.den:Int) n:=⟨⟨h.1⟩,⟨by simpa using h.2⟩⟩
theorem zgY {i:Int} {n:Nat} {j:Nat} (h:Bd i n):Bd (i / (j:Int)) n:=⟨Nat.lt_of_le_of_lt (Int.natAbs_ediv_le_natAbs i (j:Int)) h.h⟩
theorem zlQ {a:Int} {b:Nat} {n:Nat} (hb:b ≠ 0) (h:b < 2 ^ n):Int.gcd a (b:Int) ≠ 0/\Int.gcd a (b:Int) < 2 ^ n:=by
 have h1:0 < Int.gcd a (b:Int):=Int.gcd_pos_of_ne_zero_right a (by omega)
 have h2:Int.gcd a (b:Int) ∣ b:=by
  have:=Int.gcd_dvd_right a (b:Int)
  exact Int.natCast_dvd_natCast.mp this
 have h3:=Nat.le_of_dvd (Nat.pos_of_ne_zero hb) h2
 omega
theorem zuG {r s:Rat} {n:Nat} (hr:QR.Bd n r) (hs:QR.Bd n s) (hn:n<=40000000):zmr [num r,num s]=.ok (num (r + s)):=by
 have gS:=zlQ (a:=(r.den:Int)) s.den_nz hs.2
 generalize hg:Int.gcd (r.den:Int) (s.den:Int)=g at gS
 have k1:zak [.int (r.den:Int),.int (s.den:Int)]=.ok (.int (g:Int)):=by rw [zgT,hg]
 have k2:zaL (.int (r.den:Int)) (.int (g:Int))=.ok (.int ((r.den:Int) / (g:Int))):=zcY gS.1 gS.2 (by omega)
 have k3:zaL (.int (s.den:Int)) (.int (g:Int))=.ok (.int ((s.den:Int) / (g:Int))):=zcY gS.1 gS.2 (by omega)
 have br:=zl7 hr
 have bs:=zl7 hs
 have k4:zbd (.int r.num) (.int ((s.den:Int) / (g:Int)))=.ok (.int (r.num * ((s.den:Int) / (g:Int)))):=zaV br.1 (zgY bs.2) (by omega)
 have k5:zbd (.int s.num) (.int ((r.den:Int) / (g:Int)))=.ok (.int (s.num * ((r.den:Int) / (g:Int)))):=zaV bs.1 (zgY br.2) (by omega)
 generalize ht:r.num * ((s.den:Int) / (g:Int)) + s.num * ((r.den:Int) / (g:Int))=top
 have gT:=zlQ (a:=top) gS.1 gS.2
 generalize he:Int.gcd top (g:Int)=e at gT
 have k6:zak [.int top,.int (g:Int)]=.ok (.int (e:Int)):=by rw [zgT,he]
 have k7:zaL (.int top) (.int (e:Int))=.ok (.int (top / (e:Int))):=zcY gT.1 gT.2 (by omega)
 have k8:zaL (.int (s.den:Int)) (.int (e:Int))=.ok (.int ((s.den:Int) / (e:Int))):=zcY gT.1 gT.2 (by omega)
 have k9:zbd (.int ((r.den:Int) / (g:Int))) (.int ((s.den:Int) / (e:Int)))=.ok (.int (((r.den:Int) / (g:Int)) * ((s.den:Int) / (e:Int)))):=zaV (zgY br.2) (zgY bs.2) (by omega)
 have x0:∀ (a b:Int),ixD (.tuple [.int a,.int b]) (.int 0)=.ok (.int a):=fun a b=>rfl
 have x1:∀ (a b:Int),ixD (.tuple [.int a,.int b]) (.int 1)=.ok (.int b):=fun a b=>rfl
 have l2:leB 2 lim=true:=by decide
 have ad:∀ (a b:Int),za8 (.int a) (.int b)=.ok (.int (a + b)):=fun _ _=>rfl
 have fin:num (r + s)=.tuple [.int (top / (e:Int)),.int (((r.den:Int) / (g:Int)) * ((s.den:Int) / (e:Int)))]:=by
  have h1:=Q1.zuH (QR.low r) (QR.low s)
  rw [QR.add] at h1
  unfold Q1.zoP at h1
  simp only [hg,ht,he] at h1
  unfold num
  rw [<- (Prod.mk.inj h1).1,<- (Prod.mk.inj h1).2]
 have s1:zaC (gN 2) (zaf zak (zaa (e2 ixD (eV 0) (eC (.int 1))) (zaa (e2 ixD (eV 1) (eC (.int 1))) zai))) [.val (num r),.val (num s),.no,.no,.no,.no,.no]=.ok (.nx,[.val (num r),.val (num s),.val (.int (g:Int)),.no,.no,.no,.no]):=by
  unfold num
  simp only [zaC,zaf,zaa,FL.e2,eV,zz0,eC,zac,x1,zai,zz1,k1,gN,List.set_cons_succ,List.set_cons_zero]
 have s2:zi6 3 4 (e2 zaL (e2 ixD (eV 0) (eC (.int 1))) (eV 2)) (e2 zaL (e2 ixD (eV 1) (eC (.int 1))) (eV 2)) [.val (num r),.val (num s),.val (.int (g:Int)),.no,.no,.no,.no]=.ok (.nx,[.val (num r),.val (num s),.val (.int (g:Int)),.val (.int ((r.den:Int) / (g:Int))),.val (.int ((s.den:Int) / (g:Int))),.no,.no]):=by
  unfold num
  simp only [zi6,FL.e2,eV,zz0,eC,zac,x1,zz1,k2,gN,k3,List.set_cons_succ,List.set_cons_zero]
 have s3:zaC (gN 5) (e2 za8 (e2 zbd (e2 ixD (eV 0) (eC (.int 0))) (eV 4)) (e2 zbd (e2 ixD (eV 1) (eC (.int 0))) (eV 3))) [.val (num r),.val (num s),.val (.int (g:Int)),.val (.int ((r.den:Int) / (g:Int))),.val (.int ((s.den:Int) / (g:Int))),.no,.no]=.ok (.nx,[.val (num r),.val (num s),.val (.int (g:Int)),.val (.int ((r.den:Int) / (g:Int))),.val (.int ((s.den:Int) / (g:Int))),.val (.int top),.no]):=by
  unfold num
  simp only [zaC,FL.e2,eV,zz0,eC,zac,x0,zz1,k4,k5,ad,ht,gN,List.set_cons_succ,List.set_cons_zero]
 have s4:zaC (gN 6) (zaf zak (zaa (eV 5) (zaa (eV 2) zai))) [.val (num r),.val (num s),.val (.int (g:Int)),.val (.int ((r.den:Int) / (g:Int))),.val (.int ((s.den:Int) / (g:Int))),.val (.int top),.no]=.ok (.nx,[.val (num r),.val (num s),.val (.int (g:Int)),.val (.int ((r.den:Int) / (g:Int))),.val (.int ((s.den:Int) / (g:Int))),.val (.int top),.val (.int (e:Int))]):=by
  simp only [zaC,zaf,zaa,eV,zz1,zz0,zai,zac,k6,gN,List.set_cons_succ,List.set_cons_zero]
 have s5:zav (zcv (zaa (e2 zaL (eV 5) (eV 6)) (zaa (e2 zbd (eV 3) (e2 zaL (e2 ixD (eV 1) (eC (.int 1))) (eV 6))) zai))) [.val (num r),.val (num s),.val (.int (g:Int)),.val (.int ((r.den:Int) / (g:Int))),.val (.int ((s.den:Int) / (g:Int))),.val (.int top),.val (.int (e:Int))]=.ok (.rt (num (r + s)),[.val (num r),.val (num s),.val (.int (g:Int)),.val (.int ((r.den:Int) / (g:Int))),.val (.int ((s.den:Int) / (g:Int))),.val (.int top),.val (.int (e:Int))]):=by
  rw [fin]
  unfold num
  simp only [zav,zcv,zaa,FL.e2,eV,zz1,zz0,zac,k7,eC,zai,x1,k8,k9,List.length_cons,List.length_nil,Nat.reduceAdd,zaI l2]
 show ((zm5 [.val (num r),.val (num s),.no,.no,.no,.no,.no]).bind _).bind _=_
 unfold zm5
 rw [zah s1,zah s2,zah s3,zah s4,s5]
 rfl
theorem zrU {r s:Rat} {n:Nat} (hr:QR.Bd n r) (hs:QR.Bd n s) (hn:n<=40000000):znt [num r,num s]=.ok (num (r * s)):=by
 have gS:=zlQ (a:=r.num) s.den_nz hs.2
 generalize hg:Int.gcd r.num (s.den:Int)=g at gS
 have gT:=zlQ (a:=s.num) r.den_nz hr.2
 generalize he:Int.gcd s.num (r.den:Int)=e at gT
 have k1:zak [.int r.num,.int (s.den:Int)]=.ok (.int (g:Int)):=by rw [zgT,hg]
 have k2:zak [.int s.num,.int (r.den:Int)]=.ok (.int (e:Int)):=by rw [zgT,he]
 have k3:zaL (.int r.num) (.int (g:Int))=.ok (.int (r.num / (g:Int))):=zcY gS.1 gS.2 (by omega)
 have k4:zaL (.int s.num) (.int (e:Int))=.ok (.int (s.num / (e:Int))):=zcY gT.1 gT.2 (by omega)
 have k5:zaL (.int (r.den:Int)) (.int (e:Int))=.ok (.int ((r.den:Int) / (e:Int))):=zcY gT.1 gT.2 (by omega)
 have k6:zaL (.int (s.den:Int)) (.int (g:Int))=.ok (.int ((s.den:Int) / (g:Int))):=zcY gS.1 gS.2 (by omega)
 have br:=zl7 hr
 have bs:=zl7 hs
 have k7:zbd (.int (r.num / (g:Int))) (.int (s.num / (e:Int)))=.ok (.int (r.num / (g:Int) * (s.num / (e:Int)))):=zaV (zgY br.1) (zgY bs.1) (by omega)
 have k8:zbd (.int ((r.den:Int) / (e:Int))) (.int ((s.den:Int) / (g:Int)))=.ok (.int ((r.den:Int) / (e:Int) * ((s.den:Int) / (g:Int)))):=zaV (zgY br.2) (zgY bs.2) (by omega)
 have x0:∀ (a b:Int),ixD (.tuple [.int a,.int b]) (.int 0)=.ok (.int a):=fun a b=>rfl
 have x1:∀ (a b:Int),ixD (.tuple [.int a,.int b]) (.int 1)=.ok (.int b):=fun a b=>rfl
 have l2:leB 2 lim=true:=by decide
 have fin:num (r * s)=.tuple [.int (r.num / (g:Int) * (s.num / (e:Int))),.int ((r.den:Int) / (e:Int) * ((s.den:Int) / (g:Int)))]:=by
  have h1:=Q1.zrV (QR.low r) (QR.low s)
  rw [QR.mul] at h1
  unfold Q1.znA at h1
  simp only [hg,he] at h1
  unfold num
  rw [<- (Prod.mk.inj h1).1,<- (Prod.mk.inj h1).2]
 have s1:zi6 2 3 (zaf zak (zaa (e2 ixD (eV 0) (eC (.int 0))) (zaa (e2 ixD (eV 1) (eC (.int 1))) zai))) (zaf zak (zaa (e2 ixD (eV 1) (eC (.int 0))) (zaa (e2 ixD (eV 0) (eC (.int 1))) zai))) [.val (num r),.val (num s),.no,.no]=.ok (.nx,[.val (num r),.val (num s),.val (.int (g:Int)),.val (.int (e:Int))]):=by
  unfold num
  simp only [zi6,zaf,zaa,FL.e2,eV,zz0,eC,zac,x0,zai,zz1,x1,k1,gN,k2,List.set_cons_succ,List.set_cons_zero]
 have s5:zav (zcv (zaa (e2 zbd (e2 zaL (e2 ixD (eV 0) (eC (.int 0))) (eV 2)) (e2 zaL (e2 ixD (eV 1) (eC (.int 0))) (eV 3))) (zaa (e2 zbd (e2 zaL (e2 ixD (eV 0) (eC (.int 1))) (eV 3)) (e2 zaL (e2 ixD (eV 1) (eC (.int 1))) (eV 2))) zai))) [.val (num r),.val (num s),.val (.int (g:Int)),.val (.int (e:Int))]=.ok (.rt (num (r * s)),[.val (num r),.val (num s),.val (.int (g:Int)),.val (.int (e:Int))]):=by
  rw [fin]
  unfold num
  simp only [zav,zcv,zaa,FL.e2,eV,zz0,eC,zac,x0,zz1,k3,k4,k7,zai,x1,k5,k6,k8,List.length_cons,List.length_nil,Nat.reduceAdd,zaI l2]
 show ((zkM [.val (num r),.val (num s),.no,.no]).bind _).bind _=_
 unfold zkM
 rw [zah s1,s5]
 rfl
end FL
namespace FL
open PySem
abbrev Sm:=List (List Int × Rat)
theorem zty (r s:Rat):neD (num r) (num s)=.ok (.bool (!decide (r=s))):=by
 have e:decide (([r.num,(r.den:Int)]:List Int)=[s.num,(s.den:Int)])=decide (r=s):=by
  by_cases c:r=s
  ·subst c;simp
  ·rw [decide_eq_false c,decide_eq_false]
   intro z
   simp only [List.cons.injEq,and_true,Int.natCast_inj] at z
   exact c (Rat.ext z.1 z.2)
 rw [<- e]
 exact zwQ [r.num,(r.den:Int)] [s.num,(s.den:Int)]
def Nk (s:Sm):Prop:=(s.map (·.1)).Nodup
structure zzQ (P:Nat->Rat->Prop) (Q:Rat->Prop) (N:Nat):Prop where
 z:∀ i,P i 0
 up:∀ i r,P i r->P (i + 1) r
 add:∀ i r q,P i r->Q q->P (i + 1) (r + q)
 bp:∀ i r,i<=N->P i r->QR.Bd 4000 r
 bq:∀ q,Q q->QR.Bd 4000 q
structure Fit (P:Nat->Rat->Prop) (i:Nat) (s:Sm):Prop where
 nk:Nk s
 sz:∀ p ∈ s,P i p.2
end FL
namespace FL
open PySem
theorem zvy {F:List D->R (D × List D)} {i:Nat} {f h:EF} {ρ:En} {p:Bool} {d v u r d' v' u':D} (hi:ρ[i]?=some (.ow p d)) (hf:f ρ=.ok (v,ρ)) (hh:h ρ=.ok (u,ρ)) (hF:F [d,v,u]=.ok (r,[d',v',u'])):zam F [.m i,.v f,.v h] ρ=.ok (r,ρ.set i (.ow p d')):=by
 have hm:za1 ρ i=.ok d:=by unfold za1;rw [hi]
 unfold zam
 simp only [zmA,hm,zac,hf,hh,zkY,hF]
 have:=zkV (d:=d) (d':=d') (p:=p) ρ 0 i hi
 rw [Nat.zero_add] at this
 show R.ok (r,bkL [(i,.ow true d')] 0 ρ)=_
 rw [this]
def Ws (n:Nat) (s:Sm):Prop:=∀ p ∈ s,p.1.length<=n
def Iv (M:Nat) (r:Rat):Prop:=r.den=1/\r.num.natAbs<=M
structure Whl (l M n:Nat) (s:Sm):Prop where
 nk:Nk s
 ln:s.length<=l
 sz:∀ p ∈ s,Iv M p.2
 ws:Ws n s
end FL
namespace FL
open PySem
theorem zbb {k n:Nat} {b:SF} {ds:List D} {ρ:En} {d:D} (hl:ds.length=k) (h:b (slots (List.replicate k false) ds ++ List.replicate (n - ds.length) .no)=.ok (.rt d,ρ)):za0 false k n b ds=.ok d:=by
 unfold za0 FL.run
 rw [if_pos (by rw [List.length_replicate];exact hl),h]
 rfl
theorem zcQ {k n:Nat} {b:SF} {ds:List D} {ρ:En} {d:D} (hl:ds.length=k) (h:b (slots (List.replicate k false) ds ++ List.replicate (n - ds.length) .no)=.ok (.rf d,ρ)):za0 true k n b ds=.ok d:=by
 unfold za0 FL.run
 rw [if_pos (by rw [List.length_replicate];exact hl),h]
 rfl
inductive Tr where
 | leaf (i:Int)
 | node (a b:Tr)
deriving DecidableEq
def nB:Tr->Nat
 | .leaf _=>1
 | .node a b=>nB a + nB b
def kyS (p:List Int × Rat):WK:=((p.1.length:Int),p.1)
def zyS (x:List Int × Rat):Sm->Sm
 | []=>[x]
 | y :: r=>if ltW (kyS y) (kyS x)=true then y :: zyS x r else x :: y :: r
def zv3:Sm->Sm
 | []=>[]
 | x :: r=>zyS x (zv3 r)
def tln (p:List Int × Rat):D:=.tuple [tp p.1,num p.2]
end FL
namespace FL
open PySem
def zd3:SF:=(zhR (zdL 3) (tB (e2 neD (eV 3) (eC (.int 0)))) (zi6 2 3 (eV 3) (e2 zgO (eV 2) (eV 3))))
def zgv:SF:=(zan (zaC (gN 2) (e1 zrt (eV 0)))
  (zan (zaC (gN 3) (eV 1))
  (zan zd3
  (zav (zcv (zaa (e2 zaL (eV 0) (eV 2)) (zaa (e2 zaL (eV 1) (eV 2)) zai)))))))
def zbv:List D->R D:=za0 false 2 4 zgv
def zef:SF:=(zan (sIf (FL.tOr (FL.zbX (tE (e1 (zbe "tuple") (eV 0)))) (tB (e2 neD (e1 zcI (eV 0)) (eC (.int 2))))) (zav (eC (.bool false))) sNx)
  (zan (zaC (gT [(gN 1),(gN 2)]) (eV 0))
  (zan (sIf (FL.tOr (FL.zbX (tE (zaf zgG (zaa (eV 1) zai)))) (FL.tOr (FL.zbX (tE (zaf zgG (zaa (eV 2) zai)))) (tB (e2 ltD (eV 2) (eC (.int 1)))))) (zav (eC (.bool false))) sNx)
  (zav (e2 eqD (zaf zak (zaa (eV 1) (zaa (eV 2) zai))) (eC (.int 1)))))))
def ziY:List D->R D:=za0 false 1 3 zef
def zfd:SF:=(zav (zaf zbv (zaa (e2 za8 (e2 zbd (e2 ixD (eV 0) (eC (.int 0))) (e2 ixD (eV 1) (eC (.int 1)))) (e2 zbd (e2 ixD (eV 1) (eC (.int 0))) (e2 ixD (eV 0) (eC (.int 1))))) (zaa (e2 zbd (e2 ixD (eV 0) (eC (.int 1))) (e2 ixD (eV 1) (eC (.int 1)))) zai))))
def zeD:List D->R D:=za0 false 2 2 zfd
def zif:SF:=(zav (zaf zbv (zaa (e2 zbd (e2 ixD (eV 0) (eC (.int 0))) (e2 ixD (eV 1) (eC (.int 0)))) (zaa (e2 zbd (e2 ixD (eV 0) (eC (.int 1))) (e2 ixD (eV 1) (eC (.int 1)))) zai))))
def zhy:List D->R D:=za0 false 2 2 zif
end FL
namespace FL
open PySem
theorem zky (t:Int) {b n:Nat} (hb:b ≠ 0) (hl:b < 2 ^ n) (hn:n<=90000000):zbv [.int t,.int (b:Int)]=.ok (.tuple [.int (Q1.fr t (b:Int)).1,.int (Q1.fr t (b:Int)).2]):=by
 have gS:=zlQ (a:=t) hb hl
 have s1:zaC (gN 2) (FL.e1 zrt (eV 0)) [.val (.int t),.val (.int (b:Int)),.no,.no]=.ok (.nx,[.val (.int t),.val (.int (b:Int)),.val (.int (t.natAbs:Int)),.no]):=by
  simp only [zaC,FL.e1,eV,zz0,zac,zoC,gN,zz1,List.set_cons_succ,List.set_cons_zero]
 have s2:zaC (gN 3) (eV 1) [.val (.int t),.val (.int (b:Int)),.val (.int (t.natAbs:Int)),.no]=.ok (.nx,[.val (.int t),.val (.int (b:Int)),.val (.int (t.natAbs:Int)),.val (.int (b:Int))]):=rfl
 have s3:zd3 [.val (.int t),.val (.int (b:Int)),.val (.int (t.natAbs:Int)),.val (.int (b:Int))]=.ok (.nx,[.val (.int t),.val (.int (b:Int)),.val (.int ((Int.gcd t (b:Int):Nat):Int)),.val (.int 0)]):=by
  unfold zd3 zhR
  have:zdL 3 [.val (.int t),.val (.int (b:Int)),.val (.int (t.natAbs:Int)),.val (.int (b:Int))]=b + 1:=by
   show ((b:Int)).natAbs + 1=_
   simp
  rw [this]
  exact zkL _ _ _ _ _ (by omega)
 have k1:zaL (.int t) (.int ((Int.gcd t (b:Int):Nat):Int))=.ok (.int (t / ((Int.gcd t (b:Int):Nat):Int))):=zcY gS.1 gS.2 hn
 have k2:zaL (.int (b:Int)) (.int ((Int.gcd t (b:Int):Nat):Int))=.ok (.int ((b:Int) / ((Int.gcd t (b:Int):Nat):Int))):=zcY gS.1 gS.2 hn
 have l2:leB 2 lim=true:=by decide
 show ((zgv [.val (.int t),.val (.int (b:Int)),.no,.no]).bind _).bind _=_
 unfold zgv
 rw [zah s1,zah s2,zah s3]
 simp only [zav,zcv,zaa,FL.e2,eV,zz0,zac,zz1,k1,zai,k2,List.length_cons,List.length_nil,Nat.reduceAdd,zaI l2,List.replicate,outs,outD]
 rw [Q1.zoh (by omega)]
theorem ztD (t:Int) {b n:Nat} (hb:b ≠ 0) (hl:b < 2 ^ n) (hn:n<=90000000):zbv [.int t,.int (b:Int)]=.ok (num (Rat.normalize t b hb)):=by
 rw [zky t hb hl hn,QR.norm hb]
 rfl
theorem lx0 (a b:Int):ixD (.tuple [.int a,.int b]) (.int 0)=.ok (.int a):=rfl
theorem lx1 (a b:Int):ixD (.tuple [.int a,.int b]) (.int 1)=.ok (.int b):=rfl
theorem zn5 {r s:Rat} {n:Nat} (hr:QR.Bd n r) (hs:QR.Bd n s) (hn:n<=40000000):zeD [num r,num s]=.ok (num (r + s)):=by
 have br:=zl7 hr
 have bs:=zl7 hs
 have k1:zbd (.int r.num) (.int (s.den:Int))=.ok (.int (r.num * (s.den:Int))):=zaV br.1 bs.2 (by omega)
 have k2:zbd (.int s.num) (.int (r.den:Int))=.ok (.int (s.num * (r.den:Int))):=zaV bs.1 br.2 (by omega)
 have k3:zbd (.int (r.den:Int)) (.int (s.den:Int))=.ok (.int ((r.den:Int) * (s.den:Int))):=zaV br.2 bs.2 (by omega)
 have ad:∀ (a b:Int),za8 (.int a) (.int b)=.ok (.int (a + b)):=fun _ _=>rfl
 have nz:r.den * s.den ≠ 0:=Nat.mul_ne_zero r.den_nz s.den_nz
 have k4:zbv [.int (r.num * (s.den:Int) + s.num * (r.den:Int)),.int ((r.den:Int) * (s.den:Int))]=.ok (num (r + s)):=by
  have:=zky (r.num * (s.den:Int) + s.num * (r.den:Int)) nz (QR.zfJ hr.2 hs.2) (by omega)
  rw [Int.natCast_mul] at this
  rw [this,QR.add]
  rfl
 refine zbb (ρ:=[.val (num r),.val (num s)]) rfl ?_
 show zfd [.val (num r),.val (num s)]=.ok (_,[.val (num r),.val (num s)])
 unfold zfd num
 simp only [zav,zaf,zaa,FL.e2,eV,zz0,eC,zac,lx0,zz1,lx1,k1,k2,ad,zai,k3,k4]
 rfl
theorem ztG {r s:Rat} {n:Nat} (hr:QR.Bd n r) (hs:QR.Bd n s) (hn:n<=40000000):zhy [num r,num s]=.ok (num (r * s)):=by
 have br:=zl7 hr
 have bs:=zl7 hs
 have k1:zbd (.int r.num) (.int s.num)=.ok (.int (r.num * s.num)):=zaV br.1 bs.1 (by omega)
 have k3:zbd (.int (r.den:Int)) (.int (s.den:Int))=.ok (.int ((r.den:Int) * (s.den:Int))):=zaV br.2 bs.2 (by omega)
 have nz:r.den * s.den ≠ 0:=Nat.mul_ne_zero r.den_nz s.den_nz
 have k4:zbv [.int (r.num * s.num),.int ((r.den:Int) * (s.den:Int))]=.ok (num (r * s)):=by
  have:=zky (r.num * s.num) nz (QR.zfJ hr.2 hs.2) (by omega)
  rw [Int.natCast_mul] at this
  rw [this,QR.mul]
  rfl
 refine zbb (ρ:=[.val (num r),.val (num s)]) rfl ?_
 show zif [.val (num r),.val (num s)]=.ok (_,[.val (num r),.val (num s)])
 unfold zif num
 simp only [zav,zaf,zaa,FL.e2,eV,zz0,eC,zac,lx0,zz1,k1,zai,lx1,k3,k4]
 rfl
end FL
namespace FL
open PySem
def told (s:Sm):D:=.list ((zv3 s).map tln)
theorem zjU {α:Type} {k:Nat} {ix:List Nat} {g:GF} {t:TF} {kf vf:EF} {ρ:En} {f:α->D} (all:List α) (P:List α->D->Prop)
  (st:∀ done x rest acc,all=done ++ x :: rest->P done acc->∃ acc',P (done ++ [x]) acc'/\∀ tail,zgU k ix g t kf vf (f x :: tail) ρ acc=zgU k ix g t kf vf tail ρ acc'):∀ (xs done:List α) (acc:D),all=done ++ xs->P done acc ->
  ∃ acc',P all acc'/\zgU k ix g t kf vf (xs.map f) ρ acc=.ok (acc',ρ)
 | [],done,acc,ha,h=>⟨acc,by rw [ha];simpa using h,rfl⟩
 | x :: r,done,acc,ha,h=>by
  obtain ⟨a1,h1,e1'⟩:=st done x r acc ha h
  obtain ⟨a2,h2,e2'⟩:=zjU all P st r (done ++ [x]) a1 (by rw [ha];simp) h1
  refine ⟨a2,h2,?_⟩
  rw [List.map_cons,e1',e2']
theorem zu8 (r:Rat):ziY [num r]=.ok (.bool true):=by
 have k1:zbe "tuple" (num r)=.ok (.bool true):=rfl
 have wh:∀ i:Int,zgG [.int i]=.ok (.bool true):=fun _=>rfl
 have k3:ltD (.int (r.den:Int)) (.int 1)=.ok (.bool false):=by
  rw [zgj];congr 2
  have:=r.den_nz
  exact decide_eq_false (by omega)
 have k4:zak [.int r.num,.int (r.den:Int)]=.ok (.int 1):=by
  rw [zgT];congr 2
  have:=(QR.low r).cop
  omega
 have k5:neD (.int 2) (.int 2)=.ok (.bool false):=by rw [zb3];rfl
 have k6:eqD (.int 1) (.int 1)=.ok (.bool true):=by rw [zbp];rfl
 have k7:gT [gN 1,gN 2] (num r) [.val (num r),.no,.no]=.ok [.val (num r),.val (.int r.num),.val (.int (r.den:Int))]:=rfl
 refine zbb (ρ:=[.val (num r),.val (.int r.num),.val (.int (r.den:Int))]) rfl ?_
 show zef [.val (num r),.no,.no]=_
 unfold zef
 have s1:sIf (FL.tOr (FL.zbX (tE (FL.e1 (zbe "tuple") (eV 0)))) (tB (FL.e2 neD (FL.e1 zcI (eV 0)) (eC (.int 2))))) (zav (eC (.bool false))) sNx [.val (num r),.no,.no]=.ok (.nx,[.val (num r),.no,.no]):=by
  have l2:zcI (num r)=.ok (.int 2):=rfl
  simp only [sIf,FL.tOr,FL.zbX,tE,tB,FL.e1,FL.e2,eV,eC,sNx,zac,zz0,k1,l2,k5,zlf,Bool.not_true,Bool.false_eq_true,if_false,if_true]
 have s2:zaC (gT [gN 1,gN 2]) (eV 0) [.val (num r),.no,.no]=.ok (.nx,[.val (num r),.val (.int r.num),.val (.int (r.den:Int))]):=rfl
 rw [zah s1,zah s2]
 simp only [zan,sIf,FL.tOr,FL.zbX,tE,zaf,zaa,eV,zz1,zz0,zai,zac,wh,zlf,Bool.not_true,tB,FL.e2,eC,Bool.false_eq_true,k3,if_false,zav,sNx,k4,k6]
end FL
namespace FL
open PySem
structure Wok (c:Int) (p:List Int × Rat):Prop where
 ln:p.1.length<=5
 lt:∀ x ∈ p.1,0<=x/\x < c
 nz:p.2 ≠ 0
inductive zxP (p:List Int × Rat):D->Prop where
 | none:zxP p .none
 | some (p':List Int × Rat):ltW (kyS p') (kyS p)=true->zxP p (tln p')
end FL
namespace FL
open PySem
theorem zuf (i:Int) {n:Nat} (h:i.natAbs < 2 ^ n) (hn:0 < n):num (i:Rat)=.tuple [.int i,.int 1]/\QR.Bd n (i:Rat):=by
 refine ⟨rfl,?_,?_⟩
 ·simpa using h
 ·show 1 < 2 ^ n
  exact Nat.one_lt_two_pow (by omega)
theorem zne {F:List D->R (D × List D)} {i:Nat} {ρ:En} {p:Bool} {d r d':D} (hi:ρ[i]?=some (.ow p d)) (hF:F [d]=.ok (r,[d'])):zam F [.m i] ρ=.ok (r,ρ.set i (.ow p d')):=by
 have h:=zfg (F:=fun l=>match l with | [a,b]=>(F [a]).bind fun y=>.ok (y.1,y.2 ++ [b]) | _=>.bad) (f:=eC .none) (v:=.none) (v':=.none) (r:=r) (d':=d') hi rfl (by show (F [d]).bind _=_;rw [hF];rfl)
 have hm:za1 ρ i=.ok d:=by unfold za1;rw [hi]
 unfold zam at h ⊢
 simp only [zmA,hm,zac,eC,zkY,hF] at h ⊢
 exact h
structure Dr (c:Int) (n:Nat) (s:Sm):Prop where
 nk:Nk s
 wk:∀ p ∈ s,Wok c p
 bd:∀ p ∈ s,QR.Bd 14 p.2
 ln:s.length<=n
end FL
namespace MD
abbrev Rw:=Nat->Int
def ex (f:List Nat->Int) (w:Rw):List Nat->List Nat->Int
 | _,[]=>0
 | pre,c :: cs=>w c * f (pre ++ cs) - ex f w (pre ++ [c]) cs
def det:List Rw->List Nat->Int
 | [],[]=>1
 | [],_ :: _=>0
 | w :: ws,cs=>ex (det ws) w [] cs
def Alt (f:List Nat->Int):Prop:=∀ pre c d post,f (pre ++ c :: d :: post)=- f (pre ++ d :: c :: post)
theorem zok {f:List Nat->Int} (h:Alt f) (w:Rw):∀ (post A B:List Nat) (c d:Nat),ex f w (A ++ c :: d :: B) post=- ex f w (A ++ d :: c :: B) post
 | [],_,_,_,_=>by simp [ex]
 | x :: post,A,B,c,d=>by
  have e1:=h A c d (B ++ post)
  have e2:=zok h w post A (B ++ [x]) c d
  simp only [ex,List.append_assoc,List.cons_append] at e1 e2 ⊢
  rw [e1,e2]
  grind
theorem ztS {f:List Nat->Int} (h:Alt f) (w:Rw):∀ (pre A:List Nat) (c d:Nat) (post:List Nat),ex f w A (pre ++ c :: d :: post)=- ex f w A (pre ++ d :: c :: post)
 | [],A,c,d,post=>by
  have e2:=zok h w post A [] c d
  simp only [ex,List.nil_append,List.append_assoc,List.cons_append] at e2 ⊢
  rw [e2]
  grind
 | x :: pre,A,c,d,post=>by
  have e1:=h (A ++ pre) c d post
  have e2:=ztS h w pre (A ++ [x]) c d post
  simp only [ex,List.append_assoc,List.cons_append] at e1 e2 ⊢
  rw [e1,e2]
  grind
theorem zkQ:∀ ws:List Rw,Alt (det ws)
 | []=>fun pre c d post=>by cases pre <;> simp [det]
 | w :: ws=>fun pre c d post=>ztS (zkQ ws) w pre [] c d post
theorem zrs {f:List Nat->Int} (h:Alt f) (pre:List Nat) (c:Nat) (post:List Nat):f (pre ++ c :: c :: post)=0:=by
 have:=h pre c c post
 omega
theorem zf2 {f:List Nat->Int} (h:Alt f):∀ (mid pre post:List Nat),∃ e:Int,(e=1\/e=-1)/\∀ c,f (pre ++ c :: (mid ++ post))=e * f (pre ++ (mid ++ c :: post))
 | [],pre,post=>⟨1,.inl rfl,fun c=>by simp⟩
 | m :: mid,pre,post=>by
  obtain ⟨e,he,q⟩:=zf2 h mid (pre ++ [m]) post
  refine ⟨-e,by omega,fun c=>?_⟩
  have e1:=h pre c m (mid ++ post)
  have e2:=q c
  simp only [List.append_assoc,List.cons_append,List.nil_append] at e1 e2 ⊢
  rw [e1,e2]
  grind
theorem zio {ws:List Rw} {l:Nat} {pre post:List Nat} {c:Nat} (h:c ∈ pre ++ post):det ws (pre ++ c :: post)=0:=by
 have A:=zkQ ws
 rcases List.mem_append.mp h with h | h
 ·obtain ⟨p1,p2,rfl⟩:=List.append_of_mem h
  obtain ⟨e,_,q⟩:=zf2 A p2 (p1 ++ [c]) post
  have z:=zrs A p1 c (p2 ++ post)
  have q':=q c
  simp only [List.append_assoc,List.cons_append,List.nil_append] at q' z ⊢
  rw [z] at q'
  rcases (by assumption:e=1\/e=-1) with r | r <;> rw [r] at q' <;> omega
 ·obtain ⟨p1,p2,rfl⟩:=List.append_of_mem h
  obtain ⟨e,_,q⟩:=zf2 A p1 pre (c :: p2)
  have z:=zrs A (pre ++ p1) c p2
  have q':=q c
  simp only [List.append_assoc,List.cons_append,List.nil_append] at q' z ⊢
  rw [q',z,Int.mul_zero]
def Sp:List Rw->Rw->Prop
 | [],v=>∀ j,v j=0
 | w :: ws,v=>∃ (a:Int) (z:Rw),Sp ws z/\∀ j,v j=a * w j + z j
theorem Sp.lin:∀ {ws:List Rw} {u v:Rw} (a b:Int),Sp ws u->Sp ws v->Sp ws (fun j=>a * u j + b * v j)
 | [],_,_,_,_,h1,h2=>fun j=>by simp [h1 j,h2 j]
 | w :: ws,u,v,a,b,⟨x,y,h1,e1⟩,⟨x',y',h2,e2⟩=>⟨a * x + b * x',_,Sp.lin a b h1 h2,fun j=>by show a * u j + b * v j=(a * x + b * x') * w j + (a * y j + b * y' j);rw [e1 j,e2 j];grind⟩
theorem Sp.zero:∀ (ws:List Rw),Sp ws (fun _=>0)
 | []=>fun _=>rfl
 | w :: ws=>⟨0,_,Sp.zero ws,fun j=>by simp⟩
theorem Sp.of_eq {ws:List Rw} {u v:Rw} (h:Sp ws u) (e:∀ j,u j=v j):Sp ws v:=(funext e:u=v) ▸ h
theorem Sp.old {ws:List Rw} {w v:Rw} (h:Sp ws v):Sp (w :: ws) v:=⟨0,v,h,fun j=>by simp⟩
theorem zna {ws:List Rw} (h:∀ cs,Sp ws (fun j=>det ws (j :: cs))) (w:Rw):∀ (cs B:List Nat),Sp ws (fun j=>ex (det ws) w (j :: B) cs)
 | [],B=>(Sp.zero ws).of_eq fun j=>by simp [ex]
 | c :: cs,B=>((h (B ++ cs)).lin (w c) (-1) (zna h w cs (B ++ [c]))).of_eq fun j=>by simp only [ex,List.cons_append];grind
theorem zhu:∀ (ws:List Rw) (cs:List Nat),Sp ws (fun j=>det ws (j :: cs))
 | [],cs=>fun j=>rfl
 | w :: ws,cs=>⟨det ws cs,_,(zna (zhu ws) w cs []).lin (-1) 0 (Sp.zero ws),fun j=>by simp only [det,ex,List.nil_append];grind⟩
theorem zxp {f:List Nat->Int} {w:Rw} {A M N:Nat} (hw:∀ j,(w j).natAbs<=A) (hf:∀ cs,cs.length<=N->(f cs).natAbs<=M):∀ (cs B:List Nat),B.length + cs.length<=N + 1->(ex f w B cs).natAbs<=cs.length * (A * M)
 | [],B,_=>by simp [ex]
 | c :: cs,B,hl=>by
  have hl':B.length + cs.length<=N:=by simp only [List.length_cons] at hl;omega
  have h1:=zxp hw hf cs (B ++ [c]) (by simp only [List.length_append,List.length_cons,List.length_nil];omega)
  have h2:(w c * f (B ++ cs)).natAbs<=A * M:=by rw [Int.natAbs_mul];exact Nat.mul_le_mul (hw c) (hf _ (by simpa using hl'))
  have h3:(cs.length + 1) * (A * M)=cs.length * (A * M) + A * M:=by rw [Nat.add_mul,Nat.one_mul]
  simp only [ex,List.length_cons]
  rw [h3]
  omega
theorem zrb {A N:Nat}:∀ (ws:List Rw) (cs:List Nat),(∀ w ∈ ws,∀ j,(w j).natAbs<=A)->cs.length<=N->(det ws cs).natAbs<=(N * A) ^ ws.length
 | [],[],_,_=>by simp [det]
 | [],_ :: _,_,_=>by simp [det]
 | w :: ws,cs,h,hl=>by
  have h1:=zxp (f:=det ws) (M:=(N * A) ^ ws.length) (N:=N) (h w (.head _)) (fun cs hc=>zrb ws cs (fun v hv=>h v (.tail _ hv)) hc) cs [] (by simp;omega)
  have h2:cs.length * (A * (N * A) ^ ws.length)<=N * (A * (N * A) ^ ws.length):=Nat.mul_le_mul_right _ hl
  have h3:N * (A * (N * A) ^ ws.length)=(N * A) ^ (ws.length + 1):=by rw [Nat.pow_succ,<- Nat.mul_assoc,Nat.mul_comm]
  show (ex (det ws) w [] cs).natAbs<=(N * A) ^ (ws.length + 1)
  omega
def Inj (ws:List Rw) (S:List Nat):Prop:=∀ v,Sp ws v->(∀ s ∈ S,v s=0)->∀ j,v j=0
theorem zvb:Inj [] []:=fun _ h _=>h
theorem zvs (ws:List Rw) (w:Rw) (cs:List Nat):∃ z,Sp ws z/\∀ j,det (w :: ws) (j :: cs)=det ws cs * w j + z j :=
 ⟨_,(zna (zhu ws) w cs []).lin (-1) 0 (Sp.zero ws),fun j=>by simp only [det,ex,List.nil_append];grind⟩
theorem zd0 {a b:Int} (h:a ≠ 0) (g:b ≠ 0):a * b ≠ 0:=fun e=>(Int.mul_eq_zero.mp e).elim h g
theorem step {ws:List Rw} {S:List Nat} {w v z:Rw} {p:Nat} {k a:Int} (hD:det ws S ≠ 0) (hi:Inj ws S) (hk:k ≠ 0) (hz:Sp ws z) (he:∀ j,k * v j=a * w j + z j) (hv:∀ s ∈ S,v s=0) (hp:v p ≠ 0) :
  det (w :: ws) (p :: S) ≠ 0/\Inj (w :: ws) (p :: S):=by
 obtain ⟨z',hz',e'⟩:=zvs ws w S
 have u0:∀ s ∈ S,det (w :: ws) (s :: S)=0:=fun s hs=>zio (l:=0) (pre:=[]) (by simpa using hs)
 have hu:det (w :: ws) (p :: S) ≠ 0:=by
  have q:=hi _ (hz.lin (det ws S) (-a) hz') (fun s hs=>by
   have h1:=he s
   have h2:=e' s
   rw [hv s hs] at h1
   rw [u0 s hs] at h2
   grind) p
  have h1:=he p
  have h2:=e' p
  intro h0
  rw [h0] at h2
  have:det ws S * (k * v p)=0:=by grind
  exact zd0 hD (zd0 hk hp) this
 refine ⟨hu,fun x hx hs j=>?_⟩
 obtain ⟨b,y,hy,ex⟩:=hx
 have q:=hi _ (hy.lin (det ws S) (-b) hz') (fun s hs'=>by
  have h1:=ex s
  have h2:=e' s
  rw [hs s (.tail _ hs')] at h1
  rw [u0 s hs'] at h2
  grind)
 have b0:b=0:=by
  have h1:=ex p
  have h2:=e' p
  have h3:=q p
  rw [hs p (.head _)] at h1
  have:b * det (w :: ws) (p :: S)=0:=by grind
  exact (Int.mul_eq_zero.mp this).resolve_right hu
 have h1:=ex j
 have h3:=q j
 have:det ws S * x j=0:=by grind
 exact (Int.mul_eq_zero.mp this).resolve_left hD
theorem zik {a D:Int} {h:Rw} (ha:a ≠ 0) (hd:∀ j,a ∣ D * h j) (prim:∀ q:Int,(∀ j,q ∣ h j)->q ∣ 1):a ∣ D:=by
 have g0:0 < Nat.gcd a.natAbs D.natAbs:=Nat.gcd_pos_of_pos_left _ (by omega)
 obtain ⟨a',ea⟩:=Nat.gcd_dvd_left a.natAbs D.natAbs
 obtain ⟨d',ed⟩:=Nat.gcd_dvd_right a.natAbs D.natAbs
 have co:Nat.Coprime a' d':=by
  have:=Nat.coprime_div_gcd_div_gcd g0
  rwa [Nat.div_eq_of_eq_mul_right g0 ea,Nat.div_eq_of_eq_mul_right g0 ed] at this
 have gd:=Nat.gcd_dvd_right a.natAbs D.natAbs
 generalize Nat.gcd a.natAbs D.natAbs=g at *
 have q:=prim (a':Int) (fun j=>by
  have:=Int.natAbs_dvd_natAbs.mpr (hd j)
  rw [Int.natAbs_mul,ea,ed,Nat.mul_assoc] at this
  exact Int.natAbs_dvd_natAbs.mp (by simpa using co.dvd_of_dvd_mul_left (Nat.dvd_of_mul_dvd_mul_left g0 this)))
 have:a'=1:=by
  have:=Int.natAbs_dvd_natAbs.mpr q
  simpa using this
 subst this
 rw [Nat.mul_one] at ea
 exact Int.natAbs_dvd_natAbs.mp (by rw [ea];exact gd)
theorem zvd {ws:List Rw} {pre post:List Nat} {l A N:Nat} {h:Rw} {k:Int} (hD:det ws (pre ++ l :: post) ≠ 0) (hi:Inj ws (pre ++ l :: post)) (hk:k ≠ 0) (hs:Sp ws fun j=>k * h j)
  (hz:∀ s ∈ pre ++ post,h s=0) (prim:∀ q:Int,(∀ j,q ∣ h j)->q ∣ 1) (hA:∀ w ∈ ws,∀ j,(w j).natAbs<=A) (hN:(pre ++ l :: post).length<=N) (j:Nat):(h j).natAbs<=(N * A) ^ ws.length:=by
 obtain ⟨e,he,q⟩:=zf2 (zkQ ws) pre [] post
 simp only [List.nil_append] at q
 have e1:e * e=1:=by rcases he with r | r <;> rw [r] <;> rfl
 have su:Sp ws (fun j=>det ws (pre ++ j :: post)):=((zhu ws (pre ++ post)).lin e 0 (Sp.zero ws)).of_eq fun j=>by rw [q j,<- Int.mul_assoc,e1];simp
 have r:=hi _ (hs.lin (det ws (pre ++ l :: post)) (-(k * h l)) su) (fun s hs'=>by
  by_cases c:s=l
  ·subst c;grind
  ·have m:s ∈ pre ++ post:=by
    rcases List.mem_append.mp hs' with m | m
    ·exact List.mem_append_left _ m
    ·exact List.mem_append_right _ ((List.mem_cons.mp m).resolve_left c)
   have z1:=hz s m
   have z2:det ws (pre ++ s :: post)=0:=zio (l:=0) m
   simp [z1,z2])
 have r':∀ j,det ws (pre ++ l :: post) * h j=h l * det ws (pre ++ j :: post):=fun j=>by
  have:=r j
  have:k * (det ws (pre ++ l :: post) * h j - h l * det ws (pre ++ j :: post))=0:=by grind
  have:=(Int.mul_eq_zero.mp this).resolve_left hk
  omega
 have hl:h l ≠ 0:=fun h0=>by
  have:∀ j,h j=0:=fun j=>by
   have:=r' j
   rw [h0,Int.zero_mul] at this
   exact (Int.mul_eq_zero.mp this).resolve_left hD
  have:=prim 0 (fun j=>by rw [this j];exact Int.dvd_refl 0)
  omega
 obtain ⟨t,et⟩:=zik hl (fun j=>⟨_,r' j⟩) prim
 have t0:t ≠ 0:=fun h0=>hD (by rw [et,h0,Int.mul_zero])
 have eu:det ws (pre ++ j :: post)=t * h j:=by
  have:=r' j
  rw [et,Int.mul_assoc] at this
  exact (Int.eq_of_mul_eq_mul_left hl this).symm
 have b:=zrb ws (pre ++ j :: post) hA (by simpa using hN)
 rw [eu,Int.natAbs_mul] at b
 have:(h j).natAbs<=t.natAbs * (h j).natAbs:=Nat.le_mul_of_pos_left _ (by omega)
 omega
end MD
namespace MD
def fn (xs:List Int):Rw:=fun j=>xs.getD j 0
def zgr (g:Nat) (xs:List Int):Nat:=xs.foldl (fun g x=>Nat.gcd g x.natAbs) g
theorem zey:∀ (xs:List Int) (g:Nat),zgr g xs ∣ g/\∀ x ∈ xs,zgr g xs ∣ x.natAbs
 | [],g=>⟨Nat.dvd_refl g,fun _ h=>nomatch h⟩
 | x :: xs,g=>by
  obtain ⟨h1,h2⟩:=zey xs (Nat.gcd g x.natAbs)
  refine ⟨Nat.dvd_trans h1 (Nat.gcd_dvd_left _ _),fun y hy=>?_⟩
  rcases List.mem_cons.mp hy with e | hy
  ·subst e;exact Nat.dvd_trans h1 (Nat.gcd_dvd_right _ _)
  ·exact h2 y hy
theorem zon {d:Nat}:∀ (xs:List Int) (g:Nat),d ∣ g->(∀ x ∈ xs,d ∣ x.natAbs)->d ∣ zgr g xs
 | [],_,h,_=>h
 | x :: xs,g,h,hx=>zon xs _ (Nat.dvd_gcd h (hx x (.head _))) fun y hy=>hx y (.tail _ hy)
def zmF (xs:List Int):List Int:=if zgr 0 xs=0 then xs else xs.map (· / (zgr 0 xs:Int))
def Prim (h:Rw):Prop:=∀ q:Int,(∀ j,q ∣ h j)->q ∣ 1
theorem ztR {f:Int->Int} (f0:f 0=0) (xs:List Int) (j:Nat):fn (xs.map f) j=f (fn xs j):=by
 unfold fn
 rw [List.getD_eq_getElem?_getD,List.getD_eq_getElem?_getD,List.getElem?_map]
 cases xs[j]? with
 | none=>exact f0.symm
 | some x=>rfl
theorem zq4 {xs:List Int} {j:Nat}:fn xs j=0\/fn xs j ∈ xs:=by
 unfold fn
 rw [List.getD_eq_getElem?_getD]
 cases h:xs[j]? with
 | none=>exact .inl rfl
 | some x=>exact .inr (List.mem_of_getElem? h)
theorem zn3 {xs:List Int} {x:Int} (h:x ∈ xs):∃ j,j < xs.length/\fn xs j=x:=by
 obtain ⟨j,hj,e⟩:=List.getElem_of_mem h
 exact ⟨j,hj,by unfold fn;rw [List.getD_eq_getElem?_getD,List.getElem?_eq_getElem hj,e];rfl⟩
theorem zlU {xs:List Int} {j:Nat} (h:xs.length<=j):fn xs j=0:=by
 unfold fn
 rw [List.getD_eq_getElem?_getD,List.getElem?_eq_none h]
 rfl
theorem znB (xs:List Int):(zmF xs).length=xs.length:=by unfold zmF;split <;> simp
theorem zeu (xs:List Int):∃ g:Int,0 < g/\∀ j,g * fn (zmF xs) j=fn xs j:=by
 unfold zmF
 split
 ·exact ⟨1,by decide,fun j=>by simp⟩
 ·refine ⟨(zgr 0 xs:Int),by omega,fun j=>?_⟩
  rw [ztR (by simp)]
  rcases zq4 (xs:=xs) (j:=j) with e | e
  ·rw [e];simp
  ·exact Int.mul_ediv_cancel' (Int.natAbs_dvd_natAbs.mp (by simpa using (zey xs 0).2 _ e))
theorem zt7 (xs:List Int) (j:Nat):(fn (zmF xs) j).natAbs<=(fn xs j).natAbs:=by
 obtain ⟨g,g0,h⟩:=zeu xs
 rw [<- h j,Int.natAbs_mul]
 exact Nat.le_mul_of_pos_left _ (by omega)
theorem zpG {xs:List Int} (h:∃ j,fn xs j ≠ 0):Prim (fn (zmF xs)):=by
 obtain ⟨j,hj⟩:=h
 have g0:zgr 0 xs ≠ 0:=fun e=>by
  rcases zq4 (xs:=xs) (j:=j) with c | c
  ·exact hj c
  ·have:=(zey xs 0).2 _ c
   rw [e] at this
   have:=Nat.eq_zero_of_zero_dvd this
   omega
 intro q hq
 have e:∀ j,(zgr 0 xs:Int) * fn (zmF xs) j=fn xs j:=fun j=>by
  unfold zmF
  rw [if_neg g0,ztR (by simp)]
  rcases zq4 (xs:=xs) (j:=j) with e | e
  ·rw [e];simp
  ·exact Int.mul_ediv_cancel' (Int.natAbs_dvd_natAbs.mp (by simpa using (zey xs 0).2 _ e))
 have d:=zon (d:=zgr 0 xs * q.natAbs) xs 0 (Nat.dvd_zero _) (fun x hx=>by
  obtain ⟨j,_,ej⟩:=zn3 hx
  rw [<- ej,<- e j,Int.natAbs_mul,Int.natAbs_natCast]
  exact Nat.mul_dvd_mul_left _ (Int.natAbs_dvd_natAbs.mpr (hq j)))
 have d':=Nat.dvd_of_mul_dvd_mul_left (Nat.pos_of_ne_zero g0) (show zgr 0 xs * q.natAbs ∣ zgr 0 xs * 1 by rwa [Nat.mul_one])
 exact Int.natAbs_dvd_natAbs.mp (by simpa using d')
def cleared (w o:List Int) (p:Nat):List Int:=if fn w p=0 then w else zmF (List.zipWith (fun m i=>fn o p * m - fn w p * i) w o)
theorem zq2 {f:Int->Int->Int} (f0:f 0 0=0) {xs ys:List Int} (h:xs.length=ys.length) (j:Nat):fn (List.zipWith f xs ys) j=f (fn xs j) (fn ys j):=by
 by_cases c:j < xs.length
 ·unfold fn
  rw [List.getD_eq_getElem?_getD,List.getD_eq_getElem?_getD,List.getD_eq_getElem?_getD,List.getElem?_zipWith,List.getElem?_eq_getElem c,List.getElem?_eq_getElem (h ▸ c)]
  rfl
 ·rw [zlU (by simp;omega),zlU (Nat.le_of_not_lt c),zlU (by omega),f0]
theorem ziy {w o:List Int} (h:w.length=o.length) (p:Nat):(cleared w o p).length=w.length:=by
 unfold cleared
 split
 ·rfl
 ·rw [znB];simp;omega
theorem zjY {w o:List Int} {p:Nat} (h:w.length=o.length) (ho:fn o p ≠ 0):∃ g a b:Int,g ≠ 0/\a ≠ 0/\∀ j,g * fn (cleared w o p) j=a * fn w j + b * fn o j:=by
 unfold cleared
 split
 ·exact ⟨1,1,0,by decide,by decide,fun j=>by simp⟩
 ·obtain ⟨g,g0,e⟩:=zeu (List.zipWith (fun m i=>fn o p * m - fn w p * i) w o)
  refine ⟨g,fn o p,- fn w p,by omega,ho,fun j=>?_⟩
  rw [e j,zq2 (by simp) h]
  grind
theorem zjZ {w o:List Int} {p:Nat} (h:w.length=o.length):fn (cleared w o p) p=0:=by
 unfold cleared
 split
 ·assumption
 ·obtain ⟨g,g0,e⟩:=zeu (List.zipWith (fun m i=>fn o p * m - fn w p * i) w o)
  have:=e p
  rw [zq2 (by simp) h] at this
  have:g * fn (zmF (List.zipWith (fun m i=>fn o p * m - fn w p * i) w o)) p=0:=by rw [this];grind
  exact (Int.mul_eq_zero.mp this).resolve_left (by omega)
theorem zeh {w o:List Int} {p s:Nat} (h:w.length=o.length) (hw:fn w s=0) (ho:fn o s=0):fn (cleared w o p) s=0:=by
 unfold cleared
 split
 ·exact hw
 ·obtain ⟨g,g0,e⟩:=zeu (List.zipWith (fun m i=>fn o p * m - fn w p * i) w o)
  have:=e s
  rw [zq2 (by simp) h,hw,ho] at this
  have:g * fn (zmF (List.zipWith (fun m i=>fn o p * m - fn w p * i) w o)) s=0:=by rw [this];grind
  exact (Int.mul_eq_zero.mp this).resolve_left (by omega)
def PZ (h:Rw):Prop:=(∀ j,h j=0)\/Prim h
theorem zpF (xs:List Int):PZ (fn (zmF xs)):=by
 by_cases c:∃ j,fn xs j ≠ 0
 ·exact .inr (zpG c)
 ·refine .inl fun j=>?_
  obtain ⟨g,g0,e⟩:=zeu xs
  have:=e j
  have z:fn xs j=0:=Classical.byContradiction fun q=>c ⟨j,q⟩
  rw [z] at this
  exact (Int.mul_eq_zero.mp this).resolve_left (by omega)
theorem zjW {w o:List Int} {p:Nat} (h:PZ (fn w)):PZ (fn (cleared w o p)):=by
 unfold cleared
 split
 ·exact h
 ·exact zpF _
end MD
namespace MD
abbrev zbs:=List (Nat × List Int)
structure zti (n:Nat) (ws:List Rw) (S:List Nat) (l:Nat) (h:List Int):Prop where
 len:h.length=n
 lt:l < n
 ne:fn h l ≠ 0
 zero:∀ s ∈ S,s ≠ l->fn h s=0
 prim:Prim (fn h)
 sp:∃ k:Int,k ≠ 0/\Sp ws fun j=>k * fn h j
 low:∀ j,j < l->fn h j=0
structure zbl (n:Nat) (ws:List Rw) (S:List Nat) (held:zbs):Prop where
 keys:held.map (·.1)=S.reverse
 det:det ws S ≠ 0
 inj:Inj ws S
 row:∀ e ∈ held,zti n ws S e.1 e.2
theorem zsJ (n:Nat):zbl n [] [] []:=⟨rfl,by decide,zvb,fun _ h=>nomatch h⟩
def clears (held:zbs) (w:List Int):List Int:=held.foldl (fun x e=>cleared x e.2 e.1) w
structure zth (n:Nat) (ws:List Rw) (S done:List Nat) (w x:List Int):Prop where
 len:x.length=n
 pz:PZ (fn x)
 zero:∀ s ∈ done,fn x s=0
 sp:∃ (k a:Int) (z:Rw),k ≠ 0/\a ≠ 0/\Sp ws z/\(∀ s ∈ S,s ∉ done->z s=0)/\∀ j,k * fn x j=a * fn w j + z j
theorem zpw {n:Nat} {ws:List Rw} {S done:List Nat} {w x h:List Int} {l:Nat} (R:zti n ws S l h) (W:zth n ws S done w x) (hd:∀ s ∈ done,s ∈ S/\s ≠ l):zth n ws S (l :: done) w (cleared x h l):=by
 have hl:x.length=h.length:=W.len.trans R.len.symm
 refine ⟨(ziy hl l).trans W.len,zjW W.pz,fun s hs=>?_,?_⟩
 ·rcases List.mem_cons.mp hs with e | hs
  ·subst e;exact zjZ hl
  ·exact zeh hl (W.zero s hs) (R.zero s (hd s hs).1 (hd s hs).2)
 ·obtain ⟨g,a1,b1,g0,a0,e1⟩:=zjY hl R.ne
  obtain ⟨k,a,z,k0,a0',hz,nz,e2⟩:=W.sp
  obtain ⟨kh,kh0,hh⟩:=R.sp
  refine ⟨k * kh * g,a1 * kh * a,_,zd0 (zd0 k0 kh0) g0,zd0 (zd0 a0 kh0) a0',hz.lin (a1 * kh) (b1 * k) hh,fun s hs hn=>?_,fun j=>?_⟩
  ·have z1:=nz s hs fun c=>hn (.tail _ c)
   have z2:=R.zero s hs fun c=>hn (c ▸ .head _)
   simp [z1,z2]
  have q1:=e1 j
  have q2:=e2 j
  grind
theorem zl2 {n:Nat} {ws:List Rw} {S:List Nat} {w:List Int}:∀ (held:zbs) (done:List Nat) (x:List Int),(∀ e ∈ held,zti n ws S e.1 e.2)->(∀ e ∈ held,e.1 ∈ S)->(∀ s ∈ done,s ∈ S)->(held.map (·.1) ++ done).Nodup->zth n ws S done w x ->
  ∃ done',(∀ s,s ∈ done' ↔ s ∈ held.map (·.1)\/s ∈ done)/\zth n ws S done' w (clears held x)
 | [],done,x,_,_,_,_,W=>⟨done,fun s=>by simp,W⟩
 | e :: held,done,x,hr,hm,hd,hn,W=>by
  rw [List.map_cons,List.cons_append,List.nodup_cons] at hn
  have W':=zpw (hr e (.head _)) W (fun s hs=>⟨hd s hs,fun c=>hn.1 (List.mem_append_right _ (c ▸ hs))⟩)
  obtain ⟨d,h1,h2⟩:=zl2 held (e.1 :: done) _ (fun y hy=>hr y (.tail _ hy)) (fun y hy=>hm y (.tail _ hy)) (fun s hs=>(List.mem_cons.mp hs).elim (fun c=>c ▸ hm e (.head _)) (hd s)) (by
   rw [List.nodup_append] at hn ⊢
   refine ⟨hn.2.1,List.nodup_cons.mpr ⟨fun c=>hn.1 (List.mem_append_right _ c),hn.2.2.1⟩,fun a ha b hb c=>?_⟩
   rcases List.mem_cons.mp hb with r | r
   ·exact hn.1 (List.mem_append_left _ (by rw [<- r,<- c];exact ha))
   ·exact hn.2.2.2 a ha b r c) W'
  exact ⟨d,fun s=>by rw [h1];simp only [List.map_cons,List.mem_cons];grind,h2⟩
theorem zfI {ws:List Rw}:∀ (S pre:List Nat),det ws (pre ++ S) ≠ 0->S.Nodup
 | [],_,_=>List.nodup_nil
 | s :: S,pre,h=>List.nodup_cons.mpr ⟨fun c=>h (zio (l:=0) (List.mem_append_right _ c)),zfI S (pre ++ [s]) (by simpa using h)⟩
theorem zcN {ws:List Rw} {S:List Nat} (h:det ws S ≠ 0):S.Nodup:=zfI S [] h
theorem zbl.mem {n:Nat} {ws:List Rw} {S:List Nat} {held:zbs} (H:zbl n ws S held) {e:Nat × List Int} (h:e ∈ held):e.1 ∈ S:=by
 have:=List.mem_map_of_mem (f:=(·.1)) h
 rw [H.keys] at this
 exact List.mem_reverse.mp this
theorem zl1 {n:Nat} {ws:List Rw} {S:List Nat} {held:zbs} {w:List Int} (H:zbl n ws S held) (hw:w.length=n) (pz:PZ (fn w)):zth n ws S S w (clears held w):=by
 have W:zth n ws S [] w w:=⟨hw,pz,fun _ h=>(nomatch h),1,1,_,by decide,by decide,Sp.zero ws,fun _ _ _=>rfl,fun j=>by simp⟩
 obtain ⟨d,h1,h2⟩:=zl2 held [] w H.row (fun e he=>H.mem he) (fun _ h=>(nomatch h)) (by rw [List.append_nil,H.keys];exact List.pairwise_reverse.mpr ((zcN H.det).imp fun h=>h.symm)) W
 obtain ⟨k,a,z,k0,a0,hz,_,e⟩:=h2.sp
 exact ⟨h2.len,h2.pz,fun s hs=>h2.zero s ((h1 s).mpr (.inl (by rw [H.keys];exact List.mem_reverse.mpr hs))),k,a,z,k0,a0,hz,fun s hs hn=>absurd hs hn,e⟩
theorem ztf {n:Nat} {ws:List Rw} {S:List Nat} {held:zbs} {w:List Int} (H:zbl n ws S held) (hw:w.length=n) (pz:PZ (fn w)) (h0:∀ j,fn (clears held w) j=0):∃ k:Int,k ≠ 0/\Sp ws fun j=>k * fn w j:=by
 obtain ⟨k,a,z,k0,a0,hz,_,e⟩:=(zl1 H hw pz).sp
 refine ⟨a,a0,(hz.lin (-1) 0 (Sp.zero ws)).of_eq fun j=>?_⟩
 have:=e j
 rw [h0 j] at this
 grind
theorem zjE {h:Rw} (p:PZ h) {l:Nat} (hl:h l ≠ 0):Prim h:=p.resolve_left fun z=>hl (z l)
theorem zte {n:Nat} {ws:List Rw} {S:List Nat} {held:zbs} {w x:List Int} {p:Nat} (H:zbl n ws S held) (hw:w.length=n) (pz:PZ (fn w)) (hx:x=clears held w) (hp:fn x p ≠ 0) (lo:∀ j,j < p->fn x j=0) :
  zbl n (fn w :: ws) (p :: S) (held.map (fun e=>(e.1,cleared e.2 x p)) ++ [(p,x)]):=by
 have W:=zl1 H hw pz
 rw [<- hx] at W
 obtain ⟨k,a,z,k0,a0,hz,_,e⟩:=W.sp
 obtain ⟨hD,hI⟩:=step H.det H.inj k0 hz e W.zero hp
 have pn:p < n:=Nat.lt_of_not_le fun c=>hp (zlU (W.len ▸ c))
 have sx:Sp (fn w :: ws) fun j=>k * fn x j:=⟨a,z,hz,e⟩
 refine ⟨by simp [H.keys,List.map_map,Function.comp_def] ,hD,hI,fun y hy=>?_⟩
 rcases List.mem_append.mp hy with hy | hy
 ·obtain ⟨⟨l,h⟩,he,rfl⟩:=List.mem_map.mp hy
  have R:=H.row _ he
  have ml:=H.mem he
  simp only at R ml ⊢
  have hl:h.length=x.length:=R.len.trans W.len.symm
  obtain ⟨g,a1,b1,g0,a10,e1⟩:=zjY hl hp
  have ne:fn (cleared h x p) l ≠ 0:=fun c=>by
   have:=e1 l
   rw [c,W.zero l ml] at this
   have:a1 * fn h l=0:=by grind
   exact zd0 a10 R.ne this
  refine ⟨(ziy hl p).trans R.len,R.lt,ne,fun s hs sl=>?_,zjE (zjW (.inr R.prim)) ne,?_,fun j hj=>?_⟩
  ·rcases List.mem_cons.mp hs with c | hs
   ·subst c;exact zjZ hl
   ·exact zeh hl (R.zero s hs sl) (W.zero s hs)
  ·obtain ⟨kh,kh0,hh⟩:=R.sp
   refine ⟨k * kh * g,zd0 (zd0 k0 kh0) g0,(hh.old.lin (k * a1) (kh * b1) sx).of_eq fun j=>?_⟩
   have:=e1 j
   grind
  ·by_cases c:j < p
   ·exact zeh hl (R.low j hj) (lo j c)
   ·have z:fn h p=0:=R.low p (by omega)
    unfold cleared
    rw [if_pos z]
    exact R.low j hj
 ·rw [List.mem_singleton.mp hy]
  exact ⟨W.len,pn,hp,fun s hs c=>W.zero s ((List.mem_cons.mp hs).resolve_left c),zjE W.pz hp,⟨k,k0,sx⟩,lo⟩
theorem zbl.le {n:Nat} {ws:List Rw} {S:List Nat} {held:zbs} {A N:Nat} (H:zbl n ws S held) (hA:∀ w ∈ ws,∀ j,(w j).natAbs<=A) (hN:S.length<=N) {e:Nat × List Int} (he:e ∈ held) (j:Nat):(fn e.2 j).natAbs<=(N * A) ^ ws.length:=by
 have R:=H.row e he
 obtain ⟨pre,post,rfl⟩:=List.append_of_mem (H.mem he)
 obtain ⟨k,k0,sp⟩:=R.sp
 have nd:=zcN H.det
 refine zvd H.det H.inj k0 sp (fun s hs=>R.zero s ?_ ?_) R.prim hA hN j
 ·rcases List.mem_append.mp hs with m | m
  ·exact List.mem_append_left _ m
  ·exact List.mem_append_right _ (.tail _ m)
 ·intro c
  subst c
  exact H.det (zio (l:=0) hs)
end MD
namespace MD
abbrev Rq:=Nat->Rat
def SpQ:List Rw->Rq->Prop
 | [],v=>∀ j,v j=0
 | w :: ws,v=>∃ (a:Rat) (z:Rq),SpQ ws z/\∀ j,v j=a * (w j:Rat) + z j
theorem SpQ.lin:∀ {ws:List Rw} {u v:Rq} (a b:Rat),SpQ ws u->SpQ ws v->SpQ ws (fun j=>a * u j + b * v j)
 | [],_,_,_,_,h1,h2=>fun j=>by simp only [h1 j,h2 j];grind
 | w :: ws,u,v,a,b,⟨x,y,h1,e1⟩,⟨x',y',h2,e2⟩=>⟨a * x + b * x',_,SpQ.lin a b h1 h2,fun j=>by show a * u j + b * v j=(a * x + b * x') * w j + (a * y j + b * y' j);rw [e1 j,e2 j];grind⟩
theorem SpQ.zero:∀ (ws:List Rw),SpQ ws (fun _=>0)
 | []=>fun _=>rfl
 | w :: ws=>⟨0,_,SpQ.zero ws,fun j=>by grind⟩
theorem SpQ.of_eq {ws:List Rw} {u v:Rq} (h:SpQ ws u) (e:∀ j,u j=v j):SpQ ws v:=(funext e:u=v) ▸ h
theorem SpQ.of:∀ {ws:List Rw} {v:Rw},Sp ws v->SpQ ws (fun j=>(v j:Rat))
 | [],v,h=>fun j=>by show ((v j:Int):Rat)=0;rw [h j];rfl
 | w :: ws,v,⟨a,z,h,e⟩=>⟨(a:Rat),_,SpQ.of h,fun j=>by show ((v j:Int):Rat)=_;rw [e j];push_cast;rfl⟩
theorem SpQ.ofk {ws:List Rw} {v:Rw} {k:Int} (k0:k ≠ 0) (h:Sp ws fun j=>k * v j):SpQ ws (fun j=>(v j:Rat)):=by
 have q:=(SpQ.of h).lin (1 / (k:Rat)) 0 (SpQ.zero ws)
 refine q.of_eq fun j=>?_
 have:(k:Rat) ≠ 0:=by simpa using k0
 push_cast
 grind
theorem SpQ.clear:∀ {ws:List Rw} {v:Rq},SpQ ws v->∃ (d:Int) (z:Rw),d ≠ 0/\Sp ws z/\∀ j,(d:Rat) * v j=(z j:Rat)
 | [],v,h=>⟨1,fun _=>0,by decide,fun _=>rfl,fun j=>by rw [h j];grind⟩
 | w :: ws,v,⟨a,y,h,e⟩=>by
  obtain ⟨d,z,d0,hz,ez⟩:=SpQ.clear h
  have den0:(a.den:Int) ≠ 0:=by have:=a.den_pos;omega
  refine ⟨d * a.den,fun j=>d * a.num * w j + a.den * z j,zd0 d0 den0,⟨d * a.num,_,hz.lin a.den 0 (Sp.zero ws),fun j=>by simp⟩,fun j=>?_⟩
  have q:=ez j
  have dn:(a.den:Rat) ≠ 0:=by have:=a.den_pos;simp;omega
  have an:a * (a.den:Rat)=(a.num:Rat):=by have:=Rat.mkRat_self a;rw [Rat.mkRat_eq_div] at this;grind
  rw [e j]
  push_cast
  rw [<- q,<- an]
  grind
theorem zzN {ws:List Rw} {S:List Nat} (h:Inj ws S) {v:Rq} (hv:SpQ ws v) (h0:∀ s ∈ S,v s=0) (j:Nat):v j=0:=by
 obtain ⟨d,z,d0,hz,e⟩:=hv.clear
 have d0':(d:Rat) ≠ 0:=by simpa using d0
 have q:=h z hz (fun s hs=>by
  have:=e s
  rw [h0 s hs] at this
  have:((z s:Int):Rat)=0:=by grind
  simpa using this) j
 have:=e j
 rw [q] at this
 have:(d:Rat) * v j=0:=by rw [this];rfl
 grind
def kr (e:Nat × List Int):Rq:=fun j=>(fn e.2 j:Rat) / (fn e.2 e.1:Rat)
def zcy (l:List Rat):Rat:=l.foldr (· + ·) 0
theorem SpQ.sum {ws:List Rw}:∀ (held:zbs) (c:Nat × List Int->Rat),(∀ e ∈ held,SpQ ws (kr e))->SpQ ws (fun j=>zcy (held.map fun e=>c e * kr e j))
 | [],_,_=>SpQ.zero ws
 | e :: held,c,h=>((h e (.head _)).lin (c e) 1 (SpQ.sum held c fun y hy=>h y (.tail _ hy))).of_eq fun j=>by simp only [List.map_cons,zcy,List.foldr_cons];grind
theorem zbl.zxT {n:Nat} {ws:List Rw} {S:List Nat} {held:zbs} (H:zbl n ws S held) {e:Nat × List Int} (he:e ∈ held):SpQ ws (kr e):=by
 obtain ⟨k,k0,h⟩:=(H.row e he).sp
 refine ((SpQ.ofk k0 h).lin (1 / (fn e.2 e.1:Rat)) 0 (SpQ.zero ws)).of_eq fun j=>?_
 unfold kr
 grind
theorem zbl.zw1 {n:Nat} {ws:List Rw} {S:List Nat} {held:zbs} (H:zbl n ws S held) {e:Nat × List Int} (he:e ∈ held):kr e e.1=1:=by
 have:(fn e.2 e.1:Rat) ≠ 0:=by simpa using (H.row e he).ne
 unfold kr
 grind
theorem zbl.zqz {n:Nat} {ws:List Rw} {S:List Nat} {held:zbs} (H:zbl n ws S held) {e:Nat × List Int} (he:e ∈ held) {s:Nat} (hs:s ∈ S) (c:s ≠ e.1):kr e s=0:=by
 unfold kr
 rw [(H.row e he).zero s hs c]
 show ((0:Int):Rat) / _=0
 grind
theorem zpH {f:Nat × List Int->Rat} {s:Nat} {v:Rat}:∀ held:zbs,(held.map (·.1)).Nodup->s ∈ held.map (·.1)->(∀ e ∈ held,e.1=s->f e=v)->(∀ e ∈ held,e.1 ≠ s->f e=0)->zcy (held.map f)=v
 | [],_,h,_,_=>nomatch h
 | e :: held,nd,h,h1,h2=>by
  rw [List.map_cons,List.nodup_cons] at nd
  by_cases c:e.1=s
  ·have:zcy (held.map f)=0:=by
    have z:∀ held:zbs,(∀ y ∈ held,f y=0)->zcy (held.map f)=0:=fun held=>by
     induction held with
     | nil=>exact fun _=>rfl
     | cons y ys ih=>exact fun h=>by simp only [List.map_cons,zcy,List.foldr_cons];rw [h y (.head _)];have:=ih fun z hz=>h z (.tail _ hz);simp only [zcy] at this;rw [this];grind
    exact z held fun y hy=>h2 y (.tail _ hy) fun q=>nd.1 (by rw [c,<- q];exact List.mem_map_of_mem (f:=(·.1)) hy)
   simp only [List.map_cons,zcy,List.foldr_cons] at this ⊢
   rw [this,h1 e (.head _) c]
   grind
  ·have hs:s ∈ held.map (·.1):=(List.mem_cons.mp h).resolve_left fun q=>c q.symm
   have:=zpH held nd.2 hs (fun y hy=>h1 y (.tail _ hy)) (fun y hy=>h2 y (.tail _ hy))
   simp only [List.map_cons,zcy,List.foldr_cons] at this ⊢
   rw [this,h2 e (.head _) c]
   grind
theorem zbl.room {n:Nat} {ws:List Rw} {S:List Nat} {held:zbs} (H:zbl n ws S held) {v:Rq} (hv:SpQ ws v) (j:Nat):v j=zcy (held.map fun e=>v e.1 * kr e j):=by
 have nd:(held.map (·.1)).Nodup:=by rw [H.keys];exact List.pairwise_reverse.mpr ((zcN H.det).imp fun h=>h.symm)
 have q:=zzN H.inj (hv.lin 1 (-1) (SpQ.sum held (fun e=>v e.1) fun e he=>H.zxT he)) (fun s hs=>by
  have ms:s ∈ held.map (·.1):=by rw [H.keys];exact List.mem_reverse.mpr hs
  have:=zpH (f:=fun e=>v e.1 * kr e s) (v:=v s) held nd ms (fun e he c=>by subst c;rw [H.zw1 he];grind) (fun e he c=>by rw [H.zqz he hs fun q=>c q.symm];grind)
  rw [this]
  grind) j
 grind
end MD
namespace MD
def adj (ws:List Rw) (pre post:List Nat):Rw:=fun j=>det ws (pre ++ j :: post)
theorem zxL (ws:List Rw) (pre post:List Nat):Sp ws (adj ws pre post):=by
 obtain ⟨e,he,q⟩:=zf2 (zkQ ws) pre [] post
 simp only [List.nil_append] at q
 have e1:e * e=1:=by rcases he with r | r <;> rw [r] <;> rfl
 exact ((zhu ws (pre ++ post)).lin e 0 (Sp.zero ws)).of_eq fun j=>by unfold adj;rw [q j,<- Int.mul_assoc,e1];simp
def yOf (ws:List Rw) (S:List Nat) (w:Rw) (D:Int):List (List Nat × Nat × List Nat)->Rw
 | []=>fun j=>D * w j
 | (pre,l,post) :: r=>fun j=>yOf ws S w D r j - w l * adj ws pre post j
theorem ztm {ws:List Rw} {S:List Nat} {w:Rw} {D:Int} {A M:Nat} (hw:∀ j,(w j).natAbs<=A) (hD:D.natAbs<=M):∀ (ps:List (List Nat × Nat × List Nat)),(∀ p ∈ ps,∀ j,(adj ws p.1 p.2.2 j).natAbs<=M)->∀ j,(yOf ws S w D ps j).natAbs<=(ps.length + 1) * (A * M)
 | [],_,j=>by
  simp only [yOf,List.length_nil,Nat.zero_add,Nat.one_mul,Int.natAbs_mul]
  rw [Nat.mul_comm]
  exact Nat.mul_le_mul (hw j) hD
 | (pre,l,post) :: r,h,j=>by
  have h1:=ztm (S:=S) hw hD r (fun p hp=>h p (.tail _ hp)) j
  have h2:(w l * adj ws pre post j).natAbs<=A * M:=by rw [Int.natAbs_mul];exact Nat.mul_le_mul (hw l) (h _ (.head _) j)
  have h3:(r.length + 1 + 1) * (A * M)=(r.length + 1) * (A * M) + A * M:=by rw [Nat.add_mul _ 1,Nat.one_mul]
  simp only [yOf,List.length_cons]
  rw [h3]
  omega
theorem ztl {ws:List Rw} {S:List Nat} {w:Rw} {D:Int}:∀ (ps:List (List Nat × Nat × List Nat)),∃ z,Sp ws z/\∀ j,yOf ws S w D ps j=D * w j + z j
 | []=>⟨_,Sp.zero ws,fun j=>by simp [yOf]⟩
 | (pre,l,post) :: r=>by
  obtain ⟨z,hz,e⟩:=ztl (ws:=ws) (S:=S) (w:=w) (D:=D) r
  exact ⟨_,hz.lin 1 (-(w l)) (zxL ws pre post),fun j=>by simp only [yOf];rw [e j];grind⟩
theorem ztn {ws:List Rw} {S:List Nat} {w:Rw} {D:Int} (hD:D=det ws S) {s:Nat} (hs:s ∈ S):∀ (ps:List (List Nat × Nat × List Nat)),(ps.map (·.2.1)).Nodup->(∀ p ∈ ps,S=p.1 ++ p.2.1 :: p.2.2)->yOf ws S w D ps s=if s ∈ ps.map (·.2.1) then 0 else D * w s
 | [],_,_=>by simp [yOf]
 | (pre,l,post) :: r,nd,h=>by
  rw [List.map_cons,List.nodup_cons] at nd
  have ih:=ztn (w:=w) hD hs r nd.2 fun p hp=>h p (.tail _ hp)
  have eS:=h _ (.head _)
  simp only at eS
  simp only [yOf]
  rw [ih]
  by_cases c:s=l
  ·subst c
   have e1:adj ws pre post s=D:=by unfold adj;rw [<- eS,hD]
   have n1:¬ s ∈ r.map (·.2.1):=nd.1
   rw [e1,if_neg n1,if_pos (by simp)]
   grind
  ·have m:s ∈ pre ++ post:=by
    rw [eS] at hs
    rcases List.mem_append.mp hs with m | m
    ·exact List.mem_append_left _ m
    ·exact List.mem_append_right _ ((List.mem_cons.mp m).resolve_left c)
   have e1:adj ws pre post s=0:=zio (l:=0) m
   have e2:(s ∈ ((pre,l,post) :: r).map (·.2.1)) ↔ s ∈ r.map (·.2.1):=by simp [c]
   rw [e1,Int.mul_zero,Int.sub_zero]
   by_cases d:s ∈ r.map (·.2.1)
   ·rw [if_pos d,if_pos (e2.mpr d)]
   ·rw [if_neg d,if_neg fun z=>d (e2.mp z)]
theorem zx1 {ws:List Rw} {S:List Nat} {w x z:Rw} {k a:Int} {A M:Nat} {done:List Nat} (hD:det ws S ≠ 0) (hi:Inj ws S) (hw:∀ j,(w j).natAbs<=A) (hM:∀ cs,cs.length=S.length->(det ws cs).natAbs<=M)
  (k0:k ≠ 0) (a0:a ≠ 0) (hz:Sp ws z) (e:∀ j,k * x j=a * w j + z j) (nd:done.Nodup) (hd:∀ s ∈ done,s ∈ S/\x s=0) (hn:∀ s ∈ S,s ∉ done->z s=0) (pz:PZ x) (j:Nat):(x j).natAbs<=(done.length + 1) * (A * M):=by
 have pick:∀ done:List Nat,(∀ s ∈ done,s ∈ S)->∃ ps:List (List Nat × Nat × List Nat),ps.map (·.2.1)=done/\∀ p ∈ ps,S=p.1 ++ p.2.1 :: p.2.2:=fun done=>by
  induction done with
  | nil=>exact fun _=>⟨[],rfl,fun _ h=>nomatch h⟩
  | cons s r ih =>
   intro h
   obtain ⟨ps,h1,h2⟩:=ih fun t ht=>h t (.tail _ ht)
   obtain ⟨pre,post,e⟩:=List.append_of_mem (h s (.head _))
   refine ⟨(pre,s,post) :: ps,by rw [List.map_cons,h1],fun p hp=>?_⟩
   rcases List.mem_cons.mp hp with c | hp
   ·rw [c];exact e
   ·exact h2 p hp
 obtain ⟨ps,hp1,hp2⟩:=pick done fun s hs=>(hd s hs).1
 obtain ⟨zy,hzy,ey⟩:=ztl (ws:=ws) (S:=S) (w:=w) (D:=det ws S) ps
 have q:=hi _ (hz.lin (det ws S) (-a) hzy) (fun s hs=>by
  have h1:=e s
  have h2:=ey s
  rw [ztn rfl hs ps (hp1 ▸ nd) hp2] at h2
  by_cases c:s ∈ done
  ·rw [if_pos (hp1 ▸ c)] at h2
   rw [(hd s c).2] at h1
   grind
  ·rw [if_neg (by rw [hp1];exact c)] at h2
   rw [hn s hs c]
   grind)
 have r:∀ j,a * yOf ws S w (det ws S) ps j=(det ws S * k) * x j:=fun j=>by
  have h1:=e j
  have h2:=ey j
  have h3:=q j
  grind
 rcases pz with pz | pz
 ·rw [pz j];simp
 ·obtain ⟨t,et⟩:=zik a0 (fun j=>⟨_,(r j).symm⟩) pz
  have t0:t ≠ 0:=fun h0=>zd0 hD k0 (by rw [et,h0,Int.mul_zero])
  have ex:yOf ws S w (det ws S) ps j=t * x j:=by
   have:=r j
   rw [et,Int.mul_assoc] at this
   exact Int.eq_of_mul_eq_mul_left a0 this
  have b:=ztm (ws:=ws) (S:=S) (w:=w) (D:=det ws S) hw (hM S rfl) ps (fun p hp j=>hM _ (by
   have:=congrArg List.length (hp2 p hp)
   simp at this ⊢
   omega)) j
  have lp:ps.length=done.length:=by rw [<- hp1,List.length_map]
  rw [ex,Int.natAbs_mul,lp] at b
  have:(x j).natAbs<=t.natAbs * (x j).natAbs:=Nat.le_mul_of_pos_left _ (by omega)
  omega
end MD
namespace MD
theorem zjV {n:Nat} {ws:List Rw} {S:List Nat} {w:List Int}:∀ (held:zbs) (done:List Nat) (x:List Int),(∀ e ∈ held,zti n ws S e.1 e.2)->(∀ e ∈ held,e.1 ∈ S)->(∀ s ∈ done,s ∈ S)->(held.map (·.1) ++ done).Nodup->zth n ws S done w x ->
  zth n ws S ((held.map (·.1)).reverse ++ done) w (clears held x)
 | [],done,x,_,_,_,_,W=>W
 | e :: held,done,x,hr,hm,hd,hn,W=>by
  rw [List.map_cons,List.cons_append,List.nodup_cons] at hn
  have W':=zpw (hr e (.head _)) W (fun s hs=>⟨hd s hs,fun c=>hn.1 (List.mem_append_right _ (c ▸ hs))⟩)
  have:=zjV held (e.1 :: done) _ (fun y hy=>hr y (.tail _ hy)) (fun y hy=>hm y (.tail _ hy)) (fun s hs=>(List.mem_cons.mp hs).elim (fun c=>c ▸ hm e (.head _)) (hd s)) (by
   rw [List.nodup_append] at hn ⊢
   refine ⟨hn.2.1,List.nodup_cons.mpr ⟨fun c=>hn.1 (List.mem_append_right _ c),hn.2.2.1⟩,fun a ha b hb c=>?_⟩
   rcases List.mem_cons.mp hb with r | r
   ·exact hn.1 (List.mem_append_left _ (by rw [<- r,<- c];exact ha))
   ·exact hn.2.2.2 a ha b r c) W'
  rw [List.map_cons,List.reverse_cons,List.append_assoc]
  exact this
theorem zkv {n:Nat} {ws:List Rw} {S:List Nat} {held:zbs} (H:zbl n ws S held):(held.map (·.1)).Nodup:=by
 rw [H.keys];exact List.pairwise_reverse.mpr ((zcN H.det).imp fun h=>h.symm)
theorem zfM {n:Nat} {ws:List Rw} {S:List Nat} {held:zbs} (H:zbl n ws S held):held.length=S.length:=by
 have:=congrArg List.length H.keys
 simpa using this
theorem ziq:∀ {ws:List Rw} {S:List Nat},det ws S ≠ 0->ws.length=S.length:=by
 have ex0:∀ (f:List Nat->Int) (w:Rw) (cs B:List Nat),(∀ (cs' B':List Nat),(B' ++ cs').length + 1=B.length + cs.length->f (B' ++ cs')=0)->ex f w B cs=0:=by
  intro f w cs
  induction cs with
  | nil=>exact fun _ _=>rfl
  | cons c cs ih =>
   intro B h
   simp only [ex]
   rw [h cs B (by simp;omega),ih (B ++ [c]) (fun cs' B' e=>h cs' B' (by simp at e ⊢;omega))]
   simp
 intro ws
 induction ws with
 | nil =>
  intro S h
  cases S with
  | nil=>rfl
  | cons s S=>exact absurd rfl h
 | cons w ws ih =>
  intro S h
  refine Classical.byContradiction fun ne=>h ?_
  show ex (det ws) w [] S=0
  refine ex0 _ _ _ _ fun cs' B' e=>Classical.byContradiction fun z=>ne ?_
  have:=ih z
  simp at e this ⊢
  omega
theorem zwn {n:Nat} {ws:List Rw} {S:List Nat} {held:zbs} {w:List Int} {A N:Nat} (H:zbl n ws S held) (hw:w.length=n) (pz:PZ (fn w)) (hA:∀ v ∈ ws,∀ j,(v j).natAbs<=A) (hwA:∀ j,(fn w j).natAbs<=A) (hN:ws.length<=N) (h1:1<=A) (i:Nat) :
  (clears (held.take i) w).length=n/\∀ j,(fn (clears (held.take i) w) j).natAbs<=(N + 1) * (A * (N * A) ^ N):=by
 have W:zth n ws S [] w w:=⟨hw,pz,fun _ h=>(nomatch h),1,1,_,by decide,by decide,Sp.zero ws,fun _ _ _=>rfl,fun j=>by simp⟩
 have lS:=ziq H.det
 have nd:((held.take i).map (·.1)).Nodup:=by rw [List.map_take];exact (zkv H).sublist (List.take_sublist _ _)
 have R:=zjV (held.take i) [] w (fun e he=>H.row e (List.mem_of_mem_take he)) (fun e he=>H.mem (List.mem_of_mem_take he)) (fun _ h=>(nomatch h)) (by rw [List.append_nil];exact nd) W
 rw [List.append_nil] at R
 refine ⟨R.len,fun j=>?_⟩
 obtain ⟨k,a,z,k0,a0,hz,nz,e⟩:=R.sp
 have hM:∀ cs:List Nat,cs.length=S.length->(det ws cs).natAbs<=(N * A) ^ ws.length:=fun cs hc=>zrb ws cs hA (by omega)
 have b:=zx1 (M:=(N * A) ^ ws.length) H.det H.inj hwA hM k0 a0 hz e (List.pairwise_reverse.mpr (nd.imp fun h=>h.symm)) (fun s hs=>⟨by
  obtain ⟨e',me,rfl⟩:=List.mem_map.mp (List.mem_reverse.mp hs)
  exact H.mem (List.mem_of_mem_take me),R.zero s hs⟩) nz R.pz j
 have l1:((held.take i).map (·.1)).reverse.length<=N:=by
  have:=zfM H
  simp
  omega
 refine Nat.le_trans b (Nat.mul_le_mul (by omega) (Nat.mul_le_mul_left _ ?_))
 rcases Nat.eq_zero_or_pos N with c | c
 ·have:ws.length=0:=by omega
  rw [this,c]
  exact Nat.le_refl _
 ·exact Nat.pow_le_pow_right (Nat.mul_pos c h1) hN
theorem zve {n:Nat} {ws:List Rw} {S:List Nat} {held:zbs} {A N:Nat} (H:zbl n ws S held) (hA:∀ v ∈ ws,∀ j,(v j).natAbs<=A) (hN:ws.length<=N) (h1:1<=A) {e:Nat × List Int} (he:e ∈ held) (j:Nat):(fn e.2 j).natAbs<=(N + 1) * (A * (N * A) ^ N):=by
 have lS:=ziq H.det
 have b:=H.le (N:=N) hA (by omega) he j
 rcases Nat.eq_zero_or_pos N with c | c
 ·have:held.length=0:=by rw [zfM H];omega
  rw [List.length_eq_zero_iff.mp this] at he
  cases he
 ·have p:=Nat.pow_le_pow_right (n:=N * A) (Nat.mul_pos c h1) hN
  have q:1 * (1 * (N * A) ^ N)<=(N + 1) * (A * (N * A) ^ N):=Nat.mul_le_mul (by omega) (Nat.mul_le_mul_right _ h1)
  omega
end MD
namespace MD
theorem zaO (a:Rat) (l:List Rat):zcy (a :: l)=a + zcy l:=rfl
theorem zfy:zcy []=0:=rfl
theorem znE:∀ (l m:List Rat),zcy (l ++ m)=zcy l + zcy m
 | [],m=>by rw [List.nil_append,zfy];grind
 | a :: l,m=>by rw [List.cons_append,zaO,zaO,znE l m];grind
theorem zhk {α:Type} (a b:Rat) (f g:α->Rat):∀ l:List α,zcy (l.map fun x=>a * f x + b * g x)=a * zcy (l.map f) + b * zcy (l.map g)
 | []=>by simp only [List.map_nil,zfy];grind
 | x :: l=>by simp only [List.map_cons,zaO,zhk a b f g l];grind
theorem zca {α:Type} {f:α->Rat}:∀ {l:List α},(∀ x ∈ l,f x=0)->zcy (l.map f)=0
 | [],_=>rfl
 | x :: l,h=>by rw [List.map_cons,zaO,h x (.head _),zca fun y hy=>h y (.tail _ hy)];grind
theorem zay {α:Type} {f g:α->Rat}:∀ {l:List α},(∀ x ∈ l,f x=g x)->zcy (l.map f)=zcy (l.map g)
 | [],_=>rfl
 | x :: l,h=>by rw [List.map_cons,List.map_cons,zaO,zaO,h x (.head _),zay fun y hy=>h y (.tail _ hy)]
theorem znD {α:Type} (a:Rat) (f:α->Rat) (l:List α):zcy (l.map fun x=>a * f x)=a * zcy (l.map f):=by
 have:=zhk a 0 f f l
 rw [<- zay (f:=fun x=>a * f x) fun x _=>by grind] at this
 rw [this];grind
def ip (n:Nat) (u v:Rq):Rat:=zcy ((List.range n).map fun j=>u j * v j)
theorem zm4 (n:Nat) (u v:Rq):ip n u v=ip n v u:=zay fun j _=>by grind
theorem ztN (n:Nat) (t:Rq) (a b:Rat) (u v:Rq):ip n t (fun j=>a * u j + b * v j)=a * ip n t u + b * ip n t v:=by
 unfold ip
 rw [<- zhk]
 exact zay fun j _=>by grind
theorem zu9 (n:Nat) (t:Rq):ip n t (fun _=>0)=0:=zca fun j _=>by grind
theorem zsG {n:Nat} {t u v:Rq} (h:∀ j,j < n->u j=v j):ip n t u=ip n t v:=zay fun j hj=>by rw [h j (List.mem_range.mp hj)]
theorem zhO (v:Rq) (g:Rq) (p:Nat) (x:Rat):∀ n:Nat,p < n->zcy ((List.range n).map fun j=>(if p=j then x else g j) * v j)=zcy ((List.range n).map fun j=>g j * v j) + (x - g p) * v p
 | 0,h=>by omega
 | n + 1,h=>by
  simp only [List.range_succ,List.map_append,List.map_cons,List.map_nil,znE,zaO,zfy]
  by_cases c:p=n
  ·subst c
   rw [if_pos rfl,zay (f:=fun j=>(if p=j then x else g j) * v j) (g:=fun j=>g j * v j) fun j hj=>by rw [if_neg (by have:=List.mem_range.mp hj;omega)]]
   grind
  ·rw [if_neg c,zhO v g p x n (by omega)]
   grind
theorem SpQ.ind {P:Rq->Prop} (h0:P fun _=>0) (hl:∀ a b u v,P u->P v->P fun j=>a * u j + b * v j):∀ {ws:List Rw} {v:Rq},(∀ w ∈ ws,P fun j=>(w j:Rat))->SpQ ws v->P v
 | [],v,_,h=>by
  have:v=fun _=>0:=funext h
  rw [this];exact h0
 | w :: ws,v,hw,⟨a,z,h,e⟩=>by
  have:v=fun j=>a * (w j:Rat) + 1 * z j:=funext fun j=>by rw [e j];grind
  rw [this]
  exact hl a 1 _ _ (hw w (.head _)) (SpQ.ind h0 hl (fun y hy=>hw y (.tail _ hy)) h)
end MD
namespace FL
open PySem
def zbH:SF:=(sIf (tB (e2 neD (eV 2) (eC (.int 0)))) (zav (eV 1)) sNx)
def zgS:SF:=(zeQ (zvc (zaa (eV 0) zai)) (gT [(gN 1),(gN 2)]) zbH)
def zgu:SF:=(zan zgS
  (zav (eC .none)))
def ziV:List D->R D:=za0 false 1 3 zgu
def zie:SF:=(zav (zmy (e1 (zbe "int") (eV 0)) (zxu (e1 (zbe "bool") (eV 0)))))
def zbw:List D->R D:=za0 false 1 1 zie
def zfQ:EF:=(zaz 1 [1] (iR1 (zaa (eV 0) zai)) (gN 0) zaK (zcv (zaa (e1 intD (e2 eqD (eV 0) (eV 1))) (zaa (eC (.int 1)) zai))))
def zfc:SF:=(zba zfQ)
def zgF:List D->R D:=za0 true 2 2 zfc
def zeW:EF:=(zaz 1 [] (iR1 (zaa (eV 0) zai)) (gN 0) zaK (zcv (zaa (eC (.int 0)) (zaa (eC (.int 1)) zai))))
def zea:SF:=(zba zeW)
def zfn:List D->R D:=za0 true 1 1 zea
def zfe:SF:=(zan (sIf (tB (e2 eqD (eV 1) (eC (.int 0)))) zoO sNx)
  (zan (zaC (gN 2) (zaf zak (zaa (eV 0) (zaa (eV 1) zai))))
  (zan (sIf (tB (e2 ltD (eV 1) (eC (.int 0)))) (zaC (gN 2) (e1 zpr (eV 2))) sNx)
  (zav (zcv (zaa (e2 zaL (eV 0) (eV 2)) (zaa (e2 zaL (eV 1) (eV 2)) zai)))))))
def zeE:List D->R D:=za0 false 2 3 zfe
def zbG:SF:=(zan (zaC (gN 1) (zaf zak (zaa (eV 1) (zaa (eV 2) zai))))
  (sIf (tB (e2 eqD (eV 1) (eC (.int 1)))) zv6 sNx))
def zgR:SF:=(zeQ (iE (eV 0)) (gN 2) zbG)
def zd5:EF:=(zaz 1 [1] (iE (eV 0)) (gN 0) zaK (e2 zaL (eV 0) (eV 1)))
def zgs:SF:=(zan (zaC (gN 1) (eC (.int 0)))
  (zan zgR
  (zan (sIf (tB (e2 eqD (eV 1) (eC (.int 0)))) (zav (eV 0)) sNx)
  (zav zd5))))
def ziU:List D->R D:=za0 false 1 3 zgs
def zch:SF:=(zan (sIf (FL.tOr (FL.zbX (tE (e1 (zbe "tuple") (eV 0)))) (tB (e2 neD (e1 zcI (eV 0)) (eC (.int 2))))) (zav (eC (.bool false))) sNx)
  (zan (sIf (FL.tOr (FL.zbX (tE (zaf zbw (zaa (e2 ixD (eV 0) (eC (.int 0))) zai)))) (FL.zbX (tE (zaf zbw (zaa (e2 ixD (eV 0) (eC (.int 1))) zai))))) (zav (eC (.bool false))) sNx)
  (zav (zmy (e2 geD (e2 ixD (eV 0) (eC (.int 1))) (eC (.int 1))) (e2 eqD (zaf zbv (zaa (e2 ixD (eV 0) (eC (.int 0))) (zaa (e2 ixD (eV 0) (eC (.int 1))) zai))) (eV 0))))))
def zeo:List D->R D:=za0 false 1 1 zch
def zfa:EF:=(zaz 1 [] (iE (eV 0)) (gN 0) zaK (zaf ziY (zaa (eV 0) zai)))
def zig:SF:=(zav (zmy (e1 (zbe "list") (eV 0)) (e1 zvD zfa)))
def zoE:List D->R D:=za0 false 1 1 zig
def zlP:SF:=(zaC (gN 2) (zaf zmr (zaa (eV 2) (zaa (zaf znt (zaa (eV 3) (zaa (eV 4) zai))) zai))))
def zd2:SF:=(zeQ (zpe (zaa (eV 0) (zaa (eV 1) zai))) (gT [(gN 3),(gN 4)]) zlP)
def zgt:SF:=(zan (zaC (gN 2) (eC (.tuple [(.int 0),(.int 1)])))
  (zan zd2
  (zav (eV 2))))
def zms:List D->R D:=za0 false 2 5 zgt
def zb7:SF:=(zaC (gN 1) (e2 zbd (e2 zaL (eV 1) (zaf zak (zaa (eV 1) (zaa (e2 ixD (eV 2) (eC (.int 1))) zai)))) (e2 ixD (eV 2) (eC (.int 1)))))
def zeV:SF:=(zeQ (iE (eV 0)) (gN 2) zb7)
def zcS:EF:=(zaz 1 [1] (iE (eV 0)) (gN 0) zaK (e2 zbd (e2 ixD (eV 0) (eC (.int 0))) (e2 zaL (eV 1) (e2 ixD (eV 0) (eC (.int 1))))))
def zd9:SF:=(zan (zaC (gN 1) (eC (.int 1)))
  (zan zeV
  (zav (zaf ziU (zaa zcS zai)))))
def zfm:List D->R D:=za0 false 1 3 zd9
def zd8:EF:=(zaz 2 [0,1,2] (zpe (zaa (eV 0) (zaa (eV 1) zai))) (gT [(gN 0),(gN 1)]) zaK (e2 zge (e2 zbd (e2 ixD (eV 3) (eV 4)) (eV 0)) (e2 zbd (e2 ixD (eV 2) (eV 4)) (eV 1))))
def zgw:SF:=(zan (sIf (tB (e2 eqD (e2 ixD (eV 0) (eV 2)) (eC (.int 0)))) (zav (eV 0)) sNx)
  (zav (zaf ziU (zaa zd8 zai))))
def zep:List D->R D:=za0 false 3 3 zgw
def zd4:SF:=(setM 3 (zaf zeE (zaa (e1 zpr (e2 ixD (e2 zjS (eV 0) (eV 4)) (eV 1))) (zaa (e2 ixD (e2 zjS (eV 0) (eV 4)) (eV 4)) zai))) (eV 4))
def zcC:SF:=(zeQ (iD (eV 0)) (gN 4) zd4)
def zdh:SF:=(zan (zeJ 3 (zxV (eC (.tuple [(.int 0),(.int 1)])) (eV 2)))
  (zan (setM 3 (eC (.tuple [(.int 1),(.int 1)])) (eV 1))
  (zan zcC
  (zoN 3))))
def zg8:List D->R D:=za0 true 3 5 zdh
def zcu:SF:=(zan (zaC (gN 1) (zam zbu [.m 0,.v (eC (.int 6))]))
  (zan (sIf (tB (e2 ltD (eV 1) (eC (.int 3)))) (zav (e2 ixD (zc9 (zaa (zcv (zaa (eC (.int 0)) (zaa (eC (.int 1)) zai))) (zaa (zcv (zaa (eC (.int 1)) (zaa (eC (.int 1)) zai))) (zaa (zcv (zaa (e1 zpr (eC (.int 1))) (zaa (eC (.int 1)) zai))) zai)))) (eV 1))) sNx)
  (zan (sIf (tB (e2 ltD (eV 1) (eC (.int 5)))) (zav (zaf zbv (zaa (e2 zge (zam zbu [.m 0,.v (eC (.int 13))]) (eC (.int 6))) (zaa (e2 za8 (eC (.int 1)) (e2 zbd (zam zbu [.m 0,.v (eC (.int 4))]) (e2 zge (eV 1) (eC (.int 3))))) zai)))) sNx)
  (zav (zaf zbv (zaa (e2 zge (zam zbu [.m 0,.v (e2 za8 (e2 zbd (eC (.int 2)) (e2 zjF (eC (.int 10)) (eC (.int 4)))) (eC (.int 1)))]) (e2 zjF (eC (.int 10)) (eC (.int 4)))) (zaa (e2 za8 (eC (.int 1)) (zam zbu [.m 0,.v (eC (.int 30))])) zai)))))))
def zaX:List D->R (D × List D):=run [true] false 2 zcu
def zcD:EF:=(zaz 1 [] (iE (eV 0)) (gN 0) (FL.zbX (tE (zaf zeo (zaa (eV 0) zai)))) (eV 0))
def zdj:SF:=(zan (sIf (FL.tOr (FL.zbX (tE (e1 (zbe "list") (eV 0)))) (tB (e2 neD (e1 zcI (eV 0)) (eV 1)))) (zav (eC (.bool false))) sNx)
  (zav (e2 eqD zcD (zc9 zai))))
def zg9:List D->R D:=za0 false 2 2 zdj
def zeX:EF:=(zaz 2 [] (zpe (zaa (eV 0) (zaa (eV 1) zai))) (gT [(gN 0),(gN 1)]) zaK (zaf zeD (zaa (eV 0) (zaa (eV 1) zai))))
def zeb:SF:=(zba zeX)
def ziW:List D->R D:=za0 true 2 2 zeb
def zd7:EF:=(zaz 1 [0] (iE (eV 1)) (gN 0) zaK (zaf zhy (zaa (eV 1) (zaa (eV 0) zai))))
def zdi:SF:=(zba zd7)
def za4:List D->R D:=za0 true 2 2 zdi
def zhh:SF:=(zaC (gN 2) (zaf zeD (zaa (eV 2) (zaa (zaf zhy (zaa (eV 3) (zaa (eV 4) zai))) zai))))
def zce:SF:=(zeQ (zpe (zaa (eV 0) (zaa (eV 1) zai))) (gT [(gN 3),(gN 4)]) zhh)
def zcX:SF:=(zan (zaC (gN 2) (zcv (zaa (eC (.int 0)) (zaa (eC (.int 1)) zai))))
  (zan zce
  (zav (eV 2))))
def zf9:List D->R D:=za0 false 2 5 zcX
def zee:SF:=(zav (zmy (zaf zoE (zaa (eV 0) zai)) (e2 eqD (e1 zcI (eV 0)) (eV 1))))
def ziX:List D->R D:=za0 false 2 2 zee
def zbP:SF:=(zaC (gN 3) (zaf zep (zaa (eV 3) (zaa (e2 zjS (eV 1) (eV 4)) (zaa (eV 4) zai)))))
def zbN:SF:=(zeQ (iD (eV 1)) (gN 4) zbP)
def za7:EF:=(zjQ 1 [1,3,5] (iD (eV 1)) (gN 0) zaK (eV 0) (zaf zep (zaa (e2 zjS (eV 1) (eV 0)) (zaa (eV 2) (zaa (eV 3) zai)))))
def zbO:SF:=(zan (zaC (gN 3) (zaf zfm (zaa (eV 2) zai)))
  (zan zbN
  (zan (zaC (gN 5) (zaf ziV (zaa (eV 3) zai)))
  (sIf (tB (e2 zwO (eV 5) (eC .none))) (zan (zeJ 1 za7)
  (zeI 1 (zsW 1 (eV 5) (eV 3)))) sNx))))
def zbM:SF:=(zeQ (iE (eV 0)) (gN 2) zbO)
def zcg:SF:=(zan (zeJ 1 zom)
  (zan (zv5 1 zbM)
  (zav (eV 1))))
def zbf:List D->R D:=za0 false 1 6 zcg
def zcU:EF:=(zaz 1 [0,1] (iE (e2 zjS (eV 1) (eV 0))) (gN 0) zaK (zaf zeE (zaa (eV 0) (zaa (e2 ixD (e2 zjS (eV 2) (eV 1)) (eV 1)) zai))))
def zcT:EF:=(zaz 1 [1] (iE (e1 zjz (eV 1))) (gN 0) zaK zcU)
def zec:SF:=(zan (zaC (gN 1) (zaf zbf (zaa (eV 0) zai)))
  (zba zcT))
def zdq:List D->R D:=za0 true 1 2 zec
def zcf:EF:=(zaz 1 [1,2] (iR1 (zaa (eV 1) zai)) (gN 0) (tB (e2 zvL (eV 0) (eV 2))) (zaf zg8 (zaa (eV 2) (zaa (eV 0) (zaa (eV 1) zai)))))
def zcW:SF:=(zan (zaC (gN 2) (zaf zbf (zaa (eV 0) zai)))
  (zba (zaf zdq (zaa zcf zai))))
def zf8:List D->R D:=za0 true 2 3 zcW
end FL
namespace FL
open PySem MD
theorem zix {α:Type} {f0:α->D} {k:Nat} {ix:List Nat} {g:GF} {t:TF} {f:EF} {ρ:En} (P:α->Bool) (h:α->D):∀ (xs:List α) (acc:List D),acc.length + xs.length<=lim ->
  (∀ x ∈ xs,∃ β,g (f0 x) (blk k ix ρ)=.ok β/\t β=.ok (P x,β)/\(P x=true->f β=.ok (h x,β))/\back ρ ix (β.drop k)=ρ)->zjo k ix g t f (xs.map f0) ρ acc=.ok (acc ++ (xs.filter P).map h,ρ)
 | [],acc,_,_=>by simp [zjo]
 | x :: xs,acc,hl,hx=>by
  obtain ⟨β,h1,h2,h3,h4⟩:=hx x (List.mem_cons_self ..)
  have rest:=fun y m=>hx y (List.mem_cons_of_mem x m)
  simp only [List.length_cons] at hl
  rw [List.map_cons]
  unfold zjo
  rw [h1,zac,h2,zac]
  cases c:P x with
  | true =>
   rw [if_pos rfl,h3 c,zac,zaI (zgP (by omega)),h4,zix P h xs _ (by simp;omega) rest,List.filter_cons_of_pos c]
   simp
  | false =>
   rw [if_neg (by simp),h4,zix P h xs acc (by omega) rest,List.filter_cons_of_neg (by simp [c])]
theorem zda {α:Type} {f0:α->D} {k:Nat} {ix:List Nat} {it:IF} {g:GF} {t:TF} {f:EF} {ρ:En} {xs:List α} (P:α->Bool) (h:α->D) (hi:it ρ=.ok (xs.map f0,ρ)) (hl:xs.length<=lim)
  (hx:∀ x ∈ xs,∃ β,g (f0 x) (blk k ix ρ)=.ok β/\t β=.ok (P x,β)/\(P x=true->f β=.ok (h x,β))/\back ρ ix (β.drop k)=ρ):zaz k ix it g t f ρ=.ok (.list ((xs.filter P).map h),ρ):=by
 unfold zaz
 rw [hi,zac,zix P h xs [] (by simpa using hl) hx]
 rfl
theorem zaE {α:Type} {f0:α->D} {k:Nat} {ix:List Nat} {it:IF} {g:GF} {f:EF} {ρ:En} {xs:List α} (h:α->D) (hi:it ρ=.ok (xs.map f0,ρ)) (hl:xs.length<=lim)
  (hx:∀ x ∈ xs,∃ β,g (f0 x) (blk k ix ρ)=.ok β/\f β=.ok (h x,β)/\back ρ ix (β.drop k)=ρ):zaz k ix it g zaK f ρ=.ok (.list (xs.map h),ρ):=by
 rw [zda (fun _=>true) h hi hl fun x m=>by
  obtain ⟨β,h1,h2,h3⟩:=hx x m
  exact ⟨β,h1,rfl,fun _=>h2,h3⟩]
 rw [List.filter_eq_self.mpr (fun _ _=>rfl)]
def zvF:En->Prop
 | []=>True
 | .ow _ _ :: _=>False
 | _ :: r=>zvF r
theorem zvF.look:∀ {ix:List Nat} {cs:En},zvF cs->∀ i p d,(ix.zip cs).lookup i ≠ some (.ow p d)
 | [],_,_,i,p,d,z=>by simp at z
 | _ :: _,[],_,i,p,d,z=>by simp at z
 | j :: ix,c :: cs,h,i,p,d,z=>by
  have hr:zvF cs:=by cases c <;> first | exact h | exact h.elim
  rw [List.zip_cons_cons,List.lookup_cons] at z
  split at z
  ·cases z;exact h
  ·exact zvF.look hr i p d z
theorem zaH {ρ:En} {ix:List Nat} {cs:En} (h:zvF cs):back ρ ix cs=ρ:=zow (zvF.look h) _ _
def IR (xs:List Int):D:=.list (xs.map PyData.int)
def zal (xs:List Rat):D:=.list (xs.map num)
def zad (M:List (List Rat)):D:=.list (M.map zal)
def hent (e:Nat × List Int):D × D:=(.int (e.1:Int),IR e.2)
def hD (held:zbs):D:=.dict (held.map hent)
theorem znX (i:Int):zpr (.int i)=.ok (.int (-i)):=rfl
theorem zdk {i j:Int} (hj:j ≠ 0) (d:j ∣ i):zaL (.int i) (.int j)=.ok (.int (i / j)):=by
 show chk (decide (j ≠ 0)) _=_
 rw [zaI (by simpa using hj),Int.fdiv_eq_ediv_of_dvd d]
theorem num_divInt (t b:Int) (hb:b ≠ 0):num (Rat.divInt t b)=.tuple [.int (t / (if b < 0 then -(Int.gcd t b:Int) else (Int.gcd t b:Int))),.int (b / (if b < 0 then -(Int.gcd t b:Int) else (Int.gcd t b:Int)))]:=by
 match b,hb with
 | .ofNat d,hb =>
  have d0:d ≠ 0:=fun z=>hb (by rw [z];rfl)
  have e:Rat.divInt t (Int.ofNat d)=Rat.normalize t d d0:=by
   show mkRat t d=_
   unfold mkRat
   rw [dif_neg d0]
  have h:=QR.norm (t:=t) d0
  rw [Q1.zoh (by omega)] at h
  have h1:=congrArg Prod.fst h
  have h2:=congrArg Prod.snd h
  simp only at h1 h2
  unfold num
  rw [e,<- h1,<- h2,if_neg (show ¬ Int.ofNat d < 0 from Int.not_lt.mpr (Int.natCast_nonneg d))]
  rfl
 | .negSucc d,hb =>
  have e:Rat.divInt t (Int.negSucc d)=Rat.normalize (-t) (d + 1) (Nat.succ_ne_zero d):=rfl
  have h:=QR.norm (t:=-t) (Nat.succ_ne_zero d)
  rw [Q1.zoh (by omega)] at h
  have h1:=congrArg Prod.fst h
  have h2:=congrArg Prod.snd h
  simp only at h1 h2
  have ng:Int.negSucc d=-((d + 1:Nat):Int):=rfl
  have lt:Int.negSucc d < 0:=by omega
  unfold num
  rw [e,<- h1,<- h2,if_pos lt,ng,Int.gcd_neg,Int.neg_gcd,Int.ediv_neg,Int.ediv_neg,Int.neg_ediv_of_dvd (Int.gcd_dvd_left ..),Int.neg_ediv_of_dvd (Int.gcd_dvd_right ..),Int.neg_neg]
theorem zih (t b:Int) (hb:b ≠ 0):zeE [.int t,.int b]=.ok (num (Rat.divInt t b)):=by
 have g0:(Int.gcd t b:Int) ≠ 0:=by
  have:=Int.gcd_pos_of_ne_zero_right t hb
  omega
 have l2:leB 2 lim=true:=by decide
 have d1:(Int.gcd t b:Int) ∣ t:=Int.gcd_dvd_left ..
 have d2:(Int.gcd t b:Int) ∣ b:=Int.gcd_dvd_right ..
 rw [num_divInt t b hb]
 show ((zfe [.val (.int t),.val (.int b),.no]).bind _).bind _=_
 unfold zfe
 have s1:sIf (tB (FL.e2 eqD (eV 1) (eC (.int 0)))) zoO sNx [.val (.int t),.val (.int b),.no]=.ok (.nx,[.val (.int t),.val (.int b),.no]):=by
  simp only [sIf,tB,FL.e2,eV,zz1,zz0,eC,zac,zbp,decide_eq_false hb,zoO,sNx,Bool.false_eq_true,if_false]
 have s2:zaC (gN 2) (zaf zak (zaa (eV 0) (zaa (eV 1) zai))) [.val (.int t),.val (.int b),.no]=.ok (.nx,[.val (.int t),.val (.int b),.val (.int (Int.gcd t b))]):=by
  simp only [zaC,zaf,zaa,eV,zz0,zai,zac,zz1,zgT,gN,List.set_cons_succ,List.set_cons_zero]
 rw [zah s1,zah s2]
 by_cases c:b < 0
 ·have s3:sIf (tB (FL.e2 ltD (eV 1) (eC (.int 0)))) (zaC (gN 2) (FL.e1 zpr (eV 2))) sNx [.val (.int t),.val (.int b),.val (.int (Int.gcd t b))]=.ok (.nx,[.val (.int t),.val (.int b),.val (.int (-(Int.gcd t b:Int)))]):=by
   simp only [sIf,tB,FL.e2,eV,zz1,zz0,eC,zac,zgj,decide_eq_true c,zaC,FL.e1,gN,sNx,znX,List.set_cons_succ,List.set_cons_zero,if_true]
  rw [zah s3]
  simp only [zav,zcv,zaa,FL.e2,eV,zz0,zac,zz1,zdk (Int.neg_ne_zero.mpr g0) (Int.neg_dvd.mpr d1),zai,zdk (Int.neg_ne_zero.mpr g0) (Int.neg_dvd.mpr d2),List.length_cons,List.length_nil,Nat.reduceAdd,zaI l2,List.replicate,outs,outD,if_pos c]
 ·have s3:sIf (tB (FL.e2 ltD (eV 1) (eC (.int 0)))) (zaC (gN 2) (FL.e1 zpr (eV 2))) sNx [.val (.int t),.val (.int b),.val (.int (Int.gcd t b))]=.ok (.nx,[.val (.int t),.val (.int b),.val (.int (Int.gcd t b))]):=by
   simp only [sIf,tB,FL.e2,eV,zz1,zz0,eC,zac,zgj,decide_eq_false c,zaC,FL.e1,gN,sNx,Bool.false_eq_true,if_false]
  rw [zah s3]
  simp only [zav,zcv,zaa,FL.e2,eV,zz0,zac,zz1,zdk g0 d1,zai,zdk g0 d2,List.length_cons,List.length_nil,Nat.reduceAdd,zaI l2,List.replicate,outs,outD,if_neg c]
theorem zlg (x0:Sl):∀ (xs:List Int) (g:Nat) (x2:Sl),Np x2->∃ x2',Np x2'/\forL (gN 2) zbG (xs.map PyData.int) [x0,.val (.int (g:Int)),x2]=.ok (.nx,[x0,.val (.int (zgr g xs:Int)),x2'])
 | [],g,x2,h=>⟨x2,h,rfl⟩
 | x :: xs,g,x2,h=>by
  have e0:gN 2 (.int x) [x0,.val (.int (g:Int)),x2]=.ok [x0,.val (.int (g:Int)),.val (.int x)]:=zgx (x:=x2) rfl h
  have eg:Int.gcd (g:Int) x=Nat.gcd g x.natAbs:=by simp [Int.gcd]
  have s1:zaC (gN 1) (zaf zak (zaa (eV 1) (zaa (eV 2) zai))) [x0,.val (.int (g:Int)),.val (.int x)]=.ok (.nx,[x0,.val (.int ((Nat.gcd g x.natAbs:Nat):Int)),.val (.int x)]):=by
   simp only [zaC,zaf,zaa,eV,zz1,zz0,zai,zac,zgT,eg,gN,List.set_cons_succ,List.set_cons_zero]
  by_cases c:Nat.gcd g x.natAbs=1
  ·have s2:zbG [x0,.val (.int (g:Int)),.val (.int x)]=.ok (.bk,[x0,.val (.int ((Nat.gcd g x.natAbs:Nat):Int)),.val (.int x)]):=by
    unfold zbG
    rw [zah s1]
    simp only [sIf,tB,FL.e2,eV,c,zz1,zz0,eC,zac,zbp,decide_eq_true (show ((1:Nat):Int)=1 from rfl),zv6,sNx,if_true]
   have e1:zgr g (x :: xs)=1:=by
    have:zgr g (x :: xs) ∣ Nat.gcd g x.natAbs:=by
     show zgr (Nat.gcd g x.natAbs) xs ∣ _
     exact (zey xs _).1
    rw [c] at this
    exact Nat.dvd_one.mp this
   refine ⟨.val (.int x),zaY _,?_⟩
   rw [List.map_cons]
   unfold forL
   rw [e0,zac,s2,zac,e1,c]
  ·have s2:zbG [x0,.val (.int (g:Int)),.val (.int x)]=.ok (.nx,[x0,.val (.int ((Nat.gcd g x.natAbs:Nat):Int)),.val (.int x)]):=by
    unfold zbG
    rw [zah s1]
    simp only [sIf,tB,FL.e2,eV,zz1,zz0,eC,zac,zbp,decide_eq_false (show ¬((Nat.gcd g x.natAbs:Nat):Int)=1 by omega),zv6,sNx,Bool.false_eq_true,if_false]
   obtain ⟨x2',h2,e2⟩:=zlg x0 xs (Nat.gcd g x.natAbs) (.val (.int x)) (zaY _)
   refine ⟨x2',h2,?_⟩
   rw [List.map_cons]
   unfold forL
   rw [e0,zac,s2,zac]
   exact e2
theorem zjy (xs:List Int) (hl:xs.length<=lim):ziU [IR xs]=.ok (IR (zmF xs)):=by
 obtain ⟨x2,h2,e⟩:=zlg (.val (IR xs)) xs 0 .no zbI
 have s1:zaC (gN 1) (eC (.int 0)) [.val (IR xs),.no,.no]=.ok (.nx,[.val (IR xs),.val (.int ((0:Nat):Int)),.no]):=rfl
 have s2:zgR [.val (IR xs),.val (.int ((0:Nat):Int)),.no]=.ok (.nx,[.val (IR xs),.val (.int (zgr 0 xs:Int)),x2]):=e
 show ((zgs [.val (IR xs),.no,.no]).bind _).bind _=_
 unfold zgs
 rw [zah s1,zah s2]
 unfold zmF
 by_cases c:zgr 0 xs=0
 ·rw [if_pos c,c]
  simp only [zan,sIf,tB,FL.e2,eV,zz1,zz0,eC,zac,zbp,decide_eq_true (show ((0:Nat):Int)=0 from rfl),zav,sNx,if_true,List.replicate,outs,outD]
 ·rw [if_neg c]
  have s3:sIf (tB (FL.e2 eqD (eV 1) (eC (.int 0)))) (zav (eV 0)) sNx [.val (IR xs),.val (.int (zgr 0 xs:Int)),x2]=.ok (.nx,[.val (IR xs),.val (.int (zgr 0 xs:Int)),x2]):=by
   simp only [sIf,tB,FL.e2,eV,zz1,zz0,eC,zac,zbp,decide_eq_false (show ¬((zgr 0 xs:Nat):Int)=0 by omega),zav,sNx,Bool.false_eq_true,if_false]
  rw [zah s3]
  have q:zd5 [.val (IR xs),.val (.int (zgr 0 xs:Int)),x2]=.ok (IR (xs.map (· / (zgr 0 xs:Int))),[.val (IR xs),.val (.int (zgr 0 xs:Int)),x2]):=by
   unfold zd5 IR
   rw [zaE (f0:=PyData.int) (xs:=xs) (fun i=>.int (i / (zgr 0 xs:Int))) rfl hl fun i mi=>?_]
   ·rw [List.map_map];rfl
   ·refine ⟨[.val (.int i),.val (.int (zgr 0 xs:Int))],rfl,?_,zaH trivial⟩
    have fd:zaL (.int i) (.int (zgr 0 xs:Int))=.ok (.int (i / (zgr 0 xs:Int))):=zdk (by omega) (Int.ofNat_dvd_left.mpr ((zey xs 0).2 i mi))
    simp only [FL.e2,eV,zz0,zac,zz1,fd]
  unfold zav
  rw [q]
  rfl
def zfr (L:Nat) (xs:List Rat):Nat:=xs.foldl (fun L r=>L / Nat.gcd L r.den * r.den) L
def zbY (xs:List Rat):List Int:=zmF (xs.map fun r=>r.num * ((zfr 1 xs / r.den:Nat):Int))
theorem zfO (L d:Nat):L / Nat.gcd L d * d=Nat.lcm L d:=by
 rw [Nat.lcm,Nat.div_mul_right_comm (Nat.gcd_dvd_left L d)]
theorem zkD:∀ (xs:List Rat) (L:Nat),L ∣ zfr L xs/\∀ r ∈ xs,r.den ∣ zfr L xs
 | [],L=>⟨Nat.dvd_refl _,fun _ h=>nomatch h⟩
 | x :: xs,L=>by
  have ih:=zkD xs (L / Nat.gcd L x.den * x.den)
  rw [zfO] at ih
  have e:zfr L (x :: xs)=zfr (Nat.lcm L x.den) xs:=by
   show zfr (L / Nat.gcd L x.den * x.den) xs=_
   rw [zfO]
  rw [e]
  refine ⟨Nat.dvd_trans (Nat.dvd_lcm_left ..) ih.1,fun r hr=>?_⟩
  rcases List.mem_cons.mp hr with rfl | hr
  ·exact Nat.dvd_trans (Nat.dvd_lcm_right ..) ih.1
  ·exact ih.2 r hr
theorem zn7:∀ (xs:List Rat) (L:Nat),0 < L->0 < zfr L xs
 | [],L,h=>h
 | x :: xs,L,h=>by
  refine zn7 xs _ ?_
  show 0 < L / Nat.gcd L x.den * x.den
  rw [zfO]
  exact Nat.lcm_pos h (Nat.pos_of_ne_zero x.den_nz)
theorem zpK {L d a n:Nat} (h:L < 2 ^ a) (hd:d < 2 ^ n):L / Nat.gcd L d * d < 2 ^ (a + n):=Nat.lt_of_le_of_lt (Nat.mul_le_mul_right _ (Nat.div_le_self ..)) (QR.zfJ h hd)
theorem zmT {n:Nat}:∀ (xs:List Rat) (L a:Nat),L < 2 ^ a->(∀ r ∈ xs,r.den < 2 ^ n)->zfr L xs < 2 ^ (a + n * xs.length)
 | [],L,a,h,_=>by simpa [zfr] using h
 | x :: xs,L,a,h,hx=>by
  have:=zmT (n:=n) xs (L / Nat.gcd L x.den * x.den) (a + n) (zpK h (hx x (List.mem_cons_self ..))) fun r hr=>hx r (List.mem_cons_of_mem _ hr)
  rw [List.length_cons,Nat.mul_succ,show a + (n * xs.length + n)=a + n + n * xs.length by omega]
  exact this
theorem zjw {n:Nat} (x0:Sl):∀ (xs:List Rat) (L a:Nat) (x2:Sl),Np x2->0 < L->L < 2 ^ a->a + n * xs.length<=10000000->(∀ r ∈ xs,r.den < 2 ^ n) ->
  ∃ x2',Np x2'/\forL (gN 2) zb7 (xs.map num) [x0,.val (.int (L:Int)),x2]=.ok (.nx,[x0,.val (.int (zfr L xs:Int)),x2'])
 | [],L,a,x2,h,_,_,_,_=>⟨x2,h,rfl⟩
 | x :: xs,L,a,x2,h,hp,hL,ha,hx=>by
  rw [List.length_cons,Nat.mul_succ] at ha
  have hd:=hx x (List.mem_cons_self ..)
  have e0:gN 2 (num x) [x0,.val (.int (L:Int)),x2]=.ok [x0,.val (.int (L:Int)),.val (num x)]:=zgx (x:=x2) rfl h
  have k1:zak [.int (L:Int),.int (x.den:Int)]=.ok (.int ((Nat.gcd L x.den:Nat):Int)):=by rw [zgT];rfl
  have k2:zaL (.int (L:Int)) (.int ((Nat.gcd L x.den:Nat):Int))=.ok (.int ((L / Nat.gcd L x.den:Nat):Int)):=by
   have:=Nat.gcd_pos_of_pos_left x.den hp
   rw [zdk (by omega) (Int.natCast_dvd_natCast.mpr (Nat.gcd_dvd_left ..))]
   rfl
  have k3:zbd (.int ((L / Nat.gcd L x.den:Nat):Int)) (.int (x.den:Int))=.ok (.int ((L / Nat.gcd L x.den * x.den:Nat):Int)):=by
   rw [zaV (n:=a) (m:=n) ⟨by rw [Int.natAbs_natCast];exact Nat.lt_of_le_of_lt (Nat.div_le_self ..) hL⟩ ⟨by simpa using hd⟩ (by omega)]
   rfl
  have s1:zb7 [x0,.val (.int (L:Int)),.val (num x)]=.ok (.nx,[x0,.val (.int ((L / Nat.gcd L x.den * x.den:Nat):Int)),.val (num x)]):=by
   unfold zb7 num
   simp only [zaC,FL.e2,eV,zz1,zz0,zaf,zaa,eC,zac,zai,lx1,k1,k2,k3,gN,List.set_cons_succ,List.set_cons_zero]
  obtain ⟨x2',h2,e2⟩:=zjw (n:=n) x0 xs (L / Nat.gcd L x.den * x.den) (a + n) (.val (num x)) (zaY _) (by rw [zfO];exact Nat.lcm_pos hp (Nat.pos_of_ne_zero x.den_nz)) (zpK hL hd) (by omega) fun r hr=>hx r (List.mem_cons_of_mem _ hr)
  refine ⟨x2',h2,?_⟩
  rw [List.map_cons]
  unfold forL
  rw [e0,zac,s1,zac]
  exact e2
theorem zrN {xs:List Rat} {n:Nat} (hx:∀ r ∈ xs,QR.Bd n r) (hn:n * (xs.length + 1) + 1<=1000000) (hl:xs.length<=lim):zfm [zal xs]=.ok (IR (zbY xs)):=by
 have hd:∀ r ∈ xs,r.den < 2 ^ n:=fun r hr=>(hx r hr).2
 rw [Nat.mul_succ] at hn
 obtain ⟨x2,h2,e⟩:=zjw (n:=n) (.val (zal xs)) xs 1 1 .no zbI (by decide) (by decide) (by omega) hd
 have s1:zaC (gN 1) (eC (.int 1)) [.val (zal xs),.no,.no]=.ok (.nx,[.val (zal xs),.val (.int ((1:Nat):Int)),.no]):=rfl
 have s2:zeV [.val (zal xs),.val (.int ((1:Nat):Int)),.no]=.ok (.nx,[.val (zal xs),.val (.int (zfr 1 xs:Int)),x2]):=e
 have q:zcS [.val (zal xs),.val (.int (zfr 1 xs:Int)),x2]=.ok (IR (xs.map fun r=>r.num * ((zfr 1 xs / r.den:Nat):Int)),[.val (zal xs),.val (.int (zfr 1 xs:Int)),x2]):=by
  unfold zcS IR
  rw [zaE (f0:=num) (xs:=xs) (fun r=>.int (r.num * ((zfr 1 xs / r.den:Nat):Int))) rfl hl fun r mr=>?_]
  ·rw [List.map_map];rfl
  ·refine ⟨[.val (num r),.val (.int (zfr 1 xs:Int))],rfl,?_,zaH trivial⟩
   ·have fd:zaL (.int (zfr 1 xs:Int)) (.int (r.den:Int))=.ok (.int ((zfr 1 xs / r.den:Nat):Int)):=by
     have:=r.den_nz
     rw [zdk (by omega) (Int.natCast_dvd_natCast.mpr ((zkD xs 1).2 r mr))]
     rfl
    have b1:=zmT xs 1 1 (by decide) hd
    have mu:zbd (.int r.num) (.int ((zfr 1 xs / r.den:Nat):Int))=.ok (.int (r.num * ((zfr 1 xs / r.den:Nat):Int))):=zaV (n:=n) (m:=1 + n * xs.length) ⟨(hx r mr).1⟩ ⟨by rw [Int.natAbs_natCast];exact Nat.lt_of_le_of_lt (Nat.div_le_self ..) b1⟩ (by omega)
    unfold num
    simp only [FL.e2,eV,zz0,eC,zac,lx0,zz1,lx1,fd,mu]
 refine zbb (ρ:=[.val (zal xs),.val (.int (zfr 1 xs:Int)),x2]) rfl ?_
 show zd9 [.val (zal xs),.no,.no]=_
 unfold zd9
 rw [zah s1,zah s2]
 unfold zav zaf zaa zai
 rw [q]
 simp only [zac]
 rw [zjy _ (by simpa using hl)]
 rfl
def fq (xs:List Rat):Rq:=fun j=>xs.getD j 0
theorem zlS {xs:List Rat} (f:Rat->Int) (f0:f 0=0) (j:Nat):fn (xs.map f) j=f (fq xs j):=by
 unfold fn fq
 simp only [List.getD_eq_getElem?_getD,List.getElem?_map]
 cases xs[j]? <;> simp [f0]
theorem zoi {xs:List Rat} (j:Nat):fq xs j=0\/fq xs j ∈ xs:=by
 unfold fq
 rw [List.getD_eq_getElem?_getD]
 cases e:xs[j]? with
 | none=>exact .inl rfl
 | some x=>exact .inr (List.mem_of_getElem? e)
theorem den_mul (r:Rat):r * (r.den:Rat)=(r.num:Rat):=by
 have dn:(r.den:Rat) ≠ 0:=by have:=r.den_pos;simp;omega
 have:=Rat.mkRat_self r
 rw [Rat.mkRat_eq_div] at this
 grind
theorem zpu (xs:List Rat):∃ q:Rat,q ≠ 0/\∀ j,(fn (zbY xs) j:Rat)=q * fq xs j:=by
 obtain ⟨g,g0,hg⟩:=zeu (xs.map fun r=>r.num * ((zfr 1 xs / r.den:Nat):Int))
 have L0:=zn7 xs 1 (by decide)
 have L0':((zfr 1 xs:Nat):Rat) ≠ 0:=by simp;omega
 have g0':((g:Int):Rat) ≠ 0:=by simp;omega
 refine ⟨(zfr 1 xs:Rat) / (g:Rat),by grind,fun j=>?_⟩
 have h:=hg j
 rw [zlS (fun r=>r.num * ((zfr 1 xs / r.den:Nat):Int)) (by simp)] at h
 have h':(g:Rat) * (fn (zbY xs) j:Rat)=((fq xs j).num:Rat) * ((zfr 1 xs / (fq xs j).den:Nat):Rat):=by
  have:=congrArg (Int.cast (R:=Rat)) h
  push_cast at this
  exact this
 have hd:(fq xs j).den ∣ zfr 1 xs:=by
  rcases zoi (xs:=xs) j with z | z
  ·rw [z];exact Nat.one_dvd _
  ·exact (zkD xs 1).2 _ z
 obtain ⟨c,hc⟩:=hd
 have dp:=(fq xs j).den_pos
 have e1:zfr 1 xs / (fq xs j).den=c:=by rw [hc];exact Nat.mul_div_cancel_left c dp
 rw [e1] at h'
 have e2:((zfr 1 xs:Nat):Rat)=((fq xs j).den:Rat) * (c:Rat):=by rw [hc];push_cast;rfl
 have e3:=den_mul (fq xs j)
 rw [e2]
 generalize ((fq xs j).den:Rat)=dd at *
 generalize ((fq xs j).num:Rat)=nn at *
 grind
theorem zoG (xs:List Rat):(zbY xs).length=xs.length:=by unfold zbY;rw [znB,List.length_map]
theorem zpv (xs:List Rat):PZ (fn (zbY xs)):=zpF _
theorem zhz {xs:List Rat} {n:Nat} (hx:∀ r ∈ xs,QR.Bd n r) (j:Nat):(fn (zbY xs) j).natAbs < 2 ^ (n * (xs.length + 1) + 1):=by
 refine Nat.lt_of_le_of_lt (zt7 _ j) ?_
 rw [zlS (fun r=>r.num * ((zfr 1 xs / r.den:Nat):Int)) (by simp)]
 rcases zoi (xs:=xs) j with z | z
 ·rw [z];simpa using Nat.pow_pos (by decide)
 ·have b1:=zmT xs 1 1 (by decide) fun r hr=>(hx r hr).2
  rw [Int.natAbs_mul,Int.natAbs_natCast,show n * (xs.length + 1) + 1=n + (1 + n * xs.length) by rw [Nat.mul_succ];omega]
  exact QR.zfJ (hx _ z).1 (Nat.lt_of_le_of_lt (Nat.div_le_self ..) b1)
end FL
namespace FL
open PySem MD
theorem zlG (i:Int):keyOf (.int i)=some (.inr (.inl i)):=rfl
theorem zqB (a p:Nat):decide (keyOf (.int (a:Int))=some (.inr (.inl (p:Int))))=decide (a=p):=by
 rw [zlG]
 by_cases c:a=p
 ·subst c;simp
 ·rw [decide_eq_false c]
  exact decide_eq_false fun z=>c (Int.ofNat.inj (Sum.inl.inj (Sum.inr.inj (Option.some.inj z))))
theorem zlF:∀ h:zbs,keysOk false (h.map hent)=true
 | []=>rfl
 | e :: r=>by
  have ih:=zlF r
  unfold keysOk at ih ⊢
  rw [List.map_cons,List.all_cons,ih,Bool.and_true]
  rfl
theorem zim (h:zbs) (p:Nat):dictAt (hD h) (.int (p:Int))=.ok (h.map hent,.inr (.inl (p:Int))):=by
 unfold hD dictAt
 rw [zlG]
 exact zaI (zlF h)
theorem zmS (p:Nat):∀ h:zbs,look (h.map hent) (.inr (.inl (p:Int)))=((h.find? fun e=>decide (e.1=p)).map fun e=>IR e.2)
 | []=>rfl
 | e :: r=>by
  have ih:=zmS p r
  unfold look at ih ⊢
  simp only [List.map_cons,List.find?_cons]
  rw [show decide (keyOf (hent e).1=some (.inr (.inl (p:Int))))=decide (e.1=p) from zqB e.1 p]
  cases decide (e.1=p) with
  | true=>rfl
  | false=>exact ih
theorem zq5 {h:zbs} (nd:(h.map (·.1)).Nodup) {e:Nat × List Int} (he:e ∈ h):h.find? (fun y=>decide (y.1=e.1))=some e:=by
 induction h with
 | nil=>exact nomatch he
 | cons y r ih =>
  rw [List.map_cons,List.nodup_cons] at nd
  rcases List.mem_cons.mp he with rfl | he
  ·rw [List.find?_cons_of_pos (by simp)]
  ·rw [List.find?_cons_of_neg (by
    simp only [decide_eq_true_eq]
    intro z
    exact nd.1 (z ▸ List.mem_map_of_mem (f:=(·.1)) he))]
   exact ih nd.2 he
theorem zht {h:zbs} (nd:(h.map (·.1)).Nodup) {e:Nat × List Int} (he:e ∈ h):zjS (hD h) (.int (e.1:Int))=.ok (IR e.2):=by
 unfold zjS zin
 rw [zim,zac,zac,zmS,zq5 nd he]
 rfl
theorem find_none {h:zbs} {p:Nat} (hp:p ∉ h.map (·.1)):h.find? (fun y=>decide (y.1=p))=none:=by
 rw [List.find?_eq_none]
 intro e he
 simp only [decide_eq_true_eq]
 intro z
 exact hp (z ▸ List.mem_map_of_mem (f:=(·.1)) he)
theorem zlX {h:zbs} {p:Nat} (hp:p ∉ h.map (·.1)) (hl:h.length + 1<=lim) (x:List Int):zq9 (hD h) (.int (p:Int)) (IR x)=.ok (hD (h ++ [(p,x)])):=by
 unfold zq9
 rw [zim,zac]
 show chk (leB ((h.map hent).length + 1) lim) _=_
 rw [zaI (by rw [List.length_map];exact zgP hl)]
 unfold ztt
 rw [if_neg]
 ·rw [hD,List.map_append];rfl
 ·rw [Bool.not_eq_true,List.any_eq_false]
  intro y hy
  obtain ⟨e,he,rfl⟩:=List.mem_map.mp hy
  rw [show decide (keyOf (hent e).1=some (.inr (.inl (p:Int))))=decide (e.1=p) from zqB e.1 p]
  simp only [decide_eq_true_eq]
  intro z
  exact hp (z ▸ List.mem_map_of_mem (f:=(·.1)) he)
theorem zsu (h:zbs) (p:Nat):zvL (.int (p:Int)) (hD h)=.ok (.bool (decide (p ∉ h.map (·.1)))):=by
 unfold zvL zin
 rw [zim,zac,zac,zmS]
 by_cases c:p ∈ h.map (·.1)
 ·obtain ⟨e,he,rfl⟩:=List.mem_map.mp c
  have:(h.find? fun y=>decide (y.1=e.1)).isSome=true:=by
   rw [List.find?_isSome]
   exact ⟨e,he,by simp⟩
  rw [Option.isSome_map,this,decide_eq_false (fun z=>z c)]
  rfl
 ·rw [find_none c,decide_eq_true c];rfl
theorem zh3 (h:zbs):zw2 (hD h)=.ok (h.map fun e=>.int (e.1:Int)):=by
 show R.ok ((h.map hent).map (·.1))=_
 rw [List.map_map];rfl
theorem zrp {α:Type} {xs:List α} {i:Nat} (h:i < xs.length):atI xs (i:Int)=xs[i]?:=by
 unfold atI ixN
 rw [if_pos (by omega),if_pos (by omega)]
 simp
theorem zqL {xs:List Int} {i:Nat} (h:i < xs.length):ixD (IR xs) (.int (i:Int))=.ok (.int (fn xs i)):=by
 show R.of (atI (xs.map PyData.int) (i:Int))=_
 rw [zrp (by simpa using h),List.getElem?_map,List.getElem?_eq_getElem h]
 show R.ok _=_
 unfold fn
 rw [List.getD_eq_getElem?_getD,List.getElem?_eq_getElem h]
 rfl
theorem zxa {xs:List Rat} {i:Nat} (h:i < xs.length):ixD (zal xs) (.int (i:Int))=.ok (num (fq xs i)):=by
 show R.of (atI (xs.map num) (i:Int))=_
 rw [zrp (by simpa using h),List.getElem?_map,List.getElem?_eq_getElem h]
 show R.ok _=_
 unfold fq
 rw [List.getD_eq_getElem?_getD,List.getElem?_eq_getElem h]
 rfl
def zfN:List Int->Option Nat
 | []=>none
 | x :: xs=>if x=0 then (zfN xs).map (· + 1) else some 0
theorem zjJ:∀ {xs:List Int} {p:Nat},zfN xs=some p->fn xs p ≠ 0/\∀ j,j < p->fn xs j=0
 | [],p,h=>nomatch h
 | x :: xs,p,h=>by
  unfold zfN at h
  split at h
  ·rename_i c
   rw [Option.map_eq_some_iff] at h
   obtain ⟨q,hq,rfl⟩:=h
   obtain ⟨h1,h2⟩:=zjJ hq
   refine ⟨h1,fun j hj=>?_⟩
   cases j with
   | zero=>exact c
   | succ j=>exact h2 j (by omega)
  ·rename_i c
   cases h
   exact ⟨c,fun j hj=>by omega⟩
theorem zjK:∀ {xs:List Int},zfN xs=none->∀ j,fn xs j=0
 | [],h,j=>by simp [fn]
 | x :: xs,h,j=>by
  unfold zfN at h
  split at h
  ·rename_i c
   rw [Option.map_eq_none_iff] at h
   cases j with
   | zero=>exact c
   | succ j=>exact zjK h j
  ·cases h
def zyk:Option Nat->D
 | none=>.none
 | some p=>.int (p:Int)
theorem zlD (x0:Sl):∀ (xs:List Int) (i:Nat) (x1 x2:Sl),Np x1->Np x2->∃ y1 y2,Np y1/\Np y2/\forL (gT [(gN 1),(gN 2)]) zbH (zij i (xs.map PyData.int)) [x0,x1,x2]=.ok (match zfN xs with
  | none=>.nx
  | some p=>.rt (.int ((i + p:Nat):Int)),[x0,y1,y2])
 | [],i,x1,x2,h1,h2=>⟨x1,x2,h1,h2,rfl⟩
 | x :: xs,i,x1,x2,h1,h2=>by
  have e0:gT [(gN 1),(gN 2)] (.tuple [.int (i:Int),.int x]) [x0,x1,x2]=.ok [x0,.val (.int (i:Int)),.val (.int x)]:=by
   show (gN 1 (.int (i:Int)) [x0,x1,x2]).bind _=_
   rw [zgx (x:=x1) rfl h1,zac]
   show (gN 2 (.int x) [x0,.val (.int (i:Int)),x2]).bind _=_
   rw [zgx (x:=x2) rfl h2]
   rfl
  rw [List.map_cons]
  unfold zij forL
  rw [e0,zac]
  unfold zfN
  by_cases c:x=0
  ·have s1:zbH [x0,.val (.int (i:Int)),.val (.int x)]=.ok (.nx,[x0,.val (.int (i:Int)),.val (.int x)]):=by
    unfold zbH
    simp only [sIf,tB,FL.e2,eV,zz1,zz0,eC,zac,zb3,decide_eq_true c,Bool.not_true,zav,sNx,Bool.false_eq_true,if_false]
   rw [s1,zac,if_pos c]
   obtain ⟨y1,y2,g1,g2,e⟩:=zlD x0 xs (i + 1) (.val (.int (i:Int))) (.val (.int x)) (zaY _) (zaY _)
   refine ⟨y1,y2,g1,g2,e.trans ?_⟩
   cases zfN xs with
   | none=>rfl
   | some p=>simp only [Option.map_some];rw [show i + 1 + p=i + (p + 1) by omega]
  ·have s1:zbH [x0,.val (.int (i:Int)),.val (.int x)]=.ok (.rt (.int (i:Int)),[x0,.val (.int (i:Int)),.val (.int x)]):=by
    unfold zbH
    simp only [sIf,tB,FL.e2,eV,zz1,zz0,eC,zac,zb3,decide_eq_false c,Bool.not_false,zav,sNx,if_true]
   rw [s1,zac,if_neg c]
   exact ⟨_,_,zaY _,zaY _,rfl⟩
theorem zuZ (xs:List Int):ziV [IR xs]=.ok (zyk (zfN xs)):=by
 obtain ⟨y1,y2,_,_,e⟩:=zlD (.val (IR xs)) xs 0 .no .no zbI zbI
 have s1:zgS [.val (IR xs),.no,.no]=.ok (match zfN xs with
  | none=>.nx
  | some p=>.rt (.int ((0 + p:Nat):Int)),[.val (IR xs),y1,y2]):=e
 show ((zgu [.val (IR xs),.no,.no]).bind _).bind _=_
 unfold zgu zan
 rw [s1,zac]
 cases zfN xs with
 | none=>rfl
 | some p=>simp only [Nat.zero_add];rfl
theorem zjX {w o:List Int} {p a b:Nat} (hl:w.length=o.length) (hp:p < w.length) (hw:∀ j,(fn w j).natAbs < 2 ^ a) (ho:∀ j,(fn o j).natAbs < 2 ^ b) (hab:a + b<=100000000) (hm:w.length<=lim) :
  zep [IR w,IR o,.int (p:Int)]=.ok (IR (cleared w o p)):=by
 have i1:=zqL hp
 have i2:=zqL (hl ▸ hp)
 show ((zgw [.val (IR w),.val (IR o),.val (.int (p:Int))]).bind _).bind _=_
 unfold zgw cleared
 by_cases c:fn w p=0
 ·rw [if_pos c]
  simp only [zan,sIf,tB,FL.e2,eV,zz0,zac,zz1,i1,eC,zbp,decide_eq_true c,zav,sNx,if_true,zaf,zaa,zai,List.replicate,outs,outD]
 ·rw [if_neg c]
  have s1:sIf (tB (FL.e2 eqD (FL.e2 ixD (eV 0) (eV 2)) (eC (.int 0)))) (zav (eV 0)) sNx [.val (IR w),.val (IR o),.val (.int (p:Int))]=.ok (.nx,[.val (IR w),.val (IR o),.val (.int (p:Int))]):=by
   simp only [sIf,tB,FL.e2,eV,zz0,zac,zz1,i1,eC,zbp,decide_eq_false c,zav,sNx,Bool.false_eq_true,if_false]
  rw [zah s1]
  have zm:∀ (xs ys:List Int),zjv (xs.map PyData.int) (ys.map PyData.int)=(xs.zip ys).map fun q=>.tuple [.int q.1,.int q.2]:=by
   intro xs
   induction xs with
   | nil=>intro ys;cases ys <;> rfl
   | cons x xs ih =>
    intro ys
    cases ys with
    | nil=>rfl
    | cons y ys=>simp only [List.map_cons,zjv,List.zip_cons_cons,ih]
  have q:zd8 [.val (IR w),.val (IR o),.val (.int (p:Int))]=.ok (IR (List.zipWith (fun m i=>fn o p * m - fn w p * i) w o),[.val (IR w),.val (IR o),.val (.int (p:Int))]):=by
   unfold zd8
   rw [zaE (f0:=fun q:Int × Int=>.tuple [.int q.1,.int q.2]) (xs:=w.zip o) (fun q=>.int (fn o p * q.1 - fn w p * q.2)) (by
    rw [<- zm];rfl) (by rw [List.length_zip];omega) fun q mi=>?_]
   ·have:∀ (xs ys:List Int),(xs.zip ys).map (fun q=>PyData.int (fn o p * q.1 - fn w p * q.2))=(List.zipWith (fun m i=>fn o p * m - fn w p * i) xs ys).map PyData.int:=by
     intro xs
     induction xs with
     | nil=>intro ys;cases ys <;> rfl
     | cons x xs ih=>intro ys;cases ys with
      | nil=>rfl
      | cons y ys=>simp only [List.zip_cons_cons,List.map_cons,List.zipWith_cons_cons,ih]
    rw [this];rfl
   ·obtain ⟨x,y⟩:=q
    refine ⟨[.val (.int x),.val (.int y),.val (IR w),.val (IR o),.val (.int (p:Int))],rfl,?_,zaH trivial⟩
    have mx:∃ j,fn w j=x:=let ⟨j,_,e⟩:=zn3 (List.of_mem_zip mi).1;⟨j,e⟩
    have my:∃ j,fn o j=y:=let ⟨j,_,e⟩:=zn3 (List.of_mem_zip mi).2;⟨j,e⟩
    obtain ⟨jx,rfl⟩:=mx
    obtain ⟨jy,rfl⟩:=my
    have m1:zbd (.int (fn o p)) (.int (fn w jx))=.ok (.int (fn o p * fn w jx)):=zaV (n:=b) (m:=a) ⟨ho _⟩ ⟨hw _⟩ (by omega)
    have m2:zbd (.int (fn w p)) (.int (fn o jy))=.ok (.int (fn w p * fn o jy)):=zaV (n:=a) (m:=b) ⟨hw _⟩ ⟨ho _⟩ (by omega)
    simp only [FL.e2,eV,zz1,zz0,zac,i2,m1,zge,i1,m2]
  unfold zav zaf zaa zai
  rw [q]
  simp only [zac]
  rw [zjy _ (by rw [List.length_zipWith];omega)]
  rfl
end FL
namespace FL
open PySem MD
theorem zpl (h:zbs) (e:Nat × List Int) (w:List Int):clears (h ++ [e]) w=cleared (clears h w) e.2 e.1:=by
 unfold clears
 rw [List.foldl_append]
 rfl
theorem zs1 {n B:Nat} {held:zbs} {w:List Int} {x0 x2 x5:Sl} (nd:(held.map (·.1)).Nodup) (hr:∀ e ∈ held,e.2.length=n/\e.1 < n/\∀ j,(fn e.2 j).natAbs < 2 ^ B)
  (hw:∀ i,(clears (held.take i) w).length=n/\∀ j,(fn (clears (held.take i) w) j).natAbs < 2 ^ B) (hB:B<=10000000) (hn:n<=1000) {x4:Sl} (h4:Np x4) :
  ∃ y4,Np y4/\zbN [x0,.val (hD held),x2,.val (IR w),x4,x5]=.ok (.nx,[x0,.val (hD held),x2,.val (IR (clears held w)),y4,x5]):=by
 obtain ⟨ρ',e,y4,g4,rfl⟩:=zcO (f:=fun e:Nat × List Int=>.int (e.1:Int)) (g:=gN 4) (b:=zbP) (fun done ρ=>∃ y4,Np y4/\ρ=[x0,.val (hD held),x2,.val (IR (clears done w)),y4,x5]) held [] [x0,.val (hD held),x2,.val (IR w),x4,x5] ⟨x4,h4,rfl⟩ (by
  rintro pre e post ρ heq ⟨y4,g4,rfl⟩
  rw [List.nil_append] at heq
  have me:e ∈ held:=by rw [heq];simp
  obtain ⟨h1,h2,h3⟩:=hr e me
  obtain ⟨k1,k2⟩:=hw pre.length
  have tk:held.take pre.length=pre:=by rw [heq];simp
  rw [tk] at k1 k2
  have c:=zjX (w:=clears pre w) (o:=e.2) (p:=e.1) (a:=B) (b:=B) (k1.trans h1.symm) (by omega) k2 h3 (by omega) (by show _<=1000000;omega)
  refine ⟨_,.nx,?_,.inl rfl,.val (.int (e.1:Int)),zaY _,rfl⟩
  rw [zgx (x:=y4) rfl g4,zac]
  unfold zbP
  have dx:=zht nd me
  simp only [zaC,zaf,zaa,eV,List.set_cons_succ,List.set_cons_zero,zz1,zz0,FL.e2,zai,zac,dx,c,gN]
  rw [zpl])
 refine ⟨y4,g4,?_⟩
 unfold zbN zeQ
 have:iD (eV 1) [x0,.val (hD held),x2,.val (IR w),x4,x5]=.ok (held.map (fun e=>.int (e.1:Int)),[x0,.val (hD held),x2,.val (IR w),x4,x5]):=by
  simp only [iD,eV,zz1,zz0,zac,zh3]
 rw [this,zac]
 simpa using e
theorem zpj {n B p:Nat} {held:zbs} {x:List Int} {x0 x2 x4:Sl} (nd:(held.map (·.1)).Nodup) (hr:∀ e ∈ held,e.2.length=n/\∀ j,(fn e.2 j).natAbs < 2 ^ B) (hx:x.length=n) (hx2:∀ j,(fn x j).natAbs < 2 ^ B) (hp:p < n) (hB:B<=10000000) (hn:n<=1000) (hl:held.length + 1<=lim) :
  za7 [x0,.val (hD held),x2,.val (IR x),x4,.val (.int (p:Int))]=.ok (hD (held.map fun e=>(e.1,cleared e.2 x p)),[x0,.val (hD held),x2,.val (IR x),x4,.val (.int (p:Int))]):=by
 unfold za7 zjQ
 have it:iD (eV 1) [x0,.val (hD held),x2,.val (IR x),x4,.val (.int (p:Int))]=.ok (held.map (fun e=>.int (e.1:Int)),[x0,.val (hD held),x2,.val (IR x),x4,.val (.int (p:Int))]):=by
  simp only [iD,eV,zz1,zz0,zac,zh3]
 rw [it,zac]
 obtain ⟨acc,h1,h2⟩:=zjU (k:=1) (ix:=[1,3,5]) (g:=gN 0) (t:=zaK) (kf:=eV 0) (vf:=zaf zep (zaa (FL.e2 zjS (eV 1) (eV 0)) (zaa (eV 2) (zaa (eV 3) zai)))) (ρ:=[x0,.val (hD held),x2,.val (IR x),x4,.val (.int (p:Int))])
  (f:=fun e:Nat × List Int=>.int (e.1:Int)) held (fun done acc=>acc=hD (done.map fun e=>(e.1,cleared e.2 x p))) (by
  rintro done e rest acc heq rfl
  have me:e ∈ held:=by rw [heq];simp
  obtain ⟨k1,k2⟩:=hr e me
  have c:=zjX (w:=e.2) (o:=x) (p:=p) (a:=B) (b:=B) (k1.trans hx.symm) (by omega) k2 hx2 (by omega) (by show _<=1000000;omega)
  have dx:=zht nd me
  have np:e.1 ∉ (done.map fun e=>(e.1,cleared e.2 x p)).map (·.1):=by
   rw [List.map_map]
   rw [heq,List.map_append,List.map_cons,List.nodup_append] at nd
   intro z
   exact nd.2.2 e.1 (by simpa using z) e.1 (List.mem_cons_self ..) rfl
  have pt:=zlX np (by have:=congrArg List.length heq;simp at this ⊢;omega) (cleared e.2 x p)
  refine ⟨_,rfl,fun tail=>?_⟩
  show ((gN 0 (.int (e.1:Int)) [.no,.val (hD held),.val (IR x),.val (.int (p:Int))]).bind _)=_
  rw [show gN 0 (.int (e.1:Int)) [.no,.val (hD held),.val (IR x),.val (.int (p:Int))]=.ok [.val (.int (e.1:Int)),.val (hD held),.val (IR x),.val (.int (p:Int))] from rfl,zac]
  have vf:zaf zep (zaa (FL.e2 zjS (eV 1) (eV 0)) (zaa (eV 2) (zaa (eV 3) zai))) [.val (.int (e.1:Int)),.val (hD held),.val (IR x),.val (.int (p:Int))]=.ok (IR (cleared e.2 x p),[.val (.int (e.1:Int)),.val (hD held),.val (IR x),.val (.int (p:Int))]):=by
   simp only [zaf,zaa,FL.e2,eV,zz1,zz0,zac,dx,zai,c]
  rw [show zaK [.val (.int (e.1:Int)),.val (hD held),.val (IR x),.val (.int (p:Int))]=.ok (true,[.val (.int (e.1:Int)),.val (hD held),.val (IR x),.val (.int (p:Int))]) from rfl,zac,if_pos rfl]
  rw [show eV 0 [.val (.int (e.1:Int)),.val (hD held),.val (IR x),.val (.int (p:Int))]=.ok (.int (e.1:Int),[.val (.int (e.1:Int)),.val (hD held),.val (IR x),.val (.int (p:Int))]) from rfl,zac,vf,zac,pt,zac]
  rw [show (done.map fun e=>(e.1,cleared e.2 x p)) ++ [(e.1,cleared e.2 x p)]=(done ++ [e]).map fun e=>(e.1,cleared e.2 x p) by simp]
  rw [zaH (cs:=List.drop 1 (IR (cleared e.2 x p),[Sl.val (.int (e.1:Int)),.val (hD held),.val (IR x),.val (.int (p:Int))]).2) trivial]) held [] (.dict []) rfl rfl
 rw [h2,zac,h1]
theorem _root_.MD.SpQ.old {ws:List Rw} {w:Rw} {v:Rq} (h:SpQ ws v):SpQ (w :: ws) v:=⟨0,v,h,fun j=>by grind⟩
theorem _root_.MD.SpQ.new (ws:List Rw) (w:Rw):SpQ (w :: ws) (fun j=>(w j:Rat)):=⟨1,_,SpQ.zero ws,fun j=>by grind⟩
structure zjt (n:Nat) (M:List (List Rat)) (ws:List Rw) (S:List Nat) (held:zbs):Prop where
 ok:zbl n ws S held
 src:∀ w ∈ ws,∃ r ∈ M,w=fn (zbY r)
 sp:∀ r ∈ M,SpQ ws (fq r)
 len:ws.length<=M.length
theorem zpO {ws:List Rw} {r:List Rat} (h:SpQ ws (fun j=>(fn (zbY r) j:Rat))):SpQ ws (fq r):=by
 obtain ⟨q,q0,e⟩:=zpu r
 refine (h.lin (1 / q) 0 (SpQ.zero ws)).of_eq fun j=>?_
 rw [e j]
 grind
def zfU (b n:Nat):Nat:=b * (n + 1) + 1
def zbq (b n N:Nat):Nat:=(zfU b n + 4) * (N + 1) + 1
theorem zot {a N K:Nat} (hN:N<=15) (h:K<=(N + 1) * (2 ^ a * (N * 2 ^ a) ^ N)):K < 2 ^ ((a + 4) * (N + 1) + 1):=by
 have h1:N + 1<=2 ^ 4:=by omega
 have h2:N * 2 ^ a<=2 ^ (a + 4):=by
  rw [Nat.pow_add,Nat.mul_comm]
  exact Nat.mul_le_mul_left _ (by omega)
 have h3:(N * 2 ^ a) ^ N<=2 ^ ((a + 4) * N):=by
  rw [Nat.pow_mul]
  exact Nat.pow_le_pow_left h2 N
 have h4:(N + 1) * (2 ^ a * (N * 2 ^ a) ^ N)<=2 ^ 4 * (2 ^ a * 2 ^ ((a + 4) * N)):=Nat.mul_le_mul h1 (Nat.mul_le_mul_left _ h3)
 rw [<- Nat.pow_add,<- Nat.pow_add] at h4
 have h5:2 ^ (4 + (a + (a + 4) * N)) < 2 ^ ((a + 4) * (N + 1) + 1):=Nat.pow_lt_pow_right (by decide) (by rw [Nat.mul_succ];omega)
 omega
theorem zjt.bd {n b N:Nat} {M:List (List Rat)} {ws:List Rw} {S:List Nat} {held:zbs} (E:zjt n M ws S held) (hM:∀ r ∈ M,r.length=n/\∀ x ∈ r,QR.Bd b x) (hN:M.length<=N) (h15:N<=15) {e:Nat × List Int} (he:e ∈ held) (j:Nat):(fn e.2 j).natAbs < 2 ^ zbq b n N:=by
 refine zot h15 (zve E.ok (fun v hv j=>?_) (Nat.le_trans E.len hN) Nat.one_le_two_pow he j)
 obtain ⟨r,hr,rfl⟩:=E.src v hv
 have:=zhz (hM r hr).2 j
 rw [(hM r hr).1] at this
 exact Nat.le_of_lt this
theorem zos {n b:Nat} {M:List (List Rat)} (hM:∀ r ∈ M,r.length=n/\∀ x ∈ r,QR.Bd b x) (hN:M.length<=15) (hn:n<=1000) (hB:zbq b n M.length<=10000000) (hb:zfU b n<=1000000) :
  ∃ ws S held,zbf [zad M]=.ok (hD held)/\zjt n M ws S held:=by
 have start:∃ ρ',zbM [.val (zad M),.val (hD []),.no,.no,.no,.no]=.ok (.nx,ρ')/\∃ ws S held x2 x3 x4 x5,Np x2/\Np x3/\Np x4/\Np x5/\ρ'=[.val (zad M),.val (hD held),x2,x3,x4,x5]/\zjt n M ws S held:=by
  refine zcO (f:=zal) (g:=gN 2) (b:=zbO) (fun done ρ=>∃ ws S held x2 x3 x4 x5,Np x2/\Np x3/\Np x4/\Np x5/\ρ=[.val (zad M),.val (hD held),x2,x3,x4,x5]/\zjt n done ws S held) M [] _ ⟨[],[],[],.no,.no,.no,.no,zbI,zbI,zbI,zbI,rfl,zsJ n,(fun _ h=>nomatch h),(fun _ h=>nomatch h),Nat.le_refl _⟩ ?_
  rintro pre r post ρ heq ⟨ws,S,held,x2,x3,x4,x5,n2,n3,n4,n5,rfl,E⟩
  rw [List.nil_append] at heq
  have mr:r ∈ M:=by rw [heq];simp
  have mp:∀ q ∈ pre,q ∈ M:=fun q hq=>by rw [heq];simp [hq]
  have lp:pre.length + 1<=M.length:=by rw [heq];simp
  obtain ⟨lr,br⟩:=hM r mr
  have hMp:∀ r ∈ pre,r.length=n/\∀ x ∈ r,QR.Bd b x:=fun q hq=>hM q (mp q hq)
  have e0:gN 2 (zal r) [.val (zad M),.val (hD held),x2,x3,x4,x5]=.ok [.val (zad M),.val (hD held),.val (zal r),x3,x4,x5]:=zgx (x:=x2) rfl n2
  have wo:=zrN br (by rw [lr];exact hb) (by rw [lr];show n<=1000000;omega)
  have s1:zaC (gN 3) (zaf zfm (zaa (eV 2) zai)) [.val (zad M),.val (hD held),.val (zal r),x3,x4,x5]=.ok (.nx,[.val (zad M),.val (hD held),.val (zal r),.val (IR (zbY r)),x4,x5]):=by
   refine zb1 (i:=3) (y:=(IR (zbY r),[.val (zad M),.val (hD held),.val (zal r),x3,x4,x5])) (x:=x3) ?_ rfl n3
   simp only [zaf,zaa,zai,eV,zz1,zz0,zac,wo]
  have lw:(zbY r).length=n:=(zoG r).trans lr
  have pz:=zpv r
  have hwA:∀ j,(fn (zbY r) j).natAbs<=2 ^ zfU b n:=fun j=>by
   have:=zhz br j
   rw [lr] at this
   exact Nat.le_of_lt this
  have hA:∀ v ∈ ws,∀ j,(v j).natAbs<=2 ^ zfU b n:=fun v hv j=>by
   obtain ⟨q,hq,rfl⟩:=E.src v hv
   have:=zhz (hMp q hq).2 j
   rw [(hMp q hq).1] at this
   exact Nat.le_of_lt this
  have nd:=zkv E.ok
  have hh:∀ e ∈ held,e.2.length=n/\e.1 < n/\∀ j,(fn e.2 j).natAbs < 2 ^ zbq b n M.length:=fun e he=>⟨(E.ok.row e he).len,(E.ok.row e he).lt,E.bd hMp (by omega) hN he⟩
  have hc:∀ i,(clears (held.take i) (zbY r)).length=n/\∀ j,(fn (clears (held.take i) (zbY r)) j).natAbs < 2 ^ zbq b n M.length:=fun i=>by
   obtain ⟨p1,p2⟩:=zwn (N:=M.length) E.ok lw pz hA hwA (Nat.le_trans E.len (by omega)) Nat.one_le_two_pow i
   exact ⟨p1,fun j=>zot hN (p2 j)⟩
  obtain ⟨y4,g4,s2⟩:=zs1 (x0:=.val (zad M)) (x2:=.val (zal r)) (x5:=x5) nd hh hc hB hn n4
  have full:=hc held.length
  rw [List.take_length] at full
  have hx:=full
  generalize hxx:clears held (zbY r)=x at s2 hx
  have s3:zaC (gN 5) (zaf ziV (zaa (eV 3) zai)) [.val (zad M),.val (hD held),.val (zal r),.val (IR x),y4,x5]=.ok (.nx,[.val (zad M),.val (hD held),.val (zal r),.val (IR x),y4,.val (zyk (zfN x))]):=by
   refine zb1 (i:=5) (y:=(zyk (zfN x),[.val (zad M),.val (hD held),.val (zal r),.val (IR x),y4,x5])) (x:=x5) ?_ rfl n5
   simp only [zaf,zaa,zai,eV,zz1,zz0,zac,zuZ]
  rw [e0,zac]
  unfold zbO
  rw [zah s1,zah s2,zah s3]
  cases hl:zfN x with
  | none =>
   refine ⟨_,.nx,rfl,.inl rfl,ws,S,held,_,_,_,_,zaY _,zaY _,g4,zaY _,rfl,E.ok,fun w hw=>?_,fun q hq=>?_,?_⟩
   ·obtain ⟨q,hq,e⟩:=E.src w hw
    exact ⟨q,List.mem_append_left _ hq,e⟩
   ·rcases List.mem_append.mp hq with hq | hq
    ·exact E.sp q hq
    ·rw [List.mem_singleton.mp hq]
     obtain ⟨k,k0,h⟩:=ztf E.ok lw pz (by rw [hxx];exact zjK hl)
     exact zpO (SpQ.ofk k0 h)
   ·rw [List.length_append];have:=E.len;omega
  | some p =>
   obtain ⟨hp,lo⟩:=zjJ hl
   have AS:=zte E.ok lw pz hxx.symm hp lo
   have pn:p < n:=Nat.lt_of_not_le fun c=>hp (zlU (hx.1 ▸ c))
   have lh:held.length<=15:=by
    have l1:=zfM E.ok
    have l2:=ziq E.ok.det
    have:=E.len
    omega
   have dc:=zpj (x0:=.val (zad M)) (x2:=.val (zal r)) (x4:=y4) nd (fun e he=>⟨(hh e he).1,(hh e he).2.2⟩) hx.1 hx.2 pn hB hn (by show _<=1000000;omega)
   have s4:zeJ 1 za7 [.val (zad M),.val (hD held),.val (zal r),.val (IR x),y4,.val (.int (p:Int))]=.ok (.nx,[.val (zad M),.ow false (hD (held.map fun e=>(e.1,cleared e.2 x p))),.val (zal r),.val (IR x),y4,.val (.int (p:Int))]):=zdM (x:=.val (hD held)) dc rfl (zaY _)
   have np:p ∉ (held.map fun e=>(e.1,cleared e.2 x p)).map (·.1):=by
    have k:=AS.keys
    have nd':=zkv AS
    rw [List.map_append,List.nodup_append] at nd'
    intro z
    exact nd'.2.2 p z p (by simp) rfl
   have pt:=zlX np (by rw [List.length_map];show _<=1000000;omega) x
   refine ⟨_,.nx,?_,.inl rfl,fn (zbY r) :: ws,p :: S,_,.val (zal r),.val (IR x),y4,.val (.int (p:Int)),zaY _,zaY _,g4,zaY _,rfl,AS,fun w hw=>?_,fun q hq=>?_,?_⟩
   ·show sIf (tB (FL.e2 zwO (eV 5) (eC .none))) _ sNx [.val (zad M),.val (hD held),.val (zal r),.val (IR x),y4,.val (.int (p:Int))]=_
    unfold sIf
    rw [show tB (FL.e2 zwO (eV 5) (eC .none)) [.val (zad M),.val (hD held),.val (zal r),.val (IR x),y4,.val (.int (p:Int))]=.ok (true,[.val (zad M),.val (hD held),.val (zal r),.val (IR x),y4,.val (.int (p:Int))]) from rfl,zac,if_pos rfl,zah s4]
    simp only [zeI,zsW,eV,zz1,zz0,za1,zcm,zac,List.set_cons_succ,List.set_cons_zero,pt]
   ·rcases List.mem_cons.mp hw with rfl | hw
    ·exact ⟨r,by simp,rfl⟩
    ·obtain ⟨q,hq,e⟩:=E.src w hw
     exact ⟨q,List.mem_append_left _ hq,e⟩
   ·rcases List.mem_append.mp hq with hq | hq
    ·exact (E.sp q hq).old
    ·rw [List.mem_singleton.mp hq]
     exact zpO (SpQ.new ws _)
   ·rw [List.length_append,List.length_cons];have:=E.len;simp;omega
 obtain ⟨ρ',e,ws,S,held,x2,x3,x4,x5,_,_,_,_,rfl,E⟩:=start
 refine ⟨ws,S,held,?_,E⟩
 refine zbb (ρ:=[.val (zad M),.val (hD held),x2,x3,x4,x5]) rfl ?_
 show zcg [.val (zad M),.no,.no,.no,.no,.no]=_
 unfold zcg
 rw [zah (show zeJ 1 zom [.val (zad M),.no,.no,.no,.no,.no]=.ok (.nx,[.val (zad M),.ow false (hD []),.no,.no,.no,.no]) from rfl)]
 rw [zah (show zv5 1 zbM [.val (zad M),.ow false (hD []),.no,.no,.no,.no]=.ok (.nx,_) from e)]
 rfl
end FL
namespace FL
open PySem MD
def zbZ (e:Nat × List Int):List Rat:=e.2.map fun x=>Rat.divInt x (fn e.2 e.1)
theorem zoo (p q:Int):Rat.divInt p q=(p:Rat) / (q:Rat):=Rat.divInt_eq_div p q
theorem zii (e:Nat × List Int) (j:Nat):fq (zbZ e) j=kr e j:=by
 unfold fq zbZ kr fn
 simp only [List.getD_eq_getElem?_getD,List.getElem?_map]
 cases e.2[j]? with
 | none=>simp only [Option.map_none,Option.getD_none];show (0:Rat)=((0:Int):Rat) / _;grind
 | some x=>simp only [Option.map_some,Option.getD_some];exact zoo _ _
theorem zl8 {p q:Int} {n:Nat} (hp:p.natAbs < 2 ^ n) (hq:q.natAbs < 2 ^ n) (q0:q ≠ 0):QR.Bd n (Rat.divInt p q):=by
 have h:=QR.zq0 p q
 have e:num (Rat.divInt p q)=.tuple [.int (Q1.fr p q).1,.int (Q1.fr p q).2]:=by
  rw [num_divInt p q q0]
  unfold Q1.fr
  by_cases c:q < 0
  ·rw [if_pos c,if_pos c]
  ·rw [if_neg c,if_neg c]
 unfold num at e
 have e1:=congrArg (fun d=>match d with | PyData.tuple [.int a,.int b]=>(a,b) | _=>(0,0)) e
 simp only [Prod.mk.injEq] at e1
 refine ⟨?_,?_⟩
 ·rw [e1.1];omega
 ·have:=h.2
  rw [<- e1.2,Int.natAbs_natCast] at this
  omega
theorem zlp {α β:Type} (f:α->β) {l m:List β} (p:l.Perm m):∀ xs:List α,xs.map f=m->∃ ys:List α,ys.Perm xs/\ys.map f=l:=by
 induction p with
 | nil=>intro xs h;exact ⟨xs,.refl _,h⟩
 | cons a p ih =>
  intro xs h
  match xs,h with
  | x :: xs,h =>
   rw [List.map_cons,List.cons.injEq] at h
   obtain ⟨ys,h1,h2⟩:=ih xs h.2
   exact ⟨x :: ys,h1.cons x,by rw [List.map_cons,h.1,h2]⟩
 | swap a b l =>
  intro xs h
  match xs,h with
  | x :: y :: xs,h =>
   simp only [List.map_cons,List.cons.injEq] at h
   exact ⟨y :: x :: xs,.swap x y xs,by simp only [List.map_cons,h.1,h.2.1,h.2.2]⟩
 | trans p q ih1 ih2 =>
  intro xs h
  obtain ⟨ys,h1,h2⟩:=ih2 xs h
  obtain ⟨zs,h3,h4⟩:=ih1 ys h2
  exact ⟨zs,h3.trans h1,h4⟩
theorem zpP (held:zbs) (hl:held.length < 64):∃ K:zbs,K.Perm held/\(K.map fun e=>(e.1:Int)).Pairwise (·<=·)/\zjz (hD held)=.ok (.list (K.map fun e=>.int (e.1:Int))):=by
 obtain ⟨K,h1,h2⟩:=zlp (fun e:Nat × List Int=>(e.1:Int)) (ze9 (held.map fun e=>(e.1:Int))) held rfl
 refine ⟨K,h1,by rw [h2];exact zdg _,?_⟩
 have e:(held.map hent).map (·.1)=(held.map fun e=>(e.1:Int)).map PyData.int:=by rw [List.map_map,List.map_map];rfl
 show (R.of (intsOf ((held.map hent).map (·.1)))).bind _=_
 rw [e,zpd]
 show chk (leB ((held.map fun e=>(e.1:Int)).length + 1) 64) _=_
 rw [zaI (by rw [List.length_map];exact zgP hl),<- h2,List.map_map]
 rfl
theorem zo6 {n:Nat} {held:zbs} (nd:(held.map (·.1)).Nodup) (hr:∀ e ∈ held,e.2.length=n/\e.1 < n/\fn e.2 e.1 ≠ 0) (hn:n<=1000) {e:Nat × List Int} (he:e ∈ held) :
  zcU [.val (.int (e.1:Int)),.val (hD held)]=.ok (zal (zbZ e),[.val (.int (e.1:Int)),.val (hD held)]):=by
 obtain ⟨h1,h2,h3⟩:=hr e he
 have dx:=zht nd he
 unfold zcU
 rw [zaE (f0:=PyData.int) (xs:=e.2) (fun x=>num (Rat.divInt x (fn e.2 e.1))) (by
  simp only [iE,FL.e2,eV,zz1,zz0,zac,dx,zob]
  rfl) (by rw [h1];show n<=1000000;omega) fun x mx=>?_]
 ·unfold zal zbZ;rw [List.map_map];rfl
 ·refine ⟨[.val (.int x),.val (.int (e.1:Int)),.val (hD held)],rfl,?_,zaH trivial⟩
  have ix:=zqL (xs:=e.2) (i:=e.1) (by omega)
  have fr:=zih x _ h3
  simp only [zaf,zaa,eV,zz0,FL.e2,zai,zac,zz1,dx,ix,fr]
structure HR (n:Nat) (held:zbs):Prop where
 nd:(held.map (·.1)).Nodup
 row:∀ e ∈ held,e.2.length=n/\e.1 < n/\fn e.2 e.1 ≠ 0
 len:held.length<=15
theorem zjt.hr {n:Nat} {M:List (List Rat)} {ws:List Rw} {S:List Nat} {held:zbs} (E:zjt n M ws S held) (hN:M.length<=15):HR n held:=by
 refine ⟨zkv E.ok,fun e he=>⟨(E.ok.row e he).len,(E.ok.row e he).lt,(E.ok.row e he).ne⟩,?_⟩
 have l1:=zfM E.ok
 have l2:=ziq E.ok.det
 have:=E.len
 omega
theorem zqE {n b:Nat} {M:List (List Rat)} (hM:∀ r ∈ M,r.length=n/\∀ x ∈ r,QR.Bd b x) (hN:M.length<=15) (hn:n<=1000) (hB:zbq b n M.length<=10000000) (hb:zfU b n<=1000000) :
  ∃ (ws:List Rw) (S:List Nat) (held K:zbs),zdq [zad M]=.ok (zad (K.map zbZ))/\zjt n M ws S held/\K.Perm held/\(K.map fun e=>(e.1:Int)).Pairwise (·<=·):=by
 obtain ⟨ws,S,held,e,E⟩:=zos hM hN hn hB hb
 have h:=E.hr hN
 obtain ⟨K,p,srt,es⟩:=zpP held (by have:=h.len;omega)
 refine ⟨ws,S,held,K,?_,E,p,srt⟩
 have s1:zaC (gN 1) (zaf zbf (zaa (eV 0) zai)) [.val (zad M),.no]=.ok (.nx,[.val (zad M),.val (hD held)]):=by
  simp only [zaC,zaf,zaa,eV,zz0,zai,zac,e,gN,zz1,List.set_cons_succ,List.set_cons_zero]
 have q:zcT [.val (zad M),.val (hD held)]=.ok (zad (K.map zbZ),[.val (zad M),.val (hD held)]):=by
  unfold zcT
  rw [zaE (f0:=fun e:Nat × List Int=>.int (e.1:Int)) (xs:=K) (fun e=>zal (zbZ e)) (by
   simp only [iE,FL.e1,eV,zz1,zz0,zac,es,zob]) (by rw [p.length_eq];have:=h.len;show _<=1000000;omega) fun x mx=>?_]
  ·unfold zad;rw [List.map_map];rfl
  ·exact ⟨[.val (.int (x.1:Int)),.val (hD held)],rfl,zo6 h.nd h.row hn (p.subset mx),zaH trivial⟩
 refine zcQ (ρ:=[.val (zad M),.val (hD held)]) rfl ?_
 show zec [.val (zad M),.no]=_
 unfold zec
 rw [zah s1]
 unfold zba
 rw [q]
 rfl
def zff (f:Nat × List Int->Rat) (base:Nat->Rat) (held:zbs) (n:Nat):List Rat:=(List.range n).map fun j=>match held.find? (fun e=>decide (e.1=j)) with
 | some e=>f e
 | none=>base j
theorem zoj (f:Nat × List Int->Rat) (base:Nat->Rat) (held:zbs) (n:Nat):(zff f base held n).length=n:=by unfold zff;simp
theorem zkP (f:Nat × List Int->Rat) (base:Nat->Rat) (held:zbs) {n j:Nat} (h:j < n):fq (zff f base held n) j=match held.find? (fun e=>decide (e.1=j)) with
 | some e=>f e
 | none=>base j:=by
 unfold fq zff
 rw [List.getD_eq_getElem?_getD,List.getElem?_map,List.getElem?_range h]
 rfl
theorem zkO {f:Nat × List Int->Rat} {base:Nat->Rat} {held:zbs} {n j:Nat} (hj:j ∉ held.map (·.1)) (h:j < n):fq (zff f base held n) j=base j:=by
 rw [zkP f base held h,find_none hj]
theorem zsO {f:Nat × List Int->Rat} {base:Nat->Rat} {done:zbs} {n:Nat} {e:Nat × List Int} (hn:e.1 ∉ done.map (·.1)):(zff f base done n).set e.1 (f e)=zff f base (done ++ [e]) n:=by
 apply List.ext_getElem?
 intro j
 unfold zff
 rw [List.getElem?_set,List.getElem?_map,List.getElem?_map,List.length_map,List.length_range]
 by_cases c:e.1=j
 ·subst c
  rw [if_pos rfl]
  by_cases l:e.1 < n
  ·rw [if_pos l,List.getElem?_range l]
   simp only [Option.map_some,List.find?_append,find_none hn,Option.none_or]
   rw [show [e].find? (fun y=>decide (y.1=e.1))=some e by simp]
  ·rw [if_neg l,List.getElem?_eq_none (by simpa using l)];rfl
 ·rw [if_neg c]
  have:[e].find? (fun y=>decide (y.1=j))=none:=by simp [c]
  by_cases l:j < n
  ·rw [List.getElem?_range l]
   simp only [Option.map_some,List.find?_append,this,Option.or_none]
  ·rw [List.getElem?_eq_none (by simpa using l)];rfl
theorem zsP {f:Nat × List Int->Rat} {base:Nat->Rat} {held:zbs} {n:Nat} {x:Rat} (h:x ∈ zff f base held n):(∃ e ∈ held,x=f e)\/∃ j,x=base j:=by
 unfold zff at h
 obtain ⟨j,_,rfl⟩:=List.mem_map.mp h
 cases e:held.find? (fun e=>decide (e.1=j)) with
 | none=>exact .inr ⟨j,rfl⟩
 | some y=>exact .inl ⟨y,List.mem_of_find?_eq_some e,rfl⟩
theorem zpR {xs:List Rat} {i:Nat} {v:Rat}:(xs.map num).set i (num v)=(xs.set i v).map num:=by rw [List.map_set]
theorem zm3 {n i:Nat} (h:i < n):ixN n (i:Int)=some i:=by
 unfold ixN
 rw [if_pos (by omega),if_pos (by omega)]
 simp
def nf (free:Nat) (e:Nat × List Int):Rat:=Rat.divInt (-(fn e.2 free)) (fn e.2 e.1)
def nb (free:Nat) (j:Nat):Rat:=if j=free then 1 else 0
def zhd (held:zbs) (n free:Nat):List Rat:=zff (nf free) (nb free) held n
theorem zpT (n:Nat) (r:Rat):List.replicate n (num r)=(List.replicate n r).map num:=by simp
theorem zku {n free:Nat} {held:zbs} (h:HR n held) (hf:free < n) (hfr:free ∉ held.map (·.1)) (hn:n<=1000):zg8 [hD held,.int (free:Int),.int (n:Int)]=.ok (zal (zhd held n free)):=by
 have s1:zeJ 3 (zxV (eC (.tuple [(.int 0),(.int 1)])) (eV 2)) [.val (hD held),.val (.int (free:Int)),.val (.int (n:Int)),.no,.no]=.ok (.nx,[.val (hD held),.val (.int (free:Int)),.val (.int (n:Int)),.ow false (zal (List.replicate n 0)),.no]):=by
  refine zdM (i:=3) (x:=.no) (y:=(zal (List.replicate n 0),[.val (hD held),.val (.int (free:Int)),.val (.int (n:Int)),.no,.no])) ?_ rfl zbI
  show chk (decide ((0:Int)<=(n:Int)) && leB ((n:Int).toNat) 1000000) _=_
  rw [zaI (by rw [Bool.and_eq_true];exact ⟨by simp,zgP (by simp;omega)⟩)]
  show R.ok (PyData.list (List.replicate (n:Int).toNat (num 0)),_)=_
  rw [Int.toNat_natCast,zpT]
  rfl
 have s2:setM 3 (eC (.tuple [(.int 1),(.int 1)])) (eV 1) [.val (hD held),.val (.int (free:Int)),.val (.int (n:Int)),.ow false (zal (List.replicate n 0)),.no]=.ok (.nx,[.val (hD held),.val (.int (free:Int)),.val (.int (n:Int)),.ow false (zal (zhd [] n free)),.no]):=by
  show (R.of (ixN ((List.replicate n (0:Rat)).map num).length (free:Int))).bind _=_
  rw [zm3 (by simpa using hf)]
  show R.ok (Fl.nx,[Sl.val (hD held),.val (.int (free:Int)),.val (.int (n:Int)),.ow false (.list (((List.replicate n (0:Rat)).map num).set free (num 1))),.no])=_
  rw [zpR]
  have:(List.replicate n (0:Rat)).set free 1=zhd [] n free:=by
   apply List.ext_getElem?
   intro j
   unfold zhd zff nb
   rw [List.getElem?_set,List.getElem?_map,List.length_replicate,List.getElem?_replicate]
   by_cases c:free=j
   ·subst c
    rw [if_pos rfl,if_pos hf,List.getElem?_range hf]
    simp
   ·rw [if_neg c]
    by_cases l:j < n
    ·rw [if_pos l,List.getElem?_range l]
     simp [Ne.symm c]
    ·rw [if_neg l,List.getElem?_eq_none (by simpa using l)];rfl
  rw [this]
  rfl
 obtain ⟨ρ',e,y4,g4,rfl⟩:=zcO (f:=fun e:Nat × List Int=>.int (e.1:Int)) (g:=gN 4) (b:=zd4) (fun done ρ=>∃ y4,Np y4/\ρ=[.val (hD held),.val (.int (free:Int)),.val (.int (n:Int)),.ow false (zal (zhd done n free)),y4]) held [] _ ⟨.no,zbI,rfl⟩ (by
  rintro pre e post ρ heq ⟨y4,g4,rfl⟩
  rw [List.nil_append] at heq
  have me:e ∈ held:=by rw [heq];simp
  obtain ⟨h1,h2,h3⟩:=h.row e me
  have dx:=zht h.nd me
  have i1:=zqL (xs:=e.2) (i:=free) (by omega)
  have i2:=zqL (xs:=e.2) (i:=e.1) (by omega)
  have fr:=zih (-(fn e.2 free)) _ h3
  have np:e.1 ∉ pre.map (·.1):=by
   have nd:=h.nd
   rw [heq,List.map_append,List.map_cons,List.nodup_append] at nd
   intro z
   exact nd.2.2 e.1 z e.1 (List.mem_cons_self ..) rfl
  refine ⟨_,.nx,?_,.inl rfl,.val (.int (e.1:Int)),zaY _,rfl⟩
  rw [zgx (x:=y4) rfl g4,zac]
  have fe:zaf zeE (zaa (FL.e1 zpr (FL.e2 ixD (FL.e2 zjS (eV 0) (eV 4)) (eV 1))) (zaa (FL.e2 ixD (FL.e2 zjS (eV 0) (eV 4)) (eV 4)) zai)) [.val (hD held),.val (.int (free:Int)),.val (.int (n:Int)),.ow false (zal (zhd pre n free)),.val (.int (e.1:Int))]=.ok (num (nf free e),[.val (hD held),.val (.int (free:Int)),.val (.int (n:Int)),.ow false (zal (zhd pre n free)),.val (.int (e.1:Int))]):=by
   simp only [zaf,zaa,FL.e1,FL.e2,eV,zz0,zac,zz1,dx,i1,znX,zai,i2,fr]
   rfl
  show setM 3 _ (eV 4) [.val (hD held),.val (.int (free:Int)),.val (.int (n:Int)),.ow false (zal (zhd pre n free)),.val (.int (e.1:Int))]=_
  unfold setM
  rw [fe]
  show (R.of (ixN ((zhd pre n free).map num).length (e.1:Int))).bind _=_
  rw [zm3 (by rw [List.length_map,zhd,zoj];exact h2)]
  show R.ok (Fl.nx,[Sl.val (hD held),.val (.int (free:Int)),.val (.int (n:Int)),.ow false (.list (((zhd pre n free).map num).set e.1 (num (nf free e)))),.val (.int (e.1:Int))])=_
  rw [zpR,zhd,zsO np]
  rfl)
 refine zcQ (ρ:=[.val (hD held),.val (.int (free:Int)),.val (.int (n:Int)),.ow false (zal (zhd held n free)),y4]) rfl ?_
 show zdh [.val (hD held),.val (.int (free:Int)),.val (.int (n:Int)),.no,.no]=_
 unfold zdh
 rw [zah s1,zah s2]
 have it:iD (eV 0) [.val (hD held),.val (.int (free:Int)),.val (.int (n:Int)),.ow false (zal (zhd [] n free)),.no]=.ok (held.map (fun e=>.int (e.1:Int)),[.val (hD held),.val (.int (free:Int)),.val (.int (n:Int)),.ow false (zal (zhd [] n free)),.no]):=by
  simp only [iD,eV,zz1,zz0,zac,zh3]
 have s3:zcC [.val (hD held),.val (.int (free:Int)),.val (.int (n:Int)),.ow false (zal (zhd [] n free)),.no]=.ok (.nx,[.val (hD held),.val (.int (free:Int)),.val (.int (n:Int)),.ow false (zal (zhd held n free)),y4]):=by
  unfold zcC zeQ
  rw [it,zac]
  simpa using e
 rw [zah s3]
 rfl
def frees (held:zbs) (n:Nat):List Nat:=(List.range n).filter fun j=>decide (j ∉ held.map (·.1))
def zja (held:zbs) (n:Nat):List (List Rat):=(frees held n).map (zhd held n)
theorem zfK {held:zbs} {n j:Nat}:j ∈ frees held n ↔ j < n/\j ∉ held.map (·.1):=by
 unfold frees
 rw [List.mem_filter,List.mem_range,decide_eq_true_eq]
theorem zlR (held:zbs) (n:Nat):(frees held n).length<=n:=by
 have:=List.length_filter_le (fun j=>decide (j ∉ held.map (·.1))) (List.range n)
 rw [List.length_range] at this
 exact this
theorem zss {n b:Nat} {held:zbs} (h:HR n held) (hB:∀ e ∈ held,∀ j,(fn e.2 j).natAbs < 2 ^ b) (hb:1<=b):∀ r ∈ zja held n,r.length=n/\∀ x ∈ r,QR.Bd b x:=by
 intro r hr
 obtain ⟨free,hf,rfl⟩:=List.mem_map.mp hr
 refine ⟨zoj ..,fun x hx=>?_⟩
 rcases zsP hx with ⟨e,he,rfl⟩ | ⟨j,rfl⟩
 ·exact zl8 (by rw [Int.natAbs_neg];exact hB e he free) (hB e he e.1) (h.row e he).2.2
 ·unfold nb
  have o:(1:Nat) < 2 ^ b:=Nat.one_lt_two_pow (by omega)
  split
  ·exact ⟨o,o⟩
  ·exact ⟨Nat.lt_of_lt_of_le (by decide) (Nat.le_of_lt o),o⟩
theorem zoU {n b N:Nat} {M:List (List Rat)} (hM:∀ r ∈ M,r.length=n/\∀ x ∈ r,QR.Bd b x) (hN:M.length<=N) (hN15:N<=15) (hn:n<=15) (hb:zfU b n<=1000000) (hB:zbq b n N<=10000000) (hb2:zfU (zbq b n N) n<=1000000) (hB2:zbq (zbq b n N) n n<=10000000) :
  ∃ (ws:List Rw) (S:List Nat) (held:zbs) (ws2:List Rw) (S2:List Nat) (held2 K:zbs),zf8 [zad M,.int (n:Int)]=.ok (zad (K.map zbZ))/\zjt n M ws S held/\zjt n (zja held n) ws2 S2 held2/\K.Perm held2/\(K.map fun e=>(e.1:Int)).Pairwise (·<=·)/\(∀ r ∈ zja held n,r.length=n/\∀ x ∈ r,QR.Bd (zbq b n N) x):=by
 have mono:zbq b n M.length<=zbq b n N:=by unfold zbq;exact Nat.add_le_add_right (Nat.mul_le_mul_left _ (by omega)) 1
 obtain ⟨ws,S,held,e,E⟩:=zos hM (by omega) (by omega) (by omega) hb
 have h:=E.hr (by omega)
 have nB:=zss h (fun e he j=>E.bd hM hN hN15 he j) (by unfold zbq;omega)
 have nl:(zja held n).length<=n:=by unfold zja;rw [List.length_map];exact zlR held n
 have mono2:zbq (zbq b n N) n (zja held n).length<=zbq (zbq b n N) n n:=by rw [zbq,zbq];exact Nat.add_le_add_right (Nat.mul_le_mul_left _ (by omega)) 1
 obtain ⟨ws2,S2,held2,K,e2,E2,p,srt⟩:=zqE nB (by omega) (by omega) (by omega) hb2
 refine ⟨ws,S,held,ws2,S2,held2,K,?_,E,E2,p,srt,nB⟩
 have s1:zaC (gN 2) (zaf zbf (zaa (eV 0) zai)) [.val (zad M),.val (.int (n:Int)),.no]=.ok (.nx,[.val (zad M),.val (.int (n:Int)),.val (hD held)]):=by
  simp only [zaC,zaf,zaa,eV,zz0,zai,zac,e,gN,zz1,List.set_cons_succ,List.set_cons_zero]
 have q:zcf [.val (zad M),.val (.int (n:Int)),.val (hD held)]=.ok (zad (zja held n),[.val (zad M),.val (.int (n:Int)),.val (hD held)]):=by
  unfold zcf
  have it:iR1 (zaa (eV 1) zai) [.val (zad M),.val (.int (n:Int)),.val (hD held)]=.ok ((List.range n).map (fun i:Nat=>PyData.int (i:Int)),[.val (zad M),.val (.int (n:Int)),.val (hD held)]):=by
   simp only [iR1,zaa,zai,eV,zz1,zz0,zac]
   rw [zct (by omega) (by omega),zac,zdN,List.map_map]
   simp
  rw [zda (f0:=fun i:Nat=>.int (i:Int)) (xs:=List.range n) (fun j=>decide (j ∉ held.map (·.1))) (fun j=>zal (zhd held n j)) it (by rw [List.length_range];show n<=1000000;omega) fun j mj=>?_]
  ·unfold zad zja frees;rw [List.map_map];rfl
  ·refine ⟨[.val (.int (j:Int)),.val (.int (n:Int)),.val (hD held)],rfl,?_,fun c=>?_,zaH trivial⟩
   ·simp only [tB,FL.e2,eV,zz1,zz0,zac,zsu]
   ·have nr:=zku h (List.mem_range.mp mj) (of_decide_eq_true c) (by omega)
    simp only [zaf,zaa,eV,zz1,zz0,zai,zac,nr]
 refine zcQ (ρ:=[.val (zad M),.val (.int (n:Int)),.val (hD held)]) rfl ?_
 show zcW [.val (zad M),.val (.int (n:Int)),.no]=_
 unfold zcW
 rw [zah s1]
 unfold zba zaf zaa zai
 rw [q]
 simp only [zac,e2]
end FL
namespace FL
open PySem MD
theorem zqO {f:Nat × List Int->Rat} {base:Nat->Rat} {n:Nat} (v:Rq):∀ held:zbs,(held.map (·.1)).Nodup->(∀ e ∈ held,e.1 < n)->ip n (fq (zff f base held n)) v=zcy ((List.range n).map fun j=>base j * v j) + zcy (held.map fun e=>(f e - base e.1) * v e.1)
 | [],_,_=>by
  unfold ip
  rw [List.map_nil,zfy,zay (g:=fun j=>base j * v j) fun j hj=>by rw [zkO (by simp) (List.mem_range.mp hj)]]
  grind
 | e :: r,nd,hl=>by
  rw [List.map_cons,List.nodup_cons] at nd
  have ih:=zqO (f:=f) (base:=base) v r nd.2 fun y hy=>hl y (.tail _ hy)
  have h1:=zhO v (fq (zff f base r n)) e.1 (f e) n (hl e (.head _))
  rw [zkO nd.1 (hl e (.head _))] at h1
  unfold ip at ih ⊢
  rw [ih] at h1
  rw [List.map_cons,zaO,zay (g:=fun j=>(if e.1=j then f e else fq (zff f base r n) j) * v j) fun j hj=>?_,h1]
  ·grind
  ·have hj:=List.mem_range.mp hj
   rw [zkP f base (e :: r) hj,zkP f base r hj]
   by_cases c:e.1=j
   ·rw [if_pos c,List.find?_cons_of_pos (by simpa using c)]
   ·rw [if_neg c,List.find?_cons_of_neg (by simpa using c)]
theorem zva {n free:Nat} {held:zbs} (h:HR n held) (hf:free < n) (hfr:free ∉ held.map (·.1)) (v:Rq):ip n (fq (zhd held n free)) v=v free - zcy (held.map fun e=>kr e free * v e.1):=by
 unfold zhd
 rw [zqO v held h.nd fun e he=>(h.row e he).2.1]
 have e1:zcy ((List.range n).map fun j=>nb free j * v j)=v free:=by
  have:=zhO v (fun _=>0) free 1 n hf
  rw [zca (f:=fun j=>(0:Rat) * v j) fun j _=>by grind] at this
  have hc:∀ j ∈ List.range n,nb free j * v j=(if free=j then 1 else 0) * v j:=fun j _=>by
   unfold nb
   by_cases c:j=free
   ·subst c;rfl
   ·rw [if_neg c,if_neg fun z=>c z.symm]
  rw [zay hc,this]
  grind
 have e2:zcy (held.map fun e=>(nf free e - nb free e.1) * v e.1)=-zcy (held.map fun e=>kr e free * v e.1):=by
  have:=znD (-1) (fun e:Nat × List Int=>kr e free * v e.1) held
  rw [show -zcy (held.map fun e=>kr e free * v e.1)=-1 * zcy (held.map fun e=>kr e free * v e.1) by grind,<- this]
  refine zay fun e he=>?_
  have ne:e.1 ≠ free:=fun z=>hfr (z ▸ List.mem_map_of_mem (f:=(·.1)) he)
  unfold nf nb kr
  rw [if_neg ne,zoo]
  push_cast
  grind
 rw [e1,e2]
 grind
theorem zjt.ind {n:Nat} {M:List (List Rat)} {ws:List Rw} {S:List Nat} {held:zbs} (E:zjt n M ws S held) {P:Rq->Prop} (h0:P fun _=>0) (hl:∀ a b u v,P u->P v->P fun j=>a * u j + b * v j) (hM:∀ r ∈ M,P (fq r)) {v:Rq} (hv:SpQ ws v):P v:=by
 refine SpQ.ind h0 hl (fun w hw=>?_) hv
 obtain ⟨r,hr,rfl⟩:=E.src w hw
 obtain ⟨q,_,e⟩:=zpu r
 have:(fun j=>(fn (zbY r) j:Rat))=fun j=>q * fq r j + 0 * (fun _=>(0:Rat)) j:=funext fun j=>by rw [e j];grind
 rw [this]
 exact hl q 0 _ _ (hM r hr) h0
theorem zjt.zzn {n:Nat} {M:List (List Rat)} {ws:List Rw} {S:List Nat} {held:zbs} (E:zjt n M ws S held) {t:Rq} (hM:∀ r ∈ M,ip n t (fq r)=0) {v:Rq} (hv:SpQ ws v):ip n t v=0 :=
 E.ind (P:=fun v=>ip n t v=0) (zu9 n t) (fun a b u v hu hv=>by rw [ztN,hu,hv];grind) hM hv
theorem zql {n free:Nat} {M:List (List Rat)} {ws:List Rw} {S:List Nat} {held:zbs} (E:zjt n M ws S held) (h:HR n held) (hf:free < n) (hfr:free ∉ held.map (·.1)) {v:Rq} (hv:SpQ ws v):ip n (fq (zhd held n free)) v=0:=by
 rw [zva h hf hfr,E.ok.room hv free,zay (g:=fun e=>v e.1 * kr e free) fun e _=>by grind]
 grind
theorem zra:∀ (xs ys:List Rat) (n:Nat),xs.length=n->ys.length=n->QR.dot xs ys=ip n (fq xs) (fq ys)
 | [],[],n,h,_=>by
  have:n=0:=h.symm
  subst this;rfl
 | [],_ :: _,n,h,k=>by simp at h k;omega
 | _ :: _,[],n,h,k=>by simp at h k;omega
 | x :: xs,y :: ys,n,h,k=>by
  cases n with
  | zero=>simp at h
  | succ n =>
   have ih:=zra xs ys n (by simpa using h) (by simpa using k)
   unfold ip at ih ⊢
   rw [List.range_succ_eq_map,List.map_cons,List.map_map,zaO]
   show x * y + QR.dot xs ys=_
   rw [ih]
   rfl
theorem zxQ:∀ (xs ys:List Rat),zjv (xs.map num) (ys.map num)=(xs.zip ys).map fun q=>.tuple [num q.1,num q.2]
 | [],ys=>by cases ys <;> rfl
 | x :: xs,[]=>rfl
 | x :: xs,y :: ys=>by simp only [List.map_cons,zjv,List.zip_cons_cons,zxQ xs ys]
theorem zsn (pre:List (Rat × Rat)) (q:Rat × Rat):QR.dot ((pre ++ [q]).map (·.1)) ((pre ++ [q]).map (·.2))=QR.dot (pre.map (·.1)) (pre.map (·.2)) + q.1 * q.2:=by
 induction pre with
 | nil=>show q.1 * q.2 + 0=0 + q.1 * q.2;grind
 | cons p pre ih =>
  simp only [List.cons_append,List.map_cons]
  show p.1 * p.2 + QR.dot ((pre ++ [q]).map (·.1)) ((pre ++ [q]).map (·.2))=p.1 * p.2 + QR.dot (pre.map (·.1)) (pre.map (·.2)) + q.1 * q.2
  rw [ih];grind
theorem zlr {G:List D->R D} {Gt Gp:List D->R D} {b c:Nat} {xs ys:List Rat} {x0 x1:Sl} (ht:∀ {r s:Rat} {n:Nat},QR.Bd n r->QR.Bd n s->n<=40000000->Gt [num r,num s]=.ok (num (r * s))) (hp:∀ {r s:Rat} {n:Nat},QR.Bd n r->QR.Bd n s->n<=40000000->Gp [num r,num s]=.ok (num (r + s)))
  (hx:∀ r ∈ xs,QR.Bd b r) (hy:∀ r ∈ ys,QR.Bd c r) (hb:(xs.length + 1) * (b + c + 1) + 1<=40000000) :
  ∃ y3 y4,forL (gT [(gN 3),(gN 4)]) (zaC (gN 2) (zaf Gp (zaa (eV 2) (zaa (zaf Gt (zaa (eV 3) (zaa (eV 4) zai))) zai)))) ((xs.zip ys).map fun q=>.tuple [num q.1,num q.2]) [x0,x1,.val (num 0),.no,.no]=.ok (.nx,[x0,x1,.val (num (QR.dot ((xs.zip ys).map (·.1)) ((xs.zip ys).map (·.2)))),y3,y4]):=by
 obtain ⟨ρ',e,y3,y4,g3,g4,rfl⟩:=zcO (f:=fun q:Rat × Rat=>.tuple [num q.1,num q.2]) (g:=gT [(gN 3),(gN 4)]) (b:=zaC (gN 2) (zaf Gp (zaa (eV 2) (zaa (zaf Gt (zaa (eV 3) (zaa (eV 4) zai))) zai)))) (fun done ρ=>∃ y3 y4,Np y3/\Np y4/\ρ=[x0,x1,.val (num (QR.dot (done.map (·.1)) (done.map (·.2)))),y3,y4]) (xs.zip ys) [] [x0,x1,.val (num 0),.no,.no] ⟨.no,.no,zbI,zbI,rfl⟩ (by
  rintro pre q post ρ heq ⟨y3,y4,g3,g4,rfl⟩
  rw [List.nil_append] at heq
  have mq:q ∈ xs.zip ys:=by rw [heq];simp
  have mp:∀ p ∈ pre,p ∈ xs.zip ys:=fun p hp=>by rw [heq];simp [hp]
  obtain ⟨m1,m2⟩:=List.of_mem_zip (a:=q.1) (b:=q.2) mq
  have lp:pre.length + 1<=xs.length:=by
   have:=congrArg List.length heq
   rw [List.length_zip,List.length_append,List.length_cons] at this
   omega
  have hb':pre.length * (b + c + 1) + (b + c + 1) + (b + c + 1)<=(xs.length + 1) * (b + c + 1):=by
   have:=Nat.mul_le_mul_right (b + c + 1) (show pre.length + 2<=xs.length + 1 by omega)
   rw [Nat.add_mul] at this
   omega
  have bd:=QR.zxz (xs:=pre.map (·.1)) (ys:=pre.map (·.2)) (n:=b) (m:=c) (by simp) (fun r hr=>by
   obtain ⟨p,hp,rfl⟩:=List.mem_map.mp hr
   exact hx _ (List.of_mem_zip (a:=p.1) (b:=p.2) (mp p hp)).1) (fun r hr=>by
   obtain ⟨p,hp,rfl⟩:=List.mem_map.mp hr
   exact hy _ (List.of_mem_zip (a:=p.1) (b:=p.2) (mp p hp)).2)
  rw [List.length_map] at bd
  have t1:=ht ((hx _ m1).mono (show b<=b + c by omega)) ((hy _ m2).mono (show c<=b + c by omega)) (by omega)
  have p1:=hp (bd.mono (show _<=pre.length * (b + c + 1) + 1 + (b + c) by omega)) (((hx _ m1).mul (hy _ m2)).mono (show _<=pre.length * (b + c + 1) + 1 + (b + c) by omega)) (by omega)
  refine ⟨_,.nx,?_,.inl rfl,.val (num q.1),.val (num q.2),zaY _,zaY _,rfl⟩
  have e0:gT [(gN 3),(gN 4)] (.tuple [num q.1,num q.2]) [x0,x1,.val (num (QR.dot (pre.map (·.1)) (pre.map (·.2)))),y3,y4]=.ok [x0,x1,.val (num (QR.dot (pre.map (·.1)) (pre.map (·.2)))),.val (num q.1),.val (num q.2)]:=by
   show (gN 3 (num q.1) _).bind _=_
   rw [zgx (x:=y3) rfl g3,zac]
   show (gN 4 (num q.2) [x0,x1,.val (num (QR.dot (pre.map (·.1)) (pre.map (·.2)))),.val (num q.1),y4]).bind _=_
   rw [zgx (x:=y4) rfl g4]
   rfl
  rw [e0,zac]
  simp only [zaC,zaf,zaa,eV,zz1,zz0,zai,zac,t1,p1,gN,List.set_cons_succ,List.set_cons_zero]
  rw [zsn])
 exact ⟨y3,y4,by simpa using e⟩
theorem zmC:∀ {xs ys:List Rat},xs.length=ys.length->(xs.zip ys).map (·.1)=xs/\(xs.zip ys).map (·.2)=ys
 | [],[],_=>⟨rfl,rfl⟩
 | [],_ :: _,h=>by simp at h
 | _ :: _,[],h=>by simp at h
 | x :: xs,y :: ys,h=>by
  obtain ⟨h1,h2⟩:=zmC (xs:=xs) (ys:=ys) (by simpa using h)
  simp only [List.zip_cons_cons,List.map_cons,h1,h2,and_self]
theorem zoS {b c n:Nat} {xs ys:List Rat} (lx:xs.length=n) (ly:ys.length=n) (hx:∀ r ∈ xs,QR.Bd b r) (hy:∀ r ∈ ys,QR.Bd c r) (hb:(n + 1) * (b + c + 1) + 1<=40000000):zms [zal xs,zal ys]=.ok (num (ip n (fq xs) (fq ys))):=by
 obtain ⟨y3,y4,e⟩:=zlr (G:=zmr) (Gt:=znt) (Gp:=zmr) (x0:=.val (zal xs)) (x1:=.val (zal ys)) zrU zuG hx hy (by rw [lx];exact hb)
 obtain ⟨z1,z2⟩:=zmC (lx.trans ly.symm)
 rw [z1,z2,zra xs ys n lx ly] at e
 refine zbb (ρ:=[.val (zal xs),.val (zal ys),.val (num (ip n (fq xs) (fq ys))),y3,y4]) rfl ?_
 show zgt [.val (zal xs),.val (zal ys),.no,.no,.no]=_
 unfold zgt
 rw [zah (show zaC (gN 2) (eC (.tuple [(.int 0),(.int 1)])) [.val (zal xs),.val (zal ys),.no,.no,.no]=.ok (.nx,[.val (zal xs),.val (zal ys),.val (num 0),.no,.no]) from rfl)]
 have s2:zd2 [.val (zal xs),.val (zal ys),.val (num 0),.no,.no]=.ok (.nx,[.val (zal xs),.val (zal ys),.val (num (ip n (fq xs) (fq ys))),y3,y4]):=by
  unfold zd2 zeQ
  rw [show zpe (zaa (eV 0) (zaa (eV 1) zai)) [.val (zal xs),.val (zal ys),.val (num 0),.no,.no]=.ok (zjv (xs.map num) (ys.map num),[.val (zal xs),.val (zal ys),.val (num 0),.no,.no]) from rfl,zac,zxQ]
  exact e
 rw [zah s2]
 rfl
theorem zh2 {b c n:Nat} {xs ys:List Rat} (lx:xs.length=n) (ly:ys.length=n) (hx:∀ r ∈ xs,QR.Bd b r) (hy:∀ r ∈ ys,QR.Bd c r) (hb:(n + 1) * (b + c + 1) + 1<=40000000):zf9 [zal xs,zal ys]=.ok (num (ip n (fq xs) (fq ys))):=by
 obtain ⟨y3,y4,e⟩:=zlr (G:=zmr) (Gt:=zhy) (Gp:=zeD) (x0:=.val (zal xs)) (x1:=.val (zal ys)) ztG zn5 hx hy (by rw [lx];exact hb)
 obtain ⟨z1,z2⟩:=zmC (lx.trans ly.symm)
 rw [z1,z2,zra xs ys n lx ly] at e
 refine zbb (ρ:=[.val (zal xs),.val (zal ys),.val (num (ip n (fq xs) (fq ys))),y3,y4]) rfl ?_
 show zcX [.val (zal xs),.val (zal ys),.no,.no,.no]=_
 unfold zcX
 rw [zah (show zaC (gN 2) (zcv (zaa (eC (.int 0)) (zaa (eC (.int 1)) zai))) [.val (zal xs),.val (zal ys),.no,.no,.no]=.ok (.nx,[.val (zal xs),.val (zal ys),.val (num 0),.no,.no]) from rfl)]
 have s2:zce [.val (zal xs),.val (zal ys),.val (num 0),.no,.no]=.ok (.nx,[.val (zal xs),.val (zal ys),.val (num (ip n (fq xs) (fq ys))),y3,y4]):=by
  unfold zce zeQ
  rw [show zpe (zaa (eV 0) (zaa (eV 1) zai)) [.val (zal xs),.val (zal ys),.val (num 0),.no,.no]=.ok (zjv (xs.map num) (ys.map num),[.val (zal xs),.val (zal ys),.val (num 0),.no,.no]) from rfl,zac,zxQ]
  exact e
 rw [zah s2]
 rfl
end FL
namespace FL
open PySem MD
theorem all_true {α:Type} (xs:List α):zvD (.list (xs.map fun _=>PyData.bool true))=.ok (.bool true):=by
 have:=ztc (xs.map fun _=>true)
 rw [List.map_map] at this
 rw [show xs.map (fun _=>PyData.bool true)=xs.map (PyData.bool ∘ fun _=>true) from rfl,this]
 simp
theorem zqN (xs:List Rat) (hl:xs.length<=1000):zoE [zal xs]=.ok (.bool true):=by
 have q:zfa [.val (zal xs)]=.ok (.list (xs.map fun _=>PyData.bool true),[.val (zal xs)]):=by
  unfold zfa
  exact zaE (f0:=num) (xs:=xs) (fun _=>PyData.bool true) rfl (by show _<=1000000;omega) fun r mr=>⟨[.val (num r)],rfl,by simp only [zaf,zaa,eV,zz0,zai,zac,zu8],zaH trivial⟩
 refine zbb (ρ:=[.val (zal xs)]) rfl ?_
 show zig [.val (zal xs)]=_
 unfold zig
 have k1:zbe "list" (zal xs)=.ok (.bool true):=rfl
 simp only [zav,zmy,FL.e1,eV,zz0,zac,k1,q,all_true]
theorem zlO {xs:List Rat} {n:Nat} (hl:xs.length=n) (hn:n<=1000):ziX [zal xs,.int (n:Int)]=.ok (.bool true):=by
 refine zbb (ρ:=[.val (zal xs),.val (.int (n:Int))]) rfl ?_
 show zee [.val (zal xs),.val (.int (n:Int))]=_
 unfold zee
 have k1:zcI (zal xs)=.ok (.int (n:Int)):=by
  show R.ok (PyData.int ((xs.map num).length:Int))=_
  rw [List.length_map,hl]
 simp only [zav,zmy,zaf,zaa,zai,FL.e1,FL.e2,eV,zz1,zz0,zac,zqN xs (by omega),k1,zbp,decide_true]
def zta (M:List (List Rat)) (y:List Rat) (p:Nat):List Rat:=M.map (fun r=>fq r p) ++ [fq y p]
def asked (M:List (List Rat)) (y:List Rat) (n:Nat):List (List Rat):=(List.range n).map (zta M y)
theorem zzz (xs:List Rat):zcI (zal xs)=.ok (.int (xs.length:Int)):=by
 show R.ok (PyData.int ((xs.map num).length:Int))=_
 rw [List.length_map]
theorem zo4 (M:List (List Rat)):zcI (zad M)=.ok (.int (M.length:Int)):=by
 show R.ok (PyData.int ((M.map zal).length:Int))=_
 rw [List.length_map]
inductive Told (M:List (List Rat)) (y:List Rat) (n B T:Nat):D->Prop where
 | sum (w:List Rat) (hl:w.length=M.length) (hb:∀ x ∈ w,QR.Bd B x) (h:∀ p,p < n->fq y p=zcy ((List.range M.length).map fun k=>fq w k * fq (M.getD k []) p)):Told M y n B T (.tuple [.str "sum",zal w])
 | apart (t:List Rat) (hl:t.length=n) (hb:∀ x ∈ t,QR.Bd T x) (h:∀ r ∈ M,ip n (fq t) (fq r)=0) (h1:ip n (fq t) (fq y)=1):Told M y n B T (.tuple [.str "apart",zal t])
theorem ztg {b b' k l:Nat} (hb:b<=b') (hk:k<=l):zfU b k<=zfU b' l:=by unfold zfU;exact Nat.add_le_add_right (Nat.mul_le_mul hb (by omega)) 1
theorem zs9 {b b' k l p q:Nat} (hb:b<=b') (hk:k<=l) (hp:p<=q):zbq b k p<=zbq b' l q:=by
 unfold zbq
 exact Nat.add_le_add_right (Nat.mul_le_mul (Nat.add_le_add_right (ztg hb hk) 4) (by omega)) 1
theorem zhp (e:Nat × List Int):(zbZ e).length=e.2.length:=by unfold zbZ;simp
theorem zqy {e:Nat × List Int} {b:Nat} (h:∀ j,(fn e.2 j).natAbs < 2 ^ b) (h0:fn e.2 e.1 ≠ 0):∀ x ∈ zbZ e,QR.Bd b x:=by
 intro x hx
 obtain ⟨i,hi,rfl⟩:=List.mem_map.mp hx
 obtain ⟨j,_,rfl⟩:=zn3 hi
 exact zl8 (h j) (h _) h0
theorem zrf {n:Nat} {M:List (List Rat)} {ws:List Rw} {S:List Nat} {held:zbs} (E:zjt n M ws S held) {v:Rq} (hv:SpQ ws v):∃ c:Nat->Rat,∀ p,v p=zcy ((List.range M.length).map fun k=>c k * fq (M.getD k []) p):=by
 refine E.ind (P:=fun v=>∃ c:Nat->Rat,∀ p,v p=zcy ((List.range M.length).map fun k=>c k * fq (M.getD k []) p)) ⟨fun _=>0,fun p=>(zca fun k _=>by grind).symm⟩ ?_ ?_ hv
 ·rintro a b u v ⟨c,hc⟩ ⟨d,hd⟩
  refine ⟨fun k=>a * c k + b * d k,fun p=>?_⟩
  show a * u p + b * v p=_
  rw [hc p,hd p,<- zhk]
  exact zay fun k _=>by grind
 ·intro r hr
  obtain ⟨i,hi,e⟩:=List.mem_iff_getElem.mp hr
  refine ⟨fun k=>if i=k then 1 else 0,fun p=>?_⟩
  have:=zhO (fun k=>fq (M.getD k []) p) (fun _=>0) i 1 M.length hi
  rw [zca (f:=fun j=>(0:Rat) * fq (M.getD j []) p) fun j _=>by grind] at this
  rw [this,List.getD_eq_getElem?_getD,List.getElem?_eq_getElem hi,e]
  simp only [Option.getD_some]
  grind
end FL
namespace FL
open PySem MD
theorem zmJ {k:Nat} {d:D} (h:zcp k d) (hk:k<=50000):∃ (r:Rat) (d':D),zaX [d]=.ok (num r,[d'])/\QR.Bd 15 r/\zcp (k + 3) d':=by
 obtain ⟨w,d1,t1,w0,w5,p1⟩:=zcc h (by omega) 6 (by decide) (by decide)
 have lt3:ltD (.int w) (.int 3)=.ok (.bool (decide (w < 3))):=zgj _ _
 have lt5:ltD (.int w) (.int 5)=.ok (.bool (decide (w < 5))):=zgj _ _
 by_cases c1:w < 3
 ·have l3:leB 3 lim=true:=by decide
  have l2:leB 2 lim=true:=by decide
  have ng:zpr (.int 1)=.ok (.int (-1)):=rfl
  have c:w=0\/w=1\/w=2:=by omega
  rw [decide_eq_true c1] at lt3
  rcases c with rfl | rfl | rfl
  ·refine ⟨0,d1,?_,⟨by decide,by decide⟩,p1.mono (by omega)⟩
   simp only [zaX,FL.run,List.length_cons,List.length_nil,Nat.reduceAdd,zcu,zan,zaC,zam,zmA,za1,slots,if_true,Nat.reduceSub,List.replicate,List.cons_append,List.nil_append,zz0,eC,zac,zmf,zkY,bkL,bk1,t1,zj5,List.lookup_cons,List.lookup_nil,gN,zz1,List.set_cons_succ,List.set_cons_zero,sIf,tB,FL.e2,eV,zav,zc9,zaa,zcv,zai,zaI l2,FL.e1,ng,zaI l3,sNx,zaf,zge,lt3,outs,outD]
   rfl
  ·refine ⟨1,d1,?_,⟨by decide,by decide⟩,p1.mono (by omega)⟩
   simp only [zaX,FL.run,List.length_cons,List.length_nil,Nat.reduceAdd,zcu,zan,zaC,zam,zmA,za1,slots,if_true,Nat.reduceSub,List.replicate,List.cons_append,List.nil_append,zz0,eC,zac,zmf,zkY,bkL,bk1,t1,zj5,List.lookup_cons,List.lookup_nil,gN,zz1,List.set_cons_succ,List.set_cons_zero,sIf,tB,FL.e2,eV,zav,zc9,zaa,zcv,zai,zaI l2,FL.e1,ng,zaI l3,sNx,zaf,zge,lt3,outs,outD]
   rfl
  ·refine ⟨-1,d1,?_,⟨by decide,by decide⟩,p1.mono (by omega)⟩
   simp only [zaX,FL.run,List.length_cons,List.length_nil,Nat.reduceAdd,zcu,zan,zaC,zam,zmA,za1,slots,if_true,Nat.reduceSub,List.replicate,List.cons_append,List.nil_append,zz0,eC,zac,zmf,zkY,bkL,bk1,t1,zj5,List.lookup_cons,List.lookup_nil,gN,zz1,List.set_cons_succ,List.set_cons_zero,sIf,tB,FL.e2,eV,zav,zc9,zaa,zcv,zai,zaI l2,FL.e1,ng,zaI l3,sNx,zaf,zge,lt3,outs,outD]
   rfl
 ·rw [decide_eq_false c1] at lt3
  by_cases c2:w < 5
  ·rw [decide_eq_true c2] at lt5
   obtain ⟨v,d2,t2,v0,v1,p2⟩:=zcc p1 (by omega) 13 (by decide) (by decide)
   obtain ⟨u,d3,t3,u0,u1,p3⟩:=zcc p2 (by omega) 4 (by decide) (by decide)
   have pr:0<=u * (w - 3)/\u * (w - 3)<=3:=by
    have:w - 3=0\/w - 3=1:=by omega
    rcases this with z | z <;> rw [z] <;> omega
   have hb:(1 + u * (w - 3)).toNat ≠ 0:=by omega
   have hl:=ztD (v - 6) (b:=(1 + u * (w - 3)).toNat) (n:=15) hb (by omega) (by decide)
   rw [show (((1 + u * (w - 3)).toNat:Nat):Int)=1 + u * (w - 3) by omega] at hl
   refine ⟨Rat.normalize (v - 6) (1 + u * (w - 3)).toNat hb,d3,?_,?_,p3⟩
   ·have sb:zge (.int v) (.int 6)=.ok (.int (v - 6)):=rfl
    have sb2:zge (.int w) (.int 3)=.ok (.int (w - 3)):=rfl
    have ml:zbd (.int u) (.int (w - 3))=.ok (.int (u * (w - 3))):=zaV (n:=16) (m:=16) (zaT (by omega)) (zaT (by omega)) (by decide)
    have ad2:za8 (.int 1) (.int (u * (w - 3)))=.ok (.int (1 + u * (w - 3))):=rfl
    simp only [zaX,FL.run,List.length_cons,List.length_nil,Nat.reduceAdd,zcu,zan,zaC,zam,zmA,za1,slots,if_true,Nat.reduceSub,List.replicate,List.cons_append,List.nil_append,zz0,eC,zac,zmf,zkY,bkL,bk1,t1,zj5,List.lookup_cons,beq_self_eq_true,gN,zz1,List.set_cons_succ,List.set_cons_zero,sIf,tB,FL.e2,eV,zav,zc9,zaa,zcv,zai,FL.e1,sNx,zaf,zge,lt3,Bool.false_eq_true,if_false,lt5,t2,t3,ml,ad2,hl,outs,outD,List.head?_cons]
   ·have h1:=QR.norm (t:=v - 6) hb
    have h2:=QR.zq0 (v - 6) ((1 + u * (w - 3)).toNat:Int)
    rw [h1] at h2
    exact ⟨by have:=h2.1;omega,by have:=h2.2;omega⟩
  ·rw [decide_eq_false c2] at lt5
   obtain ⟨v,d2,t2,v0,v1,p2⟩:=zcc p1 (by omega) 20001 (by decide) (by decide)
   obtain ⟨u,d3,t3,u0,u1,p3⟩:=zcc p2 (by omega) 30 (by decide) (by decide)
   have hb:(1 + u).toNat ≠ 0:=by omega
   have hl:=ztD (v - 10000) (b:=(1 + u).toNat) (n:=15) hb (by omega) (by decide)
   rw [show (((1 + u).toNat:Nat):Int)=1 + u by omega] at hl
   refine ⟨Rat.normalize (v - 10000) (1 + u).toNat hb,d3,?_,?_,p3⟩
   ·have pw:zjF (.int 10) (.int 4)=.ok (.int 10000):=rfl
    have ml:zbd (.int 2) (.int 10000)=.ok (.int 20000):=rfl
    have ad:za8 (.int 20000) (.int 1)=.ok (.int 20001):=rfl
    have ad2:za8 (.int 1) (.int u)=.ok (.int (1 + u)):=rfl
    have sb:zge (.int v) (.int 10000)=.ok (.int (v - 10000)):=rfl
    simp only [zaX,FL.run,List.length_cons,List.length_nil,Nat.reduceAdd,zcu,zan,zaC,zam,zmA,za1,slots,if_true,Nat.reduceSub,List.replicate,List.cons_append,List.nil_append,zz0,eC,zac,zmf,zkY,bkL,bk1,t1,zj5,List.lookup_cons,beq_self_eq_true,gN,zz1,List.set_cons_succ,List.set_cons_zero,sIf,tB,FL.e2,eV,zav,zc9,zaa,zcv,zai,FL.e1,sNx,zaf,zge,pw,ml,ad,lt3,Bool.false_eq_true,if_false,lt5,t2,t3,ad2,hl,outs,outD,List.head?_cons]
   ·have h1:=QR.norm (t:=v - 10000) hb
    have h2:=QR.zq0 (v - 10000) ((1 + u).toNat:Int)
    rw [h1] at h2
    exact ⟨by have:=h2.1;omega,by have:=h2.2;omega⟩
theorem zrm {d d':D} {p p':Bool}:∀ (ρ:En) (n i:Nat),ρ[i]?=some (.ow p d)->bkL [(n + i,.ow p' d')] n ρ=ρ.set i (.ow p d')
 | [],n,i,h=>by simp at h
 | x :: r,n,0,h=>by
  simp only [zz0,Option.some.injEq] at h
  subst h
  unfold bkL
  rw [List.set_cons_zero]
  congr 1
  ·simp [bk1,List.lookup_cons]
  ·refine zng r (n + 1) (by omega)
 | x :: r,n,i + 1,h=>by
  unfold bkL
  rw [List.set_cons_succ,show n + (i + 1)=(n + 1) + i by omega,zrm r (n + 1) i (by simpa using h)]
  congr 1
  refine zeY ?_
  rw [List.lookup_cons]
  have:(n == n + 1 + i)=false:=by simp;omega
  rw [this]
  rfl
theorem zsS {ρ:En} {ip:Nat} {p:Bool} {d:D} {k:Nat} {it:IF} {items:List D} (hi:ρ[ip]?=some (.ow p d)) (hp:zcp k d) (hit:it ρ=.ok (items,ρ)) (hl:items.length<=100) (hk:k + 3 * items.length<=40000) :
  ∃ (xs:List Rat) (d':D),zaz 1 [ip] it (gN 0) zaK (zam zaX [.m 1]) ρ=.ok (zal xs,ρ.set ip (.ow p d'))/\xs.length=items.length/\(∀ r ∈ xs,QR.Bd 15 r)/\zcp (k + 3 * items.length) d':=by
 obtain ⟨acc,ρ',ec,el,xs,d',rfl,hx,hp',rfl⟩:=ziw (k:=1) (ix:=[ip]) (g:=gN 0) (t:=zaK) (f:=zam zaX [.m 1])
  (fun i acc ρ'=>∃ (xs:List Rat) (d':D),acc=xs.map num/\(∀ r ∈ xs,QR.Bd 15 r)/\zcp (k + 3 * i) d'/\ρ'=ρ.set ip (.ow p d')) items 0 [] ρ (by show 0 + _<=1000000;omega) rfl ⟨[],d,rfl,by simp,hp,(set_same hi).symm⟩ (by
   rintro x hx i acc ρ' hi' ⟨xs,d1,rfl,hxs,hp1,rfl⟩
   obtain ⟨r,d2,en,rb,hp2⟩:=zmJ hp1 (by omega)
   have g1:(ρ.set ip (.ow p d1))[ip]?=some (.ow p d1):=by
    rw [List.getElem?_set_self]
    exact (List.getElem?_eq_some_iff.mp hi).1
   have eb:blk 1 [ip] (ρ.set ip (.ow p d1))=[.no,.ow p d1]:=by
    unfold blk
    rw [List.map_cons,List.map_nil,g1]
    rfl
   refine ⟨[.val x,.ow p d1],num r,[.val x,.ow p d2],by rw [eb];rfl,rfl,zne (i:=1) rfl en,xs ++ [r],d2,by simp,fun z hz=>?_,by rw [show k + 3 * (i + 1)=k + 3 * i + 3 by omega];exact hp2,?_⟩
   ·rcases List.mem_append.mp hz with hz | hz
    ·exact hxs z hz
    ·rw [List.mem_singleton.mp hz];exact rb
   ·show bkL [(ip,.ow p d2)] 0 (ρ.set ip (.ow p d1))=_
    have:=zrm (d':=d2) (p':=p) (ρ.set ip (.ow p d1)) 0 ip g1
    rw [Nat.zero_add] at this
    rw [this,List.set_set])
 refine ⟨xs,d',?_,by simpa using el,hx,by simpa using hp'⟩
 unfold zaz
 rw [hit,zac,ec]
 rfl
theorem zov {n:Nat} (hn:n<=1000):zfn [.int (n:Int)]=.ok (zal (List.replicate n 0)):=by
 refine zcQ (ρ:=[.val (.int (n:Int))]) rfl ?_
 show zea [.val (.int (n:Int))]=_
 unfold zea zba zeW
 have it:iR1 (zaa (eV 0) zai) [.val (.int (n:Int))]=.ok ((List.range n).map (fun i:Nat=>PyData.int (i:Int)),[.val (.int (n:Int))]):=by
  simp only [iR1,zaa,zai,eV,zz0,zac]
  rw [zct (by omega) (by omega),zac,zdN,List.map_map]
  simp
 have l2:leB 2 lim=true:=by decide
 rw [zaE (f0:=fun i:Nat=>.int (i:Int)) (xs:=List.range n) (fun _=>num 0) it (by rw [List.length_range];show n<=1000000;omega) fun p mp=>?_]
 ·rw [zac]
  unfold zal
  rw [<- zpT]
  simp [List.map_const']
 ·exact ⟨[.val (.int (p:Int))],rfl,rfl,zaH trivial⟩
theorem zhQ {c:Rat} {xs:List Rat} {b:Nat} (hc:QR.Bd b c) (hx:∀ x ∈ xs,QR.Bd b x) (hb:b<=40000000) (hl:xs.length<=1000):za4 [num c,zal xs]=.ok (zal (xs.map fun x=>c * x)):=by
 refine zcQ (ρ:=[.val (num c),.val (zal xs)]) rfl ?_
 show zdi [.val (num c),.val (zal xs)]=_
 unfold zdi zba zd7
 rw [zaE (f0:=num) (xs:=xs) (fun x=>num (c * x)) rfl (by show _<=1000000;omega) fun x mx=>?_]
 ·unfold zal;rw [List.map_map];rfl
 ·refine ⟨[.val (num x),.val (num c)],rfl,?_,zaH trivial⟩
  simp only [zaf,zaa,eV,zz1,zz0,zai,zac,ztG hc (hx x mx) hb]
theorem ztd {xs ys:List Rat} {b:Nat} (hx:∀ x ∈ xs,QR.Bd b x) (hy:∀ y ∈ ys,QR.Bd b y) (hb:b<=40000000) (hl:xs.length<=1000):ziW [zal xs,zal ys]=.ok (zal (List.zipWith (· + ·) xs ys)):=by
 refine zcQ (ρ:=[.val (zal xs),.val (zal ys)]) rfl ?_
 show zeb [.val (zal xs),.val (zal ys)]=_
 unfold zeb zba zeX
 rw [zaE (f0:=fun q:Rat × Rat=>.tuple [num q.1,num q.2]) (xs:=xs.zip ys) (fun q=>num (q.1 + q.2)) (by
  rw [<- zxQ];rfl) (by rw [List.length_zip];show _<=1000000;omega) fun q mq=>?_]
 ·have:∀ (xs ys:List Rat),(xs.zip ys).map (fun q=>num (q.1 + q.2))=(List.zipWith (· + ·) xs ys).map num:=by
   intro xs
   induction xs with
   | nil=>intro ys;cases ys <;> rfl
   | cons x xs ih=>intro ys;cases ys with
    | nil=>rfl
    | cons y ys=>simp only [List.zip_cons_cons,List.map_cons,List.zipWith_cons_cons,ih]
  rw [this];rfl
 ·obtain ⟨x,y⟩:=q
  obtain ⟨m1,m2⟩:=List.of_mem_zip mq
  refine ⟨[.val (num x),.val (num y)],rfl,?_,zaH trivial⟩
  simp only [zaf,zaa,eV,zz0,zai,zac,zz1,zn5 (hx x m1) (hy y m2) hb]
theorem zfS (c:Rat) (xs:List Rat) (j:Nat):fq (xs.map fun x=>c * x) j=c * fq xs j:=by
 unfold fq
 rw [List.getD_eq_getElem?_getD,List.getD_eq_getElem?_getD,List.getElem?_map]
 cases xs[j]? with
 | none=>simp only [Option.map_none,Option.getD_none];grind
 | some x=>rfl
theorem zsM {xs ys:List Rat} (h:xs.length=ys.length) (j:Nat):fq (List.zipWith (· + ·) xs ys) j=fq xs j + fq ys j:=by
 unfold fq
 rw [List.getD_eq_getElem?_getD,List.getD_eq_getElem?_getD,List.getD_eq_getElem?_getD,List.getElem?_zipWith]
 by_cases l:j < xs.length
 ·rw [List.getElem?_eq_getElem l,List.getElem?_eq_getElem (h ▸ l)];rfl
 ·rw [List.getElem?_eq_none (by omega),List.getElem?_eq_none (by omega)]
  simp only [Option.getD_none]
  grind
theorem zxl (n j:Nat):fq (List.replicate n 0) j=0:=by
 unfold fq
 rw [List.getD_eq_getElem?_getD,List.getElem?_replicate]
 split <;> rfl
theorem zxm {xs ys:List Rat} {n:Nat} (hx:xs.length=n) (hy:ys.length=n) (h:∀ j,j < n->fq xs j=fq ys j):xs=ys:=by
 apply List.ext_getElem?
 intro j
 by_cases l:j < n
 ·have:=h j l
  unfold fq at this
  rw [List.getD_eq_getElem?_getD,List.getD_eq_getElem?_getD,List.getElem?_eq_getElem (by omega),List.getElem?_eq_getElem (by omega)] at this
  rw [List.getElem?_eq_getElem (by omega),List.getElem?_eq_getElem (by omega)]
  exact congrArg some this
 ·rw [List.getElem?_eq_none (by omega),List.getElem?_eq_none (by omega)]
theorem zfV {c:Rat} {xs:List Rat} {b b':Nat} (hc:QR.Bd b c) (hx:∀ x ∈ xs,QR.Bd b' x):∀ x ∈ xs.map (fun x=>c * x),QR.Bd (b + b') x:=by
 intro x h
 obtain ⟨z,hz,rfl⟩:=List.mem_map.mp h
 exact hc.mul (hx z hz)
theorem zn2 {f:Rat->Rat->Rat}:∀ {xs ys:List Rat} {z:Rat},z ∈ List.zipWith f xs ys->∃ x ∈ xs,∃ y ∈ ys,z=f x y
 | [],ys,z,h=>by cases ys <;> simp at h
 | x :: xs,[],z,h=>by simp at h
 | x :: xs,y :: ys,z,h=>by
  rw [List.zipWith_cons_cons] at h
  rcases List.mem_cons.mp h with rfl | h
  ·exact ⟨x,by simp,y,by simp,rfl⟩
  ·obtain ⟨a,ha,b,hb,e⟩:=zn2 h
   exact ⟨a,.tail _ ha,b,.tail _ hb,e⟩
theorem zs7 {xs ys:List Rat} {b b':Nat} (hx:∀ x ∈ xs,QR.Bd b x) (hy:∀ x ∈ ys,QR.Bd b' x):∀ x ∈ List.zipWith (· + ·) xs ys,QR.Bd (b + b' + 1) x:=by
 intro z h
 obtain ⟨x,h1,y,h2,rfl⟩:=zn2 h
 exact (hx x h1).add (hy y h2)
theorem zoZ {r:Rat} {b:Nat} (h:QR.Bd b r) (hb:b<=40000000):zeo [num r]=.ok (.bool true):=by
 have k1:zbe "tuple" (num r)=.ok (.bool true):=rfl
 have wh:∀ i:Int,zbw [.int i]=.ok (.bool true):=fun _=>rfl
 have l2:zcI (num r)=.ok (.int 2):=rfl
 have k3:geD (.int (r.den:Int)) (.int 1)=.ok (.bool true):=by
  rw [zvi];congr 2
  have:=r.den_nz
  exact decide_eq_true (by omega)
 have k4:zbv [.int r.num,.int (r.den:Int)]=.ok (num r):=by
  rw [zky r.num r.den_nz h.2 (by omega),Q1.zwY (QR.low r)]
  rfl
 have k5:eqD (num r) (num r)=.ok (.bool true):=by
  have:=zty r r
  unfold neD at this
  unfold eqD
  cases c:(SeqAt.shaped (num r) && SeqAt.shaped (num r)) with
  | false=>rw [c] at this;cases this
  | true =>
   rw [c] at this
   have e:(!PyData.eqv (num r) (num r))=!decide (r=r):=by
    have t2:R.ok (PyData.bool (!PyData.eqv (num r) (num r)))=R.ok (PyData.bool (!decide (r=r))):=this
    injection t2 with t3
    injection t3
   rw [zaI rfl]
   simp at e
   rw [e]
 have k6:neD (.int 2) (.int 2)=.ok (.bool false):=by rw [zb3];rfl
 refine zbb (ρ:=[.val (num r)]) rfl ?_
 show zch [.val (num r)]=_
 unfold zch
 have i0:ixD (num r) (.int 0)=.ok (.int r.num):=rfl
 have i1:ixD (num r) (.int 1)=.ok (.int (r.den:Int)):=rfl
 have s1:sIf (FL.tOr (FL.zbX (tE (FL.e1 (zbe "tuple") (eV 0)))) (tB (FL.e2 neD (FL.e1 zcI (eV 0)) (eC (.int 2))))) (zav (eC (.bool false))) sNx [.val (num r)]=.ok (.nx,[.val (num r)]):=by
  simp only [sIf,FL.tOr,FL.zbX,tE,tB,FL.e1,FL.e2,eV,eC,sNx,zac,zz0,k1,l2,k6,zlf,Bool.not_true,Bool.false_eq_true,if_false,if_true]
 have s2:sIf (FL.tOr (FL.zbX (tE (zaf zbw (zaa (FL.e2 ixD (eV 0) (eC (.int 0))) zai)))) (FL.zbX (tE (zaf zbw (zaa (FL.e2 ixD (eV 0) (eC (.int 1))) zai))))) (zav (eC (.bool false))) sNx [.val (num r)]=.ok (.nx,[.val (num r)]):=by
  simp only [sIf,FL.tOr,FL.zbX,tE,zaf,zaa,zai,FL.e2,eV,eC,sNx,zac,zz0,i0,i1,wh,zlf,Bool.not_true,Bool.false_eq_true,if_false,if_true]
 rw [zah s1,zah s2]
 simp only [zav,zmy,FL.e2,zaf,zaa,zai,eV,eC,zac,zz0,i0,i1,k3,k4,k5]
theorem eq_nil:eqD (.list []) (.list [])=.ok (.bool true):=rfl
theorem zqr {xs:List Rat} {n b:Nat} (hl:xs.length=n) (hx:∀ x ∈ xs,QR.Bd b x) (hb:b<=40000000) (hn:n<=1000):zg9 [zal xs,.int (n:Int)]=.ok (.bool true):=by
 have k1:zbe "list" (zal xs)=.ok (.bool true):=rfl
 have k2:neD (.int (n:Int)) (.int (n:Int))=.ok (.bool false):=by rw [zb3];simp
 have q:zcD [.val (zal xs),.val (.int (n:Int))]=.ok (.list [],[.val (zal xs),.val (.int (n:Int))]):=by
  unfold zcD
  rw [zda (f0:=num) (xs:=xs) (fun _=>false) num rfl (by show _<=1000000;omega) fun x mx=>?_]
  ·simp
  ·refine ⟨[.val (num x)],rfl,?_,(fun c=>by cases c),zaH trivial⟩
   simp only [FL.zbX,tE,zaf,zaa,zai,eV,zz0,zac,zoZ (hx x mx) hb,zlf,Bool.not_true]
 refine zbb (ρ:=[.val (zal xs),.val (.int (n:Int))]) rfl ?_
 show zdj [.val (zal xs),.val (.int (n:Int))]=_
 unfold zdj
 have s1:sIf (FL.tOr (FL.zbX (tE (FL.e1 (zbe "list") (eV 0)))) (tB (FL.e2 neD (FL.e1 zcI (eV 0)) (eV 1)))) (zav (eC (.bool false))) sNx [.val (zal xs),.val (.int (n:Int))]=.ok (.nx,[.val (zal xs),.val (.int (n:Int))]):=by
  simp only [sIf,FL.tOr,FL.zbX,tE,tB,FL.e1,FL.e2,eV,eC,sNx,zac,zz0,zz1,k1,zzz,hl,k2,zlf,Bool.not_true,Bool.false_eq_true,if_false,if_true]
 rw [zah s1]
 have l0:leB 0 lim=true:=by decide
 simp only [zav,FL.e2,q,zc9,zai,zac,List.length_nil,zaI l0,eq_nil]
end FL
namespace FL
open PySem MD
structure Drw (n:Nat) (M:List (List Rat)):Prop where
 row:∀ r ∈ M,r.length=n/\∀ x ∈ r,QR.Bd (15 + 31 * M.length) x
 hd:∀ r,M.head?=some r->∀ x ∈ r,QR.Bd 15 x
theorem ztq {n:Nat} (hn:n<=1000) {i:Nat} {ρ:En} (h:ρ[i]?=some (.val (.int (n:Int)))):iR1 (zaa (eV i) zai) ρ=.ok (rng 0 (n:Int),ρ)/\(rng 0 (n:Int)).length=n:=by
 refine ⟨?_,by rw [zdN];simp⟩
 simp only [iR1,zaa,zai,eV,h,zac]
 rw [zct (by omega) (by omega)]
 rfl
theorem zu5 (a:D) (l:List D):ixD (.list (a :: l)) (.int 0)=.ok a:=by
 show R.of (atI (a :: l) 0)=_
 unfold atI ixN
 rw [if_pos (by decide),if_pos (by rw [List.length_cons];omega)]
 rfl
end FL
namespace FL
open PySem MD
theorem zp9 (r:Rat):Pl 1 (num r):=znO fun d h=>by
 simp only [List.mem_cons,List.not_mem_nil,or_false] at h
 rcases h with rfl | rfl <;> exact zjG _
theorem zkr (xs:List Rat):Pl 2 (zal xs):=zqa fun d h=>by
 obtain ⟨r,_,rfl⟩:=List.mem_map.mp h
 exact zp9 r
theorem zhn (M:List (List Rat)):Pl 3 (zad M):=zqa fun d h=>by
 obtain ⟨r,_,rfl⟩:=List.mem_map.mp h
 exact zkr r
theorem znY {n:Nat} {a:D} (h:Pl n a) (hn:n<=64:=by decide):neD a a=.ok (.bool false):=by
 rw [znZ h h hn hn,SeqAt.eqv_refl a h.1];rfl
theorem zwL (r:Rat):ixD (num r) (.int 0)=.ok (.int r.num):=rfl
end FL
namespace FL
open PySem
def zfP:EF:=(zaz 1 [0] (iR1 (zaa (eV 1) zai)) (gN 0) zaK (eIf (tB (e2 eqD (eV 0) (eV 1))) (eC (.tuple [(.int 1),(.int 1)])) (eC (.tuple [(.int 0),(.int 1)]))))
def zfb:SF:=(zba zfP)
def zj8:List D->R D:=za0 true 2 2 zfb
def zc8:EF:=(zaz 1 [0] (iE (eV 1)) (gN 0) zaK (e2 ixD (eV 0) (eV 1)))
def zb4:EF:=(zaz 1 [1] (iR1 (zaa (e1 zcI (eV 1)) zai)) (gN 0) zaK zc8)
def zc7:EF:=(zaz 1 [0] (iE (eV 1)) (gN 0) zaK (zaf zms (zaa (eV 1) (zaa (eV 0) zai))))
def zbi:EF:=(zaz 1 [2] (iE (eV 0)) (gN 0) zaK zc7)
def zcE:SF:=(zan (zaC (gN 2) zb4)
  (zba zbi))
def ze4:List D->R D:=za0 true 2 3 zcE
def zbS:EF:=(zaz 1 [1] (iR1 (zaa (eV 1) zai)) (gN 0) zaK (zaf zgF (zaa (eV 1) (zaa (eV 0) zai))))
def zd6:EF:=(zaz 1 [1] (iR1 (zaa (eV 2) zai)) (gN 0) zaK (zam zaX [.m 1]))
def zbR:EF:=(zaz 1 [0,1] (iR1 (zaa (eV 1) zai)) (gN 0) zaK zd6)
def zbQ:SF:=(zan (zaC (gN 7) (zam zbu [.m 0,.v (eV 1)]))
  (zan (zaC (gN 8) (e2 zgO (e2 za8 (e2 za8 (eV 7) (eC (.int 1))) (zam zbu [.m 0,.v (e2 zge (eV 1) (eC (.int 1)))])) (eV 1)))
  (setM 3 (zaf ziW (zaa (m2 ixD 3 (eV 7)) (zaa (zaf za4 (zaa (zam zaX [.m 0]) (zaa (m2 ixD 3 (eV 8)) zai))) zai))) (eV 7))))
def zaW:SF:=(zeQ (iR1 (zaa (eC (.int 6)) zai)) (gN 6) zbQ)
def za5:SF:=(zan (zeJ 3 zbS)
  (zan (sIf (tB (e2 neD (eV 2) (eC (.int 2)))) (zeJ 3 zbR) sNx)
  (zan (sIf (tB (e2 eqD (eV 2) (eC (.int 1)))) (zan (zaC (gN 4) (zam zbu [.m 0,.v (eV 1)]))
  (zan (zaC (gN 5) (zaf za4 (zaa (zam zaX [.m 0]) (zaa (m2 ixD 3 (e2 zgO (e2 za8 (eV 4) (eC (.int 1))) (eV 1))) zai))))
  (zan (sIf (tB (e2 ltD (eV 1) (eC (.int 3)))) (zaC (gN 5) (zaf za4 (zaa (zcv (zaa (zam zbu [.m 0,.v (eC (.int 2))]) (zaa (eC (.int 1)) zai))) (zaa (eV 5) zai)))) sNx)
  (setM 3 (e2 ixD (zc9 (zaa (eV 5) (zaa (zaf zfn (zaa (eV 1) zai)) zai))) (e1 intD (e2 eqD (eV 1) (eC (.int 1))))) (eV 4))))) sNx)
  (zan (sIf (FL.zmH (tB (e2 eqD (eV 2) (eC (.int 2)))) (tB (e2 gtD (eV 1) (eC (.int 1))))) zaW sNx)
  (zoN 3)))))
def zen:List D->R (D × List D):=run [true,false,false] true 9 za5
def zcV:EF:=(zaz 1 [0] (iE (eV 0)) (gN 0) zaK (zaf ziX (zaa (eV 0) (zaa (e1 zcI (eV 1)) zai))))
def zed:SF:=(zan (sIf (FL.tOr (FL.zbX (tE (e1 (zbe "list") (eV 0)))) (FL.zbX (tB (zjR leD leD (eC (.int 1)) (e1 zcI (eV 0)) (eV 1))))) (zav (eC (.bool false))) sNx)
  (zav (e1 zvD zcV)))
def zdr:List D->R D:=za0 false 2 2 zed
def zgp:SF:=(sIf (FL.zbX (tE (zaf zdr (zaa (eV 3) (zaa (eC (.int 6)) zai))))) zoO sNx)
def zgo:SF:=(zeQ (zvc (zaa (zc9 (zaa (eV 0) (zaa (eV 1) zai))) zai)) (gT [(gN 2),(gN 3)]) zgp)
def zkN:SF:=(zan zgo
  (zan (sIf (tB (e2 neD (e1 zcI (eV 0)) (e1 zcI (eV 1)))) zoO sNx)
  (zba (zaf ze4 (zaa (eV 0) (zaa (eV 1) zai))))))
def zrF:List D->R D:=za0 true 2 4 zkN
def zbD:EF:=(zaz 1 [1] (iR1 (zaa (eV 1) zai)) (gN 0) zaK (zaf zj8 (zaa (eV 0) (zaa (eV 1) zai))))
def zbC:EF:=(zaz 2 [] (zpe (zaa (eV 0) (zaa (eV 2) zai))) (gT [(gN 0),(gN 1)]) zaK (e2 za8 (eV 0) (eV 1)))
def zbB:EF:=(zaz 1 [1] (iE (eV 3)) (gN 0) zaK (eSl (eV 0) zi9 (zi8 (eV 1))))
def zbA:EF:=(zaz 1 [1] (iE (eV 3)) (gN 0) zaK (eSl (eV 0) (zi8 (eV 1)) zi9))
def zbt:SF:=(zan (sIf (FL.zbX (tE (zaf zdr (zaa (eV 0) (zaa (eC (.int 6)) zai))))) zoO sNx)
  (zan (zaC (gN 1) (e1 zcI (eV 0)))
  (zan (zeI 2 (zeJ 2 zbD))
  (zan (zaC (gN 3) (zaf zdq (zaa zbC zai)))
  (zan (sIf (tB (e2 eqD zbB (eV 2))) (zav (zcv (zaa (eC (.str "back")) (zaa zbA zai)))) sNx)
  (zav (zcv (zaa (eC (.str "blind")) (zaa (e2 ixD (zaf zf8 (zaa (eV 0) (zaa (eV 1) zai))) (eC (.int 0))) zai)))))))))
def zga:List D->R D:=za0 false 1 4 zbt
end FL
namespace FL
open PySem MD
def zeH (n p:Nat):List Rat:=(List.range n).map fun j=>if j=p then 1 else 0
def zat (n:Nat):List (List Rat):=(List.range n).map (zeH n)
theorem zfw (n p:Nat):(zeH n p).length=n:=by unfold zeH;simp
theorem zgy {n p j:Nat} (h:j < n):fq (zeH n p) j=if j=p then 1 else 0:=by
 unfold fq zeH
 rw [List.getD_eq_getElem?_getD,List.getElem?_map,List.getElem?_range h]
 rfl
theorem zzI (c:Prop) [Decidable c]:QR.Bd 1 (if c then (1:Rat) else 0):=by split <;> exact ⟨by decide,by decide⟩
theorem zkb (n p:Nat):∀ x ∈ zeH n p,QR.Bd 1 x:=fun x hx=>by
 obtain ⟨j,_,rfl⟩:=List.mem_map.mp hx
 exact zzI _
theorem eqN (a b:Nat):eqD (.int (a:Int)) (.int (b:Int))=.ok (.bool (decide (a=b))):=by
 rw [zbp]
 congr 2
 rw [decide_eq_decide]
 omega
theorem zh7 {n:Nat} (hn:n<=1000) {i:Nat} {ρ:En} (h:ρ[i]?=some (.val (.int (n:Int)))):iR1 (zaa (eV i) zai) ρ=.ok ((List.range n).map (fun i:Nat=>PyData.int (i:Int)),ρ):=by
 simp only [iR1,zaa,zai,eV,h,zac]
 rw [zct (by omega) (by omega),zac,zdN,List.map_map]
 simp
theorem zmE {n p:Nat} (hn:n<=1000):zj8 [.int (p:Int),.int (n:Int)]=.ok (zal (zeH n p)):=by
 refine zcQ (ρ:=[.val (.int (p:Int)),.val (.int (n:Int))]) rfl ?_
 show zfb [.val (.int (p:Int)),.val (.int (n:Int))]=_
 unfold zfb zba zfP
 rw [zaE (f0:=fun i:Nat=>.int (i:Int)) (xs:=List.range n) (fun j=>num (if j=p then 1 else 0)) (zh7 hn rfl) (by rw [List.length_range];show n<=1000000;omega) fun j mj=>?_]
 ·unfold zal zeH;rw [List.map_map];rfl
 ·refine ⟨[.val (.int (j:Int)),.val (.int (p:Int))],rfl,?_,zaH trivial⟩
  have e:=eqN j p
  by_cases c:j=p
  ·rw [decide_eq_true c] at e
   simp only [eIf,tB,FL.e2,eV,zz0,zac,zz1,e,eC,if_true,if_pos c]
   rfl
  ·rw [decide_eq_false c] at e
   simp only [eIf,tB,FL.e2,eV,zz0,zac,zz1,e,eC,Bool.false_eq_true,if_false,if_neg c]
   rfl
theorem zn4 {n p:Nat} (hn:n<=1000):zgF [.int (n:Int),.int (p:Int)]=.ok (zal (zeH n p)):=by
 refine zcQ (ρ:=[.val (.int (n:Int)),.val (.int (p:Int))]) rfl ?_
 show zfc [.val (.int (n:Int)),.val (.int (p:Int))]=_
 unfold zfc zba zfQ
 have l2:leB 2 lim=true:=by decide
 rw [zaE (f0:=fun i:Nat=>.int (i:Int)) (xs:=List.range n) (fun j=>num (if j=p then 1 else 0)) (zh7 hn rfl) (by rw [List.length_range];show n<=1000000;omega) fun j mj=>?_]
 ·unfold zal zeH;rw [List.map_map];rfl
 ·refine ⟨[.val (.int (j:Int)),.val (.int (p:Int))],rfl,?_,zaH trivial⟩
  have e:=eqN j p
  have it:intD (.bool true)=.ok (.int 1):=rfl
  have if':intD (.bool false)=.ok (.int 0):=rfl
  by_cases c:j=p
  ·rw [decide_eq_true c] at e
   simp only [zcv,zaa,FL.e1,FL.e2,eV,zz0,zac,zz1,e,it,eC,zai,List.length_cons,List.length_nil,Nat.reduceAdd,zaI l2,if_pos c]
   rfl
  ·rw [decide_eq_false c] at e
   simp only [zcv,zaa,FL.e1,FL.e2,eV,zz0,zac,zz1,e,if',eC,zai,List.length_cons,List.length_nil,Nat.reduceAdd,zaI l2,if_neg c]
   rfl
structure Sq (n b:Nat) (A:List (List Rat)):Prop where
 len:A.length=n
 row:∀ r ∈ A,r.length=n/\∀ x ∈ r,QR.Bd b x
theorem zgQ {n b:Nat} {A:List (List Rat)} (h:Sq n b A) (h1:1<=n) (h6:n<=6):zdr [zad A,.int 6]=.ok (.bool true):=by
 have q:zcV [.val (zad A),.val (.int 6)]=.ok (.list (A.map fun _=>PyData.bool true),[.val (zad A),.val (.int 6)]):=by
  unfold zcV
  refine zaE (f0:=zal) (xs:=A) (fun _=>PyData.bool true) rfl (by rw [h.len];show n<=1000000;omega) fun r mr=>?_
  refine ⟨[.val (zal r),.val (zad A)],rfl,?_,zaH trivial⟩
  have:=zlO (h.row r mr).1 (by omega)
  simp only [zaf,zaa,eV,zz0,FL.e1,zai,zac,zz1,zo4,h.len,this]
 have k1:zbe "list" (zad A)=.ok (.bool true):=rfl
 have l1:leD (.int 1) (.int (n:Int))=.ok (.bool true):=by rw [zqu,decide_eq_true (by omega)]
 have l6:leD (.int (n:Int)) (.int 6)=.ok (.bool true):=by rw [zqu,decide_eq_true (by omega)]
 refine zbb (ρ:=[.val (zad A),.val (.int 6)]) rfl ?_
 show zed [.val (zad A),.val (.int 6)]=_
 unfold zed
 have s1:sIf (FL.tOr (FL.zbX (tE (FL.e1 (zbe "list") (eV 0)))) (FL.zbX (tB (zjR leD leD (eC (.int 1)) (FL.e1 zcI (eV 0)) (eV 1))))) (zav (eC (.bool false))) sNx [.val (zad A),.val (.int 6)]=.ok (.nx,[.val (zad A),.val (.int 6)]):=by
  simp only [sIf,FL.tOr,FL.zbX,tE,FL.e1,eV,zz0,zac,k1,zlf,Bool.not_true,tB,zjR,eC,Bool.false_eq_true,zo4,h.len,l1,zz1,l6,if_false,sNx]
 rw [zah s1]
 simp only [zav,FL.e1,q,zac,all_true]
def zgV (B:List (List Rat)) (k:Nat):List Rat:=B.map fun r=>fq r k
def mulM (n:Nat) (A B:List (List Rat)):List (List Rat):=A.map fun r=>(List.range n).map fun k=>ip n (fq r) (fq (zgV B k))
theorem zoq (B:List (List Rat)) (k:Nat):(zgV B k).length=B.length:=by unfold zgV;simp
theorem ztQ {B:List (List Rat)} {k i:Nat} (h:i < B.length):fq (zgV B k) i=fq (B.getD i []) k:=by
 unfold zgV
 rw [fq,List.getD_eq_getElem?_getD,List.getElem?_map,List.getD_eq_getElem?_getD,List.getElem?_eq_getElem h]
 rfl
theorem zyD {b:Nat} {xs:List Rat} (h:∀ x ∈ xs,QR.Bd b x) (hb:1<=b) (k:Nat):QR.Bd b (fq xs k):=by
 rcases zoi (xs:=xs) k with z | z
 ·rw [z];exact (QR.Bd.zero 0).mono hb
 ·exact h _ z
theorem zrg {n b:Nat} {B:List (List Rat)} (h:Sq n b B) (hb:1<=b) (k:Nat):∀ x ∈ zgV B k,QR.Bd b x:=fun x hx=>by
 obtain ⟨r,hr,rfl⟩:=List.mem_map.mp hx
 exact zyD (h.row r hr).2 hb k
theorem ziL {n b c:Nat} {A B:List (List Rat)} (hA:Sq n b A) (hB:Sq n c B) (h6:n<=6) (hc:1<=c) (hb:(n + 1) * (b + c + 1) + 1<=40000000):ze4 [zad A,zad B]=.ok (zad (mulM n A B)):=by
 have q1:zb4 [.val (zad A),.val (zad B),.no]=.ok (zad ((List.range n).map (zgV B)),[.val (zad A),.val (zad B),.no]):=by
  unfold zb4
  have it:iR1 (zaa (FL.e1 zcI (eV 1)) zai) [.val (zad A),.val (zad B),.no]=.ok ((List.range n).map (fun i:Nat=>PyData.int (i:Int)),[.val (zad A),.val (zad B),.no]):=by
   simp only [iR1,zaa,FL.e1,eV,zz1,zz0,zac,zo4,hB.len,zai]
   rw [zct (by omega) (by omega),zac,zdN,List.map_map]
   simp
  rw [zaE (f0:=fun i:Nat=>.int (i:Int)) (xs:=List.range n) (fun k=>zal (zgV B k)) it (by rw [List.length_range];show n<=1000000;omega) fun k mk=>?_]
  ·unfold zad;rw [List.map_map];rfl
  ·refine ⟨[.val (.int (k:Int)),.val (zad B)],rfl,?_,zaH trivial⟩
   unfold zc8
   rw [zaE (f0:=zal) (xs:=B) (fun r=>num (fq r k)) rfl (by rw [hB.len];show n<=1000000;omega) fun r mr=>?_]
   ·unfold zal zgV;rw [List.map_map];rfl
   ·refine ⟨[.val (zal r),.val (.int (k:Int))],rfl,?_,zaH trivial⟩
    have ix:=zxa (xs:=r) (i:=k) (by rw [(hB.row r mr).1];exact List.mem_range.mp mk)
    simp only [FL.e2,eV,zac,zz0,zz1,ix]
 have q3:zbi [.val (zad A),.val (zad B),.val (zad ((List.range n).map (zgV B)))]=.ok (zad (mulM n A B),[.val (zad A),.val (zad B),.val (zad ((List.range n).map (zgV B)))]):=by
  unfold zbi
  rw [zaE (f0:=zal) (xs:=A) (fun r=>zal ((List.range n).map fun k=>ip n (fq r) (fq (zgV B k)))) rfl (by rw [hA.len];show n<=1000000;omega) fun r mr=>?_]
  ·rw [show zad (mulM n A B)=.list (A.map fun r=>zal ((List.range n).map fun k=>ip n (fq r) (fq (zgV B k)))) by unfold zad mulM;rw [List.map_map];rfl]
  ·refine ⟨[.val (zal r),.val (zad ((List.range n).map (zgV B)))],rfl,?_,zaH trivial⟩
   unfold zc7
   rw [zaE (f0:=fun k=>zal (zgV B k)) (xs:=List.range n) (fun k=>num (ip n (fq r) (fq (zgV B k)))) (by
    show R.ok (((List.range n).map (zgV B)).map zal,_)=_
    rw [List.map_map];rfl) (by rw [List.length_range];show n<=1000000;omega) fun k mk=>?_]
   ·unfold zal;rw [List.map_map];rfl
   ·refine ⟨[.val (zal (zgV B k)),.val (zal r)],rfl,?_,zaH trivial⟩
    have pr:=zoS (hA.row r mr).1 ((zoq B k).trans hB.len) (hA.row r mr).2 (zrg hB hc k) hb
    simp only [zaf,zaa,eV,zz1,zz0,zai,zac,pr]
 refine zcQ (ρ:=[.val (zad A),.val (zad B),.val (zad ((List.range n).map (zgV B)))]) rfl ?_
 show zcE [.val (zad A),.val (zad B),.no]=_
 unfold zcE
 rw [zah (zb1 (i:=2) (x:=.no) q1 rfl zbI)]
 show zba zbi [.val (zad A),.val (zad B),.val (zad ((List.range n).map (zgV B)))]=_
 unfold zba
 rw [q3]
 rfl
theorem zoA {n b c:Nat} {A B:List (List Rat)} (hA:Sq n b A) (hB:Sq n c B) (h1:1<=n) (h6:n<=6) (hc:1<=c) (hb:(n + 1) * (b + c + 1) + 1<=40000000):zrF [zad A,zad B]=.ok (zad (mulM n A B)):=by
 have l2:leB 2 lim=true:=by decide
 have u:∀ (M:List (List Rat)) (d:Nat),Sq n d M->∀ x2,zgp [.val (zad A),.val (zad B),x2,.val (zad M)]=.ok (.nx,[.val (zad A),.val (zad B),x2,.val (zad M)]):=fun M d hM x2=>by
  unfold zgp
  simp only [sIf,FL.zbX,tE,zaf,zaa,eV,zz1,zz0,eC,zai,zac,zgQ hM h1 h6,zlf,Bool.not_true,sNx,Bool.false_eq_true,if_false]
 have s1:zgo [.val (zad A),.val (zad B),.no,.no]=.ok (.nx,[.val (zad A),.val (zad B),.val (.int 1),.val (zad B)]):=by
  unfold zgo zeQ
  have it:zvc (zaa (zc9 (zaa (eV 0) (zaa (eV 1) zai))) zai) [.val (zad A),.val (zad B),.no,.no]=.ok ([.tuple [.int 0,zad A],.tuple [.int 1,zad B]],[.val (zad A),.val (zad B),.no,.no]):=by
   simp only [zvc,zaa,zc9,eV,zz0,zai,zac,zz1,List.length_cons,List.length_nil,Nat.reduceAdd,zaI l2]
   rfl
  rw [it,zac]
  unfold forL
  rw [show gT [gN 2,gN 3] (.tuple [.int 0,zad A]) [.val (zad A),.val (zad B),.no,.no]=.ok [.val (zad A),.val (zad B),.val (.int 0),.val (zad A)] from rfl,zac,u A b hA,zac]
  show forL _ _ _ [.val (zad A),.val (zad B),.val (.int 0),.val (zad A)]=_
  unfold forL
  rw [show gT [gN 2,gN 3] (.tuple [.int 1,zad B]) [.val (zad A),.val (zad B),.val (.int 0),.val (zad A)]=.ok [.val (zad A),.val (zad B),.val (.int 1),.val (zad B)] from rfl,zac,u B c hB,zac]
  rfl
 have nn:neD (.int (n:Int)) (.int (n:Int))=.ok (.bool false):=by rw [zb3];simp
 have s2:sIf (tB (FL.e2 neD (FL.e1 zcI (eV 0)) (FL.e1 zcI (eV 1)))) zoO sNx [.val (zad A),.val (zad B),.val (.int 1),.val (zad B)]=.ok (.nx,[.val (zad A),.val (zad B),.val (.int 1),.val (zad B)]):=by
  simp only [sIf,tB,FL.e2,FL.e1,eV,zz0,zac,zo4,hA.len,zz1,hB.len,nn,sNx,Bool.false_eq_true,if_false]
 refine zcQ (ρ:=[.val (zad A),.val (zad B),.val (.int 1),.val (zad B)]) rfl ?_
 show zkN [.val (zad A),.val (zad B),.no,.no]=_
 unfold zkN
 rw [zah s1,zah s2]
 simp only [zba,zaf,zaa,eV,zz0,zai,zac,zz1,ziL hA hB h6 hc hb]
theorem zvo (a b:Rat):PyData.eqv (num a) (num b)=decide (a=b):=by
 have h:=zty a b
 rw [znZ (zp9 a) (zp9 b)] at h
 have t2:R.ok (PyData.bool (!PyData.eqv (num a) (num b)))=R.ok (PyData.bool (!decide (a=b))):=h
 injection t2 with t3
 injection t3 with t4
 have:=congrArg Bool.not t4
 simpa using this
theorem zol (a b:List Rat):PyData.eqv (zal a) (zal b)=decide (a=b):=by
 show PyData.eqvAll _ _=_
 exact zez _ zvo a b
theorem zq6 (a b:List (List Rat)):PyData.eqv (zad a) (zad b)=decide (a=b):=by
 show PyData.eqvAll _ _=_
 exact zez _ zol a b
theorem zzH (a b:List (List Rat)):eqD (zad a) (zad b)=.ok (.bool (decide (a=b))):=by rw [zlV (zhn a) (zhn b),zq6]
end FL
namespace FL
open PySem MD
def dbl (n:Nat) (A:List (List Rat)):List (List Rat):=List.zipWith (· ++ ·) A (zat n)
theorem zir {n b:Nat} {A:List (List Rat)} (h:Sq n b A):(dbl n A).length=n:=by
 unfold dbl zat
 rw [List.length_zipWith,h.len]
 simp
theorem znd {n b:Nat} {A:List (List Rat)} (h:Sq n b A) {k:Nat} (hk:k < n):(dbl n A).getD k []=A.getD k [] ++ zeH n k:=by
 unfold dbl zat
 have h1:k < A.length:=by rw [h.len];exact hk
 rw [List.getD_eq_getElem?_getD,List.getElem?_zipWith,List.getElem?_eq_getElem h1,List.getElem?_map,List.getElem?_range hk,List.getD_eq_getElem?_getD,List.getElem?_eq_getElem h1]
 rfl
theorem getD_mem {A:List (List Rat)} {k:Nat} (h:k < A.length):A.getD k [] ∈ A:=by
 rw [List.getD_eq_getElem?_getD,List.getElem?_eq_getElem h]
 exact List.getElem_mem h
theorem mem_getD {A:List (List Rat)} {r:List Rat} (h:r ∈ A):∃ k,k < A.length/\r=A.getD k []:=by
 obtain ⟨i,hi,e⟩:=List.mem_iff_getElem.mp h
 exact ⟨i,hi,by rw [List.getD_eq_getElem?_getD,List.getElem?_eq_getElem hi,<- e];rfl⟩
theorem zm9 {xs ys:List Rat} {j:Nat} (h:j < xs.length):fq (xs ++ ys) j=fq xs j:=by
 unfold fq
 rw [List.getD_eq_getElem?_getD,List.getD_eq_getElem?_getD,List.getElem?_append_left h]
theorem zlT {xs ys:List Rat} {n j:Nat} (h:xs.length=n):fq (xs ++ ys) (n + j)=fq ys j:=by
 unfold fq
 rw [List.getD_eq_getElem?_getD,List.getD_eq_getElem?_getD,List.getElem?_append_right (by omega)]
 congr 2
 omega
theorem zvt {n b:Nat} {A:List (List Rat)} (h:Sq n b A) (hb:1<=b):∀ r ∈ dbl n A,r.length=n + n/\∀ x ∈ r,QR.Bd b x:=fun r hr=>by
 obtain ⟨k,hk,rfl⟩:=mem_getD hr
 rw [zir h] at hk
 have hA:=h.row _ (getD_mem (by rw [h.len];exact hk))
 rw [znd h hk]
 refine ⟨by rw [List.length_append,hA.1,zfw],fun x hx=>?_⟩
 rcases List.mem_append.mp hx with hx | hx
 ·exact hA.2 x hx
 ·exact (zkb n k x hx).mono hb
theorem zkR {n b:Nat} {A:List (List Rat)} (h:Sq n b A) {k j:Nat} (hk:k < n) (hj:j < n):fq ((dbl n A).getD k []) j=fq (A.getD k []) j:=by
 rw [znd h hk]
 exact zm9 (by rw [(h.row _ (getD_mem (by rw [h.len];exact hk))).1];exact hj)
theorem zlZ {n b:Nat} {A:List (List Rat)} (h:Sq n b A) {k j:Nat} (hk:k < n) (hj:j < n):fq ((dbl n A).getD k []) (n + j)=if j=k then 1 else 0:=by
 rw [znd h hk,zlT (h.row _ (getD_mem (by rw [h.len];exact hk))).1]
 exact zgy hj
theorem znC (f:Nat->Rat) {n j:Nat} (h:j < n):zcy ((List.range n).map fun k=>f k * (if j=k then 1 else 0))=f j:=by
 have:=zhO (fun k=>f k) (fun _=>0) j 1 n h
 rw [zca (f:=fun k=>(0:Rat) * f k) fun k _=>by grind] at this
 rw [zay (g:=fun k=>(if j=k then 1 else 0) * f k) fun k _=>by grind,this]
 grind
theorem zmg:∀ (n:Nat) (l:List Nat),l.Nodup->l.length<=n->(∀ j,j < n->j ∈ l)->∀ x ∈ l,x < n
 | 0,l,_,hl,_=>fun x hx=>by
  have:l=[]:=List.length_eq_zero_iff.mp (by omega)
  subst this;cases hx
 | n + 1,l,nd,hl,ha=>fun x hx=>by
  have mn:=ha n (by omega)
  by_cases c:x=n
  ·omega
  ·have:=zmg n (l.erase n) (nd.erase n) (by rw [List.length_erase_of_mem mn];omega) (fun j hj=>(List.mem_erase_of_ne (by omega)).mpr (ha j (by omega))) x ((List.mem_erase_of_ne c).mpr hx)
   omega
theorem zpN {ws:List Rw} {α:Type} (c:α->Rat) (u:α->Rq):∀ l:List α,(∀ x ∈ l,SpQ ws (u x))->SpQ ws (fun j=>zcy (l.map fun x=>c x * u x j))
 | [],_=>SpQ.zero ws
 | x :: l,h=>((h x (.head _)).lin (c x) 1 (zpN c u l fun y hy=>h y (.tail _ hy))).of_eq fun j=>by simp only [List.map_cons,zaO];grind
theorem zrx {n:Nat} {M:List (List Rat)} {ws:List Rw} {S:List Nat} {held:zbs} (E:zjt n M ws S held) {k:Nat} (h:k < M.length):SpQ ws (fq (M.getD k [])):=E.sp _ (getD_mem h)
theorem zqt {n b:Nat} {A:List (List Rat)} {ws ws':List Rw} {S S':List Nat} {held held':zbs} (hA:Sq n b A) (E:zjt n A ws S held) (E':zjt (n + n) (dbl n A) ws' S' held') (h:HR n held) (no:frees held n=[]):∀ j,j < n->j ∈ held'.map (·.1):=by
 intro j hj
 have mj:j ∈ held.map (·.1):=Classical.byContradiction fun c=>by
  have:j ∈ frees held n:=zfK.mpr ⟨hj,c⟩
  rw [no] at this;cases this
 obtain ⟨e,he,rfl⟩:=List.mem_map.mp mj
 have ku:∀ p,p < n->kr e p=if p=e.1 then 1 else 0:=fun p hp=>by
  by_cases c:p=e.1
  ·rw [if_pos c,c];exact E.ok.zw1 he
  ·rw [if_neg c]
   have mp:p ∈ held.map (·.1):=Classical.byContradiction fun c=>by
    have:p ∈ frees held n:=zfK.mpr ⟨hp,c⟩
    rw [no] at this;cases this
   rw [E.ok.keys] at mp
   exact E.ok.zqz he (List.mem_reverse.mp mp) c
 obtain ⟨c,hc⟩:=zrf E (E.ok.zxT he)
 rw [hA.len] at hc
 refine Classical.byContradiction fun nl=>?_
 have sp:=zpN (ws:=ws') c (fun k=>fq ((dbl n A).getD k [])) (List.range n) fun k hk=>zrx E' (by rw [zir hA];exact List.mem_range.mp hk)
 have vl:∀ p,p < n->zcy ((List.range n).map fun k=>c k * fq ((dbl n A).getD k []) p)=kr e p:=fun p hp=>by
  rw [hc p]
  exact zay fun k hk=>by rw [zkR hA (List.mem_range.mp hk) hp]
 have rm:=E'.ok.room sp e.1
 rw [vl _ hj,ku _ hj,if_pos rfl,zca fun e' he'=>by
  by_cases c1:e'.1 < n
  ·rw [vl _ c1,ku _ c1,if_neg (fun z:e'.1=e.1=>nl (z ▸ List.mem_map_of_mem (f:=(·.1)) he'))]
   grind
  ·have:kr e' e.1=0:=by
    unfold kr
    rw [(E'.ok.row e' he').low e.1 (by omega)]
    show ((0:Int):Rat) / _=0
    grind
   rw [this];grind] at rm
 exact absurd rm (by decide)
inductive Back (n:Nat) (A:List (List Rat)) (B T:Nat):D->Prop where
 | back (M:List (List Rat)) (h:Sq n B M) (h1:mulM n A M=zat n) (h2:mulM n M A=zat n):Back n A B T (.tuple [.str "back",zad M])
 | blind (t:List Rat) (hl:t.length=n) (hb:∀ x ∈ t,QR.Bd T x) (h:∀ r ∈ A,ip n (fq t) (fq r)=0) (h1:∃ j,j < n/\fq t j ≠ 0):Back n A B T (.tuple [.str "blind",zal t])
theorem znG {n:Nat} {M N:List (List Rat)} (hM:M.length=n) (hN:N.length=n) (rM:∀ r ∈ M,r.length=n) (rN:∀ r ∈ N,r.length=n) (h:∀ i j,i < n->j < n->fq (M.getD i []) j=fq (N.getD i []) j):M=N:=by
 apply List.ext_getElem?
 intro i
 by_cases l:i < n
 ·have g:∀ (X:List (List Rat)),X.length=n->X[i]?=some (X.getD i []):=fun X hX=>by
   rw [List.getD_eq_getElem?_getD,List.getElem?_eq_getElem (by omega)];rfl
  rw [g M hM,g N hN]
  exact congrArg some (zxm (rM _ (getD_mem (by omega))) (rN _ (getD_mem (by omega))) fun j hj=>h i j l hj)
 ·rw [List.getElem?_eq_none (by omega),List.getElem?_eq_none (by omega)]
theorem zcx (n:Nat):(zat n).length=n:=by unfold zat;simp
theorem zhH (n:Nat):∀ r ∈ zat n,r.length=n:=fun r hr=>by
 obtain ⟨p,_,rfl⟩:=List.mem_map.mp hr
 exact zfw n p
theorem zdI {n i:Nat} (h:i < n):(zat n).getD i []=zeH n i:=by
 unfold zat
 rw [List.getD_eq_getElem?_getD,List.getElem?_map,List.getElem?_range h]
 rfl
theorem zn0 {n:Nat} {A B:List (List Rat)} {i j:Nat} (hA:A.length=n) (hi:i < n) (hj:j < n):fq ((mulM n A B).getD i []) j=ip n (fq (A.getD i [])) (fq (zgV B j)):=by
 unfold mulM
 rw [List.getD_eq_getElem?_getD,List.getElem?_map,List.getElem?_eq_getElem (by omega),List.getD_eq_getElem?_getD,List.getElem?_eq_getElem (by omega)]
 show fq ((List.range n).map fun k=>_) j=_
 rw [fq,List.getD_eq_getElem?_getD,List.getElem?_map,List.getElem?_range hj]
 rfl
theorem zlA {n:Nat} {A B:List (List Rat)} (hA:A.length=n) (hB:B.length=n) (h:∀ i j,i < n->j < n->zcy ((List.range n).map fun k=>fq (A.getD i []) k * fq (B.getD k []) j)=if j=i then 1 else 0):mulM n A B=zat n:=by
 refine znG (by unfold mulM;simp [hA]) (zcx n) (fun r hr=>?_) (zhH n) fun i j hi hj=>?_
 ·unfold mulM at hr
  obtain ⟨q,_,rfl⟩:=List.mem_map.mp hr
  simp
 ·rw [zn0 hA hi hj,zdI hi,zgy hj,<- h i j hi hj]
  exact zay fun k hk=>by rw [ztQ (by rw [hB];exact List.mem_range.mp hk)]
theorem zhG {n:Nat} {A B:List (List Rat)} (hA:A.length=n) (hB:B.length=n) (h:mulM n A B=zat n) {i j:Nat} (hi:i < n) (hj:j < n):zcy ((List.range n).map fun k=>fq (A.getD i []) k * fq (B.getD k []) j)=if j=i then 1 else 0:=by
 rw [<- zgy hj,<- zdI hi,<- h,zn0 hA hi hj]
 exact (zay fun k hk=>by rw [ztQ (by rw [hB];exact List.mem_range.mp hk)])
end FL
namespace FL
open PySem MD
theorem zq1 {xs:List Rat} {n j:Nat} (h:j < n):fq (xs.take n) j=fq xs j:=by
 unfold fq
 rw [List.getD_eq_getElem?_getD,List.getD_eq_getElem?_getD,List.getElem?_take_of_lt h]
theorem zvn (xs:List Rat) (n j:Nat):fq (xs.drop n) j=fq xs (n + j):=by
 unfold fq
 rw [List.getD_eq_getElem?_getD,List.getD_eq_getElem?_getD,List.getElem?_drop]
theorem zvR:∀ (A B:List (List Rat)),zjv (A.map zal) (B.map zal)=(A.zip B).map fun q=>.tuple [zal q.1,zal q.2]
 | [],ys=>by cases ys <;> rfl
 | x :: xs,[]=>rfl
 | x :: xs,y :: ys=>by simp only [List.map_cons,zjv,List.zip_cons_cons,zvR xs ys]
theorem znw:∀ (A B:List (List Rat)),(A.zip B).map (fun q=>q.1 ++ q.2)=List.zipWith (· ++ ·) A B
 | [],ys=>by cases ys <;> rfl
 | x :: xs,[]=>rfl
 | x :: xs,y :: ys=>by simp only [List.map_cons,List.zip_cons_cons,List.zipWith_cons_cons,znw xs ys]
theorem getD_map {α:Type} (f:Nat × List Int->α) {K:zbs} {i:Nat} {d:α} (h:i < K.length):(K.map f).getD i d=f K[i]:=by
 rw [List.getD_eq_getElem?_getD,List.getElem?_map,List.getElem?_eq_getElem h];rfl
theorem zxe {n b:Nat} {A:List (List Rat)} {ws:List Rw} {S:List Nat} {held K:zbs} (hA:Sq n b A) (E:zjt (n + n) (dbl n A) ws S held) (p:K.Perm held) (hu:K.map (fun e=>(zbZ e).take n)=zat n) :
  mulM n A (K.map fun e=>(zbZ e).drop n)=zat n/\mulM n (K.map fun e=>(zbZ e).drop n) A=zat n:=by
 have lK:K.length=n:=by have:=congrArg List.length hu;rw [List.length_map,zcx] at this;exact this
 have left:∀ i (hi:i < n) j,j < n->kr (K[i]'(by omega)) j=if j=i then 1 else 0:=fun i hi j hj=>by
  have:=congrArg (fun X=>fq (X.getD i []) j) hu
  rw [getD_map _ (by omega),zdI hi,zgy hj,zq1 hj,zii] at this
  exact this
 have mem:∀ i (hi:i < n),K[i]'(by omega) ∈ held:=fun i hi=>p.subset (List.getElem_mem _)
 have lead:∀ i (hi:i < n),(K[i]'(by omega)).1=i:=fun i hi=>by
  have he:=mem i hi
  by_cases c:(K[i]'(by omega)).1 < n
  ·have h1:=left i hi _ c
   rw [E.ok.zw1 he] at h1
   by_cases d:(K[i]'(by omega)).1=i
   ·exact d
   ·rw [if_neg d] at h1;exact absurd h1 (by decide)
  ·have h1:=left i hi i hi
   rw [if_pos rfl] at h1
   have:kr (K[i]'(by omega)) i=0:=by
    unfold kr
    rw [(E.ok.row _ he).low i (by omega)]
    show ((0:Int):Rat) / _=0
    grind
   rw [this] at h1;exact absurd h1 (by decide)
 have lM:(K.map fun e=>(zbZ e).drop n).length=n:=by rw [List.length_map,lK]
 have right:∀ i (hi:i < n) j,fq ((K.map fun e=>(zbZ e).drop n).getD i []) j=kr (K[i]'(by omega)) (n + j):=fun i hi j=>by
  rw [getD_map _ (by omega),zvn,zii]
 have hl:=zir hA
 constructor
 ·refine zlA hA.len lM fun k j hk hj=>?_
  have sp:SpQ ws (fq ((dbl n A).getD k [])):=zrx E (by omega)
  have rm:=E.ok.room sp (n + j)
  rw [zlZ hA hk hj] at rm
  rw [rm]
  have pm:zcy (held.map fun e=>fq ((dbl n A).getD k []) e.1 * kr e (n + j))=zcy (K.map fun e=>fq ((dbl n A).getD k []) e.1 * kr e (n + j)):=by
   have:∀ {l m:List Rat},l.Perm m->zcy l=zcy m:=fun {l m} q=>by
    induction q with
    | nil=>rfl
    | cons a _ ih=>rw [zaO,zaO,ih]
    | swap a b l=>rw [zaO,zaO,zaO,zaO];grind
    | trans _ _ h1 h2=>exact h1.trans h2
   exact this (p.symm.map _)
  rw [pm]
  have byIx:K.map (fun e=>fq ((dbl n A).getD k []) e.1 * kr e (n + j))=(List.range n).map fun i=>fq (A.getD k []) i * fq ((K.map fun e=>(zbZ e).drop n).getD i []) j:=by
   apply List.ext_getElem?
   intro i
   rw [List.getElem?_map,List.getElem?_map]
   by_cases l:i < n
   ·rw [List.getElem?_eq_getElem (by omega),List.getElem?_range l]
    simp only [Option.map_some]
    rw [right i l,lead i l,zkR hA hk l]
   ·rw [List.getElem?_eq_none (by omega),List.getElem?_eq_none (by simpa using l)]
    rfl
  rw [byIx]
 ·refine zlA lM hA.len fun i j hi hj=>?_
  obtain ⟨c,hc⟩:=zrf E (E.ok.zxT (mem i hi))
  rw [hl] at hc
  have cr:∀ k,k < n->fq ((K.map fun e=>(zbZ e).drop n).getD i []) k=c k:=fun k hk=>by
   rw [right i hi,hc (n + k),zay (g:=fun l=>c l * (if k=l then 1 else 0)) fun l hl=>by rw [zlZ hA (List.mem_range.mp hl) hk]]
   exact znC c hk
  rw [<- left i hi j hj,hc j]
  exact zay fun k hk=>by rw [cr k (List.mem_range.mp hk),zkR hA (List.mem_range.mp hk) hj]
theorem zhP:∀ {l m:List Nat},l.Perm m->l.Pairwise (·<=·)->m.Pairwise (·<=·)->l=m
 | [],m,p,_,_=>(List.nil_perm.mp p).symm
 | a :: l,[],p,_,_=>absurd p.length_eq (by simp)
 | a :: l,b :: m,p,h1,h2=>by
  rw [List.pairwise_cons] at h1 h2
  have ab:a=b:=by
   have m1:a ∈ b :: m:=p.subset (by simp)
   have m2:b ∈ a :: l:=p.symm.subset (by simp)
   rcases List.mem_cons.mp m1 with e | m1
   ·exact e
   ·rcases List.mem_cons.mp m2 with e | m2
    ·exact e.symm
    ·exact Nat.le_antisymm (h1.1 b m2) (h2.1 a m1)
  subst ab
  rw [zhP (List.Perm.cons_inv p) h1.2 h2.2]
theorem zi5 {n b:Nat} {A:List (List Rat)} {ws:List Rw} {S:List Nat} {held K:zbs} (hA:Sq n b A) (E:zjt (n + n) (dbl n A) ws S held) (h:HR (n + n) held) (p:K.Perm held) (srt:(K.map fun e=>(e.1:Int)).Pairwise (·<=·)) (al:∀ j,j < n->j ∈ held.map (·.1)) :
  K.map (fun e=>(zbZ e).take n)=zat n:=by
 have ln:held.length<=n:=by
  have l1:=zfM E.ok
  have l2:=ziq E.ok.det
  have:=E.len
  rw [zir hA] at this
  omega
 have bel:=zmg n (held.map (·.1)) h.nd (by rw [List.length_map];exact ln) al
 have nK:(K.map (·.1)).Nodup:=((p.map (·.1)).nodup_iff).mpr h.nd
 have e1:K.map (·.1)=List.range n:=by
  have pm:(K.map (·.1)).Perm (List.range n):=(List.perm_ext_iff_of_nodup nK List.nodup_range).mpr fun j=>by
   rw [List.mem_range]
   constructor
   ·intro hj;exact bel j ((p.map (·.1)).subset hj)
   ·intro hj;exact (p.symm.map (·.1)).subset (al j hj)
  refine zhP pm ?_ List.pairwise_le_range
  rw [List.pairwise_map] at srt ⊢
  exact srt.imp fun h=>by omega
 have lK:K.length=n:=by have:=congrArg List.length e1;simpa using this
 refine znG (by rw [List.length_map,lK]) (zcx n) (fun r hr=>?_) (zhH n) fun i j hi hj=>?_
 ·obtain ⟨e,he,rfl⟩:=List.mem_map.mp hr
  rw [List.length_take,zhp,(h.row e (p.subset he)).1];omega
 ·have he:K[i]'(by omega) ∈ held:=p.subset (List.getElem_mem _)
  have li:(K[i]'(by omega)).1=i:=by
   have:=congrArg (fun l=>l[i]?) e1
   rw [List.getElem?_map,List.getElem?_eq_getElem (by omega),List.getElem?_range hi] at this
   exact Option.some.inj this
  rw [getD_map _ (by omega),zq1 hj,zii,zdI hi,zgy hj]
  by_cases c:j=i
  ·rw [if_pos c,c]
   have:=E.ok.zw1 he
   rw [li] at this;exact this
  ·rw [if_neg c]
   have mj:=al j hj
   rw [E.ok.keys] at mj
   exact E.ok.zqz he (List.mem_reverse.mp mj) (by rw [li];exact c)
theorem zvB {n b B T:Nat} {A:List (List Rat)} (hA:Sq n b A) (h1:1<=n) (h6:n<=6) (hb:1<=b) (c1:zfU b 12<=1000000) (c2:zbq b 12 6<=B) (c3:B<=10000000) (c4:zfU (zbq b 6 6) 6<=1000000) (c5:zbq (zbq b 6 6) 6 6<=T) (c6:T<=10000000) :
  ∃ d,zga [zad A]=.ok d/\Back n A B T d:=by
 have l2:leB 2 lim=true:=by decide
 have hD:=zvt hA hb
 have lD:=zir hA
 have mAD:zfU b (n + n)<=1000000:=Nat.le_trans (ztg (Nat.le_refl _) (by omega)) c1
 have mBD:zbq b (n + n) n<=B:=Nat.le_trans (zs9 (Nat.le_refl _) (by omega) h6) c2
 obtain ⟨ws,S,held,K,ek,E,p,srt⟩:=zqE hD (by omega) (by omega) (by rw [lD];omega) mAD
 have h:=E.hr (by omega)
 have s1:sIf (FL.zbX (tE (zaf zdr (zaa (eV 0) (zaa (eC (.int 6)) zai))))) zoO sNx [.val (zad A),.no,.no,.no]=.ok (.nx,[.val (zad A),.no,.no,.no]):=by
  simp only [sIf,FL.zbX,tE,zaf,zaa,eV,zz0,eC,zai,zac,zgQ hA h1 h6,zlf,Bool.not_true,sNx,Bool.false_eq_true,if_false]
 have s2:zaC (gN 1) (FL.e1 zcI (eV 0)) [.val (zad A),.no,.no,.no]=.ok (.nx,[.val (zad A),.val (.int (n:Int)),.no,.no]):=by
  simp only [zaC,FL.e1,eV,zz0,zac,zo4,hA.len,gN,zz1,List.set_cons_succ,List.set_cons_zero]
 have q0:zbD [.val (zad A),.val (.int (n:Int)),.no,.no]=.ok (zad (zat n),[.val (zad A),.val (.int (n:Int)),.no,.no]):=by
  unfold zbD
  rw [zaE (f0:=fun i:Nat=>.int (i:Int)) (xs:=List.range n) (fun i=>zal (zeH n i)) (zh7 (by omega) rfl) (by rw [List.length_range];show n<=1000000;omega) fun i mi=>?_]
  ·unfold zad zat;rw [List.map_map];rfl
  ·refine ⟨[.val (.int (i:Int)),.val (.int (n:Int))],rfl,?_,zaH trivial⟩
   simp only [zaf,zaa,eV,zz0,zai,zac,zz1,zmE (show n<=1000 by omega)]
 have s3:zeI 2 (zeJ 2 zbD) [.val (zad A),.val (.int (n:Int)),.no,.no]=.ok (.nx,[.val (zad A),.val (.int (n:Int)),.val (zad (zat n)),.no]):=by
  unfold zeI
  rw [zdM (i:=2) (x:=.no) q0 rfl zbI]
  rfl
 have q1:zbC [.val (zad A),.val (.int (n:Int)),.val (zad (zat n)),.no]=.ok (zad (dbl n A),[.val (zad A),.val (.int (n:Int)),.val (zad (zat n)),.no]):=by
  unfold zbC
  rw [zaE (f0:=fun q:List Rat × List Rat=>.tuple [zal q.1,zal q.2]) (xs:=A.zip (zat n)) (fun q=>zal (q.1 ++ q.2)) (by rw [<- zvR];rfl) (by rw [List.length_zip,hA.len];show _<=1000000;omega) fun q mq=>?_]
  ·rw [show zad (dbl n A)=.list ((A.zip (zat n)).map fun q=>zal (q.1 ++ q.2)) by unfold zad dbl;rw [<- znw,List.map_map];rfl]
  ·obtain ⟨r,u⟩:=q
   obtain ⟨m1,m2⟩:=List.of_mem_zip mq
   refine ⟨[.val (zal r),.val (zal u)],rfl,?_,zaH trivial⟩
   have ad:za8 (zal r) (zal u)=.ok (zal (r ++ u)):=by
    show chk (leB ((r.map num).length + (u.map num).length) lim) _=_
    rw [zaI (by rw [List.length_map,List.length_map,(hA.row r m1).1,zhH n u m2];exact zgP (by show _<=1000000;omega))]
    unfold zal
    rw [List.map_append]
   simp only [FL.e2,eV,zac,zz0,zz1,ad]
 have s4:zaC (gN 3) (zaf zdq (zaa zbC zai)) [.val (zad A),.val (.int (n:Int)),.val (zad (zat n)),.no]=.ok (.nx,[.val (zad A),.val (.int (n:Int)),.val (zad (zat n)),.val (zad (K.map zbZ))]):=by
  refine zb1 (i:=3) (y:=(zad (K.map zbZ),[.val (zad A),.val (.int (n:Int)),.val (zad (zat n)),.no])) (x:=.no) ?_ rfl zbI
  simp only [zaf,zaa,zai,q1,zac,ek]
 have lK:K.length<=15:=by rw [p.length_eq];exact h.len
 have slT:∀ e:Nat × List Int,zlj (zal (zbZ e)) none (some (n:Int))=.ok (zal ((zbZ e).take n)):=fun e=>by
  show R.ok (PyData.list (cut ((zbZ e).map num) none (some (n:Int))))=_
  rw [zmR,zxB]
  rfl
 have q2:zbB [.val (zad A),.val (.int (n:Int)),.val (zad (zat n)),.val (zad (K.map zbZ))]=.ok (zad (K.map fun e=>(zbZ e).take n),[.val (zad A),.val (.int (n:Int)),.val (zad (zat n)),.val (zad (K.map zbZ))]):=by
  unfold zbB
  rw [zaE (f0:=fun e=>zal (zbZ e)) (xs:=K) (fun e=>zal ((zbZ e).take n)) (by
   show R.ok ((K.map zbZ).map zal,_)=_
   rw [List.map_map];rfl) (by show _<=1000000;omega) fun e me=>?_]
  ·rw [show zad (K.map fun e=>(zbZ e).take n)=.list (K.map fun e=>zal ((zbZ e).take n)) by unfold zad;rw [List.map_map];rfl]
  ·refine ⟨[.val (zal (zbZ e)),.val (.int (n:Int))],rfl,?_,zaH trivial⟩
   simp only [eSl,eV,zz0,zi9,zi8,zac,zz1,slT]
 have eq:=zzH (K.map fun e=>(zbZ e).take n) (zat n)
 by_cases hu:K.map (fun e=>(zbZ e).take n)=zat n
 ·rw [decide_eq_true hu] at eq
  obtain ⟨m1,m2⟩:=zxe hA E p hu
  have lKn:K.length=n:=by have:=congrArg List.length hu;rw [List.length_map,zcx] at this;exact this
  have slD:∀ e ∈ K,zlj (zal (zbZ e)) (some (n:Int)) none=.ok (zal ((zbZ e).drop n)):=fun e me=>by
   show R.ok (PyData.list (cut ((zbZ e).map num) (some (n:Int)) none))=_
   rw [zmR,zsX _ _ (by rw [zhp,(h.row e (p.subset me)).1];omega)]
   rfl
  have q3:zbA [.val (zad A),.val (.int (n:Int)),.val (zad (zat n)),.val (zad (K.map zbZ))]=.ok (zad (K.map fun e=>(zbZ e).drop n),[.val (zad A),.val (.int (n:Int)),.val (zad (zat n)),.val (zad (K.map zbZ))]):=by
   unfold zbA
   rw [zaE (f0:=fun e=>zal (zbZ e)) (xs:=K) (fun e=>zal ((zbZ e).drop n)) (by
    show R.ok ((K.map zbZ).map zal,_)=_
    rw [List.map_map];rfl) (by show _<=1000000;omega) fun e me=>?_]
   ·rw [show zad (K.map fun e=>(zbZ e).drop n)=.list (K.map fun e=>zal ((zbZ e).drop n)) by unfold zad;rw [List.map_map];rfl]
   ·refine ⟨[.val (zal (zbZ e)),.val (.int (n:Int))],rfl,?_,zaH trivial⟩
    simp only [eSl,eV,zz0,zi8,zi9,zac,zz1,slD e me]
  refine ⟨_,?_,.back (K.map fun e=>(zbZ e).drop n) ⟨by rw [List.length_map,lKn],fun r hr=>?_⟩ m1 m2⟩
  ·refine zbb (ρ:=[.val (zad A),.val (.int (n:Int)),.val (zad (zat n)),.val (zad (K.map zbZ))]) rfl ?_
   show zbt [.val (zad A),.no,.no,.no]=_
   unfold zbt
   rw [zah s1,zah s2,zah s3,zah s4]
   simp only [zan,sIf,tB,FL.e2,q2,eV,zac,zz1,zz0,eq,zav,zcv,zaa,eC,zai,q3,List.length_cons,List.length_nil,Nat.reduceAdd,zaI l2,if_true]
  ·obtain ⟨e,he,rfl⟩:=List.mem_map.mp hr
   have he':=p.subset he
   refine ⟨by rw [List.length_drop,zhp,(h.row e he').1];omega,fun x hx=>?_⟩
   exact (zqy (fun j=>E.bd hD (by omega) (by omega) he' j) (h.row e he').2.2 x (List.mem_of_mem_drop hx)).mono mBD
 ·rw [decide_eq_false hu] at eq
  have mA6:zfU b n<=1000000:=Nat.le_trans (ztg (Nat.le_refl _) (by omega)) c1
  have q6:zbq b n 6<=zbq b 6 6:=zs9 (Nat.le_refl _) h6 (Nat.le_refl _)
  have q7:zbq b 6 6<=B:=Nat.le_trans (zs9 (Nat.le_refl _) (by omega) (Nat.le_refl _)) c2
  have q8:zbq (zbq b n 6) n n<=T:=Nat.le_trans (zs9 q6 h6 h6) c5
  obtain ⟨wa,Sa,ha,w2,S2,h2,K2,en,Ea,E2,p2,srt2,nB⟩:=zoU (N:=6) hA.row (by rw [hA.len];exact h6) (by decide) (by omega) mA6 (by omega) (Nat.le_trans (ztg q6 h6) c4) (by omega)
  have hra:=Ea.hr (by rw [hA.len];omega)
  have nl:(zja ha n).length<=n:=by unfold zja;rw [List.length_map];exact zlR ha n
  have hr2:=E2.hr (by omega)
  have fne:frees ha n ≠ []:=fun z=>hu (zi5 hA E h p srt (zqt hA Ea E hra z))
  have kne:K2 ≠ []:=fun z=>by
   subst z
   have:h2=[]:=List.nil_perm.mp p2 ▸ rfl
   subst this
   obtain ⟨f,hf⟩:=List.exists_mem_of_ne_nil _ fne
   have sp:=E2.sp _ (List.mem_map_of_mem (f:=zhd ha n) hf)
   have rm:=E2.ok.room sp f
   rw [List.map_nil,zfy] at rm
   obtain ⟨f1,f2⟩:=zfK.mp hf
   have:fq (zhd ha n f) f=1:=by
    unfold zhd
    rw [zkO f2 f1]
    unfold nb
    rw [if_pos rfl]
   rw [this] at rm
   exact absurd rm (by decide)
  match K2,kne,en,p2 with
  | e :: K3,_,en,p2 =>
   have he:e ∈ h2:=p2.subset (by simp)
   refine ⟨_,?_,.blind (zbZ e) ((zhp e).trans (hr2.row e he).1) (fun x hx=>(zqy (fun j=>E2.bd nB nl (by omega) he j) (hr2.row e he).2.2 x hx).mono q8) (fun r hr=>?_) ⟨e.1,(hr2.row e he).2.1,?_⟩⟩
   ·refine zbb (ρ:=[.val (zad A),.val (.int (n:Int)),.val (zad (zat n)),.val (zad (K.map zbZ))]) rfl ?_
    show zbt [.val (zad A),.no,.no,.no]=_
    unfold zbt
    rw [zah s1,zah s2,zah s3,zah s4]
    have ih:ixD (zad ((e :: K3).map zbZ)) (.int 0)=.ok (zal (zbZ e)):=zu5 _ _
    have s5:sIf (tB (FL.e2 eqD zbB (eV 2))) (zav (zcv (zaa (eC (.str "back")) (zaa zbA zai)))) sNx [.val (zad A),.val (.int (n:Int)),.val (zad (zat n)),.val (zad (K.map zbZ))]=.ok (.nx,[.val (zad A),.val (.int (n:Int)),.val (zad (zat n)),.val (zad (K.map zbZ))]):=by
     simp only [sIf,tB,FL.e2,q2,eV,zac,zz1,zz0,eq,sNx,Bool.false_eq_true,if_false]
    rw [zah s5]
    simp only [zav,zcv,zaa,eC,FL.e2,zaf,eV,zai,zac,zz0,zz1,en,ih,List.length_cons,List.length_nil,Nat.reduceAdd,zaI l2]
   ·rw [show fq (zbZ e)=kr e from funext (zii e),zm4]
    refine E2.zzn (fun q hq=>?_) (E2.ok.zxT he)
    obtain ⟨free,hf,rfl⟩:=List.mem_map.mp hq
    obtain ⟨f1,f2⟩:=zfK.mp hf
    rw [zm4]
    exact zql Ea hra f1 f2 (Ea.sp r hr)
   ·rw [zii,E2.ok.zw1 he]
    decide
end FL
namespace FL
open PySem MD
def zvO (n:Nat) (A:List (List Rat)):Prop:=∃ i,i < n/\((∀ j,j < n->fq (A.getD i []) j=0)\/∃ k c,k < n/\k ≠ i/\∀ j,j < n->fq (A.getD i []) j=c * fq (A.getD k []) j)
def Reg (n:Nat) (A:List (List Rat)):Prop:=∀ t:Rq,(∀ i,i < n->ip n t (fq (A.getD i []))=0)->∀ j,j < n->t j=0
theorem zvO.zwN {n:Nat} {A M:List (List Rat)} (hA:A.length=n) (hM:M.length=n) (h:zvO n A) (e:mulM n A M=zat n):False:=by
 obtain ⟨i,hi,h⟩:=h
 have u:=zhG hA hM e hi hi
 rw [if_pos rfl] at u
 rcases h with h | ⟨k,c,hk,ki,h⟩
 ·rw [zca fun l hl=>by rw [h l (List.mem_range.mp hl)];grind] at u
  exact absurd u (by decide)
 ·have v:=zhG hA hM e hk hi
  rw [if_neg fun z=>ki z.symm] at v
  rw [zay (g:=fun l=>c * (fq (A.getD k []) l * fq (M.getD l []) i)) fun l hl=>by rw [h l (List.mem_range.mp hl)];grind,znD,v] at u
  exact absurd u (by grind)
theorem zu7 (k j:Nat):(if k=j then (1:Rat) else 0)=if j=k then 1 else 0:=by
 by_cases c:k=j
 ·rw [if_pos c,if_pos c.symm]
 ·rw [if_neg c,if_neg fun z=>c z.symm]
theorem znI (n:Nat):Reg n (zat n):=fun t h j hj=>by
 have:=h j hj
 rw [zdI hj,zsG (v:=fun k=>if j=k then 1 else 0) fun k hk=>by rw [zgy hk];exact zu7 k j] at this
 ·have q:=znC t hj
  unfold ip at this
  rw [q] at this
  exact this
theorem zfR {A:List (List Rat)} {i k:Nat} {r:List Rat} (hi:i < A.length):(A.set i r).getD k []=if i=k then r else A.getD k []:=by
 rw [List.getD_eq_getElem?_getD,List.getElem?_set]
 by_cases c:i=k
 ·rw [if_pos c,if_pos c,if_pos (c ▸ hi)];rfl
 ·rw [if_neg c,if_neg c,List.getD_eq_getElem?_getD]
theorem Reg.step {n:Nat} {A:List (List Rat)} {i o:Nat} {c:Rat} {r:List Rat} (h:Reg n A) (hA:A.length=n) (hi:i < n) (ho:o < n) (io:o ≠ i) (hr:∀ j,fq r j=fq (A.getD i []) j + c * fq (A.getD o []) j):Reg n (A.set i r):=fun t ht=>by
 refine h t fun k hk=>?_
 have q:=ht k hk
 rw [zfR (by omega)] at q
 by_cases e:i=k
 ·rw [if_pos e] at q
  subst e
  have q2:=ht o ho
  rw [zfR (by omega),if_neg fun z=>io z.symm] at q2
  rw [show fq r=fun j=>1 * fq (A.getD i []) j + c * fq (A.getD o []) j from funext fun j=>by rw [hr j];grind,ztN,q2] at q
  grind
 ·rw [if_neg e] at q
  exact q
theorem Sq.set {n b b':Nat} {A:List (List Rat)} {i:Nat} {r:List Rat} (h:Sq n b A) (hb:b<=b') (hr:r.length=n) (br:∀ x ∈ r,QR.Bd b' x):Sq n b' (A.set i r):=by
 refine ⟨by rw [List.length_set];exact h.len,fun q hq=>?_⟩
 rcases List.mem_or_eq_of_mem_set hq with m | m
 ·exact ⟨(h.row q m).1,fun x hx=>((h.row q m).2 x hx).mono hb⟩
 ·rw [m];exact ⟨hr,br⟩
theorem zlM {A:List (List Rat)} {i:Nat} (h:i < A.length):ixD (zad A) (.int (i:Int))=.ok (zal (A.getD i [])):=by
 show R.of (atI (A.map zal) (i:Int))=_
 rw [zrp (by simpa using h),List.getElem?_map,List.getElem?_eq_getElem h,List.getD_eq_getElem?_getD,List.getElem?_eq_getElem h]
 rfl
theorem zkh {A:List (List Rat)} {i:Nat} {r:List Rat} {f k:EF} {ρ ρ1:En} {j:Nat} {pb:Bool} (hf:f ρ=.ok (zal r,ρ1)) (hj:ρ1[j]?=some (.ow pb (zad A))) (hk:k ρ1=.ok (.int (i:Int),ρ1)) (h:i < A.length):setM j f k ρ=.ok (.nx,ρ1.set j (.ow pb (zad (A.set i r)))):=by
 have hl:zjb ρ1 j=.ok (A.map zal):=by unfold zjb;rw [hj];rfl
 unfold setM
 rw [hf,zac,hl,zac,hk,zac,hl,zac]
 show (R.of (ixN (A.map zal).length (i:Int))).bind _=_
 rw [zm3 (by rw [List.length_map];exact h)]
 show R.ok (Fl.nx,zcm ρ1 j (.list ((A.map zal).set i (zal r))))=_
 unfold zcm
 rw [hj,<- List.map_set]
 rfl
theorem zxw {k n:Nat} {d:D} (hp:zcp k d) (hk:k + 3 * n * n<=30000) (hn:n<=10) {a2 a3 a4 a5 a6 a7 a8:Sl} :
  ∃ A d',zbR [.ow true d,.val (.int (n:Int)),a2,a3,a4,a5,a6,a7,a8]=.ok (zad A,[.ow true d',.val (.int (n:Int)),a2,a3,a4,a5,a6,a7,a8])/\Sq n 15 A/\zcp (k + 3 * n * n) d':=by
 obtain ⟨acc,ρ',ec,el,A,d',rfl,hA,hp',rfl⟩:=ziw (k:=1) (ix:=[0,1]) (g:=gN 0) (t:=zaK) (f:=zd6)
  (fun i acc ρ=>∃ (A:List (List Rat)) (d':D),acc=A.map zal/\(∀ r ∈ A,r.length=n/\∀ x ∈ r,QR.Bd 15 x)/\zcp (k + 3 * n * i) d'/\ρ=[.ow true d',.val (.int (n:Int)),a2,a3,a4,a5,a6,a7,a8]) (rng 0 (n:Int)) 0 [] [.ow true d,.val (.int (n:Int)),a2,a3,a4,a5,a6,a7,a8] (by rw [zdN];simp;show n<=1000000;omega) rfl ⟨[],d,rfl,by simp,hp,rfl⟩ (by
   rintro x hx i acc ρ hi ⟨A,d1,rfl,hA,hp1,rfl⟩
   have hl:(rng 0 (n:Int)).length=n:=by rw [zdN];simp
   rw [hl] at hi
   have hm:3 * n * i<=3 * n * n:=Nat.mul_le_mul_left _ (by omega)
   have hm2:3 * n * i + 3 * n<=3 * n * n:=by
    have:=Nat.mul_le_mul_left (3 * n) (show i + 1<=n by omega)
    rw [Nat.mul_succ] at this
    exact this
   obtain ⟨it,il⟩:=ztq (n:=n) (by omega) (i:=2) (ρ:=[.val x,.ow true d1,.val (.int (n:Int))]) rfl
   obtain ⟨xs,d2,eq,lx,bx,p2⟩:=zsS (ip:=1) (p:=true) (d:=d1) (ρ:=[.val x,.ow true d1,.val (.int (n:Int))]) rfl hp1 it (by omega) (by omega)
   rw [il] at lx p2
   refine ⟨[.val x,.ow true d1,.val (.int (n:Int))],zal xs,[.val x,.ow true d2,.val (.int (n:Int))],rfl,rfl,eq,A ++ [xs],d2,by simp,fun r hr=>?_,p2.mono (by rw [Nat.mul_succ];omega),?_⟩
   ·rcases List.mem_append.mp hr with hr | hr
    ·exact hA r hr
    ·rw [List.mem_singleton.mp hr];exact ⟨lx,bx⟩
   ·show bkL [(0,.ow true d2),(1,.val (.int (n:Int)))] 0 [.ow true d1,.val (.int (n:Int)),a2,a3,a4,a5,a6,a7,a8]=_
    have nn:∀ m,2<=m->([(0,Sl.ow true d2),(1,Sl.val (.int (n:Int)))]:List (Nat × Sl)).lookup m=none:=fun m hm=>by
     have h0:(m == 0)=false:=by simp;omega
     have h1:(m == 1)=false:=by simp;omega
     simp [List.lookup_cons,h0,h1]
    simp only [bkL,Nat.zero_add,Nat.reduceAdd]
    rw [zeY (nn 2 (by decide)),zeY (nn 3 (by decide)),zeY (nn 4 (by decide)),zeY (nn 5 (by decide)),zeY (nn 6 (by decide)),zeY (nn 7 (by decide)),zeY (nn 8 (by decide))]
    rfl)
 have hl:(rng 0 (n:Int)).length=n:=by rw [zdN];simp
 rw [hl,Nat.zero_add] at el hp'
 refine ⟨A,d',?_,⟨by simpa using el,hA⟩,hp'⟩
 unfold zbR zaz
 rw [(ztq (n:=n) (by omega) (i:=1) (ρ:=[.ow true d,.val (.int (n:Int)),a2,a3,a4,a5,a6,a7,a8]) rfl).1,zac,ec]
 rfl
end FL
namespace FL
open PySem MD
abbrev E9 (a0 a1 a2 a3 a4 a5 a6 a7 a8:Sl):En:=[a0,a1,a2,a3,a4,a5,a6,a7,a8]
theorem zt5 {k n b:Nat} {d:D} {A:List (List Rat)} {w:Int} (hp:zcp k d) (hk:k<=20000) (hA:Sq n b A) (hn:n<=6) (h2:2<=n) (hb1:1<=b) (hb:b<=2000) (hR:Reg n A) {a4 a5 a6 a7 a8:Sl} (n7:Np a7) (n8:Np a8) :
  ∃ A' d' z7 z8,Np z7/\Np z8/\zbQ (E9 (.ow true d) (.val (.int (n:Int))) (.val (.int w)) (.ow false (zad A)) a4 a5 a6 a7 a8)=.ok (.nx,E9 (.ow true d') (.val (.int (n:Int))) (.val (.int w)) (.ow false (zad A')) a4 a5 a6 z7 z8)/\Sq n (b + (15 + b) + 1) A'/\Reg n A'/\zcp (k + 5) d':=by
 obtain ⟨i',d1,t1,i0,i1,p1⟩:=zcc hp (by omega) (n:Int) (by omega) (by omega)
 obtain ⟨i,rfl⟩:∃ i:Nat,i'=(i:Int):=⟨i'.toNat,by omega⟩
 obtain ⟨v',d2,t2,v0,v1,p2⟩:=zcc p1 (by omega) ((n:Int) - 1) (by omega) (by omega)
 obtain ⟨v,rfl⟩:∃ v:Nat,v'=(v:Int):=⟨v'.toNat,by omega⟩
 obtain ⟨c,d3,t3,cb,p3⟩:=zmJ p2 (by omega)
 have ho:(i + 1 + v) % n < n:=Nat.mod_lt _ (by omega)
 have hne:(i + 1 + v) % n ≠ i:=by
  rcases Nat.lt_or_ge (i + 1 + v) n with l | l
  ·rw [Nat.mod_eq_of_lt l];omega
  ·rw [Nat.mod_eq_sub_mod l,Nat.mod_eq_of_lt (by omega)];omega
 have hri:=hA.row _ (getD_mem (A:=A) (k:=i) (by rw [hA.len];omega))
 have hro:=hA.row _ (getD_mem (A:=A) (k:=(i + 1 + v) % n) (by rw [hA.len];exact ho))
 have sc:=zhQ (b:=15 + b) (cb.mono (by omega)) (fun x hx=>(hro.2 x hx).mono (show b<=15 + b by omega)) (by omega) (by omega)
 have ad:=ztd (b:=15 + b) (fun x hx=>(hri.2 x hx).mono (show b<=15 + b by omega)) (zfV cb hro.2) (by omega) (by omega)
 refine ⟨A.set i (List.zipWith (· + ·) (A.getD i []) ((A.getD ((i + 1 + v) % n) []).map fun x=>c * x)),d3,.val (.int (i:Int)),.val (.int (((i + 1 + v) % n:Nat):Int)),zaY _,zaY _,?_,hA.set (by omega) (by rw [List.length_zipWith,List.length_map,hri.1,hro.1];omega) (zs7 hri.2 (zfV cb hro.2)),hR.step hA.len (by omega) ho hne (c:=c) (fun j=>by rw [zsM (by rw [List.length_map,hri.1,hro.1]),zfS]),p3.mono (by omega)⟩
 have s1:zaC (gN 7) (zam zbu [.m 0,.v (eV 1)]) (E9 (.ow true d) (.val (.int (n:Int))) (.val (.int w)) (.ow false (zad A)) a4 a5 a6 a7 a8)=.ok (.nx,E9 (.ow true d1) (.val (.int (n:Int))) (.val (.int w)) (.ow false (zad A)) a4 a5 a6 (.val (.int (i:Int))) a8) :=
  zb1 (i:=7) (y:=(.int (i:Int),E9 (.ow true d1) (.val (.int (n:Int))) (.val (.int w)) (.ow false (zad A)) a4 a5 a6 a7 a8)) (zfg (i:=0) (p:=true) (d:=d) rfl rfl t1) rfl n7
 have sb:zge (.int (n:Int)) (.int 1)=.ok (.int ((n:Int) - 1)):=rfl
 have cm:zam zbu [.m 0,.v (FL.e2 zge (eV 1) (eC (.int 1)))] (E9 (.ow true d1) (.val (.int (n:Int))) (.val (.int w)) (.ow false (zad A)) a4 a5 a6 (.val (.int (i:Int))) a8)=.ok (.int (v:Int),E9 (.ow true d2) (.val (.int (n:Int))) (.val (.int w)) (.ow false (zad A)) a4 a5 a6 (.val (.int (i:Int))) a8):=zfg (i:=0) (p:=true) (d:=d1) rfl rfl t2
 have md:=zkx (h:=i + 1 + v) (l:=n) (by omega)
 have s2:zaC (gN 8) (FL.e2 zgO (FL.e2 za8 (FL.e2 za8 (eV 7) (eC (.int 1))) (zam zbu [.m 0,.v (FL.e2 zge (eV 1) (eC (.int 1)))])) (eV 1)) (E9 (.ow true d1) (.val (.int (n:Int))) (.val (.int w)) (.ow false (zad A)) a4 a5 a6 (.val (.int (i:Int))) a8)=.ok (.nx,E9 (.ow true d2) (.val (.int (n:Int))) (.val (.int w)) (.ow false (zad A)) a4 a5 a6 (.val (.int (i:Int))) (.val (.int (((i + 1 + v) % n:Nat):Int)))):=by
  refine zb1 (i:=8) (y:=(.int (((i + 1 + v) % n:Nat):Int),E9 (.ow true d2) (.val (.int (n:Int))) (.val (.int w)) (.ow false (zad A)) a4 a5 a6 (.val (.int (i:Int))) a8)) ?_ rfl n8
  have ad1:za8 (.int (i:Int)) (.int 1)=.ok (.int ((i:Int) + 1)):=rfl
  have ad2:za8 (.int ((i:Int) + 1)) (.int (v:Int))=.ok (.int ((i + 1 + v:Nat):Int)):=rfl
  have x7:eV 7 (E9 (.ow true d1) (.val (.int (n:Int))) (.val (.int w)) (.ow false (zad A)) a4 a5 a6 (.val (.int (i:Int))) a8)=.ok (.int (i:Int),E9 (.ow true d1) (.val (.int (n:Int))) (.val (.int w)) (.ow false (zad A)) a4 a5 a6 (.val (.int (i:Int))) a8):=rfl
  have x1:eV 1 (E9 (.ow true d2) (.val (.int (n:Int))) (.val (.int w)) (.ow false (zad A)) a4 a5 a6 (.val (.int (i:Int))) a8)=.ok (.int (n:Int),E9 (.ow true d2) (.val (.int (n:Int))) (.val (.int w)) (.ow false (zad A)) a4 a5 a6 (.val (.int (i:Int))) a8):=rfl
  simp only [FL.e2] at cm ⊢
  simp only [x7,show ∀ ρ,eC (.int 1) ρ=.ok (.int 1,ρ) from fun _=>rfl,zac,ad1,cm,ad2,x1,md]
 have cn:zam zaX [.m 0] (E9 (.ow true d2) (.val (.int (n:Int))) (.val (.int w)) (.ow false (zad A)) a4 a5 a6 (.val (.int (i:Int))) (.val (.int (((i + 1 + v) % n:Nat):Int))))=.ok (num c,E9 (.ow true d3) (.val (.int (n:Int))) (.val (.int w)) (.ow false (zad A)) a4 a5 a6 (.val (.int (i:Int))) (.val (.int (((i + 1 + v) % n:Nat):Int)))):=zne (i:=0) (p:=true) (d:=d2) rfl t3
 have xi:=zlM (A:=A) (i:=i) (by rw [hA.len];omega)
 have xo:=zlM (A:=A) (i:=(i + 1 + v) % n) (by rw [hA.len];exact ho)
 unfold zbQ
 rw [zah s1,zah s2]
 refine zkh (i:=i) (j:=3) (pb:=false) (A:=A) (ρ1:=E9 (.ow true d3) (.val (.int (n:Int))) (.val (.int w)) (.ow false (zad A)) a4 a5 a6 (.val (.int (i:Int))) (.val (.int (((i + 1 + v) % n:Nat):Int)))) ?_ rfl rfl (by rw [hA.len];omega)
 simp only [zaf,zaa,m2,za1,zz1,zz0,eV,zac,xi,zai,cn,xo,sc,ad]
def bsq:Nat->Nat
 | 0=>1
 | i + 1=>bsq i + (15 + bsq i) + 1
theorem ztX:∀ i,i<=6->1<=bsq i/\bsq i<=1100
 | 0,_=>by decide
 | 1,_=>by decide
 | 2,_=>by decide
 | 3,_=>by decide
 | 4,_=>by decide
 | 5,_=>by decide
 | 6,_=>by decide
 | _ + 7,h=>by omega
theorem zrS {k n:Nat} {d:D} {w:Int} (hp:zcp k d) (hk:k<=10000) (hn:n<=6) (h2:2<=n) {a4 a5 a6 a7 a8:Sl} (n6:Np a6) (n7:Np a7) (n8:Np a8) :
  ∃ A' d' z6 z7 z8,zaW (E9 (.ow true d) (.val (.int (n:Int))) (.val (.int w)) (.ow false (zad (zat n))) a4 a5 a6 a7 a8)=.ok (.nx,E9 (.ow true d') (.val (.int (n:Int))) (.val (.int w)) (.ow false (zad A')) a4 a5 z6 z7 z8)/\Sq n 1100 A'/\Reg n A'/\zcp (k + 30) d':=by
 obtain ⟨ρ',e,A',d',z6,z7,z8,g6,g7,g8,rfl,hA,hR,pp⟩:=zcO (f:=fun i:Int=>PyData.int i) (g:=gN 6) (b:=zbQ) (fun done ρ=>∃ (A':List (List Rat)) (d':D) (z6 z7 z8:Sl),Np z6/\Np z7/\Np z8/\ρ=E9 (.ow true d') (.val (.int (n:Int))) (.val (.int w)) (.ow false (zad A')) a4 a5 z6 z7 z8/\Sq n (bsq done.length) A'/\Reg n A'/\zcp (k + 5 * done.length) d')
  [0,1,2,3,4,5] [] (E9 (.ow true d) (.val (.int (n:Int))) (.val (.int w)) (.ow false (zad (zat n))) a4 a5 a6 a7 a8) ⟨zat n,d,a6,a7,a8,n6,n7,n8,rfl,⟨zcx n,fun r hr=>by
   obtain ⟨p,_,rfl⟩:=List.mem_map.mp hr
   exact ⟨zfw n p,zkb n p⟩⟩,znI n,hp⟩ (by
   rintro pre i post ρ heq ⟨A',d',z6,z7,z8,g6,g7,g8,rfl,hA,hR,pp⟩
   have lp:pre.length + 1<=6:=by have:=congrArg List.length heq;simp at this;omega
   have hb:=ztX pre.length (by omega)
   obtain ⟨A2,d2,y7,y8,m7,m8,et,hA2,hR2,p2⟩:=zt5 (w:=w) (a4:=a4) (a5:=a5) (a6:=.val (.int i)) pp (by omega) hA hn h2 hb.1 (by omega) hR g7 g8
   refine ⟨_,.nx,by rw [zgx (x:=z6) rfl g6,zac];exact et,.inl rfl,A2,d2,.val (.int i),y7,y8,zaY _,m7,m8,rfl,?_,hR2,p2.mono (by simp;omega)⟩
   rw [List.length_append,List.length_singleton]
   exact hA2)
 refine ⟨A',d',z6,z7,z8,?_,⟨hA.len,fun r hr=>⟨(hA.row r hr).1,fun x hx=>((hA.row r hr).2 x hx).mono (ztX 6 (by decide)).2⟩⟩,hR,pp⟩
 unfold zaW zeQ
 have hi:iR1 (zaa (eC (.int 6)) zai) (E9 (.ow true d) (.val (.int (n:Int))) (.val (.int w)) (.ow false (zad (zat n))) a4 a5 a6 a7 a8)=.ok (([0,1,2,3,4,5]:List Int).map PyData.int,E9 (.ow true d) (.val (.int (n:Int))) (.val (.int w)) (.ow false (zad (zat n))) a4 a5 a6 a7 a8):=by
  simp only [iR1,zaa,zai,eC,zac]
  rw [zct (by decide) (by decide)]
  rfl
 rw [hi,zac]
 exact e
end FL
namespace FL
open PySem MD
abbrev W8 (d:D) (n:Nat) (w:Int) (x a4 a5 a6 a7 a8:Sl):En:=E9 (.ow true d) (.val (.int (n:Int))) (.val (.int w)) x a4 a5 a6 a7 a8
abbrev W9 (d:D) (n:Nat) (w:Int) (A:List (List Rat)) (a4 a5 a6 a7 a8:Sl):En:=W8 d n w (.ow false (zad A)) a4 a5 a6 a7 a8
theorem neI (a b:Int):neD (.int a) (.int b)=.ok (.bool (!decide (a=b))):=zb3 a b
theorem zuc {k n:Nat} {d:D} {A:List (List Rat)} (hp:zcp k d) (hk:k<=20000) (hA:Sq n 15 A) (hn:n<=6) (h1:1<=n) {a4 a5 a6 a7 a8:Sl} (n4:Np a4) (n5:Np a5) :
  ∃ A' d' z4 z5,(zan (zaC (gN 4) (zam zbu [.m 0,.v (eV 1)]))
  (zan (zaC (gN 5) (zaf za4 (zaa (zam zaX [.m 0]) (zaa (m2 ixD 3 (e2 zgO (e2 za8 (eV 4) (eC (.int 1))) (eV 1))) zai))))
  (zan (sIf (tB (e2 ltD (eV 1) (eC (.int 3)))) (zaC (gN 5) (zaf za4 (zaa (zcv (zaa (zam zbu [.m 0,.v (eC (.int 2))]) (zaa (eC (.int 1)) zai))) (zaa (eV 5) zai)))) sNx)
  (setM 3 (e2 ixD (zc9 (zaa (eV 5) (zaa (zaf zfn (zaa (eV 1) zai)) zai))) (e1 intD (e2 eqD (eV 1) (eC (.int 1))))) (eV 4))))) (W9 d n 1 A a4 a5 a6 a7 a8)=.ok (.nx,E9 (.ow true d') (.val (.int (n:Int))) (.val (.int 1)) (.ow false (zad A')) z4 z5 a6 a7 a8)/\Sq n 40 A'/\zvO n A'/\zcp (k + 5) d':=by
 obtain ⟨i',d1,t1,i0,i1,p1⟩:=zcc hp (by omega) (n:Int) (by omega) (by omega)
 obtain ⟨i,rfl⟩:∃ i:Nat,i'=(i:Int):=⟨i'.toNat,by omega⟩
 obtain ⟨c,d2,t2,cb,p2⟩:=zmJ p1 (by omega)
 have l2:leB 2 lim=true:=by decide
 have ho:(i + 1) % n < n:=Nat.mod_lt _ (by omega)
 have hro:=hA.row _ (getD_mem (A:=A) (k:=(i + 1) % n) (by rw [hA.len];exact ho))
 have sc:=zhQ cb hro.2 (by decide) (by omega)
 have b30:=zfV cb hro.2
 have s1:zaC (gN 4) (zam zbu [.m 0,.v (eV 1)]) (W9 d n 1 A a4 a5 a6 a7 a8)=.ok (.nx,W9 d1 n 1 A (.val (.int (i:Int))) a5 a6 a7 a8) :=
  zb1 (i:=4) (y:=(.int (i:Int),W9 d1 n 1 A a4 a5 a6 a7 a8)) (zfg (i:=0) (p:=true) (d:=d) rfl rfl t1) rfl n4
 have cn:zam zaX [.m 0] (W9 d1 n 1 A (.val (.int (i:Int))) a5 a6 a7 a8)=.ok (num c,W9 d2 n 1 A (.val (.int (i:Int))) a5 a6 a7 a8):=zne (i:=0) (p:=true) (d:=d1) rfl t2
 have md:=zkx (h:=i + 1) (l:=n) (by omega)
 have ad1:za8 (.int (i:Int)) (.int 1)=.ok (.int ((i + 1:Nat):Int)):=rfl
 have xo:=zlM (A:=A) (i:=(i + 1) % n) (by rw [hA.len];exact ho)
 have s2:zaC (gN 5) (zaf za4 (zaa (zam zaX [.m 0]) (zaa (m2 ixD 3 (FL.e2 zgO (FL.e2 za8 (eV 4) (eC (.int 1))) (eV 1))) zai))) (W9 d1 n 1 A (.val (.int (i:Int))) a5 a6 a7 a8)=.ok (.nx,W9 d2 n 1 A (.val (.int (i:Int))) (.val (zal ((A.getD ((i + 1) % n) []).map fun x=>c * x))) a6 a7 a8):=by
  refine zb1 (i:=5) (y:=(zal ((A.getD ((i + 1) % n) []).map fun x=>c * x),W9 d2 n 1 A (.val (.int (i:Int))) a5 a6 a7 a8)) ?_ rfl n5
  simp only [zaf,zaa,cn,m2,za1,FL.e2,eV,eC,zac,zai,zz1,zz0,ad1,md,xo,sc]
 rw [zah s1,zah s2]
 obtain ⟨r,c',d3,s3,lr,br,hr,p3⟩:∃ r c' d3,sIf (tB (FL.e2 ltD (eV 1) (eC (.int 3)))) (zaC (gN 5) (zaf za4 (zaa (zcv (zaa (zam zbu [.m 0,.v (eC (.int 2))]) (zaa (eC (.int 1)) zai))) (zaa (eV 5) zai)))) sNx (W9 d2 n 1 A (.val (.int (i:Int))) (.val (zal ((A.getD ((i + 1) % n) []).map fun x=>c * x))) a6 a7 a8)=.ok (.nx,W9 d3 n 1 A (.val (.int (i:Int))) (.val (zal r)) a6 a7 a8)/\r.length=n/\(∀ x ∈ r,QR.Bd 40 x)/\(∀ j,fq r j=c' * fq (A.getD ((i + 1) % n) []) j)/\zcp (k + 5) d3:=by
  have lt:ltD (.int (n:Int)) (.int 3)=.ok (.bool (decide ((n:Int) < 3))):=zgj _ _
  by_cases cl:(n:Int) < 3
  ·rw [decide_eq_true cl] at lt
   obtain ⟨u,d3,t3,u0,u1,p3⟩:=zcc p2 (by omega) 2 (by decide) (by decide)
   obtain ⟨un,ub⟩:=zuf u (n:=2) (by omega) (by decide)
   have cm:zam zbu [.m 0,.v (eC (.int 2))] (W9 d2 n 1 A (.val (.int (i:Int))) (.val (zal ((A.getD ((i + 1) % n) []).map fun x=>c * x))) a6 a7 a8)=.ok (.int u,W9 d3 n 1 A (.val (.int (i:Int))) (.val (zal ((A.getD ((i + 1) % n) []).map fun x=>c * x))) a6 a7 a8):=zfg (i:=0) (p:=true) (d:=d2) rfl rfl t3
   have sc2:=zhQ (c:=(u:Rat)) (xs:=(A.getD ((i + 1) % n) []).map fun x=>c * x) (b:=30) (ub.mono (by decide)) b30 (by decide) (by rw [List.length_map];omega)
   rw [un] at sc2
   refine ⟨((A.getD ((i + 1) % n) []).map fun x=>c * x).map fun x=>(u:Rat) * x,(u:Rat) * c,d3,?_,by rw [List.length_map,List.length_map];exact hro.1,fun x hx=>(zfV ub b30 x hx).mono (by decide),fun j=>by rw [zfS,zfS];grind,p3.mono (by omega)⟩
   unfold sIf
   rw [show tB (FL.e2 ltD (eV 1) (eC (.int 3))) (W9 d2 n 1 A (.val (.int (i:Int))) (.val (zal ((A.getD ((i + 1) % n) []).map fun x=>c * x))) a6 a7 a8)=.ok (true,W9 d2 n 1 A (.val (.int (i:Int))) (.val (zal ((A.getD ((i + 1) % n) []).map fun x=>c * x))) a6 a7 a8) by simp only [tB,FL.e2,eV,zz1,zz0,eC,zac,lt],zac,if_pos rfl]
   refine zb1 (i:=5) (x:=.val (zal ((A.getD ((i + 1) % n) []).map fun x=>c * x))) (y:=(zal (((A.getD ((i + 1) % n) []).map fun x=>c * x).map fun x=>(u:Rat) * x),W9 d3 n 1 A (.val (.int (i:Int))) (.val (zal ((A.getD ((i + 1) % n) []).map fun x=>c * x))) a6 a7 a8)) ?_ rfl (zaY _)
   simp only [zaf,zaa,zcv,cm,show ∀ ρ,eC (.int 1) ρ=.ok (.int 1,ρ) from fun _=>rfl,zai,zac,List.length_cons,List.length_nil,Nat.reduceAdd,zaI l2,eV,zz1,zz0,sc2]
  ·rw [decide_eq_false cl] at lt
   refine ⟨(A.getD ((i + 1) % n) []).map fun x=>c * x,c,d2,?_,by rw [List.length_map];exact hro.1,fun x hx=>(b30 x hx).mono (by decide),fun j=>zfS c _ j,p2.mono (by omega)⟩
   unfold sIf
   rw [show tB (FL.e2 ltD (eV 1) (eC (.int 3))) (W9 d2 n 1 A (.val (.int (i:Int))) (.val (zal ((A.getD ((i + 1) % n) []).map fun x=>c * x))) a6 a7 a8)=.ok (false,W9 d2 n 1 A (.val (.int (i:Int))) (.val (zal ((A.getD ((i + 1) % n) []).map fun x=>c * x))) a6 a7 a8) by simp only [tB,FL.e2,eV,zz1,zz0,eC,zac,lt],zac,if_neg (by simp)]
   rfl
 rw [zah s3]
 have e1':eqD (.int (n:Int)) (.int 1)=.ok (.bool (decide ((n:Int)=1))):=zbp _ _
 by_cases cn1:n=1
 ·subst cn1
  refine ⟨A.set i (List.replicate 1 0),d3,.val (.int (i:Int)),.val (zal r),?_,hA.set (by decide) (by simp) (fun x hx=>by rw [List.eq_of_mem_replicate hx];exact (QR.Bd.zero 0).mono (by decide)),⟨i,by omega,.inl fun j hj=>by rw [zfR (by rw [hA.len];omega),if_pos rfl];exact zxl 1 j⟩,p3⟩
  refine zkh (i:=i) (j:=3) (pb:=false) (A:=A) (ρ1:=E9 (.ow true d3) (.val (.int ((1:Nat):Int))) (.val (.int 1)) (.ow false (zad A)) (.val (.int (i:Int))) (.val (zal r)) a6 a7 a8) ?_ rfl rfl (by rw [hA.len];omega)
  have e1'':eqD (.int ((1:Nat):Int)) (.int 1)=.ok (.bool true):=by rw [zbp];rfl
  have bl:=zov (n:=1) (by decide)
  have ii:intD (.bool true)=.ok (.int 1):=rfl
  have ix1:∀ a b:D,ixD (.list [a,b]) (.int 1)=.ok b:=fun _ _=>rfl
  simp only [FL.e2,zc9,zaa,eV,zz1,zz0,zaf,zai,zac,bl,List.length_cons,List.length_nil,Nat.reduceAdd,zaI l2,FL.e1,eC,e1'',ii,ix1]
 ·refine ⟨A.set i r,d3,.val (.int (i:Int)),.val (zal r),?_,hA.set (by decide) lr br,⟨i,by omega,.inr ⟨(i + 1) % n,c',ho,?_,fun j hj=>?_⟩⟩,p3⟩
  ·refine zkh (i:=i) (j:=3) (pb:=false) (A:=A) (ρ1:=W9 d3 n 1 A (.val (.int (i:Int))) (.val (zal r)) a6 a7 a8) ?_ rfl rfl (by rw [hA.len];omega)
   rw [decide_eq_false (by omega)] at e1'
   have bl:=zov (n:=n) (by omega)
   have ii:intD (.bool false)=.ok (.int 0):=rfl
   have ix0:∀ a b:D,ixD (.list [a,b]) (.int 0)=.ok a:=fun _ _=>rfl
   simp only [FL.e2,zc9,zaa,eV,zz1,zz0,zaf,zai,zac,bl,List.length_cons,List.length_nil,Nat.reduceAdd,zaI l2,FL.e1,eC,e1',ii,ix0]
  ·rcases Nat.lt_or_ge (i + 1) n with l | l
   ·rw [Nat.mod_eq_of_lt l];omega
   ·rw [Nat.mod_eq_sub_mod l,Nat.mod_eq_of_lt (by omega)];omega
  ·have ne:i ≠ (i + 1) % n:=by
    rcases Nat.lt_or_ge (i + 1) n with l | l
    ·rw [Nat.mod_eq_of_lt l];omega
    ·rw [Nat.mod_eq_sub_mod l,Nat.mod_eq_of_lt (by omega)];omega
   rw [zfR (by rw [hA.len];omega),if_pos rfl,zfR (by rw [hA.len];omega),if_neg ne]
   exact hr j
theorem zpL {k n:Nat} {d:D} {way:Int} (hp:zcp k d) (hk:k<=1000) (hn:n<=6) (h1:1<=n) (w0:0<=way) (w3:way < 3) :
  ∃ A d',zen [d,.int (n:Int),.int way]=.ok (zad A,[d',.int (n:Int),.int way])/\Sq n 1100 A/\(way=1->zvO n A)/\(way=2->Reg n A)/\zcp (k + 200) d':=by
 have q0:zbS (W8 d n way .no .no .no .no .no .no)=.ok (zad (zat n),W8 d n way .no .no .no .no .no .no):=by
  unfold zbS
  rw [zaE (f0:=fun i:Nat=>.int (i:Int)) (xs:=List.range n) (fun i=>zal (zeH n i)) (zh7 (by omega) rfl) (by rw [List.length_range];show n<=1000000;omega) fun i mi=>?_]
  ·rw [show zad (zat n)=.list ((List.range n).map fun i=>zal (zeH n i)) by unfold zad zat;rw [List.map_map];rfl]
  ·refine ⟨[.val (.int (i:Int)),.val (.int (n:Int))],rfl,?_,zaH trivial⟩
   simp only [zaf,zaa,eV,zz1,zz0,zai,zac,zn4 (show n<=1000 by omega)]
 have s0:zeJ 3 zbS (W8 d n way .no .no .no .no .no .no)=.ok (.nx,W9 d n way (zat n) .no .no .no .no .no):=zdM (i:=3) (x:=.no) q0 rfl zbI
 have fin:∀ (A:List (List Rat)) (d':D) (z4 z5 z6 z7 z8:Sl),za5 (W8 d n way .no .no .no .no .no .no)=.ok (.rf (zad A),E9 (.ow true d') (.val (.int (n:Int))) (.val (.int way)) (.ow false (zad A)) z4 z5 z6 z7 z8)->zen [d,.int (n:Int),.int way]=.ok (zad A,[d',.int (n:Int),.int way]):=fun A d' z4 z5 z6 z7 z8 e=>by
  show (za5 (W8 d n way .no .no .no .no .no .no)).bind _=_
  rw [e]
  rfl
 have nw:=neI way 2
 have ew1:eqD (.int way) (.int 1)=.ok (.bool (decide (way=1))):=zbp _ _
 have ew2:eqD (.int way) (.int 2)=.ok (.bool (decide (way=2))):=zbp _ _
 have gn:gtD (.int (n:Int)) (.int 1)=.ok (.bool (decide ((1:Int) < (n:Int)))):=zvf _ _
 have h36:3 * n * n<=108:=Nat.le_trans (Nat.mul_le_mul (Nat.mul_le_mul_left 3 hn) hn) (by decide)
 by_cases c2:way=2
 ·subst c2
  have t1:∀ a3,tB (FL.e2 neD (eV 2) (eC (.int 2))) (W8 d n 2 a3 .no .no .no .no .no)=.ok (false,W8 d n 2 a3 .no .no .no .no .no):=fun a3=>by
   simp only [tB,FL.e2,eV,zz1,zz0,eC,zac,nw]
   rfl
  have t2:∀ a3,tB (FL.e2 eqD (eV 2) (eC (.int 1))) (W8 d n 2 a3 .no .no .no .no .no)=.ok (false,W8 d n 2 a3 .no .no .no .no .no):=fun a3=>by
   simp only [tB,FL.e2,eV,zz1,zz0,eC,zac,ew1]
   rfl
  by_cases cn:(1:Int) < (n:Int)
  ·rw [decide_eq_true cn] at gn
   obtain ⟨A,d',z6,z7,z8,ew,hA,hR,pp⟩:=zrS (w:=2) (a4:=.no) (a5:=.no) hp (by omega) hn (by omega) zbI zbI zbI
   refine ⟨A,d',fin A d' .no .no z6 z7 z8 ?_,hA,(fun z=>by omega),(fun _=>hR),pp.mono (by omega)⟩
   have t3:FL.zmH (tB (FL.e2 eqD (eV 2) (eC (.int 2)))) (tB (FL.e2 gtD (eV 1) (eC (.int 1)))) (W9 d n 2 (zat n) .no .no .no .no .no)=.ok (true,W9 d n 2 (zat n) .no .no .no .no .no):=by
    simp only [FL.zmH,tB,FL.e2,eV,zz1,zz0,eC,zac,ew2,decide_true,gn,if_true]
   unfold za5
   rw [zah s0]
   rw [zah (show sIf _ _ sNx (W9 d n 2 (zat n) .no .no .no .no .no)=.ok (.nx,_) by rw [sIf,t1,zac,if_neg (by simp)];rfl)]
   rw [zah (show sIf _ _ sNx (W9 d n 2 (zat n) .no .no .no .no .no)=.ok (.nx,_) by rw [sIf,t2,zac,if_neg (by simp)];rfl)]
   rw [zah (show sIf (FL.zmH (tB (FL.e2 eqD (eV 2) (eC (.int 2)))) (tB (FL.e2 gtD (eV 1) (eC (.int 1))))) zaW sNx (W9 d n 2 (zat n) .no .no .no .no .no)=.ok (.nx,_) by rw [sIf,t3,zac,if_pos rfl];exact ew)]
   rfl
  ·rw [decide_eq_false cn] at gn
   refine ⟨zat n,d,fin (zat n) d .no .no .no .no .no ?_,⟨zcx n,fun r hr=>?_⟩,(fun z=>by omega),(fun _=>znI n),hp.mono (by omega)⟩
   ·have t3:FL.zmH (tB (FL.e2 eqD (eV 2) (eC (.int 2)))) (tB (FL.e2 gtD (eV 1) (eC (.int 1)))) (W9 d n 2 (zat n) .no .no .no .no .no)=.ok (false,W9 d n 2 (zat n) .no .no .no .no .no):=by
     simp only [FL.zmH,tB,FL.e2,eV,zz1,zz0,eC,zac,ew2,decide_true,gn,if_true]
    unfold za5
    rw [zah s0]
    rw [zah (show sIf _ _ sNx (W9 d n 2 (zat n) .no .no .no .no .no)=.ok (.nx,_) by rw [sIf,t1,zac,if_neg (by simp)];rfl)]
    rw [zah (show sIf _ _ sNx (W9 d n 2 (zat n) .no .no .no .no .no)=.ok (.nx,_) by rw [sIf,t2,zac,if_neg (by simp)];rfl)]
    rw [zah (show sIf (FL.zmH (tB (FL.e2 eqD (eV 2) (eC (.int 2)))) (tB (FL.e2 gtD (eV 1) (eC (.int 1))))) zaW sNx (W9 d n 2 (zat n) .no .no .no .no .no)=.ok (.nx,_) by rw [sIf,t3,zac,if_neg (by simp)];rfl)]
    rfl
   ·obtain ⟨p,_,rfl⟩:=List.mem_map.mp hr
    exact ⟨zfw n p,fun x hx=>(zkb n p x hx).mono (by decide)⟩
 ·rw [decide_eq_false c2] at nw ew2
  obtain ⟨A,d1,eq,hA,p1⟩:=zxw (n:=n) (k:=k) (a2:=.val (.int way)) (a3:=.ow false (zad (zat n))) (a4:=.no) (a5:=.no) (a6:=.no) (a7:=.no) (a8:=.no) hp (by omega) (by omega)
  have t1:tB (FL.e2 neD (eV 2) (eC (.int 2))) (W9 d n way (zat n) .no .no .no .no .no)=.ok (true,W9 d n way (zat n) .no .no .no .no .no):=by
   simp only [tB,FL.e2,eV,zz1,zz0,eC,zac,nw]
   rfl
  have s1:sIf (tB (FL.e2 neD (eV 2) (eC (.int 2)))) (zeJ 3 zbR) sNx (W9 d n way (zat n) .no .no .no .no .no)=.ok (.nx,W9 d1 n way A .no .no .no .no .no):=by
   rw [sIf,t1,zac,if_pos rfl]
   exact zdM (i:=3) (x:=.ow false (zad (zat n))) eq rfl (zwM _)
  have t3:∀ d2 A2 z4 z5,FL.zmH (tB (FL.e2 eqD (eV 2) (eC (.int 2)))) (tB (FL.e2 gtD (eV 1) (eC (.int 1)))) (W9 d2 n way A2 z4 z5 .no .no .no)=.ok (false,W9 d2 n way A2 z4 z5 .no .no .no):=fun d2 A2 z4 z5=>by
   simp only [FL.zmH,tB,FL.e2,eV,zz1,zz0,eC,zac,ew2,Bool.false_eq_true,if_false]
  by_cases c1:way=1
  ·subst c1
   obtain ⟨A2,d2,z4,z5,es,hA2,hS,p2⟩:=zuc (a4:=.no) (a5:=.no) (a6:=.no) (a7:=.no) (a8:=.no) p1 (by omega) hA hn h1 zbI zbI
   refine ⟨A2,d2,fin A2 d2 z4 z5 .no .no .no ?_,⟨hA2.len,fun r hr=>⟨(hA2.row r hr).1,fun x hx=>((hA2.row r hr).2 x hx).mono (by decide)⟩⟩,(fun _=>hS),(fun z=>by omega),p2.mono (by omega)⟩
   have t2:tB (FL.e2 eqD (eV 2) (eC (.int 1))) (W9 d1 n 1 A .no .no .no .no .no)=.ok (true,W9 d1 n 1 A .no .no .no .no .no):=by
    simp only [tB,FL.e2,eV,zz1,zz0,eC,zac,ew1]
    rfl
   unfold za5
   rw [zah s0,zah s1]
   rw [zah (show sIf (tB (FL.e2 eqD (eV 2) (eC (.int 1)))) _ sNx (W9 d1 n 1 A .no .no .no .no .no)=.ok (.nx,_) by rw [sIf,t2,zac,if_pos rfl];exact es)]
   rw [zah (show sIf (FL.zmH (tB (FL.e2 eqD (eV 2) (eC (.int 2)))) (tB (FL.e2 gtD (eV 1) (eC (.int 1))))) zaW sNx (W9 d2 n 1 A2 z4 z5 .no .no .no)=.ok (.nx,_) by rw [sIf,t3,zac,if_neg (by simp)];rfl)]
   rfl
  ·rw [decide_eq_false c1] at ew1
   refine ⟨A,d1,fin A d1 .no .no .no .no .no ?_,⟨hA.len,fun r hr=>⟨(hA.row r hr).1,fun x hx=>((hA.row r hr).2 x hx).mono (by decide)⟩⟩,(fun z=>absurd z c1),(fun z=>absurd z c2),p1.mono (by omega)⟩
   have t2:tB (FL.e2 eqD (eV 2) (eC (.int 1))) (W9 d1 n way A .no .no .no .no .no)=.ok (false,W9 d1 n way A .no .no .no .no .no):=by
    simp only [tB,FL.e2,eV,zz1,zz0,eC,zac,ew1]
   unfold za5
   rw [zah s0,zah s1]
   rw [zah (show sIf (tB (FL.e2 eqD (eV 2) (eC (.int 1)))) _ sNx (W9 d1 n way A .no .no .no .no .no)=.ok (.nx,_) by rw [sIf,t2,zac,if_neg (by simp)];rfl)]
   rw [zah (show sIf (FL.zmH (tB (FL.e2 eqD (eV 2) (eC (.int 2)))) (tB (FL.e2 gtD (eV 1) (eC (.int 1))))) zaW sNx (W9 d1 n way A .no .no .no .no .no)=.ok (.nx,_) by rw [sIf,t3,zac,if_neg (by simp)];rfl)]
   rfl
end FL
namespace K06
open PySem FL
def zj2:SF:=(zav (zmy (e1 (zbe "int") (eV 0)) (zxu (e1 (zbe "bool") (eV 0)))))
def zgH:List D->R D:=za0 false 1 1 zj2
def zcK:SF:=(zhR (zdL 3) (tB (e2 neD (eV 3) (eC (.int 0)))) (zi6 2 3 (eV 3) (e2 zgO (eV 2) (eV 3))))
def zdC:SF:=(zan (zi6 2 3 (e1 zrt (eV 0)) (e1 zrt (eV 1)))
  (zan zcK
  (zav (eV 2))))
def zaG:List D->R D:=za0 false 2 4 zdC
def zgM:EF:=(zaz 1 [0] (iR1 (zaa (eV 1) zai)) (gN 0) zaK (eIf (tB (e2 eqD (eV 0) (eV 1))) (eC (.tuple [(.int 1),(.int 1)])) (eC (.tuple [(.int 0),(.int 1)]))))
def zj1:SF:=(zba zgM)
def zj9:List D->R D:=za0 true 2 2 zj1
def zhK:SF:=(sIf (tB (e2 neD (eV 2) (eC (.int 0)))) (zav (eV 1)) sNx)
def zhD:SF:=(zeQ (zvc (zaa (eV 0) zai)) (gT [(gN 1),(gN 2)]) zhK)
def zmb:SF:=(zan zhD
  (zav (eC .none)))
def zmu:List D->R D:=za0 false 1 3 zmb
def zg1:SF:=(zan (zaC (gN 2) (e2 za8 (e2 za8 (e2 zbd (e2 za8 (e2 zgO (eV 0) (e2 za8 (e2 zjF (eC (.int 10)) (eC (.int 18))) (eC (.int 9)))) (e2 zbd (eC (.int 7)) (eV 1))) (eC (.int 739108512309184756019283746561))) (e2 zbd (eC (.int 7919)) (eV 1))) (eC (.int 1))))
  (zan (zaC (gN 2) (e2 zgO (e2 zbd (eV 2) (eV 2)) (e2 za8 (e2 zjF (eC (.int 10)) (eC (.int 60))) (eC (.int 7)))))
  (zav (e2 zgO (e2 zbd (e2 za8 (eV 2) (eC (.int 40503))) (e2 za8 (eV 2) (eC (.int 57)))) (e2 za8 (e2 zjF (eC (.int 10)) (eC (.int 60))) (eC (.int 7)))))))
def zes:List D->R D:=za0 false 2 3 zg1
def zme:SF:=(zan (sIf (tB (e2 ltD (eV 1) (e1 zcI (eV 0)))) (zav (e2 ixD (eV 0) (eV 1))) sNx)
  (zav (e2 za8 (e2 zbd (eC (.int 3)) (eV 1)) (eC (.int 1)))))
def zgc:List D->R D:=za0 false 2 2 zme
def zgK:SF:=(zhR (zdL 3) (tB (e2 neD (eV 3) (eC (.int 0)))) (zi6 2 3 (eV 3) (e2 zgO (eV 2) (eV 3))))
def zj4:SF:=(zan (zaC (gN 2) (e1 zrt (eV 0)))
  (zan (zaC (gN 3) (eV 1))
  (zan zgK
  (zav (zcv (zaa (e2 zaL (eV 0) (eV 2)) (zaa (e2 zaL (eV 1) (eV 2)) zai)))))))
def zcw:List D->R D:=za0 false 2 4 zj4
def zej:SF:=(zav (zmy (e1 (zbe "int") (eV 0)) (zxu (e1 (zbe "bool") (eV 0)))))
def zcH:List D->R D:=za0 false 1 1 zej
def zfD:EF:=(zaz 1 [1] (iR1 (zaa (eV 0) zai)) (gN 0) zaK (zcv (zaa (e1 intD (e2 eqD (eV 0) (eV 1))) (zaa (eC (.int 1)) zai))))
def ziI:SF:=(zba zfD)
def zds:List D->R D:=za0 true 2 2 ziI
def zeR:EF:=(zaz 1 [] (iR1 (zaa (eV 0) zai)) (gN 0) zaK (zcv (zaa (eC (.int 0)) (zaa (eC (.int 1)) zai))))
def zg2:SF:=(zba zeR)
def zhb:List D->R D:=za0 true 1 1 zg2
def zbh:EF:=(zaz 1 [] (iE (eV 0)) (gN 0) (tB (e2 neD (e2 ixD (eV 0) (eC (.int 0))) (eC (.int 0)))) (eV 0))
def zbU:SF:=(zav (e2 eqD zbh (zc9 zai)))
def zbg:List D->R D:=za0 false 1 1 zbU
def ziH:SF:=(zan (sIf (FL.tOr (FL.zbX (tE (e1 (zbe "tuple") (eV 0)))) (tB (e2 neD (e1 zcI (eV 0)) (eC (.int 2))))) (zav (eC (.bool false))) sNx)
  (zan (zaC (gT [(gN 1),(gN 2)]) (eV 0))
  (zan (sIf (FL.tOr (FL.zbX (tE (zaf zgH (zaa (eV 1) zai)))) (FL.tOr (FL.zbX (tE (zaf zgH (zaa (eV 2) zai)))) (tB (e2 ltD (eV 2) (eC (.int 1)))))) (zav (eC (.bool false))) sNx)
  (zav (e2 eqD (zaf zaG (zaa (eV 1) (zaa (eV 2) zai))) (eC (.int 1)))))))
def zi2:List D->R D:=za0 false 1 3 ziH
def zj3:SF:=(zan (sIf (tB (e2 eqD (eV 1) (eC (.int 0)))) zoO sNx)
  (zan (zaC (gN 2) (zaf zaG (zaa (eV 0) (zaa (eV 1) zai))))
  (zan (sIf (tB (e2 ltD (eV 1) (eC (.int 0)))) (zaC (gN 2) (e1 zpr (eV 2))) sNx)
  (zav (zcv (zaa (e2 zaL (eV 0) (eV 2)) (zaa (e2 zaL (eV 1) (eV 2)) zai)))))))
def zgI:List D->R D:=za0 false 2 3 zj3
def ztY:SF:=(zan (zaC (gN 2) (zaf zaG (zaa (e2 ixD (eV 0) (eC (.int 1))) (zaa (e2 ixD (eV 1) (eC (.int 1))) zai))))
  (zan (zi6 3 4 (e2 zaL (e2 ixD (eV 0) (eC (.int 1))) (eV 2)) (e2 zaL (e2 ixD (eV 1) (eC (.int 1))) (eV 2)))
  (zan (zaC (gN 5) (e2 za8 (e2 zbd (e2 ixD (eV 0) (eC (.int 0))) (eV 4)) (e2 zbd (e2 ixD (eV 1) (eC (.int 0))) (eV 3))))
  (zan (zaC (gN 6) (zaf zaG (zaa (eV 5) (zaa (eV 2) zai))))
  (zav (zcv (zaa (e2 zaL (eV 5) (eV 6)) (zaa (e2 zbd (eV 3) (e2 zaL (e2 ixD (eV 1) (eC (.int 1))) (eV 6))) zai))))))))
def zt1:List D->R D:=za0 false 2 7 ztY
def zrn:SF:=(zan (zi6 2 3 (zaf zaG (zaa (e2 ixD (eV 0) (eC (.int 0))) (zaa (e2 ixD (eV 1) (eC (.int 1))) zai))) (zaf zaG (zaa (e2 ixD (eV 1) (eC (.int 0))) (zaa (e2 ixD (eV 0) (eC (.int 1))) zai))))
  (zav (zcv (zaa (e2 zbd (e2 zaL (e2 ixD (eV 0) (eC (.int 0))) (eV 2)) (e2 zaL (e2 ixD (eV 1) (eC (.int 0))) (eV 3))) (zaa (e2 zbd (e2 zaL (e2 ixD (eV 0) (eC (.int 1))) (eV 3)) (e2 zaL (e2 ixD (eV 1) (eC (.int 1))) (eV 2))) zai)))))
def zrG:List D->R D:=za0 false 2 4 zrn
def zhI:SF:=(zan (zaC (gN 1) (zaf zaG (zaa (eV 1) (zaa (eV 2) zai))))
  (sIf (tB (e2 eqD (eV 1) (eC (.int 1)))) zv6 sNx))
def zhB:SF:=(zeQ (iE (eV 0)) (gN 2) zhI)
def zhS:EF:=(zaz 1 [1] (iE (eV 0)) (gN 0) zaK (e2 zaL (eV 0) (eV 1)))
def zl9:SF:=(zan (zaC (gN 1) (eC (.int 0)))
  (zan zhB
  (zan (sIf (tB (e2 eqD (eV 1) (eC (.int 0)))) (zav (eV 0)) sNx)
  (zav zhS))))
def zi0:List D->R D:=za0 false 1 3 zl9
def zg0:SF:=(zan (sIf (tB (e2 geD (eV 0) (e2 zjF (eC (.int 10)) (eC (.int 18))))) (zba (zc9 (zaa (e2 zge (eV 0) (e2 zjF (eC (.int 10)) (eC (.int 18)))) (zaa (eC (.int 0)) (zaa (eV 1) zai))))) sNx)
  (zba (zc9 (zaa (zaf zes (zaa (eV 0) (zaa (eV 1) zai))) (zaa (eC (.int 0)) (zaa (e2 za8 (e2 zgO (eV 0) (e2 za8 (e2 zjF (eC (.int 10)) (eC (.int 18))) (eC (.int 9)))) (eV 1)) zai))))))
def zcP:List D->R D:=za0 true 2 2 zg0
def ziJ:SF:=(zan (sIf (tB (e2 ltD (m2 ixD 0 (eC (.int 0))) (eV 1))) (zan (setM 0 (e2 za8 (m2 ixD 0 (eC (.int 1))) (eC (.int 1))) (eC (.int 1)))
  (setM 0 (e2 za8 (m2 ixD 0 (eC (.int 0))) (e2 zbd (eV 1) (zaf zes (zaa (m2 ixD 0 (eC (.int 2))) (zaa (e2 za8 (e2 zbd (eC (.int 11)) (m2 ixD 0 (eC (.int 1)))) (eC (.int 5))) zai))))) (eC (.int 0)))) sNx)
  (zan (zaC (gN 2) (e2 zgO (m2 ixD 0 (eC (.int 0))) (eV 1)))
  (zan (setM 0 (e2 zaL (m2 ixD 0 (eC (.int 0))) (eV 1)) (eC (.int 0)))
  (zav (eV 2)))))
def zar:List D->R (D × List D):=run [true,false] false 3 ziJ
def ziK:SF:=(zav (zaf zcw (zaa (e2 za8 (e2 zbd (e2 ixD (eV 0) (eC (.int 0))) (e2 ixD (eV 1) (eC (.int 1)))) (e2 zbd (e2 ixD (eV 1) (eC (.int 0))) (e2 ixD (eV 0) (eC (.int 1))))) (zaa (e2 zbd (e2 ixD (eV 0) (eC (.int 1))) (e2 ixD (eV 1) (eC (.int 1)))) zai))))
def zfq:List D->R D:=za0 false 2 2 ziK
def zmd:SF:=(zav (zaf zcw (zaa (e2 zbd (e2 ixD (eV 0) (eC (.int 0))) (e2 ixD (eV 1) (eC (.int 0)))) (zaa (e2 zbd (e2 ixD (eV 0) (eC (.int 1))) (e2 ixD (eV 1) (eC (.int 1)))) zai))))
def zi4:List D->R D:=za0 false 2 2 zmd
def zdD:SF:=(zan (sIf (FL.tOr (FL.zbX (tE (e1 (zbe "tuple") (eV 0)))) (tB (e2 neD (e1 zcI (eV 0)) (eC (.int 2))))) (zav (eC (.bool false))) sNx)
  (zan (sIf (FL.tOr (FL.zbX (tE (zaf zcH (zaa (e2 ixD (eV 0) (eC (.int 0))) zai)))) (FL.zbX (tE (zaf zcH (zaa (e2 ixD (eV 0) (eC (.int 1))) zai))))) (zav (eC (.bool false))) sNx)
  (zav (zmy (e2 geD (e2 ixD (eV 0) (eC (.int 1))) (eC (.int 1))) (e2 eqD (zaf zcw (zaa (e2 ixD (eV 0) (eC (.int 0))) (zaa (e2 ixD (eV 0) (eC (.int 1))) zai))) (eV 0))))))
def zdF:List D->R D:=za0 false 1 1 zdD
def zjB:EF:=(zaz 1 [] (iE (eV 0)) (gN 0) zaK (zaf zi2 (zaa (eV 0) zai)))
def zoy:SF:=(zav (zmy (e1 (zbe "list") (eV 0)) (e1 zvD zjB)))
def zoF:List D->R D:=za0 false 1 1 zoy
def zhJ:SF:=(zaC (gN 2) (zaf zt1 (zaa (eV 2) (zaa (zaf zrG (zaa (eV 3) (zaa (eV 4) zai))) zai))))
def zhC:SF:=(zeQ (zpe (zaa (eV 0) (zaa (eV 1) zai))) (gT [(gN 3),(gN 4)]) zhJ)
def zma:SF:=(zan (zaC (gN 2) (eC (.tuple [(.int 0),(.int 1)])))
  (zan zhC
  (zav (eV 2))))
def zmt:List D->R D:=za0 false 2 5 zma
def zfx:SF:=(zaC (gN 1) (e2 zbd (e2 zaL (eV 1) (zaf zaG (zaa (eV 1) (zaa (e2 ixD (eV 2) (eC (.int 1))) zai)))) (e2 ixD (eV 2) (eC (.int 1)))))
def zft:SF:=(zeQ (iE (eV 0)) (gN 2) zfx)
def zfz:EF:=(zaz 1 [1] (iE (eV 0)) (gN 0) zaK (e2 zbd (e2 ixD (eV 0) (eC (.int 0))) (e2 zaL (eV 1) (e2 ixD (eV 0) (eC (.int 1))))))
def ziC:SF:=(zan (zaC (gN 1) (eC (.int 1)))
  (zan zft
  (zav (zaf zi0 (zaa zfz zai)))))
def ziZ:List D->R D:=za0 false 1 3 ziC
def zhU:EF:=(zaz 2 [0,1,2] (zpe (zaa (eV 0) (zaa (eV 1) zai))) (gT [(gN 0),(gN 1)]) zaK (e2 zge (e2 zbd (e2 ixD (eV 3) (eV 4)) (eV 0)) (e2 zbd (e2 ixD (eV 2) (eV 4)) (eV 1))))
def zmc:SF:=(zan (sIf (tB (e2 eqD (e2 ixD (eV 0) (eV 2)) (eC (.int 0)))) (zav (eV 0)) sNx)
  (zav (zaf zi0 (zaa zhU zai))))
def zi3:List D->R D:=za0 false 3 3 zmc
def zeP:SF:=(setM 3 (zaf zgI (zaa (e1 zpr (e2 ixD (e2 zjS (eV 0) (eV 4)) (eV 1))) (zaa (e2 ixD (e2 zjS (eV 0) (eV 4)) (eV 4)) zai))) (eV 4))
def zeO:SF:=(zeQ (iD (eV 0)) (gN 4) zeP)
def zgZ:SF:=(zan (zeJ 3 (zxV (eC (.tuple [(.int 0),(.int 1)])) (eV 2)))
  (zan (setM 3 (eC (.tuple [(.int 1),(.int 1)])) (eV 1))
  (zan zeO
  (zoN 3))))
def zha:List D->R D:=za0 true 3 5 zgZ
def zf0:SF:=(zan (zaC (gN 1) (zam zar [.m 0,.v (eC (.int 6))]))
  (zan (sIf (tB (e2 ltD (eV 1) (eC (.int 3)))) (zav (e2 ixD (zc9 (zaa (zcv (zaa (eC (.int 0)) (zaa (eC (.int 1)) zai))) (zaa (zcv (zaa (eC (.int 1)) (zaa (eC (.int 1)) zai))) (zaa (zcv (zaa (e1 zpr (eC (.int 1))) (zaa (eC (.int 1)) zai))) zai)))) (eV 1))) sNx)
  (zan (sIf (tB (e2 ltD (eV 1) (eC (.int 5)))) (zav (zaf zcw (zaa (e2 zge (zam zar [.m 0,.v (eC (.int 13))]) (eC (.int 6))) (zaa (e2 za8 (eC (.int 1)) (e2 zbd (zam zar [.m 0,.v (eC (.int 4))]) (e2 zge (eV 1) (eC (.int 3))))) zai)))) sNx)
  (zav (zaf zcw (zaa (e2 zge (zam zar [.m 0,.v (e2 za8 (e2 zbd (eC (.int 2)) (e2 zjF (eC (.int 10)) (eC (.int 4)))) (eC (.int 1)))]) (e2 zjF (eC (.int 10)) (eC (.int 4)))) (zaa (e2 za8 (eC (.int 1)) (zam zar [.m 0,.v (eC (.int 30))])) zai)))))))
def zcs:List D->R (D × List D):=run [true] false 2 zf0
def zdX:EF:=(zaz 1 [] (iE (eV 0)) (gN 0) (FL.zbX (tE (zaf zdF (zaa (eV 0) zai)))) (eV 0))
def zf1:SF:=(zan (sIf (FL.tOr (FL.zbX (tE (e1 (zbe "list") (eV 0)))) (tB (e2 neD (e1 zcI (eV 0)) (eV 1)))) (zav (eC (.bool false))) sNx)
  (zav (e2 eqD zdX (zc9 zai))))
def zbj:List D->R D:=za0 false 2 2 zf1
def zeS:EF:=(zaz 2 [] (zpe (zaa (eV 0) (zaa (eV 1) zai))) (gT [(gN 0),(gN 1)]) zaK (zaf zfq (zaa (eV 0) (zaa (eV 1) zai))))
def zg3:SF:=(zba zeS)
def zhc:List D->R D:=za0 true 2 2 zg3
def zdW:EF:=(zaz 1 [0] (iE (eV 1)) (gN 0) zaK (zaf zi4 (zaa (eV 1) (zaa (eV 0) zai))))
def zfZ:SF:=(zba zdW)
def zcr:List D->R D:=za0 true 2 2 zfZ
def zdu:SF:=(zaC (gN 2) (zaf zfq (zaa (eV 2) (zaa (zaf zi4 (zaa (eV 3) (zaa (eV 4) zai))) zai))))
def zdt:SF:=(zeQ (zpe (zaa (eV 0) (zaa (eV 1) zai))) (gT [(gN 3),(gN 4)]) zdu)
def ze0:SF:=(zan (zaC (gN 2) (zcv (zaa (eC (.int 0)) (zaa (eC (.int 1)) zai))))
  (zan zdt
  (zav (eV 2))))
def zbx:List D->R D:=za0 false 2 5 ze0
def ziG:SF:=(zav (zmy (zaf zoF (zaa (eV 0) zai)) (e2 eqD (e1 zcI (eV 0)) (eV 1))))
def zi1:List D->R D:=za0 false 2 2 ziG
def zc3:SF:=(zaC (gN 3) (zaf zi3 (zaa (eV 3) (zaa (e2 zjS (eV 1) (eV 4)) (zaa (eV 4) zai)))))
def zc1:SF:=(zeQ (iD (eV 1)) (gN 4) zc3)
def zc4:EF:=(zjQ 1 [1,3,5] (iD (eV 1)) (gN 0) zaK (eV 0) (zaf zi3 (zaa (e2 zjS (eV 1) (eV 0)) (zaa (eV 2) (zaa (eV 3) zai)))))
def zc2:SF:=(zan (zaC (gN 3) (zaf ziZ (zaa (eV 2) zai)))
  (zan zc1
  (zan (zaC (gN 5) (zaf zmu (zaa (eV 3) zai)))
  (sIf (tB (e2 zwO (eV 5) (eC .none))) (zan (zeJ 1 zc4)
  (zeI 1 (zsW 1 (eV 5) (eV 3)))) sNx))))
def zc0:SF:=(zeQ (iE (eV 0)) (gN 2) zc2)
def zei:SF:=(zan (zeJ 1 zom)
  (zan (zv5 1 zc0)
  (zav (eV 1))))
def zcG:List D->R D:=za0 false 1 6 zei
def zdz:EF:=(zaz 1 [0] (iE (eV 1)) (gN 0) zaK (e2 ixD (eV 0) (eV 1)))
def zdy:EF:=(zaz 1 [1] (iR1 (zaa (e1 zcI (eV 1)) zai)) (gN 0) zaK zdz)
def zdx:EF:=(zaz 1 [0] (iE (eV 1)) (gN 0) zaK (zaf zmt (zaa (eV 1) (zaa (eV 0) zai))))
def zdw:EF:=(zaz 1 [2] (iE (eV 0)) (gN 0) zaK zdx)
def zeZ:SF:=(zan (zaC (gN 2) zdy)
  (zba zdw))
def ze5:List D->R D:=za0 true 2 3 zeZ
def zbz:EF:=(zaz 1 [1] (iE (eV 0)) (gN 0) (FL.zbX (tE (zaf zbj (zaa (eV 0) (zaa (eV 1) zai))))) (eV 0))
def zb8:SF:=(zav (zmy (e1 (zbe "list") (eV 0)) (e2 eqD zbz (zc9 zai))))
def zby:List D->R D:=za0 false 2 2 zb8
def zdV:EF:=(zaz 1 [1] (iR1 (zaa (eV 1) zai)) (gN 0) zaK (zaf zds (zaa (eV 1) (zaa (eV 0) zai))))
def zdU:EF:=(zaz 1 [1] (iR1 (zaa (eV 2) zai)) (gN 0) zaK (zam zcs [.m 1]))
def zdT:EF:=(zaz 1 [0,1] (iR1 (zaa (eV 1) zai)) (gN 0) zaK zdU)
def zdJ:SF:=(zan (zaC (gN 7) (zam zar [.m 0,.v (eV 1)]))
  (zan (zaC (gN 8) (e2 zgO (e2 za8 (e2 za8 (eV 7) (eC (.int 1))) (zam zar [.m 0,.v (e2 zge (eV 1) (eC (.int 1)))])) (eV 1)))
  (setM 3 (zaf zhc (zaa (m2 ixD 3 (eV 7)) (zaa (zaf zcr (zaa (zam zcs [.m 0]) (zaa (m2 ixD 3 (eV 8)) zai))) zai))) (eV 7))))
def zdH:SF:=(zeQ (iR1 (zaa (eC (.int 6)) zai)) (gN 6) zdJ)
def zfY:SF:=(zan (zeJ 3 zdV)
  (zan (sIf (tB (e2 neD (eV 2) (eC (.int 2)))) (zeJ 3 zdT) sNx)
  (zan (sIf (tB (e2 eqD (eV 2) (eC (.int 1)))) (zan (zaC (gN 4) (zam zar [.m 0,.v (eV 1)]))
  (zan (zaC (gN 5) (zaf zcr (zaa (zam zcs [.m 0]) (zaa (m2 ixD 3 (e2 zgO (e2 za8 (eV 4) (eC (.int 1))) (eV 1))) zai))))
  (zan (sIf (tB (e2 ltD (eV 1) (eC (.int 3)))) (zaC (gN 5) (zaf zcr (zaa (zcv (zaa (zam zar [.m 0,.v (eC (.int 2))]) (zaa (eC (.int 1)) zai))) (zaa (eV 5) zai)))) sNx)
  (setM 3 (e2 ixD (zc9 (zaa (eV 5) (zaa (zaf zhb (zaa (eV 1) zai)) zai))) (e1 intD (e2 eqD (eV 1) (eC (.int 1))))) (eV 4))))) sNx)
  (zan (sIf (FL.zmH (tB (e2 eqD (eV 2) (eC (.int 2)))) (tB (e2 gtD (eV 1) (eC (.int 1))))) zdH sNx)
  (zoN 3)))))
def zcq:List D->R (D × List D):=run [true,false,false] true 9 zfY
def zfB:EF:=(zaz 1 [0,1] (iE (e2 zjS (eV 1) (eV 0))) (gN 0) zaK (zaf zgI (zaa (eV 0) (zaa (e2 ixD (e2 zjS (eV 2) (eV 1)) (eV 1)) zai))))
def zfA:EF:=(zaz 1 [1] (iE (e1 zjz (eV 1))) (gN 0) zaK zfB)
def ziE:SF:=(zan (zaC (gN 1) (zaf zcG (zaa (eV 0) zai)))
  (zba zfA))
def zfo:List D->R D:=za0 true 1 2 ziE
def zfC:EF:=(zaz 1 [0] (iE (eV 0)) (gN 0) zaK (zaf zi1 (zaa (eV 0) (zaa (e1 zcI (eV 1)) zai))))
def ziF:SF:=(zan (sIf (FL.tOr (FL.zbX (tE (e1 (zbe "list") (eV 0)))) (FL.zbX (tB (zjR leD leD (eC (.int 1)) (e1 zcI (eV 0)) (eV 1))))) (zav (eC (.bool false))) sNx)
  (zav (e1 zvD zfC)))
def zfp:List D->R D:=za0 false 2 2 ziF
def zdO:EF:=(zaz 1 [1,2] (iR1 (zaa (eV 1) zai)) (gN 0) (tB (e2 zvL (eV 0) (eV 2))) (zaf zha (zaa (eV 2) (zaa (eV 0) (zaa (eV 1) zai)))))
def zfW:SF:=(zan (zaC (gN 2) (zaf zcG (zaa (eV 0) zai)))
  (zba (zaf zfo (zaa zdO zai))))
def zgb:List D->R D:=za0 true 2 3 zfW
def zle:SF:=(sIf (FL.zbX (tE (zaf zfp (zaa (eV 3) (zaa (eC (.int 6)) zai))))) zoO sNx)
def zlb:SF:=(zeQ (zvc (zaa (zc9 (zaa (eV 0) (zaa (eV 1) zai))) zai)) (gT [(gN 2),(gN 3)]) zle)
def zro:SF:=(zan zlb
  (zan (sIf (tB (e2 neD (e1 zcI (eV 0)) (e1 zcI (eV 1)))) zoO sNx)
  (zba (zaf ze5 (zaa (eV 0) (zaa (eV 1) zai))))))
def zer:List D->R D:=za0 true 2 4 zro
def zdS:EF:=(zaz 1 [1] (iR1 (zaa (eV 1) zai)) (gN 0) zaK (zaf zj9 (zaa (eV 0) (zaa (eV 1) zai))))
def zdR:EF:=(zaz 2 [] (zpe (zaa (eV 0) (zaa (eV 2) zai))) (gT [(gN 0),(gN 1)]) zaK (e2 za8 (eV 0) (eV 1)))
def zdQ:EF:=(zaz 1 [1] (iE (eV 3)) (gN 0) zaK (eSl (eV 0) zi9 (zi8 (eV 1))))
def zdP:EF:=(zaz 1 [1] (iE (eV 3)) (gN 0) zaK (eSl (eV 0) (zi8 (eV 1)) zi9))
def zfX:SF:=(zan (sIf (FL.zbX (tE (zaf zfp (zaa (eV 0) (zaa (eC (.int 6)) zai))))) zoO sNx)
  (zan (zaC (gN 1) (e1 zcI (eV 0)))
  (zan (zeI 2 (zeJ 2 zdS))
  (zan (zaC (gN 3) (zaf zfo (zaa zdR zai)))
  (zan (sIf (tB (e2 eqD zdQ (eV 2))) (zav (zcv (zaa (eC (.str "back")) (zaa zdP zai)))) sNx)
  (zav (zcv (zaa (eC (.str "blind")) (zaa (e2 ixD (zaf zgb (zaa (eV 0) (zaa (eV 1) zai))) (eC (.int 0))) zai)))))))))
def zbW:List D->R D:=za0 false 1 4 zfX
def zgg:EF:=(zaz 1 [] (iE (eV 5)) (gN 0) zaK (e1 zwZ (eV 0)))
def zgf:EF:=(zaz 1 [3] (iR1 (zaa (eV 3) zai)) (gN 0) zaK (zaf zds (zaa (eV 1) (zaa (eV 0) zai))))
def zkj:EF:=(zaz 1 [0] (iE (e2 ixD (eV 2) (eC (.int 1)))) (gN 0) zaK (e2 ixD (eV 0) (eV 1)))
def zki:EF:=(zaz 1 [5,7,9] (iR1 (zaa (eV 3) zai)) (gN 0) zaK (zaf zbx (zaa (e2 ixD (eV 1) (eV 3)) (zaa zkj zai))))
def zhM:SF:=(sIf (tB (e2 neD zki (e2 ixD (eV 8) (eV 9)))) (zav (eC (.bool false))) sNx)
def zhE:SF:=(zeQ (iR1 (zaa (eV 3) zai)) (gN 9) zhM)
def zhT:EF:=(zaz 1 [7] (iE (eV 5)) (gN 0) (tB (e2 neD (e2 ixD (zaf zbx (zaa (eV 0) (zaa (e2 ixD (eV 1) (eC (.int 1))) zai))) (eC (.int 0))) (eC (.int 0)))) (eV 0))
def zhL:SF:=(zan (zeJ 2 (zaf zcP (zaa (eV 1) (zaa (eC (.int 6)) zai))))
  (zan (zaC (gN 3) (e2 za8 (eC (.int 1)) (zam zar [.m 2,.v (e2 ixD (zc9 (zaa (eC (.int 4)) (zaa (eC (.int 4)) (zaa (eC (.int 6)) zai)))) (zam zar [.m 2,.v (eC (.int 3))]))])))
  (zan (zaC (gN 4) (zam zar [.m 2,.v (eC (.int 3))]))
  (zan (zaC (gN 5) (zam zcq [.m 2,.v (eV 3),.v (eV 4)]))
  (zan (zeI 6 (zeJ 6 zgg))
  (zan (zaC (gN 7) (zaf zbW (zaa (eV 6) zai)))
  (zan (sIf (FL.tOr (tB (e2 neD (eV 6) (eV 5))) (FL.tOr (FL.zbX (tE (e1 (zbe "tuple") (eV 7)))) (tB (e2 neD (e1 zcI (eV 7)) (eC (.int 2)))))) (zav (eC (.bool false))) sNx)
  (sIf (tB (e2 eqD (e2 ixD (eV 7) (eC (.int 0))) (eC (.str "back")))) (zan (sIf (FL.tOr (FL.zbX (tE (zaf zby (zaa (e2 ixD (eV 7) (eC (.int 1))) (zaa (eV 3) zai))))) (FL.tOr (tB (e2 neD (e1 zcI (e2 ixD (eV 7) (eC (.int 1)))) (eV 3))) (tB (e2 eqD (eV 4) (eC (.int 1)))))) (zav (eC (.bool false))) sNx)
  (zan (zeI 8 (zeJ 8 zgf))
  (zan (sIf (FL.tOr (tB (e2 neD (zaf zer (zaa (eV 6) (zaa (e2 ixD (eV 7) (eC (.int 1))) zai))) (eV 8))) (tB (e2 neD (zaf zer (zaa (e2 ixD (eV 7) (eC (.int 1))) (zaa (eV 6) zai))) (eV 8)))) (zav (eC (.bool false))) sNx)
  zhE))) (zan (sIf (FL.tOr (tB (e2 neD (e2 ixD (eV 7) (eC (.int 0))) (eC (.str "blind")))) (FL.tOr (FL.zbX (tE (zaf zbj (zaa (e2 ixD (eV 7) (eC (.int 1))) (zaa (eV 3) zai))))) (FL.tOr (tE (zaf zbg (zaa (e2 ixD (eV 7) (eC (.int 1))) zai))) (tB (e2 eqD (eV 4) (eC (.int 2))))))) (zav (eC (.bool false))) sNx)
  (sIf (tB (e2 neD zhT (zc9 zai))) (zav (eC (.bool false))) sNx))))))))))
def zka:SF:=(zeQ (iE (e2 za8 (eSl (eV 0) zi9 (zi8 (eC (.int 3)))) (zc9 (zaa (zaf zgc (zaa (eV 0) (zaa (eC (.int 2)) zai))) zai)))) (gN 1) zhL)
def zs8:SF:=(zan zka
  (zav (eC (.bool true))))
def zrH:List D->R D:=za0 false 1 10 zs8
end K06
namespace K06
open PySem L2 PySem.Spec FL
open PyProof.Rows hiding St
def top (i:Nat):Stmt:=PySem.Challenge.pw_swaprest_k06_squares_back.main.body.getD i (.Pass ⟨0,0,0,0⟩)
variable [Cs]
structure Cst (mg:Str->Option Value) (zb0:Tok) (zb9:Addr) (zjp:Addr):Prop where
  zdd:mg "MOST_SIDE"=some (.int 6 zb0)
  zfL:mg "NOUGHT"=some (.ref zb9)
  v_NOUGHT:∃ o,Cs.C zb9=some (.frz o (.tup [.int 0,.int 1]))
  zsx:mg "ONE"=some (.ref zjp)
  v_ONE:∃ o,Cs.C zjp=some (.frz o (.tup [.int 1,.int 1]))
section
variable {P:Program} {w:World} {K:PySem.W.Frag} {mg:Str->Option Value} {base:Heap}
abbrev zj7:=CT "is_whole" 1 ["one"] 1 false zgH
abbrev zaN:=CT "common_divisor" 1 ["one","other"] 2 false zaG
abbrev zj6:=CT "unit_row" 1 ["place","width"] 2 true zj9
abbrev zmj:=CT "lead_of" 1 ["whole"] 1 false zmu
abbrev zek:=CT "_law_mixed" 1 ["_law_cell","_law_k"] 2 false zes
abbrev zml:=CT "_law_at" 1 ["_law_script","_law_k"] 2 false zgc
abbrev zdb:=CT "_law_low" 1 ["_law_top","_law_bottom"] 2 false zcw
abbrev zel:=CT "_law_is_whole" 1 ["_law_told"] 1 false zcH
abbrev zfk:=CT "_law_unit" 1 ["_law_width","_law_at_here"] 2 true zds
abbrev zg6:=CT "_law_blank" 1 ["_law_width"] 1 true zhb
abbrev zem:=CT "_law_is_blank" 1 ["_law_row"] 1 false zbg
abbrev ziP:=CT "is_number" 2 ["one"] 1 false zi2
abbrev zgD:=CT "fraction" 2 ["top","bottom"] 2 false zgI
abbrev ztZ:=CT "plus" 2 ["one","other"] 2 false zt1
abbrev zrv:=CT "times" 2 ["one","other"] 2 false zrG
abbrev ziN:=CT "thinned" 2 ["wholes"] 1 false zi0
abbrev zg5:=CT "_law_purse" 2 ["_law_cell","_law_k"] 2 true zcP
abbrev zdo:=CTM "_law_take" 2 ["_law_purse_here","_law_many"] [true,false] false zar
abbrev zfl:=CT "_law_plus" 2 ["_law_one","_law_other"] 2 false zfq
abbrev ziQ:=CT "_law_by" 2 ["_law_one","_law_other"] 2 false zi4
abbrev zdE:=CT "_law_is_number" 2 ["_law_told"] 1 false zdF
abbrev zoD:=CT "is_row" 3 ["row"] 1 false zoF
abbrev zmi:=CT "pairing" 3 ["one","other"] 2 false zmt
abbrev ziM:=CT "whole_row" 3 ["row"] 1 false ziZ
abbrev zmk:=CT "cleared" 3 ["whole","other","place"] 3 false zi3
abbrev zg4:=CT "nought_row" 3 ["held","free","width"] 3 true zha
abbrev zf7:=CTM "_law_number" 3 ["_law_purse_here"] [true] false zcs
abbrev zdp:=CT "_law_is_row" 3 ["_law_told","_law_width"] 2 false zbj
abbrev zg7:=CT "_law_added" 3 ["_law_one","_law_other"] 2 true zhc
abbrev zf6:=CT "_law_scaled" 3 ["_law_number_here","_law_row"] 2 true zcr
abbrev ze2:=CT "_law_pairing" 3 ["_law_one","_law_other"] 2 false zbx
abbrev ziO:=CT "is_row_of" 4 ["row","width"] 2 false zi1
abbrev zcF:=CT "rows_by_leads" 4 ["rows"] 1 false zcG
abbrev ze1:=CT "after_square" 4 ["one","other"] 2 true ze5
abbrev ze3:=CT "_law_is_rows" 4 ["_law_told","_law_width"] 2 false zby
abbrev zf5:=CTM "_law_square" 4 ["_law_purse_here","_law_side","_law_way"] [true,false,false] true zcq
abbrev zfi:=CT "kept_rows" 5 ["rows"] 1 true zfo
abbrev zfj:=CT "is_square" 5 ["square","most"] 2 false zfp
abbrev zf3:=CT "nought_rows" 6 ["rows","width"] 2 true zgb
abbrev zrw:=CT "after" 6 ["one","other"] 2 true zer
abbrev zf4:=CT "back_square" 7 ["square"] 1 false zbW
variable {zb0:Tok} {zb9:Addr} {zjp:Addr} (B:Blt mg) (C:Cst mg zb0 zb9 zjp)
include B C
theorem zo8 (h:Has K mg "is_whole" (top 7)):zj7 P w K mg base:=fnP ["one"] h fun hr nd=>by
  unfold zj2
  exact (zaS (zjD (zhX zqA B.zaB B.zmO Bt.int (zab 0)) (zjC (ztr (zhX zoa B.zaB B.zlz Bt.bool (zab 0))))))
theorem zhf (h:Has K mg "common_divisor" (top 8)):zaN P w K mg base:=fnP ["one","other","high","low"] h fun hr nd=>by
  unfold zdC zcK
  exact (zag (zlm 2 3 nd (zdG zvA B.zoW Bt.abs (zab 0)) (zdG zvA B.zoW Bt.abs (zab 1)))
      (zag (zll (zdL 3) PassesOwn.never (zaJ (zk9 hr) (zab 3) zae) (zas (zlm 2 3 nd (zab 3) (zaq zkt (zab 2) (zab 3)))))
      (zaS (zab 2))))
theorem zo7 (h:Has K mg "unit_row" (top 16)):zj6 P w K mg base:=fnP ["place","width"] h fun hr nd=>by
  unfold zj1 zgM
  exact (zas (zbK (cp ["at"] [0] ["at","place"] (zaU rfl B.zbo (a1 (zab 1))) (fun nd=>(g_n 0 nd)) zaw (zyc (zaJ (zkk hr) (zab 0) (zab 1)) (zln rfl C.zsx C.v_ONE (fun _=>by simp [zaj,Fz])) (zln rfl C.zfL C.v_NOUGHT (fun _=>by simp [zaj,Fz]))))))
theorem zqH (h:Has K mg "lead_of" (top 20)):zmj P w K mg base:=fnP ["whole","place","one"] h fun hr nd=>by
  unfold zmb zhD zhK
  exact (zag (zdA (znL rfl B.zcB (a1 (zab 0))) (zdY rfl (zaQ (g_n 1 nd) (zaQ (g_n 2 nd) zcL))) (zas (zaP (zaJ (zk9 hr) (zab 2) zae) (zaS (zab 1)) zaD)))
      (zaS zts))
theorem zlJ (h:Has K mg "_law_mixed" (top 33)):zek P w K mg base:=fnP ["_law_cell","_law_k","_law_number_here"] h fun hr nd=>by
  unfold zg1
  exact (zag (zaM 2 nd (zaq zcd (zaq zcd (zaq zco (zaq zcd (zaq zkt (zab 0) (zaq zcd (zaq zlv zae zae) zae)) (zaq zco zae (zab 1))) zae) (zaq zco zae (zab 1))) zae))
      (zag (zaM 2 nd (zaq zkt (zaq zco (zab 2) (zab 2)) (zaq zcd (zaq zlv zae zae) zae)))
      (zaS (zaq zkt (zaq zco (zaq zcd (zab 2) zae) (zaq zcd (zab 2) zae)) (zaq zcd (zaq zlv zae zae) zae)))))
theorem zqK (h:Has K mg "_law_at" (top 36)):zml P w K mg base:=fnP ["_law_script","_law_k"] h fun hr nd=>by
  unfold zme
  exact (zag (zaP (zaJ (zuh hr) (zab 1) (zdG zgA B.zeK Bt.len (zab 0))) (zaS (zaA za9 (zab 0) (zab 1))) zaD)
      (zaS (zaq zcd (zaq zco zae (zab 1)) zae)))
theorem zpa (h:Has K mg "_law_low" (top 37)):zdb P w K mg base:=fnP ["_law_top","_law_bottom","_law_one","_law_other"] h fun hr nd=>by
  unfold zj4 zgK
  exact (zag (zaM 2 nd (zdG zvA B.zoW Bt.abs (zab 0)))
      (zag (zaM 3 nd (zab 1))
      (zag (zll (zdL 3) PassesOwn.never (zaJ (zk9 hr) (zab 3) zae) (zas (zlm 2 3 nd (zab 3) (zaq zkt (zab 2) (zab 3)))))
      (zaS (zc5 (a2 (zaq (zcn hr) (zab 0) (zab 2)) (zaq (zcn hr) (zab 1) (zab 2))))))))
theorem zh5 (h:Has K mg "_law_is_whole" (top 42)):zel P w K mg base:=fnP ["_law_told"] h fun hr nd=>by
  unfold zej
  exact (zaS (zjD (zhX zqA B.zaB B.zmO Bt.int (zab 0)) (zjC (ztr (zhX zoa B.zaB B.zlz Bt.bool (zab 0))))))
theorem zm0 (h:Has K mg "_law_unit" (top 49)):zfk P w K mg base:=fnP ["_law_width","_law_at_here"] h fun hr nd=>by
  unfold ziI zfD
  exact (zas (zbK (cp ["_law_place"] [1] ["_law_place","_law_at_here"] (zaU rfl B.zbo (a1 (zab 0))) (fun nd=>(g_n 0 nd)) zaw (zc5 (a2 (zuu zxE B.zmO Bt.int (zkq (zkk hr) (zab 0) (zab 1))) zae)))))
theorem zlK (h:Has K mg "_law_blank" (top 50)):zg6 P w K mg base:=fnP ["_law_width"] h fun hr nd=>by
  unfold zg2 zeR
  exact (zas (zbK (cp ["_law_place"] [] ["_law_place"] (zaU rfl B.zbo (a1 (zab 0))) (fun nd=>(g_n 0 nd)) zaw (zc5 (a2 zae zae)))))
theorem zh6 (h:Has K mg "_law_is_blank" (top 51)):zem P w K mg base:=fnP ["_law_row"] h fun hr nd=>by
  unfold zbU zbh
  exact (zaS (zkq (zkk hr) (PVN.pv (cp ["_law_one"] [] ["_law_one"] (zaZ (zab 0)) (fun nd=>(g_n 0 nd)) (zfE (zaJ (zk9 hr) (zaA za9 (zab 0) zae) zae)) (zab 0))) (PVN.pv (zcA zhW))))
theorem zmZ (h:Has K mg "is_number" (top 9)) (c_common_divisor:zaN P w K mg base) (c_is_whole:zj7 P w K mg base):ziP P w K mg base:=fnP ["one","top","bottom"] h fun hr nd=>by
  unfold ziH
  exact (zag (zaP (PVW.pvt (zcz (zbn (zbm zeG (zhX kit_tuple B.zaB B.zgi Bt.tuple (zab 0)))) (zcR (zaJ (zk9 hr) (zdG zgA B.zeK Bt.len (zab 0)) zae)))) (zaS zgh) zaD)
      (zag (zur (zab 0) (zdY rfl (zaQ (g_n 1 nd) (zaQ (g_n 2 nd) zcL))))
      (zag (zaP (PVW.pvt (zcz (zbn (zbm zeG (zaR c_is_whole hr (a1 (zab 1))))) (zcz (zbn (zbm zeG (zaR c_is_whole hr (a1 (zab 2))))) (zcR (zaJ (zuh hr) (zab 2) zae))))) (zaS zgh) zaD)
      (zaS (zkq (zkk hr) (zaR c_common_divisor hr (a2 (zab 1) (zab 2))) zae)))))
theorem zo9 (h:Has K mg "fraction" (top 10)) (c_common_divisor:zaN P w K mg base):zgD P w K mg base:=fnP ["top","bottom","shared"] h fun hr nd=>by
  unfold zj3
  exact (zag (zaP (zaJ (zkk hr) (zab 1) zae) (zas zfF) zaD)
      (zag (zaM 2 nd (zaR c_common_divisor hr (a2 (zab 0) (zab 1))))
      (zag (zaP (zaJ (zuh hr) (zab 1) zae) (zas (zaM 2 nd (zut zt4 (zab 2)))) zaD)
      (zaS (zc5 (a2 (zaq (zcn hr) (zab 0) (zab 2)) (zaq (zcn hr) (zab 1) (zab 2))))))))
theorem zw7 (h:Has K mg "plus" (top 11)) (c_common_divisor:zaN P w K mg base):ztZ P w K mg base:=fnP ["one","other","shared","mine","its","top","again"] h fun hr nd=>by
  unfold ztY
  exact (zag (zaM 2 nd (zaR c_common_divisor hr (a2 (zaA za9 (zab 0) zae) (zaA za9 (zab 1) zae))))
      (zag (zlm 3 4 nd (zaq (zcn hr) (zaA za9 (zab 0) zae) (zab 2)) (zaq (zcn hr) (zaA za9 (zab 1) zae) (zab 2)))
      (zag (zaM 5 nd (zaq zcd (zaq zco (zaA za9 (zab 0) zae) (zab 4)) (zaq zco (zaA za9 (zab 1) zae) (zab 3))))
      (zag (zaM 6 nd (zaR c_common_divisor hr (a2 (zab 5) (zab 2))))
      (zaS (zc5 (a2 (zaq (zcn hr) (zab 5) (zab 6)) (zaq zco (zab 3) (zaq (zcn hr) (zaA za9 (zab 1) zae) (zab 6))))))))))
theorem zu1 (h:Has K mg "times" (top 12)) (c_common_divisor:zaN P w K mg base):zrv P w K mg base:=fnP ["one","other","mine","its"] h fun hr nd=>by
  unfold zrn
  exact (zag (zlm 2 3 nd (zaR c_common_divisor hr (a2 (zaA za9 (zab 0) zae) (zaA za9 (zab 1) zae))) (zaR c_common_divisor hr (a2 (zaA za9 (zab 1) zae) (zaA za9 (zab 0) zae))))
      (zaS (zc5 (a2 (zaq zco (zaq (zcn hr) (zaA za9 (zab 0) zae) (zab 2)) (zaq (zcn hr) (zaA za9 (zab 1) zae) (zab 3))) (zaq zco (zaq (zcn hr) (zaA za9 (zab 0) zae) (zab 3)) (zaq (zcn hr) (zaA za9 (zab 1) zae) (zab 2)))))))
theorem zqF (h:Has K mg "thinned" (top 18)) (c_common_divisor:zaN P w K mg base):ziN P w K mg base:=fnP ["wholes","shared","one"] h fun hr nd=>by
  unfold zl9 zhS zhB zhI
  exact (zag (zaM 1 nd zae)
      (zag (zdA (zaZ (zab 0)) (g_n 2 nd) (zag (zaM 1 nd (zaR c_common_divisor hr (a2 (zab 1) (zab 2))))
      (zas (zaP (zaJ (zkk hr) (zab 1) zae) (zas zp0) zaD))))
      (zag (zaP (zaJ (zkk hr) (zab 1) zae) (zaS (zab 0)) zaD)
      (zaS (PVN.pv (cp ["one"] [1] ["one","shared"] (zaZ (zab 0)) (fun nd=>(g_n 0 nd)) zaw (zaq (zcn hr) (zab 0) (zab 1))))))))
theorem zlI (h:Has K mg "_law_purse" (top 34)) (c__law_mixed:zek P w K mg base):zg5 P w K mg base:=fnP ["_law_cell","_law_k"] h fun hr nd=>by
  unfold zg0
  exact (zag (zaP (zaJ (zyN hr) (zab 0) (zaq zlv zae zae)) (zas (zbK (zcA (a3 (zaq zoT (zab 0) (zaq zlv zae zae)) zae (zab 1))))) zaD)
      (zas (zbK (zcA (a3 (zaR c__law_mixed hr (a2 (zab 0) (zab 1))) zae (zaq zcd (zaq zkt (zab 0) (zaq zcd (zaq zlv zae zae) zae)) (zab 1)))))))
theorem zm1 (h:Has K mg "_law_take" (top 35)) (c__law_mixed:zek P w K mg base):zdo P w K mg base:=fnM [true,false] ["_law_purse_here","_law_many","_law_got"] h fun hr nd=>by
  unfold ziJ
  exact (zag (zaP (zaJ (zuh hr) (zi7 0 za9 zae) (zab 1)) (zag (zdc 0 (pv 0) (zaq zcd (zi7 0 za9 zae) zae) zae)
      (zas (zdc 0 (pv 0) (zaq zcd (zi7 0 za9 zae) (zaq zco (zab 1) (zaR c__law_mixed hr (a2 (zi7 0 za9 zae) (zaq zcd (zaq zco zae (zi7 0 za9 zae)) zae))))) zae))) zaD)
      (zag (zaM 2 nd (zaq zkt (zi7 0 za9 zae) (zab 1)))
      (zag (zdc 0 (pv 0) (zaq (zcn hr) (zi7 0 za9 zae) (zab 1)) zae)
      (zaS (zab 2)))))
theorem zm2 (h:Has K mg "_law_plus" (top 38)) (c__law_low:zdb P w K mg base):zfl P w K mg base:=fnP ["_law_one","_law_other"] h fun hr nd=>by
  unfold ziK
  exact (zaS (zaR c__law_low hr (a2 (zaq zcd (zaq zco (zaA za9 (zab 0) zae) (zaA za9 (zab 1) zae)) (zaq zco (zaA za9 (zab 1) zae) (zaA za9 (zab 0) zae))) (zaq zco (zaA za9 (zab 0) zae) (zaA za9 (zab 1) zae)))))
theorem zqJ (h:Has K mg "_law_by" (top 39)) (c__law_low:zdb P w K mg base):ziQ P w K mg base:=fnP ["_law_one","_law_other"] h fun hr nd=>by
  unfold zmd
  exact (zaS (zaR c__law_low hr (a2 (zaq zco (zaA za9 (zab 0) zae) (zaA za9 (zab 1) zae)) (zaq zco (zaA za9 (zab 0) zae) (zaA za9 (zab 1) zae)))))
theorem zhg (h:Has K mg "_law_is_number" (top 43)) (c__law_is_whole:zel P w K mg base) (c__law_low:zdb P w K mg base):zdE P w K mg base:=fnP ["_law_told"] h fun hr nd=>by
  unfold zdD
  exact (zag (zaP (PVW.pvt (zcz (zbn (zbm zeG (zhX kit_tuple B.zaB B.zgi Bt.tuple (zab 0)))) (zcR (zaJ (zk9 hr) (zdG zgA B.zeK Bt.len (zab 0)) zae)))) (zaS zgh) zaD)
      (zag (zaP (PVW.pvt (zcz (zbn (zbm zeG (zaR c__law_is_whole hr (a1 (zaA za9 (zab 0) zae))))) (zcR (zbn (zbm zeG (zaR c__law_is_whole hr (a1 (zaA za9 (zab 0) zae)))))))) (zaS zgh) zaD)
      (zaS (zjD (zkq (zyN hr) (zaA za9 (zab 0) zae) zae) (zjC (zkq (zkk hr) (zaR c__law_low hr (a2 (zaA za9 (zab 0) zae) (zaA za9 (zab 0) zae))) (zab 0)))))))
theorem zsD (h:Has K mg "is_row" (top 14)) (c_is_number:ziP P w K mg base):zoD P w K mg base:=fnP ["row"] h fun hr nd=>by
  unfold zoy zjB
  exact (zaS (zjD (zhX zhq B.zaB B.zgN Bt.list (zab 0)) (zjC (zdG (zxF rfl) B.zqn Bt.all (PVN.pv (cp ["one"] [] ["one"] (zaZ (zab 0)) (fun nd=>(g_n 0 nd)) zaw (zaR c_is_number hr (a1 (zab 0)))))))))
theorem zqG (h:Has K mg "pairing" (top 17)) (c_plus:ztZ P w K mg base) (c_times:zrv P w K mg base):zmi P w K mg base:=fnP ["one","other","total","mine","its"] h fun hr nd=>by
  unfold zma zhC zhJ
  exact (zag (zaM 2 nd (zln rfl C.zfL C.v_NOUGHT (fun _=>by simp [zaj,Fz])))
      (zag (zdA (zhV rfl B.zly (a2 (zab 0) (zab 1))) (zdY rfl (zaQ (g_n 3 nd) (zaQ (g_n 4 nd) zcL))) (zas (zaM 2 nd (zaR c_plus hr (a2 (zab 2) (zaR c_times hr (a2 (zab 3) (zab 4))))))))
      (zaS (zab 2))))
theorem zmV (h:Has K mg "whole_row" (top 19)) (c_thinned:ziN P w K mg base) (c_common_divisor:zaN P w K mg base):ziM P w K mg base:=fnP ["row","shared","one"] h fun hr nd=>by
  unfold ziC zfz zft zfx
  exact (zag (zaM 1 nd zae)
      (zag (zdA (zaZ (zab 0)) (g_n 2 nd) (zas (zaM 1 nd (zaq zco (zaq (zcn hr) (zab 1) (zaR c_common_divisor hr (a2 (zab 1) (zaA za9 (zab 2) zae)))) (zaA za9 (zab 2) zae)))))
      (zaS (zaR c_thinned hr (a1 (PVN.pv (cp ["one"] [1] ["one","shared"] (zaZ (zab 0)) (fun nd=>(g_n 0 nd)) zaw (zaq zco (zaA za9 (zab 0) zae) (zaq (zcn hr) (zab 1) (zaA za9 (zab 0) zae))))))))))
theorem zqI (h:Has K mg "cleared" (top 21)) (c_thinned:ziN P w K mg base):zmk P w K mg base:=fnP ["whole","other","place"] h fun hr nd=>by
  unfold zmc zhU
  exact (zag (zaP (zaJ (zkk hr) (zaA za9 (zab 0) (zab 2)) zae) (zaS (zab 0)) zaD)
      (zaS (zaR c_thinned hr (a1 (PVN.pv (cp ["mine","its"] [0,1,2] ["mine","its","whole","other","place"] (zhV rfl B.zly (a2 (zab 0) (zab 1))) (fun nd=>(zdY rfl (zaQ (g_n 0 nd) (zaQ (g_n 1 nd) zcL)))) zaw (zaq zoT (zaq zco (zaA za9 (zab 3) (zab 4)) (zab 0)) (zaq zco (zaA za9 (zab 2) (zab 4)) (zab 1)))))))))
theorem zlH (h:Has K mg "nought_row" (top 24)) (c_fraction:zgD P w K mg base):zg4 P w K mg base:=fnP ["held","free","width","row","lead"] h fun hr nd=>by
  unfold zgZ zeO zeP
  exact (zag (znK 3 nd (zus (zln rfl C.zfL C.v_NOUGHT (fun _=>by simp [zaj,Fz])) (zab 2)))
      (zag (zdc 3 (pv 3) (zln rfl C.zsx C.v_ONE (fun _=>by simp [zaj,Fz])) (zab 1))
      (zag (zdA (zkn (zab 0)) (g_n 4 nd) (zas (zdc 3 (pv 3) (zaR c_fraction hr (a2 (zut zt4 (zaA za9 (zaA (zvK hr) (zab 0) (zab 4)) (zab 1))) (zaA za9 (zaA (zvK hr) (zab 0) (zab 4)) (zab 4)))) (zab 4))))
      (zas (znJ 3 (pv 3))))))
theorem zkI (h:Has K mg "_law_number" (top 41)) (c__law_take:zdo P w K mg base) (c__law_low:zdb P w K mg base):zf7 P w K mg base:=fnM [true] ["_law_purse_here","_law_way"] h fun hr nd=>by
  unfold zf0
  exact (zag (zaM 1 nd (ze7 c__law_take hr (zmz 0 (zcM zae za3))))
      (zag (zaP (zaJ (zuh hr) (zab 1) zae) (zaS (zaA za9 (PVN.pv (zcA (a3 (zc5 (a2 zae zae)) (zc5 (a2 zae zae)) (zc5 (a2 (zut zt4 zae) zae))))) (zab 1))) zaD)
      (zag (zaP (zaJ (zuh hr) (zab 1) zae) (zaS (zaR c__law_low hr (a2 (zaq zoT (ze7 c__law_take hr (zmz 0 (zcM zae za3))) zae) (zaq zcd zae (zaq zco (ze7 c__law_take hr (zmz 0 (zcM zae za3))) (zaq zoT (zab 1) zae)))))) zaD)
      (zaS (zaR c__law_low hr (a2 (zaq zoT (ze7 c__law_take hr (zmz 0 (zcM (zaq zcd (zaq zco zae (zaq zlv zae zae)) zae) za3))) (zaq zlv zae zae)) (zaq zcd zae (ze7 c__law_take hr (zmz 0 (zcM zae za3))))))))))
theorem zkJ (h:Has K mg "_law_is_row" (top 44)) (c__law_is_number:zdE P w K mg base):zdp P w K mg base:=fnP ["_law_told","_law_width"] h fun hr nd=>by
  unfold zf1 zdX
  exact (zag (zaP (PVW.pvt (zcz (zbn (zbm zeG (zhX zhq B.zaB B.zgN Bt.list (zab 0)))) (zcR (zaJ (zk9 hr) (zdG zgA B.zeK Bt.len (zab 0)) (zab 1))))) (zaS zgh) zaD)
      (zaS (zkq (zkk hr) (PVN.pv (cp ["_law_one"] [] ["_law_one"] (zaZ (zab 0)) (fun nd=>(g_n 0 nd)) (zfE (zbn (zbm zeG (zaR c__law_is_number hr (a1 (zab 0)))))) (zab 0))) (PVN.pv (zcA zhW)))))
theorem zlL (h:Has K mg "_law_added" (top 46)) (c__law_plus:zfl P w K mg base):zg7 P w K mg base:=fnP ["_law_one","_law_other"] h fun hr nd=>by
  unfold zg3 zeS
  exact (zas (zbK (cp ["_law_a","_law_b"] [] ["_law_a","_law_b"] (zhV rfl B.zly (a2 (zab 0) (zab 1))) (fun nd=>(zdY rfl (zaQ (g_n 0 nd) (zaQ (g_n 1 nd) zcL)))) zaw (zaR c__law_plus hr (a2 (zab 0) (zab 1))))))
theorem zkH (h:Has K mg "_law_scaled" (top 47)) (c__law_by:ziQ P w K mg base):zf6 P w K mg base:=fnP ["_law_number_here","_law_row"] h fun hr nd=>by
  unfold zfZ zdW
  exact (zas (zbK (cp ["_law_one"] [0] ["_law_one","_law_number_here"] (zaZ (zab 1)) (fun nd=>(g_n 0 nd)) zaw (zaR c__law_by hr (a2 (zab 1) (zab 0))))))
theorem zjl (h:Has K mg "_law_pairing" (top 48)) (c__law_plus:zfl P w K mg base) (c__law_by:ziQ P w K mg base):ze2 P w K mg base:=fnP ["_law_one","_law_other","_law_total","_law_a","_law_b"] h fun hr nd=>by
  unfold ze0 zdt zdu
  exact (zag (zaM 2 nd (zc5 (a2 zae zae)))
      (zag (zdA (zhV rfl B.zly (a2 (zab 0) (zab 1))) (zdY rfl (zaQ (g_n 3 nd) (zaQ (g_n 4 nd) zcL))) (zas (zaM 2 nd (zaR c__law_plus hr (a2 (zab 2) (zaR c__law_by hr (a2 (zab 3) (zab 4))))))))
      (zaS (zab 2))))
theorem zmY (h:Has K mg "is_row_of" (top 15)) (c_is_row:zoD P w K mg base):ziO P w K mg base:=fnP ["row","width"] h fun hr nd=>by
  unfold ziG
  exact (zaS (zjD (zaR c_is_row hr (a1 (zab 0))) (zjC (zkq (zkk hr) (zdG zgA B.zeK Bt.len (zab 0)) (zab 1)))))
theorem zh4 (h:Has K mg "rows_by_leads" (top 22)) (c_whole_row:ziM P w K mg base) (c_lead_of:zmj P w K mg base) (c_cleared:zmk P w K mg base):zcF P w K mg base:=fnP ["rows","held","row","whole","place","lead"] h fun hr nd=>by
  unfold zei zc0 zc2 zc4 zc1 zc3
  exact (zag (znK 1 nd zp1)
      (zag (zup 1 (zdA (zaZ (zab 0)) (g_n 2 nd) (zag (zaM 3 nd (zaR c_whole_row hr (a1 (zab 2))))
      (zag (zdA (zkn (zab 1)) (g_n 4 nd) (zas (zaM 3 nd (zaR c_cleared hr (a3 (zab 3) (zaA (zvK hr) (zab 1) (zab 4)) (zab 4))))))
      (zag (zaM 5 nd (zaR c_lead_of hr (a1 (zab 3))))
      (zas (zaP (zaJ zwK (zab 5) zts) (zag (znK 1 nd (dcp ["at"] [1,3,5] ["at","held","whole","lead"] hr (zkn (zab 1)) (fun nd=>(g_n 0 nd)) zaw (zab 0) (zaR c_cleared hr (a3 (zaA (zvK hr) (zab 1) (zab 0)) (zab 2) (zab 3)))))
      (zas (zhm 1 (zr3 1 (zny hr) (pv 1) (zab 3) (zab 5))))) zaD)))))))
      (zaS (zab 1))))
theorem zjk (h:Has K mg "after_square" (top 29)) (c_pairing:zmi P w K mg base):ze1 P w K mg base:=fnP ["one","other","columns"] h fun hr nd=>by
  unfold zeZ zdw zdx zdy zdz
  exact (zag (zaM 2 nd (PVN.pv (cp ["place"] [1] ["place","other"] (zaU rfl B.zbo (a1 (zdG zgA B.zeK Bt.len (zab 1)))) (fun nd=>(g_n 0 nd)) zaw (PVN.pv (cp ["row"] [0] ["row","place"] (zaZ (zab 1)) (fun nd=>(g_n 0 nd)) zaw (zaA za9 (zab 0) (zab 1)))))))
      (zas (zbK (cp ["row"] [2] ["row","columns"] (zaZ (zab 0)) (fun nd=>(g_n 0 nd)) zaw (PVN.pv (cp ["column"] [0] ["column","row"] (zaZ (zab 1)) (fun nd=>(g_n 0 nd)) zaw (zaR c_pairing hr (a2 (zab 1) (zab 0)))))))))
theorem zjm (h:Has K mg "_law_is_rows" (top 45)) (c__law_is_row:zdp P w K mg base):ze3 P w K mg base:=fnP ["_law_told","_law_width"] h fun hr nd=>by
  unfold zb8 zbz
  exact (zaS (zjD (zhX zhq B.zaB B.zgN Bt.list (zab 0)) (zjC (zkq (zkk hr) (PVN.pv (cp ["_law_row"] [1] ["_law_row","_law_width"] (zaZ (zab 0)) (fun nd=>(g_n 0 nd)) (zfE (zbn (zbm zeG (zaR c__law_is_row hr (a2 (zab 0) (zab 1)))))) (zab 0))) (PVN.pv (zcA zhW))))))
theorem zkG (h:Has K mg "_law_square" (top 52)) (c__law_unit:zfk P w K mg base) (c__law_take:zdo P w K mg base) (c__law_scaled:zf6 P w K mg base) (c__law_number:zf7 P w K mg base) (c__law_added:zg7 P w K mg base) (c__law_blank:zg6 P w K mg base):zf5 P w K mg base:=fnM [true,false,false] ["_law_purse_here","_law_side","_law_way","_law_square_here","_law_at_here","_law_row","_law_turn","_law_one","_law_other"] h fun hr nd=>by
  unfold zfY zdH zdJ zdT zdU zdV
  exact (zag (cpS 3 ["_law_line"] [1] ["_law_line","_law_side"] nd (zaU rfl B.zbo (a1 (zab 1))) (fun nd=>(g_n 0 nd)) zaw (PVN.pv (zcl c__law_unit hr (a2 (zab 1) (zab 0)))))
      (zag (zaP (zaJ (zk9 hr) (zab 2) zae) (zas (cpS 3 ["_law_line"] [0,1] ["_law_line","_law_purse_here","_law_side"] nd (zaU rfl B.zbo (a1 (zab 1))) (fun nd=>(g_n 0 nd)) zaw (PVN.pv (cp ["_law_place"] [1] ["_law_place","_law_purse_here"] (zaU rfl B.zbo (a1 (zab 2))) (fun nd=>(g_n 0 nd)) zaw (ze7 c__law_number hr (zmz 1 za3)))))) zaD)
      (zag (zaP (zaJ (zkk hr) (zab 2) zae) (zag (zaM 4 nd (ze7 c__law_take hr (zmz 0 (zcM (zab 1) za3))))
      (zag (zaM 5 nd (PVN.pv (zcl c__law_scaled hr (a2 (ze7 c__law_number hr (zmz 0 za3)) (zi7 3 za9 (zaq zkt (zaq zcd (zab 4) zae) (zab 1)))))))
      (zag (zaP (zaJ (zuh hr) (zab 1) zae) (zas (zaM 5 nd (PVN.pv (zcl c__law_scaled hr (a2 (zc5 (a2 (ze7 c__law_take hr (zmz 0 (zcM zae za3))) zae)) (zab 5)))))) zaD)
      (zas (zdc 3 (pv 3) (zaA za9 (PVN.pv (zcA (a2 (zab 5) (PVN.pv (zcl c__law_blank hr (a1 (zab 1))))))) (zuu zxE B.zmO Bt.int (zkq (zkk hr) (zab 1) zae))) (zab 4)))))) zaD)
      (zag (zaP (PVW.pvt (zuj (zaJ (zkk hr) (zab 2) zae) (zr1 (zaJ (zzk hr) (zab 1) zae)))) (zas (zdA (zaU rfl B.zbo (a1 zae)) (g_n 6 nd) (zag (zaM 7 nd (ze7 c__law_take hr (zmz 0 (zcM (zab 1) za3))))
      (zag (zaM 8 nd (zaq zkt (zaq zcd (zaq zcd (zab 7) zae) (ze7 c__law_take hr (zmz 0 (zcM (zaq zoT (zab 1) zae) za3)))) (zab 1)))
      (zas (zdc 3 (pv 3) (PVN.pv (zcl c__law_added hr (a2 (zi7 3 za9 (zab 7)) (PVN.pv (zcl c__law_scaled hr (a2 (ze7 c__law_number hr (zmz 0 za3)) (zi7 3 za9 (zab 8)))))))) (zab 7))))))) zaD)
      (zas (znJ 3 (pv 3)))))))
theorem zmW (h:Has K mg "kept_rows" (top 23)) (c_rows_by_leads:zcF P w K mg base) (c_fraction:zgD P w K mg base):zfi P w K mg base:=fnP ["rows","held"] h fun hr nd=>by
  unfold ziE zfA zfB
  exact (zag (zaM 1 nd (zaR c_rows_by_leads hr (a1 (zab 0))))
      (zas (zbK (cp ["lead"] [1] ["lead","held"] (zaZ (zmK (znN (zvz rfl) rfl B.zkw Bt.sorted (a1 (zab 1))))) (fun nd=>(g_n 0 nd)) zaw (PVN.pv (cp ["one"] [0,1] ["one","lead","held"] (zaZ (zaA (zvK hr) (zab 1) (zab 0))) (fun nd=>(g_n 0 nd)) zaw (zaR c_fraction hr (a2 (zab 0) (zaA za9 (zaA (zvK hr) (zab 2) (zab 1)) (zab 1))))))))))
theorem zmX (h:Has K mg "is_square" (top 28)) (c_is_row_of:ziO P w K mg base):zfj P w K mg base:=fnP ["square","most"] h fun hr nd=>by
  unfold ziF zfC
  exact (zag (zaP (PVW.pvt (zcz (zbn (zbm zeG (zhX zhq B.zaB B.zgN Bt.list (zab 0)))) (zcR (zbn (zpY (zyM hr) (zyM hr) zae (zdG zgA B.zeK Bt.len (zab 0)) (zab 1)))))) (zaS zgh) zaD)
      (zaS (zdG (zxF rfl) B.zqn Bt.all (PVN.pv (cp ["row"] [0] ["row","square"] (zaZ (zab 0)) (fun nd=>(g_n 0 nd)) zaw (zaR c_is_row_of hr (a2 (zab 0) (zdG zgA B.zeK Bt.len (zab 1)))))))))
theorem zkE (h:Has K mg "nought_rows" (top 25)) (c_rows_by_leads:zcF P w K mg base) (c_kept_rows:zfi P w K mg base) (c_nought_row:zg4 P w K mg base):zf3 P w K mg base:=fnP ["rows","width","held"] h fun hr nd=>by
  unfold zfW zdO
  exact (zag (zaM 2 nd (zaR c_rows_by_leads hr (a1 (zab 0))))
      (zas (zbK (zcl c_kept_rows hr (a1 (PVN.pv (cp ["free"] [1,2] ["free","width","held"] (zaU rfl B.zbo (a1 (zab 1))) (fun nd=>(g_n 0 nd)) (zfE (zaJ (zwb hr) (zab 0) (zab 2))) (PVN.pv (zcl c_nought_row hr (a3 (zab 2) (zab 0) (zab 1)))))))))))
theorem zu2 (h:Has K mg "after" (top 30)) (c_after_square:ze1 P w K mg base) (c_is_square:zfj P w K mg base):zrw P w K mg base:=fnP ["one","other","place","square"] h fun hr nd=>by
  unfold zro zlb zle
  exact (zag (zdA (znL rfl B.zcB (a1 (PVN.pv (zcA (a2 (zab 0) (zab 1)))))) (zdY rfl (zaQ (g_n 2 nd) (zaQ (g_n 3 nd) zcL))) (zas (zaP (zbn (zbm zeG (zaR c_is_square hr (a2 (zab 3) (zp4 (v:=(.int 6)) rfl C.zdd ⟨_,rfl⟩ (fun _=>zeg _)))))) (zas zfF) zaD)))
      (zag (zaP (zaJ (zk9 hr) (zdG zgA B.zeK Bt.len (zab 0)) (zdG zgA B.zeK Bt.len (zab 1))) (zas zfF) zaD)
      (zas (zbK (zcl c_after_square hr (a2 (zab 0) (zab 1)))))))
theorem zkF (h:Has K mg "back_square" (top 31)) (c_kept_rows:zfi P w K mg base) (c_is_square:zfj P w K mg base) (c_unit_row:zj6 P w K mg base) (c_nought_rows:zf3 P w K mg base):zf4 P w K mg base:=fnP ["square","side","units","both"] h fun hr nd=>by
  unfold zfX zdP zdQ zdR zdS
  exact (zag (zaP (zbn (zbm zeG (zaR c_is_square hr (a2 (zab 0) (zp4 (v:=(.int 6)) rfl C.zdd ⟨_,rfl⟩ (fun _=>zeg _)))))) (zas zfF) zaD)
      (zag (zaM 1 nd (zdG zgA B.zeK Bt.len (zab 0)))
      (zag (zhm 2 (cpS 2 ["place"] [1] ["place","side"] nd (zaU rfl B.zbo (a1 (zab 1))) (fun nd=>(g_n 0 nd)) zaw (PVN.pv (zcl c_unit_row hr (a2 (zab 0) (zab 1))))))
      (zag (zaM 3 nd (PVN.pv (zcl c_kept_rows hr (a1 (PVN.pv (cp ["row","unit"] [] ["row","unit"] (zhV rfl B.zly (a2 (zab 0) (zab 2))) (fun nd=>(zdY rfl (zaQ (g_n 0 nd) (zaQ (g_n 1 nd) zcL)))) zaw (zaq zcd (zab 0) (zab 1))))))))
      (zag (zaP (zaJ (zkk hr) (PVN.pv (cp ["row"] [1] ["row","side"] (zaZ (zab 3)) (fun nd=>(g_n 0 nd)) zaw (zkp zud (zab 0) zkm (zkl (zab 1))))) (zab 2)) (zaS (zc5 (a2 znM (PVN.pv (cp ["row"] [1] ["row","side"] (zaZ (zab 3)) (fun nd=>(g_n 0 nd)) zaw (zkp zud (zab 0) (zkl (zab 1)) zkm)))))) zaD)
      (zaS (zc5 (a2 znM (zaA za9 (PVN.pv (zcl c_nought_rows hr (a2 (zab 0) (zab 1)))) zae)))))))))
set_option maxHeartbeats 0 in
theorem zys {fa:Addr} {fd:FuncData} (h:Fun K "law" "law" (top 53) fa fd) (c__law_purse:zg5 P w K mg base) (c__law_take:zdo P w K mg base) (c__law_square:zf5 P w K mg base) (c_back_square:zf4 P w K mg base) (c__law_at:zml P w K mg base) (c__law_unit:zfk P w K mg base) (c__law_is_blank:zem P w K mg base) (c__law_is_rows:ze3 P w K mg base) (c_after:zrw P w K mg base) (c__law_is_row:zdp P w K mg base) (c__law_pairing:ze2 P w K mg base):zk8 P w K mg base (CXe P w) 8 fa fd ["_law_script"] (spP K 1 false zrH):=by
  have S:zeq ["_law_script","_law_cell","_law_purse_here","_law_side","_law_way","_law_square_here","_law_handed","_law_told","_law_plain","_law_r"] ["_law_script"] (zaF (top 53)):=⟨rfl,rfl,rfl,by decide +kernel,rfl,by decide +kernel,by decide +kernel⟩
  refine zk8.pure (zq3 (List.replicate 1 false) false h S rfl (by decide) fun cdv A outer s H E hr=>?_)
  have nd:=S.nd
  refine zpZ ?_
  unfold zs8 zka zhL zhT zhE zhM zki zkj zgf zgg
  exact (zag (zdA (zaZ (zaq zcd (zkp zud (zab 0) zkm (zkl zae)) (PVN.pv (zcA (a1 (zaR c__law_at hr (a2 (zab 0) zae))))))) (g_n 1 nd) (zag (znK 2 nd (zcl c__law_purse hr (a2 (zab 1) zae)))
      (zag (zaM 3 nd (zaq zcd zae (ze7 c__law_take hr (zmz 2 (zcM (zaA za9 (PVN.pv (zcA (a3 zae zae zae))) (ze7 c__law_take hr (zmz 2 (zcM zae za3)))) za3)))))
      (zag (zaM 4 nd (ze7 c__law_take hr (zmz 2 (zcM zae za3))))
      (zag (zaM 5 nd (PVN.pv (zwe c__law_square hr (zmz 2 (zcM (zab 3) (zcM (zab 4) za3))))))
      (zag (zhm 6 (cpS 6 ["_law_row"] [] ["_law_row"] nd (zaZ (zab 5)) (fun nd=>(g_n 0 nd)) zaw (zuu zxD B.zgN Bt.list (zab 0))))
      (zag (zaM 7 nd (zaR c_back_square hr (a1 (zab 6))))
      (zag (zaP (PVW.pvt (zcz (zaJ (zk9 hr) (zab 6) (zab 5)) (zcz (zbn (zbm zeG (zhX kit_tuple B.zaB B.zgi Bt.tuple (zab 7)))) (zcR (zaJ (zk9 hr) (zdG zgA B.zeK Bt.len (zab 7)) zae))))) (zaS zgh) zaD)
      (zas (zaP (zaJ (zkk hr) (zaA za9 (zab 7) zae) znM) (zag (zaP (PVW.pvt (zcz (zbn (zbm zeG (zaR c__law_is_rows hr (a2 (zaA za9 (zab 7) zae) (zab 3))))) (zcz (zaJ (zk9 hr) (zdG zgA B.zeK Bt.len (zaA za9 (zab 7) zae)) (zab 3)) (zcR (zaJ (zkk hr) (zab 4) zae))))) (zaS zgh) zaD)
      (zag (zhm 8 (cpS 8 ["_law_line"] [3] ["_law_line","_law_side"] nd (zaU rfl B.zbo (a1 (zab 3))) (fun nd=>(g_n 0 nd)) zaw (PVN.pv (zcl c__law_unit hr (a2 (zab 1) (zab 0))))))
      (zag (zaP (PVW.pvt (zcz (zaJ (zk9 hr) (PVN.pv (zcl c_after hr (a2 (zab 6) (zaA za9 (zab 7) zae)))) (zab 8)) (zcR (zaJ (zk9 hr) (PVN.pv (zcl c_after hr (a2 (zaA za9 (zab 7) zae) (zab 6)))) (zab 8))))) (zaS zgh) zaD)
      (zas (zdA (zaU rfl B.zbo (a1 (zab 3))) (g_n 9 nd) (zas (zaP (zaJ (zk9 hr) (PVN.pv (cp ["_law_k"] [5,7,9] ["_law_k","_law_square_here","_law_told","_law_r"] (zaU rfl B.zbo (a1 (zab 3))) (fun nd=>(g_n 0 nd)) zaw (zaR c__law_pairing hr (a2 (zaA za9 (zab 1) (zab 3)) (PVN.pv (cp ["_law_row"] [0] ["_law_row","_law_k"] (zaZ (zaA za9 (zab 2) zae)) (fun nd=>(g_n 0 nd)) zaw (zaA za9 (zab 0) (zab 1)))))))) (zaA za9 (zab 8) (zab 9))) (zaS zgh) zaD))))))) (zag (zaP (PVW.pvt (zcz (zaJ (zk9 hr) (zaA za9 (zab 7) zae) znM) (zcz (zbn (zbm zeG (zaR c__law_is_row hr (a2 (zaA za9 (zab 7) zae) (zab 3))))) (zcz (zbm zeG (zaR c__law_is_blank hr (a1 (zaA za9 (zab 7) zae)))) (zcR (zaJ (zkk hr) (zab 4) zae)))))) (zaS zgh) zaD)
      (zas (zaP (zaJ (zk9 hr) (PVN.pv (cp ["_law_row"] [7] ["_law_row","_law_told"] (zaZ (zab 5)) (fun nd=>(g_n 0 nd)) (zfE (zaJ (zk9 hr) (zaA za9 (zaR c__law_pairing hr (a2 (zab 0) (zaA za9 (zab 1) zae))) zae) zae)) (zab 0))) (PVN.pv (zcA zhW))) (zaS zgh) zaD)))))))))))))
      (zaS zgh))
end
end K06
namespace K06
open PySem L2 PySem.Spec FL
open PyProof.Rows hiding St
theorem all_mk {l:PySem.W.OpenLaw} {w:World} {K:PySem.W.Frag} {h:Heap} {mg:Str->Option Value} {fa:Addr} (X:K.In h) (G:h.Ns mainGlobals mg) (hfa:mg "law"=some (.ref fa))
  {zb0:Tok} {zb9:Addr} {zjp:Addr}
  {ou_NOUGHT:Option Addr} {nn_NOUGHT:Nat} {su_NOUGHT:Array (Option Value)} {k0_NOUGHT k1_NOUGHT:Tok}
  {ou_ONE:Option Addr} {nn_ONE:Nat} {su_ONE:Array (Option Value)} {k0_ONE k1_ONE:Tok}
  (zpo:Has K mg "is_whole" (top 7))
  (zhi:Has K mg "common_divisor" (top 8))
  (zpn:Has K mg "unit_row" (top 16))
  (zrB:Has K mg "lead_of" (top 20))
  (zmo:Has K mg "_law_mixed" (top 33))
  (zrE:Has K mg "_law_at" (top 36))
  (zpq:Has K mg "_law_low" (top 37))
  (ziS:Has K mg "_law_is_whole" (top 42))
  (znq:Has K mg "_law_unit" (top 49))
  (zmp:Has K mg "_law_blank" (top 50))
  (ziT:Has K mg "_law_is_blank" (top 51))
  (znp:Has K mg "is_number" (top 9))
  (zpp:Has K mg "fraction" (top 10))
  (zxN:Has K mg "plus" (top 11))
  (zvG:Has K mg "times" (top 12))
  (zrz:Has K mg "thinned" (top 18))
  (zmn:Has K mg "_law_purse" (top 34))
  (znr:Has K mg "_law_take" (top 35))
  (zns:Has K mg "_law_plus" (top 38))
  (zrD:Has K mg "_law_by" (top 39))
  (zhj:Has K mg "_law_is_number" (top 43))
  (ztj:Has K mg "is_row" (top 14))
  (zrA:Has K mg "pairing" (top 17))
  (znl:Has K mg "whole_row" (top 19))
  (zrC:Has K mg "cleared" (top 21))
  (zmm:Has K mg "nought_row" (top 24))
  (zk4:Has K mg "_law_number" (top 41))
  (zk5:Has K mg "_law_is_row" (top 44))
  (zmq:Has K mg "_law_added" (top 46))
  (zk3:Has K mg "_law_scaled" (top 47))
  (zjr:Has K mg "_law_pairing" (top 48))
  (zno:Has K mg "is_row_of" (top 15))
  (ziR:Has K mg "rows_by_leads" (top 22))
  (zjq:Has K mg "after_square" (top 29))
  (zjs:Has K mg "_law_is_rows" (top 45))
  (zk2:Has K mg "_law_square" (top 52))
  (znm:Has K mg "kept_rows" (top 23))
  (znn:Has K mg "is_square" (top 28))
  (zk0:Has K mg "nought_rows" (top 25))
  (zvH:Has K mg "after" (top 30))
  (zk1:Has K mg "back_square" (top 31))
  (zyJ:Has K mg "law" (top 53))
  (zdd:PySem.W.nsIn K mainGlobals "MOST_SIDE"=some (some (.int 6 zb0)))
  (zfL:PySem.W.nsIn K mainGlobals "NOUGHT"=some (some (.ref zb9)))
  (zsC:K.lookup zb9=some ⟨.type "tuple",ou_NOUGHT,.seq #[.int 0 k0_NOUGHT,.int 1 k1_NOUGHT] nn_NOUGHT,su_NOUGHT⟩)
  (zsx:PySem.W.nsIn K mainGlobals "ONE"=some (some (.ref zjp)))
  (zyr:K.lookup zjp=some ⟨.type "tuple",ou_ONE,.seq #[.int 1 k0_ONE,.int 1 k1_ONE] nn_ONE,su_ONE⟩)
  (zoW:PySem.W.nsIn K mainGlobals "abs"=some none)
  (zaB:PySem.W.nsIn K mainGlobals "isinstance"=some none)
  (zmO:PySem.W.nsIn K mainGlobals "int"=some none)
  (zlz:PySem.W.nsIn K mainGlobals "bool"=some none)
  (zgi:PySem.W.nsIn K mainGlobals "tuple"=some none)
  (zgN:PySem.W.nsIn K mainGlobals "list"=some none)
  (zwS:PySem.W.nsIn K mainGlobals "str"=some none)
  (zeK:PySem.W.nsIn K mainGlobals "len"=some none)
  (zqn:PySem.W.nsIn K mainGlobals "all"=some none)
  (zbo:PySem.W.nsIn K mainGlobals "range"=some none)
  (zly:PySem.W.nsIn K mainGlobals "zip"=some none)
  (zcB:PySem.W.nsIn K mainGlobals "enumerate"=some none)
  (zwU:PySem.W.nsIn K mainGlobals "max"=some none)
  (zwT:PySem.W.nsIn K mainGlobals "min"=some none)
  (zwR:PySem.W.nsIn K mainGlobals "sum"=some none)
  (zkw:PySem.W.nsIn K mainGlobals "sorted"=some none)
  (ztA:PySem.W.nsIn K mainGlobals "dict"=some none)
  (zwV:PySem.W.nsIn K mainGlobals "any"=some none) :
  ∃ (cl:CL) (fd:FuncData),zmv cl K/\(∀ (s:Shared) (v:Value),BindsTo s fd ⟨[v],[]⟩ [("_law_script",v)])/\∀ base:Heap,(zgd (cl.map (·.1)) K).In base->base.Ns mainGlobals mg->zk8 l.prog w (zgd (cl.map (·.1)) K) mg base (CXe l.prog w) 8 fa fd ["_law_script"] (@spP (zvN cl) (zgd (cl.map (·.1)) K) 1 false zrH):=by
 obtain ⟨f,fd,hm,Fl⟩:=id zyJ
 have e:=hfa.symm.trans hm
 cases e
 obtain ⟨oc,od,kV,dc,pm,an,cd,ct,sl,rfl,lk,hcd⟩:=id Fl.ex
 have hC:zmv [(zb9,⟨.type "tuple",ou_NOUGHT,.seq #[.int 0 k0_NOUGHT,.int 1 k1_NOUGHT] nn_NOUGHT,su_NOUGHT⟩,[.int 0,.int 1]),(zjp,⟨.type "tuple",ou_ONE,.seq #[.int 1 k0_ONE,.int 1 k1_ONE] nn_ONE,su_ONE⟩,[.int 1,.int 1])] K:=(zmv.cons zsC (.cons ⟨_,rfl⟩ (.cons ⟨_,rfl⟩ (.nil))) (by decide) (zmv.cons zyr (.cons ⟨_,rfl⟩ (.cons ⟨_,rfl⟩ (.nil))) (by decide) zmv.nil))
 refine ⟨_,PySem.W.fnOf "law" "law" (zdl (top 53)) (zbT (top 53)) (zaF (top 53)) .none kV dc pm an cd ct,hC,fun s v=>.of_eq rfl,fun base _ _=>?_⟩
 have B:Blt mg:=⟨PySem.W.mg_none_of X G zoW,PySem.W.mg_none_of X G zaB,PySem.W.mg_none_of X G zmO,PySem.W.mg_none_of X G zlz,PySem.W.mg_none_of X G zgi,PySem.W.mg_none_of X G zgN,PySem.W.mg_none_of X G zwS,PySem.W.mg_none_of X G zeK,PySem.W.mg_none_of X G zqn,PySem.W.mg_none_of X G zbo,PySem.W.mg_none_of X G zly,PySem.W.mg_none_of X G zcB,PySem.W.mg_none_of X G zwU,PySem.W.mg_none_of X G zwT,PySem.W.mg_none_of X G zwR,PySem.W.mg_none_of X G zkw,PySem.W.mg_none_of X G ztA,PySem.W.mg_none_of X G zwV⟩
 letI:Cs:=zvN [(zb9,⟨.type "tuple",ou_NOUGHT,.seq #[.int 0 k0_NOUGHT,.int 1 k1_NOUGHT] nn_NOUGHT,su_NOUGHT⟩,[.int 0,.int 1]),(zjp,⟨.type "tuple",ou_ONE,.seq #[.int 1 k0_ONE,.int 1 k1_ONE] nn_ONE,su_ONE⟩,[.int 1,.int 1])]
 have C:Cst mg zb0 zb9 zjp:=⟨PySem.W.mg_of X G zdd,PySem.W.mg_of X G zfL,ztO hC (List.Mem.head _),PySem.W.mg_of X G zsx,ztO hC (List.Mem.tail _ (List.Mem.head _))⟩
 have d_is_whole:=zo8 (P:=l.prog) (w:=w) (base:=base) B C (zpo.cut hC.seqs)
 have d_common_divisor:=zhf (P:=l.prog) (w:=w) (base:=base) B C (zhi.cut hC.seqs)
 have d_unit_row:=zo7 (P:=l.prog) (w:=w) (base:=base) B C (zpn.cut hC.seqs)
 have d_lead_of:=zqH (P:=l.prog) (w:=w) (base:=base) B C (zrB.cut hC.seqs)
 have d__law_mixed:=zlJ (P:=l.prog) (w:=w) (base:=base) B C (zmo.cut hC.seqs)
 have d__law_at:=zqK (P:=l.prog) (w:=w) (base:=base) B C (zrE.cut hC.seqs)
 have d__law_low:=zpa (P:=l.prog) (w:=w) (base:=base) B C (zpq.cut hC.seqs)
 have d__law_is_whole:=zh5 (P:=l.prog) (w:=w) (base:=base) B C (ziS.cut hC.seqs)
 have d__law_unit:=zm0 (P:=l.prog) (w:=w) (base:=base) B C (znq.cut hC.seqs)
 have d__law_blank:=zlK (P:=l.prog) (w:=w) (base:=base) B C (zmp.cut hC.seqs)
 have d__law_is_blank:=zh6 (P:=l.prog) (w:=w) (base:=base) B C (ziT.cut hC.seqs)
 have d_is_number:=zmZ (P:=l.prog) (w:=w) (base:=base) B C (znp.cut hC.seqs) d_common_divisor d_is_whole
 have d_fraction:=zo9 (P:=l.prog) (w:=w) (base:=base) B C (zpp.cut hC.seqs) d_common_divisor
 have d_plus:=zw7 (P:=l.prog) (w:=w) (base:=base) B C (zxN.cut hC.seqs) d_common_divisor
 have d_times:=zu1 (P:=l.prog) (w:=w) (base:=base) B C (zvG.cut hC.seqs) d_common_divisor
 have d_thinned:=zqF (P:=l.prog) (w:=w) (base:=base) B C (zrz.cut hC.seqs) d_common_divisor
 have d__law_purse:=zlI (P:=l.prog) (w:=w) (base:=base) B C (zmn.cut hC.seqs) d__law_mixed
 have d__law_take:=zm1 (P:=l.prog) (w:=w) (base:=base) B C (znr.cut hC.seqs) d__law_mixed
 have d__law_plus:=zm2 (P:=l.prog) (w:=w) (base:=base) B C (zns.cut hC.seqs) d__law_low
 have d__law_by:=zqJ (P:=l.prog) (w:=w) (base:=base) B C (zrD.cut hC.seqs) d__law_low
 have d__law_is_number:=zhg (P:=l.prog) (w:=w) (base:=base) B C (zhj.cut hC.seqs) d__law_is_whole d__law_low
 have d_is_row:=zsD (P:=l.prog) (w:=w) (base:=base) B C (ztj.cut hC.seqs) d_is_number
 have d_pairing:=zqG (P:=l.prog) (w:=w) (base:=base) B C (zrA.cut hC.seqs) d_plus d_times
 have d_whole_row:=zmV (P:=l.prog) (w:=w) (base:=base) B C (znl.cut hC.seqs) d_thinned d_common_divisor
 have d_cleared:=zqI (P:=l.prog) (w:=w) (base:=base) B C (zrC.cut hC.seqs) d_thinned
 have d_nought_row:=zlH (P:=l.prog) (w:=w) (base:=base) B C (zmm.cut hC.seqs) d_fraction
 have d__law_number:=zkI (P:=l.prog) (w:=w) (base:=base) B C (zk4.cut hC.seqs) d__law_take d__law_low
 have d__law_is_row:=zkJ (P:=l.prog) (w:=w) (base:=base) B C (zk5.cut hC.seqs) d__law_is_number
 have d__law_added:=zlL (P:=l.prog) (w:=w) (base:=base) B C (zmq.cut hC.seqs) d__law_plus
 have d__law_scaled:=zkH (P:=l.prog) (w:=w) (base:=base) B C (zk3.cut hC.seqs) d__law_by
 have d__law_pairing:=zjl (P:=l.prog) (w:=w) (base:=base) B C (zjr.cut hC.seqs) d__law_plus d__law_by
 have d_is_row_of:=zmY (P:=l.prog) (w:=w) (base:=base) B C (zno.cut hC.seqs) d_is_row
 have d_rows_by_leads:=zh4 (P:=l.prog) (w:=w) (base:=base) B C (ziR.cut hC.seqs) d_whole_row d_lead_of d_cleared
 have d_after_square:=zjk (P:=l.prog) (w:=w) (base:=base) B C (zjq.cut hC.seqs) d_pairing
 have d__law_is_rows:=zjm (P:=l.prog) (w:=w) (base:=base) B C (zjs.cut hC.seqs) d__law_is_row
 have d__law_square:=zkG (P:=l.prog) (w:=w) (base:=base) B C (zk2.cut hC.seqs) d__law_unit d__law_take d__law_scaled d__law_number d__law_added d__law_blank
 have d_kept_rows:=zmW (P:=l.prog) (w:=w) (base:=base) B C (znm.cut hC.seqs) d_rows_by_leads d_fraction
 have d_is_square:=zmX (P:=l.prog) (w:=w) (base:=base) B C (znn.cut hC.seqs) d_is_row_of
 have d_nought_rows:=zkE (P:=l.prog) (w:=w) (base:=base) B C (zk0.cut hC.seqs) d_rows_by_leads d_kept_rows d_nought_row
 have d_after:=zu2 (P:=l.prog) (w:=w) (base:=base) B C (zvH.cut hC.seqs) d_after_square d_is_square
 have d_back_square:=zkF (P:=l.prog) (w:=w) (base:=base) B C (zk1.cut hC.seqs) d_kept_rows d_is_square d_unit_row d_nought_rows
 have d_law:=zys (P:=l.prog) (w:=w) (base:=base) B C (Fun.cut hC.seqs Fl) d__law_purse d__law_take d__law_square d_back_square d__law_at d__law_unit d__law_is_blank d__law_is_rows d_after d__law_is_row d__law_pairing
 exact d_law
theorem walk {l:PySem.W.OpenLaw} {q:Program} {loose:List Str} {XP:(Str->Option Value)->Heap->Prop} {YP:World->Heap->Prop} {d:DefRec} {K:Params->PySem.W.Frag} (hlaw:∀ ns:List Int,ns.length<=63->zrH [.list (ns.map PyData.int)]=.ok (.bool true)) (hn:l.most=some 63) (hdf:d.params.defaults=[]) (hi:importsNone q=true) (htr:l.prog.given.tree=none)
  (hY:∀ (w:World) (h:Heap),YP w h->(K w.params).In h)
  (F:∀ (w:World) (mg:Str->Option Value) (fa:Addr) (h:Heap),(K w.params).In h->h.Ns mainGlobals mg->mg d.name=some (.ref fa) ->
   ∃ (cl:CL) (fd:FuncData),zmv cl (K w.params)/\(∀ (s:Shared) (u:Value),BindsTo s fd ⟨[u],[]⟩ [("_law_script",u)])/\∀ base:Heap,(zgd (cl.map (·.1)) (K w.params)).In base->base.Ns mainGlobals mg->zk8 l.prog w (zgd (cl.map (·.1)) (K w.params)) mg base (CXe l.prog w) 8 fa fd ["_law_script"] (@spP (zvN cl) (zgd (cl.map (·.1)) (K w.params)) 1 false zrH)) :
  PySem.W.WalkO q loose XP YP l.row.toRowW d [] (fun f vs=>PySem.call f vs) :=
 zrR (k:=8) (x:="_law_script") hlaw hn hdf hi htr ⟨rfl,by decide,by decide,rfl⟩ hY F
end K06
namespace K06
open PySem FL MD
theorem zt8:zar=zbu:=rfl
theorem zr9:zcP=zk6:=rfl
theorem zyF:zgc=zxY:=rfl
theorem zjH:zbx=zf9:=rfl
theorem zoc:zbj=zg9:=rfl
theorem unit_eq:zds=zgF:=rfl
theorem zpM:zcq=zen:=rfl
theorem back_eq:zbW=zga:=rfl
theorem zoB:zer=zrF:=rfl
abbrev E (a0 a1 a2 a3 a4 a5 a6 a7 a8 a9:Sl):En:=[a0,a1,a2,a3,a4,a5,a6,a7,a8,a9]
abbrev V (n:Nat) (way:Int) (A:List (List Rat)) (S c P x6 x7 x8 x9:Sl):En:=E S c P (.val (.int (n:Int))) (.val (.int way)) (.val (zad A)) x6 x7 x8 x9
abbrev U (n:Nat) (A M:List (List Rat)) (S c P x4 x6 x9:Sl):En:=E S c P (.val (.int (n:Int))) x4 (.val (zad A)) x6 (.val (.tuple [.str "back",zad M])) (.val (zad (zat n))) x9
theorem zs5 {F:List D->R (D × List D)} {i:Nat} {f:EF} {ρ ρ1:En} {p p0:Bool} {d0 d v r d' v':D} (h0:ρ[i]?=some (.ow p0 d0)) (hf:f ρ=.ok (v,ρ1)) (hi:ρ1[i]?=some (.ow p d)) (hF:F [d,v]=.ok (r,[d',v'])):zam F [.m i,.v f] ρ=.ok (r,ρ1.set i (.ow p d')):=by
  have hm0:za1 ρ i=.ok d0:=by unfold za1;rw [h0]
  have hm:za1 ρ1 i=.ok d:=by unfold za1;rw [hi]
  unfold zam
  simp only [zmA,hm0,hf,zac,zkY,hm,hF]
  have:=zkV (d:=d) (d':=d') (p:=p) ρ1 0 i hi
  rw [Nat.zero_add] at this
  show R.ok (r,bkL [(i,.ow true d')] 0 ρ1)=_
  rw [this]
theorem zsz {A:List (List Rat)} {n b:Nat} (h:Sq n b A) (hb:b<=40000000) (hn:n<=1000):zby [zad A,.int (n:Int)]=.ok (.bool true):=by
  have k1:zbe "list" (zad A)=.ok (.bool true):=rfl
  have q:zbz [.val (zad A),.val (.int (n:Int))]=.ok (.list [],[.val (zad A),.val (.int (n:Int))]):=by
    unfold zbz
    rw [zda (f0:=zal) (xs:=A) (fun _=>false) zal rfl (by rw [h.len];show _<=1000000;omega) fun r mr=>?_]
    · simp
    · refine ⟨[.val (zal r),.val (.int (n:Int))],rfl,?_,(fun c=>by cases c),zaH trivial⟩
      have ir:=zqr (h.row r mr).1 (h.row r mr).2 hb hn
      rw [<- zoc] at ir
      simp only [FL.zbX,tE,zaf,zaa,eV,zz0,zai,zac,zz1,ir,zlf,Bool.not_true]
  refine zbb (ρ:=[.val (zad A),.val (.int (n:Int))]) rfl ?_
  show zb8 [.val (zad A),.val (.int (n:Int))]=_
  unfold zb8
  have l0:leB 0 lim=true:=by decide
  simp only [zav,zmy,FL.e1,eV,zz0,zac,k1,FL.e2,zc9,zai,List.length_nil,zaI l0,q,eq_nil]
theorem zqs {xs:List Rat} {n j:Nat} (hl:xs.length=n) (hn:n<=1000) (hj:j < n) (h:fq xs j ≠ 0):zbg [zal xs]=.ok (.bool false):=by
  have q:zbh [.val (zal xs)]=.ok (zal (xs.filter fun x=>!decide (x.num=0)),[.val (zal xs)]):=by
    unfold zbh
    rw [zda (f0:=num) (xs:=xs) (fun x=>!decide (x.num=0)) num rfl (by show _<=1000000;omega) fun x mx=>?_]
    · rfl
    · refine ⟨[.val (num x)],rfl,?_,fun _=>rfl,zaH trivial⟩
      have nn:neD (.int x.num) (.int 0)=.ok (.bool (!decide (x.num=0))):=zb3 _ _
      simp only [tB,FL.e2,eV,zz0,eC,zac,zwL,nn]
  have ne:(xs.filter fun x=>!decide (x.num=0)) ≠ []:=fun z=>by
    have:=List.filter_eq_nil_iff.mp z (fq xs j) (by
      rcases zoi (xs:=xs) j with y | y
      · exact absurd y h
      · exact y)
    have hz:(fq xs j).num=0:=by simpa using this
    exact h (Rat.num_eq_zero.mp hz)
  have eq:eqD (zal (xs.filter fun x=>!decide (x.num=0))) (.list [])=.ok (.bool false):=by
    have:=zlV (zkr (xs.filter fun x=>!decide (x.num=0))) (zkr [])
    rw [zol,decide_eq_false ne] at this
    exact this
  refine zbb (ρ:=[.val (zal xs)]) rfl ?_
  show zbU [.val (zal xs)]=_
  unfold zbU
  have l0:leB 0 lim=true:=by decide
  simp only [zav,FL.e2,q,zc9,zai,zac,List.length_nil,zaI l0,eq]
theorem zqR {M:List (List Rat)} {ρ:En} (h:ρ[5]?=some (.val (zad M))) (hl:M.length<=1000):zgg ρ=.ok (zad M,ρ):=by
  unfold zgg
  rw [zaE (f0:=zal) (xs:=M) zal (by simp only [iE,eV,h,zac];rfl) (by show _<=1000000;omega) fun r mr=>?_]
  · rfl
  · exact ⟨[.val (zal r)],rfl,rfl,zaH trivial⟩
theorem zsf {n:Nat} {ρ:En} (h:ρ[3]?=some (.val (.int (n:Int)))) (hb:blk 1 [3] ρ=[.no,.val (.int (n:Int))]) (hn:n<=1000):zgf ρ=.ok (zad (zat n),ρ):=by
  unfold zgf
  rw [zaE (f0:=fun i:Nat=>.int (i:Int)) (xs:=List.range n) (fun i=>zal (zeH n i)) (zh7 hn h) (by rw [List.length_range];show n<=1000000;omega) fun i mi=>?_]
  · unfold zad zat;rw [List.map_map];rfl
  · rw [hb]
    refine ⟨[.val (.int (i:Int)),.val (.int (n:Int))],rfl,?_,zaH trivial⟩
    simp only [zaf,zaa,eV,zz1,zz0,zai,zac,unit_eq,zn4 hn]
theorem zuW {n:Nat} {A M:List (List Rat)} (hA:A.length=n) (h:mulM n A M=zat n) {r:Nat} (hr:r < n):((List.range n).map fun k=>ip n (fq (A.getD r [])) (fq (zgV M k)))=(zat n).getD r []:=by
  rw [<- h]
  unfold mulM
  rw [List.getD_eq_getElem?_getD (l:=A.map _),List.getElem?_map,List.getElem?_eq_getElem (by omega:r < A.length),List.getD_eq_getElem?_getD,List.getElem?_eq_getElem (by omega:r < A.length)]
  rfl
theorem zuY {n b B:Nat} {A M:List (List Rat)} {S c P x4 x6:Sl} {r:Nat} (hA:Sq n b A) (hM:Sq n B M) (h:mulM n A M=zat n) (hn:n<=6) (hB:1<=B) (hb:(n + 1) * (b + B + 1) + 1<=40000000) (hr:r < n) :
    zhM (U n A M S c P x4 x6 (.val (.int (r:Int))))=.ok (.nx,U n A M S c P x4 x6 (.val (.int (r:Int)))):=by
  have i1:ixD (.tuple [.str "back",zad M]) (.int 1)=.ok (zad M):=rfl
  have hro:=hA.row _ (getD_mem (A:=A) (k:=r) (by rw [hA.len];exact hr))
  have xa:=zlM (A:=A) (i:=r) (by rw [hA.len];exact hr)
  have xu:=zlM (A:=zat n) (i:=r) (by rw [zcx];exact hr)
  have q3:zki (U n A M S c P x4 x6 (.val (.int (r:Int))))=.ok (zal ((zat n).getD r []),U n A M S c P x4 x6 (.val (.int (r:Int)))):=by
    unfold zki
    rw [zaE (f0:=fun i:Nat=>.int (i:Int)) (xs:=List.range n) (fun k=>num (ip n (fq (A.getD r [])) (fq (zgV M k)))) (zh7 (by omega) rfl) (by rw [List.length_range];show n<=1000000;omega) fun k mk=>?_]
    · rw [<- zuW hA.len h hr];unfold zal;rw [List.map_map];rfl
    · refine ⟨[.val (.int (k:Int)),(.val (zad A)),(.val (.tuple [.str "back",zad M])),.val (.int (r:Int))],rfl,?_,zaH trivial⟩
      have hk:k < n:=List.mem_range.mp mk
      have q2:zkj [.val (.int (k:Int)),(.val (zad A)),(.val (.tuple [.str "back",zad M])),.val (.int (r:Int))]=.ok (zal (zgV M k),[.val (.int (k:Int)),(.val (zad A)),(.val (.tuple [.str "back",zad M])),.val (.int (r:Int))]):=by
        unfold zkj
        rw [zaE (f0:=zal) (xs:=M) (fun r=>num (fq r k)) rfl (by rw [hM.len];show _<=1000000;omega) fun r mr=>?_]
        · rw [show zal (zgV M k)=.list (M.map fun r=>num (fq r k)) by unfold zal zgV;rw [List.map_map];rfl]
        · refine ⟨[.val (zal r),.val (.int (k:Int))],rfl,?_,zaH trivial⟩
          simp only [FL.e2,eV,zac,zz0,zz1,zxa (xs:=r) (i:=k) (by rw [(hM.row r mr).1];exact hk)]
      have py:=zh2 hro.1 ((zoq M k).trans hM.len) hro.2 (zrg hM hB k) hb
      rw [<- zjH] at py
      simp only [zaf,zaa,FL.e2,eV,zz1,zz0,zac,xa,zai,q2,py]
  have ns:=znY (zkr ((zat n).getD r []))
  unfold zhM
  simp only [sIf,tB,FL.e2,q3,eV,zac,zz1,zz0,xu,ns,sNx,Bool.false_eq_true,if_false]
theorem zsA {n b B:Nat} {A M:List (List Rat)} {S c P x4 x6 x9:Sl} (hA:Sq n b A) (hM:Sq n B M) (h:mulM n A M=zat n) (hn:n<=6) (hB:1<=B) (hb:(n + 1) * (b + B + 1) + 1<=40000000) (n9:Np x9) :
    ∃ y9,Np y9/\zhE (U n A M S c P x4 x6 x9)=.ok (.nx,U n A M S c P x4 x6 y9):=by
  obtain ⟨ρ',e,y9,g9,rfl⟩:=zcO (f:=fun i:Nat=>PyData.int (i:Int)) (g:=gN 9) (b:=zhM)
    (fun _ ρ=>∃ y9,Np y9/\ρ=U n A M S c P x4 x6 y9)
    (List.range n) [] (U n A M S c P x4 x6 x9) ⟨x9,n9,rfl⟩ (by
      rintro pre i post ρ e ⟨y9,h9,rfl⟩
      have hi:i < n:=List.mem_range.mp (by rw [show List.range n=pre ++ i :: post from e];simp)
      exact ⟨_,.nx,by rw [zgx (x:=y9) rfl h9,zac];exact zuY hA hM h hn hB hb hi,.inl rfl,_,zaY _,rfl⟩)
  refine ⟨y9,g9,?_⟩
  unfold zhE zeQ
  rw [zh7 (n:=n) (i:=3) (by omega) rfl,zac]
  exact e
theorem zqb:Pl 0 (.str "back"):=⟨by decide +kernel,by decide +kernel⟩
theorem znP:Pl 0 (.str "blind"):=⟨by decide +kernel,by decide +kernel⟩
theorem zxr {n:Nat} {a:D} (h:Pl n a) (hn:n<=64:=by decide):eqD a a=.ok (.bool true):=by
  rw [zlV h h hn hn,SeqAt.eqv_refl a h.1]
set_option maxHeartbeats 4000000 in
theorem zt6 {n:Nat} {A:List (List Rat)} {way:Int} {S c P x6 x7 x8 x9:Sl} (hn:n<=6) (h1:1<=n) (hA:Sq n 1100 A) (hS:way=1->zvO n A) (hR:way=2->Reg n A) (n6:Np x6) (n7:Np x7) (n8:Np x8) (n9:Np x9) :
    ∃ d y8 y9,Np y8/\Np y9/\(zan (zeI 6 (zeJ 6 zgg))
    (zan (zaC (gN 7) (zaf zbW (zaa (eV 6) zai)))
    (zan (sIf (FL.tOr (tB (e2 neD (eV 6) (eV 5))) (FL.tOr (FL.zbX (tE (e1 (zbe "tuple") (eV 7)))) (tB (e2 neD (e1 zcI (eV 7)) (eC (.int 2)))))) (zav (eC (.bool false))) sNx)
    (sIf (tB (e2 eqD (e2 ixD (eV 7) (eC (.int 0))) (eC (.str "back")))) (zan (sIf (FL.tOr (FL.zbX (tE (zaf zby (zaa (e2 ixD (eV 7) (eC (.int 1))) (zaa (eV 3) zai))))) (FL.tOr (tB (e2 neD (e1 zcI (e2 ixD (eV 7) (eC (.int 1)))) (eV 3))) (tB (e2 eqD (eV 4) (eC (.int 1)))))) (zav (eC (.bool false))) sNx)
    (zan (zeI 8 (zeJ 8 zgf))
    (zan (sIf (FL.tOr (tB (e2 neD (zaf zer (zaa (eV 6) (zaa (e2 ixD (eV 7) (eC (.int 1))) zai))) (eV 8))) (tB (e2 neD (zaf zer (zaa (e2 ixD (eV 7) (eC (.int 1))) (zaa (eV 6) zai))) (eV 8)))) (zav (eC (.bool false))) sNx)
    zhE))) (zan (sIf (FL.tOr (tB (e2 neD (e2 ixD (eV 7) (eC (.int 0))) (eC (.str "blind")))) (FL.tOr (FL.zbX (tE (zaf zbj (zaa (e2 ixD (eV 7) (eC (.int 1))) (zaa (eV 3) zai))))) (FL.tOr (tE (zaf zbg (zaa (e2 ixD (eV 7) (eC (.int 1))) zai))) (tB (e2 eqD (eV 4) (eC (.int 2))))))) (zav (eC (.bool false))) sNx)
    (sIf (tB (e2 neD zhT (zc9 zai))) (zav (eC (.bool false))) sNx)))))) (V n way A S c P x6 x7 x8 x9)=.ok (.nx,V n way A S c P (.val (zad A)) (.val d) y8 y9):=by
  obtain ⟨d,ed,T⟩:=zvB (B:=100136) (T:=2642900) hA h1 hn (by decide) (by decide) (by decide) (by decide) (by decide) (by decide) (by decide)
  rw [<- back_eq] at ed
  have s1:zeI 6 (zeJ 6 zgg) (V n way A S c P x6 x7 x8 x9)=.ok (.nx,V n way A S c P (.val (zad A)) x7 x8 x9):=by
    unfold zeI
    rw [zdM (i:=6) (x:=x6) (zqR rfl (by rw [hA.len];omega)) rfl n6]
    rfl
  have s2:zaC (gN 7) (zaf zbW (zaa (eV 6) zai)) (V n way A S c P (.val (zad A)) x7 x8 x9)=.ok (.nx,V n way A S c P (.val (zad A)) (.val d) x8 x9):=by
    refine zb1 (i:=7) (y:=(d,V n way A S c P (.val (zad A)) x7 x8 x9)) ?_ rfl n7
    simp only [zaf,zaa,eV,zz1,zz0,zai,zac,ed]
  have ne1:=znY (zhn A)
  have n22:neD (.int 2) (.int 2)=.ok (.bool false):=by rw [zb3];rfl
  have sh:∃ a b,d=.tuple [a,b]:=by cases T <;> exact ⟨_,_,rfl⟩
  have s3:sIf (FL.tOr (tB (e2 neD (eV 6) (eV 5))) (FL.tOr (FL.zbX (tE (e1 (zbe "tuple") (eV 7)))) (tB (e2 neD (e1 zcI (eV 7)) (eC (.int 2)))))) (zav (eC (.bool false))) sNx (V n way A S c P (.val (zad A)) (.val d) x8 x9)=.ok (.nx,V n way A S c P (.val (zad A)) (.val d) x8 x9):=by
    obtain ⟨a,b,rfl⟩:=sh
    have k1:zbe "tuple" (.tuple [a,b])=.ok (.bool true):=rfl
    have k2:zcI (.tuple [a,b])=.ok (.int 2):=rfl
    simp only [sIf,FL.tOr,tB,FL.e2,eV,zz1,zz0,zac,ne1,FL.zbX,tE,FL.e1,zlf,eC,Bool.false_eq_true,k1,Bool.not_true,k2,n22,if_false,sNx]
  have l0:leB 0 lim=true:=by decide
  have nn:neD (.int (n:Int)) (.int (n:Int))=.ok (.bool false):=by rw [zb3];simp
  cases T with
  | back M hM m1 m2 =>
    have w1:way ≠ 1:=fun z=>zvO.zwN hA.len hM.len (hS z) m1
    have ew:eqD (.int way) (.int 1)=.ok (.bool false):=by rw [zbp,decide_eq_false w1]
    have i0:ixD (.tuple [.str "back",zad M]) (.int 0)=.ok (.str "back"):=rfl
    have i1:ixD (.tuple [.str "back",zad M]) (.int 1)=.ok (zad M):=rfl
    have es:eqD (.str "back") (.str "back")=.ok (.bool true):=zxr zqb
    have ir:=zsz hM (by decide) (by omega)
    have lM:=zo4 M
    rw [hM.len] at lM
    have hT:(n + 1) * (1100 + 100136 + 1) + 1<=40000000:=Nat.le_trans (Nat.add_le_add_right (Nat.mul_le_mul_right _ (show n + 1<=7 by omega)) 1) (by decide)
    have a1:=zoA hA hM h1 hn (by decide) hT
    have a2:=zoA hM hA h1 hn (by decide) (by rw [show 100136 + 1100 + 1=1100 + 100136 + 1 from rfl];exact hT)
    rw [m1,<- zoB] at a1
    rw [m2,<- zoB] at a2
    have nu:=znY (zhn (zat n))
    obtain ⟨y9,g9,el⟩:=zsA (S:=S) (c:=c) (P:=P) (x4:=.val (.int way)) (x6:=.val (zad A)) hA hM m1 hn (by decide) hT n9
    refine ⟨.tuple [.str "back",zad M],.val (zad (zat n)),y9,zaY _,g9,?_⟩
    rw [zah s1,zah s2,zah s3]
    rw [sIf]
    rw [show tB (e2 eqD (e2 ixD (eV 7) (eC (.int 0))) (eC (.str "back"))) (V n way A S c P (.val (zad A)) (.val (.tuple [.str "back",zad M])) x8 x9)=.ok (true,V n way A S c P (.val (zad A)) (.val (.tuple [.str "back",zad M])) x8 x9) by simp only [tB,FL.e2,eV,zz1,zz0,eC,zac,i0,es],zac,if_pos rfl]
    have u1:sIf (FL.tOr (FL.zbX (tE (zaf zby (zaa (e2 ixD (eV 7) (eC (.int 1))) (zaa (eV 3) zai))))) (FL.tOr (tB (e2 neD (e1 zcI (e2 ixD (eV 7) (eC (.int 1)))) (eV 3))) (tB (e2 eqD (eV 4) (eC (.int 1)))))) (zav (eC (.bool false))) sNx (V n way A S c P (.val (zad A)) (.val (.tuple [.str "back",zad M])) x8 x9)=.ok (.nx,V n way A S c P (.val (zad A)) (.val (.tuple [.str "back",zad M])) x8 x9):=by
      simp only [sIf,FL.tOr,FL.zbX,tE,zaf,zaa,FL.e2,eV,zz1,zz0,eC,zac,i1,zai,ir,zlf,Bool.not_true,tB,FL.e1,Bool.false_eq_true,lM,nn,ew,if_false,sNx]
    have u2:zeI 8 (zeJ 8 zgf) (V n way A S c P (.val (zad A)) (.val (.tuple [.str "back",zad M])) x8 x9)=.ok (.nx,V n way A S c P (.val (zad A)) (.val (.tuple [.str "back",zad M])) (.val (zad (zat n))) x9):=by
      unfold zeI
      rw [zdM (i:=8) (x:=x8) (zsf (n:=n) rfl rfl (by omega)) rfl n8]
      rfl
    have u3:sIf (FL.tOr (tB (e2 neD (zaf zer (zaa (eV 6) (zaa (e2 ixD (eV 7) (eC (.int 1))) zai))) (eV 8))) (tB (e2 neD (zaf zer (zaa (e2 ixD (eV 7) (eC (.int 1))) (zaa (eV 6) zai))) (eV 8)))) (zav (eC (.bool false))) sNx (V n way A S c P (.val (zad A)) (.val (.tuple [.str "back",zad M])) (.val (zad (zat n))) x9)=.ok (.nx,V n way A S c P (.val (zad A)) (.val (.tuple [.str "back",zad M])) (.val (zad (zat n))) x9):=by
      simp only [sIf,FL.tOr,tB,FL.e2,zaf,zaa,eV,zz1,zz0,eC,zac,zai,i1,a1,nu,Bool.false_eq_true,a2,if_false,sNx]
    show zan _ _ (V n way A S c P (.val (zad A)) (.val (.tuple [.str "back",zad M])) x8 x9)=_
    rw [zah u1,zah u2,zah u3]
    exact el
  | blind t lt bt ht hj =>
    obtain ⟨j,jn,hj⟩:=hj
    have w2:way ≠ 2:=fun z=>hj (hR z (fq t) (fun i hi=>ht _ (getD_mem (by rw [hA.len];exact hi))) j jn)
    have ew:eqD (.int way) (.int 2)=.ok (.bool false):=by rw [zbp,decide_eq_false w2]
    have i0:ixD (.tuple [.str "blind",zal t]) (.int 0)=.ok (.str "blind"):=rfl
    have i1:ixD (.tuple [.str "blind",zal t]) (.int 1)=.ok (zal t):=rfl
    have es:eqD (.str "blind") (.str "back")=.ok (.bool false):=by
      rw [zlV znP zqb]
      have:PyData.eqv (.str "blind") (.str "back")=false:=by decide +kernel
      rw [this]
    have ea:neD (.str "blind") (.str "blind")=.ok (.bool false):=znY znP
    have ir:=zqr lt bt (by decide) (by omega)
    rw [<- zoc] at ir
    have ib:=zqs lt (by omega) jn hj
    have hT:(n + 1) * (1100 + 2642900 + 1) + 1<=40000000:=Nat.le_trans (Nat.add_le_add_right (Nat.mul_le_mul_right _ (show n + 1<=7 by omega)) 1) (by decide)
    have pr:∀ r ∈ A,zbx [zal r,zal t]=.ok (num 0):=fun r hr=>by
      have:=zh2 (hA.row r hr).1 lt (hA.row r hr).2 bt hT
      rw [zm4,ht r hr,<- zjH] at this
      exact this
    have n00:neD (.int 0) (.int 0)=.ok (.bool false):=by rw [zb3];rfl
    have nnil:neD (.list []) (.list [])=.ok (.bool false):=rfl
    refine ⟨.tuple [.str "blind",zal t],x8,x9,n8,n9,?_⟩
    rw [zah s1,zah s2,zah s3]
    rw [sIf]
    rw [show tB (e2 eqD (e2 ixD (eV 7) (eC (.int 0))) (eC (.str "back"))) (V n way A S c P (.val (zad A)) (.val (.tuple [.str "blind",zal t])) x8 x9)=.ok (false,V n way A S c P (.val (zad A)) (.val (.tuple [.str "blind",zal t])) x8 x9) by simp only [tB,FL.e2,eV,zz1,zz0,eC,zac,i0,es],zac,if_neg (by simp)]
    have u1:sIf (FL.tOr (tB (e2 neD (e2 ixD (eV 7) (eC (.int 0))) (eC (.str "blind")))) (FL.tOr (FL.zbX (tE (zaf zbj (zaa (e2 ixD (eV 7) (eC (.int 1))) (zaa (eV 3) zai))))) (FL.tOr (tE (zaf zbg (zaa (e2 ixD (eV 7) (eC (.int 1))) zai))) (tB (e2 eqD (eV 4) (eC (.int 2))))))) (zav (eC (.bool false))) sNx (V n way A S c P (.val (zad A)) (.val (.tuple [.str "blind",zal t])) x8 x9)=.ok (.nx,V n way A S c P (.val (zad A)) (.val (.tuple [.str "blind",zal t])) x8 x9):=by
      simp only [sIf,FL.tOr,tB,FL.e2,eV,zz1,zz0,eC,zac,i0,ea,FL.zbX,tE,zaf,zaa,zai,zlf,Bool.false_eq_true,i1,ir,Bool.not_true,ib,ew,if_false,sNx]
    have q4:zhT (V n way A S c P (.val (zad A)) (.val (.tuple [.str "blind",zal t])) x8 x9)=.ok (.list [],V n way A S c P (.val (zad A)) (.val (.tuple [.str "blind",zal t])) x8 x9):=by
      unfold zhT
      rw [zda (f0:=zal) (xs:=A) (fun _=>false) zal rfl (by rw [hA.len];show _<=1000000;omega) fun r mr=>?_]
      · simp
      · refine ⟨[.val (zal r),.val (.tuple [.str "blind",zal t])],rfl,?_,(fun c=>by cases c),zaH trivial⟩
        have iz:ixD (num 0) (.int 0)=.ok (.int 0):=rfl
        simp only [tB,FL.e2,zaf,zaa,eV,zz0,eC,zac,zai,zz1,i1,pr r mr,iz,n00]
    show zan _ _ (V n way A S c P (.val (zad A)) (.val (.tuple [.str "blind",zal t])) x8 x9)=_
    rw [zah u1]
    simp only [sIf,tB,FL.e2,q4,zc9,zai,zac,List.length_nil,zaI l0,nnil,sNx,Bool.false_eq_true,if_false]
theorem zvw (S:Sl) (a:Int) {x2 x3 x4 x5 x6 x7 x8 x9:Sl} (n2:Np x2) (n3:Np x3) (n4:Np x4) (n5:Np x5) (n6:Np x6) (n7:Np x7) (n8:Np x8) (n9:Np x9) :
    ∃ y2 y3 y4 y5 y6 y7 y8 y9,Np y2/\Np y3/\Np y4/\Np y5/\Np y6/\Np y7/\Np y8/\Np y9/\zhL (E S (.val (.int a)) x2 x3 x4 x5 x6 x7 x8 x9)=.ok (.nx,E S (.val (.int a)) y2 y3 y4 y5 y6 y7 y8 y9):=by
  obtain ⟨d,ed,pd⟩:=zr8 a 6 (by decide)
  obtain ⟨k',d1,t1,k0,k3,p1⟩:=zcc pd (by decide) 3 (by decide) (by decide)
  obtain ⟨m,im,m1,m6⟩:∃ m:Int,ixD (.list [.int 4,.int 4,.int 6]) (.int k')=.ok (.int m)/\1<=m/\m<=6:=by
    have:k'=0\/k'=1\/k'=2:=by omega
    rcases this with z | z | z <;> subst z
    · exact ⟨4,rfl,by decide,by decide⟩
    · exact ⟨4,rfl,by decide,by decide⟩
    · exact ⟨6,rfl,by decide,by decide⟩
  obtain ⟨n',d2,t2,n0,nm,p2⟩:=zcc p1 (by decide) m m1 (by omega)
  obtain ⟨n,rfl⟩:∃ n:Nat,n'=(n:Int):=⟨n'.toNat,by omega⟩
  obtain ⟨way,d3,t3,w0,w3,p3⟩:=zcc p2 (by decide) 3 (by decide) (by decide)
  obtain ⟨A,d4,eA,hA,hS,hR,p4⟩:=zpL (n:=n + 1) p3 (by decide) (by omega) (by omega) w0 w3
  rw [<- zr9] at ed
  rw [<- zt8] at t1 t2 t3
  rw [<- zpM] at eA
  have s1:zeJ 2 (zaf zcP (zaa (eV 1) (zaa (eC (.int 6)) zai))) (E S (.val (.int a)) x2 x3 x4 x5 x6 x7 x8 x9)=.ok (.nx,E S (.val (.int a)) (.ow false d) x3 x4 x5 x6 x7 x8 x9) :=
    zdM (i:=2) (y:=(d,E S (.val (.int a)) x2 x3 x4 x5 x6 x7 x8 x9)) (by simp only [zaf,zaa,eV,zz1,zz0,eC,zai,zac,ed]) rfl n2
  have c1:zam zar [.m 2,.v (eC (.int 3))] (E S (.val (.int a)) (.ow false d) x3 x4 x5 x6 x7 x8 x9)=.ok (.int k',E S (.val (.int a)) (.ow false d1) x3 x4 x5 x6 x7 x8 x9):=zfg (i:=2) (p:=false) (d:=d) rfl rfl t1
  have l3:leB 3 lim=true:=by decide
  have cL:(e2 ixD (zc9 (zaa (eC (.int 4)) (zaa (eC (.int 4)) (zaa (eC (.int 6)) zai)))) (zam zar [.m 2,.v (eC (.int 3))])) (E S (.val (.int a)) (.ow false d) x3 x4 x5 x6 x7 x8 x9)=.ok (.int m,E S (.val (.int a)) (.ow false d1) x3 x4 x5 x6 x7 x8 x9):=by
    simp only [FL.e2,zc9,zaa,show ∀ z ρ,eC (.int z) ρ=.ok (.int z,ρ) from fun _ _=>rfl,zai,zac,List.length_cons,List.length_nil,Nat.reduceAdd,zaI l3,c1,im]
  have c2:zam zar [.m 2,.v (e2 ixD (zc9 (zaa (eC (.int 4)) (zaa (eC (.int 4)) (zaa (eC (.int 6)) zai)))) (zam zar [.m 2,.v (eC (.int 3))]))] (E S (.val (.int a)) (.ow false d) x3 x4 x5 x6 x7 x8 x9)=.ok (.int (n:Int),E S (.val (.int a)) (.ow false d2) x3 x4 x5 x6 x7 x8 x9):=zs5 (i:=2) (p:=false) (p0:=false) (d0:=d) (d:=d1) rfl cL rfl t2
  have ad:za8 (.int 1) (.int (n:Int))=.ok (.int ((n + 1:Nat):Int)):=by
    show R.ok (PyData.int (1 + (n:Int)))=_
    rw [show (1 + (n:Int))=((n + 1:Nat):Int) by omega]
  have s2:zaC (gN 3) (e2 za8 (eC (.int 1)) (zam zar [.m 2,.v (e2 ixD (zc9 (zaa (eC (.int 4)) (zaa (eC (.int 4)) (zaa (eC (.int 6)) zai)))) (zam zar [.m 2,.v (eC (.int 3))]))])) (E S (.val (.int a)) (.ow false d) x3 x4 x5 x6 x7 x8 x9)=.ok (.nx,E S (.val (.int a)) (.ow false d2) (.val (.int ((n + 1:Nat):Int))) x4 x5 x6 x7 x8 x9):=by
    refine zb1 (i:=3) (y:=(.int ((n + 1:Nat):Int),E S (.val (.int a)) (.ow false d2) x3 x4 x5 x6 x7 x8 x9)) ?_ rfl n3
    rw [FL.e2,show eC (.int 1) (E S (.val (.int a)) (.ow false d) x3 x4 x5 x6 x7 x8 x9)=.ok (.int 1,E S (.val (.int a)) (.ow false d) x3 x4 x5 x6 x7 x8 x9) from rfl,zac,c2,zac,ad,zac]
  have s3:zaC (gN 4) (zam zar [.m 2,.v (eC (.int 3))]) (E S (.val (.int a)) (.ow false d2) (.val (.int ((n + 1:Nat):Int))) x4 x5 x6 x7 x8 x9)=.ok (.nx,E S (.val (.int a)) (.ow false d3) (.val (.int ((n + 1:Nat):Int))) (.val (.int way)) x5 x6 x7 x8 x9) :=
    zb1 (i:=4) (y:=(.int way,E S (.val (.int a)) (.ow false d3) (.val (.int ((n + 1:Nat):Int))) x4 x5 x6 x7 x8 x9)) (zfg (i:=2) (p:=false) (d:=d2) rfl rfl t3) rfl n4
  have s4:zaC (gN 5) (zam zcq [.m 2,.v (eV 3),.v (eV 4)]) (E S (.val (.int a)) (.ow false d3) (.val (.int ((n + 1:Nat):Int))) (.val (.int way)) x5 x6 x7 x8 x9)=.ok (.nx,E S (.val (.int a)) (.ow false d4) (.val (.int ((n + 1:Nat):Int))) (.val (.int way)) (.val (zad A)) x6 x7 x8 x9) :=
    zb1 (i:=5) (y:=(zad A,E S (.val (.int a)) (.ow false d4) (.val (.int ((n + 1:Nat):Int))) (.val (.int way)) x5 x6 x7 x8 x9)) (zvy (i:=2) (p:=false) (d:=d3) rfl rfl rfl eA) rfl n5
  obtain ⟨td,y8,y9,g8,g9,et⟩:=zt6 (n:=n + 1) (S:=S) (c:=.val (.int a)) (P:=.ow false d4) (by omega) (by omega) hA hS hR n6 n7 n8 n9
  refine ⟨.ow false d4,.val (.int ((n + 1:Nat):Int)),.val (.int way),.val (zad A),.val (zad A),.val td,y8,y9,zwM _,zaY _,zaY _,zaY _,zaY _,zaY _,g8,g9,?_⟩
  unfold zhL
  rw [zah s1,zah s2,zah s3,zah s4]
  exact et
theorem zsB (ns:List Int) (hl:ns.length<=63):zrH [.list (ns.map PyData.int)]=.ok (.bool true):=by
  obtain ⟨a,ea⟩:=zyE ns 2 (by decide) (by decide)
  rw [<- zyF] at ea
  obtain ⟨ρ',e,_⟩:=zcO (f:=fun i:Int=>PyData.int i) (g:=gN 1) (b:=zhL)
    (fun done ρ=>∃ y1 y2 y3 y4 y5 y6 y7 y8 y9,Np y1/\Np y2/\Np y3/\Np y4/\Np y5/\Np y6/\Np y7/\Np y8/\Np y9/\ρ=E (.val (.list (ns.map PyData.int))) y1 y2 y3 y4 y5 y6 y7 y8 y9)
    (cut ns none (some 3) ++ [a]) [] (E (.val (.list (ns.map PyData.int))) .no .no .no .no .no .no .no .no .no) ⟨.no,.no,.no,.no,.no,.no,.no,.no,.no,zbI,zbI,zbI,zbI,zbI,zbI,zbI,zbI,zbI,rfl⟩ (by
      rintro pre i post ρ e ⟨y1,y2,y3,y4,y5,y6,y7,y8,y9,h1,h2,h3,h4,h5,h6,h7,h8,h9,rfl⟩
      obtain ⟨z2,z3,z4,z5,z6,z7,z8,z9,m2,m3,m4,m5,m6,m7,m8,m9,et⟩:=zvw (.val (.list (ns.map PyData.int))) i h2 h3 h4 h5 h6 h7 h8 h9
      exact ⟨_,.nx,by rw [zgx (x:=y1) rfl h1,zac];exact et,.inl rfl,_,z2,z3,z4,z5,z6,z7,z8,z9,zaY _,m2,m3,m4,m5,m6,m7,m8,m9,rfl⟩)
  have l1:leB 1 lim=true:=by decide
  have sl:zlj (.list (ns.map PyData.int)) none (some 3)=.ok (.list ((cut ns none (some 3)).map PyData.int)):=by
    show R.ok (PyData.list (cut (ns.map PyData.int) none (some 3)))=_
    rw [zmR]
  have ad:za8 (.list ((cut ns none (some 3)).map PyData.int)) (.list [.int a])=.ok (.list ((cut ns none (some 3) ++ [a]).map PyData.int)):=by
    show chk (leB (((cut ns none (some 3)).map PyData.int).length + 1) lim) _=_
    rw [zaI (zgP (by
      rw [List.length_map]
      have:(cut ns none (some 3)).length<=ns.length:=by unfold cut;rw [List.length_take,List.length_drop];omega
      show _<=1000000;omega)),List.map_append]
    rfl
  have s1:zka (E (.val (.list (ns.map PyData.int))) .no .no .no .no .no .no .no .no .no)=.ok (.nx,ρ'):=by
    unfold zka zeQ
    have hi:iE (e2 za8 (eSl (eV 0) zi9 (zi8 (eC (.int 3)))) (zc9 (zaa (zaf zgc (zaa (eV 0) (zaa (eC (.int 2)) zai))) zai))) (E (.val (.list (ns.map PyData.int))) .no .no .no .no .no .no .no .no .no)=.ok ((cut ns none (some 3) ++ [a]).map PyData.int,E (.val (.list (ns.map PyData.int))) .no .no .no .no .no .no .no .no .no):=by
      simp only [iE,FL.e2,eSl,eV,zz0,zi9,zi8,eC,zac,sl,zc9,zaa,zaf,zai,ea,List.length_cons,List.length_nil,Nat.reduceAdd,zaI l1,ad,zob]
    rw [hi,zac]
    exact e
  refine zbb (ρ:=ρ') rfl ?_
  show zs8 (E (.val (.list (ns.map PyData.int))) .no .no .no .no .no .no .no .no .no)=_
  unfold zs8
  rw [zah s1]
  rfl
end K06
open PySem PySem.W PyProof.Rows
theorem PySem.W.Fast.tw16316968886293841057 : True := trivial
theorem PySem.W.Fast.tw12482739281571515241 : True := trivial
theorem PySem.W.Fast.tw6463010009511681707 : True := trivial
theorem PySem.W.Fast.tw8899177943089298446 : True := trivial
theorem PySem.W.Fast.tw8857015541243747602 : True := trivial
theorem PySem.W.Fast.tw4634873942066428277 : True := trivial
theorem PySem.W.Fast.tw10937392082629934710 : True := trivial
theorem PySem.W.Fast.tw3088037373103976824 : True := trivial
theorem PySem.W.Fast.tw12303477347451585401 : True := trivial
theorem PySem.W.Fast.tw18221176055489382685 : True := trivial
theorem PySem.W.Fast.tw12350518139281370655 : True := trivial
set_option maxRecDepth 100000 in
set_option maxHeartbeats 0 in
theorem PySem.Challenge.cw_swaprest_k06_squares_back_holds : PySem.Challenge.rw_swaprest_k06_squares_back.Holds := by
 w_on; o_law; k_head; (case hw => w_witness2)
 k_fill
 refine K06.walk (l:=PySem.Challenge.rw_swaprest_k06_squares_back) K06.zsB rfl rfl (by decide +kernel) rfl (fun w h Y => PySem.W.kIn_of Y) ?F
 case F =>
  intro w mg fa h KX G hmg
  refine' K06.all_mk KX G hmg ?oo0 ?oo1 ?oo2 ?oo3 ?oo4 ?oo5 ?oo6 ?oo7 ?oo8 ?oo9 ?oo10 ?oo11 ?oo12 ?oo13 ?oo14 ?oo15 ?oo16 ?oo17 ?oo18 ?oo19 ?oo20 ?oo21 ?oo22 ?oo23 ?oo24 ?oo25 ?oo26 ?oo27 ?oo28 ?oo29 ?oo30 ?oo31 ?oo32 ?oo33 ?oo34 ?oo35 ?oo36 ?oo37 ?oo38 ?oo39 ?oo40 ?oo41 ?oo42 ?oo43 ?oo44 ?oo45 ?oo46 ?oo47 ?oo48 ?oo49 ?oo50 ?oo51 ?oo52 ?oo53 ?oo54 ?oo55 ?oo56 ?oo57 ?oo58 ?oo59 ?oo60 ?oo61 ?oo62 ?oo63 ?oo64
  (case oo0 | oo1 | oo2 | oo3 | oo4 | oo5 | oo6 | oo7 | oo8 | oo9 | oo10 | oo11 | oo12 | oo13 | oo14 | oo15 | oo16 | oo17 | oo18 | oo19 | oo20 | oo21 | oo22 | oo23 | oo24 | oo25 | oo26 | oo27 | oo28 | oo29 | oo30 | oo31 | oo32 | oo33 | oo34 | oo35 | oo36 | oo37 | oo38 | oo39 | oo40 | oo41 => refine' FL.zxd KX G ?Zq ?Zl ?Zc ?Zk; (case Zq => k_is); (case Zl => k_is); (case Zc => k_is); (case Zk => k_is))
  (case oo42 | oo43 | oo44 | oo45 | oo46 | oo47 | oo48 | oo49 | oo50 | oo51 | oo52 | oo53 | oo54 | oo55 | oo56 | oo57 | oo58 | oo59 | oo60 | oo61 | oo62 | oo63 | oo64 => k_is)
